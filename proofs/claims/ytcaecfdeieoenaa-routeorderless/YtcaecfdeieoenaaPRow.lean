import Derived.Test.YtcaecfdeieoenaaPTxt
import Derived.ProofKit
import Derived.OpenShut
import Derived.ChangeSame
import Derived.ChangeMaps5
import Derived.Deep.Slices
import Derived.Deep.Strs
import Derived.SizedLaws
import Derived.Lib.LaidTab
import Derived.Stop.LaidErr
namespace Go.Proofs.Ytcaecfdeieoenaa
set_option maxRecDepth 100000
open Go.ChangeShapes Go.WideShapes Go.ChangeAt Go.RowKit
set_option linter.unusedVariables false

/-- A slice of integers that came in: nil, or a row of 'cap' numbers. -/
def IsRow (k : IntKind) (w : World) (a : Option Addr) (len cap : Nat) (zs : List Int) : Prop :=
  (a = none ∧ len = 0 ∧ cap = 0 ∧ zs = []) ∨
  ∃ x, a = some x ∧ len ≤ cap ∧ cap ≤ maxLen ∧ zs.length = cap ∧ (∀ i, i < zs.length → w.cell? (x.add i) = some (.int k (zs.getD i 0))) ∧ ∀ n ∈ zs, (Lit.int k n).wf = true

theorem IsRow.fits {k : IntKind} {w : World} {a : Option Addr} {len cap : Nat} {zs : List Int} (h : IsRow k w a len cap zs) : len ≤ cap ∧ cap ≤ maxLen ∧ (a = none → cap = 0) ∧ zs.length = cap := by
  rcases h with ⟨rfl, rfl, rfl, rfl⟩ | ⟨x, rfl, hl, hm, hz, _⟩
  · exact ⟨Nat.le_refl _, by unfold maxLen; omega, fun _ => rfl, rfl⟩
  · exact ⟨hl, hm, (fun e => by cases e), hz⟩

theorem IsRow.at {k : IntKind} {w : World} {a : Option Addr} {len cap : Nat} {zs : List Int} (h : IsRow k w a len cap zs) :
    len = 0 ∨ ∃ b off, a = some ⟨b, off, none⟩ ∧ ∀ i, i < len → w.cell? ⟨b, off + i, none⟩ = some (.int k (zs.getD i 0)) := by
  rcases h with ⟨rfl, rfl, rfl, rfl⟩ | ⟨x, rfl, hl, hm, hz, hcell, hwz⟩
  · exact .inl rfl
  · by_cases h0 : len = 0
    · exact .inl h0
    · obtain ⟨b, off, spot⟩ := x
      have hc := hcell 0 (by omega)
      have hspot : spot = none := by simpa [Addr.add] using World.cell?_spot hc
      subst hspot
      refine .inr ⟨b, off, rfl, fun i hi => ?_⟩
      have := hcell i (by omega)
      rwa [Addr.add_lit] at this

theorem IsRow.bs {w : World} {a : Option Addr} {len cap : Nat} {zs : List Int} (h : IsRow .u8 w a len cap zs) : Bs w a len (zs.take len) := by
  obtain ⟨f1, f2, _, f3⟩ := h.fits
  have hat := h.at
  refine ⟨by simp; omega, fun z hz => ?_, ?_⟩
  · rcases h with ⟨rfl, rfl, rfl, rfl⟩ | ⟨x, rfl, hl, hm, hz', hcell, hwz⟩
    · simp at hz
    · exact bounds_u8 (hwz z (List.mem_of_mem_take hz))
  · rcases hat with h0 | ⟨b, off, rfl, hc⟩
    · exact .inl h0
    · refine .inr ⟨b, off, rfl, fun i hi => ?_⟩
      rw [hc i hi]
      simp only [List.getD, List.getElem?_take, if_pos hi]
theorem underAd : ∃ f0 f1 f2, Try.prog.underlying 30 = some (.struct #[f0, f1, f2]) ∧ f0.type = 3 ∧ f1.type = 28 ∧ f2.type = 28 ∧ f0.offset = 0 ∧ f1.offset = 1 ∧ f2.offset = 2 := ⟨_, _, _, Try.underlying30, rfl, rfl, rfl, rfl, rfl, rfl⟩
theorem underPx : ∃ f0 f1, Try.prog.underlying 32 = some (.struct #[f0, f1]) ∧ f0.type = 30 ∧ f1.type = 3 ∧ f0.offset = 0 ∧ f1.offset = 3 := ⟨_, _, Try.underlying32, rfl, rfl, rfl, rfl⟩
theorem cells3 : Try.prog.cellsOf 3 = 1 := by kernel_rfl
theorem cellsU : Try.prog.cellsOf 28 = 1 := by kernel_rfl
theorem cellsAd : Try.prog.cellsOf 30 = 3 := by kernel_rfl
theorem cellsPx : Try.prog.cellsOf 32 = 4 := by kernel_rfl
theorem inU_of {n : Int} (h : (Lit.int .u64 n).wf = true) : InU n := by
  have := bounds_u64 h
  unfold InU
  omega
/-- Three cells that read as an address. -/
theorem open_three {H : Type} {enc : TypeId × Value → H} {W : World} {b0 fuel : Nat} {spare : Nat → Bool} {held : Bool} {cs : List Value} {x : DataW H × List MemPlace} (h : DataW.trod enc Try.prog W b0 spare held fuel 30 cs = some x) :
    ∃ F H L, InI F ∧ InU H ∧ InU L ∧ cs = [.int .i64 F, .int .u64 H, .int .u64 L] := by
  obtain ⟨f0, f1, f2, hu, t0, t1, t2, o0, o1, o2⟩ := underAd
  obtain ⟨y0, y1, y2, q, _, hl, h0, h1, h2⟩ := Go.Deep.trod_struct3 hu h
  rw [t0, o0, cells3] at h0
  rw [t1, o1, cellsU] at h1
  rw [t2, o2, cellsU] at h2
  rw [cellsAd] at hl
  obtain ⟨F, e0, _, w0⟩ := DataW.trod_int Try.underlying3 h0
  obtain ⟨H', e1, _, w1⟩ := DataW.trod_int Try.underlying28 h1
  obtain ⟨L, e2, _, w2⟩ := DataW.trod_int Try.underlying28 h2
  refine ⟨F, H', L, bounds_i64 w0, inU_of w1, inU_of w2, ?_⟩
  match cs, hl with
  | [a, b, c], _ =>
    simp at e0 e1 e2
    rw [e0, e1, e2]
/-- Four that read as a prefix. -/
theorem open_four {H : Type} {enc : TypeId × Value → H} {W : World} {b0 fuel : Nat} {spare : Nat → Bool} {held : Bool} {cs : List Value} {x : DataW H × List MemPlace} (h : DataW.trod enc Try.prog W b0 spare held fuel 32 cs = some x) :
    ∃ F H L B, (InI F ∧ InU H ∧ InU L ∧ InI B) ∧ cs = [.int .i64 F, .int .u64 H, .int .u64 L, .int .i64 B] := by
  obtain ⟨f0, f1, hu, t0, t1, o0, o1⟩ := underPx
  obtain ⟨y0, y1, q, _, hl, h0, h1⟩ := trod_struct2 hu h
  rw [t0, o0, cellsAd] at h0
  rw [t1, o1, cells3] at h1
  rw [cellsPx] at hl
  obtain ⟨F, H', L, a1, a2, a3, e0⟩ := open_three h0
  obtain ⟨B, e1, _, w1⟩ := DataW.trod_int Try.underlying3 h1
  refine ⟨F, H', L, B, ⟨a1, a2, a3, bounds_i64 w1⟩, ?_⟩
  match cs, hl with
  | [a, b, c, d], _ =>
    simp at e0 e1
    rw [e0.1, e0.2.1, e0.2.2, e1]
theorem open_ad {H : Type} {enc : TypeId × Value → H} {W : World} {base b0 : Nat} {spare : Nat → Bool} {held : Bool} {v : Value} {d : DataW H} {p : List MemPlace} (hv : Value.okWide Try.prog W .any base 30 v) (h : DataW.Trod enc Try.prog W b0 spare held 30 v d p) :
    ∃ F H L, (InI F ∧ InU H ∧ InU L) ∧ v = .agg #[.int .i64 F, .int .u64 H, .int .u64 L] := by
  obtain ⟨cs, rfl, hsz, _⟩ : ∃ cs, v = .agg cs ∧ cs.size = Try.prog.cellsOf 30 ∧ Row.okWide Try.prog W .any base 30 cs := by
    simpa [Value.okWide, Try.underlying30] using hv
  obtain ⟨fuel, hf⟩ := h
  obtain ⟨F, H', L, a1, a2, a3, e⟩ := open_three hf
  refine ⟨F, H', L, ⟨a1, a2, a3⟩, ?_⟩
  have : cs.toList = [.int .i64 F, .int .u64 H', .int .u64 L] := e
  congr 1
  apply Array.ext'
  exact this
theorem open_px {H : Type} {enc : TypeId × Value → H} {W : World} {base b0 : Nat} {spare : Nat → Bool} {held : Bool} {v : Value} {d : DataW H} {p : List MemPlace} (hv : Value.okWide Try.prog W .any base 32 v) (h : DataW.Trod enc Try.prog W b0 spare held 32 v d p) :
    ∃ F H L B, (InI F ∧ InU H ∧ InU L ∧ InI B) ∧ v = .agg #[.int .i64 F, .int .u64 H, .int .u64 L, .int .i64 B] := by
  obtain ⟨cs, rfl, hsz, _⟩ : ∃ cs, v = .agg cs ∧ cs.size = Try.prog.cellsOf 32 ∧ Row.okWide Try.prog W .any base 32 cs := by
    simpa [Value.okWide, Try.underlying32] using hv
  obtain ⟨fuel, hf⟩ := h
  obtain ⟨F, H', L, B, a1, e⟩ := open_four hf
  refine ⟨F, H', L, B, a1, ?_⟩
  have : cs.toList = [.int .i64 F, .int .u64 H', .int .u64 L, .int .i64 B] := e
  congr 1
  apply Array.ext'
  exact this
end Go.Proofs.Ytcaecfdeieoenaa
