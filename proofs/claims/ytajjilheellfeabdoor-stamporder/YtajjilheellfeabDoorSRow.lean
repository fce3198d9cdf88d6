import Derived.Test.YtajjilheellfeabDoorCodeS
import Derived.ProofKit
import Derived.OpenShut
import Derived.ChangeSame
import Derived.ChangeMaps5
import Derived.Deep.Slices
import Derived.Deep.Strs
namespace Go.Proofs.YtajjilheellfeabDoor
open Go.ChangeShapes Go.WideShapes Go.ChangeAt Go.RowKit
set_option linter.unusedVariables false

/-- A slice of integers that came in: nil, or a row of 'cap' numbers. -/
def IsRow (k : IntKind) (w : World) (a : Option Addr) (len cap : Nat) (zs : List Int) : Prop :=
  (a = none ∧ len = 0 ∧ cap = 0 ∧ zs = []) ∨
  ∃ x, a = some x ∧ len ≤ cap ∧ cap ≤ maxLen ∧ zs.length = cap ∧ (∀ i, i < zs.length → w.cell? (x.add i) = some (.int k (zs.getD i 0))) ∧ ∀ n ∈ zs, (Lit.int k n).wf = true

theorem IsRow.fits {k : IntKind} {w : World} {a : Option Addr} {len cap : Nat} {zs : List Int} (h : IsRow k w a len cap zs) : len ≤ cap ∧ cap ≤ maxLen ∧ (a = none → cap = 0) ∧ zs.length = cap := by
  rcases h with ⟨rfl, rfl, rfl, rfl⟩ | ⟨x, rfl, hl, hm, hz, _⟩
  · exact ⟨Nat.le_refl _, by unfold maxLen; omega, fun _ => rfl, rfl⟩
  · exact ⟨hl, hm, (fun e => by cases e), hz⟩

theorem IsRow.at {k : IntKind} {w : World} {a : Option Addr} {len cap : Nat} {zs : List Int} (h : IsRow k w a len cap zs) :
    len = 0 ∨ ∃ b off, a = some ⟨b, off, none⟩ ∧ ∀ i, i < len → w.cell? ⟨b, off + i, none⟩ = some (.int k (zs.getD i 0)) := by
  rcases h with ⟨rfl, rfl, rfl, rfl⟩ | ⟨x, rfl, hl, hm, hz, hcell, hwz⟩
  · exact .inl rfl
  · by_cases h0 : len = 0
    · exact .inl h0
    · obtain ⟨b, off, spot⟩ := x
      have hc := hcell 0 (by omega)
      have hspot : spot = none := by simpa [Addr.add] using World.cell?_spot hc
      subst hspot
      refine .inr ⟨b, off, rfl, fun i hi => ?_⟩
      have := hcell i (by omega)
      rwa [Addr.add_lit] at this

theorem IsRow.bs {w : World} {a : Option Addr} {len cap : Nat} {zs : List Int} (h : IsRow .u8 w a len cap zs) : Bs w a len (zs.take len) := by
  obtain ⟨f1, f2, _, f3⟩ := h.fits
  have hat := h.at
  refine ⟨by simp; omega, fun z hz => ?_, ?_⟩
  · rcases h with ⟨rfl, rfl, rfl, rfl⟩ | ⟨x, rfl, hl, hm, hz', hcell, hwz⟩
    · simp at hz
    · exact bounds_u8 (hwz z (List.mem_of_mem_take hz))
  · rcases hat with h0 | ⟨b, off, rfl, hc⟩
    · exact .inl h0
    · refine .inr ⟨b, off, rfl, fun i hi => ?_⟩
      rw [hc i hi]
      simp only [List.getD, List.getElem?_take, if_pos hi]
theorem underSt : ∃ f0 f1, Tryd.prog.underlying 23 = some (.struct #[f0, f1]) ∧ f0.type = 3 ∧ f1.type = 3 ∧ f0.offset = 0 ∧ f1.offset = 1 := ⟨_, _, Tryd.underlying23, rfl, rfl, rfl, rfl⟩
theorem cells3 : Tryd.prog.cellsOf 3 = 1 := by kernel_rfl
theorem cellsSt : Tryd.prog.cellsOf 23 = 2 := by kernel_rfl
/-- Two cells that read as a stamp. -/
theorem open_two {H : Type} {enc : TypeId × Value → H} {W : World} {b0 fuel : Nat} {spare : Nat → Bool} {held : Bool} {cs : List Value} {x : DataW H × List MemPlace} (h : DataW.trod enc Tryd.prog W b0 spare held fuel 23 cs = some x) :
    ∃ s n, InI s ∧ InI n ∧ cs = [.int .i64 s, .int .i64 n] := by
  obtain ⟨f0, f1, hu, t0, t1, o0, o1⟩ := underSt
  obtain ⟨y0, y1, q, _, hl, h0, h1⟩ := trod_struct2 hu h
  rw [t0, o0, cells3] at h0
  rw [t1, o1, cells3] at h1
  rw [cellsSt] at hl
  obtain ⟨s, e0, _, w0⟩ := DataW.trod_int Tryd.underlying3 h0
  obtain ⟨n, e1, _, w1⟩ := DataW.trod_int Tryd.underlying3 h1
  refine ⟨s, n, bounds_i64 w0, bounds_i64 w1, ?_⟩
  match cs, hl with
  | [a, b], _ =>
    simp at e0 e1
    rw [e0, e1]
/-- A stamp that came in. -/
theorem open_st {H : Type} {enc : TypeId × Value → H} {W : World} {base b0 : Nat} {spare : Nat → Bool} {held : Bool} {v : Value} {d : DataW H} {p : List MemPlace} (hv : Value.okWide Tryd.prog W .any base 23 v) (h : DataW.Trod enc Tryd.prog W b0 spare held 23 v d p) :
    ∃ s n, (InI s ∧ InI n) ∧ v = .agg #[.int .i64 s, .int .i64 n] := by
  obtain ⟨cs, rfl, hsz, _⟩ : ∃ cs, v = .agg cs ∧ cs.size = Tryd.prog.cellsOf 23 ∧ Row.okWide Tryd.prog W .any base 23 cs := by
    simpa [Value.okWide, Tryd.underlying23] using hv
  obtain ⟨fuel, hf⟩ := h
  obtain ⟨s, n, hs, hn, e⟩ := open_two hf
  refine ⟨s, n, ⟨hs, hn⟩, ?_⟩
  have : cs.toList = [.int .i64 s, .int .i64 n] := e
  congr 1
  apply Array.ext'
  exact this
/-- A text that came in is a list of bytes. -/
theorem sb_of (s : ByteArray) : sb (s.data.toList.map UInt8.toNat) = s := by
  apply ByteArray.ext
  apply Array.ext'
  show ((s.data.toList.map UInt8.toNat).map UInt8.ofNat) = _
  rw [List.map_map]
  have : (UInt8.ofNat ∘ UInt8.toNat) = id := by
    funext x
    simp
  rw [this, List.map_id]
theorem of_sb (s : ByteArray) (hs : s.size ≤ maxLen) : ∃ l, ((∀ x ∈ l, x < 256) ∧ l.length ≤ maxLen) ∧ s = sb l := by
  refine ⟨s.data.toList.map UInt8.toNat, ⟨?_, ?_⟩, (sb_of s).symm⟩
  · intro x hx
    obtain ⟨b, _, rfl⟩ := List.mem_map.1 hx
    exact b.toNat_lt
  · rw [List.length_map]
    exact hs
end Go.Proofs.YtajjilheellfeabDoor
