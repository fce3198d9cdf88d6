import Derived.Test.YtejokaehdfcjlaaGreatDoorL5
import Derived.ProofKit
import Derived.OpenShut
import Derived.ChangeSame
import Derived.ChangeMaps5
import Derived.Deep.Slices
import Derived.Deep.Strs
namespace Go.Proofs.YtejokaehdfcjlaaGreatDoor
set_option maxRecDepth 100000
open Go.ChangeShapes Go.WideShapes Go.ChangeAt Go.RowKit
set_option linter.unusedVariables false

/-- A slice of integers that came in: nil, or a row of 'cap' numbers. -/
def IsRow (k : IntKind) (w : World) (a : Option Addr) (len cap : Nat) (zs : List Int) : Prop :=
  (a = none ∧ len = 0 ∧ cap = 0 ∧ zs = []) ∨
  ∃ x, a = some x ∧ len ≤ cap ∧ cap ≤ maxLen ∧ zs.length = cap ∧ (∀ i, i < zs.length → w.cell? (x.add i) = some (.int k (zs.getD i 0))) ∧ ∀ n ∈ zs, (Lit.int k n).wf = true

theorem IsRow.fits {k : IntKind} {w : World} {a : Option Addr} {len cap : Nat} {zs : List Int} (h : IsRow k w a len cap zs) : len ≤ cap ∧ cap ≤ maxLen ∧ (a = none → cap = 0) ∧ zs.length = cap := by
  rcases h with ⟨rfl, rfl, rfl, rfl⟩ | ⟨x, rfl, hl, hm, hz, _⟩
  · exact ⟨Nat.le_refl _, by unfold maxLen; omega, fun _ => rfl, rfl⟩
  · exact ⟨hl, hm, (fun e => by cases e), hz⟩

theorem IsRow.at {k : IntKind} {w : World} {a : Option Addr} {len cap : Nat} {zs : List Int} (h : IsRow k w a len cap zs) :
    len = 0 ∨ ∃ b off, a = some ⟨b, off, none⟩ ∧ ∀ i, i < len → w.cell? ⟨b, off + i, none⟩ = some (.int k (zs.getD i 0)) := by
  rcases h with ⟨rfl, rfl, rfl, rfl⟩ | ⟨x, rfl, hl, hm, hz, hcell, hwz⟩
  · exact .inl rfl
  · by_cases h0 : len = 0
    · exact .inl h0
    · obtain ⟨b, off, spot⟩ := x
      have hc := hcell 0 (by omega)
      have hspot : spot = none := by simpa [Addr.add] using World.cell?_spot hc
      subst hspot
      refine .inr ⟨b, off, rfl, fun i hi => ?_⟩
      have := hcell i (by omega)
      rwa [Addr.add_lit] at this

theorem IsRow.bs {w : World} {a : Option Addr} {len cap : Nat} {zs : List Int} (h : IsRow .u8 w a len cap zs) : Bs w a len (zs.take len) := by
  obtain ⟨f1, f2, _, f3⟩ := h.fits
  have hat := h.at
  refine ⟨by simp; omega, fun z hz => ?_, ?_⟩
  · rcases h with ⟨rfl, rfl, rfl, rfl⟩ | ⟨x, rfl, hl, hm, hz', hcell, hwz⟩
    · simp at hz
    · exact bounds_u8 (hwz z (List.mem_of_mem_take hz))
  · rcases hat with h0 | ⟨b, off, rfl, hc⟩
    · exact .inl h0
    · refine .inr ⟨b, off, rfl, fun i hi => ?_⟩
      rw [hc i hi]
      simp only [List.getD, List.getElem?_take, if_pos hi]
theorem open_row {H : Type} {enc : TypeId × Value → H} {W : World} {b0 fuel : Nat} {held : Bool} {cs : List Value} {x : DataW H × List MemPlace} (h : DataW.trod enc Tryz.prog W b0 (fun _ => true) held fuel 44 cs = some x) :
    ∃ a len cap zs, cs = [.slice a len cap] ∧ IsRow .u8 W a len cap zs := by
  rcases open_ints Tryz.underlying44 Tryz.underlying5 (by kernel_rfl) h with ⟨rfl, _⟩ | ⟨y, l, c, zs, rfl, _, hl, hm, hz, hdat, hcell, hwz⟩
  · exact ⟨none, 0, 0, [], rfl, .inl ⟨rfl, rfl, rfl, rfl⟩⟩
  · exact ⟨some y, l, c, zs, rfl, .inr ⟨_, rfl, hl, hm, by simpa using hz, hcell, hwz⟩⟩
theorem underSe : ∃ f0 f1 f2 f3 f4, Tryz.prog.underlying 46 = some (.struct #[f0, f1, f2, f3, f4]) ∧ (f0.type = 9 ∧ f1.type = 3 ∧ f2.type = 3 ∧ f3.type = 3 ∧ f4.type = 44) ∧ f0.offset = 0 ∧ f1.offset = 1 ∧ f2.offset = 2 ∧ f3.offset = 3 ∧ f4.offset = 4 := ⟨_, _, _, _, _, Tryz.underlying46, ⟨rfl, rfl, rfl, rfl, rfl⟩, rfl, rfl, rfl, rfl, rfl⟩
theorem cells3 : Tryz.prog.cellsOf 3 = 1 := by kernel_rfl
theorem cellsT : Tryz.prog.cellsOf 9 = 1 := by kernel_rfl
theorem cellsB : Tryz.prog.cellsOf 44 = 1 := by kernel_rfl
theorem cellsSe : Tryz.prog.cellsOf 46 = 5 := by kernel_rfl
/-- A sector that came in. -/
def IsS (w : World) (s : Sec) (a : Option Addr) (n c : Nat) : Prop := Bs w a n s.l ∧ n ≤ c ∧ c ≤ maxLen ∧ (-9223372036854775808 ≤ s.e ∧ s.e ≤ 9223372036854775807) ∧ (-9223372036854775808 ≤ s.q ∧ s.q ≤ 9223372036854775807) ∧ (-9223372036854775808 ≤ s.p ∧ s.p ≤ 9223372036854775807)
/-- Five cells that read as a sector. -/
theorem open_five {H : Type} {enc : TypeId × Value → H} {W : World} {b0 fuel : Nat} {held : Bool} {cs : List Value} {x : DataW H × List MemPlace} (h : DataW.trod enc Tryz.prog W b0 (fun _ => true) held fuel 46 cs = some x) :
    ∃ s a n c, cs = [.string s.T, .int .i64 s.e, .int .i64 s.q, .int .i64 s.p, .slice a n c] ∧ IsS W s a n c := by
  obtain ⟨f0, f1, f2, f3, f4, hu, ⟨t0, t1, t2, t3, t4⟩, o0, o1, o2, o3, o4⟩ := underSe
  obtain ⟨xs, n, _, rfl, hl, hlen, hf⟩ := DataW.trod_struct hu h
  rw [cellsSe] at hl
  match xs, hlen with
  | [y0, y1, y2, y3, y4], _ =>
    have h0 := hf 0 f0 rfl
    have h1 := hf 1 f1 rfl
    have h2 := hf 2 f2 rfl
    have h3 := hf 3 f3 rfl
    have h4 := hf 4 f4 rfl
    rw [t0, o0, cellsT] at h0
    rw [t1, o1, cells3] at h1
    rw [t2, o2, cells3] at h2
    rw [t3, o3, cells3] at h3
    rw [t4, o4, cellsB] at h4
    obtain ⟨T, e0, _⟩ := DataW.trod_string (by kernel_rfl) (h0.trans rfl)
    obtain ⟨e, e1, _, b1⟩ := DataW.trod_int Tryz.underlying3 (h1.trans rfl)
    obtain ⟨q, e2, _, b2⟩ := DataW.trod_int Tryz.underlying3 (h2.trans rfl)
    obtain ⟨p, e3, _, b3⟩ := DataW.trod_int Tryz.underlying3 (h3.trans rfl)
    obtain ⟨a, k, c, zs, e4, r⟩ := open_row (h4.trans rfl)
    refine ⟨⟨T, e, q, p, zs.take k⟩, a, k, c, ?_, r.bs, r.fits.1, r.fits.2.1, bounds_i64 b1, bounds_i64 b2, bounds_i64 b3⟩
    match cs, hl with
    | [x0, x1, x2, x3, x4], _ =>
      simp at e0 e1 e2 e3 e4
      simp only
      rw [e0, e1, e2, e3, e4]
theorem open_sec {H : Type} {enc : TypeId × Value → H} {W : World} {base b0 : Nat} {held : Bool} {v : Value} {d : DataW H} {p : List MemPlace} (hv : Value.okWide Tryz.prog W .any base 46 v) (h : DataW.Trod enc Tryz.prog W b0 (fun _ => true) held 46 v d p) :
    ∃ s a n c, v = .agg #[.string s.T, .int .i64 s.e, .int .i64 s.q, .int .i64 s.p, .slice a n c] ∧ IsS W s a n c := by
  obtain ⟨cs, rfl, hsz, _⟩ : ∃ cs, v = .agg cs ∧ cs.size = Tryz.prog.cellsOf 46 ∧ Row.okWide Tryz.prog W .any base 46 cs := by
    simpa [Value.okWide, Tryz.underlying46] using hv
  obtain ⟨fuel, hf⟩ := h
  obtain ⟨s, a, n, c, e, k⟩ := open_five hf
  refine ⟨s, a, n, c, ?_, k⟩
  congr 1
  apply Array.ext'
  exact e
end Go.Proofs.YtejokaehdfcjlaaGreatDoor
