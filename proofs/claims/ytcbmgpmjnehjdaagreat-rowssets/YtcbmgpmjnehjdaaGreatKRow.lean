import Derived.Test.YtcbmgpmjnehjdaaGreatABytes
import Derived.ProofKit
import Derived.OpenShut
import Derived.ChangeSame
import Derived.Deep.Slices
import Derived.Deep.Strs
import Derived.SizedLaws
import Derived.Test.YtcbmgpmjnehjdaaGreatRF
import Derived.Test.YtcbmgpmjnehjdaaGreatSI
import Derived.Deep.Grids
namespace Go.Proofs.YtcbmgpmjnehjdaaGreat
set_option maxRecDepth 100000
open Go.ChangeShapes Go.WideShapes Go.ChangeAt Go.RowKit
set_option linter.unusedVariables false

/-- A slice of integers that came in: nil, or a row of 'cap' numbers. -/
def IsRow (k : IntKind) (w : World) (a : Option Addr) (len cap : Nat) (zs : List Int) : Prop :=
  (a = none ∧ len = 0 ∧ cap = 0 ∧ zs = []) ∨
  ∃ x, a = some x ∧ len ≤ cap ∧ cap ≤ maxLen ∧ zs.length = cap ∧ (∀ i, i < zs.length → w.cell? (x.add i) = some (.int k (zs.getD i 0))) ∧ ∀ n ∈ zs, (Lit.int k n).wf = true

theorem IsRow.fits {k : IntKind} {w : World} {a : Option Addr} {len cap : Nat} {zs : List Int} (h : IsRow k w a len cap zs) : len ≤ cap ∧ cap ≤ maxLen ∧ (a = none → cap = 0) ∧ zs.length = cap := by
  rcases h with ⟨rfl, rfl, rfl, rfl⟩ | ⟨x, rfl, hl, hm, hz, _⟩
  · exact ⟨Nat.le_refl _, by unfold maxLen; omega, fun _ => rfl, rfl⟩
  · exact ⟨hl, hm, (fun e => by cases e), hz⟩

theorem IsRow.at {k : IntKind} {w : World} {a : Option Addr} {len cap : Nat} {zs : List Int} (h : IsRow k w a len cap zs) :
    len = 0 ∨ ∃ b off, a = some ⟨b, off, none⟩ ∧ ∀ i, i < len → w.cell? ⟨b, off + i, none⟩ = some (.int k (zs.getD i 0)) := by
  rcases h with ⟨rfl, rfl, rfl, rfl⟩ | ⟨x, rfl, hl, hm, hz, hcell, hwz⟩
  · exact .inl rfl
  · by_cases h0 : len = 0
    · exact .inl h0
    · obtain ⟨b, off, spot⟩ := x
      have hc := hcell 0 (by omega)
      have hspot : spot = none := by simpa [Addr.add] using World.cell?_spot hc
      subst hspot
      refine .inr ⟨b, off, rfl, fun i hi => ?_⟩
      have := hcell i (by omega)
      rwa [Addr.add_lit] at this

theorem IsRow.bs {w : World} {a : Option Addr} {len cap : Nat} {zs : List Int} (h : IsRow .u8 w a len cap zs) : Bs w a len (zs.take len) := by
  obtain ⟨f1, f2, _, f3⟩ := h.fits
  have hat := h.at
  refine ⟨by simp; omega, fun z hz => ?_, ?_⟩
  · rcases h with ⟨rfl, rfl, rfl, rfl⟩ | ⟨x, rfl, hl, hm, hz', hcell, hwz⟩
    · simp at hz
    · exact bounds_u8 (hwz z (List.mem_of_mem_take hz))
  · rcases hat with h0 | ⟨b, off, rfl, hc⟩
    · exact .inl h0
    · refine .inr ⟨b, off, rfl, fun i hi => ?_⟩
      rw [hc i hi]
      simp only [List.getD, List.getElem?_take, if_pos hi]
theorem open_bytes {H : Type} {enc : TypeId × Value → H} {W : World} {b0 fuel : Nat} {held : Bool} {cs : List Value} {x : DataW H × List MemPlace} (h : DataW.trod enc Tryz.prog W b0 (fun _ => true) held fuel 52 cs = some x) (hw : ∀ n ∈ x.1.weights Tryz.prog 52, n ≤ reachBytes) :
    ∃ a len cap zs, cs = [.slice a len cap] ∧ IsRow .u8 W a len cap zs ∧ len ≤ 140737488351232 ∧ cap ≤ 140737488355328 := by
  rcases open_ints Tryz.underlying52 Tryz.underlying5 (by kernel_rfl) h with ⟨rfl, _⟩ | ⟨y, l, c, zs, rfl, _, hl, hm, hz, hdat, hcell, hwz⟩
  · exact ⟨none, 0, 0, [], rfl, .inl ⟨rfl, rfl, rfl, rfl⟩, by omega, by omega⟩
  · refine ⟨some y, l, c, zs, rfl, .inr ⟨_, rfl, hl, hm, by simpa using hz, hcell, hwz⟩, ?_⟩
    subst hdat
    have hs := hw (((lits (H := H) .u8 (zs.take l)).length + (lits (H := H) .u8 (zs.drop l)).length) * Tryz.prog.bytesOf 5) (by simp only [DataW.weights, Tryz.underlying52]; exact List.mem_cons_self)
    rw [show Tryz.prog.bytesOf 5 = 1 by kernel_rfl, Nat.mul_one] at hs
    have hr : reachBytes = 140737488351232 := by decide
    have hlen : l ≤ zs.length := by simp at hz; omega
    simp only [lits, List.length_map, List.length_take, List.length_drop] at hs
    have hz2 : zs.length = c := by simpa using hz
    omega
theorem sized_at {H : Type} {P : Program} {ts : List TypeId} {ds : List (DataW H)} {j : Nat} {t : TypeId} {d : DataW H} (h : (DataW.weightsEach P ts ds).all (· ≤ reachBytes) = true) (ht : ts[j]? = some t) (hd : ds[j]? = some d) : ∀ n ∈ d.weights P t, n ≤ reachBytes := fun n hn => by
  have := List.all_eq_true.1 h _ (DataW.weights_mem_each ht hd n hn)
  simpa using this
end Go.Proofs.YtcbmgpmjnehjdaaGreat
namespace Go.Proofs.YtcbmgpmjnehjdaaGreat
set_option maxRecDepth 100000
open Go.ChangeShapes Go.WideShapes Go.ChangeAt Go.RowKit Go.Deep
set_option linter.unusedVariables false

theorem underAd : ∃ f0 f1 f2, Tryz.prog.underlying 119 = some (.struct #[f0, f1, f2]) ∧ f0.type = 3 ∧ f1.type = 60 ∧ f2.type = 60 ∧ f0.offset = 0 ∧ f1.offset = 1 ∧ f2.offset = 2 := ⟨_, _, _, Tryz.underlying119, rfl, rfl, rfl, rfl, rfl, rfl⟩
theorem underPx : ∃ f0 f1, Tryz.prog.underlying 121 = some (.struct #[f0, f1]) ∧ f0.type = 119 ∧ f1.type = 3 ∧ f0.offset = 0 ∧ f1.offset = 3 := ⟨_, _, Tryz.underlying121, rfl, rfl, rfl, rfl⟩
theorem cells3 : Tryz.prog.cellsOf 3 = 1 := by kernel_rfl
theorem cellsU : Tryz.prog.cellsOf 60 = 1 := by kernel_rfl
theorem cellsAd : Tryz.prog.cellsOf 119 = 3 := by kernel_rfl
theorem cellsPx : Tryz.prog.cellsOf 121 = 4 := by kernel_rfl
theorem inU_of {n : Int} (h : (Lit.int .u64 n).wf = true) : InU n := by
  have := bounds_u64 h
  unfold InU
  omega
/-- Three cells that read as an address. -/
theorem open_three {H : Type} {enc : TypeId × Value → H} {W : World} {b0 fuel : Nat} {spare : Nat → Bool} {held : Bool} {cs : List Value} {x : DataW H × List MemPlace} (h : DataW.trod enc Tryz.prog W b0 spare held fuel 119 cs = some x) :
    ∃ F H L, InI F ∧ InU H ∧ InU L ∧ cs = [.int .i64 F, .int .u64 H, .int .u64 L] := by
  obtain ⟨f0, f1, f2, hu, t0, t1, t2, o0, o1, o2⟩ := underAd
  obtain ⟨y0, y1, y2, q, _, hl, h0, h1, h2⟩ := Go.Deep.trod_struct3 hu h
  rw [t0, o0, cells3] at h0
  rw [t1, o1, cellsU] at h1
  rw [t2, o2, cellsU] at h2
  rw [cellsAd] at hl
  obtain ⟨F, e0, _, w0⟩ := DataW.trod_int Tryz.underlying3 h0
  obtain ⟨H', e1, _, w1⟩ := DataW.trod_int Tryz.underlying60 h1
  obtain ⟨L, e2, _, w2⟩ := DataW.trod_int Tryz.underlying60 h2
  refine ⟨F, H', L, bounds_i64 w0, inU_of w1, inU_of w2, ?_⟩
  match cs, hl with
  | [a, b, c], _ =>
    simp at e0 e1 e2
    rw [e0, e1, e2]
/-- Four that read as a prefix. -/
theorem open_four {H : Type} {enc : TypeId × Value → H} {W : World} {b0 fuel : Nat} {spare : Nat → Bool} {held : Bool} {cs : List Value} {x : DataW H × List MemPlace} (h : DataW.trod enc Tryz.prog W b0 spare held fuel 121 cs = some x) :
    ∃ F H L B, (InI F ∧ InU H ∧ InU L ∧ InI B) ∧ cs = [.int .i64 F, .int .u64 H, .int .u64 L, .int .i64 B] := by
  obtain ⟨f0, f1, hu, t0, t1, o0, o1⟩ := underPx
  obtain ⟨y0, y1, q, _, hl, h0, h1⟩ := trod_struct2 hu h
  rw [t0, o0, cellsAd] at h0
  rw [t1, o1, cells3] at h1
  rw [cellsPx] at hl
  obtain ⟨F, H', L, a1, a2, a3, e0⟩ := open_three h0
  obtain ⟨B, e1, _, w1⟩ := DataW.trod_int Tryz.underlying3 h1
  refine ⟨F, H', L, B, ⟨a1, a2, a3, bounds_i64 w1⟩, ?_⟩
  match cs, hl with
  | [a, b, c, d], _ =>
    simp at e0 e1
    rw [e0.1, e0.2.1, e0.2.2, e1]
theorem cells_four {w : World} {base : Nat} {x : Addr} {cs : List Value} (h : w.cells? base x 4 = some cs) : ∃ c0 c1 c2 c3, cs = [c0, c1, c2, c3] ∧ w.cell? (x.add 0) = some c0 ∧ w.cell? (x.add 1) = some c1 ∧ w.cell? (x.add 2) = some c2 ∧ w.cell? (x.add 3) = some c3 := by
  unfold World.cells? at h
  split at h
  · simp only [List.range, List.range.loop, List.mapM_cons, List.mapM_nil, Option.bind_eq_bind, Option.pure_def, Option.bind_eq_some_iff] at h
    obtain ⟨c0, h0, y, ⟨c1, h1, y1, ⟨c2, h2, y2, ⟨c3, h3, u, e4, e3⟩, e2⟩, e1⟩, e0⟩ := h
    simp at e0 e1 e2 e3 e4
    subst e4 e3 e2 e1 e0
    exact ⟨c0, c1, c2, c3, rfl, h0, h1, h2, h3⟩
  · cases h
theorem cellsB15 : Tryz.prog.cellsOf 52 = 1 := by kernel_rfl
theorem vs_arg {w : World} {a : Option Addr} {len cap : Nat} {zs : List Int} (h : IsRow .u8 w a len cap zs) : Vs w (fun x => x < w.heap.size) a len cap (zs.take len) :=
  ⟨h.bs, h.fits.1, h.fits.2.1, h.fits.2.2.1, fun ad e hn => (Bs.at_block h.bs e hn).1⟩
theorem open_by {H : Type} {enc : TypeId × Value → H} {W : World} {b0 fuel : Nat} {held : Bool} {cs : List Value} {x : DataW H × List MemPlace} (h : DataW.trod enc Tryz.prog W b0 (fun _ => true) held fuel 52 cs = some x) (hw : ∀ n ∈ x.1.weights Tryz.prog 52, n ≤ reachBytes) :
    ∃ a n c zs, cs = [.slice a n c] ∧ Vs W (fun x => x < W.heap.size) a n c zs ∧ n ≤ 140737488351232 := by
  rcases open_ints Tryz.underlying52 Tryz.underlying5 (by kernel_rfl) h with ⟨rfl, _⟩ | ⟨y, l, c, zs, rfl, _, hl, hm, hz, hdat, hcell, hwz⟩
  · exact ⟨none, 0, 0, [], rfl, vs_none _ _, by omega⟩
  · refine ⟨some y, l, c, zs.take l, rfl, vs_arg (.inr ⟨_, rfl, hl, hm, by simpa using hz, hcell, hwz⟩), ?_⟩
    subst hdat
    have hs := hw (((lits (H := H) .u8 (zs.take l)).length + (lits (H := H) .u8 (zs.drop l)).length) * Tryz.prog.bytesOf 5) (by simp only [DataW.weights, Tryz.underlying52]; exact List.mem_cons_self)
    rw [show Tryz.prog.bytesOf 5 = 1 by kernel_rfl, Nat.mul_one] at hs
    have hr : reachBytes = 140737488351232 := by decide
    have hlen : l ≤ zs.length := by simp at hz; omega
    simp only [lits, List.length_map, List.length_take, List.length_drop] at hs
    omega
/-! A row that came in. -/
theorem underRw : ∃ f0 f1, Tryz.prog.underlying 54 = some (.struct #[f0, f1]) ∧ f0.type = 52 ∧ f1.type = 52 ∧ f0.offset = 0 ∧ f1.offset = 1 := ⟨_, _, Tryz.underlying54, rfl, rfl, rfl, rfl⟩
theorem cellsRw : Tryz.prog.cellsOf 54 = 2 := by kernel_rfl
theorem open_rwc {H : Type} {enc : TypeId × Value → H} {W : World} {b0 fuel : Nat} {held : Bool} {cs : List Value} {x : DataW H × List MemPlace} (h : DataW.trod enc Tryz.prog W b0 (fun _ => true) held fuel 54 cs = some x) (hw : ∀ n ∈ x.1.weights Tryz.prog 54, n ≤ reachBytes) :
    ∃ ka kn kc kz va vn vc vz, cs = [.slice ka kn kc, .slice va vn vc] ∧ (Vs W (fun x => x < W.heap.size) ka kn kc kz ∧ kn ≤ 140737488351232) ∧ (Vs W (fun x => x < W.heap.size) va vn vc vz ∧ vn ≤ 140737488351232) := by
  obtain ⟨f0, f1, hu, t0, t1, o0, o1⟩ := underRw
  obtain ⟨y0, y1, q, rfl, hl, h0, h1⟩ := trod_struct2 hu h
  rw [t0, o0, cellsB15] at h0
  rw [t1, o1, cellsB15] at h1
  rw [cellsRw] at hl
  obtain ⟨a0, n0, c0, z0, e0, r0, l0⟩ := open_by h0 (fun n hn => hw n (by
    simp only [DataW.weights, hu]
    simp [DataW.weightsEach, t0, t1, hn]))
  obtain ⟨a1, n1, c1, z1, e1, r1, l1⟩ := open_by h1 (fun n hn => hw n (by
    simp only [DataW.weights, hu]
    simp [DataW.weightsEach, t0, t1, hn]))
  refine ⟨a0, n0, c0, z0, a1, n1, c1, z1, ?_, ⟨r0, l0⟩, r1, l1⟩
  match cs, hl with
  | [x0, x1], _ =>
    simp at e0 e1
    rw [e0, e1]
theorem open_rw {H : Type} {enc : TypeId × Value → H} {W : World} {base b0 : Nat} {held : Bool} {v : Value} {d : DataW H} {p : List MemPlace} (hv : Value.okWide Tryz.prog W .any base 54 v) (h : DataW.Trod enc Tryz.prog W b0 (fun _ => true) held 54 v d p) (hw : ∀ n ∈ d.weights Tryz.prog 54, n ≤ reachBytes) :
    ∃ ka kn kc kz va vn vc vz, v = .agg #[.slice ka kn kc, .slice va vn vc] ∧ (Vs W (fun x => x < W.heap.size) ka kn kc kz ∧ kn ≤ 140737488351232) ∧ (Vs W (fun x => x < W.heap.size) va vn vc vz ∧ vn ≤ 140737488351232) := by
  obtain ⟨cs, rfl, hsz, _⟩ : ∃ cs, v = .agg cs ∧ cs.size = Tryz.prog.cellsOf 54 ∧ Row.okWide Tryz.prog W .any base 54 cs := by
    simpa [Value.okWide, Tryz.underlying54] using hv
  obtain ⟨fuel, hf⟩ := h
  obtain ⟨ka, kn, kc, kz, va, vn, vc, vz, e, r0, r1⟩ := open_rwc hf hw
  refine ⟨ka, kn, kc, kz, va, vn, vc, vz, ?_, r0, r1⟩
  have : cs.toList = [.slice ka kn kc, .slice va vn vc] := e
  congr 1
  apply Array.ext'
  exact this
/-! A lane that came in. -/
theorem underSt : ∃ f0 f1, Tryz.prog.underlying 62 = some (.struct #[f0, f1]) ∧ f0.type = 3 ∧ f1.type = 3 ∧ f0.offset = 0 ∧ f1.offset = 1 := ⟨_, _, Tryz.underlying62, rfl, rfl, rfl, rfl⟩
theorem cellsSt : Tryz.prog.cellsOf 62 = 2 := by kernel_rfl
theorem open_stc {H : Type} {enc : TypeId × Value → H} {W : World} {b0 fuel : Nat} {spare : Nat → Bool} {held : Bool} {cs : List Value} {x : DataW H × List MemPlace} (h : DataW.trod enc Tryz.prog W b0 spare held fuel 62 cs = some x) :
    ∃ s n, (InI s ∧ InI n) ∧ cs = [.int .i64 s, .int .i64 n] := by
  obtain ⟨f0, f1, hu, t0, t1, o0, o1⟩ := underSt
  obtain ⟨y0, y1, q, _, hl, h0, h1⟩ := trod_struct2 hu h
  rw [t0, o0, cells3] at h0
  rw [t1, o1, cells3] at h1
  rw [cellsSt] at hl
  obtain ⟨s, e0, _, w0⟩ := DataW.trod_int Tryz.underlying3 h0
  obtain ⟨n, e1, _, w1⟩ := DataW.trod_int Tryz.underlying3 h1
  refine ⟨s, n, ⟨bounds_i64 w0, bounds_i64 w1⟩, ?_⟩
  match cs, hl with
  | [x0, x1], _ =>
    simp at e0 e1
    rw [e0, e1]
theorem underLn : ∃ f0 f1 f2 f3 f4 f5 f6, Tryz.prog.underlying 64 = some (.struct #[f0, f1, f2, f3, f4, f5, f6]) ∧ (f0.type = 52 ∧ f1.type = 3 ∧ f2.type = 3 ∧ f3.type = 3 ∧ f4.type = 60 ∧ f5.type = 60 ∧ f6.type = 62) ∧ f0.offset = 0 ∧ f1.offset = 1 ∧ f2.offset = 2 ∧ f3.offset = 3 ∧ f4.offset = 4 ∧ f5.offset = 5 ∧ f6.offset = 6 := ⟨_, _, _, _, _, _, _, Tryz.underlying64, ⟨rfl, rfl, rfl, rfl, rfl, rfl, rfl⟩, rfl, rfl, rfl, rfl, rfl, rfl, rfl⟩
theorem cellsLn : Tryz.prog.cellsOf 64 = 8 := by kernel_rfl
theorem open_lnc {H : Type} {enc : TypeId × Value → H} {W : World} {b0 fuel : Nat} {held : Bool} {cs : List Value} {x : DataW H × List MemPlace} (h : DataW.trod enc Tryz.prog W b0 (fun _ => true) held fuel 64 cs = some x) (hw : ∀ n ∈ x.1.weights Tryz.prog 64, n ≤ reachBytes) :
    ∃ a m c k S C N D E s n, cs = [.slice a m c, .int .i64 S, .int .i64 C, .int .i64 N, .int .u64 D, .int .u64 E, .int .i64 s, .int .i64 n] ∧ (Vs W (fun x => x < W.heap.size) a m c k ∧ m ≤ 140737488351232) ∧ (i64r S ∧ i64r C ∧ i64r N ∧ u64r D ∧ u64r E ∧ i64r s ∧ i64r n) := by
  obtain ⟨f0, f1, f2, f3, f4, f5, f6, hu, ⟨t0, t1, t2, t3, t4, t5, t6⟩, o0, o1, o2, o3, o4, o5, o6⟩ := underLn
  obtain ⟨xs, n, _, rfl, hl, hlen, hf⟩ := DataW.trod_struct hu h
  rw [cellsLn] at hl
  match xs, hlen with
  | [y0, y1, y2, y3, y4, y5, y6], _ =>
    have h0 := hf 0 f0 rfl
    have h1 := hf 1 f1 rfl
    have h2 := hf 2 f2 rfl
    have h3 := hf 3 f3 rfl
    have h4 := hf 4 f4 rfl
    have h5 := hf 5 f5 rfl
    have h6 := hf 6 f6 rfl
    rw [t0, o0, cellsB15] at h0
    rw [t1, o1, cells3] at h1
    rw [t2, o2, cells3] at h2
    rw [t3, o3, cells3] at h3
    rw [t4, o4, cellsU] at h4
    rw [t5, o5, cellsU] at h5
    rw [t6, o6, cellsSt] at h6
    obtain ⟨a, m, c, k, e0, r0, l0⟩ := open_by (h0.trans rfl) (fun n hn => hw n (by
      simp only [DataW.weights, hu]
      simp [DataW.weightsEach, t0, t1, t2, t3, t4, t5, t6, hn]))
    obtain ⟨S, e1, _, w1⟩ := DataW.trod_int Tryz.underlying3 (h1.trans rfl)
    obtain ⟨C, e2, _, w2⟩ := DataW.trod_int Tryz.underlying3 (h2.trans rfl)
    obtain ⟨N, e3, _, w3⟩ := DataW.trod_int Tryz.underlying3 (h3.trans rfl)
    obtain ⟨D, e4, _, w4⟩ := DataW.trod_int Tryz.underlying60 (h4.trans rfl)
    obtain ⟨E, e5, _, w5⟩ := DataW.trod_int Tryz.underlying60 (h5.trans rfl)
    obtain ⟨s, n, w6, e6⟩ := open_stc (h6.trans rfl)
    refine ⟨a, m, c, k, S, C, N, D, E, s, n, ?_, ⟨r0, l0⟩, bounds_i64 w1, bounds_i64 w2, bounds_i64 w3, inU_of w4, inU_of w5, w6.1, w6.2⟩
    match cs, hl with
    | [x0, x1, x2, x3, x4, x5, x6, x7], _ =>
      simp at e0 e1 e2 e3 e4 e5 e6
      rw [e0, e1, e2, e3, e4, e5, e6.1, e6.2]
theorem open_ln {H : Type} {enc : TypeId × Value → H} {W : World} {base b0 : Nat} {held : Bool} {v : Value} {d : DataW H} {p : List MemPlace} (hv : Value.okWide Tryz.prog W .any base 64 v) (h : DataW.Trod enc Tryz.prog W b0 (fun _ => true) held 64 v d p) (hw : ∀ n ∈ d.weights Tryz.prog 64, n ≤ reachBytes) :
    ∃ a m c k S C N D E s n, v = .agg #[.slice a m c, .int .i64 S, .int .i64 C, .int .i64 N, .int .u64 D, .int .u64 E, .int .i64 s, .int .i64 n] ∧ (Vs W (fun x => x < W.heap.size) a m c k ∧ m ≤ 140737488351232) ∧ (i64r S ∧ i64r C ∧ i64r N ∧ u64r D ∧ u64r E ∧ i64r s ∧ i64r n) := by
  obtain ⟨cs, rfl, hsz, _⟩ : ∃ cs, v = .agg cs ∧ cs.size = Tryz.prog.cellsOf 64 ∧ Row.okWide Tryz.prog W .any base 64 cs := by
    simpa [Value.okWide, Tryz.underlying64] using hv
  obtain ⟨fuel, hf⟩ := h
  obtain ⟨a, m, c, k, S, C, N, D, E, s, n, e, r0, r1⟩ := open_lnc hf hw
  refine ⟨a, m, c, k, S, C, N, D, E, s, n, ?_, r0, r1⟩
  have : cs.toList = [.slice a m c, .int .i64 S, .int .i64 C, .int .i64 N, .int .u64 D, .int .u64 E, .int .i64 s, .int .i64 n] := e
  congr 1
  apply Array.ext'
  exact this
/-! A peer that came in. -/
theorem open_pxs {H : Type} {enc : TypeId × Value → H} {w : World} {base : Nat} {spare : Nat → Bool} {held : Bool} {fuel : Nat} {cs : List Value} {x : DataW H × List MemPlace}
    (h : DataW.trod enc Tryz.prog w base spare held fuel 55 cs = some x) : ∃ a n c ps, cs = [.slice a n c] ∧ Ps w a n ps ∧ n ≤ c ∧ c ≤ maxLen ∧ (a = none → c = 0) := by
  rcases open_slice Tryz.underlying55 h with ⟨rfl, _⟩ | ⟨x, n, c, m, nn, D, Pl, rfl, _, hl, hm, hme, _, hel⟩
  · exact ⟨none, 0, 0, [], rfl, ⟨rfl, by simp, .inl rfl⟩, Nat.le_refl _, by unfold maxLen; omega, fun _ => rfl⟩
  · have hnm : n ≤ m := by rw [hme]; split <;> omega
    have key : ∀ i, i < n → ∃ y : Px, (w.cell? ((x.add (i * 4)).add 0) = some (.int .i64 y.F) ∧ w.cell? ((x.add (i * 4)).add 1) = some (.int .u64 y.H) ∧ w.cell? ((x.add (i * 4)).add 2) = some (.int .u64 y.L) ∧ w.cell? ((x.add (i * 4)).add 3) = some (.int .i64 y.B)) ∧ y.ok := by
      intro i hi
      obtain ⟨cs', h1, h2⟩ := hel i (by omega)
      rw [cellsPx] at h1
      obtain ⟨c0, c1, c2, c3, rfl, g0, g1, g2, g3⟩ := cells_four h1
      obtain ⟨F, H', L, B, hh, e⟩ := open_four h2
      simp at e
      obtain ⟨rfl, rfl, rfl, rfl⟩ := e
      exact ⟨⟨F, H', L, B⟩, ⟨g0, g1, g2, g3⟩, ⟨hh.1, hh.2.1, hh.2.2.1, hh.2.2.2⟩⟩
    obtain ⟨f, hf⟩ := @choose_lt Px ⟨px0⟩ _ _ key
    refine ⟨some x, n, c, (List.range n).map f, rfl, ⟨by simp, fun y hy => ?_, ?_⟩, hl, hm, fun e => by cases e⟩
    · obtain ⟨i, hi, rfl⟩ := List.mem_map.1 hy
      exact (hf i (List.mem_range.1 hi)).2
    by_cases h0 : n = 0
    · exact .inl h0
    obtain ⟨b, off, spot⟩ := x
    have hspot : spot = none := by simpa [Addr.add] using World.cell?_spot (hf 0 (by omega)).1.1
    subst hspot
    refine .inr ⟨b, off, rfl, fun i hi => ?_⟩
    obtain ⟨⟨q0, q1, q2, q3⟩, _⟩ := hf i hi
    have hg : ((List.range n).map f).getD i px0 = f i := by simp [List.getD, hi]
    rw [hg]
    simp only [Addr.add_lit, Nat.add_zero, Nat.add_assoc] at q0 q1 q2 q3
    exact ⟨q0, q1, q2, q3⟩
theorem cellsPs : Tryz.prog.cellsOf 55 = 1 := by kernel_rfl
theorem underPr : ∃ f0 f1 f2, Tryz.prog.underlying 57 = some (.struct #[f0, f1, f2]) ∧ f0.type = 3 ∧ f1.type = 52 ∧ f2.type = 55 ∧ f0.offset = 0 ∧ f1.offset = 1 ∧ f2.offset = 2 := ⟨_, _, _, Tryz.underlying57, rfl, rfl, rfl, rfl, rfl, rfl⟩
theorem cellsPr : Tryz.prog.cellsOf 57 = 3 := by kernel_rfl
theorem open_prc {H : Type} {enc : TypeId × Value → H} {W : World} {b0 fuel : Nat} {held : Bool} {cs : List Value} {x : DataW H × List MemPlace} (h : DataW.trod enc Tryz.prog W b0 (fun _ => true) held fuel 57 cs = some x) (hw : ∀ n ∈ x.1.weights Tryz.prog 57, n ≤ reachBytes) :
    ∃ K ka m c k pa n d ps, cs = [.int .i64 K, .slice ka m c, .slice pa n d] ∧ i64r K ∧ (Vs W (fun x => x < W.heap.size) ka m c k ∧ m ≤ 140737488351232) ∧ (Ps W pa n ps ∧ n ≤ d ∧ d ≤ maxLen ∧ (pa = none → d = 0)) := by
  obtain ⟨f0, f1, f2, hu, t0, t1, t2, o0, o1, o2⟩ := underPr
  obtain ⟨y0, y1, y2, q, rfl, hl, h0, h1, h2⟩ := Go.Deep.trod_struct3 hu h
  rw [t0, o0, cells3] at h0
  rw [t1, o1, cellsB15] at h1
  rw [t2, o2, cellsPs] at h2
  rw [cellsPr] at hl
  obtain ⟨K, e0, _, w0⟩ := DataW.trod_int Tryz.underlying3 h0
  obtain ⟨ka, m, c, k, e1, r1, l1⟩ := open_by h1 (fun n hn => hw n (by
    simp only [DataW.weights, hu]
    simp [DataW.weightsEach, t0, t1, t2, hn]))
  obtain ⟨pa, n, d, ps, e2, r2⟩ := open_pxs h2
  refine ⟨K, ka, m, c, k, pa, n, d, ps, ?_, bounds_i64 w0, ⟨r1, l1⟩, r2⟩
  match cs, hl with
  | [x0, x1, x2], _ =>
    simp at e0 e1 e2
    rw [e0, e1, e2]
theorem open_pr {H : Type} {enc : TypeId × Value → H} {W : World} {base b0 : Nat} {held : Bool} {v : Value} {d : DataW H} {p : List MemPlace} (hv : Value.okWide Tryz.prog W .any base 57 v) (h : DataW.Trod enc Tryz.prog W b0 (fun _ => true) held 57 v d p) (hw : ∀ n ∈ d.weights Tryz.prog 57, n ≤ reachBytes) :
    ∃ K ka m c k pa n d ps, v = .agg #[.int .i64 K, .slice ka m c, .slice pa n d] ∧ i64r K ∧ (Vs W (fun x => x < W.heap.size) ka m c k ∧ m ≤ 140737488351232) ∧ (Ps W pa n ps ∧ n ≤ d ∧ d ≤ maxLen ∧ (pa = none → d = 0)) := by
  obtain ⟨cs, rfl, hsz, _⟩ : ∃ cs, v = .agg cs ∧ cs.size = Tryz.prog.cellsOf 57 ∧ Row.okWide Tryz.prog W .any base 57 cs := by
    simpa [Value.okWide, Tryz.underlying57] using hv
  obtain ⟨fuel, hf⟩ := h
  obtain ⟨K, ka, m, c, k, pa, n, d, ps, e, r⟩ := open_prc hf hw
  refine ⟨K, ka, m, c, k, pa, n, d, ps, ?_, r⟩
  have : cs.toList = [.int .i64 K, .slice ka m c, .slice pa n d] := e
  congr 1
  apply Array.ext'
  exact this
end Go.Proofs.YtcbmgpmjnehjdaaGreat
