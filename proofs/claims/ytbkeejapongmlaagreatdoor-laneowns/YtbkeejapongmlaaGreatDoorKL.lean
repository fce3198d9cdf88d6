import Derived.Test.YtbkeejapongmlaaGreatDoorLF
import Derived.Test.YtbkeejapongmlaaGreatDoorNRow
import Derived.Deep.Slices
import Derived.Deep.Grids
import Derived.SizedLaws
namespace Go.Proofs.YtbkeejapongmlaaGreatDoor
set_option maxRecDepth 100000
open Go.ChangeShapes Go.WideShapes Go.ChangeAt Go.RowKit Go.Deep
set_option linter.unusedVariables false

theorem cells3 : Tryz.prog.cellsOf 3 = 1 := by kernel_rfl
theorem cellsU : Tryz.prog.cellsOf 23 = 1 := by kernel_rfl
theorem cellsB15 : Tryz.prog.cellsOf 22 = 1 := by kernel_rfl
theorem open_by {H : Type} {enc : TypeId × Value → H} {W : World} {b0 fuel : Nat} {held : Bool} {cs : List Value} {x : DataW H × List MemPlace} (h : DataW.trod enc Tryz.prog W b0 (fun _ => true) held fuel 22 cs = some x) (hw : ∀ n ∈ x.1.weights Tryz.prog 22, n ≤ reachBytes) :
    ∃ a n c zs, cs = [.slice a n c] ∧ Bs W a n zs ∧ n ≤ 140737488351232 := by
  rcases open_ints Tryz.underlying22 Tryz.underlying5 (by kernel_rfl) h with ⟨rfl, _⟩ | ⟨y, l, c, zs, rfl, _, hl, hm, hz, hdat, hcell, hwz⟩
  · exact ⟨none, 0, 0, [], rfl, ⟨rfl, by simp, .inl rfl⟩, by omega⟩
  · refine ⟨some y, l, c, zs.take l, rfl, IsRow.bs (cap := c) (.inr ⟨_, rfl, hl, hm, by simpa using hz, hcell, hwz⟩), ?_⟩
    subst hdat
    have hs := hw (((lits (H := H) .u8 (zs.take l)).length + (lits (H := H) .u8 (zs.drop l)).length) * Tryz.prog.bytesOf 5) (by simp only [DataW.weights, Tryz.underlying22]; exact List.mem_cons_self)
    rw [show Tryz.prog.bytesOf 5 = 1 by kernel_rfl, Nat.mul_one] at hs
    have hr : reachBytes = 140737488351232 := by decide
    have hlen : l ≤ zs.length := by simp at hz; omega
    simp only [lits, List.length_map, List.length_take, List.length_drop] at hs
    omega
theorem underSt : ∃ f0 f1, Tryz.prog.underlying 25 = some (.struct #[f0, f1]) ∧ f0.type = 3 ∧ f1.type = 3 ∧ f0.offset = 0 ∧ f1.offset = 1 := ⟨_, _, Tryz.underlying25, rfl, rfl, rfl, rfl⟩
theorem cellsSt : Tryz.prog.cellsOf 25 = 2 := by kernel_rfl
theorem open_stc {H : Type} {enc : TypeId × Value → H} {W : World} {b0 fuel : Nat} {spare : Nat → Bool} {held : Bool} {cs : List Value} {x : DataW H × List MemPlace} (h : DataW.trod enc Tryz.prog W b0 spare held fuel 25 cs = some x) :
    ∃ s n, (i64r s ∧ i64r n) ∧ cs = [.int .i64 s, .int .i64 n] := by
  obtain ⟨f0, f1, hu, t0, t1, o0, o1⟩ := underSt
  obtain ⟨y0, y1, q, _, hl, h0, h1⟩ := trod_struct2 hu h
  rw [t0, o0, cells3] at h0
  rw [t1, o1, cells3] at h1
  rw [cellsSt] at hl
  obtain ⟨s, e0, _, w0⟩ := DataW.trod_int Tryz.underlying3 h0
  obtain ⟨n, e1, _, w1⟩ := DataW.trod_int Tryz.underlying3 h1
  refine ⟨s, n, ⟨bounds_i64 w0, bounds_i64 w1⟩, ?_⟩
  match cs, hl with
  | [x0, x1], _ =>
    simp at e0 e1
    rw [e0, e1]
theorem underLn : ∃ f0 f1 f2 f3 f4 f5 f6, Tryz.prog.underlying 27 = some (.struct #[f0, f1, f2, f3, f4, f5, f6]) ∧ (f0.type = 22 ∧ f1.type = 3 ∧ f2.type = 3 ∧ f3.type = 3 ∧ f4.type = 23 ∧ f5.type = 23 ∧ f6.type = 25) ∧ f0.offset = 0 ∧ f1.offset = 1 ∧ f2.offset = 2 ∧ f3.offset = 3 ∧ f4.offset = 4 ∧ f5.offset = 5 ∧ f6.offset = 6 := ⟨_, _, _, _, _, _, _, Tryz.underlying27, ⟨rfl, rfl, rfl, rfl, rfl, rfl, rfl⟩, rfl, rfl, rfl, rfl, rfl, rfl, rfl⟩
theorem cellsLn : Tryz.prog.cellsOf 27 = 8 := by kernel_rfl
theorem open_lnc {H : Type} {enc : TypeId × Value → H} {W : World} {b0 fuel : Nat} {held : Bool} {cs : List Value} {x : DataW H × List MemPlace} (h : DataW.trod enc Tryz.prog W b0 (fun _ => true) held fuel 27 cs = some x) (hw : ∀ n ∈ x.1.weights Tryz.prog 27, n ≤ reachBytes) :
    ∃ a m c k S C N D E s n, cs = [.slice a m c, .int .i64 S, .int .i64 C, .int .i64 N, .int .u64 D, .int .u64 E, .int .i64 s, .int .i64 n] ∧ (Bs W a m k ∧ m ≤ 140737488351232) ∧ (i64r S ∧ i64r C ∧ i64r N ∧ u64r D ∧ u64r E ∧ i64r s ∧ i64r n) := by
  obtain ⟨f0, f1, f2, f3, f4, f5, f6, hu, ⟨t0, t1, t2, t3, t4, t5, t6⟩, o0, o1, o2, o3, o4, o5, o6⟩ := underLn
  obtain ⟨xs, n, _, rfl, hl, hlen, hf⟩ := DataW.trod_struct hu h
  rw [cellsLn] at hl
  match xs, hlen with
  | [y0, y1, y2, y3, y4, y5, y6], _ =>
    have h0 := hf 0 f0 rfl
    have h1 := hf 1 f1 rfl
    have h2 := hf 2 f2 rfl
    have h3 := hf 3 f3 rfl
    have h4 := hf 4 f4 rfl
    have h5 := hf 5 f5 rfl
    have h6 := hf 6 f6 rfl
    rw [t0, o0, cellsB15] at h0
    rw [t1, o1, cells3] at h1
    rw [t2, o2, cells3] at h2
    rw [t3, o3, cells3] at h3
    rw [t4, o4, cellsU] at h4
    rw [t5, o5, cellsU] at h5
    rw [t6, o6, cellsSt] at h6
    obtain ⟨a, m, c, k, e0, r0, l0⟩ := open_by (h0.trans rfl) (fun n hn => hw n (by
      simp only [DataW.weights, hu]
      simp [DataW.weightsEach, t0, t1, t2, t3, t4, t5, t6, hn]))
    obtain ⟨S, e1, _, w1⟩ := DataW.trod_int Tryz.underlying3 (h1.trans rfl)
    obtain ⟨C, e2, _, w2⟩ := DataW.trod_int Tryz.underlying3 (h2.trans rfl)
    obtain ⟨N, e3, _, w3⟩ := DataW.trod_int Tryz.underlying3 (h3.trans rfl)
    obtain ⟨D, e4, _, w4⟩ := DataW.trod_int Tryz.underlying23 (h4.trans rfl)
    obtain ⟨E, e5, _, w5⟩ := DataW.trod_int Tryz.underlying23 (h5.trans rfl)
    obtain ⟨s, n, w6, e6⟩ := open_stc (h6.trans rfl)
    refine ⟨a, m, c, k, S, C, N, D, E, s, n, ?_, ⟨r0, l0⟩, bounds_i64 w1, bounds_i64 w2, bounds_i64 w3, bounds_u64 w4, bounds_u64 w5, w6.1, w6.2⟩
    match cs, hl with
    | [x0, x1, x2, x3, x4, x5, x6, x7], _ =>
      simp at e0 e1 e2 e3 e4 e5 e6
      rw [e0, e1, e2, e3, e4, e5, e6.1, e6.2]
theorem open_ln {H : Type} {enc : TypeId × Value → H} {W : World} {base b0 : Nat} {held : Bool} {v : Value} {d : DataW H} {p : List MemPlace} (hv : Value.okWide Tryz.prog W .any base 27 v) (h : DataW.Trod enc Tryz.prog W b0 (fun _ => true) held 27 v d p) (hw : ∀ n ∈ d.weights Tryz.prog 27, n ≤ reachBytes) :
    ∃ a m c k S C N D E s n, v = .agg #[.slice a m c, .int .i64 S, .int .i64 C, .int .i64 N, .int .u64 D, .int .u64 E, .int .i64 s, .int .i64 n] ∧ (Bs W a m k ∧ m ≤ 140737488351232) ∧ (i64r S ∧ i64r C ∧ i64r N ∧ u64r D ∧ u64r E ∧ i64r s ∧ i64r n) := by
  obtain ⟨cs, rfl, hsz, _⟩ : ∃ cs, v = .agg cs ∧ cs.size = Tryz.prog.cellsOf 27 ∧ Row.okWide Tryz.prog W .any base 27 cs := by
    simpa [Value.okWide, Tryz.underlying27] using hv
  obtain ⟨fuel, hf⟩ := h
  obtain ⟨a, m, c, k, S, C, N, D, E, s, n, e, r0, r1⟩ := open_lnc hf hw
  refine ⟨a, m, c, k, S, C, N, D, E, s, n, ?_, r0, r1⟩
  have : cs.toList = [.slice a m c, .int .i64 S, .int .i64 C, .int .i64 N, .int .u64 D, .int .u64 E, .int .i64 s, .int .i64 n] := e
  congr 1
  apply Array.ext'
  exact this
theorem underNm : ∃ f0 f1 f2 f3 f4, Tryz.prog.underlying 29 = some (.struct #[f0, f1, f2, f3, f4]) ∧ (f0.type = 3 ∧ f1.type = 3 ∧ f2.type = 23 ∧ f3.type = 23 ∧ f4.type = 25) ∧ f0.offset = 0 ∧ f1.offset = 1 ∧ f2.offset = 2 ∧ f3.offset = 3 ∧ f4.offset = 4 := ⟨_, _, _, _, _, Tryz.underlying29, ⟨rfl, rfl, rfl, rfl, rfl⟩, rfl, rfl, rfl, rfl, rfl⟩
theorem cellsNm : Tryz.prog.cellsOf 29 = 6 := by kernel_rfl
theorem open_nmc {H : Type} {enc : TypeId × Value → H} {W : World} {b0 fuel : Nat} {spare : Nat → Bool} {held : Bool} {cs : List Value} {x : DataW H × List MemPlace} (h : DataW.trod enc Tryz.prog W b0 spare held fuel 29 cs = some x) :
    ∃ G B X Y T U, cs = [.int .i64 G, .int .i64 B, .int .u64 X, .int .u64 Y, .int .i64 T, .int .i64 U] ∧ (i64r G ∧ i64r B ∧ u64r X ∧ u64r Y ∧ i64r T ∧ i64r U) := by
  obtain ⟨f0, f1, f2, f3, f4, hu, ⟨t0, t1, t2, t3, t4⟩, o0, o1, o2, o3, o4⟩ := underNm
  obtain ⟨xs, n, _, rfl, hl, hlen, hf⟩ := DataW.trod_struct hu h
  rw [cellsNm] at hl
  match xs, hlen with
  | [y0, y1, y2, y3, y4], _ =>
    have h0 := hf 0 f0 rfl
    have h1 := hf 1 f1 rfl
    have h2 := hf 2 f2 rfl
    have h3 := hf 3 f3 rfl
    have h4 := hf 4 f4 rfl
    rw [t0, o0, cells3] at h0
    rw [t1, o1, cells3] at h1
    rw [t2, o2, cellsU] at h2
    rw [t3, o3, cellsU] at h3
    rw [t4, o4, cellsSt] at h4
    obtain ⟨G, e0, _, w0⟩ := DataW.trod_int Tryz.underlying3 (h0.trans rfl)
    obtain ⟨B, e1, _, w1⟩ := DataW.trod_int Tryz.underlying3 (h1.trans rfl)
    obtain ⟨X, e2, _, w2⟩ := DataW.trod_int Tryz.underlying23 (h2.trans rfl)
    obtain ⟨Y, e3, _, w3⟩ := DataW.trod_int Tryz.underlying23 (h3.trans rfl)
    obtain ⟨T, U, w4, e4⟩ := open_stc (h4.trans rfl)
    refine ⟨G, B, X, Y, T, U, ?_, bounds_i64 w0, bounds_i64 w1, bounds_u64 w2, bounds_u64 w3, w4.1, w4.2⟩
    match cs, hl with
    | [x0, x1, x2, x3, x4, x5], _ =>
      simp at e0 e1 e2 e3 e4
      rw [e0, e1, e2, e3, e4.1, e4.2]
theorem open_nm {H : Type} {enc : TypeId × Value → H} {W : World} {base b0 : Nat} {held : Bool} {v : Value} {d : DataW H} {p : List MemPlace} (hv : Value.okWide Tryz.prog W .any base 29 v) (h : DataW.Trod enc Tryz.prog W b0 (fun _ => true) held 29 v d p) (hw : ∀ n ∈ d.weights Tryz.prog 29, n ≤ reachBytes) :
    ∃ G B X Y T U, v = .agg #[.int .i64 G, .int .i64 B, .int .u64 X, .int .u64 Y, .int .i64 T, .int .i64 U] ∧ (i64r G ∧ i64r B ∧ u64r X ∧ u64r Y ∧ i64r T ∧ i64r U) := by
  obtain ⟨cs, rfl, hsz, _⟩ : ∃ cs, v = .agg cs ∧ cs.size = Tryz.prog.cellsOf 29 ∧ Row.okWide Tryz.prog W .any base 29 cs := by
    simpa [Value.okWide, Tryz.underlying29] using hv
  obtain ⟨fuel, hf⟩ := h
  obtain ⟨G, B, X, Y, T, U, e, r⟩ := open_nmc hf
  refine ⟨G, B, X, Y, T, U, ?_, r⟩
  have : cs.toList = [.int .i64 G, .int .i64 B, .int .u64 X, .int .u64 Y, .int .i64 T, .int .i64 U] := e
  congr 1
  apply Array.ext'
  exact this
end Go.Proofs.YtbkeejapongmlaaGreatDoor
