import Derived.Test.YtnjfckijpbgagaaG1
import Derived.Test.YtnjfckijpbgagaaCodeB
import Derived.Deep.RegionHeld
namespace Go.Proofs.Ytnjfckijpbgagaa
set_option maxRecDepth 100000
open Go.RowKit
set_option linter.unusedVariables false

theorem bel_grown {B g : Nat} {a b c : World} (h : Below B a b) (hs : B ≤ b.heap.size) (hB : B ≤ g) (hg : b.grownBy c (some g)) : Below B a c :=
  h.trans ⟨hg.os, hg.tape, hg.output, hg.size, fun k hk => hg.block k (by omega) (fun e => by have := Option.some.inj e; omega)⟩
theorem Cp.grown {w w' : World} {g g' : Nat} {k : Nat → Nat} (h : Cp w g k) (hg : w.grownBy w' (some g')) (hn : g ≠ g') : Cp w' g k := h.same (hg.block g h.lt (fun e => hn (Option.some.inj e)))
theorem Se.grown {w w' : World} {g g' gc : Nat} {f : Nat → Nat} (h : Se w g gc f) (hg : w.grownBy w' (some g')) (hn : g ≠ g') : Se w' g gc f := by
  have := h.lt
  unfold Se at *; rw [hg.block g this (fun e => hn (Option.some.inj e))]; exact h
theorem Rw.grown {w w' : World} {g g' t n : Nat} {f : Nat → Nat} (h : Rw w g t n f) (hg : w.grownBy w' (some g')) (hn : g ≠ g') : Rw w' g t n f := by
  have := h.lt
  unfold Rw at *; rw [hg.block g this (fun e => hn (Option.some.inj e))]; exact h
set_option maxHeartbeats 1000000 in
theorem bitLengths_ (a0 a1 : Option Addr) (n0 c0 n1 c1 : Nat) (w : World) (h0 : n0 ≤ 65536) (h1 : n1 ≤ 65536) :
    Calls Try.prog 74 #[.slice a0 n0 c0, .slice a1 n1 c1] w fun e w' => e = .returned (.agg (rw8 16 fun i => (e8 (8 * n0) ++ e8 (8 * n1)).getD i 0)) ∧ Below w.heap.size w w' := by
  obtain ⟨A0, A1, B0⟩ := rnew2 w 96 16 (fun _ => 0) 96 16 (fun _ => 0)
  have k1 := fun wx hr => putNumber_ (w.heap.size + 1) 0 8 16 96 16 (8 * n0) (fun _ => 0) wx hr (by omega) (by omega) (by omega)
  have k2 := fun wx hr => putNumber_ (w.heap.size + 1) 8 8 8 96 16 (8 * n1) (put8 0 8 (nbG 8 (8 * n0)) fun _ => 0) wx hr (by omega) (by omega) (by omega)
  rw [show ((8 * n0 : Nat) : Int) = 8 * (n0 : Int) from by omega] at k1
  rw [show ((8 * n1 : Nat) : Int) = 8 * (n1 : Int) from by omega] at k2
  have HZ := hid (ln_put (8 * n0) (8 * n1))
  obtain ⟨z1, Hz1⟩ : ∃ z, Hid (put8 0 8 (nbG 8 (8 * n0)) (fun _ => 0) = z) := ⟨_, rfl⟩
  rw [Hz1.out] at k1 k2 HZ
  obtain ⟨z2, Hz2⟩ : ∃ z, Hid (put8 8 8 (nbG 8 (8 * n1)) z1 = z) := ⟨_, rfl⟩
  rw [Hz2.out] at k2 HZ
  go_enter Try.func74, Try.ntmps74
  go_wp2_with (refine wpList_al rfl _ rfl 16 (by exact zeroa) ?_)
  generalize (w.alloc (.cells (rw8 16 fun _ => 0) 96)).alloc (.cells (rw8 16 fun _ => 0) 96) = wa at *
  refine (k1 _ A1).mono ?_
  rintro e w1 ⟨rfl, A2, g1⟩
  have A0 := A0.grown g1 (by omega)
  have B0 := bel_grown B0 B0.size (by omega) g1
  clear A1 k1 g1
  go_wp2_with fail
  refine (k2 _ A2).mono ?_
  rintro e w2 ⟨rfl, A1, g1⟩
  have A0 := A0.grown g1 (by omega)
  have B0 := bel_grown B0 B0.size (by omega) g1
  have A1 := A1.ext HZ.out
  clear A2 k2 g1
  obtain ⟨z, Hz⟩ : ∃ z, Hid ((fun i => (e8 (8 * n0) ++ e8 (8 * n1)).getD i 0) = z) := ⟨_, rfl⟩
  rw [Hz.out] at A1
  go_wp2_with (first | (refine wpList_ldw rfl _ _ rfl _ rfl _ _ 16 _ (by with_reducible exact A1) (by omega) _ (by exact under16) rfl (by exact size16) ?_) | (refine wpList_stm rfl rfl _ _ _ rfl w.heap.size 0 rfl 16 z rfl _ _ _ (by with_reducible exact A0) (by omega) (by exact size16) ?_))
  refine bodyPost_ret (v := .agg (rw8 16 z)) ?_ rfl ⟨by rw [← Hz.out], bel_cells (Nat.le_refl _) _ _ _ B0⟩
  exact results_rw rfl _ _ w.heap.size 16 z _ rfl (A0.whole _) under16 rfl size16

theorem under12 : Try.prog.underlying 91 = some (.array 12 5) := by kernel_rfl
theorem size12 : (Try.prog.info? 91).map (·.size) = some 12 := by kernel_rfl
theorem sizes : (Try.prog.info? 93).map (·.size) = some 13 := by kernel_rfl
theorem snew (w : World) (gc : Nat) (f : Nat → Nat) : Se (w.alloc (.cells (sv gc f) 93)) w.heap.size gc f ∧ Below w.heap.size w (w.alloc (.cells (sv gc f) 93)) := ⟨Se.new w gc f, (Below.refl _ _).alloc (Nat.le_refl _) _⟩
set_option maxHeartbeats 1000000 in
theorem counted_ (gc x : Nat) (k : Nat → Nat) (nz : List Nat) (w : World) (cc : Cp w gc k) (hk : ∀ j, k j < 256) (hl : nz.length = 12) (hy : ∀ x ∈ nz, x < 256) (hx : x < 2 ^ 64) :
    Calls Try.prog 76 #[.agg (sv gc (fb nz)), .int .u64 x] w fun e w' => e = .returned (.agg (rw8 16 (bl k (cb nz x) 14))) ∧ Below w.heap.size w w' := by
  have hgl := cc.lt
  have kb := fun w cc => block8_ gc k (cb nz x) w cc hk (cb_lt hy x)
  obtain ⟨S0, B0⟩ := snew w gc (fb nz)
  have cc := cc.kept B0
  generalize HW : w.alloc (.cells (sv gc (fb nz)) 93) = ws at *
  have HS : ws.heap.size = w.heap.size + 1 := by rw [← HW]; simp
  obtain ⟨A0, A1, B1⟩ := rnew2 ws 96 16 (fun _ => 0) 96 16 (fun _ => 0)
  rw [HS] at A0 A1
  have S0 := S0.kept B1
  have cc := cc.kept B1
  have B0 := bel_bel B0 B0.size B1
  rw [← HW] at A0 A1 B0 S0 cc
  clear HW HS B1
  go_enter Try.func76, Try.ntmps76
  go_wp2_with (refine wpList_al rfl _ rfl 16 (by exact zeroa) ?_)
  have b1 := S0.bs hl hy
  generalize ((w.alloc (.cells (sv gc (fb nz)) 93)).alloc (.cells (rw8 16 fun _ => 0) 96)).alloc (.cells (rw8 16 fun _ => 0) 96) = wa at *
  have A0 := A0.drew
  have A1 := A1.drew
  have S0 := S0.drew
  have cc := cc.drew
  have B0 := bel_drew1 B0
  have b1 := S0.bs hl hy
  have HC := hid (cb_put nz x)
  go_region_law (refine step_cpb rfl _ _ _ _ rfl _ Try.underlying22 size1 _ _ _ _ _ _ _ rfl rfl _ _ _ (by with_reducible exact A1) 12 rfl (by omega) _ (by with_reducible exact b1) (fb nz) (fun i _ => ic_get nz i) ?_)
  have A0 := A0.omid (g' := w.heap.size + 1 + 1) (by omega) 0 (rw8 12 (fb nz)).toList
  have A1 := A1.mid 0 12 (fb nz)
  have S0 := S0.omid (g' := w.heap.size + 1 + 1) (by omega) 0 (rw8 12 (fb nz)).toList
  have cc := cc.omid (g' := w.heap.size + 1 + 1) (by omega) 0 (rw8 12 (fb nz)).toList
  have B0 := bel_cells (g := w.heap.size + 1 + 1) (by omega) (rw8 12 (fb nz)).toList 0 _ B0
  clear b1
  generalize World.setCells _ (w.heap.size + 1 + 1) 0 (rw8 12 (fb nz)).toList = wb at *
  have k2 := fun wx hr => putNumber_ (w.heap.size + 1 + 1) 12 4 4 96 16 x (put8 0 12 (fb nz) fun _ => 0) wx hr (by omega) (by omega) hx
  obtain ⟨z1, Hz1⟩ : ∃ z, Hid (put8 0 12 (fb nz) (fun _ => 0) = z) := ⟨_, rfl⟩
  rw [Hz1.out] at k2 HC A1
  obtain ⟨z2, Hz2⟩ : ∃ z, Hid (put8 12 4 (nbG 4 x) z1 = z) := ⟨_, rfl⟩
  rw [Hz2.out] at k2 HC
  go_wp2_with fail
  refine (k2 _ A1).mono ?_
  rintro e w1 ⟨rfl, A2, g1⟩
  have A0 := A0.grown g1 (by omega)
  have cc := cc.grown g1 (by omega)
  have S0 := S0.grown g1 (by omega)
  have B0 := bel_grown B0 B0.size (by omega) g1
  have A2 := A2.ext HC.out
  clear A1 k2 g1
  have cp := S0.ptr
  obtain ⟨z, Hz⟩ : ∃ z, Hid (bl k (cb nz x) 14 = z) := ⟨_, rfl⟩
  rw [Hz.out] at kb
  obtain ⟨cz, Hcz⟩ : ∃ z, Hid (cb nz x = z) := ⟨_, rfl⟩
  rw [Hcz.out] at kb A2
  go_wp2_with (refine wpList_ldw rfl _ _ rfl _ rfl _ _ 16 _ (by with_reducible exact A2) (by omega) _ (by exact under16) rfl (by exact size16) ?_)
  refine (kb _ cc).mono ?_
  rintro e w2 ⟨rfl, g1⟩
  have A0 := A0.kept g1
  have B0 := bel_bel B0 B0.size g1
  clear g1 kb cp S0 cc A2
  go_wp2_with (refine wpList_stm rfl rfl _ _ _ rfl (w.heap.size + 1) 0 rfl 16 z rfl _ _ _ (by with_reducible exact A0) (by omega) (by exact size16) ?_)
  refine bodyPost_ret (v := .agg (rw8 16 z)) ?_ rfl ⟨by rw [← Hz.out], bel_cells (by omega) _ _ _ B0⟩
  exact results_rw rfl _ _ (w.heap.size + 1) 16 z _ rfl (A0.whole _) under16 rfl size16
end Go.Proofs.Ytnjfckijpbgagaa
namespace Go.Proofs.Ytnjfckijpbgagaa
set_option maxRecDepth 100000
open Go.RowKit
set_option linter.unusedVariables false

/-- The stream's counter. -/
def Ct (w : World) (g n : Nat) : Prop := w.heap[g]? = some (.cells #[.int .u64 n] 23 (0, 0))
theorem Ct.lt {w : World} {g n : Nat} (h : Ct w g n) : g < w.heap.size := (Array.getElem?_eq_some_iff.1 h).1
theorem Ct.cell {w : World} {g n : Nat} (h : Ct w g n) : w.cell? ⟨g, 0, none⟩ = some (.int .u64 n) := (cell_of_row w g 0 _ _ (0, 0) h).trans rfl
theorem Ct.fz {w : World} {g n : Nat} (h : Ct w g n) (i : Nat) : w.frozen? ⟨g, i, none⟩ = false := by unfold Ct at h; simp [World.frozen?, h]
theorem Ct.kept {w w' : World} {g n : Nat} (h : Ct w g n) (hb : Below w.heap.size w w') : Ct w' g n := by
  have := h.lt
  unfold Ct at *; rw [hb.block g this]; exact h
theorem Ct.alloc {w : World} {g n : Nat} (h : Ct w g n) (o : Obj) : Ct (w.alloc o) g n := by
  have := h.lt
  unfold Ct at *; rw [Below.heap_alloc _ _ _ this]; exact h
theorem Ct.omid {w : World} {g g' n : Nat} (h : Ct w g n) (hn : g ≠ g') (o : Nat) (vs : List Value) : Ct (w.setCells g' o vs) g n := by
  unfold Ct at *; rw [heap_setCells_other g' g hn]; exact h
theorem Ct.set {w : World} {g n : Nat} (h : Ct w g n) (m : Nat) : Ct (w.setCell ⟨g, 0, none⟩ (.int .u64 m)) g m := by
  unfold Ct at *; simp [World.setCell, Array.getElem?_modify, h]
theorem Ct.new (w : World) (n : Nat) : Ct (w.alloc (.cells #[.int .u64 n] 23)) w.heap.size n := heap_alloc_new w _
set_option maxHeartbeats 400000 in
theorem stream_ (gc : Nat) (f : Nat → Nat) (w : World) :
    Calls Try.prog 71 #[.agg (sv gc f)] w fun e w' => e = .returned (.func (.func 94) #[] #[.pointer (some ⟨w.heap.size, 0, none⟩), .pointer (some ⟨w.heap.size + 1, 0, none⟩)]) ∧ Se w' w.heap.size gc f ∧ Ct w' (w.heap.size + 1) 2 ∧ Below w.heap.size w w' := by
  have hmf : ∀ fn first cap w, (Instr.makeFunc fn first cap).run Try.prog w = .ok (.func fn first cap) w := fun _ _ _ _ => rfl
  go_enter Try.func71, Try.ntmps71
  go_wp2_with fail
  go_ret
  have h1 := (Below.refl w.heap.size w).alloc (Nat.le_refl _) (.cells (sv gc f) 93)
  refine ⟨rfl, (Se.new w gc f).alloc _, ?_, h1.alloc (by simp) _⟩
  have := Ct.new (w.alloc (.cells (sv gc f) 93)) 2
  simpa using this

theorem unders : (Try.prog.underlying 93).map TypeDesc.isRow = some true := by kernel_rfl
theorem wpList_lds {ops : Array Oper} {rest : List Oper} {o : Oper} {a : Act} {w : World} {Q : Exit → Act → World → Prop} (hgd : o.guard = none) (x : Operand) (ho : o.op = .load 93 x)
    (g : Nat) (hx : a.eval x = .pointer (some ⟨g, 0, none⟩)) (gc : Nat) (f : Nat → Nat) (hg : Se w g gc f)
    (h : wpList Try.prog ops Q rest (a.put o.dst (.agg (sv gc f))) w) : wpList Try.prog ops Q (o :: rest) a w := by
  obtain ⟨d, hu, hd⟩ := Option.map_eq_some_iff.1 unders
  exact wpList_load_row hgd _ x ho g hx _ _ (0, 0) d hg hu (by cases d <;> first | rfl | exact absurd hd (by simp)) (by rw [sv_size]; exact sizes) h
/-- A store into the variable that was made just ahead. -/
theorem wpList_stnr {ops : Array Oper} {rest : List Oper} {o : Oper} {a : Act} {w : World} {Q : Exit → Act → World → Prop} (hgd : o.guard = none) (hd : o.dst = none) (x y : Operand) (ho : o.op = .store 96 x y)
    (old : Array Value) (g : Nat) (f : Nat → Nat) (hx : a.eval x = .pointer (some ⟨g, 0, none⟩)) (hy : a.eval y = .agg (rw8 16 f)) (hg : w.heap.size = g) (hs : old.size = 16)
    (h : wpList Try.prog ops Q rest a (w.alloc (.cells (rw8 16 f) 96))) : wpList Try.prog ops Q (o :: rest) a (w.alloc (.cells old 96)) :=
  wpList_stna hgd hd x y ho old g f hx hy hg hs h
theorem grown_below {w w' : World} (h : Below w.heap.size w w') (r : Option Nat) : w.grownBy w' r := ⟨h.os, h.tape, h.output, h.size, fun k hk _ => h.block k hk⟩
theorem grown_cells {w : World} {g : Nat} {r : Option Nat} (hg : w.heap.size ≤ g) : ∀ (vs : List Value) (o : Nat) (w' : World), w.grownBy w' r → w.grownBy (w'.setCells g o vs) r
  | [], _, _, h => h
  | v :: rs, o, w', h => by
    rw [World.setCells]
    exact grown_cells hg rs (o + 1) _ ⟨h.os, h.tape, h.output, by simpa [World.setCell] using h.size, fun k hk hn => (Below.heap_setCell w' ⟨g, o, none⟩ v k (by show k ≠ g; omega)).trans (h.block k hk hn)⟩
set_option maxHeartbeats 1000000 in
theorem stream1_ (gs gn gc n : Nat) (k : Nat → Nat) (nz : List Nat) (w : World) (S0 : Se w gs gc (fb nz)) (C0 : Ct w gn n) (cc : Cp w gc k) (hk : ∀ j, k j < 256) (hl : nz.length = 12) (hy : ∀ x ∈ nz, x < 256) (hn : n < 2 ^ 32) (hne : gs ≠ gn) :
    Calls Try.prog 94 #[.pointer (some ⟨gs, 0, none⟩), .pointer (some ⟨gn, 0, none⟩)] w fun e w' => e = .returned (.agg (rw8 16 (bl k (cb nz n) 14))) ∧ Ct w' gn (n + 1) ∧ w.grownBy w' (some gn) := by
  have hgn := C0.lt
  have kc := fun w cc => counted_ gc n k nz w cc hk hl hy (by omega)
  obtain ⟨z, Hz⟩ : ∃ z, Hid (bl k (cb nz n) 14 = z) := ⟨_, rfl⟩
  rw [Hz.out] at kc
  obtain ⟨A0, B0⟩ := rnew1 w 96 16 (fun _ => 0)
  have S0 := S0.kept B0
  have C0 := C0.kept B0
  have cc := cc.kept B0
  have c1 := C0.cell
  go_enter Try.func94, Try.ntmps94
  go_wp2_with (first | (refine wpList_al rfl _ rfl 16 (by exact zeroa) ?_) | (refine wpList_lds rfl _ rfl gs rfl gc (fb nz) (by with_reducible exact S0) ?_))
  refine (kc _ cc).mono ?_
  rintro e w1 ⟨rfl, g1⟩
  have A0 := A0.kept g1
  have C0 := C0.kept g1
  have B0 := bel_bel B0 B0.size g1
  have A0lt := A0.lt
  clear g1 c1 kc cc S0
  have A1 := Rw.new w1 96 16 z
  have A0 := A0.alloc (.cells (rw8 16 z) 96)
  have C0 := C0.alloc (.cells (rw8 16 z) 96)
  have hlt : w.heap.size + 1 ≤ w1.heap.size := A0lt
  have B0 := B0.alloc B0.size (.cells (rw8 16 z) 96)
  have c1 := C0.cell
  have f1 := C0.fz 0
  have A1' := A1.other (g' := gn) (by omega) 0 (.int .u64 ((n : Int) + 1))
  have A0' := A0.other (g' := gn) (by omega) 0 (.int .u64 ((n : Int) + 1))
  have C1 := C0.set (n + 1)
  rw [show ((n + 1 : Nat) : Int) = (n : Int) + 1 from by omega] at C1
  have G1 := grown_set (grown_below B0 (some gn)) 0 (.int .u64 ((n : Int) + 1))
  go_wp2_with (first | (refine wpList_al rfl _ rfl 16 (by exact zeroa) ?_) | (refine wpList_stnr rfl rfl _ _ rfl _ _ z rfl rfl rfl (by simp [rw8_size]) ?_) | (refine wpList_ldw rfl _ _ rfl _ rfl _ _ 16 _ (by with_reducible exact A1') (by omega) _ (by exact under16) rfl (by exact size16) ?_) | (refine wpList_stm rfl rfl _ _ _ rfl w.heap.size 0 rfl 16 z rfl _ _ _ (by with_reducible exact A0') (by omega) (by exact size16) ?_))
  refine bodyPost_ret (v := .agg (rw8 16 z)) ?_ rfl ⟨by rw [← Hz.out], C1.omid (by omega) _ _, grown_cells (Nat.le_refl _) _ _ _ G1⟩
  exact results_rw rfl _ _ w.heap.size 16 z _ rfl (A0'.whole _) under16 rfl size16
end Go.Proofs.Ytnjfckijpbgagaa
namespace Go.Proofs.Ytnjfckijpbgagaa
set_option maxRecDepth 100000
open Go.RowKit
set_option linter.unusedVariables false

theorem mulA_ (f h : Nat → Nat) (w : World) (hf : ∀ i, i < 16 → f i < 256) (hh : ∀ i, i < 16 → h i < 256) :
    Calls Try.prog 99 #[.agg (rw8 16 f), .agg (rw8 16 h)] w fun e w' => e = .returned (.agg (rw8 16 (gm f h))) ∧ Below w.heap.size w w' := by
  have e1 : rw8 16 f = bv (pk f) := av_pk hf
  have e2 : rw8 16 h = bv (pk h) := av_pk hh
  rw [e1, e2]
  exact mul128_ (pk f) (pk h) w (pk_lt hh)
theorem min_le (m : Nat) : ∃ mm, mm = Nat.min m 16 ∧ mm ≤ m ∧ mm ≤ 16 ∧ (mm = m ∨ mm = 16) := ⟨_, rfl, Nat.min_le_left _ _, Nat.min_le_right _ _, by simp only [Nat.min_def]; split <;> omega⟩
set_option maxHeartbeats 2000000 in
theorem fold_ (z h : Nat → Nat) (a : Option Addr) (n cap : Nat) (b : List Nat) (w : World) (hb : Bs w a n (ic b)) (hnc : n ≤ cap) (hcm : cap ≤ maxLen) (hz : ∀ i, i < 16 → z i < 256) (hh : ∀ i, i < 16 → h i < 256) (hby : ∀ x ∈ b, x < 256) :
    Calls Try.prog 75 #[.agg (rw8 16 z), .agg (rw8 16 h), .slice a n cap] w fun e w' => e = .returned (.agg (rw8 16 (fo h b z))) ∧ Below w.heap.size w w' := by
  have hl : b.length = n := by have := hb.1; rwa [ic_length] at this
  have HL := hid hl
  have HZ := hid hz
  have HH := hid hh
  have HBY := hid hby
  clear hl hz hh hby
  unfold maxLen at hcm
  obtain ⟨A0, A1, A2, B0⟩ := rnew3 w 96 16 z 96 16 h 96 16 (fun _ => 0)
  go_enter Try.func75, Try.ntmps75
  go_wp2_with (refine wpList_al rfl _ rfl 16 (by exact zeroa) ?_)
  simp only [Act.put, List.setIfInBounds_toArray, List.set_cons_zero, List.set_cons_succ, World.size_alloc]
  generalize ((w.alloc (.cells (rw8 16 z) 96)).alloc (.cells (rw8 16 h) 96)).alloc (.cells (rw8 16 fun _ => 0) 96) = w1 at *
  go_loopw [2] (fun v wr => ∃ (r m c : Nat) (a' : Option Addr), r ≤ (n + 15) / 16 ∧ m = n - 16 * r ∧ m ≤ c ∧ c ≤ 9223372036854775807 ∧ v = .slice a' m c ∧ Bs w a' m (ic (b.drop (16 * r))) ∧ Rw wr w.heap.size 96 16 (fd h b z r) ∧ Rw wr (w.heap.size + 1) 96 16 h ∧ Rw wr (w.heap.size + 1 + 1) 96 16 (fun _ => 0) ∧ Below w.heap.size w wr) (fun v _ => match v with | .slice _ m _ => m | _ => 0)
  case atStart => exact ⟨0, n, cap, a, by omega, by omega, hnc, by omega, rfl, by rw [Nat.mul_zero, List.drop_zero]; exact hb, A0, A1, A2, B0⟩
  case round =>
    clear A0 A1 A2 B0 hb
    obtain ⟨r, m, c, a', hr, hm, hmc, hcc, rfl, hb, a0, a1, a2, b0⟩ := hrel
    by_cases hlt : 0 < m
    · have hlI : (0 : Int) < (m : Int) := by omega
      obtain ⟨mm, emm, hmm, hm16, hor⟩ := min_le m
      have hyd : ∀ x ∈ b.drop (16 * r), x < 256 := fun x hx => HBY.out x (List.mem_of_mem_drop hx)
      have hv := fd_lt (h := h) (b := b) HZ.out r
      have kf := fun w hb => firstBlock_ a' m c mm (b.drop (16 * r)) w hb (by unfold maxLen; omega) emm
      have kx := fun w => xor16_ (fd h b z r) (fb (b.drop (16 * r))) w hv (fun i _ => fb_lt hyd i)
      rw [rw8_ext (g := zx (fd h b z r) b r) (fun i _ => xr_zx (fd h b z r) b r i)] at kx
      have km := fun w => mulA_ (zx (fd h b z r) b r) h w (zx_lt hv HBY.out r) HH.out
      rw [show gm (zx (fd h b z r) b r) h = fd h b z (r + 1) from rfl] at km
      obtain ⟨a2', ha2, hb2⟩ : ∃ a2', (if c = mm then a' else Option.map (fun x => x.add mm) a') = a2' ∧ Bs w a2' (m - mm) (ic (b.drop (16 * (r + 1)))) := by
        refine ⟨_, rfl, ?_⟩
        have := bs_rest hb hmc hmm
        rw [List.drop_drop] at this
        rcases hor with e | e
        · refine ⟨?_, ?_, .inl (by omega)⟩
          · rw [ic_length, List.length_drop, HL.out]; omega
          · exact ic_bytes fun x hx => HBY.out x (List.mem_of_mem_drop hx)
        · rw [show 16 * (r + 1) = 16 * r + mm from by omega]; exact this
      obtain ⟨n1, Hn1⟩ : ∃ n1, Hid (fd h b z (r + 1) = n1) := ⟨_, rfl⟩
      rw [Hn1.out] at km
      generalize zx (fd h b z r) b r = v1 at *
      generalize fd h b z r = v at *
      generalize fb (b.drop (16 * r)) = blk at *
      have hbr := hb.below b0
      have H2 : Hid (Bs w a2' (m - mm) (ic (b.drop (16 * (r + 1))))) := hb2
      have HM := hid hm
      have HOR := hid hor
      clear hv hyd hb hb2 emm hm hor
      go_wp2_with fail
      refine (kf _ hbr).mono ?_
      rintro e w2 ⟨rfl, g2⟩
      have A0 := a0.kept g2
      have A1 := a1.kept g2
      have A2 := a2.kept g2
      have b0 := bel_bel b0 b0.size g2
      have hgb := A2.lt
      clear g2 kf a0 a1 a2 hbr
      have a0 := A0.alloc (.cells (rw8 16 blk) 96)
      have a1 := A1.alloc (.cells (rw8 16 blk) 96)
      have a2 := A2.alloc (.cells (rw8 16 blk) 96)
      have a3 := Rw.new w2 96 16 blk
      have b0 := b0.alloc b0.size (.cells (rw8 16 blk) 96)
      clear A0 A1 A2
      go_wp2_with (first | (refine wpList_al rfl _ rfl 16 (by exact zeroa) ?_) | (refine wpList_stnr rfl rfl _ _ rfl _ _ blk rfl rfl rfl (by simp [rw8_size]) ?_))
      generalize w2.heap.size = gb at *
      generalize w2.alloc (.cells (rw8 16 blk) 96) = w3 at *
      refine wp_region_held_drew (S := fun wx => Rw wx (w.heap.size + 1) 96 16 h ∧ Rw wx gb 96 16 blk) (by kernel_rfl) ⟨a1.drew, a3.drew⟩ (fun hHeld => ?_)
      have a0 := a0.drew
      have a1 := a1.drew
      have a2 := a2.drew
      have a3 := a3.drew
      have b0 := bel_drew1 b0
      generalize w3.drew = wd at *
      refine take_to 1 18 (.agg (rw8 16 blk)) rfl rfl (by kernel_rfl) (by kernel_rfl) (by kernel_rfl) (fun _ _ _ h => h) (yields_rng (by rfl) _ _ rfl (gb) 0 16 _ rfl (fun w' h => h.2.rng0) _ under16 rfl size16) hHeld ?_
      try simp only [List.setIfInBounds_toArray, List.set_cons_zero, List.set_cons_succ]
      refine take_to 3 20 (.agg (rw8 16 h)) rfl rfl (by kernel_rfl) (by kernel_rfl) (by kernel_rfl) (fun _ _ _ h => h) (yields_rng (by rfl) _ _ rfl (w.heap.size + 1) 0 16 _ rfl (fun w' h => h.1.rng0) _ under16 rfl size16) hHeld ?_
      try simp only [List.setIfInBounds_toArray, List.set_cons_zero, List.set_cons_succ]
      refine wpAnyH_ready (rs := [0]) (by kernel_rfl) (by simp) ?_
      refine AllReadyH.cons rfl (fun K hK => ?_) AllReadyH.nil
      rw [if_pos (by rfl)]
      refine wp_ldw (some 17) rfl _ _ rfl _ rfl _ 16 _ (by with_reducible exact a0) _ under16 rfl size16 ?_
      refine hK.out _ _ ⟨a1, a3⟩ (fun hHeld => ?_)
      clear hK K
      try simp only [Act.put, List.setIfInBounds_toArray, List.set_cons_zero, List.set_cons_succ]
      refine wpAnyH_ready (rs := [2]) (by kernel_rfl) (by simp) ?_
      refine AllReadyH.cons rfl (fun K hK => ?_) AllReadyH.nil
      rw [if_pos (by rfl)]
      go_wp2_with fail
      refine (kx _).mono ?_
      rintro e wa ⟨rfl, g2⟩
      have a0 := a0.kept g2
      have a1 := a1.kept g2
      have a2 := a2.kept g2
      have a3 := a3.kept g2
      have b0 := bel_bel b0 b0.size g2
      clear g2 hHeld
      try go_wp2_with fail
      refine hK.out _ _ ⟨a1, a3⟩ (fun hHeld => ?_)
      clear hK K
      try simp only [Act.put, List.setIfInBounds_toArray, List.set_cons_zero, List.set_cons_succ]
      refine wpAnyH_ready (rs := [4]) (by kernel_rfl) (by simp) ?_
      refine AllReadyH.cons rfl (fun K hK => ?_) AllReadyH.nil
      rw [if_pos (by rfl)]
      go_wp2_with fail
      refine (km _).mono ?_
      rintro e wb ⟨rfl, g2⟩
      have a0 := a0.kept g2
      have a1 := a1.kept g2
      have a2 := a2.kept g2
      have a3 := a3.kept g2
      have b0 := bel_bel b0 b0.size g2
      clear g2 hHeld
      try go_wp2_with fail
      refine hK.out _ _ ⟨a1, a3⟩ (fun hHeld => ?_)
      clear hK K
      try simp only [Act.put, List.setIfInBounds_toArray, List.set_cons_zero, List.set_cons_succ]
      refine wpAnyH_ready (rs := [5]) (by kernel_rfl) (by simp) ?_
      refine AllReadyH.cons rfl (fun K hK => ?_) AllReadyH.nil
      rw [if_pos (by rfl)]
      refine wp_stm rfl _ _ _ rfl (w.heap.size) 0 rfl 16 n1 rfl _ _ _ (by with_reducible exact a0) (by omega) size16 ?_
      have a1 := a1.omid (g' := w.heap.size) (by omega) 0 (rw8 16 n1).toList
      have a2 := a2.omid (g' := w.heap.size) (by omega) 0 (rw8 16 n1).toList
      have a3 := a3.omid (g' := w.heap.size) (by omega) 0 (rw8 16 n1).toList
      have a0 := a0.whole n1
      have b0 := bel_cells (B := w.heap.size) (g := w.heap.size) (by omega) (rw8 16 n1).toList 0 _ b0
      refine hK.out _ _ ⟨a1, a3⟩ (fun hHeld => ?_)
      clear hK K
      try simp only [Act.put, List.setIfInBounds_toArray, List.set_cons_zero, List.set_cons_succ]
      generalize wb.setCells (w.heap.size) 0 (rw8 16 n1).toList = we at *
      refine wpAnyH_done (by kernel_rfl) ?_ _
      clear hHeld kx km a3
      have hmI : (mm : Int) ≤ (m : Int) := by omega
      have hmcI : (m : Int) ≤ (c : Int) := by omega
      go_wp2_with fail
      go_roundw
      case rel => exact ⟨r + 1, m - mm, c - mm, a2', by have := HM.out; omega, by have := HM.out; rcases HOR.out with h | h <;> omega, by omega, by omega, rfl, H2.out, by rw [Hn1.out]; exact a0, a1, a2, b0⟩
      case measure => show m - mm < m; rcases HOR.out with h | h <;> omega
    · have hge : ¬ (0 : Int) < (m : Int) := by omega
      have e : fd h b z r = fo h b z := by unfold fo; rw [HL.out, show r = (n + 15) / 16 from by omega]
      rw [e] at a0
      clear e hm hb
      obtain ⟨f, Hf⟩ : ∃ f, Hid (fo h b z = f) := ⟨_, rfl⟩
      rw [Hf.out] at a0
      go_wp2_with (first | (refine wpList_ldw rfl _ _ rfl _ rfl _ _ 16 _ (by with_reducible exact a0) (by omega) _ (by exact under16) rfl (by exact size16) ?_) | (refine wpList_stm rfl rfl _ _ _ rfl (w.heap.size + 1 + 1) 0 rfl 16 f rfl _ _ _ (by with_reducible exact a2) (by omega) (by exact size16) ?_))
      refine bodyPost_ret (v := .agg (rw8 16 f)) ?_ rfl ⟨by rw [Hf.out], bel_cells (by omega) _ _ _ b0⟩
      exact results_rw rfl _ _ (w.heap.size + 1 + 1) 16 f _ rfl (a2.whole _) under16 rfl size16
end Go.Proofs.Ytnjfckijpbgagaa
