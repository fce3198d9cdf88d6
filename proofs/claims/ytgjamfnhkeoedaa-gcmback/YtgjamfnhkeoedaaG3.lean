import Derived.Test.YtgjamfnhkeoedaaG2
namespace Go.Proofs.Ytgjamfnhkeoedaa
open Go.RowKit
set_option linter.unusedVariables false

/-- The stream's counter. -/
def Ct (w : World) (g n : Nat) : Prop := w.heap[g]? = some (.cells #[.int .u64 n] 61 (0, 0))
theorem Ct.lt {w : World} {g n : Nat} (h : Ct w g n) : g < w.heap.size := (Array.getElem?_eq_some_iff.1 h).1
theorem Ct.cell {w : World} {g n : Nat} (h : Ct w g n) : w.cell? ⟨g, 0, none⟩ = some (.int .u64 n) := (cell_of_row w g 0 _ _ (0, 0) h).trans rfl
theorem Ct.fz {w : World} {g n : Nat} (h : Ct w g n) (i : Nat) : w.frozen? ⟨g, i, none⟩ = false := by unfold Ct at h; simp [World.frozen?, h]
theorem Ct.kept {w w' : World} {g n : Nat} (h : Ct w g n) (hb : Below w.heap.size w w') : Ct w' g n := by
  have := h.lt
  unfold Ct at *; rw [hb.block g this]; exact h
theorem Ct.alloc {w : World} {g n : Nat} (h : Ct w g n) (o : Obj) : Ct (w.alloc o) g n := by
  have := h.lt
  unfold Ct at *; rw [Below.heap_alloc _ _ _ this]; exact h
theorem Ct.omid {w : World} {g g' n : Nat} (h : Ct w g n) (hn : g ≠ g') (o : Nat) (vs : List Value) : Ct (w.setCells g' o vs) g n := by
  unfold Ct at *; rw [heap_setCells_other g' g hn]; exact h
theorem Ct.set {w : World} {g n : Nat} (h : Ct w g n) (m : Nat) : Ct (w.setCell ⟨g, 0, none⟩ (.int .u64 m)) g m := by
  unfold Ct at *; simp [World.setCell, Array.getElem?_modify, h]
theorem Ct.new (w : World) (n : Nat) : Ct (w.alloc (.cells #[.int .u64 n] 61)) w.heap.size n := heap_alloc_new w _
set_option maxHeartbeats 400000 in
theorem stream_ (gc : Nat) (f : Nat → Nat) (w : World) :
    Calls Try.prog 25 #[.agg (sv gc f)] w fun e w' => e = .returned (.func (.func 40) #[] #[.pointer (some ⟨w.heap.size, 0, none⟩), .pointer (some ⟨w.heap.size + 1, 0, none⟩)]) ∧ Se w' w.heap.size gc f ∧ Ct w' (w.heap.size + 1) 2 ∧ Below w.heap.size w w' := by
  have hmf : ∀ fn first cap w, (Instr.makeFunc fn first cap).run Try.prog w = .ok (.func fn first cap) w := fun _ _ _ _ => rfl
  go_enter Try.func25, Try.ntmps25
  go_wp2_with fail
  go_ret
  have h1 := (Below.refl w.heap.size w).alloc (Nat.le_refl _) (.cells (sv gc f) 41)
  refine ⟨rfl, (Se.new w gc f).alloc _, ?_, h1.alloc (by simp) _⟩
  have := Ct.new (w.alloc (.cells (sv gc f) 41)) 2
  simpa using this

theorem unders : (Try.prog.underlying 41).map TypeDesc.isRow = some true := by kernel_rfl
theorem wpList_lds {ops : Array Oper} {rest : List Oper} {o : Oper} {a : Act} {w : World} {Q : Exit → Act → World → Prop} (hgd : o.guard = none) (x : Operand) (ho : o.op = .load 41 x)
    (g : Nat) (hx : a.eval x = .pointer (some ⟨g, 0, none⟩)) (gc : Nat) (f : Nat → Nat) (hg : Se w g gc f)
    (h : wpList Try.prog ops Q rest (a.put o.dst (.agg (sv gc f))) w) : wpList Try.prog ops Q (o :: rest) a w := by
  obtain ⟨d, hu, hd⟩ := Option.map_eq_some_iff.1 unders
  exact wpList_load_row hgd _ x ho g hx _ _ (0, 0) d hg hu (by cases d <;> first | rfl | exact absurd hd (by simp)) (by rw [sv_size]; exact sizes) h
/-- A store into the variable that was made just ahead. -/
theorem wpList_stnr {ops : Array Oper} {rest : List Oper} {o : Oper} {a : Act} {w : World} {Q : Exit → Act → World → Prop} (hgd : o.guard = none) (hd : o.dst = none) (x y : Operand) (ho : o.op = .store 44 x y)
    (old : Array Value) (g : Nat) (f : Nat → Nat) (hx : a.eval x = .pointer (some ⟨g, 0, none⟩)) (hy : a.eval y = .agg (rw8 16 f)) (hg : w.heap.size = g) (hs : old.size = 16)
    (h : wpList Try.prog ops Q rest a (w.alloc (.cells (rw8 16 f) 44))) : wpList Try.prog ops Q (o :: rest) a (w.alloc (.cells old 44)) :=
  wpList_stna hgd hd x y ho old g f hx hy hg hs h
theorem grown_below {w w' : World} (h : Below w.heap.size w w') (r : Option Nat) : w.grownBy w' r := ⟨h.os, h.tape, h.output, h.size, fun k hk _ => h.block k hk⟩
theorem grown_cells {w : World} {g : Nat} {r : Option Nat} (hg : w.heap.size ≤ g) : ∀ (vs : List Value) (o : Nat) (w' : World), w.grownBy w' r → w.grownBy (w'.setCells g o vs) r
  | [], _, _, h => h
  | v :: rs, o, w', h => by
    rw [World.setCells]
    exact grown_cells hg rs (o + 1) _ ⟨h.os, h.tape, h.output, by simpa [World.setCell] using h.size, fun k hk hn => (Below.heap_setCell w' ⟨g, o, none⟩ v k (by show k ≠ g; omega)).trans (h.block k hk hn)⟩
set_option maxHeartbeats 1000000 in
theorem stream1_ (gs gn gc n : Nat) (k : Nat → Nat) (nz : List Nat) (w : World) (S0 : Se w gs gc (fb nz)) (C0 : Ct w gn n) (cc : Cp w gc k) (hk : ∀ j, k j < 256) (hl : nz.length = 12) (hy : ∀ x ∈ nz, x < 256) (hn : n < 2 ^ 32) (hne : gs ≠ gn) :
    Calls Try.prog 40 #[.pointer (some ⟨gs, 0, none⟩), .pointer (some ⟨gn, 0, none⟩)] w fun e w' => e = .returned (.agg (rw8 16 (bl k (cb nz n) 14))) ∧ Ct w' gn (n + 1) ∧ w.grownBy w' (some gn) := by
  have hgn := C0.lt
  have kc := fun w cc => counted_ gc n k nz w cc hk hl hy (by omega)
  obtain ⟨z, Hz⟩ : ∃ z, Hid (bl k (cb nz n) 14 = z) := ⟨_, rfl⟩
  rw [Hz.out] at kc
  obtain ⟨A0, B0⟩ := rnew1 w 44 16 (fun _ => 0)
  have S0 := S0.kept B0
  have C0 := C0.kept B0
  have cc := cc.kept B0
  have c1 := C0.cell
  go_enter Try.func40, Try.ntmps40
  go_wp2_with (first | (refine wpList_al rfl _ rfl 16 (by exact zeroa) ?_) | (refine wpList_lds rfl _ rfl gs rfl gc (fb nz) (by with_reducible exact S0) ?_))
  refine (kc _ cc).mono ?_
  rintro e w1 ⟨rfl, g1⟩
  have A0 := A0.kept g1
  have C0 := C0.kept g1
  have B0 := bel_bel B0 B0.size g1
  have A0lt := A0.lt
  clear g1 c1 kc cc S0
  have A1 := Rw.new w1 44 16 z
  have A0 := A0.alloc (.cells (rw8 16 z) 44)
  have C0 := C0.alloc (.cells (rw8 16 z) 44)
  have hlt : w.heap.size + 1 ≤ w1.heap.size := A0lt
  have B0 := B0.alloc B0.size (.cells (rw8 16 z) 44)
  have c1 := C0.cell
  have f1 := C0.fz 0
  have A1' := A1.other (g' := gn) (by omega) 0 (.int .u64 ((n : Int) + 1))
  have A0' := A0.other (g' := gn) (by omega) 0 (.int .u64 ((n : Int) + 1))
  have C1 := C0.set (n + 1)
  rw [show ((n + 1 : Nat) : Int) = (n : Int) + 1 from by omega] at C1
  have G1 := grown_set (grown_below B0 (some gn)) 0 (.int .u64 ((n : Int) + 1))
  go_wp2_with (first | (refine wpList_al rfl _ rfl 16 (by exact zeroa) ?_) | (refine wpList_stnr rfl rfl _ _ rfl _ _ z rfl rfl rfl (by simp [rw8_size]) ?_) | (refine wpList_ldw rfl _ _ rfl _ rfl _ _ 16 _ (by with_reducible exact A1') (by omega) _ (by exact under16) rfl (by exact size16) ?_) | (refine wpList_stm rfl rfl _ _ _ rfl w.heap.size 0 rfl 16 z rfl _ _ _ (by with_reducible exact A0') (by omega) (by exact size16) ?_))
  refine bodyPost_ret (v := .agg (rw8 16 z)) ?_ rfl ⟨by rw [← Hz.out], C1.omid (by omega) _ _, grown_cells (Nat.le_refl _) _ _ _ G1⟩
  exact results_rw rfl _ _ w.heap.size 16 z _ rfl (A0'.whole _) under16 rfl size16
end Go.Proofs.Ytgjamfnhkeoedaa
