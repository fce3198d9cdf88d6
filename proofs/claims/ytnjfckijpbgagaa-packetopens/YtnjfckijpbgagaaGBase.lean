import Derived.Test.YtnjfckijpbgagaaCodeM
import Derived.Deep.RegionLaw
import Derived.Deep.RegionHeld
import Derived.Test.YtnjfckijpbgagaaRefG
import Derived.Test.YtnjfckijpbgagaaCPiece
import Derived.Test.YtnjfckijpbgagaaMul
namespace Go.Proofs.Ytnjfckijpbgagaa
set_option maxRecDepth 100000
open Go.RowKit
set_option linter.unusedVariables false

theorem undersl : Try.prog.underlying 22 = some (.slice 5) := by kernel_rfl
theorem run_all4 (g : Nat) (w : World) : (Instr.sliceAt 148 (.pointer (some ⟨g, 0, none⟩)) none none none).run Try.prog w = .ok (.slice (some ⟨g, 0, none⟩) 4 4) w := by
  simp only [Instr.sliceAt, Sem.run_bind, run_underlying underw, Result.andThen_ok, Instr.sureAddr, Sem.run_pure, Instr.sliceBounds, run_sizeOf size1, Addr.add_mid]
  rfl
set_option maxHeartbeats 400000 in
theorem joinColumns_ (f : Nat → Nat) (w : World) :
    Calls Try.prog 111 #[.agg (rw8 16 f)] w fun e w' => e = .returned (.agg (rw8 16 f)) ∧ Below w.heap.size w w' := by
  obtain ⟨A0, A1, A2, B0⟩ := rnew3 w 160 16 f 96 16 (fun _ => 0) 96 16 (fun _ => 0)
  go_enter Try.func111, Try.ntmps111
  go_wp2_with (first | (refine wpList_al rfl _ rfl 16 (by exact zeroa) ?_) | (refine wpList_ldw rfl _ _ rfl _ rfl _ _ 16 _ (by with_reducible exact A0) (by omega) _ (by exact underws) rfl (by exact sizews) ?_))
  generalize ((w.alloc (.cells (rw8 16 f) 160)).alloc (.cells (rw8 16 fun _ => 0) 96)).alloc (.cells (rw8 16 fun _ => 0) 96) = w1 at *
  go_loopw [7] (fun i wr => ∃ j : Nat, j ≤ 4 ∧ i = .int .i64 j ∧ Rw wr (w.heap.size + 1) 96 16 (fun _ => 0) ∧ Rw wr (w.heap.size + 1 + 1) 96 16 (mix (4 * j) f fun _ => 0) ∧ Below w.heap.size w wr) (fun i _ => 4 - (intOf i).toNat)
  case atStart => exact ⟨0, by omega, rfl, A1, by rw [Nat.mul_zero, mix0]; exact A2, B0⟩
  case round =>
    obtain ⟨j, hj, rfl, a1, a2, b0⟩ := hrel
    clear A0 A1 A2 B0
    by_cases hlt : j < 4
    · have ix := fun w => run_idxm 160 4 148 4 16 f j w underws rfl _ _ underw sizew hlt
      have sl := fun w' => run_cutl 96 16 5 under16 size1 (w.heap.size + 1 + 1) j (by omega) w'
      have sa := run_all4
      have hs := b0.size
      have l2 := a2.lt
      have AN := Rw.new wr 148 4 (fun _ => 0)
      go_wp2_with (first | (refine wpList_al rfl _ rfl 4 (by exact zerow) ?_) | (refine wpList_stm rfl rfl _ _ _ rfl wr.heap.size 0 rfl 4 (from8 (4 * j) f) rfl _ _ _ (by with_reducible exact AN) (by omega) (by exact sizew) ?_))
      have a1 := (a1.alloc (.cells (rw8 4 fun _ => 0) 148)).omid (g' := wr.heap.size) (by omega) 0 (rw8 4 (from8 (4 * j) f)).toList
      have a2 := (a2.alloc (.cells (rw8 4 fun _ => 0) 148)).omid (g' := wr.heap.size) (by omega) 0 (rw8 4 (from8 (4 * j) f)).toList
      have a3 := AN.whole (from8 (4 * j) f)
      have b0 : Below w.heap.size w ((wr.alloc (.cells (rw8 4 fun _ => 0) 148)).setCells wr.heap.size 0 (rw8 4 (from8 (4 * j) f)).toList) := bel_cells (by omega) _ _ _ (b0.alloc (by omega) _)
      generalize wr.heap.size = gc at *
      generalize (wr.alloc (.cells (rw8 4 fun _ => 0) 148)).setCells gc 0 (rw8 4 (from8 (4 * j) f)).toList = w2 at *
      have a1 := a1.drew
      have a2 := a2.drew
      have a3 := a3.drew
      have b0 := bel_drawn b0 1
      rw [show w2.drewN 1 = w2.drew from rfl] at b0
      have ew : IntKind.i64.wrap (4 * (j : Int)) = 4 * (j : Int) := by rw [IntKind.wrap_i64]; omega
      clear AN l2
      go_region_law (refine step_cp rfl _ _ _ _ rfl _ undersl size1 _ _ _ _ _ _ _ rfl rfl (by omega) _ _ _ (by with_reducible exact a2) (by omega) _ _ (by with_reducible exact a3) ?_)
      have A1 := a1.omid (g' := w.heap.size + 1 + 1) (by omega) (4 * j) (rw8 4 (from8 (4 * j) f)).toList
      have A2 := a2.stepm
      have B3 := bel_cells (B := w.heap.size) (g := w.heap.size + 1 + 1) (by omega) (rw8 4 (from8 (4 * j) f)).toList (4 * j) _ b0
      clear a1 a2 a3 b0
      generalize w2.drew.setCells (w.heap.size + 1 + 1) (4 * j) (rw8 4 (from8 (4 * j) f)).toList = w3 at *
      go_wp2_with fail
      go_roundw
      case rel => exact ⟨j + 1, by omega, by go_num, A1, A2, B3⟩
      case measure => simp [intOf]; omega
    · obtain rfl : j = 4 := by omega
      have a2 := a2.full
      go_wp2_with (first | (refine wpList_ldw rfl _ _ rfl _ rfl _ _ 16 _ (by with_reducible exact a2) (by omega) _ (by exact under16) rfl (by exact size16) ?_) | (refine wpList_stm rfl rfl _ _ _ rfl (w.heap.size + 1) 0 rfl 16 f rfl _ _ _ (by with_reducible exact a1) (by omega) (by exact size16) ?_))
      refine bodyPost_ret (v := .agg (rw8 16 f)) ?_ rfl ⟨rfl, bel_cells (by omega) _ _ _ b0⟩
      exact results_rw rfl _ _ (w.heap.size + 1) 16 f _ rfl (a1.whole _) under16 rfl size16
/-- The columns mixed. -/
def mxc (f : Nat → Nat) : Nat → Nat := fun i => mc (from8 (4 * (i / 4)) f) (i % 4)
theorem mxc_part (f : Nat → Nat) (j : Nat) : rw8 4 (from8 (4 * j) (mxc f)) = rw8 4 (mc (from8 (4 * j) f)) := rw8_ext fun i hi => by
  unfold from8 mxc
  rw [show (4 * j + i) / 4 = j from by omega, show (4 * j + i) % 4 = i from by omega]
  rfl
theorem xc (a b : Nat) : a ^^^ (a ^^^ b) = b := by rw [← Nat.xor_assoc, Nat.xor_self, Nat.zero_xor]
theorem xlc (a b c : Nat) : a ^^^ (b ^^^ c) = b ^^^ (a ^^^ c) := by rw [← Nat.xor_assoc, Nat.xor_comm a b, Nat.xor_assoc]
theorem mc_at (a b c d m n : Nat) (p : Nat) (h : p ^^^ a = b ^^^ c ^^^ d) : m ^^^ n ^^^ p ^^^ a = m ^^^ n ^^^ b ^^^ c ^^^ d := by
  rw [Nat.xor_assoc _ p a, h]
  simp only [Nat.xor_assoc]
theorem mc_col (f : Nat → Nat) (c r : Nat) (hr : r < 4) : mc (from8 (4 * c) f) r = mul8 2 (f (4 * c + r)) ^^^ mul8 2 (f (4 * c + (r + 1) % 4)) ^^^ f (4 * c + (r + 1) % 4) ^^^ f (4 * c + (r + 2) % 4) ^^^ f (4 * c + (r + 3) % 4) := by
  unfold mc
  rw [mul8_xor]
  refine mc_at _ _ _ _ _ _ _ ?_
  unfold al from8
  obtain rfl | rfl | rfl | rfl : r = 0 ∨ r = 1 ∨ r = 2 ∨ r = 3 := by omega
  all_goals
    simp only [Nat.reduceAdd, Nat.reduceMod]
    generalize f (4 * c + 0) = x0
    generalize f (4 * c + 1) = x1
    generalize f (4 * c + 2) = x2
    generalize f (4 * c + 3) = x3
    simp only [Nat.xor_comm, xlc, xc, Nat.xor_self, Nat.xor_zero]
theorem mxc_mx (f : Nat → Nat) : ∀ i, i < 16 → mxc f i = mx f i := fun i hi => by
  have := mc_col f (i / 4) (i % 4) (by omega)
  rw [show 4 * (i / 4) + i % 4 = i from by omega] at this
  exact this
theorem from8_lt {f : Nat → Nat} (hf : ∀ i, i < 16 → f i < 256) {j : Nat} (hj : j < 4) : ∀ i, i < 4 → from8 (4 * j) f i < 256 := fun i hi => hf _ (by omega)
set_option maxHeartbeats 1000000 in
theorem mixColumns_ (f : Nat → Nat) (w : World) (hf : ∀ i, i < 16 → f i < 256) :
    Calls Try.prog 97 #[.agg (rw8 16 f)] w fun e w' => e = .returned (.agg (rw8 16 (mx f))) ∧ Below w.heap.size w w' := by
  have k1 := fun w => splitColumns_ f w
  have HM : Hid (rw8 16 (mxc f) = rw8 16 (mx f)) := rw8_ext (mxc_mx f)
  have HF := hid hf
  clear hf
  obtain ⟨A0, A1, B0⟩ := rnew2 w 96 16 f 96 16 (fun _ => 0)
  go_enter Try.func97, Try.ntmps97
  go_wp2_with (first | (refine wpList_al rfl _ rfl 16 (by exact zeroa) ?_) | (refine wpList_ldw rfl _ _ rfl _ rfl _ _ 16 _ (by with_reducible exact A0) (by omega) _ (by exact under16) rfl (by exact size16) ?_))
  generalize (w.alloc (.cells (rw8 16 f) 96)).alloc (.cells (rw8 16 fun _ => 0) 96) = w1 at *
  have S0 := B0.size
  have l1 := A1.lt
  refine (k1 _).mono ?_
  rintro e w2 ⟨rfl, g⟩
  have sg := g.size
  have AN := Rw.new w2 160 16 (fun _ => 0)
  have A1 := ((A1.kept g).alloc (.cells (rw8 16 fun _ => 0) 160)).omid (g' := w2.heap.size) (by omega) 0 (rw8 16 f).toList
  have A2 := AN.whole f
  have B0 := bel_bel B0 S0 g
  have S0 := B0.size
  have B0 : Below w.heap.size w ((w2.alloc (.cells (rw8 16 fun _ => 0) 160)).setCells w2.heap.size 0 (rw8 16 f).toList) := bel_cells (by omega) _ _ _ (B0.alloc (by omega) _)
  clear k1 g A0
  go_wp2_with (first | (refine wpList_al rfl _ rfl 16 (by exact zerows) ?_) | (refine wpList_stm rfl rfl _ _ _ rfl w2.heap.size 0 rfl 16 f rfl _ _ _ (by with_reducible exact AN) (by omega) (by exact sizews) ?_) | (refine wpList_ldw rfl _ _ rfl _ rfl _ _ 16 _ (by with_reducible exact A2) (by omega) _ (by exact underws) rfl (by exact sizews) ?_))
  have hgc : w.heap.size + 1 < w2.heap.size := by omega
  clear AN sg l1 S0
  generalize w2.heap.size = gc at *
  generalize (w2.alloc (.cells (rw8 16 fun _ => 0) 160)).setCells gc 0 (rw8 16 f).toList = w3 at *
  go_loopw [9] (fun i wr => ∃ j : Nat, j ≤ 4 ∧ i = .int .i64 j ∧ Rw wr (w.heap.size + 1) 96 16 (fun _ => 0) ∧ Rw wr gc 160 16 (mix (4 * j) (mxc f) f) ∧ Below w.heap.size w wr) (fun i _ => 4 - (intOf i).toNat)
  case atStart => exact ⟨0, by omega, rfl, A1, by rw [Nat.mul_zero, mix0]; exact A2, B0⟩
  case round =>
    obtain ⟨j, hj, rfl, a1, a2, b0⟩ := hrel
    clear A1 A2 B0
    by_cases hlt : j < 4
    · have ix := fun w => run_idxm 160 4 148 4 16 f j w underws rfl _ _ underw sizew hlt
      have k2 := fun w => mixColumn_ (from8 (4 * j) f) w (from8_lt HF.out hlt)
      have HP := hid (mxc_part f j)
      have hs := b0.size
      have l2 := a2.lt
      have AN := Rw.new wr 148 4 (fun _ => 0)
      have a3 := AN.whole (from8 (4 * j) f)
      go_wp2_with (first | (refine wpList_al rfl _ rfl 4 (by exact zerow) ?_) | (refine wpList_stm rfl rfl _ _ _ rfl wr.heap.size 0 rfl 4 (from8 (4 * j) f) rfl _ _ _ (by with_reducible exact AN) (by omega) (by exact sizew) ?_) | (refine wpList_ldw rfl _ _ rfl _ rfl _ _ 4 _ (by with_reducible exact a3) (by omega) _ (by exact underw) rfl (by exact sizew) ?_))
      have a1 := (a1.alloc (.cells (rw8 4 fun _ => 0) 148)).omid (g' := wr.heap.size) (by omega) 0 (rw8 4 (from8 (4 * j) f)).toList
      have a2 := (a2.alloc (.cells (rw8 4 fun _ => 0) 148)).omid (g' := wr.heap.size) (by omega) 0 (rw8 4 (from8 (4 * j) f)).toList
      have b0 : Below w.heap.size w ((wr.alloc (.cells (rw8 4 fun _ => 0) 148)).setCells wr.heap.size 0 (rw8 4 (from8 (4 * j) f)).toList) := bel_cells (by omega) _ _ _ (b0.alloc (by omega) _)
      generalize wr.heap.size = gw at *
      generalize (wr.alloc (.cells (rw8 4 fun _ => 0) 148)).setCells gw 0 (rw8 4 (from8 (4 * j) f)).toList = w4 at *
      have s0 := b0.size
      clear AN a3 hs l2
      refine (k2 _).mono ?_
      rintro e w5 ⟨rfl, g⟩
      have a1 := a1.kept g
      have a2 := a2.kept g
      have b0 := bel_bel b0 s0 g
      clear g k2 s0
      go_wp2_with (refine wpList_stm rfl rfl _ _ _ rfl gc (j * 4) rfl 4 (mc (from8 (4 * j) f)) rfl _ _ _ (by with_reducible exact a2) (by omega) (by exact sizew) ?_; rw [Nat.mul_comm j 4])
      have A1 := a1.omid (g' := gc) (by omega) (4 * j) (rw8 4 (mc (from8 (4 * j) f))).toList
      have A2 := a2.stepm
      rw [HP.out] at A2
      have B3 := bel_cells (B := w.heap.size) (g := gc) (by omega) (rw8 4 (mc (from8 (4 * j) f))).toList (4 * j) _ b0
      clear a1 a2 b0 HP
      generalize w5.setCells gc (4 * j) (rw8 4 (mc (from8 (4 * j) f))).toList = w6 at *
      go_roundw
      case rel => exact ⟨j + 1, by omega, by go_num, A1, A2, B3⟩
      case measure => simp [intOf]; omega
    · obtain rfl : j = 4 := by omega
      have a2 := a2.full
      have k3 := fun w => joinColumns_ (mxc f) w
      have s0 := b0.size
      go_wp2_with (refine wpList_ldw rfl _ _ rfl _ rfl _ _ 16 _ (by with_reducible exact a2) (by omega) _ (by exact underws) rfl (by exact sizews) ?_)
      refine (k3 _).mono ?_
      rintro e w7 ⟨rfl, g⟩
      have a1 := a1.kept g
      have b0 := bel_bel b0 s0 g
      clear g k3 s0
      go_wp2_with (refine wpList_stm rfl rfl _ _ _ rfl (w.heap.size + 1) 0 rfl 16 (mxc f) rfl _ _ _ (by with_reducible exact a1) (by omega) (by exact size16) ?_)
      refine bodyPost_ret (v := .agg (rw8 16 (mxc f))) ?_ rfl ⟨by rw [HM.out], bel_cells (by omega) _ _ _ b0⟩
      exact results_rw rfl _ _ (w.heap.size + 1) 16 (mxc f) _ rfl (a1.whole _) under16 rfl size16
end Go.Proofs.Ytnjfckijpbgagaa
namespace Go.Proofs.Ytnjfckijpbgagaa
set_option maxRecDepth 100000
open Go.RowKit
set_option linter.unusedVariables false

/-- The code's cipher at block g, with these round keys. -/
def Cp (w : World) (g : Nat) (k : Nat → Nat) : Prop := ∃ F, Rw w g 146 496 F ∧ (∀ x, x < 256 → F x = sbx x) ∧ ∀ j, j < 240 → F (256 + j) = k j
theorem Cp.lt {w : World} {g : Nat} {k : Nat → Nat} (h : Cp w g k) : g < w.heap.size := by obtain ⟨F, h, _⟩ := h; exact h.lt
theorem Cp.same {w w' : World} {g : Nat} {k : Nat → Nat} (h : Cp w g k) (he : w'.heap[g]? = w.heap[g]?) : Cp w' g k := by
  obtain ⟨F, h, r⟩ := h
  refine ⟨F, ?_, r⟩
  unfold Rw at *
  rw [he]; exact h
theorem Cp.keep {w w' : World} {g B : Nat} {k : Nat → Nat} (h : Cp w g k) (hb : Below B w w') (hB : g < B) : Cp w' g k := h.same (hb.block g hB)
theorem Cp.bx {w : World} {g : Nat} {k : Nat → Nat} (h : Cp w g k) : Bx w g := by
  refine ⟨h.lt, fun x hx => ?_⟩
  obtain ⟨F, h, hb, _⟩ := h
  rw [h.byte x (by omega), hb x hx]
theorem Cp.range {w : World} {g : Nat} {k : Nat → Nat} (h : Cp w g k) (o : Nat) (ho : o + 16 ≤ 240) : w.rangeAt g (256 + o) (rw8 16 (from8 o k)).toList := by
  obtain ⟨F, h, _, hk⟩ := h
  have := h.range (256 + o) 16 (by omega)
  rw [rw8_ext (g := from8 o k) (fun i hi => by unfold from8; rw [Nat.add_assoc]; exact hk _ (by omega))] at this
  exact this
theorem yields_rng {ops : Array Oper} {S : World → Prop} {o : Oper} {a : Act} (hw : Region.wanted o (yielded ops a.tmps) = true) (ty : TypeId) (x : Operand) (ho : o.op = .load ty x) (g off m : Nat) (v : Nat → Nat) (hx : a.eval x = .pointer (some ⟨g, off, none⟩))
    (hS : ∀ w, S w → w.rangeAt g off (rw8 m v).toList) (d : TypeDesc) (hu : Try.prog.underlying ty = some d) (hd : d.isRow = true) (hi : (Try.prog.info? ty).map (·.size) = some m) : YieldsIf Try.prog ops S o (.agg (rw8 m v)) a := by
  have := yieldsIf_load_mid (P := Try.prog) (ops := ops) (S := S) hw ty x ho g off hx (rw8 m v).toList d hS hu hd (by rw [rw8_len]; exact hi)
  have e : (rw8 m v).toList.toArray = rw8 m v := by simp
  rw [e] at this
  exact this
theorem Rw.rng0 {w : World} {g t n : Nat} {f : Nat → Nat} (h : Rw w g t n f) : w.rangeAt g 0 (rw8 n f).toList := by
  have := h.range 0 n (by omega)
  rw [from8_zero] at this
  exact this
/-- What yields its value in every world that meets S may be taken first. -/
theorem take_to {ops : Array Oper} {Q : Exit → Act → World → Prop} {md : Region.Mode} {S : World → Prop} {oi : Oper} {fuel : Nat} {listed : Array Bool} {a : Act} {w : World} (i d : Nat) (v : Value) (hi : ops[i]? = some oi) (hd : oi.dst = some d)
    (hs : Region.noSelect ops = true) (hf : Region.free md ops listed i = true) (hr : (Region.ready md ops listed).contains i = true)
    (hQ : ∀ c a w, Q (.panic c) (a.put oi.dst v) w → Q (.panic c) a w) (hy : YieldsIf Try.prog ops S oi v a) (hS : S w)
    (h : wpAnyH Try.prog md ops Q S fuel (listed.setIfInBounds i true) ⟨a.tmps.setIfInBounds d v, a.defers⟩ w) : wpAnyH Try.prog md ops Q S (fuel + 1) listed a w :=
  wpAnyH_take hi hs hf hr hQ hy hS (by rw [hd]; exact h)
theorem wp_ldw {o : Oper} {a : Act} {w : World} {K : Act → World → Prop} {Q : Exit → Act → World → Prop} (dst : Option Tmp) (hdst : o.dst = dst) (ty : TypeId) (x : Operand) (ho : o.op = .load ty x) (g : Nat) (hx : a.eval x = .pointer (some ⟨g, 0, none⟩)) (t n : Nat) (f : Nat → Nat) (hr : Rw w g t n f) (d : TypeDesc)
    (hu : Try.prog.underlying ty = some d) (hd : d.isRow = true) (hi : (Try.prog.info? ty).map (·.size) = some n) (h : K (a.put dst (.agg (rw8 n f))) w) : o.wp Try.prog a w K Q := by
  subst hdst
  have e : (rw8 n (from8 0 f)).toList.toArray = rw8 n f := by rw [from8_zero]
  refine wp_load_mid ty x ho g 0 hx (rw8 n (from8 0 f)).toList d (hr.range 0 n (by omega)) hu hd (by rw [rw8_len]; exact hi) ?_
  rw [e]
  exact h
theorem wp_stm {o : Oper} {a : Act} {w : World} {K : Act → World → Prop} {Q : Exit → Act → World → Prop} (hdst : o.dst = none) (ty : TypeId) (x y : Operand) (ho : o.op = .store ty x y) (g off : Nat) (hx : a.eval x = .pointer (some ⟨g, off, none⟩)) (m : Nat) (v : Nat → Nat) (hy : a.eval y = .agg (rw8 m v))
    (t n : Nat) (f : Nat → Nat) (hr : Rw w g t n f) (hm : off + m ≤ n) (hi : (Try.prog.info? ty).map (·.size) = some m) (h : K a (w.setCells g off (rw8 m v).toList)) : o.wp Try.prog a w K Q := by
  refine wp_store_mid ty x y ho g off (rw8 m v) hx hy (by rw [rw8_size]; exact hr.there off m hm) (by rw [rw8_size]; exact hi) (rw8_one m v) ?_
  rw [hdst]
  exact h
theorem wp_al {o : Oper} {a : Act} {w : World} {K : Act → World → Prop} {Q : Exit → Act → World → Prop} (dst : Option Tmp) (hdst : o.dst = dst) (t : TypeId) (ho : o.op = .alloc t) (n : Nat) (hz : (Try.prog.info? t).map (·.zero) = some (some (.agg (rw8 n fun _ => 0))))
    (h : K (a.put dst (.pointer (some ⟨w.heap.size, 0, none⟩))) (w.alloc (.cells (rw8 n fun _ => 0) t))) : o.wp Try.prog a w K Q := by
  subst hdst
  unfold Oper.wp
  rw [run_al t ho n hz]
  exact h
theorem bel_drew1 {B : Nat} {a b : World} (h : Below B a b) : Below B a b.drew := h.trans ⟨rfl, rfl, rfl, Nat.le_refl _, fun _ _ => rfl⟩
theorem Cp.drew {w : World} {g : Nat} {k : Nat → Nat} (h : Cp w g k) : Cp w.drew g k := h
theorem Cp.kept {w w' : World} {g : Nat} {k : Nat → Nat} (h : Cp w g k) (hb : Below w.heap.size w w') : Cp w' g k := h.keep hb h.lt
theorem Cp.omid {w : World} {g g' : Nat} {k : Nat → Nat} (h : Cp w g k) (hn : g ≠ g') (o : Nat) (vs : List Value) : Cp (w.setCells g' o vs) g k := h.same (heap_setCells_other g' g hn _ _ _)
theorem Cp.alloc {w : World} {g : Nat} {k : Nat → Nat} (h : Cp w g k) (o : Obj) : Cp (w.alloc o) g k := h.same (Below.heap_alloc _ _ _ h.lt)
theorem underk : Try.prog.underlying 144 = some (.array 15 96) := by kernel_rfl
theorem sizek : (Try.prog.info? 144).map (·.size) = some 240 := by kernel_rfl
/-- Which of the round keys. -/
theorem run_key (g r : Nat) (hr : r < 15) (x : Int) (hx : x = r) (w : World) : (Instr.indexAt 144 (.pointer (some ⟨g, 256, none⟩)) (.int .i64 x)).run Try.prog w = .ok (.pointer (some ⟨g, 256 + 16 * r, none⟩)) w := by
  subst hx
  have h1 : (0 : Int) ≤ (r : Int) ∧ (r : Int) < ((15 : Nat) : Int) := by omega
  simp only [Instr.indexAt, Sem.run_bind, asIntOf, Sem.run_pure, run_underlying underk, Result.andThen_ok, Instr.sureAddr, if_pos h1, run_sizeOf size16, Addr.add_mid, Int.toNat_natCast]
  rw [Nat.mul_comm r 16]
end Go.Proofs.Ytnjfckijpbgagaa
namespace Go.Proofs.Ytnjfckijpbgagaa
set_option maxRecDepth 100000
open Go.RowKit
set_option linter.unusedVariables false

/-- A number as m bytes, the highest first. -/
def nbG (m x : Nat) : Nat → Nat := fun i => x / 2 ^ (8 * (m - 1 - i)) % 256
theorem nb_lt (m x i : Nat) : nbG m x i < 256 := Nat.mod_lt _ (by omega)
/-- A list's first block. -/
def fb (b : List Nat) : Nat → Nat := fun i => b.getD i 0
theorem fb_lt {b : List Nat} (h : ∀ x ∈ b, x < 256) (i : Nat) : fb b i < 256 := getD_lt h i
theorem getD_drop (b : List Nat) (m i : Nat) : (b.drop m).getD i 0 = b.getD (m + i) 0 := by simp only [List.getD, List.getElem?_drop]
theorem getD_far (b : List Nat) (i : Nat) (h : b.length ≤ i) : b.getD i 0 = 0 := by simp only [List.getD, List.getElem?_eq_none h]; rfl
theorem xr_zx (z : Nat → Nat) (b : List Nat) (r i : Nat) : xr z (fb (b.drop (16 * r))) i = zx z b r i := by
  unfold xr fb zx
  rw [getD_drop]
  by_cases h : 16 * r + i < b.length
  · rw [if_pos h]
  · rw [if_neg h, getD_far _ _ (by omega), Nat.xor_zero]
theorem cb_put (nz : List Nat) (x i : Nat) (hi : i < 16) : put8 12 4 (nbG 4 x) (put8 0 12 (fb nz) fun _ => 0) i = cb nz x i := by
  unfold put8 cb nbG fb
  by_cases h : i < 12
  · rw [if_neg (by omega), if_pos (by omega), if_pos h, Nat.sub_zero]
  · rw [if_pos (by omega), if_neg h, show 8 * (4 - 1 - (i - 12)) = 24 - 8 * (i - 12) from by omega]
theorem e8_nb (x i : Nat) (hi : i < 8) : (e8 x).getD i 0 = nbG 8 x i := by
  simp only [e8, List.getD, List.getElem?_map, List.getElem?_range hi, nbG]
  rw [show 8 * (8 - 1 - i) = 56 - 8 * i from by omega]
  rfl
theorem ln_put (x y i : Nat) (hi : i < 16) : put8 8 8 (nbG 8 y) (put8 0 8 (nbG 8 x) fun _ => 0) i = (e8 x ++ e8 y).getD i 0 := by
  rw [getD_app, e8_length]
  unfold put8
  by_cases h : i < 8
  · rw [if_neg (by omega), if_pos (by omega), if_pos h, Nat.sub_zero, e8_nb x i h]
  · rw [if_pos (by omega), if_neg h, e8_nb y (i - 8) (by omega)]
/-- One block of the stream over a text. -/
theorem st_blk (k : Nat → Nat) (nz t : List Nat) (r i : Nat) (hi : i < 16) (h : 16 * r + i < t.length) : xr (fb (t.drop (16 * r))) (bl k (cb nz (2 + r)) 14) i = (st k nz t).getD (16 * r + i) 0 := by
  rw [st_get _ _ _ _ h]
  unfold xr fb sx
  rw [getD_drop, show (16 * r + i) / 16 = r from by omega, show (16 * r + i) % 16 = i from by omega]

/-! Parts of a list. -/
theorem bs_part {w : World} {a : Option Addr} {n c m p : Nat} {zs : List Int} (h : Bs w a n zs) (hnc : n ≤ c) (hp : m + p ≤ n) : Bs w (if c = m then a else Option.map (fun x => x.add m) a) p ((zs.drop m).take p) := by
  refine ⟨by have := h.1; simp; omega, fun z hz => h.2.1 z (List.mem_of_mem_drop (List.mem_of_mem_take hz)), ?_⟩
  by_cases hp0 : p = 0
  · exact .inl hp0
  rcases h.2.2 with h0 | ⟨b, off, rfl, hc⟩
  · omega
  · rw [if_neg (by omega)]
    refine .inr ⟨b, off + m, by simp [Addr.add], fun i hi => ?_⟩
    rw [Nat.add_assoc, hc (m + i) (by omega)]
    simp only [List.getD, List.getElem?_take, if_pos hi, List.getElem?_drop]
theorem ic_drop (l : List Nat) (m : Nat) : (ic l).drop m = ic (l.drop m) := by simp [ic]
theorem ic_take (l : List Nat) (m : Nat) : (ic l).take m = ic (l.take m) := by simp [ic]
theorem bs_rest {w : World} {a : Option Addr} {n c m : Nat} {l : List Nat} (h : Bs w a n (ic l)) (hnc : n ≤ c) (hp : m ≤ n) : Bs w (if c = m then a else Option.map (fun x => x.add m) a) (n - m) (ic (l.drop m)) := by
  have := bs_part (m := m) (p := n - m) h hnc (by omega)
  rw [ic_drop, ic_take, List.take_of_length_le] at this
  · exact this
  · have := h.1
    rw [ic_length] at this
    simp; omega
theorem bs_front {w : World} {a : Option Addr} {n m : Nat} {l : List Nat} (h : Bs w a n (ic l)) (hp : m ≤ n) : Bs w a m (ic (l.take m)) := by
  have hl := h.1
  rw [ic_length] at hl
  refine ⟨by rw [ic_length, List.length_take]; omega, fun z hz => h.2.1 z ?_, ?_⟩
  · rw [← ic_take] at hz
    exact List.mem_of_mem_take hz
  rcases h.2.2 with h0 | ⟨b, off, rfl, hc⟩
  · exact .inl (by omega)
  · refine .inr ⟨b, off, rfl, fun i hi => ?_⟩
    rw [hc i (by omega), ic_get, ic_get]
    simp only [List.getD, List.getElem?_take, if_pos hi]
theorem Rw.bs {w : World} {g t n : Nat} {f : Nat → Nat} (h : Rw w g t n f) (o m : Nat) (l : List Nat) (hm : o + m ≤ n) (hl : l.length = m) (hy : ∀ x ∈ l, x < 256) (e : ∀ i, i < m → f (o + i) = l.getD i 0) : Bs w (some ⟨g, o, none⟩) m (ic l) := by
  refine ⟨by rw [ic_length, hl], ic_bytes hy, .inr ⟨g, o, rfl, fun i hi => ?_⟩⟩
  rw [h.byte (o + i) (by omega), ic_get, e i hi]

/-! A key and a nonce made ready. -/
def sv (gc : Nat) (f : Nat → Nat) : Array Value := (Value.pointer (some ⟨gc, 0, none⟩) :: (rw8 12 f).toList).toArray
theorem sv_size (gc : Nat) (f : Nat → Nat) : (sv gc f).size = 13 := by simp [sv, rw8_size]
theorem sv_get (gc : Nat) (f : Nat → Nat) (i : Nat) (h : i < 12) : (sv gc f)[1 + i]? = some (.int .u8 (f i : Nat)) := by
  have := rw8_get 12 f i h
  rw [Nat.add_comm]
  simpa [sv] using this
theorem sv_one (gc : Nat) (f : Nat → Nat) : (sv gc f).all (·.oneCell') = true := by simp [sv, rw8, Value.oneCell']
def Se (w : World) (g gc : Nat) (f : Nat → Nat) : Prop := w.heap[g]? = some (.cells (sv gc f) 93 (0, 0))
theorem Se.lt {w : World} {g gc : Nat} {f : Nat → Nat} (h : Se w g gc f) : g < w.heap.size := (Array.getElem?_eq_some_iff.1 h).1
theorem Se.kept {w w' : World} {g gc : Nat} {f : Nat → Nat} (h : Se w g gc f) (hb : Below w.heap.size w w') : Se w' g gc f := by
  have := h.lt
  unfold Se at *; rw [hb.block g this]; exact h
theorem Se.new (w : World) (gc : Nat) (f : Nat → Nat) : Se (w.alloc (.cells (sv gc f) 93)) w.heap.size gc f := heap_alloc_new w _
theorem Se.alloc {w : World} {g gc : Nat} {f : Nat → Nat} (h : Se w g gc f) (o : Obj) : Se (w.alloc o) g gc f := by
  have := h.lt
  unfold Se at *; rw [Below.heap_alloc _ _ _ this]; exact h
theorem Se.omid {w : World} {g g' gc : Nat} {f : Nat → Nat} (h : Se w g gc f) (hn : g ≠ g') (o : Nat) (vs : List Value) : Se (w.setCells g' o vs) g gc f := by
  unfold Se at *; rw [heap_setCells_other g' g hn]; exact h
theorem Se.other {w : World} {g g' gc : Nat} {f : Nat → Nat} (h : Se w g gc f) (hn : g ≠ g') (i : Nat) (v : Value) : Se (w.setCell ⟨g', i, none⟩ v) g gc f := by
  unfold Se at *; rw [Below.heap_setCell _ _ _ _ hn]; exact h
theorem Se.drew {w : World} {g gc : Nat} {f : Nat → Nat} (h : Se w g gc f) : Se w.drew g gc f := h
theorem Se.fz {w : World} {g gc : Nat} {f : Nat → Nat} (h : Se w g gc f) (i : Nat) : w.frozen? ⟨g, i, none⟩ = false := by unfold Se at h; simp [World.frozen?, h]
theorem Se.ptr {w : World} {g gc : Nat} {f : Nat → Nat} (h : Se w g gc f) : w.cell? ⟨g, 0, none⟩ = some (.pointer (some ⟨gc, 0, none⟩)) := (cell_of_row w g 0 _ _ (0, 0) h).trans (by simp [sv])
theorem Se.bs {w : World} {g gc : Nat} {nz : List Nat} (h : Se w g gc (fb nz)) (hl : nz.length = 12) (hy : ∀ x ∈ nz, x < 256) : Bs w (some ⟨g, 1, none⟩) 12 (ic nz) := by
  refine ⟨by rw [ic_length, hl], ic_bytes hy, .inr ⟨g, 1, rfl, fun i hi => ?_⟩⟩
  rw [cell_of_row w g (1 + i) _ _ (0, 0) h, sv_get gc _ i hi, ic_get]
  rfl
end Go.Proofs.Ytnjfckijpbgagaa
