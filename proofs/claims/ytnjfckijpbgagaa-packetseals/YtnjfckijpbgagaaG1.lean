import Derived.Test.YtnjfckijpbgagaaGBase
import Derived.Laws.ResultCell
namespace Go.Proofs.Ytnjfckijpbgagaa
set_option maxRecDepth 100000
open Go.RowKit
set_option linter.unusedVariables false

theorem grown_set {w wr : World} {g : Nat} (h : w.grownBy wr (some g)) (i : Nat) (v : Value) : w.grownBy (wr.setCell ⟨g, i, none⟩ v) (some g) :=
  ⟨h.os, h.tape, h.output, by simpa [World.setCell] using h.size, fun k hk hn => (Below.heap_setCell wr ⟨g, i, none⟩ v k (fun e => hn (by have : k = g := e; rw [this]))).trans (h.block k hk hn)⟩
theorem grown_self (w : World) (g : Option Nat) : w.grownBy w g := ⟨rfl, rfl, rfl, Nat.le_refl _, fun _ _ _ => rfl⟩
theorem put8_zero (o : Nat) (h f : Nat → Nat) (i : Nat) : put8 o 0 h f i = f i := by unfold put8; rw [if_neg (by omega)]
theorem put8_step (o j : Nat) (h f : Nat → Nat) (i : Nat) : put8 (o + j) 1 (fun _ => h j) (put8 o j h f) i = put8 o (j + 1) h f i := by
  unfold put8
  by_cases e : i = o + j
  · rw [if_pos (by omega), if_pos (by omega), e, show o + j - o = j from by omega]
  · rw [if_neg (by omega)]
    by_cases e1 : o ≤ i ∧ i < o + j
    · rw [if_pos e1, if_pos (by omega)]
    · rw [if_neg e1, if_neg (by omega)]
set_option maxHeartbeats 1000000 in
theorem putNumber_ (g off m c t n x : Nat) (f : Nat → Nat) (w : World) (hr : Rw w g t n f) (hm : off + m ≤ n) (h8 : m ≤ 8) (hx : x < 2 ^ 64) :
    Calls Try.prog 98 #[.slice (some ⟨g, off, none⟩) m c, .int .u64 x] w fun e w' => e = .returned (.tuple #[]) ∧ Rw w' g t n (put8 off m (nbG m x) f) ∧ w.grownBy w' (some g) := by
  go_enter Try.func98, Try.ntmps98
  go_wp2_with fail
  go_loopw [7] (fun i wr => ∃ j : Nat, j ≤ m ∧ i = .int .i64 j ∧ Rw wr g t n (put8 off j (nbG m x) f) ∧ w.grownBy wr (some g)) (fun i _ => m - (intOf i).toNat)
  case atStart => exact ⟨0, by omega, rfl, hr.ext fun i _ => (put8_zero _ _ _ _).symm, grown_self _ _⟩
  case round =>
    clear hr
    obtain ⟨j, hj, rfl, a0, b0⟩ := hrel
    by_cases hlt : j < m
    · have c0 := a0.byte (off + j) (by omega)
      have f0 := a0.fz (off + j)
      have HC : Hid (((nbG m x j : Nat) : Int) = (x : Int) / 2 ^ (8 * (m - 1 - j)) % 256) := by
        show _ = _
        unfold nbG
        rw [shr_cast]
      have e1 : (8 * ((m : Int) - 1 - (j : Int))).toNat = 8 * (m - 1 - j) := by omega
      have A0 := (a0.setv (off + j) (nbG m x j)).ext (f' := put8 off (j + 1) (nbG m x) f) fun i _ => put8_step off j (nbG m x) f i
      have B0 := grown_set b0 (off + j) (.int .u8 (nbG m x j : Nat))
      rw [HC.out] at A0 B0
      clear a0 b0
      generalize put8 off j (nbG m x) f (off + j) = o at *
      go_wp2_with fail
      go_roundw
      case rel => exact ⟨j + 1, by omega, by go_num, A0, B0⟩
      case measure => simp [intOf]; omega
    · obtain rfl : j = m := by omega
      go_wp2_with fail
      go_end0
      exact ⟨rfl, a0, b0⟩

theorem results_row2 {fn : Func} {p u : Tmp} {ty : TypeId} (h : fn.results = #[.cell p ty, .tmp u]) (tmps : Array Value) (w : World) (g : Nat) (t : TypeId) (cs : Array Value) (fr : Nat × Nat) (d : TypeDesc) (v : Value)
    (hp : tmps.getD p undef = .pointer (some ⟨g, 0, none⟩)) (hv : tmps.getD u undef = v) (hg : w.heap[g]? = some (.cells cs t fr)) (hu : Try.prog.underlying ty = some d) (hd : d.isRow = true) (hi : (Try.prog.info? ty).map (·.size) = some cs.size) :
    (results fn tmps).run Try.prog w = .ok (.tuple #[.agg cs, v]) w := by
  rw [results_cell_tmp h, hp, hv]
  have hl := run_loadVar_row w g t ty cs fr d hg hu (by cases d <;> first | rfl | exact absurd hd (by simp)) hi
  simp [asAddr, hl]
set_option maxHeartbeats 1000000 in
theorem firstBlock_ (a : Option Addr) (n cap m : Nat) (b : List Nat) (w : World) (hb : Bs w a n (ic b)) (hn : n ≤ maxLen) (hm : m = Nat.min n 16) :
    Calls Try.prog 60 #[.slice a n cap] w fun e w' => e = .returned (.tuple #[.agg (rw8 16 (fb b)), .int .i64 m]) ∧ Below w.heap.size w w' := by
  have HM := hid hm
  have hm16 : m ≤ 16 := by rw [hm]; exact Nat.min_le_right _ _
  have HF : Hid (∀ i, i < 16 → put8 0 m (fb b) (fun _ => 0) i = fb b i) := fun i hi => by
    have hl := hb.1
    rw [ic_length] at hl
    unfold put8
    by_cases h : i < m
    · rw [if_pos (by omega), Nat.sub_zero]
    · rw [if_neg (by omega)]
      unfold fb
      rw [getD_far]
      have : m = n ∨ m = 16 := by rw [hm]; simp only [Nat.min_def]; split <;> omega
      omega
  clear hm
  obtain ⟨A0, A1, B0⟩ := rnew2 w 96 16 (fun _ => 0) 96 16 (fun _ => 0)
  have hb1 := hb.below B0
  go_enter Try.func60, Try.ntmps60
  go_wp2_with (first | (refine wpList_al rfl _ rfl 16 (by exact zeroa) ?_) | (refine wpList_cpb rfl _ _ _ _ rfl 5 Try.underlying22 size1 (w.heap.size + 1) 0 16 16 a n cap rfl rfl 96 16 (fun _ => 0) (by with_reducible exact A1) m (by exact HM.out) (by omega) (ic b) (by with_reducible exact hb1) (fb b) (fun i _ => ic_get b i) ?_; have A0 := A0.omid (g' := w.heap.size + 1) (by omega) 0 (rw8 m (fb b)).toList; have A1 := (A1.mid 0 m (fb b)).ext HF.out; have B0 := bel_cells (g := w.heap.size + 1) (by omega) (rw8 m (fb b)).toList 0 _ B0; clear hb1 hb HF; generalize World.setCells _ (w.heap.size + 1) 0 (rw8 m (fb b)).toList = w2 at *) | (refine wpList_ldw rfl _ _ rfl _ rfl _ _ 16 _ (by with_reducible exact A1) (by omega) _ (by exact under16) rfl (by exact size16) ?_) | (refine wpList_stm rfl rfl _ _ _ rfl w.heap.size 0 rfl 16 (fb b) rfl _ _ _ (by with_reducible exact A0) (by omega) (by exact size16) ?_))
  refine bodyPost_ret (v := .tuple #[.agg (rw8 16 (fb b)), .int .i64 m]) ?_ rfl ⟨rfl, bel_cells (Nat.le_refl _) _ _ _ B0⟩
  exact results_row2 rfl _ _ w.heap.size _ _ _ _ _ rfl rfl (A0.whole (fb b)) under16 rfl (by rw [rw8_size]; exact size16)
end Go.Proofs.Ytnjfckijpbgagaa
