import Derived.Test.YtfgnllfgccbolaaDoorTake
namespace Go.Proofs.YtfgnllfgccbolaaDoor
open Go.RowKit
set_option linter.unusedVariables false

/-- What k steps make of each bit, as Go's array. -/
def mv (k : Nat) : Array Value := ((List.range 32).map fun i => Value.int .u32 (stps k (2 ^ i) : Nat)).toArray
theorem mv_size (k : Nat) : (mv k).size = 32 := by simp [mv]
theorem mv_get (k i : Nat) (h : i < 32) : (mv k)[i]? = some (.int .u32 (stps k (2 ^ i) : Nat)) := by simp [mv, h]
theorem size39 : (Tryd.prog.info? 39).map (·.size) = some 32 := by kernel_rfl
theorem under39 : Tryd.prog.underlying 39 = some (.array 32 25) := by kernel_rfl

theorem low1 (q : Nat) (h : q < 4294967296) : (q % 2 = 1 → bits .and .u32 (q : Int) 1 = 1) ∧ (¬ q % 2 = 1 → bits .and .u32 (q : Int) 1 = 0) := by
  have := u32_and_nat q 1 h (by omega)
  rw [show q &&& 1 = q % 2 from Nat.and_two_pow_sub_one_eq_mod q 1] at this
  have e : bits .and .u32 (q : Int) 1 = ((q % 2 : Nat) : Int) := this
  exact ⟨fun h1 => by rw [e, h1]; rfl, fun h0 => by rw [e, show q % 2 = 0 from by omega]; rfl⟩

theorem run_index39 (cs : Array Value) (x j : Nat) (w : World) (hj : j < 32) (hc : cs[j]? = some (.int .u32 x)) :
    (Instr.index 39 (.agg cs) (.int .i64 j)).run Tryd.prog w = .ok (.int .u32 x) w := by
  have h1 : (0 : Int) ≤ (j : Int) ∧ (j : Int) < 32 := by omega
  have hz : ∀ w, (sizeOf 25).run Tryd.prog w = .ok 1 w := fun w => by
    obtain ⟨i, hi, hs⟩ : ∃ i, Tryd.prog.info? 25 = some i ∧ i.size = 1 := by
      have := show (Tryd.prog.info? 25).map (·.size) = some 1 by kernel_rfl
      simpa using Option.map_eq_some_iff.1 this
    simp [sizeOf, typeInfo, hi, hs]
  simp [Instr.index, run_underlying under39, asIntOf, h1, hz, part, hc, go_sem]
  exact fun h => by omega

set_option maxHeartbeats 400000 in
theorem of_ (k r : Nat) (w : World) (hr : r < 4294967296) :
    Calls Tryd.prog 23 #[.agg (mv k), .int .u32 r] w fun e w' => e = .returned (.int .u32 (stps k r)) ∧ Below w.heap.size w w' := by
  have hs := mv_size k
  have hi : (Tryd.prog.info? 39).map (·.size) = some (mv k).size := by rw [hs]; exact size39
  have hg := mv_get k
  generalize mv k = cs at *
  go_enter Tryd.func23, Tryd.ntmps23
  go_wp2_with (refine wpList_load_row rfl 39 _ rfl w.heap.size rfl 39 cs (0, 0) _ (heap_alloc_new w _) under39 rfl hi ?_)
  have B1 : Below w.heap.size w (w.alloc (.cells cs 39)) := (Below.refl _ _).alloc (Nat.le_refl _) _
  generalize w.alloc (.cells cs 39) = w1 at *
  go_loopw [9, 1, 5] (fun i q o wr => ∃ j : Nat, j ≤ 32 ∧ i = .int .i64 j ∧ q = .int .u32 (r / 2 ^ j : Nat) ∧ o = .int .u32 (stps k (r % 2 ^ j) : Nat) ∧ wr = w1) (fun i _ _ _ => 32 - (intOf i).toNat)
  case atStart => exact ⟨0, by omega, rfl, by simp, by simp [Nat.mod_one, stps0], rfl⟩
  case round =>
    obtain ⟨j, hj, rfl, rfl, rfl, rfl⟩ := hrel
    have hq : r / 2 ^ j < 4294967296 := Nat.lt_of_le_of_lt (Nat.div_le_self _ _) hr
    by_cases hlt : j < 32
    · have hix := run_index39 cs _ j wr hlt (hg j hlt)
      have HB := hid (stps_bit k r j)
      have HQ : Hid (r / 2 ^ (j + 1) = r / 2 ^ j / 2) := by show _ = _; rw [Nat.pow_succ, Nat.div_div_eq_div_mul]
      have ho : stps k (r % 2 ^ j) < 4294967296 := stps_lt k (Nat.lt_of_le_of_lt (Nat.mod_le _ _) hr)
      have hx : stps k (2 ^ j) < 4294967296 := stps_lt k (pow_lt32 hlt)
      have ex := u32_xor_nat _ _ ho hx
      clear hg
      generalize r / 2 ^ j = q at *
      generalize stps k (r % 2 ^ j) = o at *
      generalize stps k (2 ^ j) = x at *
      obtain ⟨e1, e2⟩ := low1 q hq
      by_cases hb : q % 2 = 1
      · have e3 := e1 hb
        have HB1 : Hid (stps k (r % 2 ^ (j + 1)) = o ^^^ x) := by show _ = _; rw [HB.out, if_pos hb]
        clear e1 e2 hb HB
        go_wp2
        go_roundw
        case rel => exact ⟨j + 1, by omega, by go_num, by rw [HQ.out]; rfl, by rw [HB1.out], trivial⟩
        case measure => simp [intOf]; omega
      · have e3 := e2 hb
        have HB1 : Hid (stps k (r % 2 ^ (j + 1)) = o) := by show _ = _; rw [HB.out, if_neg hb]
        clear e1 e2 hb HB ex
        go_wp2
        go_roundw
        case rel => exact ⟨j + 1, by omega, by go_num, by rw [HQ.out]; rfl, by rw [HB1.out], trivial⟩
        case measure => simp [intOf]; omega
    · obtain rfl : j = 32 := by omega
      rw [Nat.mod_eq_of_lt (show r < 2 ^ 32 from hr)]
      go_wp2
      go_ret
      exact ⟨rfl, B1⟩

end Go.Proofs.YtfgnllfgccbolaaDoor
