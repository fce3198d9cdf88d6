import Derived.Test.YtfgnllfgccbolaaDoorRows
import Derived.Test.YtfgnllfgccbolaaDoorMem
import Derived.WalkKit
import Derived.WalkSpells
import Derived.WalkLawsBesides
import Derived.Deep.QuietTactic
import Derived.BigQuiet
namespace Go.Proofs.YtfgnllfgccbolaaDoor
open Go.RowKit

set_option maxHeartbeats 400000 in
theorem same (a b : Option Addr) (n c m d : Nat) (xs ys : List Int) (w : World) (hx : Bs w a n xs) (hy : Bs w b m ys) (hn : n ≤ maxLen) (hm : m ≤ maxLen) :
    Calls Tryd.prog 13 #[.slice a n c, .slice b m d] w fun e w' => e = .returned (.bool (sameB xs ys)) ∧ ∃ nq, w' = w.drewN nq := by
  unfold maxLen at hn hm
  by_cases hnm : n = m
  · subst hnm
    obtain ⟨hxl, hxb, hx⟩ := hx
    obtain ⟨hyl, hyb, hy⟩ := hy
    have hne : ((n : Int) != (n : Int)) = false := by simp
    go_enter Tryd.func13, Tryd.ntmps13
    go_wp2
    go_loopw [5] (fun i wr => ∃ k nq : Nat, k ≤ n ∧ i = .int .i64 k ∧ xs.take k = ys.take k ∧ wr = w.drewN nq) (fun i _ => n - (intOf i).toNat)
    case atStart => exact ⟨0, 0, by omega, rfl, rfl, rfl⟩
    case round =>
      obtain ⟨k, nq, hk, rfl, he, rfl⟩ := hrel
      by_cases hlt : k < n
      · rcases hx with h0 | ⟨b1, o1, rfl, hc1⟩
        · omega
        rcases hy with h0 | ⟨b2, o2, rfl, hc2⟩
        · omega
        have e1 := hc1 k hlt
        have e2 := hc2 k hlt
        by_cases hq : xs.getD k 0 = ys.getD k 0
        · have hts := take_step (by omega) (by omega) he hq
          have HT : Hid (xs.take (k + 1) = ys.take (k + 1)) := hts
          clear hts he hc1 hc2 hxb hyb
          rw [hq] at e1
          generalize ys.getD k 0 = y at *
          have hb : (y != y) = false := by simp
          go_wp2
          go_quiet (fail)
          go_wp2
          go_roundw
          case rel => exact ⟨k + 1, _, by omega, by go_num, HT.out, rfl⟩
          case measure => simp [intOf]; omega
        · have hb : (xs.getD k 0 != ys.getD k 0) = true := by rw [bne_iff_ne]; exact hq
          have HT : Hid (sameB xs ys = false) := sameB_at hq
          clear he hc1 hc2 hxb hyb hq
          generalize ys.getD k 0 = y at *
          generalize xs.getD k 0 = x at *
          go_wp2
          go_quiet (fail)
          go_wp2
          go_ret
          exact ⟨ret_bool HT.out.symm, _, World.drewN_drewN _ _ _⟩
      · go_wp2
        go_ret
        exact ⟨ret_bool (by rw [sameB_take hxl hyl]; rwa [show k = n by omega] at he), nq, rfl⟩
  · have hne : ((n : Int) != (m : Int)) = true := by rw [bne_iff_ne]; omega
    go_enter Tryd.func13, Tryd.ntmps13
    go_wp2
    go_ret
    exact ⟨ret_bool (by rw [sameB_len (by rw [hx.1, hy.1]; exact hnm)]), 0, rfl⟩
end Go.Proofs.YtfgnllfgccbolaaDoor
