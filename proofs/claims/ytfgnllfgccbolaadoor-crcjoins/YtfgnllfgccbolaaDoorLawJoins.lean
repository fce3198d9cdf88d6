import Derived.Test.YtfgnllfgccbolaaDoorRefK
import Derived.Test.YtfgnllfgccbolaaDoorFirst
namespace Go.Proofs.YtfgnllfgccbolaaDoor
open Go.RowKit
set_option linter.unusedVariables false

set_option maxHeartbeats 1000000 in
theorem crcJoins_ (a b n : Int) (w : World) (hT : Tab w) (ha0 : 0 ≤ a) (ha : a ≤ 4294967295) (hb0 : 0 ≤ b) (hb : b ≤ 4294967295) (hn0 : -9223372036854775808 ≤ n) (hn : n ≤ 9223372036854775807) :
    Calls Tryd.prog 5 #[.int .u32 a, .int .u32 b, .int .i64 n] w fun e w' => e = .returned (.bool true) ∧ Below w.heap.size w w' := by
  obtain ⟨a, rfl⟩ := Int.eq_ofNat_of_zero_le ha0
  obtain ⟨b, rfl⟩ := Int.eq_ofNat_of_zero_le hb0
  have ha : a < 4294967296 := by omega
  have hb : b < 4294967296 := by omega
  by_cases h0 : n < 0
  · go_enter Tryd.func5, Tryd.ntmps5
    go_wp2_with fail
    refine (first_ w hT).mono ?_
    rintro e w1 ⟨rfl, B1⟩
    have S1 := B1.size
    go_wp2_with fail
    refine (join_neg a b n w1 h0).mono ?_
    rintro e w2 ⟨rfl, b2⟩
    have B2 := bel_bel B1 S1 b2
    have S2 := B2.size
    go_wp2_with fail
    refine (refJoin_neg a b n w2 h0).mono ?_
    rintro e w3 ⟨rfl, b3⟩
    have B3 := bel_bel B2 S2 b3
    go_wp2_with fail
    go_ret
    exact ⟨rfl, B3⟩
  · obtain ⟨n, rfl⟩ := Int.eq_ofNat_of_zero_le (show 0 ≤ n by omega)
    go_enter Tryd.func5, Tryd.ntmps5
    go_wp2_with fail
    refine (first_ w hT).mono ?_
    rintro e w1 ⟨rfl, B1⟩
    have S1 := B1.size
    go_wp2_with fail
    refine (join_ a b n w1 (hT.bel B1) ha hb (by omega)).mono ?_
    rintro e w2 ⟨rfl, b2⟩
    have B2 := bel_bel B1 S1 b2
    have S2 := B2.size
    go_wp2_with fail
    refine (refJoin_ a b n w2 ha hb (by omega)).mono ?_
    rintro e w3 ⟨rfl, b3⟩
    have B3 := bel_bel B2 S2 b3
    generalize stps (8 * n) a ^^^ b = q
    go_wp2_with fail
    go_ret
    exact ⟨rfl, B3⟩
end Go.Proofs.YtfgnllfgccbolaaDoor
