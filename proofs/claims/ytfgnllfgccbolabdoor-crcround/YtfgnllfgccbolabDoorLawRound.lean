import Derived.Test.YtfgnllfgccbolabDoorFirst
import Derived.Test.YtfgnllfgccbolabDoorPlace
namespace Go.Proofs.YtfgnllfgccbolabDoor
open Go.RowKit
set_option linter.unusedVariables false

set_option maxHeartbeats 1000000 in
theorem crcRound_ (a b n m t : Int) (w : World) (hT : Tab w) (ha0 : 0 ≤ a) (ha : a ≤ 4294967295) (hb0 : 0 ≤ b) (hb : b ≤ 4294967295) (hn0 : -9223372036854775808 ≤ n) (hn : n ≤ 9223372036854775807) (hm0 : -9223372036854775808 ≤ m) (hm : m ≤ 9223372036854775807) (ht0 : -9223372036854775808 ≤ t) (ht : t ≤ 9223372036854775807) :
    Calls Tryd.prog 6 #[.int .u32 a, .int .u32 b, .int .i64 n, .int .i64 m, .int .i64 t] w fun e w' => e = .returned (.bool true) ∧ Below w.heap.size w w' := by
  obtain ⟨a, rfl⟩ := Int.eq_ofNat_of_zero_le ha0
  obtain ⟨b, rfl⟩ := Int.eq_ofNat_of_zero_le hb0
  have ha : a < 4294967296 := by omega
  have hb : b < 4294967296 := by omega
  go_enter Tryd.func6, Tryd.ntmps6
  go_wp2_with fail
  refine (first_ w hT).mono ?_
  rintro e w1 ⟨rfl, B1⟩
  have S1 := B1.size
  have t1 := hT.bel B1
  obtain ⟨k, hk, ek⟩ := place n 1099511627776 (by omega) (by omega)
  obtain ⟨l, hl, el⟩ := place m 1099511627776 (by omega) (by omega)
  obtain ⟨s, hs, es⟩ := place t 1000 (by omega) (by omega)
  have HK := hid ek
  have HL := hid el
  have HS := hid es
  clear ek el es
  go_wp2_with fail
  rw [HK.out, HL.out, HS.out]
  clear HK HL HS
  generalize wrap64 (n.tmod 1099511627776 + 1099511627776) = j1
  generalize wrap64 (m.tmod 1099511627776 + 1099511627776) = j2
  generalize wrap64 (t.tmod 1000 + 1000) = j3
  generalize n.tmod 1099511627776 = j4
  generalize m.tmod 1099511627776 = j5
  generalize t.tmod 1000 = j6
  refine (join_ a b k w1 t1 ha hb (by omega)).mono ?_
  rintro e w2 ⟨rfl, b2⟩
  have B2 := bel_bel B1 S1 b2
  have S2 := B2.size
  have t2 := t1.bel b2
  clear b2 B1 S1 t1
  go_wp2_with fail
  rw [show (k : Int) + (s : Int) * 2147483647 = ((k + s * 2147483647 : Nat) : Int) from by omega]
  refine (join_ a b (k + s * 2147483647) w2 t2 ha hb (by omega)).mono ?_
  rintro e w3 ⟨rfl, b3⟩
  have B3 := bel_bel B2 S2 b3
  have S3 := B3.size
  have t3 := t2.bel b3
  clear b3 B2 S2 t2
  rw [show stps (8 * (k + s * 2147483647)) a = stps (8 * k) a from by rw [show 8 * (k + s * 2147483647) = 8 * k + 8 * s * 2147483647 from by omega, stps_add, round_mul _ (stps_lt _ ha)]]
  have hx : stps (8 * k) a ^^^ b < 4294967296 := xor_lt32 (stps_lt _ ha) hb
  generalize stps (8 * k) a ^^^ b = x at *
  generalize ((k + s * 2147483647 : Nat) : Int) = j7
  go_wp2_with fail
  refine (join_ a 0 k w3 t3 ha (by omega) (by omega)).mono ?_
  rintro e w4 ⟨rfl, b4⟩
  have B4 := bel_bel B3 S3 b4
  have S4 := B4.size
  have t4 := t3.bel b4
  clear b4 B3 S3 t3
  rw [Nat.xor_zero]
  have hp : stps (8 * k) a < 4294967296 := stps_lt _ ha
  have HP : Hid (stps (8 * l) (stps (8 * k) a) = stps (8 * (k + l)) a) := by show _ = _; rw [Nat.mul_add, stps_add]
  generalize stps (8 * k) a = p at *
  go_wp2_with fail
  refine (join_ p 0 l w4 t4 hp (by omega) (by omega)).mono ?_
  rintro e w5 ⟨rfl, b5⟩
  have B5 := bel_bel B4 S4 b5
  have S5 := B5.size
  have t5 := t4.bel b5
  clear b5 B4 S4 t4
  rw [Nat.xor_zero, HP.out]
  go_wp2_with fail
  rw [show (k : Int) + (l : Int) = ((k + l : Nat) : Int) from by omega]
  refine (join_ a 0 (k + l) w5 t5 ha (by omega) (by omega)).mono ?_
  rintro e w6 ⟨rfl, b6⟩
  have B6 := bel_bel B5 S5 b6
  clear b6 B5 S5 t5
  rw [Nat.xor_zero]
  generalize stps (8 * (k + l)) a = q at *
  generalize ((k + l : Nat) : Int) = j8
  go_wp2_with fail
  go_ret
  exact ⟨rfl, B6⟩
end Go.Proofs.YtfgnllfgccbolabDoor
