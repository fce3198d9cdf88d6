import Derived.Test.YtjaecokhocbdlaaGreatDoorPutsDefs
namespace Go.Proofs.YtjaecokhocbdlaaGreatDoor
open Go.RowKit
set_option linter.unusedVariables false

/-- The width that a number stands for. -/
def wd (n : Int) : Nat := 2 ^ ((n.tmod 4 + 4) % 4).toNat
def IsW (W : Nat) : Prop := W = 1 ∨ W = 2 ∨ W = 4 ∨ W = 8
theorem tmod4 (s : Int) : -3 ≤ s.tmod 4 ∧ s.tmod 4 ≤ 3 := by
  have h1 := Int.lt_tmod_of_pos s (show (0 : Int) < 4 by omega)
  have h2 := Int.tmod_lt_of_pos s (show (0 : Int) < 4 by omega)
  omega
theorem four (n : Int) : (n.tmod 4 + 4) % 4 = 0 ∨ (n.tmod 4 + 4) % 4 = 1 ∨ (n.tmod 4 + 4) % 4 = 2 ∨ (n.tmod 4 + 4) % 4 = 3 := by omega
theorem wd_is (n : Int) : IsW (wd n) := by
  unfold wd
  rcases four n with h | h | h | h <;> rw [h]
  · exact .inl rfl
  · exact .inr (.inl rfl)
  · exact .inr (.inr (.inl rfl))
  · exact .inr (.inr (.inr rfl))

set_option maxHeartbeats 400000 in
theorem wide_ (n : Int) (w : World) : Calls Tryz.prog 8 #[.int .i64 n] w fun en w' => en = .returned (.int .i64 (wd n)) ∧ w' = w := by
  obtain ⟨t1, t2⟩ := tmod4 n
  have he : wd n = 2 ^ ((n.tmod 4 + 4) % 4).toNat := rfl
  generalize wd n = W at *
  rcases four n with h | h | h | h
  all_goals
    rw [h] at he
    have HE := hid he
    clear he
    go_enter Tryz.func8, Tryz.ntmps8
    go_wp2
    go_ret
    exact ⟨by rw [HE.out]; rfl, rfl⟩

set_option maxHeartbeats 400000 in
theorem lput8 (a : Option Addr) (n c : Nat) (zs : List Int) (x : Int) (w : World) (hb : Bs w a n zs) (hn : n ≤ 1000000) (h0 : 0 ≤ x) (h1 : x ≤ 18446744073709551615) :
    Calls Tryz.prog 7 #[.slice a n c, .int .u64 x, .int .i64 1] w fun e w' => e = .returned (.slice (some ⟨w.heap.size, 0, none⟩) (n + 1) (n + 1)) ∧ Row w' w.heap.size (zs ++ be 1 x) ∧ w.grownBy w' none := by
  have L : Hid (0 ≤ x % 256 ∧ x % 256 ≤ 256 - 1) := by show _ ∧ _; omega
  have M := hid (be1_mod x)
  go_enter Tryz.func7, Tryz.ntmps7
  go_wp2_with fail
  refine (put8 a n c zs (x % 256) w hb hn L.out.1 L.out.2).mono ?_
  rintro en w1 ⟨rfl, hr, hg⟩
  rw [M.out] at hr
  go_wp2_with fail
  go_ret
  exact ⟨rfl, hr, hg⟩

set_option maxHeartbeats 400000 in
theorem lput16 (a : Option Addr) (n c : Nat) (zs : List Int) (x : Int) (w : World) (hb : Bs w a n zs) (hn : n ≤ 1000000) (h0 : 0 ≤ x) (h1 : x ≤ 18446744073709551615) :
    Calls Tryz.prog 7 #[.slice a n c, .int .u64 x, .int .i64 2] w fun e w' => e = .returned (.slice (some ⟨w.heap.size, 0, none⟩) (n + 2) (n + 2)) ∧ Row w' w.heap.size (zs ++ be 2 x) ∧ w.grownBy w' none := by
  have L : Hid (0 ≤ x % 65536 ∧ x % 65536 ≤ 65536 - 1) := by show _ ∧ _; omega
  have M := hid (be2_mod x)
  go_enter Tryz.func7, Tryz.ntmps7
  go_wp2_with fail
  refine (put16 a n c zs (x % 65536) w hb hn L.out.1 L.out.2).mono ?_
  rintro en w1 ⟨rfl, hr, hg⟩
  rw [M.out] at hr
  go_wp2_with fail
  go_ret
  exact ⟨rfl, hr, hg⟩

set_option maxHeartbeats 400000 in
theorem lput32 (a : Option Addr) (n c : Nat) (zs : List Int) (x : Int) (w : World) (hb : Bs w a n zs) (hn : n ≤ 1000000) (h0 : 0 ≤ x) (h1 : x ≤ 18446744073709551615) :
    Calls Tryz.prog 7 #[.slice a n c, .int .u64 x, .int .i64 4] w fun e w' => e = .returned (.slice (some ⟨w.heap.size, 0, none⟩) (n + 4) (n + 4)) ∧ Row w' w.heap.size (zs ++ be 4 x) ∧ w.grownBy w' none := by
  have L : Hid (0 ≤ x % 4294967296 ∧ x % 4294967296 ≤ 4294967296 - 1) := by show _ ∧ _; omega
  have M := hid (be4_mod x)
  go_enter Tryz.func7, Tryz.ntmps7
  go_wp2_with fail
  refine (put32 a n c zs (x % 4294967296) w hb hn L.out.1 L.out.2).mono ?_
  rintro en w1 ⟨rfl, hr, hg⟩
  rw [M.out] at hr
  go_wp2_with fail
  go_ret
  exact ⟨rfl, hr, hg⟩

set_option maxHeartbeats 400000 in
theorem lput64 (a : Option Addr) (n c : Nat) (zs : List Int) (x : Int) (w : World) (hb : Bs w a n zs) (hn : n ≤ 1000000) (h0 : 0 ≤ x) (h1 : x ≤ 18446744073709551615) :
    Calls Tryz.prog 7 #[.slice a n c, .int .u64 x, .int .i64 8] w fun e w' => e = .returned (.slice (some ⟨w.heap.size, 0, none⟩) (n + 8) (n + 8)) ∧ Row w' w.heap.size (zs ++ be 8 x) ∧ w.grownBy w' none := by
  go_enter Tryz.func7, Tryz.ntmps7
  go_wp2_with fail
  refine (put64 a n c zs x w hb hn h0 h1).mono ?_
  rintro en w1 ⟨rfl, hr, hg⟩
  go_wp2_with fail
  go_ret
  exact ⟨rfl, hr, hg⟩
theorem lput (W : Nat) (hW : IsW W) (a : Option Addr) (n c : Nat) (zs : List Int) (x : Int) (w : World) (hb : Bs w a n zs) (hn : n ≤ 1000000) (h0 : 0 ≤ x) (h1 : x ≤ 18446744073709551615) :
    Calls Tryz.prog 7 #[.slice a n c, .int .u64 x, .int .i64 W] w fun e w' => e = .returned (.slice (some ⟨w.heap.size, 0, none⟩) (n + W) (n + W)) ∧ Row w' w.heap.size (zs ++ be W x) ∧ w.grownBy w' none := by
  rcases hW with rfl | rfl | rfl | rfl
  · exact lput8 a n c zs x w hb hn h0 h1
  · exact lput16 a n c zs x w hb hn h0 h1
  · exact lput32 a n c zs x w hb hn h0 h1
  · exact lput64 a n c zs x w hb hn h0 h1
end Go.Proofs.YtjaecokhocbdlaaGreatDoor
