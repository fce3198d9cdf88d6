import Derived.Test.YtfgnllfgccbolaaDoorJoin
namespace Go.Proofs.YtfgnllfgccbolaaDoor
open Go.RowKit
set_option linter.unusedVariables false

theorem i64_low (n : Nat) (h : n < 9223372036854775808) : (n % 2 = 1 → bits .and .i64 (n : Int) 1 = 1) ∧ (¬ n % 2 = 1 → bits .and .i64 (n : Int) 1 = 0) := by
  have e : bits .and .i64 (n : Int) 1 = ((n % 2 : Nat) : Int) := by
    show IntKind.i64.wrap ((BitVec.ofInt 64 (n : Int) &&& BitVec.ofInt 64 ((1 : Nat) : Int)).toNat : Int) = _
    rw [BitVec.toNat_and, ofInt_u64 n (by omega), ofInt_u64 1 (by omega), show n &&& 1 = n % 2 from Nat.and_two_pow_sub_one_eq_mod n 1]
    simp [IntKind.wrap, IntKind.bits, IntKind.signed]
    omega
  exact ⟨fun h1 => by rw [e, h1]; rfl, fun h0 => by rw [e, show n % 2 = 0 from by omega]; rfl⟩

set_option maxHeartbeats 1000000 in
theorem join_neg (a b : Nat) (n : Int) (w : World) (hn : n < 0) :
    Calls Tryd.prog 16 #[.int .u32 a, .int .u32 b, .int .i64 n] w fun e w' => e = .returned (.int .u32 0) ∧ Below w.heap.size w w' := by
  go_enter Tryd.func16, Tryd.ntmps16
  go_wp2_with fail
  go_ret
  exact ⟨rfl, Below.refl _ _⟩

theorem join_step (k m A : Nat) (h : m % 2 = 1) : stps (2 * k * (m / 2)) (stps k A) = stps (k * m) A := by
  rw [← stps_add]
  congr 1
  have : m = 2 * (m / 2) + 1 := by omega
  rw [show k * m = k * (2 * (m / 2) + 1) from by rw [← this], Nat.mul_add, Nat.mul_one, Nat.mul_comm 2 k, Nat.mul_assoc, Nat.add_comm]
theorem join_skip (k m A : Nat) (h : ¬ m % 2 = 1) : stps (2 * k * (m / 2)) A = stps (k * m) A := by
  congr 1
  have : m = 2 * (m / 2) := by omega
  rw [show k * m = k * (2 * (m / 2)) from by rw [← this], Nat.mul_comm 2 k, Nat.mul_assoc]
set_option maxHeartbeats 1000000 in
theorem join_ (a b n : Nat) (w : World) (hT : Tab w) (ha : a < 4294967296) (hb : b < 4294967296) (hn : n < 9223372036854775808) :
    Calls Tryd.prog 16 #[.int .u32 a, .int .u32 b, .int .i64 n] w fun e w' => e = .returned (.int .u32 (stps (8 * n) a ^^^ b : Nat)) ∧ Below w.heap.size w w' := by
  have h0 : ¬ (n : Int) < 0 := by omega
  go_enter Tryd.func16, Tryd.ntmps16
  go_wp2_with (first | (go_at_call 22; refine (eight_ _ hT).mono ?_; rintro e w1 ⟨rfl, b1⟩) | (refine wpList_store39 rfl rfl _ _ rfl w1.heap.size 8 rfl rfl (pv 8 0) (heap_alloc_new w1 _) (pv_size 8 0) ?_))
  rw [zeros32 8]
  have A0 : Ar ((w1.alloc (.cells (pv 8 0) 39)).setRow w1.heap.size (mv 8)) w1.heap.size (mv 8) := Ar.row (heap_alloc_new w1 _) _
  have S1 := b1.size
  have B0 : Below w.heap.size w ((w1.alloc (.cells (pv 8 0) 39)).setRow w1.heap.size (mv 8)) := bel_row (b1.alloc S1 _) S1 _
  generalize (w1.alloc (.cells (pv 8 0) 39)).setRow w1.heap.size (mv 8) = w2 at *
  clear hT b1
  generalize w1.heap.size = g at *
  go_loopw [0, 2] (fun av nv wr => ∃ A m k : Nat, av = .int .u32 A ∧ nv = .int .i64 m ∧ A < 4294967296 ∧ m < 9223372036854775808 ∧ Hid (stps (k * m) A = stps (8 * n) a) ∧ Ar wr g (mv k) ∧ Below w.heap.size w wr) (fun _ nv _ => (intOf nv).toNat)
  case atStart => exact ⟨a, n, 8, rfl, rfl, ha, hn, rfl, A0, B0⟩
  case round =>
    obtain ⟨A, m, k, rfl, rfl, hA, hm, hst, a0, b0⟩ := hrel
    clear A0 B0
    have S := b0.size
    by_cases h1 : 0 < m
    · have hi := hid (mv_info k)
      have hsh : ((m : Int) / 2) = ((m / 2 : Nat) : Int) := by omega
      have HSh := hid hsh
      clear hsh
      obtain ⟨e1, e2⟩ := i64_low m hm
      by_cases hp : m % 2 = 1
      · have e3 := e1 hp
        have HJ := hid (join_step k m A hp)
        have hA2 : stps k A < 4294967296 := stps_lt k hA
        clear e1 e2 hp
        go_wp2_with (refine wpList_load_row rfl 39 _ rfl g rfl 39 (mv k) (0, 0) _ a0 under39 rfl hi.out ?_)
        refine (of_ k A _ hA).mono ?_
        rintro e w3 ⟨rfl, b3⟩
        have a3 := a0.kept b3
        have B3 := bel_bel b0 S b3
        have S3 := B3.size
        clear a0 b3 b0 S
        generalize stps k A = A2 at *
        go_wp2_with (refine wpList_load_row rfl 39 _ rfl g rfl 39 (mv k) (0, 0) _ a3 under39 rfl hi.out ?_)
        refine (twice_ k _).mono ?_
        rintro e w4 ⟨rfl, b4⟩
        have a4 := a3.kept b4
        have B4 := bel_bel B3 S3 b4
        clear a3 b4 B3 S3
        go_wp2_with (refine wpList_store39 rfl rfl _ _ rfl g (2 * k) rfl rfl (mv k) a4 (mv_size k) ?_)
        go_roundw
        case rel => exact ⟨A2, m / 2, 2 * k, rfl, by rw [← HSh.out], hA2, by omega, HJ.out.trans hst.out, a4.row _, bel_row B4 S1 _⟩
        case measure => simp [intOf]; omega
      · have e3 := e2 hp
        have HJ := hid (join_skip k m A hp)
        clear e1 e2 hp
        go_wp2_with (refine wpList_load_row rfl 39 _ rfl g rfl 39 (mv k) (0, 0) _ a0 under39 rfl hi.out ?_)
        refine (twice_ k _).mono ?_
        rintro e w4 ⟨rfl, b4⟩
        have a4 := a0.kept b4
        have B4 := bel_bel b0 S b4
        clear a0 b4 b0 S
        go_wp2_with (refine wpList_store39 rfl rfl _ _ rfl g (2 * k) rfl rfl (mv k) a4 (mv_size k) ?_)
        go_roundw
        case rel => exact ⟨A, m / 2, 2 * k, rfl, by rw [← HSh.out], hA, by omega, HJ.out.trans hst.out, a4.row _, bel_row B4 S1 _⟩
        case measure => simp [intOf]; omega
    · obtain rfl : m = 0 := by omega
      have hz : Hid (stps (8 * n) a = A) := by show _ = _; rw [← hst.out, Nat.mul_zero]; rfl
      have ex := u32_xor_nat A b hA hb
      clear hst
      go_wp2_with fail
      go_ret
      refine ⟨?_, b0⟩
      rw [hz.out]
      rfl
end Go.Proofs.YtfgnllfgccbolaaDoor
