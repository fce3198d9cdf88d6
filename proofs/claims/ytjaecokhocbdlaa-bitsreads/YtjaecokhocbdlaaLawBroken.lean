import Derived.Test.YtjaecokhocbdlaaWide
namespace Go.Proofs.Ytjaecokhocbdlaa
open Go.RowKit
set_option linter.unusedVariables false

/-- A list of calls that came in. -/
def IsOps (w : World) (a : Option Addr) (n : Nat) (K N : Nat → Int) (S : Nat → Bool) : Prop :=
  n = 0 ∨ ∃ b off, a = some ⟨b, off, none⟩ ∧ ∀ i, i < n → w.cell? ⟨b, off + i * 3, none⟩ = some (.int .i64 (K i)) ∧ w.cell? ⟨b, off + i * 3 + 1, none⟩ = some (.int .i64 (N i)) ∧ w.cell? ⟨b, off + i * 3 + 2, none⟩ = some (.bool (S i))

theorem tmod3 (s : Int) : -2 ≤ s.tmod 3 ∧ s.tmod 3 ≤ 2 := by
  have h1 := Int.lt_tmod_of_pos s (show (0 : Int) < 3 by omega)
  have h2 := Int.tmod_lt_of_pos s (show (0 : Int) < 3 by omega)
  omega
theorem three (n : Int) : (n.tmod 3 + 3) % 3 = 0 ∨ (n.tmod 3 + 3) % 3 = 1 ∨ (n.tmod 3 + 3) % 3 = 2 := by omega

set_option maxRecDepth 100000 in
set_option maxHeartbeats 1000000 in
theorem bitsBroken_ (a : Option Addr) (n c : Nat) (zs : List Int) (how : Int) (a2 : Option Addr) (n2 c2 : Nat) (K N : Nat → Int) (S : Nat → Bool) (w : World) (hb : Bs w a n zs) (hnc : n ≤ c) (hnm : c ≤ maxLen) (hac : a = none → c = 0)
    (hn2 : n2 ≤ maxLen) (hs : IsOps w a2 n2 K N S) :
    Calls Try.prog 7 #[.slice a n c, .int .i64 how, .slice a2 n2 c2] w fun en w' => en = .returned (.bool true) ∧ Below w.heap.size w w' := by
  unfold maxLen at hnm hn2
  obtain ⟨t1, t2⟩ := tmod3 how
  by_cases hn : n ≤ 65536
  · rcases three how with h3 | h3 | h3
    · go_enter Try.func7, Try.ntmps7
      go_wp2_with fail
      refine (first_ w).mono ?_
      rintro en w1 ⟨rfl, B1⟩
      have b1 := hb.below B1
      have S1 := B1.size
      go_wp2_with fail
      refine (newReader a n c zs w1 b1 hac (by omega) hnc).mono ?_
      rintro en w2 ⟨r, g, rfl, hR, hr, hg, _, hgr⟩
      have B2 := bel_grow B1 S1 hgr
      have hrw : w.heap.size ≤ r := by omega
      clear b1 B1 S1 hgr hr hg
      go_wp2_with fail
      refine (bytes_breaks r g _ zs 0 w2 hR 10 (.inr ⟨by omega, by have := hb.1; omega, rfl⟩)).mono ?_
      rintro en w3 ⟨rfl, hB, ho⟩
      have B3 := bel_only B2 hrw ho
      clear hR B2 ho
      go_wp2_with fail
      go_loopw [7, 10] (fun ok i wr => ∃ k : Nat, k ≤ n2 ∧ ok = .bool true ∧ i = .int .i64 k ∧ Rb wr r 0 10 ∧ Below w.heap.size w wr) (fun _ i _ => n2 - (intOf i).toNat)
      case atStart => exact ⟨0, by omega, rfl, rfl, hB, B3⟩
      case round =>
        obtain ⟨k, hk, rfl, rfl, hRb, hbl⟩ := hrel
        clear hB B3
        by_cases hlt : k < n2 ∧ k < 60
        · obtain ⟨l1, l2⟩ := hlt
          have Sz := hbl.size
          rcases hs with hs | ⟨b, off, rfl, hc⟩
          · omega
          obtain ⟨e0, e1, e2⟩ := hc k l1
          have q0 := (hbl.cell (World.block_lt_of_cell? w _ e0)).trans e0
          have q1 := (hbl.cell (World.block_lt_of_cell? w _ e1)).trans e1
          have q2 := (hbl.cell (World.block_lt_of_cell? w _ e2)).trans e2
          generalize K k = kk at *
          generalize N k = nn at *
          generalize S k = ss at *
          have i1 : (k : Int) < (n2 : Int) := by omega
          have i2 : (k : Int) < 60 := by omega
          have hRb' : Rb (wr.alloc (.cells #[.int .i64 kk, .int .i64 nn, .bool ss] 34)) r 0 10 := hRb.kept (Below.heap_alloc wr _ r hRb.lt)
          have B' : Below w.heap.size w (wr.alloc (.cells #[.int .i64 kk, .int .i64 nn, .bool ss] 34)) := hbl.alloc Sz _
          clear hc e0 e1 e2 hRb hbl
          by_cases k5 : kk = 5
          · subst k5
            go_wp2_with fail
            refine (bytes_broken r nn 0 10 _ hRb').mono ?_
            rintro en w4 ⟨rfl, rfl⟩
            go_wp2_with fail
            refine (err_broken_d r 0 10 _ hRb').mono ?_
            rintro en w5 ⟨rfl, hd⟩
            have R5 := hRb'.drawn hd
            have B5 := bel_bel B' B'.size hd.below
            clear hRb' B' hd
            go_wp2_with (first
              | (go_at_call 19; refine (num_ _ _).mono ?_; rintro en w' ⟨rfl, hw⟩; obtain rfl := hw.symm; clear hw)
              | (go_at_call 20; refine (left_broken r 0 10 _ R5).mono ?_; rintro en w' ⟨rfl, hw⟩; obtain rfl := hw.symm; clear hw))
            go_roundw
            case rel => exact ⟨k + 1, by omega, rfl, by go_num, R5, B5⟩
            case measure => simp [intOf]; omega
          · have k5' : (kk == 5) = false := by rw [beq_eq_false_iff_ne]; exact k5
            by_cases k6 : kk = 6
            · subst k6
              go_wp2_with fail
              refine (zeros_broken r nn 0 10 _ hRb').mono ?_
              rintro en w4 ⟨rfl, rfl⟩
              go_wp2_with fail
              refine (err_broken_d r 0 10 _ hRb').mono ?_
              rintro en w5 ⟨rfl, hd⟩
              have R5 := hRb'.drawn hd
              have B5 := bel_bel B' B'.size hd.below
              clear hRb' B' hd
              go_wp2_with (first
                | (go_at_call 19; refine (num_ _ _).mono ?_; rintro en w' ⟨rfl, hw⟩; obtain rfl := hw.symm; clear hw)
                | (go_at_call 20; refine (left_broken r 0 10 _ R5).mono ?_; rintro en w' ⟨rfl, hw⟩; obtain rfl := hw.symm; clear hw))
              go_roundw
              case rel => exact ⟨k + 1, by omega, rfl, by go_num, R5, B5⟩
              case measure => simp [intOf]; omega
            · have k6' : (kk == 6) = false := by rw [beq_eq_false_iff_ne]; exact k6
              clear k5 k6
              go_wp2_with fail
              refine (wide_ kk _).mono ?_
              rintro en w4 ⟨rfl, rfl⟩
              have hW := wd_is kk
              generalize wd kk = W at *
              go_wp2_with fail
              refine (lget_broken W r hW 0 10 _ hRb').mono ?_
              rintro en w4 ⟨rfl, rfl⟩
              go_wp2_with fail
              refine (err_broken_d r 0 10 _ hRb').mono ?_
              rintro en w5 ⟨rfl, hd⟩
              have R5 := hRb'.drawn hd
              have B5 := bel_bel B' B'.size hd.below
              clear hRb' B' hd
              go_wp2_with (first
                | (go_at_call 19; refine (num_ _ _).mono ?_; rintro en w' ⟨rfl, hw⟩; obtain rfl := hw.symm; clear hw)
                | (go_at_call 20; refine (left_broken r 0 10 _ R5).mono ?_; rintro en w' ⟨rfl, hw⟩; obtain rfl := hw.symm; clear hw))
              go_roundw
              case rel => exact ⟨k + 1, by omega, rfl, by go_num, R5, B5⟩
              case measure => simp [intOf]; omega
        · have hRb' := hRb
          have B' := hbl
          clear hRb hbl
          by_cases hk1 : k < n2
          · have i1 : (k : Int) < (n2 : Int) := by omega
            have i2 : ¬ (k : Int) < 60 := by omega
            go_wp2_with fail
            refine (err_broken_d r 0 10 _ hRb').mono ?_
            rintro en w5 ⟨rfl, hd⟩
            have R5 := hRb'.drawn hd
            have B5 := bel_bel B' B'.size hd.below
            clear hRb' B' hd
            go_wp2_with (first
              | (go_at_call 19; refine (num_ _ _).mono ?_; rintro en w' ⟨rfl, hw⟩; obtain rfl := hw.symm; clear hw)
              | (go_at_call 20; refine (left_broken r 0 10 _ R5).mono ?_; rintro en w' ⟨rfl, hw⟩; obtain rfl := hw.symm; clear hw))
            go_ret
            exact ⟨rfl, B5⟩
          · have i1 : ¬ (k : Int) < (n2 : Int) := by omega
            go_wp2_with fail
            refine (err_broken_d r 0 10 _ hRb').mono ?_
            rintro en w5 ⟨rfl, hd⟩
            have R5 := hRb'.drawn hd
            have B5 := bel_bel B' B'.size hd.below
            clear hRb' B' hd
            go_wp2_with (first
              | (go_at_call 19; refine (num_ _ _).mono ?_; rintro en w' ⟨rfl, hw⟩; obtain rfl := hw.symm; clear hw)
              | (go_at_call 20; refine (left_broken r 0 10 _ R5).mono ?_; rintro en w' ⟨rfl, hw⟩; obtain rfl := hw.symm; clear hw))
            go_ret
            exact ⟨rfl, B5⟩
    · go_enter Try.func7, Try.ntmps7
      go_wp2_with fail
      refine (first_ w).mono ?_
      rintro en w1 ⟨rfl, B1⟩
      have b1 := hb.below B1
      have S1 := B1.size
      go_wp2_with fail
      refine (newReader a n c zs w1 b1 hac (by omega) hnc).mono ?_
      rintro en w2 ⟨r, g, rfl, hR, hr, hg, _, hgr⟩
      have B2 := bel_grow B1 S1 hgr
      have hrw : w.heap.size ≤ r := by omega
      clear b1 B1 S1 hgr hr hg
      go_wp2_with fail
      refine (bytes_breaks r g (-1) zs 0 w2 hR 11 (.inl ⟨by omega, rfl⟩)).mono ?_
      rintro en w3 ⟨rfl, hB, ho⟩
      have B3 := bel_only B2 hrw ho
      clear hR B2 ho
      go_wp2_with fail
      go_loopw [7, 10] (fun ok i wr => ∃ k : Nat, k ≤ n2 ∧ ok = .bool true ∧ i = .int .i64 k ∧ Rb wr r 0 11 ∧ Below w.heap.size w wr) (fun _ i _ => n2 - (intOf i).toNat)
      case atStart => exact ⟨0, by omega, rfl, rfl, hB, B3⟩
      case round =>
        obtain ⟨k, hk, rfl, rfl, hRb, hbl⟩ := hrel
        clear hB B3
        by_cases hlt : k < n2 ∧ k < 60
        · obtain ⟨l1, l2⟩ := hlt
          have Sz := hbl.size
          rcases hs with hs | ⟨b, off, rfl, hc⟩
          · omega
          obtain ⟨e0, e1, e2⟩ := hc k l1
          have q0 := (hbl.cell (World.block_lt_of_cell? w _ e0)).trans e0
          have q1 := (hbl.cell (World.block_lt_of_cell? w _ e1)).trans e1
          have q2 := (hbl.cell (World.block_lt_of_cell? w _ e2)).trans e2
          generalize K k = kk at *
          generalize N k = nn at *
          generalize S k = ss at *
          have i1 : (k : Int) < (n2 : Int) := by omega
          have i2 : (k : Int) < 60 := by omega
          have hRb' : Rb (wr.alloc (.cells #[.int .i64 kk, .int .i64 nn, .bool ss] 34)) r 0 11 := hRb.kept (Below.heap_alloc wr _ r hRb.lt)
          have B' : Below w.heap.size w (wr.alloc (.cells #[.int .i64 kk, .int .i64 nn, .bool ss] 34)) := hbl.alloc Sz _
          clear hc e0 e1 e2 hRb hbl
          by_cases k5 : kk = 5
          · subst k5
            go_wp2_with fail
            refine (bytes_broken r nn 0 11 _ hRb').mono ?_
            rintro en w4 ⟨rfl, rfl⟩
            go_wp2_with fail
            refine (err_broken_d r 0 11 _ hRb').mono ?_
            rintro en w5 ⟨rfl, hd⟩
            have R5 := hRb'.drawn hd
            have B5 := bel_bel B' B'.size hd.below
            clear hRb' B' hd
            go_wp2_with (first
              | (go_at_call 19; refine (num_ _ _).mono ?_; rintro en w' ⟨rfl, hw⟩; obtain rfl := hw.symm; clear hw)
              | (go_at_call 20; refine (left_broken r 0 11 _ R5).mono ?_; rintro en w' ⟨rfl, hw⟩; obtain rfl := hw.symm; clear hw))
            go_roundw
            case rel => exact ⟨k + 1, by omega, rfl, by go_num, R5, B5⟩
            case measure => simp [intOf]; omega
          · have k5' : (kk == 5) = false := by rw [beq_eq_false_iff_ne]; exact k5
            by_cases k6 : kk = 6
            · subst k6
              go_wp2_with fail
              refine (zeros_broken r nn 0 11 _ hRb').mono ?_
              rintro en w4 ⟨rfl, rfl⟩
              go_wp2_with fail
              refine (err_broken_d r 0 11 _ hRb').mono ?_
              rintro en w5 ⟨rfl, hd⟩
              have R5 := hRb'.drawn hd
              have B5 := bel_bel B' B'.size hd.below
              clear hRb' B' hd
              go_wp2_with (first
                | (go_at_call 19; refine (num_ _ _).mono ?_; rintro en w' ⟨rfl, hw⟩; obtain rfl := hw.symm; clear hw)
                | (go_at_call 20; refine (left_broken r 0 11 _ R5).mono ?_; rintro en w' ⟨rfl, hw⟩; obtain rfl := hw.symm; clear hw))
              go_roundw
              case rel => exact ⟨k + 1, by omega, rfl, by go_num, R5, B5⟩
              case measure => simp [intOf]; omega
            · have k6' : (kk == 6) = false := by rw [beq_eq_false_iff_ne]; exact k6
              clear k5 k6
              go_wp2_with fail
              refine (wide_ kk _).mono ?_
              rintro en w4 ⟨rfl, rfl⟩
              have hW := wd_is kk
              generalize wd kk = W at *
              go_wp2_with fail
              refine (lget_broken W r hW 0 11 _ hRb').mono ?_
              rintro en w4 ⟨rfl, rfl⟩
              go_wp2_with fail
              refine (err_broken_d r 0 11 _ hRb').mono ?_
              rintro en w5 ⟨rfl, hd⟩
              have R5 := hRb'.drawn hd
              have B5 := bel_bel B' B'.size hd.below
              clear hRb' B' hd
              go_wp2_with (first
                | (go_at_call 19; refine (num_ _ _).mono ?_; rintro en w' ⟨rfl, hw⟩; obtain rfl := hw.symm; clear hw)
                | (go_at_call 20; refine (left_broken r 0 11 _ R5).mono ?_; rintro en w' ⟨rfl, hw⟩; obtain rfl := hw.symm; clear hw))
              go_roundw
              case rel => exact ⟨k + 1, by omega, rfl, by go_num, R5, B5⟩
              case measure => simp [intOf]; omega
        · have hRb' := hRb
          have B' := hbl
          clear hRb hbl
          by_cases hk1 : k < n2
          · have i1 : (k : Int) < (n2 : Int) := by omega
            have i2 : ¬ (k : Int) < 60 := by omega
            go_wp2_with fail
            refine (err_broken_d r 0 11 _ hRb').mono ?_
            rintro en w5 ⟨rfl, hd⟩
            have R5 := hRb'.drawn hd
            have B5 := bel_bel B' B'.size hd.below
            clear hRb' B' hd
            go_wp2_with (first
              | (go_at_call 19; refine (num_ _ _).mono ?_; rintro en w' ⟨rfl, hw⟩; obtain rfl := hw.symm; clear hw)
              | (go_at_call 20; refine (left_broken r 0 11 _ R5).mono ?_; rintro en w' ⟨rfl, hw⟩; obtain rfl := hw.symm; clear hw))
            go_ret
            exact ⟨rfl, B5⟩
          · have i1 : ¬ (k : Int) < (n2 : Int) := by omega
            go_wp2_with fail
            refine (err_broken_d r 0 11 _ hRb').mono ?_
            rintro en w5 ⟨rfl, hd⟩
            have R5 := hRb'.drawn hd
            have B5 := bel_bel B' B'.size hd.below
            clear hRb' B' hd
            go_wp2_with (first
              | (go_at_call 19; refine (num_ _ _).mono ?_; rintro en w' ⟨rfl, hw⟩; obtain rfl := hw.symm; clear hw)
              | (go_at_call 20; refine (left_broken r 0 11 _ R5).mono ?_; rintro en w' ⟨rfl, hw⟩; obtain rfl := hw.symm; clear hw))
            go_ret
            exact ⟨rfl, B5⟩
    · go_enter Try.func7, Try.ntmps7
      go_wp2_with fail
      refine (first_ w).mono ?_
      rintro en w1 ⟨rfl, B1⟩
      have b1 := hb.below B1
      have S1 := B1.size
      go_wp2_with fail
      refine (newReader a n c zs w1 b1 hac (by omega) hnc).mono ?_
      rintro en w2 ⟨r, g, rfl, hR, hr, hg, _, hgr⟩
      have B2 := bel_grow B1 S1 hgr
      have hrw : w.heap.size ≤ r := by omega
      clear b1 B1 S1 hgr hr hg
      go_wp2_with fail
      refine (zeros_breaks r g 9223372036854775807 10 zs 0 w2 hR (.inr ⟨by omega, by have := hb.1; omega, rfl⟩)).mono ?_
      rintro en w3 ⟨rfl, hB, ho⟩
      have B3 := bel_only B2 hrw ho
      clear hR B2 ho
      go_wp2_with fail
      go_loopw [7, 10] (fun ok i wr => ∃ k : Nat, k ≤ n2 ∧ ok = .bool true ∧ i = .int .i64 k ∧ Rb wr r 0 10 ∧ Below w.heap.size w wr) (fun _ i _ => n2 - (intOf i).toNat)
      case atStart => exact ⟨0, by omega, rfl, rfl, hB, B3⟩
      case round =>
        obtain ⟨k, hk, rfl, rfl, hRb, hbl⟩ := hrel
        clear hB B3
        by_cases hlt : k < n2 ∧ k < 60
        · obtain ⟨l1, l2⟩ := hlt
          have Sz := hbl.size
          rcases hs with hs | ⟨b, off, rfl, hc⟩
          · omega
          obtain ⟨e0, e1, e2⟩ := hc k l1
          have q0 := (hbl.cell (World.block_lt_of_cell? w _ e0)).trans e0
          have q1 := (hbl.cell (World.block_lt_of_cell? w _ e1)).trans e1
          have q2 := (hbl.cell (World.block_lt_of_cell? w _ e2)).trans e2
          generalize K k = kk at *
          generalize N k = nn at *
          generalize S k = ss at *
          have i1 : (k : Int) < (n2 : Int) := by omega
          have i2 : (k : Int) < 60 := by omega
          have hRb' : Rb (wr.alloc (.cells #[.int .i64 kk, .int .i64 nn, .bool ss] 34)) r 0 10 := hRb.kept (Below.heap_alloc wr _ r hRb.lt)
          have B' : Below w.heap.size w (wr.alloc (.cells #[.int .i64 kk, .int .i64 nn, .bool ss] 34)) := hbl.alloc Sz _
          clear hc e0 e1 e2 hRb hbl
          by_cases k5 : kk = 5
          · subst k5
            go_wp2_with fail
            refine (bytes_broken r nn 0 10 _ hRb').mono ?_
            rintro en w4 ⟨rfl, rfl⟩
            go_wp2_with fail
            refine (err_broken_d r 0 10 _ hRb').mono ?_
            rintro en w5 ⟨rfl, hd⟩
            have R5 := hRb'.drawn hd
            have B5 := bel_bel B' B'.size hd.below
            clear hRb' B' hd
            go_wp2_with (first
              | (go_at_call 19; refine (num_ _ _).mono ?_; rintro en w' ⟨rfl, hw⟩; obtain rfl := hw.symm; clear hw)
              | (go_at_call 20; refine (left_broken r 0 10 _ R5).mono ?_; rintro en w' ⟨rfl, hw⟩; obtain rfl := hw.symm; clear hw))
            go_roundw
            case rel => exact ⟨k + 1, by omega, rfl, by go_num, R5, B5⟩
            case measure => simp [intOf]; omega
          · have k5' : (kk == 5) = false := by rw [beq_eq_false_iff_ne]; exact k5
            by_cases k6 : kk = 6
            · subst k6
              go_wp2_with fail
              refine (zeros_broken r nn 0 10 _ hRb').mono ?_
              rintro en w4 ⟨rfl, rfl⟩
              go_wp2_with fail
              refine (err_broken_d r 0 10 _ hRb').mono ?_
              rintro en w5 ⟨rfl, hd⟩
              have R5 := hRb'.drawn hd
              have B5 := bel_bel B' B'.size hd.below
              clear hRb' B' hd
              go_wp2_with (first
                | (go_at_call 19; refine (num_ _ _).mono ?_; rintro en w' ⟨rfl, hw⟩; obtain rfl := hw.symm; clear hw)
                | (go_at_call 20; refine (left_broken r 0 10 _ R5).mono ?_; rintro en w' ⟨rfl, hw⟩; obtain rfl := hw.symm; clear hw))
              go_roundw
              case rel => exact ⟨k + 1, by omega, rfl, by go_num, R5, B5⟩
              case measure => simp [intOf]; omega
            · have k6' : (kk == 6) = false := by rw [beq_eq_false_iff_ne]; exact k6
              clear k5 k6
              go_wp2_with fail
              refine (wide_ kk _).mono ?_
              rintro en w4 ⟨rfl, rfl⟩
              have hW := wd_is kk
              generalize wd kk = W at *
              go_wp2_with fail
              refine (lget_broken W r hW 0 10 _ hRb').mono ?_
              rintro en w4 ⟨rfl, rfl⟩
              go_wp2_with fail
              refine (err_broken_d r 0 10 _ hRb').mono ?_
              rintro en w5 ⟨rfl, hd⟩
              have R5 := hRb'.drawn hd
              have B5 := bel_bel B' B'.size hd.below
              clear hRb' B' hd
              go_wp2_with (first
                | (go_at_call 19; refine (num_ _ _).mono ?_; rintro en w' ⟨rfl, hw⟩; obtain rfl := hw.symm; clear hw)
                | (go_at_call 20; refine (left_broken r 0 10 _ R5).mono ?_; rintro en w' ⟨rfl, hw⟩; obtain rfl := hw.symm; clear hw))
              go_roundw
              case rel => exact ⟨k + 1, by omega, rfl, by go_num, R5, B5⟩
              case measure => simp [intOf]; omega
        · have hRb' := hRb
          have B' := hbl
          clear hRb hbl
          by_cases hk1 : k < n2
          · have i1 : (k : Int) < (n2 : Int) := by omega
            have i2 : ¬ (k : Int) < 60 := by omega
            go_wp2_with fail
            refine (err_broken_d r 0 10 _ hRb').mono ?_
            rintro en w5 ⟨rfl, hd⟩
            have R5 := hRb'.drawn hd
            have B5 := bel_bel B' B'.size hd.below
            clear hRb' B' hd
            go_wp2_with (first
              | (go_at_call 19; refine (num_ _ _).mono ?_; rintro en w' ⟨rfl, hw⟩; obtain rfl := hw.symm; clear hw)
              | (go_at_call 20; refine (left_broken r 0 10 _ R5).mono ?_; rintro en w' ⟨rfl, hw⟩; obtain rfl := hw.symm; clear hw))
            go_ret
            exact ⟨rfl, B5⟩
          · have i1 : ¬ (k : Int) < (n2 : Int) := by omega
            go_wp2_with fail
            refine (err_broken_d r 0 10 _ hRb').mono ?_
            rintro en w5 ⟨rfl, hd⟩
            have R5 := hRb'.drawn hd
            have B5 := bel_bel B' B'.size hd.below
            clear hRb' B' hd
            go_wp2_with (first
              | (go_at_call 19; refine (num_ _ _).mono ?_; rintro en w' ⟨rfl, hw⟩; obtain rfl := hw.symm; clear hw)
              | (go_at_call 20; refine (left_broken r 0 10 _ R5).mono ?_; rintro en w' ⟨rfl, hw⟩; obtain rfl := hw.symm; clear hw))
            go_ret
            exact ⟨rfl, B5⟩
  · go_enter Try.func7, Try.ntmps7
    go_wp2_with fail
    refine (first_ w).mono ?_
    rintro en w1 ⟨rfl, B1⟩
    go_wp2_with fail
    go_ret
    exact ⟨rfl, B1⟩
end Go.Proofs.Ytjaecokhocbdlaa
