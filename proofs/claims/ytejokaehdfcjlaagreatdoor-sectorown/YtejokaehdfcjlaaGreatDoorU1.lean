import Derived.Test.YtejokaehdfcjlaaGreatDoorS7
import Derived.Lib.AppendStr
namespace Go.Proofs.YtejokaehdfcjlaaGreatDoor
set_option maxRecDepth 100000
open Go.RowKit
set_option linter.unusedVariables false

set_option maxHeartbeats 1000000 in
theorem refSum_ (a : Option Addr) (n cap : Nat) (zs : List Int) (w : World) (hb : Bs w a n zs) (hn : n ≤ 1000000) :
    Calls Tryz.prog 18 #[.slice a n cap] w fun e w' => e = .returned (.int .u32 (updc 0 zs)) ∧ w' = w := by
  have H0 : 4294967295 < 4294967296 := by omega
  have HU : Hid (updc 0 zs = upd 4294967295 zs ^^^ 4294967295) := by show _ = _; unfold updc; rw [Nat.zero_xor]
  have hr0 : ∃ r0 : Nat, r0 = 4294967295 := ⟨_, rfl⟩
  go_enter Tryz.func18, Tryz.ntmps18
  go_wp2
  go_loopw [4, 3] (fun i r wr => ∃ k : Nat, k ≤ n ∧ i = .int .i64 k ∧ r = .int .u32 (upd 4294967295 (zs.take k)) ∧ wr = w) (fun i _ _ => n - (intOf i).toNat)
  case atStart => exact ⟨0, by omega, rfl, rfl, rfl⟩
  case round =>
    obtain ⟨k, hk, rfl, rfl, rfl⟩ := hrel
    have hl := upd_lt (zs.take k) (r := 4294967295) (by omega) fun z hz => hb.2.1 z (List.mem_of_mem_take hz)
    by_cases hlt : k < n
    · obtain ⟨e1, e2, e3⟩ := hb
      rcases e3 with e3 | ⟨b, off, rfl, hcl⟩
      · omega
      have hck := hcl k hlt
      have hz := getD_byte e2 k
      have HS := hid (upd_take 4294967295 zs k (by omega))
      clear hcl e2
      generalize zs.getD k 0 = z at *
      generalize upd 4294967295 (zs.take k) = r at *
      have e4 : bits .xor .u32 (r : Int) z = ((r ^^^ z.toNat : Nat) : Int) := by
        rw [u32_xor _ _ (by omega) (by omega) hz.1 (by omega), Int.toNat_natCast]
      have hs : r ^^^ z.toNat < 4294967296 := xor_lt32 hl (by omega)
      have HK : Hid (tk r z = stps 8 (r ^^^ z.toNat)) := rfl
      generalize r ^^^ z.toNat = s at *
      clear hl
      go_wp2
      clear e4
      obtain ⟨wq, rfl⟩ : ∃ wq, wq = wr := ⟨_, rfl⟩
      go_loopw [5, 3] (fun i r wr => ∃ j : Nat, j ≤ 8 ∧ i = .int .i64 j ∧ r = .int .u32 (stps j s) ∧ wr = wq) (fun i _ _ => 8 - (intOf i).toNat)
      case atStart => exact ⟨0, by omega, rfl, rfl, rfl⟩
      case round =>
        obtain ⟨j, hj, rfl, rfl, rfl⟩ := hrel
        have hq : stps j s < 4294967296 := stps_lt j hs
        have HJ : Hid (stps (j + 1) s = stp (stps j s)) := by show _ = _; rw [stps_add]; rfl
        by_cases hj8 : j < 8
        · generalize stps j s = q at *
          have f1 : bits .and .u32 (q : Int) 1 = ((q % 2 : Nat) : Int) := by
            have := u32_and_nat q 1 hq (by omega)
            rw [show q &&& 1 = q % 2 from Nat.and_two_pow_sub_one_eq_mod q 1] at this
            exact this
          have f2 : bits .xor .u32 ((q : Int) / 2) 2197175160 = ((q / 2 ^^^ 2197175160 : Nat) : Int) := by
            rw [show (q : Int) / 2 = ((q / 2 : Nat) : Int) from by omega]
            exact u32_xor_nat (q / 2) 2197175160 (by omega) (by omega)
          by_cases h : q % 2 = 1
          · have HP : Hid (stp q = q / 2 ^^^ 2197175160) := by show _ = _; unfold stp; rw [if_pos h]
            have f3 : bits .and .u32 (q : Int) 1 = 1 := by rw [f1, h]; rfl
            clear h f1
            go_wp2
            go_roundw
            case rel => exact ⟨j + 1, by omega, by go_num, by rw [HJ.out, HP.out], trivial⟩
            case measure => simp [intOf]; omega
          · have HP : Hid (stp q = q / 2) := by show _ = _; unfold stp; rw [if_neg h]
            have f3 : bits .and .u32 (q : Int) 1 = 0 := by rw [f1, show q % 2 = 0 from by omega]; rfl
            clear h f1 f2
            go_wp2
            go_roundw
            case rel => exact ⟨j + 1, by omega, by go_num, by rw [HJ.out, HP.out]; rfl, trivial⟩
            case measure => simp [intOf]; omega
        · obtain rfl : j = 8 := by omega
          rw [← HK.out, ← HS.out]
          go_wp2
          go_roundw
          case rel => exact ⟨k + 1, by omega, by go_num, rfl, trivial⟩
          case measure => simp [intOf]; omega
    · obtain rfl : k = n := by omega
      rw [List.take_of_length_le (by rw [hb.1]; exact Nat.le_refl _)] at hl ⊢
      have e1 := (not32 _ hl).2
      clear hb hl
      generalize upd 4294967295 zs = r at *
      go_wp2
      go_ret
      exact ⟨ret_u32 HU.out.symm, rfl⟩

theorem val_take (zs : List Int) (k : Nat) (h : k < zs.length) : val (zs.take (k + 1)) = val (zs.take k) * 256 + zs.getD k 0 := by
  rw [List.take_succ_eq_append_getElem h, val_snoc]
  simp only [List.getD, List.getElem?_eq_getElem h, Option.getD_some]
theorem val_small (zs : List Int) (k : Nat) (h8 : k < 8) (hb : By zs) : 0 ≤ val (zs.take k) ∧ val (zs.take k) < 72057594037927936 := by
  have h := val_bound (zs.take k) (hb.take k)
  refine ⟨h.1, Int.lt_of_lt_of_le h.2 ?_⟩
  have hl : (zs.take k).length ≤ 7 := by rw [List.length_take]; omega
  generalize (zs.take k).length = m at *
  have e : m = 0 ∨ m = 1 ∨ m = 2 ∨ m = 3 ∨ m = 4 ∨ m = 5 ∨ m = 6 ∨ m = 7 := by omega
  rcases e with rfl | rfl | rfl | rfl | rfl | rfl | rfl | rfl <;> decide
theorem be_take (n : Nat) (x : Int) : ∀ k, k < n → (be n x).take (k + 1) = (be n x).take k ++ [x / 256 ^ (n - 1 - k) % 256] := by
  induction n with
  | zero => intro k h; omega
  | succ n ih =>
    intro k h
    cases k with
    | zero => simp [be]
    | succ k =>
      rw [be, List.take_succ_cons, List.take_succ_cons, ih k (by omega), List.cons_append, show n + 1 - 1 - (k + 1) = n - 1 - k from by omega]
set_option maxHeartbeats 1000000 in
theorem refNumber_ (v0 : Value) (base m n : Nat) (X : List Int) (x : Int) (w : World) (ho : w.ownsRow base 5 1 v0 m (cells X)) (hm : m ≤ 1000) (hn : n ≤ 8) (h0 : 0 ≤ x) (h1 : x ≤ 18446744073709551615) (hB : base ≤ w.heap.size) :
    Calls Tryz.prog 17 #[v0, .int .u64 x, .int .i64 n] w fun en w' => ∃ v, en = .returned v ∧ w'.ownsRow base 5 1 v (m + n) (cells (X ++ be n x)) ∧ Below base w w' := by
  obtain ⟨i, hi, hz0, hz1, hz2⟩ := info_parts info5
  have HO := hid ho
  clear ho
  go_enter Tryz.func17, Tryz.ntmps17
  go_wp2
  go_loopw [0, 7] (fun v i wr => ∃ k : Nat, k ≤ n ∧ i = .int .i64 ((n : Int) - 1 - k) ∧ wr.ownsRow base 5 1 v (m + k) (cells (X ++ (be n x).take k)) ∧ Below base w wr) (fun _ i _ => (intOf i + 1).toNat)
  case atStart => exact ⟨0, by omega, by simp, by simpa using HO.out, Below.refl _ _⟩
  case round =>
    obtain ⟨k, hk, rfl, hown, hbl⟩ := hrel
    have hsz := hbl.size
    by_cases hlt : k < n
    · have HS := hid (be_take n x k hlt)
      rw [show (n : Int) - 1 - k = ((n - 1 - k : Nat) : Int) from by omega]
      have hj8 : n - 1 - k < 8 := by omega
      have HJ : Hid (n - 1 - k + k + 1 = n) := by show _ = _; omega
      generalize n - 1 - k = j at *
      have e : j = 0 ∨ j = 1 ∨ j = 2 ∨ j = 3 ∨ j = 4 ∨ j = 5 ∨ j = 6 ∨ j = 7 := by omega
      rcases e with rfl | rfl | rfl | rfl | rfl | rfl | rfl | rfl
      · have HS2 : Hid (cells (X ++ (be n x).take k) ++ [.int .u8 (x % 256)] = cells (X ++ (be n x).take (k + 1))) := by
          have hs := HS.out
          show _ = _
          rw [hs, ← List.append_assoc, cells_append]
          simp [cells]
        clear HS
        go_wp2_with (at_builtin; refine wpList_append_own _ rfl _ _ 44 rfl base 5 i (.int .u8 0) 1 1 Tryz.underlying44 hi hz0 hz1 hz2 rfl (by decide) _ _ _ rfl (hown.alloc _) ⟨wr.heap.size, 0, none⟩ 1 1 [.int .u8 (x % 256)] rfl rfl ?c1 ?c2 ?c3 ?c4 ?c5 ?_)
        case c1 =>
          intro j u hj
          match j, hj with
          | 0, hj => simp at hj; subst hj; simp [Addr.add] <;> omega
        case c2 => intro u hu; simp at hu; subst hu; rfl
        case c3 => unfold maxLen; omega
        case c4 => omega
        case c5 => simp; omega
        intro v' w1 hown' hgrow _
        have hown2 : w1.ownsRow base 5 1 v' (m + (k + 1)) (cells (X ++ (be n x).take (k + 1))) := by rw [← HS2.out]; exact hown'
        have hbl2 : Below base w w1 := (hbl.alloc (by omega) _).grown hgrow (by simp; omega) fun q hq => (hown.lt q hq).1
        clear hown' hgrow hown
        go_wp2
        go_roundw
        case rel => exact ⟨k + 1, by omega, congrArg (Value.int .i64) (by have := HJ.out; omega), hown2, hbl2⟩
        case measure => simp [intOf]
      · have HS2 : Hid (cells (X ++ (be n x).take k) ++ [.int .u8 (x / 256 % 256)] = cells (X ++ (be n x).take (k + 1))) := by
          have hs := HS.out
          show _ = _
          rw [hs, ← List.append_assoc, cells_append]
          simp [cells]
        clear HS
        go_wp2_with (at_builtin; refine wpList_append_own _ rfl _ _ 44 rfl base 5 i (.int .u8 0) 1 1 Tryz.underlying44 hi hz0 hz1 hz2 rfl (by decide) _ _ _ rfl (hown.alloc _) ⟨wr.heap.size, 0, none⟩ 1 1 [.int .u8 (x / 256 % 256)] rfl rfl ?c1 ?c2 ?c3 ?c4 ?c5 ?_)
        case c1 =>
          intro j u hj
          match j, hj with
          | 0, hj => simp at hj; subst hj; simp [Addr.add] <;> omega
        case c2 => intro u hu; simp at hu; subst hu; rfl
        case c3 => unfold maxLen; omega
        case c4 => omega
        case c5 => simp; omega
        intro v' w1 hown' hgrow _
        have hown2 : w1.ownsRow base 5 1 v' (m + (k + 1)) (cells (X ++ (be n x).take (k + 1))) := by rw [← HS2.out]; exact hown'
        have hbl2 : Below base w w1 := (hbl.alloc (by omega) _).grown hgrow (by simp; omega) fun q hq => (hown.lt q hq).1
        clear hown' hgrow hown
        go_wp2
        go_roundw
        case rel => exact ⟨k + 1, by omega, congrArg (Value.int .i64) (by have := HJ.out; omega), hown2, hbl2⟩
        case measure => simp [intOf]
      · have HS2 : Hid (cells (X ++ (be n x).take k) ++ [.int .u8 (x / 65536 % 256)] = cells (X ++ (be n x).take (k + 1))) := by
          have hs := HS.out
          show _ = _
          rw [hs, ← List.append_assoc, cells_append]
          simp [cells]
        clear HS
        go_wp2_with (at_builtin; refine wpList_append_own _ rfl _ _ 44 rfl base 5 i (.int .u8 0) 1 1 Tryz.underlying44 hi hz0 hz1 hz2 rfl (by decide) _ _ _ rfl (hown.alloc _) ⟨wr.heap.size, 0, none⟩ 1 1 [.int .u8 (x / 65536 % 256)] rfl rfl ?c1 ?c2 ?c3 ?c4 ?c5 ?_)
        case c1 =>
          intro j u hj
          match j, hj with
          | 0, hj => simp at hj; subst hj; simp [Addr.add] <;> omega
        case c2 => intro u hu; simp at hu; subst hu; rfl
        case c3 => unfold maxLen; omega
        case c4 => omega
        case c5 => simp; omega
        intro v' w1 hown' hgrow _
        have hown2 : w1.ownsRow base 5 1 v' (m + (k + 1)) (cells (X ++ (be n x).take (k + 1))) := by rw [← HS2.out]; exact hown'
        have hbl2 : Below base w w1 := (hbl.alloc (by omega) _).grown hgrow (by simp; omega) fun q hq => (hown.lt q hq).1
        clear hown' hgrow hown
        go_wp2
        go_roundw
        case rel => exact ⟨k + 1, by omega, congrArg (Value.int .i64) (by have := HJ.out; omega), hown2, hbl2⟩
        case measure => simp [intOf]
      · have HS2 : Hid (cells (X ++ (be n x).take k) ++ [.int .u8 (x / 16777216 % 256)] = cells (X ++ (be n x).take (k + 1))) := by
          have hs := HS.out
          show _ = _
          rw [hs, ← List.append_assoc, cells_append]
          simp [cells]
        clear HS
        go_wp2_with (at_builtin; refine wpList_append_own _ rfl _ _ 44 rfl base 5 i (.int .u8 0) 1 1 Tryz.underlying44 hi hz0 hz1 hz2 rfl (by decide) _ _ _ rfl (hown.alloc _) ⟨wr.heap.size, 0, none⟩ 1 1 [.int .u8 (x / 16777216 % 256)] rfl rfl ?c1 ?c2 ?c3 ?c4 ?c5 ?_)
        case c1 =>
          intro j u hj
          match j, hj with
          | 0, hj => simp at hj; subst hj; simp [Addr.add] <;> omega
        case c2 => intro u hu; simp at hu; subst hu; rfl
        case c3 => unfold maxLen; omega
        case c4 => omega
        case c5 => simp; omega
        intro v' w1 hown' hgrow _
        have hown2 : w1.ownsRow base 5 1 v' (m + (k + 1)) (cells (X ++ (be n x).take (k + 1))) := by rw [← HS2.out]; exact hown'
        have hbl2 : Below base w w1 := (hbl.alloc (by omega) _).grown hgrow (by simp; omega) fun q hq => (hown.lt q hq).1
        clear hown' hgrow hown
        go_wp2
        go_roundw
        case rel => exact ⟨k + 1, by omega, congrArg (Value.int .i64) (by have := HJ.out; omega), hown2, hbl2⟩
        case measure => simp [intOf]
      · have HS2 : Hid (cells (X ++ (be n x).take k) ++ [.int .u8 (x / 4294967296 % 256)] = cells (X ++ (be n x).take (k + 1))) := by
          have hs := HS.out
          show _ = _
          rw [hs, ← List.append_assoc, cells_append]
          simp [cells]
        clear HS
        go_wp2_with (at_builtin; refine wpList_append_own _ rfl _ _ 44 rfl base 5 i (.int .u8 0) 1 1 Tryz.underlying44 hi hz0 hz1 hz2 rfl (by decide) _ _ _ rfl (hown.alloc _) ⟨wr.heap.size, 0, none⟩ 1 1 [.int .u8 (x / 4294967296 % 256)] rfl rfl ?c1 ?c2 ?c3 ?c4 ?c5 ?_)
        case c1 =>
          intro j u hj
          match j, hj with
          | 0, hj => simp at hj; subst hj; simp [Addr.add] <;> omega
        case c2 => intro u hu; simp at hu; subst hu; rfl
        case c3 => unfold maxLen; omega
        case c4 => omega
        case c5 => simp; omega
        intro v' w1 hown' hgrow _
        have hown2 : w1.ownsRow base 5 1 v' (m + (k + 1)) (cells (X ++ (be n x).take (k + 1))) := by rw [← HS2.out]; exact hown'
        have hbl2 : Below base w w1 := (hbl.alloc (by omega) _).grown hgrow (by simp; omega) fun q hq => (hown.lt q hq).1
        clear hown' hgrow hown
        go_wp2
        go_roundw
        case rel => exact ⟨k + 1, by omega, congrArg (Value.int .i64) (by have := HJ.out; omega), hown2, hbl2⟩
        case measure => simp [intOf]
      · have HS2 : Hid (cells (X ++ (be n x).take k) ++ [.int .u8 (x / 1099511627776 % 256)] = cells (X ++ (be n x).take (k + 1))) := by
          have hs := HS.out
          show _ = _
          rw [hs, ← List.append_assoc, cells_append]
          simp [cells]
        clear HS
        go_wp2_with (at_builtin; refine wpList_append_own _ rfl _ _ 44 rfl base 5 i (.int .u8 0) 1 1 Tryz.underlying44 hi hz0 hz1 hz2 rfl (by decide) _ _ _ rfl (hown.alloc _) ⟨wr.heap.size, 0, none⟩ 1 1 [.int .u8 (x / 1099511627776 % 256)] rfl rfl ?c1 ?c2 ?c3 ?c4 ?c5 ?_)
        case c1 =>
          intro j u hj
          match j, hj with
          | 0, hj => simp at hj; subst hj; simp [Addr.add] <;> omega
        case c2 => intro u hu; simp at hu; subst hu; rfl
        case c3 => unfold maxLen; omega
        case c4 => omega
        case c5 => simp; omega
        intro v' w1 hown' hgrow _
        have hown2 : w1.ownsRow base 5 1 v' (m + (k + 1)) (cells (X ++ (be n x).take (k + 1))) := by rw [← HS2.out]; exact hown'
        have hbl2 : Below base w w1 := (hbl.alloc (by omega) _).grown hgrow (by simp; omega) fun q hq => (hown.lt q hq).1
        clear hown' hgrow hown
        go_wp2
        go_roundw
        case rel => exact ⟨k + 1, by omega, congrArg (Value.int .i64) (by have := HJ.out; omega), hown2, hbl2⟩
        case measure => simp [intOf]
      · have HS2 : Hid (cells (X ++ (be n x).take k) ++ [.int .u8 (x / 281474976710656 % 256)] = cells (X ++ (be n x).take (k + 1))) := by
          have hs := HS.out
          show _ = _
          rw [hs, ← List.append_assoc, cells_append]
          simp [cells]
        clear HS
        go_wp2_with (at_builtin; refine wpList_append_own _ rfl _ _ 44 rfl base 5 i (.int .u8 0) 1 1 Tryz.underlying44 hi hz0 hz1 hz2 rfl (by decide) _ _ _ rfl (hown.alloc _) ⟨wr.heap.size, 0, none⟩ 1 1 [.int .u8 (x / 281474976710656 % 256)] rfl rfl ?c1 ?c2 ?c3 ?c4 ?c5 ?_)
        case c1 =>
          intro j u hj
          match j, hj with
          | 0, hj => simp at hj; subst hj; simp [Addr.add] <;> omega
        case c2 => intro u hu; simp at hu; subst hu; rfl
        case c3 => unfold maxLen; omega
        case c4 => omega
        case c5 => simp; omega
        intro v' w1 hown' hgrow _
        have hown2 : w1.ownsRow base 5 1 v' (m + (k + 1)) (cells (X ++ (be n x).take (k + 1))) := by rw [← HS2.out]; exact hown'
        have hbl2 : Below base w w1 := (hbl.alloc (by omega) _).grown hgrow (by simp; omega) fun q hq => (hown.lt q hq).1
        clear hown' hgrow hown
        go_wp2
        go_roundw
        case rel => exact ⟨k + 1, by omega, congrArg (Value.int .i64) (by have := HJ.out; omega), hown2, hbl2⟩
        case measure => simp [intOf]
      · have HS2 : Hid (cells (X ++ (be n x).take k) ++ [.int .u8 (x / 72057594037927936 % 256)] = cells (X ++ (be n x).take (k + 1))) := by
          have hs := HS.out
          show _ = _
          rw [hs, ← List.append_assoc, cells_append]
          simp [cells]
        clear HS
        go_wp2_with (at_builtin; refine wpList_append_own _ rfl _ _ 44 rfl base 5 i (.int .u8 0) 1 1 Tryz.underlying44 hi hz0 hz1 hz2 rfl (by decide) _ _ _ rfl (hown.alloc _) ⟨wr.heap.size, 0, none⟩ 1 1 [.int .u8 (x / 72057594037927936 % 256)] rfl rfl ?c1 ?c2 ?c3 ?c4 ?c5 ?_)
        case c1 =>
          intro j u hj
          match j, hj with
          | 0, hj => simp at hj; subst hj; simp [Addr.add] <;> omega
        case c2 => intro u hu; simp at hu; subst hu; rfl
        case c3 => unfold maxLen; omega
        case c4 => omega
        case c5 => simp; omega
        intro v' w1 hown' hgrow _
        have hown2 : w1.ownsRow base 5 1 v' (m + (k + 1)) (cells (X ++ (be n x).take (k + 1))) := by rw [← HS2.out]; exact hown'
        have hbl2 : Below base w w1 := (hbl.alloc (by omega) _).grown hgrow (by simp; omega) fun q hq => (hown.lt q hq).1
        clear hown' hgrow hown
        go_wp2
        go_roundw
        case rel => exact ⟨k + 1, by omega, congrArg (Value.int .i64) (by have := HJ.out; omega), hown2, hbl2⟩
        case measure => simp [intOf]
    · obtain rfl : k = n := by omega
      rw [List.take_of_length_le (by rw [be_length]; exact Nat.le_refl _)] at hown
      go_wp2
      go_ret
      exact ⟨_, rfl, hown, hbl⟩
end Go.Proofs.YtejokaehdfcjlaaGreatDoor
