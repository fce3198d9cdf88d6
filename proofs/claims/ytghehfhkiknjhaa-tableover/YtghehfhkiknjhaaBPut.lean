import Derived.Test.YtghehfhkiknjhaaBWid
import Derived.Laws.CopyOwn
namespace Go.Proofs.Ytghehfhkiknjhaa
set_option maxRecDepth 100000
open Go.RowKit
set_option linter.unusedVariables false

theorem size5 : (Try.prog.info? 5).map (·.size) = some 1 := by kernel_rfl

set_option maxHeartbeats 400000 in
theorem putW8 (a : Option Addr) (n c : Nat) (zs : List Int) (x : Int) (w : World) (hb : Bs w a n zs) (hn : n ≤ 1000000) (h0 : 0 ≤ x) (h1 : x ≤ 255) :
    Calls Try.prog 67 #[.slice a n c, .int .u8 x] w fun e w' => e = .returned (.slice (some ⟨w.heap.size, 0, none⟩) (n + 1) (n + 1)) ∧ Row w' w.heap.size (zs ++ be 1 x) ∧ w.grownBy w' none := by
  obtain ⟨i, hi, hz0, hz1, hz2⟩ := info_parts info5
  go_enter Try.func67, Try.ntmps67
  go_wp2_with (first
    | (go_at_call 79; refine (width8 _).mono ?_; rintro e w' ⟨rfl, hw⟩; obtain rfl := hw.symm)
    | (at_make; refine wpList_make_full _ rfl _ _ 27 rfl 0 5 i (.int .u8 0) 1 Try.underlying27 hi hz0 hz1 .i64 .i64 _ _ (n + 1) rfl rfl (by omega) (by omega) (by rw [hz2]; omega) (by unfold maxLen; omega) (by omega) ?_; intro w1 hown hg1; have hrow := row_of_own ((made_zeros (n + 1)) ▸ hown); clear hown)
    | (refine wpList_copy_splice rfl (.tmp 13) (.tmp 14) 27 27 rfl 5 Try.underlying27 size5 _ _ _ _ _ _ rfl rfl w.heap.size 0 (cells (List.replicate (n + 1) 0)) 5 hrow (cells zs) (by rw [cells_length, hb.1]; simp) (fun hp => ⟨rfl, hb.src hg1 hp⟩) (by simp [cells_length, hb.1]) (cells_one zs) w.heap.size w (below_of_grown hg1) (by omega) ?_; intro w2 HR hb2; have hrow2 := row_splice (x := x) hb.1 HR; clear HR hrow hg1))
  have hzl := hb.1
  clear hb hi hz0 hz1 hz2
  go_loopw [6, 7] (fun r i wr => ∃ j : Nat, j ≤ 1 ∧ r = .int .u64 (dvb x j) ∧ i = .int .i64 ((n : Int) + 1 - 1 - j) ∧ Row wr w.heap.size (laid zs 1 j x) ∧ Below w.heap.size w wr) (fun _ i _ => (intOf i + 1 - n).toNat)
  case atStart => exact ⟨0, by omega, by rw [dvb_zero], by simp, hrow2, hb2⟩
  case round =>
    obtain ⟨j, hj, rfl, rfl, hr, hbl⟩ := hrel
    by_cases hlt : j < 1
    · have hlen := laid_length zs 1 j x (by omega)
      have hput := laid_put zs n 1 j x hzl hlt
      have hd0 := dvb_nonneg x h0 j
      have hd1 := dvb_le x h0 j
      have hds := dvb_step x j
      rw [show (n : Int) + 1 - 1 - j = ((n + (1 - 1 - j) : Nat) : Int) from by omega]
      have ht1 : n ≤ n + (1 - 1 - j) := by omega
      have ht2 : n + (1 - 1 - j) < n + 1 := by omega
      have ht3 : n + (1 - 1 - j) + j + 1 = n + 1 := by omega
      generalize n + (1 - 1 - j) = t at *
      have hset := hr.set t (dvb x j % 256)
      have hcl := hr.cell t (by omega)
      have hfz := hr.unfrozen t
      rw [hput] at hset
      have HS := hid hset
      clear hset hput hr hlen hrow2 hb2
      go_wp2
      go_roundw
      case rel => exact ⟨j + 1, by omega, rfl, by go_num, (by first | exact HS.out | (have hq := HS.out; rwa [Int.emod_eq_of_lt hd0 (by omega)] at hq)), hbl.setCell (Nat.le_refl _) _⟩
      case measure => simp [intOf]; omega
    · have hje : j = 1 := by omega
      subst hje
      rw [laid_end] at hr
      have HS := hid hr
      clear hr hrow2 hb2
      go_wp2
      go_ret
      exact ⟨rfl, HS.out, grown_of_below hbl⟩

set_option maxHeartbeats 400000 in
theorem putW16 (a : Option Addr) (n c : Nat) (zs : List Int) (x : Int) (w : World) (hb : Bs w a n zs) (hn : n ≤ 1000000) (h0 : 0 ≤ x) (h1 : x ≤ 65535) :
    Calls Try.prog 68 #[.slice a n c, .int .u16 x] w fun e w' => e = .returned (.slice (some ⟨w.heap.size, 0, none⟩) (n + 2) (n + 2)) ∧ Row w' w.heap.size (zs ++ be 2 x) ∧ w.grownBy w' none := by
  obtain ⟨i, hi, hz0, hz1, hz2⟩ := info_parts info5
  go_enter Try.func68, Try.ntmps68
  go_wp2_with (first
    | (go_at_call 80; refine (width16 _).mono ?_; rintro e w' ⟨rfl, hw⟩; obtain rfl := hw.symm)
    | (at_make; refine wpList_make_full _ rfl _ _ 27 rfl 0 5 i (.int .u8 0) 1 Try.underlying27 hi hz0 hz1 .i64 .i64 _ _ (n + 2) rfl rfl (by omega) (by omega) (by rw [hz2]; omega) (by unfold maxLen; omega) (by omega) ?_; intro w1 hown hg1; have hrow := row_of_own ((made_zeros (n + 2)) ▸ hown); clear hown)
    | (refine wpList_copy_splice rfl (.tmp 13) (.tmp 14) 27 27 rfl 5 Try.underlying27 size5 _ _ _ _ _ _ rfl rfl w.heap.size 0 (cells (List.replicate (n + 2) 0)) 5 hrow (cells zs) (by rw [cells_length, hb.1]; simp) (fun hp => ⟨rfl, hb.src hg1 hp⟩) (by simp [cells_length, hb.1]) (cells_one zs) w.heap.size w (below_of_grown hg1) (by omega) ?_; intro w2 HR hb2; have hrow2 := row_splice (x := x) hb.1 HR; clear HR hrow hg1))
  have hzl := hb.1
  clear hb hi hz0 hz1 hz2
  go_loopw [6, 7] (fun r i wr => ∃ j : Nat, j ≤ 2 ∧ r = .int .u64 (dvb x j) ∧ i = .int .i64 ((n : Int) + 2 - 1 - j) ∧ Row wr w.heap.size (laid zs 2 j x) ∧ Below w.heap.size w wr) (fun _ i _ => (intOf i + 1 - n).toNat)
  case atStart => exact ⟨0, by omega, by rw [dvb_zero], by simp, hrow2, hb2⟩
  case round =>
    obtain ⟨j, hj, rfl, rfl, hr, hbl⟩ := hrel
    by_cases hlt : j < 2
    · have hlen := laid_length zs 2 j x (by omega)
      have hput := laid_put zs n 2 j x hzl hlt
      have hd0 := dvb_nonneg x h0 j
      have hd1 := dvb_le x h0 j
      have hds := dvb_step x j
      rw [show (n : Int) + 2 - 1 - j = ((n + (2 - 1 - j) : Nat) : Int) from by omega]
      have ht1 : n ≤ n + (2 - 1 - j) := by omega
      have ht2 : n + (2 - 1 - j) < n + 2 := by omega
      have ht3 : n + (2 - 1 - j) + j + 1 = n + 2 := by omega
      generalize n + (2 - 1 - j) = t at *
      have hset := hr.set t (dvb x j % 256)
      have hcl := hr.cell t (by omega)
      have hfz := hr.unfrozen t
      rw [hput] at hset
      have HS := hid hset
      clear hset hput hr hlen hrow2 hb2
      go_wp2
      go_roundw
      case rel => exact ⟨j + 1, by omega, rfl, by go_num, (by first | exact HS.out | (have hq := HS.out; rwa [Int.emod_eq_of_lt hd0 (by omega)] at hq)), hbl.setCell (Nat.le_refl _) _⟩
      case measure => simp [intOf]; omega
    · have hje : j = 2 := by omega
      subst hje
      rw [laid_end] at hr
      have HS := hid hr
      clear hr hrow2 hb2
      go_wp2
      go_ret
      exact ⟨rfl, HS.out, grown_of_below hbl⟩


end Go.Proofs.Ytghehfhkiknjhaa
