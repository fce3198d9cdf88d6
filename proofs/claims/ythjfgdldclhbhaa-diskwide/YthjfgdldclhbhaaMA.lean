import Derived.Test.YthjfgdldclhbhaaLB
namespace Go.Proofs.Ythjfgdldclhbhaa
set_option maxRecDepth 100000
open Go.RowKit Go.Shelf
set_option linter.unusedVariables false

/-- A number from 0 to 31. -/
def plc (k : Int) : Nat := ((k.tmod 32 + 32) % 32).toNat
theorem plc_lt (k : Int) : plc k < 32 := by
  unfold plc
  omega
theorem plc_eq (k : Int) : ((plc k : Nat) : Int) = (k.tmod 32 + 32) % 32 := by
  unfold plc
  omega
theorem place_ (k : Int) (w : World) (hk : -9223372036854775808 ≤ k ∧ k ≤ 9223372036854775807) : Calls Try.prog 54 #[.int .i64 k, .int .i64 32] w fun e w' => e = .returned (.int .i64 (plc k)) ∧ w' = w := by
  have HP := hid (plc_eq k)
  have h1 := Int.tmod_lt_of_pos k (show (0 : Int) < 32 by decide)
  have h2 := Int.lt_tmod_of_pos k (show (0 : Int) < 32 by decide)
  rw [HP.out]
  go_enter Try.func54, Try.ntmps54
  go_wp2_with fail
  go_ret
  exact ⟨rfl, rfl⟩
/-- Bytes with zeros behind them, up to a sector. -/
def pad (zs : List Int) : List Int := zs.take 512 ++ List.replicate (512 - zs.length) 0
theorem pad_sec {zs : List Int} (h : ∀ z ∈ zs, 0 ≤ z ∧ z ≤ 255) : Sec (pad zs) := by
  unfold pad
  refine ⟨by rw [List.length_append, List.length_take, List.length_replicate]; omega, fun x hx => ?_⟩
  rcases List.mem_append.1 hx with hx | hx
  · exact h x (List.mem_of_mem_take hx)
  · obtain rfl := List.eq_of_mem_replicate hx
    omega
set_option maxHeartbeats 1000000 in
theorem padded_ (a : Option Addr) (n c : Nat) (zs : List Int) (w : World) (hb : Bs w a n zs) (hn : n ≤ 140737488355328) :
    Calls Try.prog 38 #[.slice a n c] w fun e w' => ∃ v, e = .returned v ∧ w'.ownsRow w.heap.size 5 1 v 512 (cells (pad zs)) ∧ Below w.heap.size w w' := by
  obtain ⟨i, hi, hz0, hz1, hz2⟩ := info_parts info5
  have HB := hid hb
  have hzl := hb.1
  clear hb
  go_enter Try.func38, Try.ntmps38
  go_wp2_with (at_make; refine wpList_make_full _ rfl _ _ 25 rfl w.heap.size 5 i (.int .u8 0) 1 Try.underlying25 hi hz0 hz1 .i64 .i64 _ _ 512 rfl rfl rfl rfl (by rw [hz2]; omega) (by unfold maxLen; omega) (Nat.le_refl _) ?_; intro w1 hown hg1; rw [made_zeros] at hown; have HO := hid hown; have HG := hid (below_of_grown hg1); clear hown hg1)
  go_loopw [4] (fun i wr => ∃ j : Nat, j ≤ 512 ∧ j ≤ n ∧ i = .int .i64 j ∧ wr.ownsRow w.heap.size 5 1 (.slice (some ⟨w.heap.size, 0, none⟩) 512 512) 512 (cells (zs.take j ++ List.replicate (512 - j) 0)) ∧ Below w.heap.size w wr) (fun i _ => 512 - (intOf i).toNat)
  case atStart => exact ⟨0, by omega, by omega, rfl, by simpa using HO.out, HG.out⟩
  case round =>
    clear HO HG
    obtain ⟨j, hj, hjn, rfl, hown, hbl⟩ := hrel
    by_cases hlt : j < 512 ∧ j < n
    · have hI : (j : Int) < 512 := by omega
      have hI2 : (j : Int) < (n : Int) := by omega
      obtain ⟨g, cap, e, _, ⟨cur, hg⟩, hc⟩ := own1_cell hown (by omega)
      obtain ⟨rfl, rfl⟩ : w.heap.size = g ∧ 512 = cap := by simpa using e
      have c0 := hc j hlt.1
      have f0 : wr.frozen? ⟨w.heap.size, j, none⟩ = false := by simp [World.frozen?, hg]
      obtain ⟨b, off, rfl, hcb⟩ : ∃ b off, a = some ⟨b, off, none⟩ ∧ ∀ i, i < n → w.cell? ⟨b, off + i, none⟩ = some (.int .u8 (zs.getD i 0)) := by
        rcases HB.out.2.2 with h0 | h
        · omega
        · exact h
      have c1 := (hbl.cell (p := ⟨b, off + j, none⟩) (World.block_lt_of_cell? w _ (hcb j hlt.2))).trans (hcb j hlt.2)
      obtain ⟨x, HX⟩ : ∃ x, Hid (zs.getD j 0 = x) := ⟨_, rfl⟩
      rw [HX.out] at c1
      have HO : Hid ((wr.setCell ⟨w.heap.size, j, none⟩ (.int .u8 x)).ownsRow w.heap.size 5 1 (.slice (some ⟨w.heap.size, 0, none⟩) 512 512) 512 (cells (zs.take (j + 1) ++ List.replicate (512 - (j + 1)) 0))) := by
        have h1 := own_set hown j (.int .u8 x)
        have e1 : (cells (zs.take j ++ List.replicate (512 - j) 0)).set j (.int .u8 x) = cells (zs.take (j + 1) ++ List.replicate (512 - (j + 1)) 0) := by
          have hjl : (zs.take j).length = j := by rw [List.length_take]; omega
          rw [show 512 - j = (512 - (j + 1)) + 1 from by omega, List.replicate_succ (n := 512 - (j + 1)), List.take_succ_eq_append_getElem (show j < zs.length by omega)]
          have hx : zs[j] = x := by have := HX.out; simpa [List.getD, show j < zs.length from by omega] using this
          rw [hx]
          unfold cells
          have hml : (List.map (Value.int .u8) (zs.take j)).length = j := by rw [List.length_map, hjl]
          rw [List.map_append, List.set_append_right _ _ (by rw [hml]; exact Nat.le_refl _), hml, Nat.sub_self]
          simp [List.append_assoc]
        rw [e1] at h1
        exact h1
      have HBB := hid (hbl.setCell (p := ⟨w.heap.size, j, none⟩) (Nat.le_refl _) (.int .u8 x))
      generalize (zs.take j ++ List.replicate (512 - j) 0).getD j 0 = y at *
      clear hown hc hbl e hg hcb
      obtain ⟨h1, h2⟩ := hlt
      go_wp2_with fail
      go_roundw
      case rel => exact ⟨j + 1, by omega, by omega, by go_num, HO.out, HBB.out⟩
      case measure => simp [intOf]; omega
    · have HO : Hid (wr.ownsRow w.heap.size 5 1 (.slice (some ⟨w.heap.size, 0, none⟩) 512 512) 512 (cells (pad zs))) := by
        have e : zs.take j ++ List.replicate (512 - j) 0 = pad zs := by
          unfold pad
          by_cases h : j = 512
          · subst h
            rw [show 512 - zs.length = 0 from by omega]
          · obtain rfl : j = n := by omega
            rw [← hzl, List.take_of_length_le (Nat.le_refl _), List.take_of_length_le (by omega)]
        rw [← e]
        exact hown
      have HBB := hid hbl
      clear hown hbl
      by_cases h1 : j < n
      · have hI : (j : Int) < (n : Int) := by omega
        have hI2 : ¬ (j : Int) < 512 := by omega
        go_wp2_with fail
        go_ret
        exact ⟨_, rfl, HO.out, HBB.out⟩
      · have hI : ¬ (j : Int) < (n : Int) := by omega
        go_wp2_with fail
        go_ret
        exact ⟨_, rfl, HO.out, HBB.out⟩
end Go.Proofs.Ythjfgdldclhbhaa
