import Derived.Test.YtfgnllfgccbolabDoorFirst
namespace Go.Proofs.YtfgnllfgccbolabDoor
open Go.RowKit
set_option linter.unusedVariables false

theorem behind_int (zs : List Int) (hz : ∀ z ∈ zs, 0 ≤ z ∧ z ≤ 255) (s : Nat) (hs : s = updc 0 zs) : updc 0 (zs ++ [(s : Int) % 256, (s : Int) / 256 % 256, (s : Int) / 65536 % 256, (s : Int) / 16777216]) = 1214729159 := by
  have hlt : s < 4294967296 := by rw [hs]; exact updc_lt (by omega) hz
  have h := behind zs hz s hs
  rw [show ((s % 256 : Nat) : Int) = (s : Int) % 256 from by omega, show ((s / 256 % 256 : Nat) : Int) = (s : Int) / 256 % 256 from by omega, show ((s / 65536 % 256 : Nat) : Int) = (s : Int) / 65536 % 256 from by omega, show ((s / 16777216 % 256 : Nat) : Int) = (s : Int) / 16777216 from by omega] at h
  exact h

set_option maxHeartbeats 1000000 in
theorem crcBehind_ (a : Option Addr) (n c : Nat) (zs : List Int) (w : World) (hT : Tab w) (hb : Bs w a n zs) (hnm : n ≤ maxLen) :
    Calls Tryd.prog 5 #[.slice a n c] w fun en w' => en = .returned (.bool true) ∧ Below w.heap.size w w' := by
  unfold maxLen at hnm
  obtain ⟨i, hi, hz0, hz1, hz2⟩ := info_parts info5
  by_cases hn : n ≤ 65536
  · go_enter Tryd.func5, Tryd.ntmps5
    go_wp2_with fail
    refine (first_ w hT).mono ?_
    rintro en w1 ⟨rfl, B1⟩
    have b1 := hb.below B1
    have S1 := B1.size
    have t1 := hT.bel B1
    go_wp2_with fail
    refine (sum_ a n c zs w1 t1 b1 (by unfold maxLen; omega)).mono ?_
    rintro en w2 ⟨rfl, rfl⟩
    go_wp2_with fail
    refine (refBytes a n c zs _ b1 (by omega)).mono ?_
    rintro en w3 ⟨v, rfl, ho, hg⟩
    have hs : updc 0 zs < 4294967296 := updc_lt (by omega) hb.2.1
    have HR := hid (behind_int zs hb.2.1 _ rfl)
    have HY : Hid (∀ z ∈ zs ++ [((updc 0 zs : Nat) : Int) % 256, (updc 0 zs : Nat) / 256 % 256, (updc 0 zs : Nat) / 65536 % 256, (updc 0 zs : Nat) / 16777216], (0 : Int) ≤ z ∧ z ≤ 255) := by
      intro z hz; rcases List.mem_append.1 hz with h | h; exact hb.2.1 z h; simp at h; omega
    have hsz := hg.size
    generalize updc 0 zs = s at *
    go_wp2_with (at_builtin; refine wpList_append_own _ rfl _ _ 22 rfl w2.heap.size 5 i (.int .u8 0) 1 1 Tryd.underlying22 hi hz0 hz1 hz2 rfl (by decide) _ _ _ rfl (ho.alloc _) ⟨w3.heap.size, 0, none⟩ 4 4 (cells [(s : Int) % 256, (s : Int) / 256 % 256, (s : Int) / 65536 % 256, (s : Int) / 16777216]) rfl rfl ?c1 ?c2 ?c3 ?c4 ?c5 ?_)
    case c1 => exact fun j u hj => (Bs.new w3 [(s : Int) % 256, (s : Int) / 256 % 256, (s : Int) / 65536 % 256, (s : Int) / 16777216] 5 (by intro z hz; simp at hz; omega)).src1 ⟨rfl, rfl, rfl, Nat.le_refl _, fun _ _ _ => rfl⟩ j u hj
    case c2 => exact cells_one _
    case c3 => unfold maxLen; omega
    case c4 => omega
    case c5 => simp; omega
    intro v' w4 hown' hgrow _
    rw [← cells_append] at hown'
    have hbl4 : Below w2.heap.size w2 w4 := own_step rfl hg ho hgrow
    have B4 := bel_bel B1 S1 hbl4
    have t4 := t1.bel hbl4
    obtain ⟨g, cap, rfl, _, _, _, hh, hl⟩ := own_head hown' (by omega)
    have bb := hh.all hl HY.out
    clear hown' hgrow hg ho hbl4 hh hb b1 hl t1
    go_wp2_with fail
    refine (sum_ _ _ _ _ _ t4 bb (by unfold maxLen; omega)).mono ?_
    rintro en w5 ⟨rfl, rfl⟩
    rw [HR.out]
    go_wp2_with fail
    go_ret
    exact ⟨rfl, B4⟩
  · go_enter Tryd.func5, Tryd.ntmps5
    go_wp2_with fail
    refine (first_ w hT).mono ?_
    rintro en w1 ⟨rfl, B1⟩
    go_wp2_with fail
    go_ret
    exact ⟨rfl, B1⟩
end Go.Proofs.YtfgnllfgccbolabDoor
