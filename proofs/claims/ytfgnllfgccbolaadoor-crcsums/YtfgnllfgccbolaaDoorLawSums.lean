import Derived.Test.YtfgnllfgccbolaaDoorRefU
import Derived.Test.YtfgnllfgccbolaaDoorFirst
import Derived.Test.YtfgnllfgccbolaaDoorPlace
namespace Go.Proofs.YtfgnllfgccbolaaDoor
open Go.RowKit
set_option linter.unusedVariables false

set_option maxHeartbeats 400000 in
theorem room_ (a : Option Addr) (n c : Nat) (zs : List Int) (w : World) (hb : Bs w a n zs) (hn : n ≤ 1000000) :
    Calls Tryd.prog 10 #[.slice a n c] w fun en w' => ∃ v, en = .returned v ∧ w'.ownsRow w.heap.size 5 1 v (n + 3) (cells (zs ++ [161, 162, 163])) ∧ Below w.heap.size w w' := by
  obtain ⟨i, hi, hz0, hz1, hz2⟩ := info_parts info5
  go_enter Tryd.func10, Tryd.ntmps10
  go_wp2_with (first
    | (go_at_call 18; refine (refBytes a n c zs _ hb hn).mono ?_; rintro en w1 ⟨v, rfl, hown, hbl⟩; have hsz := hbl.size)
    | (at_builtin; refine wpList_append_own _ rfl _ _ 22 rfl w.heap.size 5 i (.int .u8 0) 1 1 Tryd.underlying22 hi hz0 hz1 hz2 rfl (by decide) _ _ _ rfl (hown.alloc _) ⟨w1.heap.size, 0, none⟩ 3 3 (cells [161, 162, 163]) rfl rfl ?c1 ?c2 ?c3 ?c4 ?c5 ?_))
  case c1 => exact fun j u hj => (Bs.new w1 [161, 162, 163] 5 (by decide)).src1 ⟨rfl, rfl, rfl, Nat.le_refl _, fun _ _ _ => rfl⟩ j u hj
  case c2 => exact cells_one _
  case c3 => unfold maxLen; omega
  case c4 => omega
  case c5 => simp; omega
  intro v' w2 hown' hgrow _
  rw [← cells_append] at hown'
  have hbl2 : Below w.heap.size w w2 := own_step rfl hbl hown hgrow
  clear hgrow hown
  go_wp2
  go_ret
  exact ⟨_, rfl, hown', hbl2⟩

theorem xor8 (z x : Int) (hz : 0 ≤ z ∧ z ≤ 255) (hx : 0 ≤ x ∧ x ≤ 255) : 0 ≤ bits BinOp.xor IntKind.u8 z x ∧ bits BinOp.xor IntKind.u8 z x ≤ 255 := by
  rw [bits.eq_3, IntKind.wrap_u8]; omega

set_option maxHeartbeats 1000000 in
theorem crcSums_ (a : Option Addr) (n c : Nat) (zs : List Int) (at_ x : Int) (w : World) (hT : Tab w) (hb : Bs w a n zs) (hnm : n ≤ maxLen) (hat0 : -9223372036854775808 ≤ at_) (hat1 : at_ ≤ 9223372036854775807) (hx0 : 0 ≤ x) (hx1 : x ≤ 255) :
    Calls Tryd.prog 3 #[.slice a n c, .int .i64 at_, .int .u8 x] w fun en w' => en = .returned (.bool true) ∧ Below w.heap.size w w' := by
  unfold maxLen at hnm
  by_cases hn : n ≤ 65536
  · go_enter Tryd.func3, Tryd.ntmps3
    go_wp2_with fail
    refine (first_ w hT).mono ?_
    rintro en w1 ⟨rfl, B1⟩
    have b1 := hb.below B1
    have S1 := B1.size
    have t1 := hT.bel B1
    go_wp2_with fail
    refine (room_ a n c zs w1 b1 (by omega)).mono ?_
    rintro en w2 ⟨v, rfl, ho, hg⟩
    obtain ⟨g, cap, rfl, hcap, hcm, hgb, hh2, hl2⟩ := own_head ho (by omega)
    unfold maxLen at hcm
    have hgw : w.heap.size ≤ g := by omega
    have b2 := b1.below hg
    have t2 := t1.bel hg
    have B2 := bel_bel B1 S1 hg
    have S2 := B2.size
    have hy2 : ∀ z ∈ zs ++ [161, 162, 163], (0 : Int) ≤ z ∧ z ≤ 255 := by
      intro z hz; rcases List.mem_append.1 hz with h | h; exact hb.2.1 z h; simp at h; omega
    have HL := hid hl2
    have HY := hid hy2
    have s0 := hh2.bs (m := n) (by omega) hy2
    rw [List.take_append_of_le_length (by rw [hb.1]; exact Nat.le_refl _), List.take_of_length_le (by rw [hb.1]; exact Nat.le_refl _)] at s0
    have HZ := hid hb.1
    have HB := hid hb.2.1
    have t0 := hT
    clear ho hg b1 B1 S1 hl2 hy2 hb hgb t1 hT
    have i1 : (n : Int) ≤ (n : Int) + 3 := by omega
    have i2 : (n : Int) + 3 ≤ (cap : Int) := by omega
    have i3 : (0 : Int) ≤ (n : Int) := by omega
    go_wp2_with fail
    refine (sum_ (some ⟨g, 0, none⟩) n (n + 3) _ w2 t2 s0 (by unfold maxLen; omega)).mono ?_
    rintro en w3 ⟨rfl, rfl⟩
    go_wp2_with fail
    refine (refSum_ a n c zs _ b2 (by omega)).mono ?_
    rintro en w3 ⟨rfl, rfl⟩
    go_wp2_with fail
    refine (room_ a n c zs _ b2 (by omega)).mono ?_
    rintro en w4 ⟨v4, rfl, ho, hg⟩
    obtain ⟨g4, cap4, rfl, _, _, _, q4, _⟩ := own_head ho (by omega)
    have hh4 := hh2.below hg
    have t4 := t2.bel hg
    have B4 := bel_bel B2 S2 hg
    have S4 := B4.size
    have e1 := hh4.all HL.out HY.out
    have e2 := q4.all HL.out HY.out
    clear ho hg b2 B2 S2 q4 hh2 s0 t2
    go_wp2_with fail
    refine (same_yes (some ⟨g, 0, none⟩) (some ⟨g4, 0, none⟩) (n + 3) cap (n + 3) cap4 _ w4 e1 e2 (by omega) (by omega)).mono ?_
    rintro en w5 ⟨rfl, hd⟩
    have hh5 := hh4.below hd.below
    have t5 := t4.drawn hd
    have B5 := bel_bel B4 S4 hd.below
    clear e1 e2 hd B4 S4 hh4 t4
    by_cases h0 : n = 0
    · subst h0
      go_wp2_with fail
      go_ret
      exact ⟨rfl, B5⟩
    · have h0' : ¬ (n : Int) = 0 := by omega
      have h0b : ((n : Int) == 0) = false := by simpa using h0
      obtain ⟨k, hk, ek⟩ := place at_ n (by omega) (by omega)
      have hc := hh5.cell k (by have := HL.out; omega)
      have hf := hh5.unfrozen k
      have i4 : (k : Int) < (n : Int) + 3 := by omega
      have i5 : ¬ (k : Int) < 0 := by omega
      have HX := hid (xor8 ((zs ++ [161, 162, 163]).getD k 0) x (getD_byte HY.out k) ⟨hx0, hx1⟩)
      have HB2 := hid (byte_set HY.out k _ HX.out)
      have HH := hid (hh5.set k (bits BinOp.xor IntKind.u8 ((zs ++ [161, 162, 163]).getD k 0) x))
      have HL2 : Hid (((zs ++ [161, 162, 163]).set k (bits BinOp.xor IntKind.u8 ((zs ++ [161, 162, 163]).getD k 0) x)).length = n + 3) := by show _ = _; rw [List.length_set]; exact HL.out
      generalize (zs ++ [161, 162, 163]).set k (bits BinOp.xor IntKind.u8 ((zs ++ [161, 162, 163]).getD k 0) x) = ys at *
      generalize (zs ++ [161, 162, 163]).getD k 0 = z at *
      clear hh5 HX
      go_wp2_with fail
      have B6 : Below w.heap.size w (w5.setCell ⟨g, k, none⟩ (.int .u8 (bits BinOp.xor IntKind.u8 z x))) := B5.setCell hgw _
      have t6 : Tab (w5.setCell ⟨g, k, none⟩ (.int .u8 (bits BinOp.xor IntKind.u8 z x))) := t0.below B6 t0.1
      have s6 := HH.out.bs (m := n) (by have := HL2.out; omega) HB2.out
      generalize w5.setCell ⟨g, k, none⟩ (.int .u8 (bits BinOp.xor IntKind.u8 z x)) = w6 at *
      refine (sum_ (some ⟨g, 0, none⟩) n (n + 3) _ w6 t6 s6 (by unfold maxLen; omega)).mono ?_
      rintro en w7 ⟨rfl, rfl⟩
      go_wp2_with fail
      refine (refSum_ (some ⟨g, 0, none⟩) n cap _ w7 s6 (by omega)).mono ?_
      rintro en w8 ⟨rfl, rfl⟩
      generalize updc 0 (ys.take n) = q
      go_wp2_with fail
      go_ret
      exact ⟨rfl, B6⟩
  · go_enter Tryd.func3, Tryd.ntmps3
    go_wp2_with fail
    refine (first_ w hT).mono ?_
    rintro en w1 ⟨rfl, B1⟩
    go_wp2_with fail
    go_ret
    exact ⟨rfl, B1⟩
end Go.Proofs.YtfgnllfgccbolaaDoor
