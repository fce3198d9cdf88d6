import Derived.Test.YtfgnllfgccbolaaDoorFirst
import Derived.Laws.AppendOwnNone
namespace Go.Proofs.YtfgnllfgccbolaaDoor
open Go.RowKit
set_option linter.unusedVariables false

/-- append(own, y...), whatever y is. -/
theorem wpList_app {ops : Array Oper} {rest : List Oper} {o : Oper} {a : Act} {Q : Exit → Act → World → Prop} (hgd : o.guard = none) (s x : Operand)
    (ho : o.op = .call { callee := .builtin .append, args := #[s, x], argTypes := #[22, 22] }) (w : World) (base : Nat) (v : Value) (n : Nat) (xs : List Int) (hs : a.eval s = v) (hown : w.ownsRow base 5 1 v n (cells xs))
    (ay : Option Addr) (m c : Nat) (ys : List Int) (hx : a.eval x = .slice ay m c) (hb : Bs w ay m ys) (hnil : ay = none → c = 0 ∧ m = 0) (hm : n + m ≤ 1000000) (hbase : base ≤ w.heap.size)
    (h : ∀ v' w', w'.ownsRow base 5 1 v' (n + m) (cells (xs ++ ys)) → w.grownBy w' v.ownBlock → wpList Tryd.prog ops Q rest (a.put o.dst v') w') : wpList Tryd.prog ops Q (o :: rest) a w := by
  obtain ⟨i, hi, hz0, hz1, hz2⟩ := info_parts info5
  cases ay with
  | none =>
    obtain ⟨rfl, rfl⟩ := hnil rfl
    obtain rfl : ys = [] := List.eq_nil_of_length_eq_zero hb.1
    exact wpList_append_own_none hgd s x 22 ho base 5 i 1 Tryd.underlying22 hi v n _ hs hown hx (h v w (by simpa using hown) ⟨rfl, rfl, rfl, Nat.le_refl _, fun _ _ _ => rfl⟩)
  | some ad =>
    refine wpList_append_own _ hgd s x 22 ho base 5 i (.int .u8 0) 1 1 Tryd.underlying22 hi hz0 hz1 hz2 rfl (by decide) v n _ hs hown ad m c (cells ys) hx (by rw [cells_length, hb.1, Nat.mul_one]) (hb.src1 ⟨rfl, rfl, rfl, Nat.le_refl _, fun _ _ _ => rfl⟩) (cells_one _) (by unfold maxLen; omega) (by omega) hbase ?_
    intro v' w' h1 h2 _
    rw [← cells_append] at h1
    exact h v' w' h1 h2

theorem Bs.low_off {w w' : World} {a : Option Addr} {n e s m : Nat} {zs : List Int} {v : Value} {xs : List Value} (h : Bs w a n zs) (hown : w'.ownsRow w.heap.size e s v m xs) : Off a n v.ownBlock := by
  rcases h.2.2 with h0 | ⟨b, off, rfl, hc⟩
  · exact .inl h0
  · by_cases hn : n = 0
    · exact .inl hn
    · refine .inr fun x hx => ?_
      obtain rfl := Option.some.inj hx
      intro e
      have h1 := (hown.lt b e.symm).1
      have h2 := World.block_lt_of_cell? w _ (hc 0 (by omega))
      have h3 : b < w.heap.size := h2
      omega
theorem bel_own {w0 wr w1 : World} {v : Value} {base m : Nat} {xs : List Value} (hB : w0.heap.size ≤ base) (hbl : Below w0.heap.size w0 wr) (hown : wr.ownsRow base 5 1 v m xs) (hg : wr.grownBy w1 v.ownBlock) : Below w0.heap.size w0 w1 :=
  hbl.grown hg hbl.size fun q hq => Nat.le_trans hB (hown.lt q hq).1

set_option maxRecDepth 100000 in
set_option maxHeartbeats 2000000 in
theorem crcParts_ (a0 : Option Addr) (l0 c0 : Nat) (xs : List Int) (a1 : Option Addr) (l1 c1 : Nat) (ys : List Int) (a2 : Option Addr) (l2 c2 : Nat) (zs : List Int) (w : World) (hT : Tab w)
    (h0 : Bs w a0 l0 xs) (k0 : l0 ≤ c0) (m0 : c0 ≤ maxLen) (o0 : a0 = none → c0 = 0) (h1 : Bs w a1 l1 ys) (k1 : l1 ≤ c1) (m1 : c1 ≤ maxLen) (o1 : a1 = none → c1 = 0) (h2 : Bs w a2 l2 zs) (k2 : l2 ≤ c2) (m2 : c2 ≤ maxLen) (o2 : a2 = none → c2 = 0) :
    Calls Tryd.prog 6 #[.slice a0 l0 c0, .slice a1 l1 c1, .slice a2 l2 c2] w fun en w' => en = .returned (.bool true) ∧ Below w.heap.size w w' := by
  unfold maxLen at m0 m1 m2
  by_cases hq : l0 ≤ 65536 ∧ l1 ≤ 65536 ∧ l2 ≤ 65536
  · obtain ⟨q0, q1, q2⟩ := hq
    have i0 : ¬ (65536 : Int) < (l0 : Int) := by omega
    have i1 : ¬ (65536 : Int) < (l1 : Int) := by omega
    have i2 : ¬ (65536 : Int) < (l2 : Int) := by omega
    have z1 := hid (show a1 = none → c1 = 0 ∧ l1 = 0 from fun e => ⟨o1 e, by have := o1 e; omega⟩)
    have z2 := hid (show a2 = none → c2 = 0 ∧ l2 = 0 from fun e => ⟨o2 e, by have := o2 e; omega⟩)
    clear o0 o1 o2
    go_enter Tryd.func6, Tryd.ntmps6
    go_wp2_with fail
    refine (first_ w hT).mono ?_
    rintro en w1 ⟨rfl, B1⟩
    have S1 := B1.size
    go_wp2_with fail
    refine (refBytes a0 l0 c0 xs _ (h0.below B1) (by omega)).mono ?_
    rintro en w2 ⟨v2, rfl, own2, g2⟩
    have B2 := bel_bel B1 S1 g2
    have S2 := g2.size
    go_wp2_with (at_builtin; refine wpList_app rfl (.tmp 42) (.tmp 43) rfl _ w1.heap.size v2 l0 xs rfl own2 a1 l1 c1 ys rfl (h1.below B2) z1.out (by omega) (by omega) ?_; intro v3 w3 own3 gr3)
    have B3 := bel_own S1 B2 own2 gr3
    have hby : ∀ z ∈ xs ++ ys, (0 : Int) ≤ z ∧ z ≤ 255 := by
      intro z hz; rcases List.mem_append.1 hz with h | h; exact h0.2.1 z h; exact h1.2.1 z h
    obtain ⟨a3, cap3, rfl, b3, _, _, _⟩ := own_form own3 hby
    have S3 := B3.size
    clear own2 gr3 g2 B2 S2 own3 B1 S1
    refine (refBytes a3 (l0 + l1) cap3 _ w3 b3 (by omega)).mono ?_
    rintro en w4 ⟨v4, rfl, own4, g4⟩
    have B4 := bel_bel B3 S3 g4
    have S4 := g4.size
    go_wp2_with (at_builtin; refine wpList_app rfl (.tmp 46) (.tmp 47) rfl _ w3.heap.size v4 (l0 + l1) (xs ++ ys) rfl own4 a2 l2 c2 zs rfl (h2.below B4) z2.out (by omega) (by omega) ?_; intro v5 w5 own5 gr5)
    have B5 := bel_own S3 B4 own4 gr5
    have hbz : ∀ z ∈ (xs ++ ys) ++ zs, (0 : Int) ≤ z ∧ z ≤ 255 := by
      intro z hz; rcases List.mem_append.1 hz with h | h; exact hby z h; exact h2.2.1 z h
    obtain ⟨a5, cap5, rfl, b5, _, _, _⟩ := own_form own5 hbz
    have b35 := (b3.below g4).kept gr5 (b3.low_off own4)
    have x0 := h0.below B5
    have x1 := h1.below B5
    have x2 := h2.below B5
    have t5 := hT.below B5 hT.1
    have S5 := B5.size
    have HB0 := hid h0.2.1
    have HB1 := hid h1.2.1
    have HB2 := hid h2.2.1
    have HL1 := hid h1.1
    have HL2 := hid h2.1
    clear own4 own5 gr5 g4 b3 B3 S3 B4 S4 h0 h1 h2 hby hbz hT z1 z2
    refine (sum_ a0 l0 c0 xs _ t5 x0 (by unfold maxLen; omega)).mono ?_
    rintro en w6 ⟨rfl, rfl⟩
    go_wp2_with fail
    refine (sum_ a1 l1 c1 ys _ t5 x1 (by unfold maxLen; omega)).mono ?_
    rintro en w7 ⟨rfl, rfl⟩
    go_wp2_with fail
    refine (sum_ a2 l2 c2 zs _ t5 x2 (by unfold maxLen; omega)).mono ?_
    rintro en w8 ⟨rfl, rfl⟩
    go_wp2_with fail
    refine (sum_ a3 (l0 + l1) cap3 _ _ t5 b35 (by unfold maxLen; omega)).mono ?_
    rintro en w9 ⟨rfl, rfl⟩
    rw [updc_append]
    go_wp2_with fail
    refine (sum_ a5 (l0 + l1 + l2) cap5 _ _ t5 b5 (by unfold maxLen; omega)).mono ?_
    rintro en w10 ⟨rfl, rfl⟩
    rw [updc_append, updc_append]
    go_wp2_with fail
    have A0 : updc 0 xs < 4294967296 := updc_lt (by omega) HB0.out
    have A1 : updc 0 ys < 4294967296 := updc_lt (by omega) HB1.out
    have A2 : updc 0 zs < 4294967296 := updc_lt (by omega) HB2.out
    have T2 : updc (updc 0 xs) ys < 4294967296 := updc_lt A0 HB1.out
    refine (update_ (updc 0 xs) a1 l1 c1 ys _ t5 x1 A0 (by unfold maxLen; omega)).mono ?_
    rintro en w11 ⟨rfl, rfl⟩
    go_wp2_with fail
    refine (update_ (updc (updc 0 xs) ys) a2 l2 c2 zs _ t5 x2 T2 (by unfold maxLen; omega)).mono ?_
    rintro en w12 ⟨rfl, rfl⟩
    have J1 : Hid (stps (8 * l1) (updc 0 xs) ^^^ updc 0 ys = updc (updc 0 xs) ys) := by show _ = _; have := join_sums (updc 0 xs) ys HB1.out; rwa [HL1.out] at this
    have J2 : Hid (stps (8 * l2) (updc 0 ys) ^^^ updc 0 zs = updc (updc 0 ys) zs) := by show _ = _; have := join_sums (updc 0 ys) zs HB2.out; rwa [HL2.out] at this
    have J3 : Hid (stps (8 * l2) (updc (updc 0 xs) ys) ^^^ updc 0 zs = updc (updc (updc 0 xs) ys) zs) := by show _ = _; have := join_sums (updc (updc 0 xs) ys) zs HB2.out; rwa [HL2.out] at this
    have J4 : Hid (stps (8 * (l1 + l2)) (updc 0 xs) ^^^ updc (updc 0 ys) zs = updc (updc (updc 0 xs) ys) zs) := by
      show _ = _
      have := join_sums (updc 0 xs) (ys ++ zs) (by intro z hz; rcases List.mem_append.1 hz with h | h; exact HB1.out z h; exact HB2.out z h)
      rwa [updc_append, updc_append, List.length_append, HL1.out, HL2.out] at this
    have T4 : updc (updc 0 ys) zs < 4294967296 := updc_lt A1 HB2.out
    clear x0 x1 x2 b5 b35 HB0 HB1 HB2 HL1 HL2
    generalize updc (updc (updc 0 xs) ys) zs = three at *
    generalize updc (updc 0 xs) ys = two at *
    generalize updc (updc 0 ys) zs = yz at *
    generalize updc 0 xs = A at *
    generalize updc 0 ys = B at *
    generalize updc 0 zs = C at *
    go_wp2_with fail
    refine (join_ A B l1 _ t5 A0 A1 (by omega)).mono ?_
    rintro en w13 ⟨rfl, b13⟩
    have B13 := bel_bel B5 S5 b13
    have S13 := B13.size
    have t13 := t5.bel b13
    clear b13 B5 S5 t5
    rw [J1.out]
    go_wp2_with fail
    refine (join_ B C l2 _ t13 A1 A2 (by omega)).mono ?_
    rintro en w14 ⟨rfl, b14⟩
    have B14 := bel_bel B13 S13 b14
    have S14 := B14.size
    have t14 := t13.bel b14
    clear b14 B13 S13 t13
    rw [J2.out]
    go_wp2_with fail
    refine (join_ two C l2 _ t14 T2 A2 (by omega)).mono ?_
    rintro en w15 ⟨rfl, b15⟩
    have B15 := bel_bel B14 S14 b15
    have S15 := B15.size
    have t15 := t14.bel b15
    clear b15 B14 S14 t14
    rw [J3.out]
    go_wp2_with fail
    rw [show (l1 : Int) + (l2 : Int) = ((l1 + l2 : Nat) : Int) from by omega]
    refine (join_ A yz (l1 + l2) _ t15 A0 T4 (by omega)).mono ?_
    rintro en w16 ⟨rfl, b16⟩
    have B16 := bel_bel B15 S15 b16
    have S16 := B16.size
    have t16 := t15.bel b16
    clear b16 B15 S15 t15
    rw [J4.out]
    generalize ((l1 + l2 : Nat) : Int) = j9
    go_wp2_with fail
    refine (join_ A 0 0 _ t16 A0 (by omega) (by omega)).mono ?_
    rintro en w17 ⟨rfl, b17⟩
    have B17 := bel_bel B16 S16 b17
    clear b17 B16 S16 t16
    rw [Nat.xor_zero, Nat.mul_zero, show stps 0 A = A from rfl]
    go_wp2_with fail
    go_ret
    exact ⟨rfl, B17⟩
  · go_enter Tryd.func6, Tryd.ntmps6
    go_wp2_with fail
    refine (first_ w hT).mono ?_
    rintro en w1 ⟨rfl, B1⟩
    go_wp2_with fail
    all_goals (first | (go_ret; exact ⟨rfl, B1⟩) | (exfalso; omega))
end Go.Proofs.YtfgnllfgccbolaaDoor
