import Derived.Test.YtbkeejapongmlaaGreatDoorLX0
namespace Go.Proofs.YtbkeejapongmlaaGreatDoor
set_option maxRecDepth 100000
open Go.RowKit
set_option linter.unusedVariables false

theorem i64_of {x : Int} (h : i64r x) : InIC x := h
set_option maxHeartbeats 2000000 in
/-- The landed Valid. -/
theorem lvalid_ (a : Option Addr) (m c : Nat) (S C N D E s n : Int) (w : World) (hm : m ≤ maxLen) (hs : i64r s) (hn : i64r n) :
    Calls Tryz.prog 18 #[.agg #[.slice a m c, .int .i64 S, .int .i64 C, .int .i64 N, .int .u64 D, .int .u64 E, .int .i64 s, .int .i64 n]] w fun e w' => e = .returned (.bool (lok m S C N s n)) ∧ Below w.heap.size w w' := by
  unfold maxLen at hm
  have B0 := lnew w a m c S C N D E s n
  have m0 := Lm.new w a m c S C N D E s n
  have HB0 := hid B0
  obtain ⟨r, HR⟩ : ∃ r, Hid (lok m S C N s n = r) := ⟨_, rfl⟩
  rw [HR.out]
  unfold lok at HR
  obtain ⟨q, hq⟩ : ∃ q, vld s n = q := ⟨_, rfl⟩
  have kv := fun wx => svalid_ s n wx (i64_of hs) (i64_of hn)
  rw [hq] at kv HR
  clear hq
  obtain ⟨q1, hq1⟩ : ∃ q, wtn S 0 1 = q := ⟨_, rfl⟩
  have k1 := fun wx => lwithin_ S 0 1 wx
  rw [hq1] at k1
  obtain ⟨q2, hq2⟩ : ∃ q, wtn C 1 2147483647 = q := ⟨_, rfl⟩
  have k2 := fun wx => lwithin_ C 1 2147483647 wx
  rw [hq2] at k2
  obtain ⟨q3, hq3⟩ : ∃ q, wtn N 0 2147483647 = q := ⟨_, rfl⟩
  have k3 := fun wx => lwithin_ N 0 2147483647 wx
  rw [hq3] at k3
  have H1 := hid hq1
  have H2 := hid hq2
  have H3 := hid hq3
  unfold wtn at H1 H2 H3
  clear hq1 hq2 hq3
  have c0 := m0.c0
  have c1 := m0.c1
  have c2 := m0.c2
  have c3 := m0.c3
  have c6 := m0.c6
  have c7 := m0.c7
  clear m0 B0 hs hn
  go_enter Tryz.func18, Tryz.ntmps18
  by_cases h5 : m = 32
  case neg =>
    have hr : r = false := by rw [← HR.out]; exact decide_eq_false (by omega)
    subst hr
    have hme : ((m : Int) == 32) = false := beq_eq_false_iff_ne.2 (by omega)
    go_wp2_with fail
    all_goals (go_ret; exact ⟨rfl, HB0.out⟩)
  subst h5
  cases q1 with
  | false =>
    have hr : r = false := by rw [← HR.out]; exact decide_eq_false (by have := of_decide_eq_false H1.out; omega)
    subst hr
    go_wp2_with (go_at_call 28; refine (k1 _).mono ?_; rintro e1 x1 ⟨rfl, rfl⟩)
    all_goals (go_ret; exact ⟨rfl, HB0.out⟩)
  | true =>
  cases q2 with
  | false =>
    have hr : r = false := by rw [← HR.out]; exact decide_eq_false (by have := of_decide_eq_false H2.out; omega)
    subst hr
    go_wp2_with fail
    refine (k1 _).mono ?_
    rintro e1 x1 ⟨rfl, rfl⟩
    go_wp2_with fail
    refine (k2 _).mono ?_
    rintro e1 x1 ⟨rfl, rfl⟩
    go_wp2_with fail
    all_goals (go_ret; exact ⟨rfl, HB0.out⟩)
  | true =>
  cases q3 with
  | false =>
    have hr : r = false := by rw [← HR.out]; exact decide_eq_false (by have := of_decide_eq_false H3.out; omega)
    subst hr
    go_wp2_with fail
    refine (k1 _).mono ?_
    rintro e1 x1 ⟨rfl, rfl⟩
    go_wp2_with fail
    refine (k2 _).mono ?_
    rintro e1 x1 ⟨rfl, rfl⟩
    go_wp2_with fail
    refine (k3 _).mono ?_
    rintro e1 x1 ⟨rfl, rfl⟩
    go_wp2_with fail
    all_goals (go_ret; exact ⟨rfl, HB0.out⟩)
  | true =>
    have hr : r = q := by
      rw [← HR.out]
      have h1 := of_decide_eq_true H1.out
      have h2 := of_decide_eq_true H2.out
      have h3 := of_decide_eq_true H3.out
      cases q with
      | true => exact decide_eq_true ⟨rfl, rfl, by omega, h2.1, h2.2, h3.1, h3.2⟩
      | false => exact decide_eq_false (by simp)
    subst hr
    clear HR H1 H2 H3
    go_wp2_with fail
    refine (k1 _).mono ?_
    rintro e1 x1 ⟨rfl, rfl⟩
    go_wp2_with fail
    refine (k2 _).mono ?_
    rintro e1 x1 ⟨rfl, rfl⟩
    go_wp2_with fail
    refine (k3 _).mono ?_
    rintro e1 x1 ⟨rfl, rfl⟩
    go_wp2_with fail
    refine (kv _).mono ?_
    rintro e1 x1 ⟨rfl, g1⟩
    have HG := hid g1
    clear g1
    go_wp2_with fail
    go_ret
    exact ⟨rfl, bel_bel HB0.out HB0.out.size HG.out⟩
/-- bytes.Clone of 32 bytes. -/
theorem lclone_ (a : Option Addr) (c : Nat) (zs : List Int) (w : World) (hb : Bs w a 32 zs) :
    Calls Tryz.prog 42 #[.slice a 32 c] w fun en w' => ∃ v, en = .returned v ∧ w'.ownsRow w.heap.size 5 1 v 32 (cells zs) ∧ Below w.heap.size w w' := by
  obtain ⟨x, rfl⟩ : ∃ x, a = some x := by
    rcases hb.2.2 with h0 | ⟨b, off, e, _⟩
    · omega
    · exact ⟨_, e⟩
  obtain ⟨i, hi, hz0, hz1, hz2⟩ := info_parts info5
  have heq := Go.Lib.run_eql_slice_nil (P := Tryz.prog) w 22 5 (some x) 32 c 0 0 Tryz.underlying22
  simp only [Option.isNone] at heq
  go_enter Tryz.func42, Tryz.ntmps42
  go_wp2_with (at_builtin; (refine wpList_appT rfl _ _ rfl w.heap.size _ 0 [] rfl (World.ownsRow_made w _ 0 (Nat.le_refl _) (by unfold maxLen; omega) (by simp)) (some x) 32 c zs rfl (hb.below ((Below.refl _ _).alloc (Nat.le_refl _) _)) (by omega) (by simp) ?_); intro v' w1 hown hg)
  have hg' : (w.alloc (.cells #[] 5)).grownBy w1 (some w.heap.size) := hg
  go_ret
  exact ⟨_, rfl, by simpa using hown, ⟨hg'.os, hg'.tape, hg'.output, Nat.le_trans (by simp) hg'.size, fun k hk => (hg'.block k (by simp; omega) (by intro e; have := Option.some.inj e; omega)).trans (Below.heap_alloc _ _ _ hk)⟩⟩
end Go.Proofs.YtbkeejapongmlaaGreatDoor
