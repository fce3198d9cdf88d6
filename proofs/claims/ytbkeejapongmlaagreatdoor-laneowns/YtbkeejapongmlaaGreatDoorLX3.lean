import Derived.Test.YtbkeejapongmlaaGreatDoorLX2
namespace Go.Proofs.YtbkeejapongmlaaGreatDoor
set_option maxRecDepth 100000
open Go.RowKit
set_option linter.unusedVariables false

theorem lnew1_ (p : Value) (w : World) : Calls Tryz.prog 32 #[p] w fun e w' => e = .returned (.int .i64 0) ∧ w' = w := by
  go_enter Tryz.func32, Tryz.ntmps32
  go_wp2_with fail
  go_ret
  exact ⟨rfl, rfl⟩
set_option maxHeartbeats 1000000 in
theorem lagain1_ (g : Nat) (a : Option Addr) (m c : Nat) (S C N D E s n : Int) (w : World) (hl : Lm w g a m c S C N D E s n) (h1 : 1 ≤ C) (h2 : C ≤ 2147483647) (h3 : 0 ≤ N) (h4 : N ≤ 2147483647) :
    Calls Tryz.prog 23 #[.pointer (some ⟨g, 0, none⟩)] w fun e w' => e = .returned (.int .i64 (frE C N)) ∧ Lm w' g a m c S (frG C N) N 0 0 s n ∧ Fx (fun k => k = g) w w' := by
  have kf := lfresh_ g a m c S C N D E s n w hl h1 h2 h3 h4
  obtain ⟨x, Hx⟩ : ∃ x, Hid (frG C N = x) := ⟨_, rfl⟩
  obtain ⟨y, Hy⟩ : ∃ y, Hid (frE C N = y) := ⟨_, rfl⟩
  rw [Hx.out, Hy.out] at kf
  rw [Hx.out, Hy.out]
  have HL := hid hl
  clear hl
  go_enter Tryz.func23, Tryz.ntmps23
  go_wp2_with fail
  refine kf.mono ?_
  rintro e w1 ⟨rfl, g1⟩
  have l0 := HL.out.kept g1
  have HF0 := hid (Fx.of (fun k => k = g) g1)
  have HL0 := hid l0
  have HL1 := hid (HL0.out.s2 x)
  have HF1 := hid (HF0.out.set (g := g) (i := 2) rfl (.int .i64 x))
  have f0 := HL0.out.fz 2
  have d0 := HL0.out.c2
  have HL2 := hid (HL1.out.s4 0)
  have HF2 := hid (HF1.out.set (g := g) (i := 4) rfl (.int .u64 0))
  have f1 := HL1.out.fz 4
  have d1 := HL1.out.c4
  have HL3 := hid (HL2.out.s5 0)
  have HF3 := hid (HF2.out.set (g := g) (i := 5) rfl (.int .u64 0))
  have f2 := HL2.out.fz 5
  have d2 := HL2.out.c5
  clear l0 kf
  go_wp2_with fail
  go_ret
  exact ⟨rfl, HL3.out, HF3.out⟩
set_option maxHeartbeats 1000000 in
theorem lpropose1_ (g : Nat) (a : Option Addr) (m c : Nat) (S C N D E s n : Int) (w : World) (hl : Lm w g a m c S C N D E s n) (h1 : 1 ≤ C) (h2 : C ≤ 2147483647) (h3 : 0 ≤ N) (h4 : N ≤ 2147483647) :
    Calls Tryz.prog 25 #[.pointer (some ⟨g, 0, none⟩)] w fun e w' => e = .returned (.int .i64 (frE C N)) ∧ Lm w' g a m c S C (frG C N) D E s n ∧ Fx (fun k => k = g) w w' := by
  have kf := lfresh_ g a m c S C N D E s n w hl h1 h2 h3 h4
  obtain ⟨x, Hx⟩ : ∃ x, Hid (frG C N = x) := ⟨_, rfl⟩
  obtain ⟨y, Hy⟩ : ∃ y, Hid (frE C N = y) := ⟨_, rfl⟩
  rw [Hx.out, Hy.out] at kf
  rw [Hx.out, Hy.out]
  have HL := hid hl
  clear hl
  go_enter Tryz.func25, Tryz.ntmps25
  go_wp2_with fail
  refine kf.mono ?_
  rintro e w1 ⟨rfl, g1⟩
  have l0 := HL.out.kept g1
  have HF0 := hid (Fx.of (fun k => k = g) g1)
  have HL0 := hid l0
  have HL1 := hid (HL0.out.s3 x)
  have HF1 := hid (HF0.out.set (g := g) (i := 3) rfl (.int .i64 x))
  have f0 := HL0.out.fz 3
  have d0 := HL0.out.c3
  clear l0 kf
  go_wp2_with fail
  go_ret
  exact ⟨rfl, HL1.out, HF1.out⟩
set_option maxHeartbeats 2000000 in
theorem lreserve1_ (g pb px : Nat) (a : Option Addr) (m c : Nat) (S C N D E s n : Int) (x b : Int) (w : World) (hl : Lm w g a m c S C N D E s n) (hb : w.cell? ⟨pb, 0, none⟩ = some (.int .i64 b)) (hx : w.cell? ⟨px, 0, none⟩ = some (.int .u64 x)) (rb : i64r b) (rx : u64r x) (q : Bool) (hq : (blk b && decide (D ≤ x ∧ x ≤ 18446744073709551614)) = q) :
    Calls Tryz.prog 33 #[.pointer (some ⟨g, 0, none⟩), .pointer (some ⟨pb, 0, none⟩), .pointer (some ⟨px, 0, none⟩)] w fun e w' => e = .returned (.int .i64 (erq q)) ∧ (q = true → Lm w' g a m c S C N (upN x b) E s n) ∧ Fx (fun k => k = g) w w' := by
  have A0 := hid hl.c4
  have A1 := hid hb
  have A2 := hid hx
  have HL := hid hl
  have kb := fun wx => lisBlock_ b wx
  obtain ⟨q2, Hq2⟩ : ∃ q, Hid (blk b = q) := ⟨_, rfl⟩
  rw [Hq2.out] at kb hq
  have HQ := hid hq
  clear hl hb hx hq
  cases q2 with
  | false =>
    obtain rfl : false = q := HQ.out
    go_enter Tryz.func33, Tryz.ntmps33
    go_wp2_with fail
    refine wp_quietC (Bw w) (by kernel_rfl) (by kernel_rfl) (Bw.drew w) ?_
    repeat (first | go_big_quiet_skip | (go_big_quiet_want; go_big_quiet_op; first | go_big_quiet_on | (apply Exists.intro; refine ⟨fun wq hq => ?_, ?_⟩; (· first | (with_reducible rfl) | (go_at_call 27; exact (kb _).mono fun _ _ h => ⟨h.1, by rw [h.2]; exact hq⟩) | (have q1 := hq.cell A0.out; have q2 := hq.cell A1.out; have q3 := hq.cell A2.out; go_simp; rfl) | rfl); go_big_quiet_on)))
    refine wpQuiet_nil ?_
    intro w3 s3
    have HF := hid (Fx.of (fun k => k = g) s3)
    clear s3
    go_wp2_with fail
    go_ret
    exact ⟨rfl, (fun h => by cases h), HF.out⟩
  | true =>
  by_cases h1 : D ≤ x
  case neg =>
    obtain rfl : false = q := by rw [← HQ.out, decide_eq_false (by omega)]; rfl
    have h1' : x < D := by omega
    have b1 : decide (x < D) = true := decide_eq_true h1'
    go_enter Tryz.func33, Tryz.ntmps33
    go_wp2_with fail
    refine wp_quietC (Bw w) (by kernel_rfl) (by kernel_rfl) (Bw.drew w) ?_
    repeat (first | go_big_quiet_skip | (go_big_quiet_want; go_big_quiet_op; first | go_big_quiet_on | (apply Exists.intro; refine ⟨fun wq hq => ?_, ?_⟩; (· first | (with_reducible rfl) | (go_at_call 27; exact (kb _).mono fun _ _ h => ⟨h.1, by rw [h.2]; exact hq⟩) | (have q1 := hq.cell A0.out; have q2 := hq.cell A1.out; have q3 := hq.cell A2.out; go_simp; rfl) | rfl); go_big_quiet_on)))
    refine wpQuiet_nil ?_
    intro w3 s3
    have HF := hid (Fx.of (fun k => k = g) s3)
    clear s3
    go_wp2_with fail
    go_ret
    exact ⟨rfl, (fun h => by cases h), HF.out⟩
  have b1 : decide (x < D) = false := decide_eq_false (by omega)
  have h1' : ¬ x < D := by omega
  by_cases h2 : x ≤ 18446744073709551614
  case neg =>
    obtain rfl : false = q := by rw [← HQ.out, decide_eq_false (by omega)]; rfl
    have h2' : 18446744073709551614 < x := by omega
    have b2 : decide (18446744073709551614 < x) = true := decide_eq_true h2'
    go_enter Tryz.func33, Tryz.ntmps33
    go_wp2_with fail
    refine wp_quietC (Bw w) (by kernel_rfl) (by kernel_rfl) (Bw.drew w) ?_
    repeat (first | go_big_quiet_skip | (go_big_quiet_want; go_big_quiet_op; first | go_big_quiet_on | (apply Exists.intro; refine ⟨fun wq hq => ?_, ?_⟩; (· first | (with_reducible rfl) | (go_at_call 27; exact (kb _).mono fun _ _ h => ⟨h.1, by rw [h.2]; exact hq⟩) | (have q1 := hq.cell A0.out; have q2 := hq.cell A1.out; have q3 := hq.cell A2.out; go_simp; rfl) | rfl); go_big_quiet_on)))
    refine wpQuiet_nil ?_
    intro w3 s3
    have HF := hid (Fx.of (fun k => k = g) s3)
    clear s3
    go_wp2_with fail
    go_ret
    exact ⟨rfl, (fun h => by cases h), HF.out⟩
  have h2' : ¬ 18446744073709551614 < x := by omega
  have b2 : decide (18446744073709551614 < x) = false := decide_eq_false h2'
  obtain rfl : true = q := by rw [← HQ.out, decide_eq_true ⟨h1, h2⟩]; rfl
  go_enter Tryz.func33, Tryz.ntmps33
  go_wp2_with fail
  refine wp_quietC (Bw w) (by kernel_rfl) (by kernel_rfl) (Bw.drew w) ?_
  repeat (first | go_big_quiet_skip | (go_big_quiet_want; go_big_quiet_op; first | go_big_quiet_on | (apply Exists.intro; refine ⟨fun wq hq => ?_, ?_⟩; (· first | (with_reducible rfl) | (go_at_call 27; exact (kb _).mono fun _ _ h => ⟨h.1, by rw [h.2]; exact hq⟩) | (have q1 := hq.cell A0.out; have q2 := hq.cell A1.out; have q3 := hq.cell A2.out; go_simp; rfl) | rfl); go_big_quiet_on)))
  refine wpQuiet_nil ?_
  intro w3 s3
  have HF := hid (Fx.of (fun k => k = g) s3)
  have e1 := Bw.cell s3 A1.out
  have e2 := Bw.cell s3 A2.out
  have HL3 := hid (HL.out.kept s3)
  have ku := lup_ x b w3 rx rb
  obtain ⟨U, HU⟩ : ∃ U, Hid (upN x b = U) := ⟨_, rfl⟩
  rw [HU.out] at ku
  clear s3 HL
  go_wp2_with fail
  refine ku.mono ?_
  rintro e w4 ⟨rfl, rfl⟩
  have f0 := HL3.out.fz 4
  have d0 := HL3.out.c4
  have HL4 := hid (HL3.out.s4 U)
  have HF4 := hid (HF.out.set (g := g) (i := 4) rfl (.int .u64 U))
  clear ku e1 e2
  go_wp2_with fail
  go_ret
  exact ⟨rfl, (fun _ => by rw [HU.out]; exact HL4.out), HF4.out⟩
set_option maxHeartbeats 2000000 in
theorem lraise1_ (g pb px : Nat) (a : Option Addr) (m c : Nat) (S C N D E s n : Int) (x b : Int) (w : World) (hl : Lm w g a m c S C N D E s n) (hb : w.cell? ⟨pb, 0, none⟩ = some (.int .i64 b)) (hx : w.cell? ⟨px, 0, none⟩ = some (.int .u64 x)) (rb : i64r b) (rx : u64r x) (q : Bool) (hq : (blk b && decide (E ≤ x ∧ x ≤ 18446744073709551614)) = q) :
    Calls Tryz.prog 35 #[.pointer (some ⟨g, 0, none⟩), .pointer (some ⟨pb, 0, none⟩), .pointer (some ⟨px, 0, none⟩)] w fun e w' => e = .returned (.int .i64 (erq q)) ∧ (q = true → Lm w' g a m c S C N D (upN x b) s n) ∧ Fx (fun k => k = g) w w' := by
  have A0 := hid hl.c5
  have A1 := hid hb
  have A2 := hid hx
  have HL := hid hl
  have kb := fun wx => lisBlock_ b wx
  obtain ⟨q2, Hq2⟩ : ∃ q, Hid (blk b = q) := ⟨_, rfl⟩
  rw [Hq2.out] at kb hq
  have HQ := hid hq
  clear hl hb hx hq
  cases q2 with
  | false =>
    obtain rfl : false = q := HQ.out
    go_enter Tryz.func35, Tryz.ntmps35
    go_wp2_with fail
    refine wp_quietC (Bw w) (by kernel_rfl) (by kernel_rfl) (Bw.drew w) ?_
    repeat (first | go_big_quiet_skip | (go_big_quiet_want; go_big_quiet_op; first | go_big_quiet_on | (apply Exists.intro; refine ⟨fun wq hq => ?_, ?_⟩; (· first | (with_reducible rfl) | (go_at_call 27; exact (kb _).mono fun _ _ h => ⟨h.1, by rw [h.2]; exact hq⟩) | (have q1 := hq.cell A0.out; have q2 := hq.cell A1.out; have q3 := hq.cell A2.out; go_simp; rfl) | rfl); go_big_quiet_on)))
    refine wpQuiet_nil ?_
    intro w3 s3
    have HF := hid (Fx.of (fun k => k = g) s3)
    clear s3
    go_wp2_with fail
    go_ret
    exact ⟨rfl, (fun h => by cases h), HF.out⟩
  | true =>
  by_cases h1 : E ≤ x
  case neg =>
    obtain rfl : false = q := by rw [← HQ.out, decide_eq_false (by omega)]; rfl
    have h1' : x < E := by omega
    have b1 : decide (x < E) = true := decide_eq_true h1'
    go_enter Tryz.func35, Tryz.ntmps35
    go_wp2_with fail
    refine wp_quietC (Bw w) (by kernel_rfl) (by kernel_rfl) (Bw.drew w) ?_
    repeat (first | go_big_quiet_skip | (go_big_quiet_want; go_big_quiet_op; first | go_big_quiet_on | (apply Exists.intro; refine ⟨fun wq hq => ?_, ?_⟩; (· first | (with_reducible rfl) | (go_at_call 27; exact (kb _).mono fun _ _ h => ⟨h.1, by rw [h.2]; exact hq⟩) | (have q1 := hq.cell A0.out; have q2 := hq.cell A1.out; have q3 := hq.cell A2.out; go_simp; rfl) | rfl); go_big_quiet_on)))
    refine wpQuiet_nil ?_
    intro w3 s3
    have HF := hid (Fx.of (fun k => k = g) s3)
    clear s3
    go_wp2_with fail
    go_ret
    exact ⟨rfl, (fun h => by cases h), HF.out⟩
  have b1 : decide (x < E) = false := decide_eq_false (by omega)
  have h1' : ¬ x < E := by omega
  by_cases h2 : x ≤ 18446744073709551614
  case neg =>
    obtain rfl : false = q := by rw [← HQ.out, decide_eq_false (by omega)]; rfl
    have h2' : 18446744073709551614 < x := by omega
    have b2 : decide (18446744073709551614 < x) = true := decide_eq_true h2'
    go_enter Tryz.func35, Tryz.ntmps35
    go_wp2_with fail
    refine wp_quietC (Bw w) (by kernel_rfl) (by kernel_rfl) (Bw.drew w) ?_
    repeat (first | go_big_quiet_skip | (go_big_quiet_want; go_big_quiet_op; first | go_big_quiet_on | (apply Exists.intro; refine ⟨fun wq hq => ?_, ?_⟩; (· first | (with_reducible rfl) | (go_at_call 27; exact (kb _).mono fun _ _ h => ⟨h.1, by rw [h.2]; exact hq⟩) | (have q1 := hq.cell A0.out; have q2 := hq.cell A1.out; have q3 := hq.cell A2.out; go_simp; rfl) | rfl); go_big_quiet_on)))
    refine wpQuiet_nil ?_
    intro w3 s3
    have HF := hid (Fx.of (fun k => k = g) s3)
    clear s3
    go_wp2_with fail
    go_ret
    exact ⟨rfl, (fun h => by cases h), HF.out⟩
  have h2' : ¬ 18446744073709551614 < x := by omega
  have b2 : decide (18446744073709551614 < x) = false := decide_eq_false h2'
  obtain rfl : true = q := by rw [← HQ.out, decide_eq_true ⟨h1, h2⟩]; rfl
  go_enter Tryz.func35, Tryz.ntmps35
  go_wp2_with fail
  refine wp_quietC (Bw w) (by kernel_rfl) (by kernel_rfl) (Bw.drew w) ?_
  repeat (first | go_big_quiet_skip | (go_big_quiet_want; go_big_quiet_op; first | go_big_quiet_on | (apply Exists.intro; refine ⟨fun wq hq => ?_, ?_⟩; (· first | (with_reducible rfl) | (go_at_call 27; exact (kb _).mono fun _ _ h => ⟨h.1, by rw [h.2]; exact hq⟩) | (have q1 := hq.cell A0.out; have q2 := hq.cell A1.out; have q3 := hq.cell A2.out; go_simp; rfl) | rfl); go_big_quiet_on)))
  refine wpQuiet_nil ?_
  intro w3 s3
  have HF := hid (Fx.of (fun k => k = g) s3)
  have e1 := Bw.cell s3 A1.out
  have e2 := Bw.cell s3 A2.out
  have HL3 := hid (HL.out.kept s3)
  have ku := lup_ x b w3 rx rb
  obtain ⟨U, HU⟩ : ∃ U, Hid (upN x b = U) := ⟨_, rfl⟩
  rw [HU.out] at ku
  clear s3 HL
  go_wp2_with fail
  refine ku.mono ?_
  rintro e w4 ⟨rfl, rfl⟩
  have f0 := HL3.out.fz 5
  have d0 := HL3.out.c5
  have HL4 := hid (HL3.out.s5 U)
  have HF4 := hid (HF.out.set (g := g) (i := 5) rfl (.int .u64 U))
  clear ku e1 e2
  go_wp2_with fail
  go_ret
  exact ⟨rfl, (fun _ => by rw [HU.out]; exact HL4.out), HF4.out⟩
set_option maxHeartbeats 1000000 in
theorem lbegin_ (g : Nat) (a : Option Addr) (m c : Nat) (S C N D E s n : Int) (G x y b : Int) (w : World) (hl : Lm w g a m c S C N D E s n) (rx : u64r x) (ry : u64r y) (rb : i64r b) :
    Calls Tryz.prog 31 #[.pointer (some ⟨g, 0, none⟩), .int .i64 G, .int .u64 x, .int .u64 y, .int .i64 b] w fun e w' => e = .returned (.tuple #[]) ∧ Lm w' g a m c S G N (upN x b) (upN y b) s n ∧ Fx (fun k => k = g) w w' := by
  have k1 := lup_ x b w rx rb
  have k2 := lup_ y b w ry rb
  obtain ⟨U, HU⟩ : ∃ U, Hid (upN x b = U) := ⟨_, rfl⟩
  obtain ⟨V, HV⟩ : ∃ V, Hid (upN y b = V) := ⟨_, rfl⟩
  rw [HU.out] at k1
  rw [HV.out] at k2
  rw [HU.out, HV.out]
  have HL0 := hid hl
  have HF0 := hid (Fx.of (fun k => k = g) (Below.refl w.heap.size w))
  have HL1 := hid (HL0.out.s2 G)
  have HF1 := hid (HF0.out.set (g := g) (i := 2) rfl (.int .i64 G))
  have HL2 := hid (HL1.out.s4 U)
  have HF2 := hid (HF1.out.set (g := g) (i := 4) rfl (.int .u64 U))
  have HL3 := hid (HL2.out.s5 V)
  have HF3 := hid (HF2.out.set (g := g) (i := 5) rfl (.int .u64 V))
  have f0 := HL0.out.fz 2
  have d0 := HL0.out.c2
  have f1 := HL1.out.fz 4
  have d1 := HL1.out.c4
  have f2 := HL2.out.fz 5
  have d2 := HL2.out.c5
  clear hl
  go_enter Tryz.func31, Tryz.ntmps31
  go_wp2_with fail
  refine k1.mono ?_
  rintro e w1 ⟨rfl, rfl⟩
  go_wp2_with fail
  refine k2.mono ?_
  rintro e w1 ⟨rfl, rfl⟩
  go_wp2_with fail
  exact bodyPost_end (results_none rfl _ _ _) rfl ⟨rfl, HL3.out, HF3.out⟩
end Go.Proofs.YtbkeejapongmlaaGreatDoor
