import Derived.Test.YtbkeejapongmlaaGreatDoorLX3
namespace Go.Proofs.YtbkeejapongmlaaGreatDoor
set_option maxRecDepth 100000
open Go.RowKit
set_option linter.unusedVariables false

/-- A number of 64 bits in a variable. -/
def Un (w : World) (p : Nat) (x : Int) : Prop := w.heap[p]? = some (.cells #[.int .u64 x] 23 (0, 0))
theorem Un.c {w : World} {p : Nat} {x : Int} (h : Un w p x) : w.cell? ⟨p, 0, none⟩ = some (.int .u64 x) := (cell_of_row w p 0 _ _ (0, 0) h).trans rfl
theorem Un.fz {w : World} {p : Nat} {x : Int} (h : Un w p x) : w.frozen? ⟨p, 0, none⟩ = false := by unfold Un at h; simp [World.frozen?, h]
theorem Un.set {w : World} {p : Nat} {x : Int} (h : Un w p x) (y : Int) : Un (w.setCell ⟨p, 0, none⟩ (.int .u64 y)) p y := by unfold Un at *; simp [World.setCell, Array.getElem?_modify, h]
theorem Un.lt {w : World} {p : Nat} {x : Int} (h : Un w p x) : p < w.heap.size := (Array.getElem?_eq_some_iff.1 h).1
theorem Un.at {w w' : World} {p : Nat} {x : Int} (h : Un w p x) (e : w'.heap[p]? = w.heap[p]?) : Un w' p x := by unfold Un at *; rw [e]; exact h
theorem Fx.cell {X : Nat → Prop} {w w' : World} (h : Fx X w w') {p : Addr} {v : Value} (hc : w.cell? p = some v) (hX : ¬ X p.block) : w'.cell? p = some v := (World.cell?_of_block (h.block _ (World.block_lt_of_cell? w p hc) hX)).trans hc
set_option maxHeartbeats 4000000 in
theorem lopened1_ (g pb pg px : Nat) (a : Option Addr) (m c : Nat) (S C N D E s n : Int) (G x b : Int) (w : World) (hl : Lm w g a m c S C N D E s n) (hb : w.cell? ⟨pb, 0, none⟩ = some (.int .i64 b)) (hG : w.cell? ⟨pg, 0, none⟩ = some (.int .i64 G)) (hx : w.cell? ⟨px, 0, none⟩ = some (.int .u64 x)) (h1 : 1 ≤ C) (h2 : C ≤ 2147483647) (rb : i64r b) (rx : u64r x) (q : Bool) (hq : (blk b && (wtn G (C + 1) N && decide (x ≤ 18446744073709551614))) = q) :
    Calls Tryz.prog 34 #[.pointer (some ⟨g, 0, none⟩), .pointer (some ⟨pb, 0, none⟩), .pointer (some ⟨pg, 0, none⟩), .pointer (some ⟨px, 0, none⟩)] w fun e w' => e = .returned (.int .i64 (erq q)) ∧ (q = true → Lm w' g a m c S G N (upN 1 b) (upN x b) s n) ∧ Fx (fun k => k = g) w w' := by
  have A0 := hid hl.c2
  have A3 := hid hl.c3
  have A1 := hid hb
  have A2 := hid hx
  have A4 := hid hG
  have HL := hid hl
  have kb := fun wx => lisBlock_ b wx
  obtain ⟨q2, Hq2⟩ : ∃ q, Hid (blk b = q) := ⟨_, rfl⟩
  rw [Hq2.out] at kb hq
  have kw := fun wx => lwithin_ G (C + 1) N wx
  obtain ⟨q3, Hq3⟩ : ∃ q, Hid (wtn G (C + 1) N = q) := ⟨_, rfl⟩
  rw [Hq3.out] at kw hq
  have HQ := hid hq
  clear hl hb hx hG hq
  have hw1 : IntKind.i64.wrap (C + 1) = C + 1 := by rw [IntKind.wrap_i64]; omega
  cases q2 with
  | false =>
    obtain rfl : false = q := HQ.out
    go_enter Tryz.func34, Tryz.ntmps34
    go_wp2_with fail
    refine wp_quietC (Bw w) (by kernel_rfl) (by kernel_rfl) (Bw.drew w) ?_
    repeat (first | go_big_quiet_skip | (go_big_quiet_want; go_big_quiet_op; first | go_big_quiet_on | (apply Exists.intro; refine ⟨fun wq hq => ?_, ?_⟩; (· first | (with_reducible rfl) | (go_at_call 27; exact (kb _).mono fun _ _ h => ⟨h.1, by rw [h.2]; exact hq⟩) | (go_at_call 28; exact (kw _).mono fun _ _ h => ⟨h.1, by rw [h.2]; exact hq⟩) | (have q1 := hq.cell A0.out; have q2 := hq.cell A1.out; have q3 := hq.cell A2.out; have q4 := hq.cell A3.out; have q5 := hq.cell A4.out; go_simp; rfl) | rfl); go_big_quiet_on)))
    refine wpQuiet_nil ?_
    intro w3 s3
    have HF := hid (Fx.of (fun k => k = g) s3)
    clear s3
    go_wp2_with fail
    go_ret
    exact ⟨rfl, (fun h => by cases h), HF.out⟩
  | true =>
  cases q3 with
  | false =>
    obtain rfl : false = q := HQ.out
    go_enter Tryz.func34, Tryz.ntmps34
    go_wp2_with fail
    refine wp_quietC (Bw w) (by kernel_rfl) (by kernel_rfl) (Bw.drew w) ?_
    repeat (first | go_big_quiet_skip | (go_big_quiet_want; go_big_quiet_op; first | go_big_quiet_on | (apply Exists.intro; refine ⟨fun wq hq => ?_, ?_⟩; (· first | (with_reducible rfl) | (go_at_call 27; exact (kb _).mono fun _ _ h => ⟨h.1, by rw [h.2]; exact hq⟩) | (go_at_call 28; exact (kw _).mono fun _ _ h => ⟨h.1, by rw [h.2]; exact hq⟩) | (have q1 := hq.cell A0.out; have q2 := hq.cell A1.out; have q3 := hq.cell A2.out; have q4 := hq.cell A3.out; have q5 := hq.cell A4.out; go_simp; rfl) | rfl); go_big_quiet_on)))
    refine wpQuiet_nil ?_
    intro w3 s3
    have HF := hid (Fx.of (fun k => k = g) s3)
    clear s3
    go_wp2_with fail
    go_ret
    exact ⟨rfl, (fun h => by cases h), HF.out⟩
  | true =>
  by_cases h3 : x ≤ 18446744073709551614
  case neg =>
    obtain rfl : false = q := by rw [← HQ.out, decide_eq_false h3]; rfl
    have h3' : 18446744073709551614 < x := by omega
    have b2 : decide (18446744073709551614 < x) = true := decide_eq_true h3'
    go_enter Tryz.func34, Tryz.ntmps34
    go_wp2_with fail
    refine wp_quietC (Bw w) (by kernel_rfl) (by kernel_rfl) (Bw.drew w) ?_
    repeat (first | go_big_quiet_skip | (go_big_quiet_want; go_big_quiet_op; first | go_big_quiet_on | (apply Exists.intro; refine ⟨fun wq hq => ?_, ?_⟩; (· first | (with_reducible rfl) | (go_at_call 27; exact (kb _).mono fun _ _ h => ⟨h.1, by rw [h.2]; exact hq⟩) | (go_at_call 28; exact (kw _).mono fun _ _ h => ⟨h.1, by rw [h.2]; exact hq⟩) | (have q1 := hq.cell A0.out; have q2 := hq.cell A1.out; have q3 := hq.cell A2.out; have q4 := hq.cell A3.out; have q5 := hq.cell A4.out; go_simp; rfl) | rfl); go_big_quiet_on)))
    refine wpQuiet_nil ?_
    intro w3 s3
    have HF := hid (Fx.of (fun k => k = g) s3)
    clear s3
    go_wp2_with fail
    go_ret
    exact ⟨rfl, (fun h => by cases h), HF.out⟩
  have h3' : ¬ 18446744073709551614 < x := by omega
  have b2 : decide (18446744073709551614 < x) = false := decide_eq_false h3'
  obtain rfl : true = q := by rw [← HQ.out, decide_eq_true h3]; rfl
  go_enter Tryz.func34, Tryz.ntmps34
  go_wp2_with fail
  refine wp_quietC (Bw w) (by kernel_rfl) (by kernel_rfl) (Bw.drew w) ?_
  repeat (first | go_big_quiet_skip | (go_big_quiet_want; go_big_quiet_op; first | go_big_quiet_on | (apply Exists.intro; refine ⟨fun wq hq => ?_, ?_⟩; (· first | (with_reducible rfl) | (go_at_call 27; exact (kb _).mono fun _ _ h => ⟨h.1, by rw [h.2]; exact hq⟩) | (go_at_call 28; exact (kw _).mono fun _ _ h => ⟨h.1, by rw [h.2]; exact hq⟩) | (have q1 := hq.cell A0.out; have q2 := hq.cell A1.out; have q3 := hq.cell A2.out; have q4 := hq.cell A3.out; have q5 := hq.cell A4.out; go_simp; rfl) | rfl); go_big_quiet_on)))
  refine wpQuiet_nil ?_
  intro w3 s3
  have HF := hid (Fx.of (fun k => k = g) s3)
  have e1 := Bw.cell s3 A1.out
  have e2 := Bw.cell s3 A2.out
  have e4 := Bw.cell s3 A4.out
  have kg := lbegin_ g a m c S C N D E s n G 1 x b w3 (HL.out.kept s3) (by unfold u64r; omega) rx rb
  clear s3 HL
  go_wp2_with fail
  refine kg.mono ?_
  rintro e w4 ⟨rfl, l4, f4⟩
  have HL4 := hid l4
  have HF4 := hid (HF.out.trans f4)
  clear kg l4 f4 e1 e2 e4
  go_wp2_with fail
  go_ret
  exact ⟨rfl, (fun _ => HL4.out), HF4.out⟩
/-- What the literal of Answered leaves. -/
structure An1 (g pa : Nat) (a : Option Addr) (m c : Nat) (S N G x t u b : Int) (q : Bool) (w : World) (e : Ending) (w' : World) : Prop where
  e : e = .returned (.int .i64 (erq q))
  l : q = true → Lm w' g a m c S G N (upN (if G ≤ N then 1 else 0) b) (upN x b) t u
  f : Fx (fun k => k = g ∨ k = pa) w w'
  u : Un w' pa (if q then (if G ≤ N then 1 else 0) else 0)
set_option maxHeartbeats 8000000 in
theorem lanswered1_ (g pb pg px ps pa : Nat) (a : Option Addr) (m c : Nat) (S C N D E s n : Int) (G x t u b : Int) (w : World) (hl : Lm w g a m c S C N D E s n) (hb : w.cell? ⟨pb, 0, none⟩ = some (.int .i64 b)) (hG : w.cell? ⟨pg, 0, none⟩ = some (.int .i64 G)) (hx : w.cell? ⟨px, 0, none⟩ = some (.int .u64 x)) (hs1 : w.cell? ⟨ps, 0, none⟩ = some (.int .i64 t)) (hs2 : w.cell? ⟨ps, 1, none⟩ = some (.int .i64 u)) (hu : Un w pa 0) (na : g ≠ pa) (nb : pb ≠ pa ∧ pb ≠ g) (ng : pg ≠ pa ∧ pg ≠ g) (nx : px ≠ pa ∧ px ≠ g) (ns : ps ≠ pa ∧ ps ≠ g) (h1 : 1 ≤ C) (h2 : C ≤ 2147483647) (rb : i64r b) (rx : u64r x) (rs : i64r s) (rn : i64r n) (rt : i64r t) (ru : i64r u) (q : Bool) (hq : (blk b && (wtn G (C + 1) 2147483647 && (decide (x ≤ 18446744073709551614) && (vld t u && lss s n t u)))) = q) :
    Calls Tryz.prog 26 #[.pointer (some ⟨g, 0, none⟩), .pointer (some ⟨pb, 0, none⟩), .pointer (some ⟨pg, 0, none⟩), .pointer (some ⟨px, 0, none⟩), .pointer (some ⟨ps, 0, none⟩), .pointer (some ⟨pa, 0, none⟩)] w fun e w' => An1 g pa a m c S N G x t u b q w e w' := by
  have A0 := hid hl.c2
  have A3 := hid hl.c3
  have A1 := hid hb
  have A2 := hid hx
  have A4 := hid hG
  have HL := hid hl
  have kb := fun wx => lisBlock_ b wx
  obtain ⟨q2, Hq2⟩ : ∃ q, Hid (blk b = q) := ⟨_, rfl⟩
  rw [Hq2.out] at kb hq
  have A5 := hid hs1
  have A6 := hid hs2
  have A7 := hid hl.c6
  have A8 := hid hl.c7
  have HU := hid hu
  have kw := fun wx => lwithin_ G (C + 1) 2147483647 wx
  obtain ⟨q3, Hq3⟩ : ∃ q, Hid (wtn G (C + 1) 2147483647 = q) := ⟨_, rfl⟩
  rw [Hq3.out] at kw hq
  have kv := fun wx => svalid_ t u wx (i64_of rt) (i64_of ru)
  obtain ⟨q4, Hq4⟩ : ∃ q, Hid (vld t u = q) := ⟨_, rfl⟩
  rw [Hq4.out] at kv hq
  have ks := fun wx => sless_ s n t u wx (i64_of rs) (i64_of rn) (i64_of rt) (i64_of ru)
  obtain ⟨q5, Hq5⟩ : ∃ q, Hid (lss s n t u = q) := ⟨_, rfl⟩
  rw [Hq5.out] at ks hq
  have HQ := hid hq
  clear hl hb hx hG hq hs1 hs2 hu
  have HNA := hid na
  have HNB := hid nb
  have HNG := hid ng
  have HNX := hid nx
  have HNS := hid ns
  clear na nb ng nx ns
  have hw1 : IntKind.i64.wrap (C + 1) = C + 1 := by rw [IntKind.wrap_i64]; omega
  cases q2 with
  | false =>
    obtain rfl : false = q := HQ.out
    go_enter Tryz.func26, Tryz.ntmps26
    go_wp2_with fail
    refine wp_quietC (Bw w) (by kernel_rfl) (by kernel_rfl) (Bw.drew w) ?_
    repeat (first | go_big_quiet_skip | (go_big_quiet_want; go_big_quiet_op; first | go_big_quiet_on | (apply Exists.intro; refine ⟨fun wq hq => ?_, ?_⟩; (· first | (with_reducible rfl) | (go_at_call 27; exact (kb _).mono fun _ _ h => ⟨h.1, by rw [h.2]; exact hq⟩) | (go_at_call 28; exact (kw _).mono fun _ _ h => ⟨h.1, by rw [h.2]; exact hq⟩) | (have q1 := hq.cell A0.out; have q2 := hq.cell A1.out; have q3 := hq.cell A2.out; have q4 := hq.cell A3.out; have q5 := hq.cell A4.out; go_simp; rfl) | rfl); go_big_quiet_on)))
    refine wpQuiet_nil ?_
    intro w3 s3
    have HF := hid (Fx.of (fun k => k = g ∨ k = pa) s3)
    have HU3 : Hid (Un w3 pa 0) := HU.out.at (Below.block s3 _ HU.out.lt)
    clear s3
    go_wp2_with fail
    go_ret
    exact ⟨rfl, (fun h => by cases h), HF.out, HU3.out⟩
  | true =>
  cases q3 with
  | false =>
    obtain rfl : false = q := HQ.out
    go_enter Tryz.func26, Tryz.ntmps26
    go_wp2_with fail
    refine wp_quietC (Bw w) (by kernel_rfl) (by kernel_rfl) (Bw.drew w) ?_
    repeat (first | go_big_quiet_skip | (go_big_quiet_want; go_big_quiet_op; first | go_big_quiet_on | (apply Exists.intro; refine ⟨fun wq hq => ?_, ?_⟩; (· first | (with_reducible rfl) | (go_at_call 27; exact (kb _).mono fun _ _ h => ⟨h.1, by rw [h.2]; exact hq⟩) | (go_at_call 28; exact (kw _).mono fun _ _ h => ⟨h.1, by rw [h.2]; exact hq⟩) | (have q1 := hq.cell A0.out; have q2 := hq.cell A1.out; have q3 := hq.cell A2.out; have q4 := hq.cell A3.out; have q5 := hq.cell A4.out; go_simp; rfl) | rfl); go_big_quiet_on)))
    refine wpQuiet_nil ?_
    intro w3 s3
    have HF := hid (Fx.of (fun k => k = g ∨ k = pa) s3)
    have HU3 : Hid (Un w3 pa 0) := HU.out.at (Below.block s3 _ HU.out.lt)
    clear s3
    go_wp2_with fail
    go_ret
    exact ⟨rfl, (fun h => by cases h), HF.out, HU3.out⟩
  | true =>
  by_cases h3 : x ≤ 18446744073709551614
  case neg =>
    obtain rfl : false = q := by rw [← HQ.out, decide_eq_false h3]; rfl
    have h3' : 18446744073709551614 < x := by omega
    have b2 : decide (18446744073709551614 < x) = true := decide_eq_true h3'
    go_enter Tryz.func26, Tryz.ntmps26
    go_wp2_with fail
    refine wp_quietC (Bw w) (by kernel_rfl) (by kernel_rfl) (Bw.drew w) ?_
    repeat (first | go_big_quiet_skip | (go_big_quiet_want; go_big_quiet_op; first | go_big_quiet_on | (apply Exists.intro; refine ⟨fun wq hq => ?_, ?_⟩; (· first | (with_reducible rfl) | (go_at_call 27; exact (kb _).mono fun _ _ h => ⟨h.1, by rw [h.2]; exact hq⟩) | (go_at_call 28; exact (kw _).mono fun _ _ h => ⟨h.1, by rw [h.2]; exact hq⟩) | (have q1 := hq.cell A0.out; have q2 := hq.cell A1.out; have q3 := hq.cell A2.out; have q4 := hq.cell A3.out; have q5 := hq.cell A4.out; go_simp; rfl) | rfl); go_big_quiet_on)))
    refine wpQuiet_nil ?_
    intro w3 s3
    have HF := hid (Fx.of (fun k => k = g ∨ k = pa) s3)
    have HU3 : Hid (Un w3 pa 0) := HU.out.at (Below.block s3 _ HU.out.lt)
    clear s3
    go_wp2_with fail
    go_ret
    exact ⟨rfl, (fun h => by cases h), HF.out, HU3.out⟩
  have h3' : ¬ 18446744073709551614 < x := by omega
  have b2 : decide (18446744073709551614 < x) = false := decide_eq_false h3'
  rw [decide_eq_true h3] at HQ
  cases q4 with
  | false =>
    obtain rfl : false = q := HQ.out
    go_enter Tryz.func26, Tryz.ntmps26
    go_wp2_with fail
    refine wp_quietC (Bw w) (by kernel_rfl) (by kernel_rfl) (Bw.drew w) ?_
    repeat (first | go_big_quiet_skip | (go_big_quiet_want; go_big_quiet_op; first | go_big_quiet_on | (apply Exists.intro; refine ⟨fun wq hq => ?_, ?_⟩; (· first | (with_reducible rfl) | (go_at_call 27; exact (kb _).mono fun _ _ h => ⟨h.1, by rw [h.2]; exact hq⟩) | (go_at_call 28; exact (kw _).mono fun _ _ h => ⟨h.1, by rw [h.2]; exact hq⟩) | (have q1 := hq.cell A0.out; have q2 := hq.cell A1.out; have q3 := hq.cell A2.out; have q4 := hq.cell A3.out; have q5 := hq.cell A4.out; go_simp; rfl) | rfl); go_big_quiet_on)))
    refine wpQuiet_nil ?_
    intro w3 s3
    have HF := hid (Fx.of (fun k => k = g ∨ k = pa) s3)
    have HU3 : Hid (Un w3 pa 0) := HU.out.at (Below.block s3 _ HU.out.lt)
    have e1 := Bw.cell s3 A1.out
    have e2 := Bw.cell s3 A2.out
    have e3 := Bw.cell s3 A3.out
    have e4 := Bw.cell s3 A4.out
    have e5 := Bw.cell s3 A5.out
    have e6 := Bw.cell s3 A6.out
    have B1 := hid e1
    have B2 := hid e2
    have B3 := hid e3
    have B4 := hid e4
    have B5 := hid e5
    have B6 := hid e6
    have B7 := hid (Bw.cell s3 A7.out)
    have B8 := hid (Bw.cell s3 A8.out)
    have HL3 := hid (HL.out.kept s3)
    clear s3 HL HU e1 e2 e3 e4 e5 e6 A0 A1 A2 A3 A4 A5 A6 A7 A8
    go_wp2_with fail
    refine wp_quietC (Bw w3) (by kernel_rfl) (by kernel_rfl) (Bw.drew w3) ?_
    repeat (first | go_big_quiet_skip | (go_big_quiet_want; go_big_quiet_op; first | go_big_quiet_on | (apply Exists.intro; refine ⟨fun wq hq => ?_, ?_⟩; (· first | (with_reducible rfl) | (go_at_call 29; exact (kv _).mono fun _ _ h => ⟨h.1, hq.on h.2⟩) | (go_at_call 30; exact (ks _).mono fun _ _ h => ⟨h.1, hq.on h.2⟩) | (have q1 := hq.cell B5.out; have q2 := hq.cell B6.out; have q3 := hq.cell B7.out; have q4 := hq.cell B8.out; go_simp; rfl) | rfl); go_big_quiet_on)))
    refine wpQuiet_nil ?_
    intro w5 s5
    have HF5 := hid (HF.out.on s5)
    have HU5 : Hid (Un w5 pa 0) := HU3.out.at (Below.block s5 _ HU3.out.lt)
    clear s5
    go_wp2_with fail
    go_ret
    exact ⟨rfl, (fun h => by cases h), HF5.out, HU5.out⟩
  | true =>
  cases q5 with
  | false =>
    obtain rfl : false = q := HQ.out
    go_enter Tryz.func26, Tryz.ntmps26
    go_wp2_with fail
    refine wp_quietC (Bw w) (by kernel_rfl) (by kernel_rfl) (Bw.drew w) ?_
    repeat (first | go_big_quiet_skip | (go_big_quiet_want; go_big_quiet_op; first | go_big_quiet_on | (apply Exists.intro; refine ⟨fun wq hq => ?_, ?_⟩; (· first | (with_reducible rfl) | (go_at_call 27; exact (kb _).mono fun _ _ h => ⟨h.1, by rw [h.2]; exact hq⟩) | (go_at_call 28; exact (kw _).mono fun _ _ h => ⟨h.1, by rw [h.2]; exact hq⟩) | (have q1 := hq.cell A0.out; have q2 := hq.cell A1.out; have q3 := hq.cell A2.out; have q4 := hq.cell A3.out; have q5 := hq.cell A4.out; go_simp; rfl) | rfl); go_big_quiet_on)))
    refine wpQuiet_nil ?_
    intro w3 s3
    have HF := hid (Fx.of (fun k => k = g ∨ k = pa) s3)
    have HU3 : Hid (Un w3 pa 0) := HU.out.at (Below.block s3 _ HU.out.lt)
    have e1 := Bw.cell s3 A1.out
    have e2 := Bw.cell s3 A2.out
    have e3 := Bw.cell s3 A3.out
    have e4 := Bw.cell s3 A4.out
    have e5 := Bw.cell s3 A5.out
    have e6 := Bw.cell s3 A6.out
    have B1 := hid e1
    have B2 := hid e2
    have B3 := hid e3
    have B4 := hid e4
    have B5 := hid e5
    have B6 := hid e6
    have B7 := hid (Bw.cell s3 A7.out)
    have B8 := hid (Bw.cell s3 A8.out)
    have HL3 := hid (HL.out.kept s3)
    clear s3 HL HU e1 e2 e3 e4 e5 e6 A0 A1 A2 A3 A4 A5 A6 A7 A8
    go_wp2_with fail
    refine wp_quietC (Bw w3) (by kernel_rfl) (by kernel_rfl) (Bw.drew w3) ?_
    repeat (first | go_big_quiet_skip | (go_big_quiet_want; go_big_quiet_op; first | go_big_quiet_on | (apply Exists.intro; refine ⟨fun wq hq => ?_, ?_⟩; (· first | (with_reducible rfl) | (go_at_call 29; exact (kv _).mono fun _ _ h => ⟨h.1, hq.on h.2⟩) | (go_at_call 30; exact (ks _).mono fun _ _ h => ⟨h.1, hq.on h.2⟩) | (have q1 := hq.cell B5.out; have q2 := hq.cell B6.out; have q3 := hq.cell B7.out; have q4 := hq.cell B8.out; go_simp; rfl) | rfl); go_big_quiet_on)))
    refine wpQuiet_nil ?_
    intro w5 s5
    have HF5 := hid (HF.out.on s5)
    have HU5 : Hid (Un w5 pa 0) := HU3.out.at (Below.block s5 _ HU3.out.lt)
    clear s5
    go_wp2_with fail
    go_ret
    exact ⟨rfl, (fun h => by cases h), HF5.out, HU5.out⟩
  | true =>
  obtain rfl : true = q := HQ.out
  go_enter Tryz.func26, Tryz.ntmps26
  go_wp2_with fail
  refine wp_quietC (Bw w) (by kernel_rfl) (by kernel_rfl) (Bw.drew w) ?_
  repeat (first | go_big_quiet_skip | (go_big_quiet_want; go_big_quiet_op; first | go_big_quiet_on | (apply Exists.intro; refine ⟨fun wq hq => ?_, ?_⟩; (· first | (with_reducible rfl) | (go_at_call 27; exact (kb _).mono fun _ _ h => ⟨h.1, by rw [h.2]; exact hq⟩) | (go_at_call 28; exact (kw _).mono fun _ _ h => ⟨h.1, by rw [h.2]; exact hq⟩) | (have q1 := hq.cell A0.out; have q2 := hq.cell A1.out; have q3 := hq.cell A2.out; have q4 := hq.cell A3.out; have q5 := hq.cell A4.out; go_simp; rfl) | rfl); go_big_quiet_on)))
  refine wpQuiet_nil ?_
  intro w3 s3
  have HF := hid (Fx.of (fun k => k = g ∨ k = pa) s3)
  have HU3 : Hid (Un w3 pa 0) := HU.out.at (Below.block s3 _ HU.out.lt)
  have e1 := Bw.cell s3 A1.out
  have e2 := Bw.cell s3 A2.out
  have e3 := Bw.cell s3 A3.out
  have e4 := Bw.cell s3 A4.out
  have e5 := Bw.cell s3 A5.out
  have e6 := Bw.cell s3 A6.out
  have B1 := hid e1
  have B2 := hid e2
  have B3 := hid e3
  have B4 := hid e4
  have B5 := hid e5
  have B6 := hid e6
  have B7 := hid (Bw.cell s3 A7.out)
  have B8 := hid (Bw.cell s3 A8.out)
  have HL3 := hid (HL.out.kept s3)
  clear s3 HL HU e1 e2 e3 e4 e5 e6 A0 A1 A2 A3 A4 A5 A6 A7 A8
  go_wp2_with fail
  refine wp_quietC (Bw w3) (by kernel_rfl) (by kernel_rfl) (Bw.drew w3) ?_
  repeat (first | go_big_quiet_skip | (go_big_quiet_want; go_big_quiet_op; first | go_big_quiet_on | (apply Exists.intro; refine ⟨fun wq hq => ?_, ?_⟩; (· first | (with_reducible rfl) | (go_at_call 29; exact (kv _).mono fun _ _ h => ⟨h.1, hq.on h.2⟩) | (go_at_call 30; exact (ks _).mono fun _ _ h => ⟨h.1, hq.on h.2⟩) | (have q1 := hq.cell B5.out; have q2 := hq.cell B6.out; have q3 := hq.cell B7.out; have q4 := hq.cell B8.out; go_simp; rfl) | rfl); go_big_quiet_on)))
  refine wpQuiet_nil ?_
  intro w5 s5
  have HF5 := hid (HF.out.on s5)
  have HU5 : Hid (Un w5 pa 0) := HU3.out.at (Below.block s5 _ HU3.out.lt)
  have e1 := Bw.cell s5 B1.out
  have e2 := Bw.cell s5 B2.out
  have e3 := Bw.cell s5 B3.out
  have e4 := Bw.cell s5 B4.out
  have D1 := hid e1
  have D2 := hid e2
  have D3 := hid e3
  have D4 := hid e4
  have D5 := hid (Bw.cell s5 B5.out)
  have D6 := hid (Bw.cell s5 B6.out)
  have HL5 := hid (HL3.out.kept s5)
  clear s5 HL3 HU3 HF e1 e2 e3 e4 B1 B2 B3 B4 B5 B6 B7 B8 kv ks kw kb
  go_wp2_with fail
  refine wp_quietC (Bw w5) (by kernel_rfl) (by kernel_rfl) (Bw.drew w5) ?_
  repeat (first | go_big_quiet_skip | (go_big_quiet_want; go_big_quiet_op; first | go_big_quiet_on | (apply Exists.intro; refine ⟨fun wq hq => ?_, ?_⟩; (· first | (with_reducible rfl) | (have q1 := hq.cell D3.out; have q2 := hq.cell D4.out; go_simp; rfl) | rfl); go_big_quiet_on)))
  refine wpQuiet_nil ?_
  intro w6 s6
  have HF6 := hid (HF5.out.on s6)
  have HU6 : Hid (Un w6 pa 0) := HU5.out.at (Below.block s6 _ HU5.out.lt)
  have E1 := hid (Bw.cell s6 D1.out)
  have E2 := hid (Bw.cell s6 D2.out)
  have E4 := hid (Bw.cell s6 D4.out)
  have E5 := hid (Bw.cell s6 D5.out)
  have E6 := hid (Bw.cell s6 D6.out)
  have HL6 := hid (HL5.out.kept s6)
  clear s6 HF5 HU5 HL5 D1 D2 D3 D4 D5 D6
  by_cases hgn : G ≤ N
  · have HAN : (if G ≤ N then (1 : Int) else 0) = 1 := if_pos hgn
    have ran : u64r (1 : Int) := by unfold u64r; omega
    clear HQ
    have HU7 := hid (HU6.out.set 1)
    have HF7 := hid (HF6.out.set (g := pa) (i := 0) (.inr rfl) (.int .u64 1))
    have fa := HU6.out.fz
    have ca := HU6.out.c
    have HL7 := hid (HL6.out.at (w' := (w6.setCell ⟨pa, 0, none⟩ (.int .u64 1))) (Below.heap_setCell _ _ _ _ HNA.out))
    have s7 : ∀ (p : Addr) (v : Value), p.block ≠ pa → w6.cell? p = some v → ((w6.setCell ⟨pa, 0, none⟩ (.int .u64 1))).cell? p = some v := fun p v hp hc => (World.cell?_of_block (Below.heap_setCell w6 ⟨pa, 0, none⟩ (.int .u64 1) _ hp)).trans hc
    have e1 := s7 _ _ HNB.out.1 E1.out
    have e2 := s7 _ _ HNX.out.1 E2.out
    have e4 := s7 _ _ HNG.out.1 E4.out
    have e5 := s7 _ _ HNS.out.1 E5.out
    have e6 := s7 _ _ HNS.out.1 E6.out
    have ea := HU7.out.c
    have kg := lbegin_ g a m c S C N D E s n G 1 x b (w6.setCell ⟨pa, 0, none⟩ (.int .u64 1)) HL7.out ran rx rb
    clear s7
    go_wp2_with fail
    refine kg.mono ?_
    rintro e w8 ⟨rfl, l8, f8⟩
    have g1 := f8.cell e5 HNS.out.2
    have g2 := f8.cell e6 HNS.out.2
    have HU8 : Hid (Un w8 pa 1) := HU7.out.at (f8.block _ HU7.out.lt (Ne.symm HNA.out))
    have HF8 := hid (HF7.out.trans (f8.weak (Y := fun k => k = g ∨ k = pa) fun _ _ h => .inl h))
    have z6 := l8.fz 6
    have z7 := (l8.s67 t u).fz 7
    have d6 := l8.c6
    have HANH := hid HAN
    clear HAN
    have d7 := l8.c7
    have y7 := l8.fz 7
    have HL8 := hid l8
    clear kg e1 e2 e4 e5 e6 ea l8 f8
    go_wp2_with fail
    go_ret
    refine ⟨rfl, (fun _ => ?_), ?_, ?_⟩
    · have h9 := HL8.out.s67 t u
      rw [HANH.out]
      exact h9
    · exact (HF8.out.set (g := g) (i := 6) (.inl rfl) (.int .i64 t)).set (g := g) (i := 7) (.inl rfl) (.int .i64 u)
    · rw [if_pos rfl, HANH.out]
      exact HU8.out.at ((Below.heap_setCell _ _ _ _ (Ne.symm HNA.out)).trans (Below.heap_setCell _ _ _ _ (Ne.symm HNA.out)))
  · have HAN : (if G ≤ N then (1 : Int) else 0) = 0 := if_neg hgn
    have ran : u64r (0 : Int) := by unfold u64r; omega
    clear HQ
    have HU7 := HU6
    have HF7 := HF6
    have HL7 := HL6
    have s7 : ∀ (p : Addr) (v : Value), p.block ≠ pa → w6.cell? p = some v → (w6).cell? p = some v := fun _ _ _ h => h
    have e1 := s7 _ _ HNB.out.1 E1.out
    have e2 := s7 _ _ HNX.out.1 E2.out
    have e4 := s7 _ _ HNG.out.1 E4.out
    have e5 := s7 _ _ HNS.out.1 E5.out
    have e6 := s7 _ _ HNS.out.1 E6.out
    have ea := HU7.out.c
    have kg := lbegin_ g a m c S C N D E s n G 0 x b w6 HL7.out ran rx rb
    clear s7
    go_wp2_with fail
    refine kg.mono ?_
    rintro e w8 ⟨rfl, l8, f8⟩
    have g1 := f8.cell e5 HNS.out.2
    have g2 := f8.cell e6 HNS.out.2
    have HU8 : Hid (Un w8 pa 0) := HU7.out.at (f8.block _ HU7.out.lt (Ne.symm HNA.out))
    have HF8 := hid (HF7.out.trans (f8.weak (Y := fun k => k = g ∨ k = pa) fun _ _ h => .inl h))
    have z6 := l8.fz 6
    have z7 := (l8.s67 t u).fz 7
    have d6 := l8.c6
    have HANH := hid HAN
    clear HAN
    have d7 := l8.c7
    have y7 := l8.fz 7
    have HL8 := hid l8
    clear kg e1 e2 e4 e5 e6 ea l8 f8
    go_wp2_with fail
    go_ret
    refine ⟨rfl, (fun _ => ?_), ?_, ?_⟩
    · have h9 := HL8.out.s67 t u
      rw [HANH.out]
      exact h9
    · exact (HF8.out.set (g := g) (i := 6) (.inl rfl) (.int .i64 t)).set (g := g) (i := 7) (.inl rfl) (.int .i64 u)
    · rw [if_pos rfl, HANH.out]
      exact HU8.out.at ((Below.heap_setCell _ _ _ _ (Ne.symm HNA.out)).trans (Below.heap_setCell _ _ _ _ (Ne.symm HNA.out)))
end Go.Proofs.YtbkeejapongmlaaGreatDoor
