import Derived.Test.YtbkeejapongmlaaGreatDoorLX1
import Derived.Deep.Quiet
namespace Go.Proofs.YtbkeejapongmlaaGreatDoor
set_option maxRecDepth 100000
open Go.RowKit
set_option linter.unusedVariables false

/-- But for the blocks X the world has only grown. -/
structure Fx (X : Nat → Prop) (w w' : World) : Prop where
  os : w'.os = w.os
  tape : w'.tape = w.tape
  output : w'.output = w.output
  size : w.heap.size ≤ w'.heap.size
  block : ∀ k, k < w.heap.size → ¬ X k → w'.heap[k]? = w.heap[k]?
theorem Fx.of {w w' : World} (X : Nat → Prop) (h : Below w.heap.size w w') : Fx X w w' := ⟨h.os, h.tape, h.output, h.size, fun k hk _ => h.block k hk⟩
theorem Fx.set {X : Nat → Prop} {w w' : World} (h : Fx X w w') {g i : Nat} (hg : X g) (v : Value) : Fx X w (w'.setCell ⟨g, i, none⟩ v) := ⟨h.os, h.tape, h.output, by simp [World.setCell]; exact h.size, fun k hk hX => (Below.heap_setCell _ _ _ _ (by intro e; exact hX (by rw [e]; exact hg))).trans (h.block k hk hX)⟩
theorem Fx.on {X : Nat → Prop} {w w' w2 : World} (h : Fx X w w') (hb : Below w'.heap.size w' w2) : Fx X w w2 := ⟨hb.os.trans h.os, hb.tape.trans h.tape, hb.output.trans h.output, Nat.le_trans h.size hb.size, fun k hk hX => (hb.block k (Nat.lt_of_lt_of_le hk h.size)).trans (h.block k hk hX)⟩
theorem Fx.pre {X : Nat → Prop} {w w' w2 : World} (hb : Below w.heap.size w w') (h : Fx X w' w2) : Fx X w w2 := ⟨h.os.trans hb.os, h.tape.trans hb.tape, h.output.trans hb.output, Nat.le_trans hb.size h.size, fun k hk hX => (h.block k (Nat.lt_of_lt_of_le hk hb.size) hX).trans (hb.block k hk)⟩
theorem Fx.trans {X : Nat → Prop} {w w' w2 : World} (k : Fx X w w') (h : Fx X w' w2) : Fx X w w2 := ⟨h.os.trans k.os, h.tape.trans k.tape, h.output.trans k.output, Nat.le_trans k.size h.size, fun i hi hX => (h.block i (Nat.lt_of_lt_of_le hi k.size) hX).trans (k.block i hi hX)⟩
theorem Fx.weak {X Y : Nat → Prop} {w w' : World} (h : Fx X w w') (hY : ∀ k, k < w.heap.size → X k → Y k) : Fx Y w w' := ⟨h.os, h.tape, h.output, h.size, fun k hk hX => h.block k hk fun e => hX (hY k hk e)⟩
theorem Fx.bel {X : Nat → Prop} {w w' : World} (h : Fx X w w') (hX : ∀ k, k < w.heap.size → ¬ X k) : Below w.heap.size w w' := ⟨h.os, h.tape, h.output, h.size, fun k hk => h.block k hk (hX k hk)⟩
def erq (q : Bool) : Int := if q then 0 else 2
def frE (C N : Int) : Int := if (if C < N then N + 1 else C + 1) ≤ 2147483647 then 0 else 168
def frG (C N : Int) : Int := if (if C < N then N + 1 else C + 1) ≤ 2147483647 then (if C < N then N + 1 else C + 1) else 0
set_option maxHeartbeats 1000000 in
theorem lfresh_ (g : Nat) (a : Option Addr) (m c : Nat) (S C N D E s n : Int) (w : World) (hl : Lm w g a m c S C N D E s n) (h1 : 1 ≤ C) (h2 : C ≤ 2147483647) (h3 : 0 ≤ N) (h4 : N ≤ 2147483647) :
    Calls Tryz.prog 24 #[.pointer (some ⟨g, 0, none⟩)] w fun e w' => e = .returned (.tuple #[.int .i64 (frG C N), .int .i64 (frE C N)]) ∧ Below w.heap.size w w' := by
  have A2 := hid hl.c2
  have A3 := hid hl.c3
  obtain ⟨M, HM⟩ : ∃ M, Hid ((if C < N then N + 1 else C + 1) = M) := ⟨_, rfl⟩
  have hM : 2 ≤ M ∧ M ≤ 2147483648 := by rw [← HM.out]; split <;> omega
  have HX : Hid ((if C < N then N else C) + 1 = M) := by show _ = _; rw [← HM.out]; split <;> rfl
  unfold frG frE
  rw [HM.out]
  clear HM
  obtain ⟨x, Hx⟩ : ∃ x, Hid ((if M ≤ 2147483647 then M else 0) = x) := ⟨_, rfl⟩
  obtain ⟨y, Hy⟩ : ∃ y, Hid ((if M ≤ 2147483647 then (0 : Int) else 168) = y) := ⟨_, rfl⟩
  rw [Hx.out, Hy.out]
  go_enter Tryz.func24, Tryz.ntmps24
  go_wp2_with fail
  refine wp_quietC (Bw w) (by kernel_rfl) (by kernel_rfl) (Bw.drew w) ?_
  repeat (first | go_big_quiet_skip | (go_big_quiet_want; go_big_quiet_op; first | go_big_quiet_on | (apply Exists.intro; refine ⟨fun wq hq => ?_, ?_⟩; (· first | (with_reducible rfl) | (have q1 := hq.cell A2.out; have q2 := hq.cell A3.out; go_simp; rfl) | rfl); go_big_quiet_on)))
  refine wpQuiet_nil ?_
  intro w3 s3
  have HB := hid s3
  clear s3
  rw [HX.out]
  by_cases hl : M ≤ 2147483647
  · have ex : M = x := by rw [← Hx.out, if_pos hl]
    have ey : 0 = y := by rw [← Hy.out, if_pos hl]
    subst ex ey
    go_wp2_with fail
    all_goals (go_ret2; exact ⟨by first | rfl | go_num, HB.out⟩)
  · have ex : 0 = x := by rw [← Hx.out, if_neg hl]
    have ey : 168 = y := by rw [← Hy.out, if_neg hl]
    subst ex ey
    go_wp2_with fail
    all_goals (go_ret2; exact ⟨by first | rfl | go_num, HB.out⟩)
end Go.Proofs.YtbkeejapongmlaaGreatDoor
