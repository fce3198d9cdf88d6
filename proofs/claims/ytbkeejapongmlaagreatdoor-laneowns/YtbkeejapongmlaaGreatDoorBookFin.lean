import Derived.Test.YtbkeejapongmlaaGreatDoorBookWas
namespace Go.Proofs.YtbkeejapongmlaaGreatDoor.Kp
set_option maxRecDepth 100000
open Go.RowKit
set_option linter.unusedVariables false

theorem own_nil (w : World) (base : Nat) (F : Nat → Ent) : w.ownsRow base 22 1 (.slice none 0 0) 0 (vals 0 F) := ⟨by simp [vals], .inl ⟨rfl, rfl⟩⟩
theorem Wz.ofDrawn {p : Nat → Nat → Prop} {w w' : World} (h : Drawn w w') : Wz p w w' := .ofWk (.ofDrawn h)
theorem Wz.bkset {p : Nat → Nat → Prop} {w : World} {k : Nat} {ps : Int} {v2 v3 v4 : Value} (h : Bk w k ps v2 v3 v4) (i : Nat) (v : Value) : Wz p w (w.setCell ⟨k, i, none⟩ v) :=
  .ofGrown ((Only.refl k w).set i v).grown fun b hb _ => by
    obtain rfl := Option.some.inj hb
    exact .inr ⟨_, _, h⟩
theorem own_set {w : World} {base k m : Nat} {ps : Int} {v2 v3 v4 v : Value} {xs : List Value} (hk : Bk w k ps v2 v3 v4) (h : w.ownsRow base 22 1 v m xs) (i : Nat) (z : Value) : (w.setCell ⟨k, i, none⟩ z).ownsRow base 22 1 v m xs :=
  own_at h fun q hq => Below.heap_setCell w _ _ q fun e => by
    obtain ⟨cur, hc⟩ := own_blk h hq
    have e' : q = k := e
    unfold Bk at hk
    rw [e', hk] at hc
    simp at hc
theorem els_ins {w : World} {m : Nat} {E : Nat → Ent} (hok : ∀ i, i < m → (E i).Ok w) (b i : Nat) (h : Els m E b i) : Ins m E b i := by
  obtain ⟨q, hq, he⟩ := h
  exact ⟨q, hq, he.mem (hok q hq).1⟩
theorem els_blk {w : World} {m : Nat} {E : Nat → Ent} (hok : ∀ i, i < m → (E i).Ok w) (b i : Nat) (h : Els m E b i) : ∃ cur, w.heap[b]? = some (.cells cur 5 (0, 0)) := by
  obtain ⟨q, hq, he⟩ := h
  exact he.blk (hok q hq)

theorem els_low {w : World} {base m : Nat} {E : Nat → Ent} (h : ∀ l, l < m → ∀ b x, (E l).In b x → base ≤ b) (hok : ∀ i, i < m → (E i).Ok w) (b : Nat) (hb : b < base) (i : Nat) : ¬ Els m E b i := fun he => by
  obtain ⟨q, hq, hi⟩ := els_ins hok b i he
  have := h q hq b i hi; omega

set_option maxHeartbeats 1000000 in
theorem finish_ (k base m : Nat) (E G : Nat → Ent) (v2 v3 : Value) (w : World) (h : Bk w k 0 v2 v3 (.slice none 0 0)) (ht : w.ownsRow base 22 1 v2 m (vals m E)) (hu : w.ownsRow base 22 1 v3 m (vals m G)) (hs : ∀ i, i < m → SameE w (E i) (G i)) (hok : ∀ i, i < m → (E i).Ok w ∧ (E i).n ≤ 5000) (hdj : Dj m E) (hm : m ≤ 1000) (hlow : base ≤ k ∧ base ≤ w.heap.size ∧ ∀ l, l < m → ∀ b x, (E l).In b x → base ≤ b) :
    Calls Tryz.prog 14 #[.pointer (some ⟨k, 0, none⟩)] w fun en w' => en = .returned (.bool true) ∧ Wz (Ins m E) w w' ∧ ∀ b, b < base → w'.heap[b]? = w.heap[b]? := by
  have sz : ∀ i, i < m → (E i).n ≤ 1000000 := fun i hi => by have := (hok i hi).2; omega
  go_enter Tryz.func14, Tryz.ntmps14
  go_wp2_with fail
  refine (untouched_ k base m 0 E G v2 v3 _ w h ht hu hs hm).mono ?_
  rintro en w1 ⟨rfl, hd⟩
  have z1 : Wz (Ins m E) w w1 := .ofDrawn hd
  have h1 : Bk w1 k 0 v2 v3 (.slice none 0 0) := h.at (by rw [hd.heap])
  have b1 : ∀ b, b < base → w1.heap[b]? = w.heap[b]? := fun b _ => by rw [hd.heap]
  have t1 : w1.ownsRow base 22 1 v2 m (vals m E) := own_at ht fun q _ => by rw [hd.heap]
  have ok1 : ∀ i, i < m → (E i).Ok w1 := fun i hi => (hok i hi).1.wz z1
  clear h ht hu hs hd
  go_wp2_with fail
  refine (write_ k base m 0 E v2 v3 _ w1 h1 t1 ok1 hdj hm).mono ?_
  rintro en w2 ⟨rfl, hW, hS⟩
  have h2 := bk_wk h1 hW (els_blk ok1)
  have t2 := tab_wk t1 hW (els_blk ok1)
  have b2 : ∀ b, b < base → w2.heap[b]? = w.heap[b]? := fun b hb => (hW.same b (by have := hlow.2.1; have := z1.size; omega) (els_low hlow.2.2 ok1 b hb)).trans (b1 b hb)
  have z2 : Wz (Ins m E) w w2 := z1.trans (.ofWk (hW.weak (els_ins ok1)))
  clear h1 t1 ok1 hW z1
  go_wp2_with fail
  refine (holds_ k base m 0 0 E E v2 v3 _ w2 h2 t2 (own_nil w2 base E) (.inl rfl) (fun i hi => ⟨sz i hi, hS i hi⟩) (fun i hi => by omega) hm).mono ?_
  rintro en w' ⟨rfl, hw⟩
  obtain rfl := hw.symm
  clear hw hS
  have c1 := h2.c1
  have f1 := h2.fz 1
  have h3 := h2.set1 1
  have t3 := own_set h2 t2 1 (.int .i64 1)
  have b3 : ∀ b, b < base → (w2.setCell ⟨k, 1, none⟩ (.int .i64 1)).heap[b]? = w.heap[b]? := fun b hb => (Below.heap_setCell w2 _ _ b (fun e => by have e' : b = k := e; have := hlow.1; omega)).trans (b2 b hb)
  have z3 : Wz (Ins m E) w (w2.setCell ⟨k, 1, none⟩ (.int .i64 1)) := z2.trans (Wz.bkset h2 1 _)
  clear h2 t2 z2
  go_wp2_with fail
  generalize w2.setCell ⟨k, 1, none⟩ (.int .i64 1) = w3 at *
  clear c1 f1
  have ok3 : ∀ i, i < m → (E i).Ok w3 := fun i hi => (hok i hi).1.wz z3
  refine (write_ k base m 1 E v2 v3 _ w3 h3 t3 ok3 hdj hm).mono ?_
  rintro en w4 ⟨rfl, hW, hS⟩
  have h4 := bk_wk h3 hW (els_blk ok3)
  have t4 := tab_wk t3 hW (els_blk ok3)
  have b4 : ∀ b, b < base → w4.heap[b]? = w.heap[b]? := fun b hb => (hW.same b (by have := hlow.2.1; have := z3.size; omega) (els_low hlow.2.2 ok3 b hb)).trans (b3 b hb)
  have z4 : Wz (Ins m E) w w4 := z3.trans (.ofWk (hW.weak (els_ins ok3)))
  have ok4 : ∀ i, i < m → (E i).Ok w4 := fun i hi => (hok i hi).1.wz z4
  clear h3 t3 ok3 hW z3
  go_wp2_with fail
  refine (holds_ k base m 0 1 E E v2 v3 _ w4 h4 t4 (own_nil w4 base E) (.inl rfl) (fun i hi => ⟨sz i hi, hS i hi⟩) (fun i hi => by omega) hm).mono ?_
  rintro en w' ⟨rfl, hw⟩
  obtain rfl := hw.symm
  clear hw
  have st : St w4 w4 k base m 0 1 (fun _ => 1) E E v2 v3 (.slice none 0 0) :=
    ⟨h4, t4, own_nil w4 base E, fun q _ hq => by simp [Value.ownBlock] at hq, fun i hi => ⟨ok4 i hi, hS i hi⟩, fun i hi => by omega, fun i j hi => by omega, .refl _ _, ⟨hlow.1, Nat.le_trans hlow.2.1 z4.size, hlow.2.2⟩, fun _ _ => rfl⟩
  clear h4 t4 hS
  go_wp2_with fail
  refine (grow_ k base m 1 E E v2 v3 _ w4 st (fun i hi => ⟨ok4 i hi, (hok i hi).2⟩) hdj hm (Nat.le_trans hlow.2.1 z4.size)).mono ?_
  rintro en w5 ⟨rfl, F, v4', s5⟩
  clear st
  go_wp2_with fail
  refine (holds_ k base m m 1 E F v2 v3 v4' w5 s5.bk s5.t2 s5.t4 (.inr rfl) (fun i hi => ⟨sz i hi, (s5.e i hi).2⟩) (fun i hi => ⟨by have := (s5.f i hi).2.2.1; have := (hok i hi).2; omega, (s5.f i hi).2.1⟩) hm).mono ?_
  rintro en w' ⟨rfl, hw⟩
  obtain rfl := hw.symm
  clear hw
  go_wp2_with fail
  go_ret
  exact ⟨rfl, z4.trans s5.z, fun b hb => (s5.bl b hb).trans (b4 b hb)⟩
end Go.Proofs.YtbkeejapongmlaaGreatDoor.Kp
