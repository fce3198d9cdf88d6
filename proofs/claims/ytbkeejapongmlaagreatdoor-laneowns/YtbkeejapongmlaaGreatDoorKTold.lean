import Derived.Test.YtbkeejapongmlaaGreatDoorBookBytes
namespace Go.Proofs.YtbkeejapongmlaaGreatDoor.Kp
set_option maxRecDepth 100000
open Go.RowKit
set_option linter.unusedVariables false

set_option maxHeartbeats 1000000 in
theorem bookBytes5_ (k base m : Nat) (E G : Nat → Ent) (v2 v3 : Value) (e : Ent) (zs : List Int) (w : World) (h : Bo w k base m m E G v2 v3) (ho : e.Ok w) (hn : e.n ≤ 5000) (hb : Bs w e.a e.n zs) (hd : ∀ i, i < m → ∀ b x, (E i).In b x → ¬ e.In b x) (hm : m ≤ 999) (hbase : base ≤ w.heap.size) (hk : base ≤ k) :
    Calls Tryz.prog 9 #[.pointer (some ⟨k, 0, none⟩), e.val] w fun en w' => en = .returned (.tuple #[]) ∧ (∃ f v2' v3', Bo w' k base (m + 1) (m + 1) (upd E m e) (upd G m f) v2' v3' ∧ ∀ b x, f.In b x → w.heap.size ≤ b) ∧ Wz (fun _ _ => False) w w' ∧ ∀ b, b < base → w'.heap[b]? = w.heap[b]? := by
  obtain ⟨i22, hi, hz0, hz1, hz2⟩ := info_parts info22
  obtain ⟨ea, en, ec⟩ := e
  show Calls _ _ #[_, .slice ea en ec] _ _
  obtain ⟨a2, c2, rfl, _⟩ := tab_at h.t2
  obtain ⟨a3, c3, rfl, _⟩ := tab_at h.t3
  have d2 := h.bk.c2
  have HA : Hid (Bo (w.alloc (.cells #[.slice ea en ec] 22)) k base m m E G (.slice a2 m c2) (.slice a3 m c3)) := h.below (Nat.le_refl _) (Below.refl _ _ |>.alloc (Nat.le_refl _) _)
  have ZA : Hid (Wz (fun _ _ => False) w (w.alloc (.cells #[.slice ea en ec] 22))) := .ofWk (.ofBelow (Below.refl _ _ |>.alloc (Nat.le_refl _) _))
  have HO : Hid (Ent.Ok w ⟨ea, en, ec⟩) := ho
  have HBs := hid hb
  have hn' : en ≤ 5000 := hn
  clear h ho hb hn
  go_enter Tryz.func9, Tryz.ntmps9
  go_wp2_with (at_builtin; refine wpList_append_lies _ rfl _ _ 32 rfl base 22 i22 (.slice none 0 0) 1 24 Tryz.underlying32 hi hz0 hz1 hz2 rfl (by decide) (.slice a2 m c2) m (vals m E) rfl HA.out.t2 ⟨w.heap.size, 0, none⟩ 1 1 [.slice ea en ec] rfl rfl (fun j u hj => by
          match j, hj with
          | 0, hj => simp at hj; subst hj; simp [Addr.add]) (by intro u hu; simp at hu; subst hu; rfl) (by omega) (by unfold maxLen; omega) (by omega) (by simp; omega) _ rfl ?_)
  intro g cap w1 hown hgrow hat hltg
  have y := (bo_grown (m := m) HA.out.bk HA.out.t2 hgrow).1
  have y2 := y.c2
  have f2 := y.fz 2
  have HP := hid (bo_push2 (e := ⟨ea, en, ec⟩) HA.out hown hgrow hat (by simp) (HO.out.wz ZA.out) hn' hd)
  have HW := hid (ZA.out.trans HP.out.2)
  have L1 : Hid (∀ b, b < base → (w1.setCell ⟨k, 2, none⟩ (.slice (some ⟨g, 0, none⟩) (m + 1) cap)).heap[b]? = w.heap[b]?) := fun b hb =>
    ((low_set hk b hb _ _).trans (low_grown HA.out.t2 hgrow (by simp; omega) b hb)).trans (Below.heap_alloc w _ b (by omega))
  clear y hown hgrow hat hltg d2
  go_wp2_with fail
  generalize hwv : w1.setCell ⟨k, 2, none⟩ (.slice (some ⟨g, 0, none⟩) (m + 1) cap) = wv at *
  clear hwv y2 f2
  have HQ := hid HP.out.1
  clear HP
  have B0 : Hid (Bs wv ea en zs) := bs_wz (e := ⟨ea, en, ec⟩) HBs.out HO.out HW.out fun _ _ _ h => h
  have B1 : Hid (Bs wv.drew ea en zs) := B0.out
  have p3 := HQ.out.bk.c3
  go_region_law (first
    | (go_simp; go_at_call 21; refine (refBytes ea en ec zs _ B1.out (by omega)).mono ?_; rintro en' w2 ⟨v, rfl, hv, hbl⟩; replace hbl := bel_of_drew hbl; obtain ⟨fa, fc, rfl, hfok, hfb, hfr⟩ := own_ent hv B1.out.2.1 (by omega)
       have ZB : Wz (fun _ _ => False) wv w2 := .ofWk (.ofBelow hbl)
       have HQ2 := hid (Bo.below HQ.out (Nat.le_succ m) hbl)
       have q3 := HQ2.out.bk.c3
       have HD : Hid (Bo (w2.alloc (.cells #[.slice fa en fc] 22)) k base (m + 1) m (upd E m ⟨ea, en, ec⟩) G (.slice (some ⟨g, 0, none⟩) (m + 1) cap) (.slice a3 m c3)) := HQ2.out.below (Nat.le_succ m) (Below.refl _ _ |>.alloc (Nat.le_refl _) _)
       have q3a := HD.out.bk.c3
       have ZD : Hid (Wz (fun _ _ => False) w2 (w2.alloc (.cells #[.slice fa en fc] 22))) := .ofWk (.ofBelow (Below.refl _ _ |>.alloc (Nat.le_refl _) _))
       have HF : Hid (Ent.Ok w2 ⟨fa, en, fc⟩ ∧ SameE w2 ⟨ea, en, ec⟩ ⟨fa, en, fc⟩) := ⟨hfok, zs, bs_wz (e := ⟨ea, en, ec⟩) B0.out (HO.out.wz HW.out) ZB (fun _ _ _ h => h), hfb, by show en ≤ 100000; omega, by show en ≤ 100000; omega⟩
       have hbs2 : base ≤ w2.heap.size := Nat.le_trans hbase (Nat.le_trans HW.out.size ZB.size)
       have HZ := hid (HW.out.trans ZB)
       have L2 : Hid (∀ b, b < base → (w2.alloc (.cells #[.slice fa en fc] 22)).heap[b]? = w.heap[b]?) := fun b hb => ((Below.heap_alloc w2 _ b (by omega)).trans (hbl.block b (Nat.lt_of_lt_of_le hb (Nat.le_trans hbase HW.out.size)))).trans (L1.out b hb)
       have HFR : Hid (∀ b x, Ent.In ⟨fa, en, fc⟩ b x → w.heap.size ≤ b) := fun b x hx => Nat.le_trans HW.out.size (hfr b x hx)
       clear hfok hfb hfr hv hbl ZB)
    | (refine step_append_lies _ rfl (.tmp 18) (.tmp 21) 32 rfl base 22 i22 (.slice none 0 0) 1 24 Tryz.underlying32 hi hz0 hz1 hz2 rfl (by decide) (.slice a3 m c3) m (vals m G) rfl HD.out.t3 ⟨w2.heap.size, 0, none⟩ 1 1 [.slice fa en fc] rfl rfl (fun j u hj => by
          match j, hj with
          | 0, hj => simp at hj; subst hj; simp [Addr.add]) (by intro u hu; simp at hu; subst hu; rfl) (by omega) (by unfold maxLen; omega) (by omega) (by simp; omega) _ rfl ?_; intro g3 cap3 w3 hown hgrow hat hltg; have y := (bo_grown (m := m) HD.out.bk HD.out.t3 hgrow).1; have y3 := y.c3; have f3 := y.fz 3; clear y))
  all_goals
    have HR := hid (bo_push3 (f := ⟨fa, en, fc⟩) HD.out hown hgrow hat (by simp) (HF.out.1.wz ZD.out) (by rw [upd_same]; exact HF.out.2.wz (HO.out.wz HZ.out) HF.out.1 ZD.out))
    have L3 : Hid (∀ b, b < base → (w3.setCell ⟨k, 3, none⟩ (.slice (some ⟨g3, 0, none⟩) (m + 1) cap3)).heap[b]? = w.heap[b]?) := fun b hb =>
      ((low_set hk b hb _ _).trans (low_grown HD.out.t3 hgrow (by simp; omega) b hb)).trans (L2.out b hb)
    clear hown hgrow hat hltg y3 f3
    go_wp2_with fail
    go_end0
    exact ⟨rfl, ⟨_, _, _, HR.out.1, HFR.out⟩, HZ.out.trans (ZD.out.trans HR.out.2), L3.out⟩
set_option maxHeartbeats 1000000 in
theorem finish5_ (k base m : Nat) (E G : Nat → Ent) (v2 v3 : Value) (w : World) (h : Bk w k 0 v2 v3 (.slice none 0 0)) (ht : w.ownsRow base 22 1 v2 m (vals m E)) (hu : w.ownsRow base 22 1 v3 m (vals m G)) (hs : ∀ i, i < m → SameE w (E i) (G i)) (hok : ∀ i, i < m → (E i).Ok w ∧ (E i).n ≤ 5000) (hdj : Dj m E) (hm : m ≤ 1000) (hlow : base ≤ k ∧ base ≤ w.heap.size ∧ ∀ l, l < m → ∀ b x, (E l).In b x → base ≤ b) :
    Calls Tryz.prog 14 #[.pointer (some ⟨k, 0, none⟩)] w fun en w' => en = .returned (.bool true) ∧ Wz (Ins m E) w w' ∧ (∀ b, b < base → w'.heap[b]? = w.heap[b]?) ∧ ∃ w4 F v4', w.heap.size ≤ w4.heap.size ∧ St w4 w' k base m m 1 (fun _ => 70) E F v2 v3 v4' := by
  have sz : ∀ i, i < m → (E i).n ≤ 1000000 := fun i hi => by have := (hok i hi).2; omega
  go_enter Tryz.func14, Tryz.ntmps14
  go_wp2_with fail
  refine (untouched_ k base m 0 E G v2 v3 _ w h ht hu hs hm).mono ?_
  rintro en w1 ⟨rfl, hd⟩
  have z1 : Wz (Ins m E) w w1 := .ofDrawn hd
  have h1 : Bk w1 k 0 v2 v3 (.slice none 0 0) := h.at (by rw [hd.heap])
  have b1 : ∀ b, b < base → w1.heap[b]? = w.heap[b]? := fun b _ => by rw [hd.heap]
  have t1 : w1.ownsRow base 22 1 v2 m (vals m E) := own_at ht fun q _ => by rw [hd.heap]
  have ok1 : ∀ i, i < m → (E i).Ok w1 := fun i hi => (hok i hi).1.wz z1
  clear h ht hu hs hd
  go_wp2_with fail
  refine (write_ k base m 0 E v2 v3 _ w1 h1 t1 ok1 hdj hm).mono ?_
  rintro en w2 ⟨rfl, hW, hS⟩
  have h2 := bk_wk h1 hW (els_blk ok1)
  have t2 := tab_wk t1 hW (els_blk ok1)
  have b2 : ∀ b, b < base → w2.heap[b]? = w.heap[b]? := fun b hb => (hW.same b (by have := hlow.2.1; have := z1.size; omega) (els_low hlow.2.2 ok1 b hb)).trans (b1 b hb)
  have z2 : Wz (Ins m E) w w2 := z1.trans (.ofWk (hW.weak (els_ins ok1)))
  clear h1 t1 ok1 hW z1
  go_wp2_with fail
  refine (holds_ k base m 0 0 E E v2 v3 _ w2 h2 t2 (own_nil w2 base E) (.inl rfl) (fun i hi => ⟨sz i hi, hS i hi⟩) (fun i hi => by omega) hm).mono ?_
  rintro en w' ⟨rfl, hw⟩
  obtain rfl := hw.symm
  clear hw hS
  have c1 := h2.c1
  have f1 := h2.fz 1
  have h3 := h2.set1 1
  have t3 := own_set h2 t2 1 (.int .i64 1)
  have b3 : ∀ b, b < base → (w2.setCell ⟨k, 1, none⟩ (.int .i64 1)).heap[b]? = w.heap[b]? := fun b hb => (Below.heap_setCell w2 _ _ b (fun e => by have e' : b = k := e; have := hlow.1; omega)).trans (b2 b hb)
  have z3 : Wz (Ins m E) w (w2.setCell ⟨k, 1, none⟩ (.int .i64 1)) := z2.trans (Wz.bkset h2 1 _)
  clear h2 t2 z2
  go_wp2_with fail
  generalize w2.setCell ⟨k, 1, none⟩ (.int .i64 1) = w3 at *
  clear c1 f1
  have ok3 : ∀ i, i < m → (E i).Ok w3 := fun i hi => (hok i hi).1.wz z3
  refine (write_ k base m 1 E v2 v3 _ w3 h3 t3 ok3 hdj hm).mono ?_
  rintro en w4 ⟨rfl, hW, hS⟩
  have h4 := bk_wk h3 hW (els_blk ok3)
  have t4 := tab_wk t3 hW (els_blk ok3)
  have b4 : ∀ b, b < base → w4.heap[b]? = w.heap[b]? := fun b hb => (hW.same b (by have := hlow.2.1; have := z3.size; omega) (els_low hlow.2.2 ok3 b hb)).trans (b3 b hb)
  have z4 : Wz (Ins m E) w w4 := z3.trans (.ofWk (hW.weak (els_ins ok3)))
  have ok4 : ∀ i, i < m → (E i).Ok w4 := fun i hi => (hok i hi).1.wz z4
  clear h3 t3 ok3 hW z3
  go_wp2_with fail
  refine (holds_ k base m 0 1 E E v2 v3 _ w4 h4 t4 (own_nil w4 base E) (.inl rfl) (fun i hi => ⟨sz i hi, hS i hi⟩) (fun i hi => by omega) hm).mono ?_
  rintro en w' ⟨rfl, hw⟩
  obtain rfl := hw.symm
  clear hw
  have st : St w4 w4 k base m 0 1 (fun _ => 1) E E v2 v3 (.slice none 0 0) :=
    ⟨h4, t4, own_nil w4 base E, fun q _ hq => by simp [Value.ownBlock] at hq, fun i hi => ⟨ok4 i hi, hS i hi⟩, fun i hi => by omega, fun i j hi => by omega, .refl _ _, ⟨hlow.1, Nat.le_trans hlow.2.1 z4.size, hlow.2.2⟩, fun _ _ => rfl⟩
  clear h4 t4 hS
  go_wp2_with fail
  refine (grow_ k base m 1 E E v2 v3 _ w4 st (fun i hi => ⟨ok4 i hi, (hok i hi).2⟩) hdj hm (Nat.le_trans hlow.2.1 z4.size)).mono ?_
  rintro en w5 ⟨rfl, F, v4', s5⟩
  clear st
  go_wp2_with fail
  refine (holds_ k base m m 1 E F v2 v3 v4' w5 s5.bk s5.t2 s5.t4 (.inr rfl) (fun i hi => ⟨sz i hi, (s5.e i hi).2⟩) (fun i hi => ⟨by have := (s5.f i hi).2.2.1; have := (hok i hi).2; omega, (s5.f i hi).2.1⟩) hm).mono ?_
  rintro en w' ⟨rfl, hw⟩
  obtain rfl := hw.symm
  clear hw
  go_wp2_with fail
  go_ret
  exact ⟨rfl, z4.trans s5.z, fun b hb => (s5.bl b hb).trans (b4 b hb), w4, F, v4', z4.size, s5⟩
end Go.Proofs.YtbkeejapongmlaaGreatDoor.Kp
