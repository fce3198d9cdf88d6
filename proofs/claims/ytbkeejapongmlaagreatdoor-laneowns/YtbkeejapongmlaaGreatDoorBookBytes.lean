import Derived.Test.YtbkeejapongmlaaGreatDoorBookFin
namespace Go.Proofs.YtbkeejapongmlaaGreatDoor.Kp
set_option maxRecDepth 100000
open Go.RowKit
set_option linter.unusedVariables false

theorem bs_wz {p : Nat → Nat → Prop} {w w' : World} {e : Ent} {zs : List Int} (h : Bs w e.a e.n zs) (ho : e.Ok w) (hw : Wz p w w') (hp : ∀ b i, e.El b i → ¬ p b i) : Bs w' e.a e.n zs := by
  obtain ⟨h1, h2, h3⟩ := h
  exact ⟨h1, h2, Ent.Sh.wz (f := fun j => zs.getD j 0) h3 ho hw hp⟩
theorem SameE.wz {w w' : World} {e f : Ent} (h : SameE w e f) (he : e.Ok w) (hf : f.Ok w) (hw : Wz (fun _ _ => False) w w') : SameE w' e f := by
  obtain ⟨zs, h1, h2, h3⟩ := h
  exact ⟨zs, bs_wz h1 he hw fun _ _ _ h => h, bs_wz h2 hf hw fun _ _ _ h => h, h3⟩
theorem bel_of_drew {w w' : World} (h : Below w.drew.heap.size w.drew w') : Below w.heap.size w w' := ⟨h.os, h.tape, h.output, h.size, h.block⟩
/-- A row of one's own, as a list. -/
theorem own_ent {w : World} {base n : Nat} {v : Value} {zs : List Int} (h : w.ownsRow base 5 1 v n (cells zs)) (hb : ∀ z ∈ zs, 0 ≤ z ∧ z ≤ 255) (hn : n ≤ 100000) :
    ∃ a c, v = .slice a n c ∧ Ent.Ok w ⟨a, n, c⟩ ∧ Bs w a n zs ∧ ∀ b x, Ent.In ⟨a, n, c⟩ b x → base ≤ b := by
  obtain ⟨a, cap, rfl, hB, h1, h2, h3⟩ := own_form h hb
  refine ⟨a, cap, rfl, ⟨h1, h2, hn, h3, ?_⟩, hB, ?_⟩
  · obtain ⟨_, q⟩ := h
    rcases q with ⟨e1, e2⟩ | ⟨g, cap', cur, e1, hb', hg, k1, k2, k3, k4⟩
    · simp at e1; exact .inl e1.2.2
    · simp at e1
      obtain ⟨rfl, rfl⟩ := e1
      exact .inr ⟨g, 0, cur, rfl, hg, by rw [k3]; simp⟩
  · rintro b x ⟨off, e1, _, _⟩
    obtain ⟨_, q⟩ := h
    rcases q with ⟨e2, _⟩ | ⟨g, cap', cur, e2, hb', _⟩
    · simp at e2; simp [e2.1] at e1
    · simp at e2
      obtain ⟨rfl, _⟩ := e2
      simp at e1
      omega

/-- A book that was told of m lists, and has taken a copy of mg. -/
structure Bo (w : World) (k base m mg : Nat) (E G : Nat → Ent) (v2 v3 : Value) : Prop where
  bk : Bk w k 0 v2 v3 (.slice none 0 0)
  t2 : w.ownsRow base 22 1 v2 m (vals m E)
  t3 : w.ownsRow base 22 1 v3 mg (vals mg G)
  sep : ∀ q, v2.ownBlock = some q → v3.ownBlock ≠ some q
  e : ∀ i, i < m → (E i).Ok w ∧ (E i).n ≤ 5000
  g : ∀ i, i < mg → (G i).Ok w ∧ SameE w (E i) (G i)
  d : Dj m E
theorem Bo.below {w w' : World} {k base m mg : Nat} {E G : Nat → Ent} {v2 v3 : Value} (h : Bo w k base m mg E G v2 v3) (hmg : mg ≤ m) (hb : Below w.heap.size w w') : Bo w' k base m mg E G v2 v3 := by
  have z : Wz (fun _ _ => False) w w' := .ofWk (.ofBelow hb)
  have kq : ∀ {v : Value} {n : Nat} {xs : List Value}, w.ownsRow base 22 1 v n xs → ∀ q, v.ownBlock = some q → w'.heap[q]? = w.heap[q]? := fun ho q hq => by
    obtain ⟨cur, hc⟩ := own_blk ho hq
    exact hb.block q (Array.getElem?_eq_some_iff.1 hc).1
  exact ⟨h.bk.at (hb.block k h.bk.lt), own_at h.t2 (kq h.t2), own_at h.t3 (kq h.t3), h.sep, fun i hi => ⟨(h.e i hi).1.wz z, (h.e i hi).2⟩, fun i hi => ⟨(h.g i hi).1.wz z, (h.g i hi).2.wz (h.e i (by omega)).1 (h.g i hi).1 z⟩, h.d⟩
/-- Another world, where nothing but a table and the book have turned. -/
theorem bo_grown {w w2 : World} {k base m : Nat} {v0 v2 v3 v4 : Value} {ps : Int} {n : Nat} {xs : List Value} (hbk : Bk w k ps v2 v3 v4) (h : w.ownsRow base 22 1 v0 n xs) (hg : w.grownBy w2 v0.ownBlock) :
    Bk w2 k ps v2 v3 v4 ∧ Wz (fun _ _ => False) w w2 := by
  have nk : some k ≠ v0.ownBlock := fun e => by
    obtain ⟨cur, hc⟩ := own_blk h e.symm
    have hb := hbk
    unfold Bk at hb; rw [hb] at hc; simp at hc
  exact ⟨hbk.at (hg.block k hbk.lt nk), .ofGrown hg fun b hb _ => by obtain ⟨cur, hc⟩ := own_blk h hb; exact .inl ⟨cur, _, hc⟩⟩
theorem bo_push2 {w w2 : World} {k base m g cap H : Nat} {E G : Nat → Ent} {v2 v3 : Value} {e : Ent} (h : Bo w k base m m E G v2 v3)
    (hown : w2.ownsRow base 22 1 (.slice (some ⟨g, 0, none⟩) (m + 1) cap) (m + 1) (vals m E ++ [e.val])) (hg : w.grownBy w2 v2.ownBlock) (hat : v2.ownBlock = some g ∨ g = H) (hH : w.heap.size = H)
    (ho : e.Ok w) (hn : e.n ≤ 5000) (hd : ∀ i, i < m → ∀ b x, (E i).In b x → ¬ e.In b x) :
    Bo (w2.setCell ⟨k, 2, none⟩ (.slice (some ⟨g, 0, none⟩) (m + 1) cap)) k base (m + 1) m (upd E m e) G (.slice (some ⟨g, 0, none⟩) (m + 1) cap) v3 ∧ Wz (fun _ _ => False) w (w2.setCell ⟨k, 2, none⟩ (.slice (some ⟨g, 0, none⟩) (m + 1) cap)) := by
  obtain ⟨b2, z1⟩ := bo_grown (m := m) h.bk h.t2 hg
  have z12 : Wz (fun _ _ => False) w (w2.setCell ⟨k, 2, none⟩ (.slice (some ⟨g, 0, none⟩) (m + 1) cap)) := z1.trans (Wz.bkset b2 2 _)
  have t3' : w2.ownsRow base 22 1 v3 m (vals m G) := own_at h.t3 fun q hq => by
    obtain ⟨cur, hc⟩ := own_blk h.t3 hq
    exact hg.block q (Array.getElem?_eq_some_iff.1 hc).1 fun e => h.sep q e.symm hq
  rw [vals_push] at hown
  refine ⟨⟨b2.set2 _, own_set b2 hown 2 _, own_set b2 t3' 2 _, ?_, fun l hl => ?_, fun l hl => ?_, ?_⟩, z12⟩
  · intro q hq e
    simp [Value.ownBlock] at hq
    subst hq
    rcases hat with hat | hat
    · exact h.sep _ hat e
    · obtain ⟨cur, hc⟩ := own_blk h.t3 e
      have := (Array.getElem?_eq_some_iff.1 hc).1
      omega
  · by_cases el : l = m
    · subst el; rw [upd_same]; exact ⟨ho.wz z12, hn⟩
    · rw [upd_other e el]; exact ⟨(h.e l (by omega)).1.wz z12, (h.e l (by omega)).2⟩
  · rw [upd_other e (by omega)]
    exact ⟨(h.g l hl).1.wz z12, (h.g l hl).2.wz (h.e l hl).1 (h.g l hl).1 z12⟩
  · intro x y hx hy hxy b c hbx hby
    by_cases ex : x = m
    · subst ex
      rw [upd_same] at hbx
      rw [upd_other e (fun q => hxy q.symm)] at hby
      exact hd y (by omega) b c hby hbx
    · rw [upd_other e ex] at hbx
      by_cases ey : y = m
      · subst ey; rw [upd_same] at hby; exact hd x (by omega) b c hbx hby
      · rw [upd_other e ey] at hby; exact h.d x y (by omega) (by omega) hxy b c hbx hby
theorem bo_push3 {w w2 : World} {k base m g cap H : Nat} {E G : Nat → Ent} {v2 v3 : Value} {f : Ent} (h : Bo w k base (m + 1) m E G v2 v3)
    (hown : w2.ownsRow base 22 1 (.slice (some ⟨g, 0, none⟩) (m + 1) cap) (m + 1) (vals m G ++ [f.val])) (hg : w.grownBy w2 v3.ownBlock) (hat : v3.ownBlock = some g ∨ g = H) (hH : w.heap.size = H)
    (ho : f.Ok w) (hs : SameE w (E m) f) :
    Bo (w2.setCell ⟨k, 3, none⟩ (.slice (some ⟨g, 0, none⟩) (m + 1) cap)) k base (m + 1) (m + 1) E (upd G m f) v2 (.slice (some ⟨g, 0, none⟩) (m + 1) cap) ∧ Wz (fun _ _ => False) w (w2.setCell ⟨k, 3, none⟩ (.slice (some ⟨g, 0, none⟩) (m + 1) cap)) := by
  obtain ⟨b2, z1⟩ := bo_grown (m := m) h.bk h.t3 hg
  have z12 : Wz (fun _ _ => False) w (w2.setCell ⟨k, 3, none⟩ (.slice (some ⟨g, 0, none⟩) (m + 1) cap)) := z1.trans (Wz.bkset b2 3 _)
  have t2' : w2.ownsRow base 22 1 v2 (m + 1) (vals (m + 1) E) := own_at h.t2 fun q hq => by
    obtain ⟨cur, hc⟩ := own_blk h.t2 hq
    exact hg.block q (Array.getElem?_eq_some_iff.1 hc).1 fun e => h.sep q hq e.symm
  rw [vals_push] at hown
  refine ⟨⟨b2.set3 _, own_set b2 t2' 3 _, own_set b2 hown 3 _, ?_, fun l hl => ⟨(h.e l hl).1.wz z12, (h.e l hl).2⟩, fun l hl => ?_, h.d⟩, z12⟩
  · intro q hq e
    simp [Value.ownBlock] at e
    subst e
    rcases hat with hat | hat
    · exact h.sep _ hq hat
    · obtain ⟨cur, hc⟩ := own_blk h.t2 hq
      have := (Array.getElem?_eq_some_iff.1 hc).1
      omega
  · by_cases el : l = m
    · subst el; rw [upd_same]; exact ⟨ho.wz z12, hs.wz (h.e l hl).1 ho z12⟩
    · rw [upd_other f el]
      have hl' : l < m := by omega
      exact ⟨(h.g l hl').1.wz z12, (h.g l hl').2.wz (h.e l hl).1 (h.g l hl').1 z12⟩

theorem low_set {w : World} {base k : Nat} (hk : base ≤ k) (b : Nat) (hb : b < base) (i : Nat) (v : Value) : (w.setCell ⟨k, i, none⟩ v).heap[b]? = w.heap[b]? :=
  Below.heap_setCell w _ _ b fun e => by have e' : b = k := e; omega
theorem low_grown {w w2 : World} {base n : Nat} {v : Value} {xs : List Value} (h : w.ownsRow base 22 1 v n xs) (hg : w.grownBy w2 v.ownBlock) (hs : base ≤ w.heap.size) (b : Nat) (hb : b < base) : w2.heap[b]? = w.heap[b]? :=
  hg.block b (by omega) fun e => by have := own_base h e.symm; omega

set_option maxHeartbeats 1000000 in
theorem bookBytes_ (k base m : Nat) (E G : Nat → Ent) (v2 v3 : Value) (e : Ent) (zs : List Int) (w : World) (h : Bo w k base m m E G v2 v3) (ho : e.Ok w) (hn : e.n ≤ 5000) (hb : Bs w e.a e.n zs) (hd : ∀ i, i < m → ∀ b x, (E i).In b x → ¬ e.In b x) (hm : m ≤ 999) (hbase : base ≤ w.heap.size) (hk : base ≤ k) :
    Calls Tryz.prog 9 #[.pointer (some ⟨k, 0, none⟩), e.val] w fun en w' => en = .returned (.tuple #[]) ∧ (∃ G' v2' v3', Bo w' k base (m + 1) (m + 1) (upd E m e) G' v2' v3') ∧ Wz (fun _ _ => False) w w' ∧ ∀ b, b < base → w'.heap[b]? = w.heap[b]? := by
  obtain ⟨i22, hi, hz0, hz1, hz2⟩ := info_parts info22
  obtain ⟨ea, en, ec⟩ := e
  show Calls _ _ #[_, .slice ea en ec] _ _
  obtain ⟨a2, c2, rfl, _⟩ := tab_at h.t2
  obtain ⟨a3, c3, rfl, _⟩ := tab_at h.t3
  have d2 := h.bk.c2
  have HA : Hid (Bo (w.alloc (.cells #[.slice ea en ec] 22)) k base m m E G (.slice a2 m c2) (.slice a3 m c3)) := h.below (Nat.le_refl _) (Below.refl _ _ |>.alloc (Nat.le_refl _) _)
  have ZA : Hid (Wz (fun _ _ => False) w (w.alloc (.cells #[.slice ea en ec] 22))) := .ofWk (.ofBelow (Below.refl _ _ |>.alloc (Nat.le_refl _) _))
  have HO : Hid (Ent.Ok w ⟨ea, en, ec⟩) := ho
  have HBs := hid hb
  have hn' : en ≤ 5000 := hn
  clear h ho hb hn
  go_enter Tryz.func9, Tryz.ntmps9
  go_wp2_with (at_builtin; refine wpList_append_lies _ rfl _ _ 32 rfl base 22 i22 (.slice none 0 0) 1 24 Tryz.underlying32 hi hz0 hz1 hz2 rfl (by decide) (.slice a2 m c2) m (vals m E) rfl HA.out.t2 ⟨w.heap.size, 0, none⟩ 1 1 [.slice ea en ec] rfl rfl (fun j u hj => by
          match j, hj with
          | 0, hj => simp at hj; subst hj; simp [Addr.add]) (by intro u hu; simp at hu; subst hu; rfl) (by omega) (by unfold maxLen; omega) (by omega) (by simp; omega) _ rfl ?_)
  intro g cap w1 hown hgrow hat hltg
  have y := (bo_grown (m := m) HA.out.bk HA.out.t2 hgrow).1
  have y2 := y.c2
  have f2 := y.fz 2
  have HP := hid (bo_push2 (e := ⟨ea, en, ec⟩) HA.out hown hgrow hat (by simp) (HO.out.wz ZA.out) hn' hd)
  have HW := hid (ZA.out.trans HP.out.2)
  have L1 : Hid (∀ b, b < base → (w1.setCell ⟨k, 2, none⟩ (.slice (some ⟨g, 0, none⟩) (m + 1) cap)).heap[b]? = w.heap[b]?) := fun b hb =>
    ((low_set hk b hb _ _).trans (low_grown HA.out.t2 hgrow (by simp; omega) b hb)).trans (Below.heap_alloc w _ b (by omega))
  clear y hown hgrow hat hltg d2
  go_wp2_with fail
  generalize hwv : w1.setCell ⟨k, 2, none⟩ (.slice (some ⟨g, 0, none⟩) (m + 1) cap) = wv at *
  clear hwv y2 f2
  have HQ := hid HP.out.1
  clear HP
  have B0 : Hid (Bs wv ea en zs) := bs_wz (e := ⟨ea, en, ec⟩) HBs.out HO.out HW.out fun _ _ _ h => h
  have B1 : Hid (Bs wv.drew ea en zs) := B0.out
  have p3 := HQ.out.bk.c3
  go_region_law (first
    | (go_simp; go_at_call 21; refine (refBytes ea en ec zs _ B1.out (by omega)).mono ?_; rintro en' w2 ⟨v, rfl, hv, hbl⟩; replace hbl := bel_of_drew hbl; obtain ⟨fa, fc, rfl, hfok, hfb, hfr⟩ := own_ent hv B1.out.2.1 (by omega)
       have ZB : Wz (fun _ _ => False) wv w2 := .ofWk (.ofBelow hbl)
       have HQ2 := hid (Bo.below HQ.out (Nat.le_succ m) hbl)
       have q3 := HQ2.out.bk.c3
       have HD : Hid (Bo (w2.alloc (.cells #[.slice fa en fc] 22)) k base (m + 1) m (upd E m ⟨ea, en, ec⟩) G (.slice (some ⟨g, 0, none⟩) (m + 1) cap) (.slice a3 m c3)) := HQ2.out.below (Nat.le_succ m) (Below.refl _ _ |>.alloc (Nat.le_refl _) _)
       have q3a := HD.out.bk.c3
       have ZD : Hid (Wz (fun _ _ => False) w2 (w2.alloc (.cells #[.slice fa en fc] 22))) := .ofWk (.ofBelow (Below.refl _ _ |>.alloc (Nat.le_refl _) _))
       have HF : Hid (Ent.Ok w2 ⟨fa, en, fc⟩ ∧ SameE w2 ⟨ea, en, ec⟩ ⟨fa, en, fc⟩) := ⟨hfok, zs, bs_wz (e := ⟨ea, en, ec⟩) B0.out (HO.out.wz HW.out) ZB (fun _ _ _ h => h), hfb, by show en ≤ 100000; omega, by show en ≤ 100000; omega⟩
       have hbs2 : base ≤ w2.heap.size := Nat.le_trans hbase (Nat.le_trans HW.out.size ZB.size)
       have HZ := hid (HW.out.trans ZB)
       have L2 : Hid (∀ b, b < base → (w2.alloc (.cells #[.slice fa en fc] 22)).heap[b]? = w.heap[b]?) := fun b hb => ((Below.heap_alloc w2 _ b (by omega)).trans (hbl.block b (Nat.lt_of_lt_of_le hb (Nat.le_trans hbase HW.out.size)))).trans (L1.out b hb)
       clear hfok hfb hfr hv hbl ZB)
    | (refine step_append_lies _ rfl (.tmp 18) (.tmp 21) 32 rfl base 22 i22 (.slice none 0 0) 1 24 Tryz.underlying32 hi hz0 hz1 hz2 rfl (by decide) (.slice a3 m c3) m (vals m G) rfl HD.out.t3 ⟨w2.heap.size, 0, none⟩ 1 1 [.slice fa en fc] rfl rfl (fun j u hj => by
          match j, hj with
          | 0, hj => simp at hj; subst hj; simp [Addr.add]) (by intro u hu; simp at hu; subst hu; rfl) (by omega) (by unfold maxLen; omega) (by omega) (by simp; omega) _ rfl ?_; intro g3 cap3 w3 hown hgrow hat hltg; have y := (bo_grown (m := m) HD.out.bk HD.out.t3 hgrow).1; have y3 := y.c3; have f3 := y.fz 3; clear y))
  all_goals
    have HR := hid (bo_push3 (f := ⟨fa, en, fc⟩) HD.out hown hgrow hat (by simp) (HF.out.1.wz ZD.out) (by rw [upd_same]; exact HF.out.2.wz (HO.out.wz HZ.out) HF.out.1 ZD.out))
    have L3 : Hid (∀ b, b < base → (w3.setCell ⟨k, 3, none⟩ (.slice (some ⟨g3, 0, none⟩) (m + 1) cap3)).heap[b]? = w.heap[b]?) := fun b hb =>
      ((low_set hk b hb _ _).trans (low_grown HD.out.t3 hgrow (by simp; omega) b hb)).trans (L2.out b hb)
    clear hown hgrow hat hltg y3 f3
    go_wp2_with fail
    go_end0
    exact ⟨rfl, ⟨_, _, _, HR.out.1⟩, HZ.out.trans (ZD.out.trans HR.out.2), L3.out⟩
end Go.Proofs.YtbkeejapongmlaaGreatDoor.Kp
