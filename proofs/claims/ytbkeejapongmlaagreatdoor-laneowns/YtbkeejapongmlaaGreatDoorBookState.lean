import Derived.Test.YtbkeejapongmlaaGreatDoorBookApp
namespace Go.Proofs.YtbkeejapongmlaaGreatDoor.Kp
set_option maxRecDepth 100000
open Go.RowKit
set_option linter.unusedVariables false

/-- Blocks of lists and the book's own block may turn; of the others the cells of p alone. -/
structure Wz (p : Nat → Nat → Prop) (w w' : World) : Prop where
  os : w'.os = w.os
  tape : w'.tape = w.tape
  output : w'.output = w.output
  size : w.heap.size ≤ w'.heap.size
  same : ∀ b, b < w.heap.size → (∀ i, ¬ p b i) → (∀ cur fr, w.heap[b]? ≠ some (.cells cur 22 fr)) → (∀ cur fr, w.heap[b]? ≠ some (.cells cur 50 fr)) → w'.heap[b]? = w.heap[b]?
  blk : ∀ b cur t fr, w.heap[b]? = some (.cells cur t fr) → t ≠ 22 → t ≠ 50 → ∃ cur', w'.heap[b]? = some (.cells cur' t fr) ∧ cur'.size = cur.size ∧ ∀ i, ¬ p b i → cur'[i]? = cur[i]?
theorem Wz.refl (p : Nat → Nat → Prop) (w : World) : Wz p w w := ⟨rfl, rfl, rfl, Nat.le_refl _, fun _ _ _ _ _ => rfl, fun b cur t fr h _ _ => ⟨cur, h, rfl, fun _ _ => rfl⟩⟩
theorem Wz.ofWk {p : Nat → Nat → Prop} {w w' : World} (h : Wk p w w') : Wz p w w' := ⟨h.os, h.tape, h.output, h.size, fun b hb hp _ _ => h.same b hb hp, fun b cur t fr hb _ _ => h.blk b cur t fr hb⟩
theorem Wz.trans {p : Nat → Nat → Prop} {a b c : World} (h : Wz p a b) (k : Wz p b c) : Wz p a c := by
  refine ⟨k.os.trans h.os, k.tape.trans h.tape, k.output.trans h.output, Nat.le_trans h.size k.size, fun x hx hp h1 h2 => ?_, fun x cur t fr hx t1 t2 => ?_⟩
  · have e := h.same x hx hp h1 h2
    exact (k.same x (Nat.lt_of_lt_of_le hx h.size) hp (by rw [e]; exact h1) (by rw [e]; exact h2)).trans e
  · obtain ⟨c1, q1, q2, q3⟩ := h.blk x cur t fr hx t1 t2
    obtain ⟨c2, k1, k2, k3⟩ := k.blk x c1 t fr q1 t1 t2
    exact ⟨c2, k1, k2.trans q2, fun i hi => (k3 i hi).trans (q3 i hi)⟩
theorem Wz.weak {p q : Nat → Nat → Prop} {w w' : World} (h : Wz p w w') (hq : ∀ b i, p b i → q b i) : Wz q w w' :=
  ⟨h.os, h.tape, h.output, h.size, fun b hb hn h1 h2 => h.same b hb (fun i hp => hn i (hq b i hp)) h1 h2, fun b cur t fr hb t1 t2 => by
    obtain ⟨c1, k1, k2, k3⟩ := h.blk b cur t fr hb t1 t2
    exact ⟨c1, k1, k2, fun i hi => k3 i fun hp => hi (hq b i hp)⟩⟩
/-- A store, or an append, within a block of lists or the book's. -/
theorem Wz.ofGrown {p : Nat → Nat → Prop} {w w' : World} {row : Option Nat} (h : w.grownBy w' row) (hr : ∀ b, row = some b → b < w.heap.size → (∃ cur fr, w.heap[b]? = some (.cells cur 22 fr)) ∨ ∃ cur fr, w.heap[b]? = some (.cells cur 50 fr)) : Wz p w w' := by
  refine ⟨h.os, h.tape, h.output, h.size, fun b hb hp h1 h2 => h.block b hb fun e => ?_, fun b cur t fr hb t1 t2 => ⟨cur, ?_, rfl, fun _ _ => rfl⟩⟩
  · rcases hr b e.symm hb with ⟨c, f, hc⟩ | ⟨c, f, hc⟩
    · exact h1 c f hc
    · exact h2 c f hc
  · have hl := (Array.getElem?_eq_some_iff.1 hb).1
    rw [h.block b hl fun e => ?_]; exact hb
    rcases hr b e.symm hl with ⟨c, f, hc⟩ | ⟨c, f, hc⟩
    · rw [hb] at hc; simp at hc; exact t1 hc.2.1
    · rw [hb] at hc; simp at hc; exact t2 hc.2.1
theorem Ent.Ok.wz {p : Nat → Nat → Prop} {w w' : World} {e : Ent} (h : e.Ok w) (hw : Wz p w w') : e.Ok w' := by
  obtain ⟨h1, h2, h3, h3', h4⟩ := h
  refine ⟨h1, h2, h3, h3', ?_⟩
  rcases h4 with h4 | ⟨b, off, cur, e1, e2, e3⟩
  · exact .inl h4
  · obtain ⟨c1, k1, k2, _⟩ := hw.blk b cur 5 (0, 0) e2 (by decide) (by decide)
    exact .inr ⟨b, off, c1, e1, k1, by omega⟩
theorem Ent.Sh.wz {p : Nat → Nat → Prop} {w w' : World} {e : Ent} {f : Nat → Int} (h : e.Sh w f) (ho : e.Ok w) (hw : Wz p w w') (hp : ∀ b i, e.El b i → ¬ p b i) : e.Sh w' f := by
  rcases h with h | ⟨b, off, h1, h2⟩
  · exact .inl h
  · by_cases h0 : e.n = 0
    · exact .inl h0
    refine .inr ⟨b, off, h1, fun j hj => ?_⟩
    obtain ⟨o1, _, _, _, o4⟩ := ho
    rcases o4 with o4 | ⟨b', off', cur, e1, e2, e3⟩
    · omega
    rw [h1] at e1
    simp at e1
    obtain ⟨rfl, rfl⟩ := e1
    obtain ⟨c1, k1, k2, k3⟩ := hw.blk b cur 5 (0, 0) e2 (by decide) (by decide)
    rw [cell_of_row w' b _ c1 5 (0, 0) k1, k3 _ (hp b (off + j) ⟨off, h1, by omega, by omega⟩), ← cell_of_row w b _ cur 5 (0, 0) e2]
    exact h2 j hj

/-- One list exchanged. -/
def upd (F : Nat → Ent) (i : Nat) (e : Ent) : Nat → Ent := fun j => if j = i then e else F j
theorem upd_same (F : Nat → Ent) (i : Nat) (e : Ent) : upd F i e i = e := if_pos rfl
theorem upd_other {F : Nat → Ent} {i j : Nat} (e : Ent) (h : j ≠ i) : upd F i e j = F j := if_neg h
theorem vals_push (F : Nat → Ent) (m : Nat) (e : Ent) : vals m F ++ [e.val] = vals (m + 1) (upd F m e) := by
  unfold vals
  rw [List.range_succ, List.map_append]
  congr 1
  · apply List.map_congr_left
    intro i hi
    rw [upd_other e (by have := List.mem_range.1 hi; omega)]
  · simp [upd_same]
theorem vals_set (F : Nat → Ent) (m i : Nat) (e : Ent) (h : i < m) : (vals m F).set i e.val = vals m (upd F i e) := by
  apply List.ext_getElem?
  intro j
  rw [List.getElem?_set]
  by_cases hj : j < m
  · rw [vals_get (E := upd F i e) hj, vals_length]
    by_cases e1 : i = j
    · subst e1; rw [if_pos rfl, if_pos h, upd_same]
    · rw [if_neg e1, vals_get hj, upd_other e (fun x => e1 x.symm)]
  · have : (vals m (upd F i e))[j]? = none := by rw [List.getElem?_eq_none]; rw [vals_length]; omega
    rw [this, if_neg (by omega)]
    rw [List.getElem?_eq_none]; rw [vals_length]; omega

/-- The room of all kept lists. -/
def Ins (m : Nat) (E : Nat → Ent) : Nat → Nat → Prop := fun b x => ∃ i, i < m ∧ (E i).In b x

theorem Wz.go {p q : Nat → Nat → Prop} {a b c : World} (h : Wz p a b) (k : Wz q b c) (hq : ∀ x i, x < a.heap.size → q x i → p x i) : Wz p a c := by
  refine ⟨k.os.trans h.os, k.tape.trans h.tape, k.output.trans h.output, Nat.le_trans h.size k.size, fun x hx hp h1 h2 => ?_, fun x cur t fr hx t1 t2 => ?_⟩
  · have e := h.same x hx hp h1 h2
    exact (k.same x (Nat.lt_of_lt_of_le hx h.size) (fun i hi => hp i (hq x i hx hi)) (by rw [e]; exact h1) (by rw [e]; exact h2)).trans e
  · have hl := (Array.getElem?_eq_some_iff.1 hx).1
    obtain ⟨c1, q1, q2, q3⟩ := h.blk x cur t fr hx t1 t2
    obtain ⟨c2, k1, k2, k3⟩ := k.blk x c1 t fr q1 t1 t2
    exact ⟨c2, k1, k2.trans q2, fun i hi => (k3 i (fun hh => hi (hq x i hl hh))).trans (q3 i hi)⟩
theorem own_at {w w' : World} {base m : Nat} {v : Value} {xs : List Value} {t : TypeId} (h : w.ownsRow base t 1 v m xs) (hk : ∀ q, v.ownBlock = some q → w'.heap[q]? = w.heap[q]?) : w'.ownsRow base t 1 v m xs := by
  obtain ⟨h1, h2⟩ := h
  refine ⟨h1, ?_⟩
  rcases h2 with h2 | ⟨g, cap, cur, rfl, hb, hg, r⟩
  · exact .inl h2
  · exact .inr ⟨g, cap, cur, rfl, hb, by rw [hk g rfl]; exact hg, r⟩
theorem own_blk {w : World} {base m : Nat} {v : Value} {xs : List Value} {t : TypeId} (h : w.ownsRow base t 1 v m xs) {q : Nat} (hq : v.ownBlock = some q) : ∃ cur, w.heap[q]? = some (.cells cur t (0, 0)) := by
  obtain ⟨h1, h2⟩ := h
  rcases h2 with ⟨rfl, _⟩ | ⟨g, cap, cur, rfl, hb, hg, r⟩
  · simp [Value.ownBlock] at hq
  · simp [Value.ownBlock] at hq; subst hq; exact ⟨cur, hg⟩

theorem own_base {w : World} {base m : Nat} {v : Value} {xs : List Value} {t : TypeId} (h : w.ownsRow base t 1 v m xs) {q : Nat} (hq : v.ownBlock = some q) : base ≤ q := by
  obtain ⟨h1, h2⟩ := h
  rcases h2 with ⟨rfl, _⟩ | ⟨g, cap, cur, rfl, hb, hg, r⟩
  · simp [Value.ownBlock] at hq
  · simp [Value.ownBlock] at hq; subst hq; exact hb

/-- The lists that are grown, in the middle of it. -/
structure St (w0 w : World) (k base m mg : Nat) (ps : Int) (T : Nat → Nat) (E F : Nat → Ent) (v2 v3 v4 : Value) : Prop where
  bk : Bk w k ps v2 v3 v4
  t2 : w.ownsRow base 22 1 v2 m (vals m E)
  t4 : w.ownsRow base 22 1 v4 mg (vals mg F)
  sep : ∀ q, v2.ownBlock = some q → v4.ownBlock ≠ some q
  e : ∀ i, i < m → (E i).Ok w ∧ (E i).Sh w fun j => mk ps (i + 1) j
  f : ∀ i, i < mg → (F i).Ok w ∧ ((F i).Sh w fun j => mk ps (i + 1) j) ∧ (F i).n = (E i).n + T i ∧ (((F i).a = (E i).a ∧ (F i).c = (E i).c) ∨ ∀ b x, (F i).In b x → w0.heap.size ≤ b)
  d2 : Dj mg F
  z : Wz (Ins m E) w0 w
  low : base ≤ k ∧ base ≤ w0.heap.size ∧ ∀ l, l < m → ∀ b x, (E l).In b x → base ≤ b
  bl : ∀ b, b < base → w.heap[b]? = w0.heap[b]?

theorem ok_in {w : World} {e : Ent} {b x : Nat} (h : e.Ok w) (hi : e.In b x) : ∃ cur, w.heap[b]? = some (.cells cur 5 (0, 0)) := by
  obtain ⟨off, h1, h2, h3⟩ := hi
  obtain ⟨_, _, _, _, o4⟩ := h
  rcases o4 with o4 | ⟨b', off', cur, e1, e2, e3⟩
  · omega
  · rw [h1] at e1; simp at e1; exact ⟨cur, by rw [e1.1]; exact e2⟩
theorem ok_lt {w : World} {e : Ent} {b x : Nat} (h : e.Ok w) (hi : e.In b x) : b < w.heap.size := by
  obtain ⟨cur, hc⟩ := ok_in h hi; exact (Array.getElem?_eq_some_iff.1 hc).1

/-- One list has grown by a byte, and the new list is laid in its place. -/
theorem st_grow {w0 w w1 : World} {k base m mg i g cap : Nat} {ps : Int} {T : Nat → Nat} {E F : Nat → Ent} {v2 v3 : Value} {e' : Ent}
    (h : St w0 w k base m mg ps T E F v2 v3 (.slice (some ⟨g, 0, none⟩) mg cap)) (hi : i < mg) (hmm : mg ≤ m) (hG : Grew w w1 (F i) e' (mk ps (i + 1) (F i).n)) (hbd : (F i).n ≤ 99999) (hdm : Dj m E) (hE0 : ∀ l, l < m → (E l).Ok w0) :
    St w0 (w1.setCell ⟨g, i, none⟩ e'.val) k base m mg ps (fun j => if j = i then T j + 1 else T j) E (upd F i e') v2 v3 (.slice (some ⟨g, 0, none⟩) mg cap) := by
  have hgc := own_blk h.t4 (q := g) rfl
  obtain ⟨curg, hgc⟩ := hgc
  have hFi := h.f i hi
  -- what the append has written
  obtain ⟨p, hp1, hp2, hwz⟩ : ∃ p : Nat → Nat → Prop, (∀ b x, p b x → (F i).In b x ∧ ¬ (F i).El b x) ∧ (∀ b, (∀ x, ¬ p b x) → b < w.heap.size → w1.heap[b]? = w.heap[b]?) ∧ Wz p w w1 := by
    rcases hG.how with ⟨_, _, b, off, ha, hlt, hwk⟩ | ⟨hbl, _⟩
    · refine ⟨fun b' x' => b' = b ∧ x' = off + (F i).n, ?_, fun b' hb hl => hwk.same b' hl hb, .ofWk hwk⟩
      rintro b' x' ⟨rfl, rfl⟩
      refine ⟨⟨off, ha, by omega, by omega⟩, ?_⟩
      rintro ⟨off', e1, _, e3⟩
      rw [ha] at e1
      simp at e1
    · exact ⟨fun _ _ => False, fun _ _ h => h.elim, fun b _ hl => hbl.block b hl, .ofWk (.ofBelow hbl)⟩
  have np : ∀ b cur t, w.heap[b]? = some (.cells cur t (0, 0)) → t ≠ 5 → ∀ x, ¬ p b x := fun b cur t hb ht x hx => by
    obtain ⟨c, hc⟩ := ok_in hFi.1 (hp1 b x hx).1
    rw [hb] at hc
    have hc2 : t = 5 := by simp at hc; first | exact hc.2 | exact hc.2.1
    exact ht hc2
  have hk1 : w1.heap[k]? = w.heap[k]? := hp2 k (np k _ _ h.bk (by decide)) h.bk.lt
  have hg1 : w1.heap[g]? = some (.cells curg 22 (0, 0)) := by rw [hp2 g (np g _ _ hgc (by decide)) (Array.getElem?_eq_some_iff.1 hgc).1]; exact hgc
  have hgk : k ≠ g := fun e => by
    have hb := h.bk
    unfold Bk at hb; rw [e, hgc] at hb; simp at hb
  have o2 : Only g w1 (w1.setCell ⟨g, i, none⟩ e'.val) := (Only.refl g w1).set i _
  have z2 : Wz p w1 (w1.setCell ⟨g, i, none⟩ e'.val) := .ofGrown o2.grown fun b hb _ => by
    obtain rfl := Option.some.inj hb
    exact .inl ⟨curg, (0, 0), hg1⟩
  have z12 : Wz p w (w1.setCell ⟨g, i, none⟩ e'.val) := hwz.trans z2
  have hsame : ∀ b x, (F i).a = (E i).a → (F i).c = (E i).c → ((F i).In b x ↔ (E i).In b x) := fun b x e1 e2 => by unfold Ent.In; rw [e1, e2]
  -- the written cells are no element of another list
  have nE : ∀ l, l < m → ∀ b x, (E l).El b x → ¬ p b x := fun l hl b x he hx => by
    obtain ⟨q1, q2⟩ := hp1 b x hx
    have hle := (hE0 l hl).1
    rcases hFi.2.2.2 with ⟨e1, e2⟩ | hfr
    · by_cases el : l = i
      · subst el
        apply q2
        obtain ⟨off, a1, a2, a3⟩ := he
        exact ⟨off, by rw [e1]; exact a1, a2, by have := hFi.2.2.1; omega⟩
      · exact hdm l i hl (by omega) el b x (he.mem hle) ((hsame b x e1 e2).1 q1)
    · have h1 := hfr b x q1
      have h2 := ok_lt (hE0 l hl) (he.mem hle)
      omega
  have nF : ∀ l, l < mg → l ≠ i → ∀ b x, (F l).El b x → ¬ p b x := fun l hl el b x he hx =>
    h.d2 l i hl hi el b x (he.mem (h.f l hl).1.1) (hp1 b x hx).1
  have he' : ∀ b x, e'.In b x → (F i).In b x ∨ b = w.heap.size := fun b x hx => by
    rcases hG.how with ⟨e1, e2, _⟩ | ⟨_, hfr⟩
    · left; unfold Ent.In at *; rw [← e1, ← e2]; exact hx
    · right; exact hfr b x hx
  refine ⟨?_, ?_, ?_, h.sep, fun l hl => ⟨(h.e l hl).1.wz z12, (h.e l hl).2.wz (h.e l hl).1 z12 (nE l hl)⟩, fun l hl => ?_, ?_, ?_, h.low, fun b hb => ?_⟩
  · refine h.bk.at ?_
    rw [Below.heap_setCell w1 _ _ k hgk]; exact hk1
  · refine own_at h.t2 fun q hq => ?_
    obtain ⟨cq, hcq⟩ := own_blk h.t2 hq
    have hne : q ≠ g := fun e => h.sep q hq (by rw [e]; rfl)
    rw [Below.heap_setCell w1 _ _ q hne]
    exact hp2 q (np q _ _ hcq (by decide)) (Array.getElem?_eq_some_iff.1 hcq).1
  · obtain ⟨u1, u2⟩ := h.t4
    refine ⟨by rw [vals_length, Nat.mul_one], ?_⟩
    rcases u2 with ⟨e1, _⟩ | ⟨g', cap', cur, e1, hb', hg', hn', hc', hs', ht'⟩
    · simp at e1
    · simp at e1
      obtain ⟨rfl, rfl⟩ := e1
      rw [hgc] at hg'
      simp at hg'
      subst hg'
      refine .inr ⟨g, cap, curg.setIfInBounds i e'.val, rfl, hb', by simp [World.setCell, Array.getElem?_modify, hg1], hn', hc', by simpa using hs', ?_⟩
      rw [Array.toList_setIfInBounds, List.take_set, ht', vals_set F mg i e' hi]
  · by_cases el : l = i
    · subst el
      rw [upd_same, if_pos rfl]
      refine ⟨(hG.ok (by rw [hG.n]; omega)).wz z2, ?_, by rw [hG.n, hFi.2.2.1]; omega, ?_⟩
      · have s1 := hG.sh (fun j => mk ps (l + 1) j) hFi.2.1 rfl
        exact s1.wz (p := fun _ _ => False) (hG.ok (by rw [hG.n]; omega)) (.ofGrown o2.grown fun b hb _ => by
          obtain rfl := Option.some.inj hb
          exact .inl ⟨curg, (0, 0), hg1⟩) fun _ _ _ h => h
      · rcases hG.how with ⟨e1, e2, _⟩ | ⟨_, hfr⟩
        · rcases hFi.2.2.2 with ⟨f1, f2⟩ | ff
          · exact .inl ⟨e1.trans f1, e2.trans f2⟩
          · exact .inr fun b x hx => ff b x (by unfold Ent.In at *; rw [← e1, ← e2]; exact hx)
        · exact .inr fun b x hx => by rw [hfr b x hx]; exact h.z.size
    · rw [upd_other e' el, if_neg el]
      have q := h.f l hl
      exact ⟨q.1.wz z12, q.2.1.wz q.1 z12 (nF l hl el), q.2.2.1, q.2.2.2⟩
  · intro x y hx hy hxy b c hbx hby
    by_cases ex : x = i
    · subst ex
      rw [upd_same] at hbx
      rw [upd_other e' (fun e => hxy e.symm)] at hby
      rcases he' b c hbx with h1 | h1
      · exact h.d2 x y hx hy hxy b c h1 hby
      · have := ok_lt (h.f y hy).1 hby; omega
    · rw [upd_other e' ex] at hbx
      by_cases ey : y = i
      · subst ey
        rw [upd_same] at hby
        rcases he' b c hby with h1 | h1
        · exact h.d2 x y hx hy hxy b c hbx h1
        · have := ok_lt (h.f x hx).1 hbx; omega
      · rw [upd_other e' ey] at hby
        exact h.d2 x y hx hy hxy b c hbx hby
  · refine h.z.go z12 fun b x hb hx => ?_
    obtain ⟨q1, q2⟩ := hp1 b x hx
    rcases hFi.2.2.2 with ⟨e1, e2⟩ | hfr
    · exact ⟨i, by omega, (hsame b x e1 e2).1 q1⟩
    · have := hfr b x q1; omega
  · obtain ⟨l1, l2, l3⟩ := h.low
    have hgb := own_base h.t4 (q := g) rfl
    have hzs := h.z.size
    rw [Below.heap_setCell w1 _ _ b (fun e => by have e' : b = g := e; omega)]
    refine (hp2 b (fun x hx => ?_) (by omega)).trans (h.bl b hb)
    obtain ⟨q1, _⟩ := hp1 b x hx
    rcases hFi.2.2.2 with ⟨e1, e2⟩ | hfr
    · have := l3 i (by omega) b x ((hsame b x e1 e2).1 q1); omega
    · have := hfr b x q1; omega
end Go.Proofs.YtbkeejapongmlaaGreatDoor.Kp
