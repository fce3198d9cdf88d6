import Derived.Test.YtmnmmkonkimjeaaGreatDoorKTold
import Derived.Test.YtmnmmkonkimjeaaGreatDoorFirstG
import Derived.Laws.AppendOwnNone
namespace Go.Proofs.YtmnmmkonkimjeaaGreatDoor
open Go.RowKit
set_option linter.unusedVariables false
set_option maxRecDepth 100000

/-- A list at the head of a block. -/
def en (g n c : Nat) : Ent := ⟨some ⟨g, 0, none⟩, n, c⟩
theorem en_in {g n c b x : Nat} (h : (en g n c).In b x) : b = g := by
  obtain ⟨off, h1, _⟩ := h
  simp [en] at h1
  exact h1.1.symm
theorem Ob.ok {w : World} {B g n c : Nat} {xs : List Nat} (h : Ob w B g n c xs) (hy : ∀ x ∈ xs, x < 256) (hn : n ≤ 100000) : (en g n c).Ok w ∧ Bs w (en g n c).a (en g n c).n (ic xs) := by
  obtain ⟨a, c', e, h1, h2, _⟩ := own_ent h (ic_bytes hy) hn
  simp at e
  obtain ⟨rfl, rfl⟩ := e
  exact ⟨h1, h2⟩
theorem Ob.tell {p : Nat → Nat → Prop} {w w' : World} {B g n c : Nat} {xs : List Nat} (h : Ob w B g n c xs) (z : Wz p w w') (hp : ∀ i, ¬ p g i) : Ob w' B g n c xs :=
  h.at (by
    obtain ⟨_, cur, hc⟩ := h.blk
    exact z.same g h.lt hp (fun cur' fr e => by rw [hc] at e; simp at e) (fun cur' fr e => by rw [hc] at e; simp at e))
theorem Ob.set {w : World} {B g n c : Nat} {xs : List Nat} (h : Ob w B g n c xs) (i x : Nat) : Ob (w.setCell ⟨g, i, none⟩ (.int .u8 (x : Nat))) B g n c (xs.set i x) := by
  unfold Ob at *
  obtain ⟨h1, h2⟩ := h
  have e0 : cells (ic (xs.set i x)) = (cells (ic xs)).set i (.int .u8 (x : Nat)) := by simp [cells, ic, List.map_set]
  refine ⟨by rw [e0, List.length_set]; exact h1, ?_⟩
  rcases h2 with ⟨e, _⟩ | ⟨g', cap', cur, e, hb, hg, k1, k2, k3, k4⟩
  · simp at e
  · simp at e
    obtain ⟨rfl, rfl⟩ := e
    refine .inr ⟨g, c, cur.setIfInBounds i (.int .u8 (x : Nat)), rfl, hb, by simp [World.setCell, Array.getElem?_modify, hg], k1, k2, by rw [Array.size_setIfInBounds]; exact k3, ?_⟩
    rw [Array.toList_setIfInBounds, List.take_set, k4, e0]
theorem Ob.zero {w : World} {B g n c : Nat} {xs : List Nat} (h : Ob w B g n c xs) : Ob w B g 0 c [] := by
  unfold Ob at *
  obtain ⟨h1, h2⟩ := h
  refine ⟨rfl, ?_⟩
  rcases h2 with ⟨e, _⟩ | ⟨g', cap', cur, e, hb, hg, k1, k2, k3, k4⟩
  · simp at e
  · simp at e
    obtain ⟨rfl, rfl⟩ := e
    exact .inr ⟨g, c, cur, rfl, hb, hg, Nat.zero_le _, k2, k3, by simp [cells, ic]⟩

/-! What a turned block does not reach. -/
theorem Ent.Ok.off {w w' : World} {e : Ent} {g : Nat} (h : e.Ok w) (he : ∀ b x, e.In b x → b ≠ g) (sm : ∀ b, b < w.heap.size → b ≠ g → w'.heap[b]? = w.heap[b]?) : e.Ok w' := by
  obtain ⟨h1, h2, h3, h4, h5⟩ := h
  refine ⟨h1, h2, h3, h4, ?_⟩
  by_cases h0 : e.c = 0
  · exact .inl h0
  rcases h5 with h5 | ⟨b, off, cur, e1, e2, e3⟩
  · exact .inl h5
  · refine .inr ⟨b, off, cur, e1, ?_, e3⟩
    rw [sm b (Array.getElem?_eq_some_iff.1 e2).1 (he b off ⟨off, e1, Nat.le_refl _, by omega⟩)]
    exact e2
theorem sh_off {w w' : World} {e : Ent} {g : Nat} {f : Nat → Int} (h : e.Sh w f) (ho : e.Ok w) (he : ∀ b x, e.In b x → b ≠ g) (sm : ∀ b, b < w.heap.size → b ≠ g → w'.heap[b]? = w.heap[b]?) : e.Sh w' f := by
  by_cases h0 : e.n = 0
  · exact .inl h0
  rcases h with h | ⟨b, off, h1, h2⟩
  · exact .inl h
  · refine .inr ⟨b, off, h1, fun j hj => ?_⟩
    have hb := World.block_lt_of_cell? w _ (h2 j hj)
    have hn := ho.1
    rw [World.cell?_of_block (w := w) (sm b hb (he b off ⟨off, h1, Nat.le_refl _, by omega⟩))]
    exact h2 j hj
theorem bs_off {w w' : World} {e : Ent} {g : Nat} {zs : List Int} (h : Bs w e.a e.n zs) (ho : e.Ok w) (he : ∀ b x, e.In b x → b ≠ g) (sm : ∀ b, b < w.heap.size → b ≠ g → w'.heap[b]? = w.heap[b]?) : Bs w' e.a e.n zs :=
  ⟨h.1, h.2.1, sh_off (f := fun j => zs.getD j 0) h.2.2 ho he sm⟩
theorem grown_sm {w w' : World} {g : Nat} (hg : w.grownBy w' (some g)) : ∀ b, b < w.heap.size → b ≠ g → w'.heap[b]? = w.heap[b]? := fun b hb hn => hg.block b hb (fun e => hn (Option.some.inj e))
theorem Bk.ne5 {w : World} {k g : Nat} {ps : Int} {v2 v3 v4 : Value} {cur : Array Value} (h : Bk w k ps v2 v3 v4) (hc : w.heap[g]? = some (.cells cur 5 (0, 0))) : k ≠ g := fun e => by
  unfold Bk at h
  rw [← e, h] at hc
  simp at hc
theorem own22_ne5 {w : World} {base m g q : Nat} {v : Value} {xs : List Value} {cur : Array Value} (h : w.ownsRow base 22 1 v m xs) (hq : v.ownBlock = some q) (hc : w.heap[g]? = some (.cells cur 5 (0, 0))) : q < w.heap.size ∧ q ≠ g := by
  obtain ⟨cur', h'⟩ := own_blk h hq
  refine ⟨(Array.getElem?_eq_some_iff.1 h').1, fun e => ?_⟩
  rw [← e, h'] at hc
  simp at hc
theorem own22_off {w w' : World} {base m g : Nat} {v : Value} {xs : List Value} {cur : Array Value} (h : w.ownsRow base 22 1 v m xs) (hc : w.heap[g]? = some (.cells cur 5 (0, 0))) (sm : ∀ b, b < w.heap.size → b ≠ g → w'.heap[b]? = w.heap[b]?) : w'.ownsRow base 22 1 v m xs :=
  own_at h fun q hq => by
    obtain ⟨h1, h2⟩ := own22_ne5 h hq hc
    exact sm q h1 h2
theorem Bo.off {w w' : World} {k base m g : Nat} {E G : Nat → Ent} {v2 v3 : Value} {cur : Array Value} (h : Bo w k base m m E G v2 v3) (hc : w.heap[g]? = some (.cells cur 5 (0, 0))) (sm : ∀ b, b < w.heap.size → b ≠ g → w'.heap[b]? = w.heap[b]?)
    (he : ∀ l, l < m → ∀ b x, (E l).In b x → b ≠ g) (hg : ∀ l, l < m → ∀ b x, (G l).In b x → b ≠ g) : Bo w' k base m m E G v2 v3 :=
  ⟨h.bk.at (sm k h.bk.lt (h.bk.ne5 hc)), own22_off h.t2 hc sm, own22_off h.t3 hc sm, h.sep, fun i hi => ⟨(h.e i hi).1.off (he i hi) sm, (h.e i hi).2⟩, fun i hi => ⟨(h.g i hi).1.off (hg i hi) sm, by
    obtain ⟨zs, q1, q2, q3⟩ := (h.g i hi).2
    exact ⟨zs, bs_off q1 (h.e i hi).1 (he i hi) sm, bs_off q2 (h.g i hi).1 (hg i hi) sm, q3⟩⟩, h.d⟩

/-- The book in the telling; the key, the nonce and the room beside it. -/
structure Gw (w0 w : World) (k B1 gk ck gn cn gr m S : Nat) (ks ns : List Nat) (E G : Nat → Ent) : Prop where
  bo : ∃ v2 v3, Bo w k w0.heap.size m m E G v2 v3
  kl : w0.heap.size ≤ k
  el : ∀ l, l < m → ∀ b x, (E l).In b x → B1 ≤ b
  gl : ∀ l, l < m → ∀ b x, (G l).In b x → B1 ≤ b
  top : ∀ l, l < m → ∀ b x, (E l).In b x → b < S
  key : Ob w w0.heap.size gk 72 ck ks
  nce : Ob w w0.heap.size gn 52 cn ns
  lt : w0.heap.size ≤ B1 ∧ gk < B1 ∧ gn < B1 ∧ gr < B1 ∧ gk ≠ gn ∧ gk ≠ gr ∧ gn ≠ gr ∧ B1 ≤ w.heap.size ∧ B1 ≤ S ∧ S ≤ w.heap.size
  fr : Below w0.heap.size w0 w
theorem Gw.below {w0 w w' : World} {k B1 gk ck gn cn gr m S : Nat} {ks ns : List Nat} {E G : Nat → Ent} (h : Gw w0 w k B1 gk ck gn cn gr m S ks ns E G) (hb : Below w.heap.size w w') : Gw w0 w' k B1 gk ck gn cn gr m S ks ns E G := by
  obtain ⟨v2, v3, hbo⟩ := h.bo
  have := hb.size
  have := h.lt
  exact ⟨⟨v2, v3, hbo.below (Nat.le_refl _) hb⟩, h.kl, h.el, h.gl, h.top, h.key.kept hb, h.nce.kept hb, by omega, bel_bel h.fr h.fr.size hb⟩
/-- The room is written. -/
theorem Gw.room {w0 w w' : World} {k B1 gk ck gn cn gr m S p c : Nat} {ks ns xs : List Nat} {E G : Nat → Ent} (h : Gw w0 w k B1 gk ck gn cn gr m S ks ns E G) (ho : Ob w w0.heap.size gr p c xs) (hg : w.grownBy w' (some gr)) : Gw w0 w' k B1 gk ck gn cn gr m S ks ns E G := by
  obtain ⟨v2, v3, hbo⟩ := h.bo
  obtain ⟨hlow, cur, hc⟩ := ho.blk
  have hl := h.lt
  have hs := hg.size
  exact ⟨⟨v2, v3, hbo.off hc (grown_sm hg) (fun l hl' b x hx => by have := h.el l hl' b x hx; omega) (fun l hl' b x hx => by have := h.gl l hl' b x hx; omega)⟩, h.kl, h.el, h.gl, h.top, h.key.grown hg (by omega), h.nce.grown hg (by omega), by omega, bel_grown h.fr h.fr.size hlow hg⟩
/-- Nothing is more than the top. -/
theorem Gw.up {w0 w : World} {k B1 gk ck gn cn gr m S S' : Nat} {ks ns : List Nat} {E G : Nat → Ent} (h : Gw w0 w k B1 gk ck gn cn gr m S ks ns E G) (h1 : S ≤ S') (h2 : S' ≤ w.heap.size) : Gw w0 w k B1 gk ck gn cn gr m S' ks ns E G := by
  have hl := h.lt
  exact ⟨h.bo, h.kl, h.el, h.gl, fun l hl' b x hx => by have := h.top l hl' b x hx; omega, h.key, h.nce, by omega, h.fr⟩
theorem gw_tell {w0 w : World} {k B1 gk ck gn cn gr m S g n c : Nat} {ks ns xs : List Nat} {E G : Nat → Ent} (h : Gw w0 w k B1 gk ck gn cn gr m S ks ns E G) (o : Ob w w0.heap.size g n c xs) (hy : ∀ x ∈ xs, x < 256) (hn : n ≤ 5000) (hS : S ≤ g) (hm : m ≤ 999) :
    Calls Tryz.prog 11 #[.pointer (some ⟨k, 0, none⟩), .slice (some ⟨g, 0, none⟩) n c] w fun e w' => e = .returned (.tuple #[]) ∧ (∃ E' G', Gw w0 w' k B1 gk ck gn cn gr (m + 1) (g + 1) ks ns E' G') ∧ w.heap.size ≤ w'.heap.size ∧ ∀ g' n' c' xs', Ob w w0.heap.size g' n' c' xs' → Ob w' w0.heap.size g' n' c' xs' := by
  obtain ⟨v2, v3, hbo⟩ := h.bo
  obtain ⟨hok, hbs⟩ := o.ok hy (by omega)
  have hl := h.lt
  have hg := o.lt
  refine (bookBytes5_ k w0.heap.size m E G v2 v3 (en g n c) (ic xs) w hbo hok hn hbs (fun i hi b x hx hx' => by have := h.top i hi b x hx; have := en_in hx'; omega) hm h.fr.size h.kl).mono ?_
  rintro e w' ⟨rfl, ⟨f, v2', v3', hbo', hf⟩, hz, hs⟩
  have hsz := hz.size
  have tl : ∀ g' n' c' xs', Ob w w0.heap.size g' n' c' xs' → Ob w' w0.heap.size g' n' c' xs' := fun g' n' c' xs' ho => ho.tell hz (fun _ h => h)
  refine ⟨rfl, ⟨_, _, ⟨v2', v3', hbo'⟩, h.kl, fun l hl' b x hx => ?_, fun l hl' b x hx => ?_, fun l hl' b x hx => ?_, tl _ _ _ _ h.key, tl _ _ _ _ h.nce, by omega, ⟨hz.os.trans h.fr.os, hz.tape.trans h.fr.tape, hz.output.trans h.fr.output, Nat.le_trans h.fr.size hz.size, fun b hb => (hs b hb).trans (h.fr.block b hb)⟩⟩, hsz, tl⟩
  · by_cases e1 : l = m
    · subst e1; rw [upd_same] at hx; have := en_in hx; omega
    · rw [upd_other _ e1] at hx; exact h.el l (by omega) b x hx
  · by_cases e1 : l = m
    · subst e1; rw [upd_same] at hx; have := hf b x hx; omega
    · rw [upd_other _ e1] at hx; exact h.gl l (by omega) b x hx
  · by_cases e1 : l = m
    · subst e1; rw [upd_same] at hx; have := en_in hx; omega
    · rw [upd_other _ e1] at hx; have := h.top l (by omega) b x hx; omega

/-- The book that is finished; the key and the nonce beside it. -/
structure Fw (w0 w : World) (k B1 gk ck gn cn m : Nat) (ks ns : List Nat) (E F : Nat → Ent) : Prop where
  bk : ∃ v2 v3 v4, Bk w k 1 v2 v3 v4 ∧ w.ownsRow w0.heap.size 22 1 v2 m (vals m E) ∧ w.ownsRow w0.heap.size 22 1 v4 m (vals m F)
  e : ∀ l, l < m → (E l).Ok w ∧ ((E l).Sh w fun j => mk 1 (l + 1) j) ∧ (E l).n ≤ 1000000 ∧ ∀ b x, (E l).In b x → B1 ≤ b
  f : ∀ l, l < m → (F l).Ok w ∧ ((F l).Sh w fun j => mk 1 (l + 1) j) ∧ (F l).n ≤ 1000000 ∧ ∀ b x, (F l).In b x → B1 ≤ b
  key : Ob w w0.heap.size gk 72 ck ks
  nce : Ob w w0.heap.size gn 52 cn ns
  lt : gk < B1 ∧ gn < B1 ∧ gk ≠ gn ∧ B1 ≤ w.heap.size
  fr : Below w0.heap.size w0 w
theorem gw_finish {w0 w : World} {k B1 gk ck gn cn gr m S : Nat} {ks ns : List Nat} {E G : Nat → Ent} (h : Gw w0 w k B1 gk ck gn cn gr m S ks ns E G) (hm : m ≤ 1000) :
    Calls Tryz.prog 12 #[.pointer (some ⟨k, 0, none⟩)] w fun e w' => e = .returned (.bool true) ∧ ∃ E F, Fw w0 w' k B1 gk ck gn cn m ks ns E F := by
  obtain ⟨v2, v3, hbo⟩ := h.bo
  have hl := h.lt
  refine (finish5_ k w0.heap.size m E G v2 v3 w hbo.bk hbo.t2 hbo.t3 (fun i hi => (hbo.g i hi).2) hbo.e hbo.d hm ⟨h.kl, h.fr.size, fun l hl' b x hx => by have := h.el l hl' b x hx; omega⟩).mono ?_
  rintro e w' ⟨rfl, hz, hs, w4, F, v4', hw4, s⟩
  have hsz := hz.size
  refine ⟨rfl, E, F, ⟨v2, v3, v4', s.bk, s.t2, s.t4⟩, fun l hl' => ⟨(s.e l hl').1, (s.e l hl').2, by have := (hbo.e l hl').2; omega, h.el l hl'⟩, fun l hl' => ?_, h.key.tell hz (fun i ⟨l, hl', hx⟩ => by have := h.el l hl' _ _ hx; omega), h.nce.tell hz (fun i ⟨l, hl', hx⟩ => by have := h.el l hl' _ _ hx; omega), by omega, ⟨hz.os.trans h.fr.os, hz.tape.trans h.fr.tape, hz.output.trans h.fr.output, Nat.le_trans h.fr.size hz.size, fun b hb => (hs b hb).trans (h.fr.block b hb)⟩⟩
  obtain ⟨f1, f2, f3, f4⟩ := s.f l hl'
  refine ⟨f1, f2, by have := (hbo.e l hl').2; omega, fun b x hx => ?_⟩
  rcases f4 with ⟨q1, q2⟩ | f4
  · refine h.el l hl' b x ?_
    obtain ⟨off, k1, k2, k3⟩ := hx
    exact ⟨off, by rw [← q1]; exact k1, k2, by rw [← q2]; exact k3⟩
  · have := f4 b x hx; omega
theorem Fw.below {w0 w w' : World} {k B1 gk ck gn cn m : Nat} {ks ns : List Nat} {E F : Nat → Ent} (h : Fw w0 w k B1 gk ck gn cn m ks ns E F) (hb : Below w.heap.size w w') : Fw w0 w' k B1 gk ck gn cn m ks ns E F := by
  have z : Wz (fun _ _ => False) w w' := .ofWk (.ofBelow hb)
  obtain ⟨v2, v3, v4, h1, h2, h3⟩ := h.bk
  have kq : ∀ {v : Value} {n : Nat} {xs : List Value}, w.ownsRow w0.heap.size 22 1 v n xs → ∀ q, v.ownBlock = some q → w'.heap[q]? = w.heap[q]? := fun ho q hq => by
    obtain ⟨cur, hc⟩ := own_blk ho hq
    exact hb.block q (Array.getElem?_eq_some_iff.1 hc).1
  have hs := hb.size
  have hl := h.lt
  exact ⟨⟨v2, v3, v4, h1.at (hb.block k h1.lt), own_at h2 (kq h2), own_at h3 (kq h3)⟩, fun l hl' => ⟨(h.e l hl').1.wz z, (h.e l hl').2.1.wz (h.e l hl').1 z (fun _ _ _ h => h), (h.e l hl').2.2⟩, fun l hl' => ⟨(h.f l hl').1.wz z, (h.f l hl').2.1.wz (h.f l hl').1 z (fun _ _ _ h => h), (h.f l hl').2.2⟩, h.key.kept hb, h.nce.kept hb, by omega, bel_bel h.fr h.fr.size hb⟩
/-- The key is written. -/
theorem Fw.set {w0 w : World} {k B1 gk ck gn cn m : Nat} {ks ns : List Nat} {E F : Nat → Ent} (h : Fw w0 w k B1 gk ck gn cn m ks ns E F) (i x : Nat) : Fw w0 (w.setCell ⟨gk, i, none⟩ (.int .u8 (x : Nat))) k B1 gk ck gn cn m (ks.set i x) ns E F := by
  obtain ⟨v2, v3, v4, h1, h2, h3⟩ := h.bk
  obtain ⟨hlow, cur, hc⟩ := h.key.blk
  have hg := grown_set (grown_self w (some gk)) i (.int .u8 (x : Nat))
  have sm := grown_sm hg
  have hs := hg.size
  have hl := h.lt
  exact ⟨⟨v2, v3, v4, h1.at (sm k h1.lt (h1.ne5 hc)), own22_off h2 hc sm, own22_off h3 hc sm⟩, fun l hl' => ⟨(h.e l hl').1.off (fun b x hx => by have := (h.e l hl').2.2.2 b x hx; omega) sm, sh_off (h.e l hl').2.1 (h.e l hl').1 (fun b x hx => by have := (h.e l hl').2.2.2 b x hx; omega) sm, (h.e l hl').2.2⟩, fun l hl' => ⟨(h.f l hl').1.off (fun b x hx => by have := (h.f l hl').2.2.2 b x hx; omega) sm, sh_off (h.f l hl').2.1 (h.f l hl').1 (fun b x hx => by have := (h.f l hl').2.2.2 b x hx; omega) sm, (h.f l hl').2.2⟩, h.key.set i x, h.nce.grown hg (by omega), by omega, bel_grown h.fr h.fr.size hlow hg⟩
theorem fw_holds {w0 w : World} {k B1 gk ck gn cn m : Nat} {ks ns : List Nat} {E F : Nat → Ent} (h : Fw w0 w k B1 gk ck gn cn m ks ns E F) (hm : m ≤ 1000) :
    Calls Tryz.prog 14 #[.pointer (some ⟨k, 0, none⟩)] w fun e w' => e = .returned (.bool true) ∧ w' = w := by
  obtain ⟨v2, v3, v4, h1, h2, h3⟩ := h.bk
  exact holds_ k w0.heap.size m m 1 E F v2 v3 v4 w h1 h2 h3 (.inr rfl) (fun l hl' => ⟨(h.e l hl').2.2.1, (h.e l hl').2.1⟩) (fun l hl' => ⟨(h.f l hl').2.2.1, (h.f l hl').2.1⟩) hm

theorem built_book : Tryz.prog.built 43 [] = some (bookCells 0 (.slice none 0 0) (.slice none 0 0) (.slice none 0 0)) := by kernel_rfl
theorem wpList_book {ops : Array Oper} {rest : List Oper} {o : Oper} {a : Act} {w : World} {Q : Exit → Act → World → Prop} (hg : o.guard = none) (ho : o.op = .build 43 #[])
    (h : wpList Tryz.prog ops Q rest (a.put o.dst (.agg (bookCells 0 (.slice none 0 0) (.slice none 0 0) (.slice none 0 0)))) w) : wpList Tryz.prog ops Q (o :: rest) a w := by
  exact wpList_build hg 43 #[] ho (by simp [built_book]) (by simpa [built_book] using h)
theorem new_book (w : World) : Bk (w.alloc (.cells (bookCells 0 (.slice none 0 0) (.slice none 0 0) (.slice none 0 0)) 43)) w.heap.size 0 (.slice none 0 0) (.slice none 0 0) (.slice none 0 0) := heap_alloc_new w _
set_option maxHeartbeats 400000 in
theorem roomy_ (a : Option Addr) (n c : Nat) (L : List Nat) (w : World) (hb : Bs w a n (ic L)) (hy : ∀ x ∈ L, x < 256) (hn : n ≤ 1000) :
    Calls Tryz.prog 5 #[.slice a n c] w fun e w' => ∃ g cap, e = .returned (.slice (some ⟨g, 0, none⟩) (n + 40) cap) ∧ w.heap.size ≤ g ∧ Ob w' w.heap.size g (n + 40) cap (L ++ sp 47 11 40) ∧ n + 40 ≤ cap ∧ cap ≤ maxLen ∧ Below w.heap.size w w' := by
  obtain ⟨i, hi, hz0, hz1, hz2⟩ := info_parts info5
  have k2 := fun w => steps_ 47 11 40 w (by omega) (by omega) (by omega)
  have HY := hid (sp_lt 47 11 40)
  generalize sp 47 11 40 = M at *
  go_enter Tryz.func5, Tryz.ntmps5
  go_wp2_with fail
  refine (refBytes a n c (ic L) _ hb (by omega)).mono ?_
  rintro e w1 ⟨v1, rfl, o1, B0⟩
  go_wp2_with fail
  refine (k2 _).mono ?_
  rintro e w2 ⟨v2, rfl, o2, g2⟩
  have o1 := own_kept o1 g2
  have B0 := bel_bel B0 B0.size g2
  obtain ⟨ma, mc, rfl, mb, _, _, _⟩ := own_form o2 (ic_bytes HY.out)
  obtain ⟨b, off, rfl⟩ : ∃ b off, ma = some ⟨b, off, none⟩ := by
    rcases mb.2.2 with h | ⟨b, off, e, _⟩
    · omega
    · exact ⟨b, off, e⟩
  have L1 := hid (mb.src1 (grown_self _ none))
  have L2 : Hid ((cells (ic M)).length = 40 * 1) := by show _ = _; rw [cells_length, mb.1]
  have L3 := hid (cells_one (ic M))
  have HO := hid o1
  have hs := B0.size
  clear g2 k2 o1 o2 mb
  go_wp2_with (at_builtin; refine wpList_append_own _ rfl _ _ 22 rfl w.heap.size 5 i (.int .u8 0) 1 1 Tryz.underlying22 hi hz0 hz1 hz2 rfl (by decide) v1 n _ rfl HO.out ⟨b, off, none⟩ 40 mc (cells (ic M)) rfl L2.out L1.out L3.out (by unfold maxLen; omega) (by omega) hs ?_; intro v3 w3 o3 hg _; have B0 := B0.grown hg hs (fun q hq => (HO.out.lt q hq).1); clear hg)
  rw [← cells_append, ← ic_append] at o3
  obtain ⟨g, cap, rfl, h1, h2, h3, _, _⟩ := own_head o3 (by omega)
  go_ret
  exact ⟨g, cap, rfl, h3, o3, h1, h2, B0⟩
/-! The lists that came in. -/
def Tx (w : World) (a : Option Addr) (n : Nat) (A : Nat → Option Addr) (N C : Nat → Nat) (L : Nat → List Nat) : Prop :=
  n = 0 ∨ ∃ b off, a = some ⟨b, off, none⟩ ∧ ∀ i, i < n → w.cell? ⟨b, off + i, none⟩ = some (.slice (A i) (N i) (C i)) ∧ Bs w (A i) (N i) (ic (L i)) ∧ N i ≤ C i ∧ C i ≤ maxLen ∧ (A i = none → C i = 0) ∧ ∀ x ∈ L i, x < 256
theorem Tx.below {w w' : World} {a : Option Addr} {n : Nat} {A : Nat → Option Addr} {N C : Nat → Nat} {L : Nat → List Nat} (h : Tx w a n A N C L) (hb : Below w.heap.size w w') : Tx w' a n A N C L := by
  rcases h with h | ⟨b, off, e, h⟩
  · exact .inl h
  · exact .inr ⟨b, off, e, fun i hi => ⟨(hb.cell (World.block_lt_of_cell? w _ (h i hi).1)).trans (h i hi).1, (h i hi).2.1.below hb, (h i hi).2.2⟩⟩
/-- append(room[:0], y...), where it fits. -/
theorem step_app0 {ops : Array Oper} {o : Oper} {a : Act} {w : World} {K : Act → World → Prop} {Q : Exit → Act → World → Prop} {E : Prop} (hgd : o.guard = none) (s x : Operand) (ho : o.op = .call { callee := .builtin .append, args := #[s, x], argTypes := #[22, 22] })
    (B g cap : Nat) (hs : a.eval s = .slice (some ⟨g, 0, none⟩) 0 cap) (hown : Ob w B g 0 cap []) (ay : Option Addr) (m c : Nat) (L : List Nat) (hx : a.eval x = .slice ay m c) (hb : Bs w ay m (ic L)) (hnil : ay = none → c = 0) (hmc : m ≤ c) (hm : m ≤ cap)
    (h : ∀ w', Ob w' B g m cap L → w.grownBy w' (some g) → K (a.put o.dst (.slice (some ⟨g, 0, none⟩) m cap)) w') : if Region.wanted o (yielded ops a.tmps) = true then Oper.wp Tryz.prog o a w K Q else E := by
  have hw : Region.wanted o (yielded ops a.tmps) = true := by simp [Region.wanted, hgd]
  rw [if_pos hw]
  obtain ⟨i, hi, hz0, hz1, hz2⟩ := info_parts info5
  cases ay with
  | none =>
    obtain rfl := hnil rfl
    obtain rfl : m = 0 := by omega
    have hL : L = [] := by have := hb.1; rw [ic_length] at this; exact List.eq_nil_of_length_eq_zero this
    subst hL
    have hrun := run_append_owned_none (P := Tryz.prog) (w := w) B 22 o.type 5 i 1 Tryz.underlying22 hi (.slice (some ⟨g, 0, none⟩) 0 cap) 0 [] hown
    unfold Oper.wp
    simp [execOp, ho, resolve, invoke, builtin, hs, hx, hrun, Result.andThen]
    exact h w hown (grown_self _ _)
  | some ad =>
    obtain ⟨w', hrun, r1, r2⟩ := run_append_fits (P := Tryz.prog) w B 22 o.type 5 i 1 Tryz.underlying22 hi hz1 g 0 cap [] hown ad m c (cells (ic L)) (by rw [cells_length, hb.1, Nat.mul_one]) (hb.src1 (grown_self _ _)) (cells_one _) (by omega)
    unfold Oper.wp
    simp [execOp, ho, resolve, invoke, builtin, hs, hx, hrun, Result.andThen]
    rw [Nat.zero_add, List.nil_append] at r1
    exact h w' r1 r2
end Go.Proofs.YtmnmmkonkimjeaaGreatDoor
