import Derived.Test.YtjaecokhocbdlaaGreatDoorBookBytes
namespace Go.Proofs.YtjaecokhocbdlaaGreatDoor
open Go.RowKit
set_option linter.unusedVariables false

/-- Where what is left lies behind m bytes. -/
def nx (a : Option Addr) (c m : Nat) : Option Addr := match a with
  | none => none
  | some x => some ⟨x.block, if c = m then x.off else x.off + m, none⟩

set_option maxHeartbeats 400000 in
theorem bytes_raw (r n c m : Nat) (a : Option Addr) (p : Int) (w : World) (h : Rdr w r a n c p 0) (ha : (a = none ∧ c = 0) ∨ ∃ b off, a = some ⟨b, off, none⟩) (hm : m ≤ n) (hc : n ≤ c) (hl : c ≤ maxLen) (hn : n ≤ 1000000000) (hp : 0 ≤ p) (hp1 : p ≤ 1000000000) :
    Calls Tryz.prog 11 #[.pointer (some ⟨r, 0, none⟩), .int .i64 m] w fun en w' => en = .returned (.slice a m m) ∧ Rdr w' r (nx a c m) (n - m) (c - m) (p + m) 0 ∧ Only r w w' := by
  rcases ha with ⟨rfl, rfl⟩ | ⟨b, off, rfl⟩
  · obtain rfl : n = 0 := by omega
    obtain rfl : m = 0 := by omega
    go_enter Tryz.func11, Tryz.ntmps11
    go_wp2_with (go_at_call 22; refine (take_nil r p _ h hp hp1).mono ?_; rintro e w1 ⟨rfl, h1, h2⟩)
    go_ret
    exact ⟨rfl, by simpa [nx] using h1, h2⟩
  · go_enter Tryz.func11, Tryz.ntmps11
    go_wp2_with (go_at_call 22; refine (take_ok r n c m b off p _ h hm hc hl hn hp hp1).mono ?_; rintro e w1 ⟨rfl, h1, h2⟩)
    go_ret
    exact ⟨rfl, h1, h2⟩

/-- Only the reader has turned. -/
theorem Ent.Ok.only {w w' : World} {e : Ent} {r : Nat} {a : Option Addr} {n c : Nat} {p q : Int} (h : e.Ok w) (hr : Rdr w r a n c p q) (ho : Only r w w') : e.Ok w' := by
  obtain ⟨h1, h2, h3, h3', h4⟩ := h
  refine ⟨h1, h2, h3, h3', ?_⟩
  rcases h4 with h4 | ⟨b, off, cur, e1, e2, e3⟩
  · exact .inl h4
  · refine .inr ⟨b, off, cur, e1, ?_, e3⟩
    rw [ho.block b fun e => ?_]; exact e2
    unfold Rdr at hr
    rw [e, hr] at e2; simp at e2
theorem bs_only {w w' : World} {e : Ent} {zs : List Int} {r : Nat} {a : Option Addr} {n c : Nat} {p q : Int} (h : Bs w e.a e.n zs) (hk : e.Ok w) (hr : Rdr w r a n c p q) (ho : Only r w w') : Bs w' e.a e.n zs := by
  refine h.kept ho.grown ?_
  obtain ⟨h1, h2, h3, h3', h4⟩ := hk
  rcases h4 with h4 | ⟨b, off, cur, e1, e2, e3⟩
  · exact .inl (by omega)
  · refine .inr fun x hx => ?_
    rw [e1] at hx
    obtain rfl := Option.some.inj hx
    intro e
    have e' : b = r := Option.some.inj e
    unfold Rdr at hr
    rw [e', hr] at e2; simp at e2
theorem Bo.only {w w' : World} {k base m mg : Nat} {E G : Nat → Ent} {v2 v3 : Value} {r : Nat} {a : Option Addr} {n c : Nat} {p q : Int} (h : Bo w k base m mg E G v2 v3) (hmg : mg ≤ m) (hr : Rdr w r a n c p q) (ho : Only r w w') : Bo w' k base m mg E G v2 v3 := by
  have kq : ∀ {v : Value} {n : Nat} {xs : List Value}, w.ownsRow base 22 1 v n xs → ∀ q, v.ownBlock = some q → w'.heap[q]? = w.heap[q]? := fun ho' q hq => by
    obtain ⟨cur, hc⟩ := own_blk ho' hq
    refine ho.block q fun e => ?_
    unfold Rdr at hr
    rw [e, hr] at hc; simp at hc
  refine ⟨h.bk.at (ho.block k fun e => ?_), own_at h.t2 (kq h.t2), own_at h.t3 (kq h.t3), h.sep, fun i hi => ⟨(h.e i hi).1.only hr ho, (h.e i hi).2⟩, fun i hi => ⟨(h.g i hi).1.only hr ho, ?_⟩, h.d⟩
  · have hb := h.bk
    unfold Rdr at hr
    unfold Bk at hb
    rw [e, hr] at hb; simp at hb
  · obtain ⟨zs, q1, q2, q3⟩ := (h.g i hi).2
    exact ⟨zs, bs_only q1 (h.e i (by omega)).1 hr ho, bs_only q2 (h.g i hi).1 hr ho, q3⟩

/-- The book, what it was told of, and the reader with what is left. -/
structure Ow (w0 w : World) (k r m : Nat) (E : Nat → Ent) (L : Ent) (ys : List Int) (p : Int) : Prop where
  bo : ∃ G v2 v3, Bo w k w0.heap.size m m E G v2 v3
  kl : w0.heap.size ≤ k ∧ w0.heap.size ≤ r
  el : ∀ l, l < m → ∀ b x, (E l).In b x → w0.heap.size ≤ b
  rd : Rdr w r L.a L.n L.c p 0
  lf : (L.a = none ∧ L.c = 0) ∨ ∃ b off, L.a = some ⟨b, off, none⟩
  lok : L.Ok w
  lbs : Bs w L.a L.n ys
  ll : ∀ b x, L.In b x → w0.heap.size ≤ b
  dl : ∀ i, i < m → ∀ b x, (E i).In b x → ¬ L.In b x
  fr : Below w0.heap.size w0 w
theorem Ow.below {w0 w w' : World} {k r m : Nat} {E : Nat → Ent} {L : Ent} {ys : List Int} {p : Int} (h : Ow w0 w k r m E L ys p) (hb : Below w.heap.size w w') : Ow w0 w' k r m E L ys p := by
  have z : Wz (fun _ _ => False) w w' := .ofWk (.ofBelow hb)
  obtain ⟨G, v2, v3, hbo⟩ := h.bo
  exact ⟨⟨G, v2, v3, hbo.below (Nat.le_refl _) hb⟩, h.kl, h.el, by have q := h.rd; unfold Rdr at *; rw [hb.block r h.rd.lt]; exact q, h.lf, h.lok.wz z, h.lbs.below hb, h.ll, h.dl, bel_bel h.fr h.fr.size hb⟩
/-- Below the bound lie all lists that it was told of, and what is left. -/
theorem Ow.bound {w0 w : World} {k r m : Nat} {E : Nat → Ent} {L : Ent} {ys : List Int} {p : Int} (h : Ow w0 w k r m E L ys p) : (∀ i, i < m → ∀ b x, (E i).In b x → b < w.heap.size) ∧ ∀ b x, L.In b x → b < w.heap.size := by
  obtain ⟨G, v2, v3, hbo⟩ := h.bo
  exact ⟨fun i hi b x hx => ok_lt (hbo.e i hi).1 hx, fun b x hx => ok_lt h.lok hx⟩

theorem ow_tell {w0 w : World} {k r m : Nat} {E : Nat → Ent} {L : Ent} {ys : List Int} {p : Int} (h : Ow w0 w k r m E L ys p) (e : Ent) (zs : List Int) (ho : e.Ok w) (hn : e.n ≤ 5000) (hb : Bs w e.a e.n zs)
    (hd : ∀ i, i < m → ∀ b x, (E i).In b x → ¬ e.In b x) (hl : ∀ b x, e.In b x → ¬ L.In b x) (hlow : ∀ b x, e.In b x → w0.heap.size ≤ b) (hm : m ≤ 999) :
    Calls Tryz.prog 10 #[.pointer (some ⟨k, 0, none⟩), e.val] w fun en w' => en = .returned (.tuple #[]) ∧ Ow w0 w' k r (m + 1) (upd E m e) L ys p ∧ Wz (fun _ _ => False) w w' := by
  obtain ⟨G, v2, v3, hbo⟩ := h.bo
  refine (bookBytes_ k w0.heap.size m E G v2 v3 e zs w hbo ho hn hb hd hm h.fr.size h.kl.1).mono ?_
  rintro en w' ⟨rfl, ⟨G', v2', v3', hbo'⟩, hz, hs⟩
  refine ⟨rfl, ⟨⟨G', v2', v3', hbo'⟩, h.kl, fun l hl b x hx => ?_, ?_, h.lf, h.lok.wz hz, bs_wz h.lbs h.lok hz (fun _ _ _ h => h), h.ll, fun l hl' b x hx => ?_, ⟨hz.os.trans h.fr.os, hz.tape.trans h.fr.tape, hz.output.trans h.fr.output, Nat.le_trans h.fr.size hz.size, fun b hb => (hs b hb).trans (h.fr.block b hb)⟩⟩, hz⟩
  · by_cases e1 : l = m
    · subst e1; rw [upd_same] at hx; exact hlow b x hx
    · rw [upd_other e e1] at hx; exact h.el l (by omega) b x hx
  · have q := h.rd
    unfold Rdr at *
    rw [hz.same r h.rd.lt (fun _ h => h) (fun cur fr e => by rw [q] at e; simp at e) (fun cur fr e => by rw [q] at e; simp at e)]; exact q
  · by_cases e1 : l = m
    · subst e1; rw [upd_same] at hx; exact hl b x hx
    · rw [upd_other e e1] at hx; exact h.dl l (by omega) b x hx

theorem nx_in {w : World} {L : Ent} {m : Nat} (hf : (L.a = none ∧ L.c = 0) ∨ ∃ b off, L.a = some ⟨b, off, none⟩) (hm : m ≤ L.c) (b x : Nat) (h : Ent.In ⟨nx L.a L.c m, L.n - m, L.c - m⟩ b x) : L.In b x ∧ ¬ Ent.In ⟨L.a, m, m⟩ b x := by
  rcases hf with ⟨e, _⟩ | ⟨b', off, e⟩
  · obtain ⟨o, h1, _⟩ := h
    simp [nx, e] at h1
  · obtain ⟨o, h1, h2, h3⟩ := h
    simp only [nx, e] at h1 h2 h3
    simp at h1
    obtain ⟨rfl, rfl⟩ := h1
    by_cases ec : L.c = m
    · omega
    · rw [if_neg ec] at h2 h3
      refine ⟨⟨off, e, by omega, by omega⟩, ?_⟩
      rintro ⟨o', k1, k2, k3⟩
      simp only [e] at k1 k2 k3
      simp at k1
theorem nx_ok {w : World} {L : Ent} {m : Nat} (h : L.Ok w) (hf : (L.a = none ∧ L.c = 0) ∨ ∃ b off, L.a = some ⟨b, off, none⟩) (hm : m ≤ L.n) : Ent.Ok w ⟨nx L.a L.c m, L.n - m, L.c - m⟩ ∧ Ent.Ok w ⟨L.a, m, m⟩ ∧ ((nx L.a L.c m = none ∧ L.c - m = 0) ∨ ∃ b off, nx L.a L.c m = some ⟨b, off, none⟩) := by
  obtain ⟨h1, h2, h3, h3', h4⟩ := h
  rcases hf with ⟨e, e0⟩ | ⟨b', off, e⟩
  · refine ⟨⟨by show _ - _ ≤ _ - _; omega, by show _ - _ ≤ _; omega, by show _ - _ ≤ _; omega, fun _ => by show _ - _ = _; omega, .inl (by show _ - _ = _; omega)⟩, ⟨Nat.le_refl _, by show m ≤ _; omega, by show m ≤ _; omega, fun _ => by show m = _; omega, .inl (by show m = _; omega)⟩, .inl ⟨by simp [nx, e], by omega⟩⟩
  · have hx : nx L.a L.c m = some ⟨b', if L.c = m then off else off + m, none⟩ := by simp [nx, e]
    refine ⟨⟨by show _ - _ ≤ _ - _; omega, by show _ - _ ≤ _; omega, by show _ - _ ≤ _; omega, fun q => by rw [hx] at q; simp at q, ?_⟩, ⟨Nat.le_refl _, by show m ≤ _; omega, by show m ≤ _; omega, fun q => by have q' : L.a = none := q; rw [e] at q'; simp at q', ?_⟩, .inr ⟨_, _, hx⟩⟩
    · by_cases ec : L.c = m
      · exact .inl (by show _ - _ = _; omega)
      · rcases h4 with h4 | ⟨b, o, cur, e1, e2, e3⟩
        · exact .inl (by show _ - _ = _; omega)
        · rw [e] at e1
          simp at e1
          obtain ⟨rfl, rfl⟩ := e1
          exact .inr ⟨b', off + m, cur, by show nx _ _ _ = _; rw [hx, if_neg ec], e2, by show off + m + (L.c - m) ≤ _; omega⟩
    · rcases h4 with h4 | ⟨b, o, cur, e1, e2, e3⟩
      · exact .inl (by show m = _; omega)
      · exact .inr ⟨b, o, cur, e1, e2, by show o + m ≤ _; omega⟩
theorem nx_bs {w : World} {L : Ent} {m : Nat} {ys : List Int} (h : Bs w L.a L.n ys) (hc : L.n ≤ L.c) (hm : m ≤ L.n) : Bs w (nx L.a L.c m) (L.n - m) (ys.drop m) ∧ Bs w L.a m (ys.take m) := by
  obtain ⟨h1, h2, h3⟩ := h
  refine ⟨⟨by simp [h1], fun z hz => h2 z (List.mem_of_mem_drop hz), ?_⟩, ⟨by simp; omega, fun z hz => h2 z (List.mem_of_mem_take hz), ?_⟩⟩
  · rcases h3 with h3 | ⟨b, off, e, h3⟩
    · exact .inl (by omega)
    · by_cases ec : L.c = m
      · exact .inl (by omega)
      · refine .inr ⟨b, off + m, by simp [nx, e, ec], fun i hi => ?_⟩
        have q := h3 (m + i) (by omega)
        rw [Nat.add_assoc, q]
        simp [List.getD]
  · rcases h3 with h3 | ⟨b, off, e, h3⟩
    · exact .inl (by omega)
    · by_cases h0 : m = 0
      · exact .inl h0
      · refine .inr ⟨b, off, e, fun i hi => ?_⟩
        rw [h3 i (by omega)]
        simp [List.getD, hi]

/-- A piece of the reader. -/
theorem ow_read {w0 w : World} {k r m : Nat} {E : Nat → Ent} {L : Ent} {ys : List Int} {p : Int} (h : Ow w0 w k r m E L ys p) (q : Nat) (hq : q ≤ L.n) (hp : 0 ≤ p) (hp1 : p ≤ 1000000) :
    Calls Tryz.prog 11 #[.pointer (some ⟨r, 0, none⟩), .int .i64 q] w fun en w' => en = .returned (.slice L.a q q) ∧ Ow w0 w' k r m E ⟨nx L.a L.c q, L.n - q, L.c - q⟩ (ys.drop q) (p + q) ∧ Ent.Ok w' ⟨L.a, q, q⟩ ∧ Bs w' L.a q (ys.take q) ∧
      (∀ b x, Ent.In ⟨L.a, q, q⟩ b x → L.In b x) ∧ (∀ b x, Ent.In ⟨L.a, q, q⟩ b x → ¬ Ent.In ⟨nx L.a L.c q, L.n - q, L.c - q⟩ b x) ∧ Only r w w' := by
  have hk := h.lok
  have hnc : L.n ≤ L.c := hk.1
  refine (bytes_raw r L.n L.c q L.a p w h.rd h.lf hq hnc hk.2.1 (by have := hk.2.2.1; omega) hp (by omega)).mono ?_
  rintro en w' ⟨rfl, hr', ho⟩
  obtain ⟨o1, o2, o3⟩ := nx_ok hk h.lf hq
  obtain ⟨s1, s2⟩ := nx_bs h.lbs hnc hq
  obtain ⟨G, v2, v3, hbo⟩ := h.bo
  have hin := nx_in (w := w) (m := q) h.lf (by omega)
  refine ⟨rfl, ⟨⟨G, v2, v3, hbo.only (Nat.le_refl _) h.rd ho⟩, h.kl, h.el, hr', o3, o1.only h.rd ho, bs_only (e := ⟨nx L.a L.c q, L.n - q, L.c - q⟩) s1 o1 h.rd ho, fun b x hx => h.ll b x (hin b x hx).1, fun i hi b x hx hx' => h.dl i hi b x hx (hin b x hx').1, bel_only h.fr h.kl.2 ho⟩,
    o2.only h.rd ho, bs_only (e := ⟨L.a, q, q⟩) s2 o2 h.rd ho, ?_, fun b x hx hx' => (hin b x hx').2 hx, ho⟩
  rintro b x ⟨off, e1, e2, e3⟩
  exact ⟨off, e1, e2, by have e3' : x < off + q := e3; omega⟩
end Go.Proofs.YtjaecokhocbdlaaGreatDoor
