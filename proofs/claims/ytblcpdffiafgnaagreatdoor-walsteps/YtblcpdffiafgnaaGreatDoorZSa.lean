import Derived.Test.YtblcpdffiafgnaaGreatDoorZA
namespace Go.Proofs.YtblcpdffiafgnaaGreatDoor
set_option linter.unusedSimpArgs false
set_option maxRecDepth 100000
open Go.RowKit Go.Shelf
set_option linter.unusedVariables false
set_option linter.unusedSimpArgs false

/-- A safe log over its device, both in a town's hand; all of it lies behind w1. -/
structure Wt (w1 w : World) (t gl g d k ep nx pl : Nat) (se : Bool) (s : St) : Prop where
  q : ∃ Q, Wq w g d k ep nx pl se false s Q ∧ (∀ b, Q b → w1.heap.size ≤ b) ∧ ¬ Q t
  gt : g ≠ t
  hg : w1.heap.size ≤ g
  c0 : w.cell? ⟨t, 0, none⟩ = some (.pointer (some ⟨d, 0, none⟩))
  c1 : w.cell? ⟨t, 1, none⟩ = some (.pointer (some ⟨gl, 0, none⟩))
  ht : w1.heap.size ≤ t
  bel : Below w1.heap.size w1 w
section
variable {w1 w w' : World} {t gl g d k ep nx pl : Nat} {se : Bool} {s s' : St}
theorem Wt.tl (h : Wt w1 w t gl g d k ep nx pl se s) : t < w.heap.size := World.block_lt_of_cell? _ _ h.c0
theorem Wt.below (h : Wt w1 w t gl g d k ep nx pl se s) (hb : Below w.heap.size w w') : Wt w1 w' t gl g d k ep nx pl se s := by
  obtain ⟨Q, q1, q2, q3⟩ := h.q
  exact ⟨⟨Q, q1.below hb, q2, q3⟩, h.gt, h.hg, (hb.cell (p := ⟨t, 0, none⟩) h.tl).trans h.c0, (hb.cell (p := ⟨t, 1, none⟩) h.tl).trans h.c1, h.ht, bel_bel h.bel h.bel.size hb⟩
theorem Wt.wz {ep' nx' pl' : Nat} {se' : Bool} {Q : Nat → Prop} (h : Wt w1 w t gl g d k ep nx pl se s) (q1 : Wq w g d k ep nx pl se false s Q) (q2 : ∀ b, Q b → w1.heap.size ≤ b) (q3 : ¬ Q t) (z : Wz w w' g d k ep' nx' pl' se' false s' Q) : Wt w1 w' t gl g d k ep' nx' pl' se' s' := by
  have hs := h.bel.size
  have htl := h.tl
  have hnt : ¬ Qg Q g t := fun q => by
    rcases q with q | q
    · exact q3 q
    · exact h.gt q.symm
  refine ⟨⟨_, z.q, fun b q => ?_, fun q => ?_⟩, h.gt, h.hg, (World.cell?_of_block (w := w) (a := ⟨t, 0, none⟩) (z.f.same t htl hnt)).trans h.c0, (World.cell?_of_block (w := w) (a := ⟨t, 1, none⟩) (z.f.same t htl hnt)).trans h.c1, h.ht, h.bel.trans (z.f.under hs (fun b q => ?_))⟩
  · rcases q with q | q
    · exact q2 b q
    · omega
  · rcases q with q | q
    · exact q3 q
    · omega
  · rcases q with q | q
    · exact q2 b q
    · exact q ▸ h.hg
theorem Wt.dev {Q Q' : Nat → Prop} (h : Wt w1 w t gl g d k ep nx pl se s) (q1 : Wq w g d k ep nx pl se false s Q) (q2 : ∀ b, Q b → w1.heap.size ≤ b) (q3 : ¬ Q t) (hd : Dev w' d s' (fun b => Q b ∨ (w.heap.size ≤ b ∧ b < w'.heap.size))) (hf : Fr Q w w') : Wt w1 w' t gl g d k ep nx pl se s' := by
  have hs := h.bel.size
  have htl := h.tl
  refine ⟨⟨_, q1.devn hd hf, fun b q => ?_, fun q => ?_⟩, h.gt, h.hg, (World.cell?_of_block (w := w) (a := ⟨t, 0, none⟩) (hf.same t htl q3)).trans h.c0, (World.cell?_of_block (w := w) (a := ⟨t, 1, none⟩) (hf.same t htl q3)).trans h.c1, h.ht, h.bel.trans (hf.under hs q2)⟩
  · rcases q with q | q
    · exact q2 b q
    · omega
  · rcases q with q | q
    · exact q3 q
    · omega
theorem wt_arm0 (h : Wt w1 w t gl g d k ep nx pl se s) : Calls Tryz.prog 16 #[.pointer (some ⟨d, 0, none⟩), .slice none 0 0] w fun en w' => en = .returned (.int .i64 (arE s [])) ∧ Wt w1 w' t gl g d k ep nx pl se (arS s []) := by
  obtain ⟨Q, q1, q2, q3⟩ := h.q
  refine (arm_ d s Q none 0 0 [] w q1.dv ⟨rfl, .inl rfl⟩ (by omega)).mono ?_
  rintro en w' ⟨rfl, D, F⟩
  exact ⟨rfl, h.dev (Q' := Q) q1 q2 q3 D F⟩
theorem wt_crash0 (h : Wt w1 w t gl g d k ep nx pl se s) (hP : s.P = []) : Calls Tryz.prog 26 #[.pointer (some ⟨d, 0, none⟩), .slice none 0 0] w fun en w' => en = .returned (.tuple #[]) ∧ Wt w1 w' t gl g d k ep nx pl se (crS s []) := by
  obtain ⟨Q, q1, q2, q3⟩ := h.q
  refine (crash_ d s Q none 0 0 [] w q1.dv (by rw [hP]; simp) ⟨rfl, .inl rfl⟩ (fun ad e => by cases e) (by omega)).mono ?_
  rintro en w' ⟨rfl, D, F⟩
  exact ⟨rfl, h.dev (Q' := Q) q1 q2 q3 D F⟩
theorem wt_done (h : Wt w1 w t gl g d k ep nx pl se s) : Calls Tryz.prog 24 #[.pointer (some ⟨d, 0, none⟩)] w fun e w' => e = .returned (.int .i64 s.c) ∧ w' = w := by
  obtain ⟨Q, q1, q2, q3⟩ := h.q
  exact doneD q1.dv
theorem wt_state (h : Wt w1 w t gl g d k ep nx pl se s) (hk : s.k = k) : Calls Tryz.prog 17 #[.pointer (some ⟨g, 0, none⟩)] w fun en w' => en = .returned (.tuple #[.int .i64 ep, .int .i64 nx, .int .i64 pl]) ∧ Wt w1 w' t gl g d k ep nx pl se s := by
  obtain ⟨Q, q1, q2, q3⟩ := h.q
  refine (wstate_o q1 (edd_no hk)).mono ?_
  rintro en w' ⟨rfl, hd⟩
  exact ⟨rfl, h.below hd.below⟩
theorem wt_left (h : Wt w1 w t gl g d k ep nx pl se s) (hk : s.k = k) (hp : pl ≤ roo s.n) : Calls Tryz.prog 18 #[.pointer (some ⟨g, 0, none⟩)] w fun en w' => en = .returned (.int .i64 ((roo s.n - pl : Nat) : Int)) ∧ Wt w1 w' t gl g d k ep nx pl se s := by
  obtain ⟨Q, q1, q2, q3⟩ := h.q
  refine (wleft_o q1 (edd_no hk) hp).mono ?_
  rintro en w' ⟨rfl, hd⟩
  exact ⟨rfl, h.below hd.below⟩
theorem wt_room (h : Wt w1 w t gl g d k ep nx pl se s) (hk : s.k = k) : Calls Tryz.prog 19 #[.pointer (some ⟨g, 0, none⟩)] w fun en w' => en = .returned (.int .i64 (roo s.n)) ∧ Wt w1 w' t gl g d k ep nx pl se s := by
  obtain ⟨Q, q1, q2, q3⟩ := h.q
  refine (wroomL_o q1 (edd_no hk)).mono ?_
  rintro en w' ⟨rfl, hd⟩
  exact ⟨rfl, h.below hd.below⟩
theorem wt_appno (h : Wt w1 w t gl g d k ep nx pl true s) (hk : s.k = k) (hp : pl ≤ roo s.n) (a : Option Addr) (m c : Nat) (hm : m ≤ 9223372036854775807) (hE : aE true m nx pl (roo s.n) ≠ 0) : Calls Tryz.prog 20 #[.pointer (some ⟨g, 0, none⟩), .slice a m c] w fun en w' => en = .returned (.int .i64 (aE true m nx pl (roo s.n))) ∧ Wt w1 w' t gl g d k ep nx pl true s := by
  obtain ⟨Q, q1, q2, q3⟩ := h.q
  have ka := wapp_no q1 a m c hm hp (by rw [edd_no hk]; exact hE)
  rw [edd_no hk] at ka
  refine ka.mono ?_
  rintro en w' ⟨rfl, hd⟩
  exact ⟨rfl, h.below hd.below⟩
theorem wt_ckno (h : Wt w1 w t gl g d k ep nx pl true s) (hk : s.k = k) (a : Option Addr) (m c : Nat) (hm : m ≤ 9223372036854775807) (hE : kE true m ep nx (roo s.n) ≠ 0) : Calls Tryz.prog 25 #[.pointer (some ⟨g, 0, none⟩), .slice a m c] w fun en w' => en = .returned (.int .i64 (kE true m ep nx (roo s.n))) ∧ Wt w1 w' t gl g d k ep nx pl true s := by
  obtain ⟨Q, q1, q2, q3⟩ := h.q
  have ka := wchk_no q1 a m c hm (by rw [edd_no hk]; exact hE)
  rw [edd_no hk] at ka
  refine ka.mono ?_
  rintro en w' ⟨rfl, hd⟩
  exact ⟨rfl, h.below hd.below⟩
theorem wt_app (h : Wt w1 w t gl g d k ep nx pl true s) {a0 : Ac} {C : Nat} (hs : Ks s ep nx pl a0 C) (hx : nx ≤ 50) (hC : C ≤ 1000) (hk : s.k = k) {a : Option Addr} {m c : Nat} {tx : List Int} (D : Dt w1 a m c tx) (h0 : 0 < m) (h2 : m ≤ 4800) (hp : pl + ned m ≤ roo s.n) : Calls Tryz.prog 20 #[.pointer (some ⟨g, 0, none⟩), .slice a m c] w fun en w' => en = .returned (.int .i64 0) ∧ Wt w1 w' t gl g d k ep (nx + 1) (pl + ned m) true (apR s s.n ep nx pl tx).2 := by
  obtain ⟨Q, q1, q2, q3⟩ := h.q
  obtain ⟨p1, p2, p3, p4, p5⟩ := hs.pl
  have D' := D.below h.bel
  have hl : tx.length = m := D.b.1
  have e0 := (hs.app hx D.b.2.1 (by omega) (by omega) (by rw [hl]; exact hp)).1
  have ka := wapp_ q1 hk.symm a m c tx D'.b (fun ad ha h0 => by
    have h1 := D.lt ad ha h0
    exact ⟨fun q => by have := q2 _ q; omega, fun q => by have := h.hg; omega⟩) D.c D.m h0 h2 ⟨by omega, by omega⟩ ⟨by omega, by omega⟩ hp (by rw [hs.c]; omega) (by rw [hs.P]; simp)
  rw [e0] at ka
  refine ka.mono ?_
  rintro en w' ⟨rfl, z⟩
  exact ⟨rfl, h.wz q1 q2 q3 z⟩
theorem wt_ck (h : Wt w1 w t gl g d k ep nx pl true s) {a0 : Ac} {C : Nat} (hs : Ks s ep nx pl a0 C) (hx : ep ≤ 50) (hC : C ≤ 1000) (hk : s.k = k) {a : Option Addr} {m c : Nat} {st : List Int} (D : Dt w1 a m c st) (hp : pcN m + 11 ≤ roo s.n) : Calls Tryz.prog 25 #[.pointer (some ⟨g, 0, none⟩), .slice a m c] w fun en w' => en = .returned (.int .i64 0) ∧ Wt w1 w' t gl g d k (ep + 1) nx (pcN m) true (ckp s s.n ep nx st).2 := by
  obtain ⟨Q, q1, q2, q3⟩ := h.q
  obtain ⟨p1, p2, p3, p4, p5⟩ := hs.pl
  have D' := D.below h.bel
  have hl : st.length = m := D.b.1
  have e0 := (hs.ck hx D.b.2.1 (by rw [hl]; exact hp)).1
  have ka := wchk_ q1 hk.symm a m c st D'.b (fun ad ha h0 => by
    have h1 := D.lt ad ha h0
    exact ⟨fun q => by have := q2 _ q; omega, fun q => by have := h.hg; omega⟩) D.c D.m ⟨by omega, by omega⟩ ⟨by omega, by omega⟩ hp (by rw [hs.c]; omega) (by rw [hs.P]; simp)
  rw [e0] at ka
  refine ka.mono ?_
  rintro en w' ⟨rfl, z⟩
  exact ⟨rfl, h.wz q1 q2 q3 z⟩
/-- An Open behind a crash. -/
theorem wt_open (h : Wt w1 w t gl g d k ep nx pl se (crS s [])) {a0 : Ac} {C : Nat} {ep0 nx0 pl0 : Nat} (hs : Ks s ep0 nx0 pl0 a0 C) : Calls Tryz.prog 27 #[.pointer (some ⟨d, 0, none⟩)] w fun en w' => ∃ g2 a1 n1 c1 a2 c2 s' e' n' p', en = .returned (.tuple #[.pointer (some ⟨g2, 0, none⟩), .slice a1 n1 c1, .slice a2 a0.2.length c2, .int .i64 0]) ∧ Wt w1 w' t gl g2 d (s.k + 1) e' n' p' false s' ∧ s'.c ≤ roo s.n + 2 ∧ s'.k = s.k + 1 ∧ s'.P = [] ∧ opE s' = 0 ∧ (flS s').c = s'.c + 1 := by
  obtain ⟨Q, q1, q2, q3⟩ := h.q
  have hkk := hs.k
  obtain ⟨s', e', n', p', r1, r2, r3, r4, r5, r6, r7, r8⟩ := hs.opens
  have ko := open_ d (crS s []) Q w q1.dv q1.tb q1.n0 (Nat.zero_le _) (Nat.zero_le _) (by show s.k ≤ _; omega)
  have r1' : (onP (crS s []).n).run { (crS s []) with k := (crS s []).k + 1 } = (.ok (some (a0.1, a0.2, e', n', p')), s') := r1
  rw [r1'] at ko
  refine ko.mono ?_
  rintro en w' ⟨hen, D, F⟩
  simp only [opPost] at hen
  obtain ⟨g2, v, vt, xs, rfl, hg2, ov, byv, ovt, hxs, hel, hW, hpl, hmq⟩ := hen
  obtain ⟨a1, c1, rfl, _⟩ := own_form (own_mono ov (Nat.zero_le _)) byv
  obtain ⟨a2, c2, rfl⟩ := own_sl12 ovt
  have hxl : xs.length = a0.2.length := by rw [← hxs]; simp
  rw [hxl]
  have hs1 := h.bel.size
  have htl := h.tl
  refine ⟨g2, a1, _, c1, a2, c2, s', e', n', p', rfl, ⟨⟨Q, hW, q2, q3⟩, by omega, by omega, (World.cell?_of_block (w := w) (a := ⟨t, 0, none⟩) (F.same t htl q3)).trans h.c0, (World.cell?_of_block (w := w) (a := ⟨t, 1, none⟩) (F.same t htl q3)).trans h.c1, h.ht, h.bel.trans (F.under hs1 q2)⟩, r2, r3, r4, r6, r7⟩
theorem wt_safe (h : Wt w1 w t gl g d k ep nx pl false s) (hk : s.k = k) (hP : s.P = []) (hc : s.c ≤ 1000) (hE : opE s = 0) : Calls Tryz.prog 28 #[.pointer (some ⟨g, 0, none⟩)] w fun en w' => en = .returned (.int .i64 0) ∧ Wt w1 w' t gl g d k ep nx pl true (flS s) := by
  obtain ⟨Q, q1, q2, q3⟩ := h.q
  have ks := wsafe_f g d _ _ _ _ _ s _ w q1 (edd_no hk) (by omega) (by rw [hP]; simp)
  rw [hE] at ks
  refine ks.mono ?_
  rintro en w' ⟨rfl, z⟩
  exact ⟨rfl, h.wz q1 q2 q3 z⟩
end
end Go.Proofs.YtblcpdffiafgnaaGreatDoor
