import Derived.Test.YtheafbbihejdmabDC
namespace Go.Proofs.Ytheafbbihejdmab
set_option maxRecDepth 100000
open Go.RowKit Go.Shelf
set_option linter.unusedVariables false

theorem sortAny_ (B m cp : Nat) (a : Option Addr) (fs : List (Int × Int)) (w : World) (ho : w.ownsRow B 49 2 (.slice a m cp) m (fcs fs)) (hB : B ≤ w.heap.size) (hm : m ≤ 140737488355328) :
    Calls Try.prog 30 #[.slice a m cp, .func (.func 31) #[] #[]] w fun e w' => e = .returned (.tuple #[]) ∧ (∃ ys : List (Int × Int), ys.Perm fs ∧ ys.Pairwise (fun a b => a.1 ≤ b.1) ∧ Fs w' a m ys ∧ ∀ ad, a = some ad → B ≤ ad.block ∧ ∃ cur', w'.heap[ad.block]? = some (.cells cur' 49 (0, 0))) ∧ Below B w w' := by
  obtain ⟨a', c', e, hf, _, _, hrow, hno⟩ := Fs.ofOwn ho
  obtain ⟨rfl, -, rfl⟩ : a = a' ∧ m = m ∧ cp = c' := by simpa using e
  by_cases hm0 : m = 0
  · subst hm0
    have hz : fs = [] := List.eq_nil_of_length_eq_zero hf.1
    subst hz
    refine (sort_none a cp w).mono ?_
    rintro e w' ⟨rfl, rfl⟩
    exact ⟨rfl, ⟨[], List.Perm.refl _, List.Pairwise.nil, hf, fun ad ha => ⟨(hrow ad ha).2.1, (hrow ad ha).2.2⟩⟩, Below.refl _ _⟩
  · cases a with
    | none =>
      rcases hf.2 with h0 | ⟨b, off, e, _⟩
      · exact absurd h0 hm0
      · cases e
    | some ad =>
      obtain ⟨h1, h2, cur, h3⟩ := hrow ad rfl
      obtain ⟨g, off, sp⟩ := ad
      simp at h1
      obtain ⟨rfl, rfl⟩ := h1
      refine (sort_ g m cp fs cur w h3 hf hm).mono ?_
      rintro e w' ⟨rfl, ys, p1, p2, p3, p4, p5⟩
      refine ⟨rfl, ⟨ys, p1, p2, p3, fun ad ha => ?_⟩, p5.os, p5.tape, p5.output, p5.size, fun b hb => p5.block b (by omega) (fun e => ?_)⟩
      · obtain rfl := Option.some.inj ha
        exact ⟨h2, p4⟩
      · have := Option.some.inj e
        simp only at h2
        omega
/-- What Arm answers, and how the device stands behind it. -/
def arE (s : St) (fs : List (Int × Int)) : Int := if okF fs then (if s.on then 0 else 104) else 105
def arS (s : St) (fs : List (Int × Int)) : St := if okF fs ∧ s.on = true then { s with F := lookF fs, c := 0 } else s
theorem Dk.more {w : World} {d : Nat} {s : St} {Q R : Nat → Prop} {gl : Nat} {pa : Option Addr} {pn pc go : Nat} {a : Option Addr} {m cp : Nat} {fs : List (Int × Int)} {I : List It} (h : Dk w d s Q gl pa pn pc go a m cp fs I) (hq : ∀ b, Q b → R b) (hl : ∀ b, R b → b < w.heap.size) : Dk w d s R gl pa pn pc go a m cp fs I :=
  ⟨h.dm, h.ls, h.own, h.hpn, fun x hx => (h.it x hx).weak hq, h.ip, h.ft, hq _ h.qd, hq _ h.ql, fun g e => hq _ (h.qp g e), hq _ h.qo, fun ad e => hq _ (h.qf ad e), hl, h.n0⟩
set_option maxHeartbeats 2000000 in
theorem arm_ (d : Nat) (s : St) (Q : Nat → Prop) (a1 : Option Addr) (m1 c1 : Nat) (fs : List (Int × Int)) (w : World) (h : Dev w d s Q) (hf : Fs w a1 m1 fs) (hm : m1 * 16 ≤ 140737488355328) :
    Calls Try.prog 15 #[.pointer (some ⟨d, 0, none⟩), .slice a1 m1 c1] w fun e w' => e = .returned (.int .i64 (arE s fs)) ∧ Dev w' d (arS s fs) (fun b => Q b ∨ (w.heap.size ≤ b ∧ b < w'.heap.size)) ∧ Fr Q w w' := by
  obtain ⟨gl, pa, pn, pc, go, a, m, cp, fs0, I, h⟩ := h
  have HD := hid h
  have kc := cloneF_ a1 m1 c1 fs w hf hm
  obtain ⟨E, HE⟩ : ∃ E, Hid (arE s fs = E) := ⟨_, rfl⟩
  obtain ⟨S', HS⟩ : ∃ S', Hid (arS s fs = S') := ⟨_, rfl⟩
  rw [HE.out, HS.out]
  clear h hf
  go_enter Try.func15, Try.ntmps15
  go_wp2_with fail
  refine kc.mono ?_
  rintro e w1 ⟨v, rfl, o1, g1⟩
  obtain ⟨a', c', rfl, _⟩ := Fs.ofOwn o1
  have ks := sortAny_ w.heap.size m1 c' a' fs w1 o1 g1.size (by omega)
  have G1 := hid g1
  clear kc o1 g1
  go_wp2_with fail
  refine ks.mono ?_
  rintro e w2 ⟨rfl, ⟨ys, p1, p2, p3, p4⟩, g2⟩
  have G2 := hid (G1.out.trans g2)
  have ka := armable_ a' m1 c' ys w2 p3 p2 (by omega)
  have P1 := hid p1
  have P2 := hid p2
  have P3 := hid p3
  have P4 := hid p4
  have HO : Hid (decide (okF ys) = decide (okF fs)) := by show _ = _; simp only [okF_perm p1]
  rw [HO.out] at ka
  clear ks p1 p2 p3 p4 g2 G1
  go_wp2_with fail
  refine ka.mono ?_
  rintro e w3 ⟨rfl, g3⟩
  have G3 := hid (bel_bel G2.out G2.out.size g3)
  have H3 := HD.out.below G3.out
  have m4 := H3.dm.c4
  have K3 := hid H3
  have F3 := hid (P3.out.below g3)
  have R3 : Hid (∀ ad, a' = some ad → w.heap.size ≤ ad.block ∧ ∃ cur', w3.heap[ad.block]? = some (.cells cur' 49 (0, 0))) := fun ad ha => by
    obtain ⟨q1, cur, q2⟩ := P4.out ad ha
    exact ⟨q1, cur, (g3.block _ (Array.getElem?_eq_some_iff.1 q2).1).trans q2⟩
  clear ka g3 P3 P4 H3 G2
  by_cases hok : okF fs
  case neg =>
    have HE5 : Hid (E = 105) := by show _ = _; rw [← HE.out]; unfold arE; rw [if_neg hok]
    have HSS : Hid (S' = s) := by show _ = _; rw [← HS.out]; unfold arS; rw [if_neg (fun h => hok h.1)]
    have e1 : decide (okF fs) = false := decide_eq_false hok
    clear hok
    go_wp2_with fail
    go_ret
    refine ⟨by rw [HE5.out]; rfl, ?_, .ofB G3.out⟩
    rw [HSS.out]
    exact ⟨_, _, _, _, _, _, _, _, _, _, K3.out.more (fun _ h => .inl h) (fun b hb => by
      rcases hb with hb | hb
      · exact K3.out.lt b hb
      · exact hb.2)⟩
  case pos =>
    have e1 : decide (okF fs) = true := decide_eq_true hok
    cases hon : s.on with
    | false =>
      have HE5 : Hid (E = 104) := by show _ = _; rw [← HE.out]; unfold arE; rw [if_pos hok, hon]; rfl
      have HSS : Hid (S' = s) := by show _ = _; rw [← HS.out]; unfold arS; rw [if_neg (fun h => by rw [hon] at h; cases h.2)]
      rw [hon] at m4
      clear hok hon
      go_wp2_with fail
      go_ret
      refine ⟨by rw [HE5.out]; rfl, ?_, .ofB G3.out⟩
      rw [HSS.out]
      exact ⟨_, _, _, _, _, _, _, _, _, _, K3.out.more (fun _ h => .inl h) (fun b hb => by
        rcases hb with hb | hb
        · exact K3.out.lt b hb
        · exact hb.2)⟩
    | true =>
      have HE5 : Hid (E = 0) := by show _ = _; rw [← HE.out]; unfold arE; rw [if_pos hok, hon]; rfl
      have HSS : Hid (S' = { s with F := lookF fs, c := 0 }) := by show _ = _; rw [← HS.out]; unfold arS; rw [if_pos ⟨hok, hon⟩]
      rw [hon] at m4
      have HYS : Hid (srt ys ∧ lookF ys = lookF fs) := by
        have hoky := (okF_perm P1.out).2 hok
        refine ⟨?_, lookF_perm P1.out hoky.2⟩
        refine (List.Pairwise.and P2.out hoky.2).imp ?_
        rintro a b ⟨h1, h2⟩
        omega
      have kx := expect_ d _ _ _ _ _ _ a' m1 c' w3 K3.out.dm
      clear hok hon
      go_wp2_with fail
      refine kx.mono ?_
      rintro e w4 ⟨rfl, hM, hB, hG⟩
      have s3 := G3.out.size
      have s4 := hG.size
      have hb4 := (Array.getElem?_eq_some_iff.1 hB).1
      have nd : ∀ {g : Nat} {cur : Array Value} {t : TypeId}, w3.heap[g]? = some (.cells cur t (0, 0)) → t ≠ 53 → w4.heap[g]? = w3.heap[g]? := fun h1 h2 => hG.block _ (Array.getElem?_eq_some_iff.1 h1).1 (fun e => K3.out.nd h1 h2 (Option.some.inj e))
      have hft : Ft w4 w3.heap.size (lookF fs) a' m1 c' ys := by
        refine ⟨hB, fun ad ha => ?_, F3.out.at (fun ad ha => ?_), HYS.out.1, by omega, HYS.out.2.symm⟩
        · obtain ⟨_, cur, q⟩ := R3.out ad ha
          exact ⟨cur, (nd q (by decide)).trans q⟩
        · obtain ⟨_, cur, q⟩ := R3.out ad ha
          exact nd q (by decide)
      have K4 := K3.out.arm (Q' := fun b => Q b ∨ (w.heap.size ≤ b ∧ b < w4.heap.size)) hM hG hft (fun _ h => .inl h) (fun b hb => by
        rcases hb with hb | hb
        · exact Nat.lt_of_lt_of_le (K3.out.lt b hb) s4
        · exact hb.2) (.inr ⟨s3, hb4⟩) (fun ad ha => by
        obtain ⟨q1, cur, q⟩ := R3.out ad ha
        exact .inr ⟨q1, Nat.lt_of_lt_of_le (Array.getElem?_eq_some_iff.1 q).1 s4⟩)
      have HK4 := hid K4
      have HF4 := hid ((Fr.ofB (Q := Q) G3.out).trans (.of hG K3.out.qd))
      clear kx hM hB hG hft K4 K3 m4 F3 R3 nd
      go_wp2_with fail
      go_ret
      refine ⟨by rw [HE5.out]; rfl, ?_, HF4.out⟩
      rw [HSS.out]
      exact ⟨_, _, _, _, _, _, _, _, _, _, HK4.out⟩
theorem own_set {w : World} {B n cap g sz : Nat} {t : TypeId} {xs : List Value} (h : w.ownsRow B t sz (.slice (some ⟨g, 0, none⟩) n cap) n xs) (i : Nat) (u : Value) : (w.setCell ⟨g, i, none⟩ u).ownsRow B t sz (.slice (some ⟨g, 0, none⟩) n cap) n (xs.set i u) := by
  obtain ⟨h1, h2⟩ := h
  refine ⟨by rw [List.length_set]; exact h1, ?_⟩
  rcases h2 with ⟨h2, _⟩ | ⟨g', cap', cur, e, hb, hg, hnc, hcm, hs, ht⟩
  · simp at h2
  · simp at e
    obtain ⟨rfl, rfl⟩ := e
    refine .inr ⟨g, cap, cur.setIfInBounds i u, rfl, hb, by simp [World.setCell, Array.getElem?_modify, hg], hnc, hcm, by simpa using hs, ?_⟩
    rw [Array.toList_setIfInBounds, List.take_set, ht]
theorem pcs_set (K D : List It) (x y : It) (h : y.S = x.S) : (pcs (K ++ x :: D)).set (K.length * 2 + 1) (.slice (some ⟨y.g, 0, none⟩) 512 y.c) = pcs (K ++ y :: D) := by
  rw [pcs_app, pcs_app, ← pcs_length, List.set_append_right _ _ (by omega), show (pcs K).length + 1 - (pcs K).length = 1 from by omega]
  simp [pcs, h]
/-- Writes handed out: the same sectors and bytes, in blocks of their own. -/
structure Pl (w : World) (B : Nat) (v : Value) (P : List (Nat × List Int)) (J : List It) : Prop where
  own : w.ownsRow B 58 2 v J.length (pcs J)
  it : ∀ x ∈ J, Bs w (some ⟨x.g, 0, none⟩) 512 x.Z ∧ (∃ cur, w.heap[x.g]? = some (.cells cur 5 (0, 0))) ∧ B ≤ x.g ∧ 512 ≤ x.c ∧ x.c ≤ maxLen
  ip : P = J.map fun x => (x.S, x.Z)
end Go.Proofs.Ytheafbbihejdmab
