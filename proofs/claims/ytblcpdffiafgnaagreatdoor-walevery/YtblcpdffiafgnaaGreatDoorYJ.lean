import Derived.Test.YtblcpdffiafgnaaGreatDoorDC
import Derived.Deep.RegionHeldLaw
import Derived.Deep.RegionHeld
import Derived.BigQuiet
import Derived.Test.YtblcpdffiafgnaaGreatDoorSMath
namespace Go.Proofs.YtblcpdffiafgnaaGreatDoor
set_option linter.unusedSimpArgs false
set_option maxRecDepth 100000
open Go.RowKit Go.Shelf
set_option linter.unusedVariables false

theorem sortAny_ (B m cp : Nat) (a : Option Addr) (fs : List (Int × Int)) (w : World) (ho : w.ownsRow B 50 2 (.slice a m cp) m (fcs fs)) (hB : B ≤ w.heap.size) (hm : m ≤ 140737488355328) :
    Calls Tryz.prog 40 #[.slice a m cp, .func (.func 41) #[] #[]] w fun e w' => e = .returned (.tuple #[]) ∧ (∃ ys : List (Int × Int), ys.Perm fs ∧ ys.Pairwise (fun a b => a.1 ≤ b.1) ∧ Fs w' a m ys ∧ ∀ ad, a = some ad → B ≤ ad.block ∧ ∃ cur', w'.heap[ad.block]? = some (.cells cur' 50 (0, 0))) ∧ Below B w w' := by
  obtain ⟨a', c', e, hf, _, _, hrow, hno⟩ := Fs.ofOwn ho
  obtain ⟨rfl, -, rfl⟩ : a = a' ∧ m = m ∧ cp = c' := by simpa using e
  by_cases hm0 : m = 0
  · subst hm0
    have hz : fs = [] := List.eq_nil_of_length_eq_zero hf.1
    subst hz
    refine (sort_none a cp w).mono ?_
    rintro e w' ⟨rfl, rfl⟩
    exact ⟨rfl, ⟨[], List.Perm.refl _, List.Pairwise.nil, hf, fun ad ha => ⟨(hrow ad ha).2.1, (hrow ad ha).2.2⟩⟩, Below.refl _ _⟩
  · cases a with
    | none =>
      rcases hf.2 with h0 | ⟨b, off, e, _⟩
      · exact absurd h0 hm0
      · cases e
    | some ad =>
      obtain ⟨h1, h2, cur, h3⟩ := hrow ad rfl
      obtain ⟨g, off, sp⟩ := ad
      simp at h1
      obtain ⟨rfl, rfl⟩ := h1
      refine (sort_ g m cp fs cur w h3 hf hm).mono ?_
      rintro e w' ⟨rfl, ys, p1, p2, p3, p4, p5⟩
      refine ⟨rfl, ⟨ys, p1, p2, p3, fun ad ha => ?_⟩, p5.os, p5.tape, p5.output, p5.size, fun b hb => p5.block b (by omega) (fun e => ?_)⟩
      · obtain rfl := Option.some.inj ha
        exact ⟨h2, p4⟩
      · have := Option.some.inj e
        simp only at h2
        omega
/-- What Arm answers, and how the device stands behind it. -/
def arE (s : St) (fs : List (Int × Int)) : Int := if okF fs then (if s.on then 0 else 104) else 105
def arS (s : St) (fs : List (Int × Int)) : St := if okF fs ∧ s.on = true then { s with F := lookF fs, c := 0 } else s
theorem Dk.more {w : World} {d : Nat} {s : St} {Q R : Nat → Prop} {gl : Nat} {pa : Option Addr} {pn pc go : Nat} {a : Option Addr} {m cp : Nat} {fs : List (Int × Int)} {I : List It} (h : Dk w d s Q gl pa pn pc go a m cp fs I) (hq : ∀ b, Q b → R b) (hl : ∀ b, R b → b < w.heap.size) : Dk w d s R gl pa pn pc go a m cp fs I :=
  ⟨h.dm, h.ls, h.own, h.hpn, fun x hx => (h.it x hx).weak hq, h.ip, h.ft, hq _ h.qd, hq _ h.ql, fun g e => hq _ (h.qp g e), hq _ h.qo, fun ad e => hq _ (h.qf ad e), hl, h.n0⟩
set_option maxHeartbeats 2000000 in
theorem arm_ (d : Nat) (s : St) (Q : Nat → Prop) (a1 : Option Addr) (m1 c1 : Nat) (fs : List (Int × Int)) (w : World) (h : Dev w d s Q) (hf : Fs w a1 m1 fs) (hm : m1 * 16 ≤ 140737488355328) :
    Calls Tryz.prog 16 #[.pointer (some ⟨d, 0, none⟩), .slice a1 m1 c1] w fun e w' => e = .returned (.int .i64 (arE s fs)) ∧ Dev w' d (arS s fs) (fun b => Q b ∨ (w.heap.size ≤ b ∧ b < w'.heap.size)) ∧ Fr Q w w' := by
  obtain ⟨gl, pa, pn, pc, go, a, m, cp, fs0, I, h⟩ := h
  have HD := hid h
  have kc := cloneF_ a1 m1 c1 fs w hf hm
  obtain ⟨E, HE⟩ : ∃ E, Hid (arE s fs = E) := ⟨_, rfl⟩
  obtain ⟨S', HS⟩ : ∃ S', Hid (arS s fs = S') := ⟨_, rfl⟩
  rw [HE.out, HS.out]
  clear h hf
  go_enter Tryz.func16, Tryz.ntmps16
  go_wp2_with fail
  refine kc.mono ?_
  rintro e w1 ⟨v, rfl, o1, g1⟩
  obtain ⟨a', c', rfl, _⟩ := Fs.ofOwn o1
  have ks := sortAny_ w.heap.size m1 c' a' fs w1 o1 g1.size (by omega)
  have G1 := hid g1
  clear kc o1 g1
  go_wp2_with fail
  refine ks.mono ?_
  rintro e w2 ⟨rfl, ⟨ys, p1, p2, p3, p4⟩, g2⟩
  have G2 := hid (G1.out.trans g2)
  have ka := armable_ a' m1 c' ys w2 p3 p2 (by omega)
  have P1 := hid p1
  have P2 := hid p2
  have P3 := hid p3
  have P4 := hid p4
  have HO : Hid (decide (okF ys) = decide (okF fs)) := by show _ = _; simp only [okF_perm p1]
  rw [HO.out] at ka
  clear ks p1 p2 p3 p4 g2 G1
  go_wp2_with fail
  refine ka.mono ?_
  rintro e w3 ⟨rfl, g3⟩
  have G3 := hid (bel_bel G2.out G2.out.size g3)
  have H3 := HD.out.below G3.out
  have m4 := H3.dm.c4
  have K3 := hid H3
  have F3 := hid (P3.out.below g3)
  have R3 : Hid (∀ ad, a' = some ad → w.heap.size ≤ ad.block ∧ ∃ cur', w3.heap[ad.block]? = some (.cells cur' 50 (0, 0))) := fun ad ha => by
    obtain ⟨q1, cur, q2⟩ := P4.out ad ha
    exact ⟨q1, cur, (g3.block _ (Array.getElem?_eq_some_iff.1 q2).1).trans q2⟩
  clear ka g3 P3 P4 H3 G2
  by_cases hok : okF fs
  case neg =>
    have HE5 : Hid (E = 105) := by show _ = _; rw [← HE.out]; unfold arE; rw [if_neg hok]
    have HSS : Hid (S' = s) := by show _ = _; rw [← HS.out]; unfold arS; rw [if_neg (fun h => hok h.1)]
    have e1 : decide (okF fs) = false := decide_eq_false hok
    clear hok
    go_wp2_with fail
    go_ret
    refine ⟨by rw [HE5.out]; rfl, ?_, .ofB G3.out⟩
    rw [HSS.out]
    exact ⟨_, _, _, _, _, _, _, _, _, _, K3.out.more (fun _ h => .inl h) (fun b hb => by
      rcases hb with hb | hb
      · exact K3.out.lt b hb
      · exact hb.2)⟩
  case pos =>
    have e1 : decide (okF fs) = true := decide_eq_true hok
    cases hon : s.on with
    | false =>
      have HE5 : Hid (E = 104) := by show _ = _; rw [← HE.out]; unfold arE; rw [if_pos hok, hon]; rfl
      have HSS : Hid (S' = s) := by show _ = _; rw [← HS.out]; unfold arS; rw [if_neg (fun h => by rw [hon] at h; cases h.2)]
      rw [hon] at m4
      clear hok hon
      go_wp2_with fail
      go_ret
      refine ⟨by rw [HE5.out]; rfl, ?_, .ofB G3.out⟩
      rw [HSS.out]
      exact ⟨_, _, _, _, _, _, _, _, _, _, K3.out.more (fun _ h => .inl h) (fun b hb => by
        rcases hb with hb | hb
        · exact K3.out.lt b hb
        · exact hb.2)⟩
    | true =>
      have HE5 : Hid (E = 0) := by show _ = _; rw [← HE.out]; unfold arE; rw [if_pos hok, hon]; rfl
      have HSS : Hid (S' = { s with F := lookF fs, c := 0 }) := by show _ = _; rw [← HS.out]; unfold arS; rw [if_pos ⟨hok, hon⟩]
      rw [hon] at m4
      have HYS : Hid (srt ys ∧ lookF ys = lookF fs) := by
        have hoky := (okF_perm P1.out).2 hok
        refine ⟨?_, lookF_perm P1.out hoky.2⟩
        refine (List.Pairwise.and P2.out hoky.2).imp ?_
        rintro a b ⟨h1, h2⟩
        omega
      have kx := expect_ d _ _ _ _ _ _ a' m1 c' w3 K3.out.dm
      clear hok hon
      go_wp2_with fail
      refine kx.mono ?_
      rintro e w4 ⟨rfl, hM, hB, hG⟩
      have s3 := G3.out.size
      have s4 := hG.size
      have hb4 := (Array.getElem?_eq_some_iff.1 hB).1
      have nd : ∀ {g : Nat} {cur : Array Value} {t : TypeId}, w3.heap[g]? = some (.cells cur t (0, 0)) → t ≠ 80 → w4.heap[g]? = w3.heap[g]? := fun h1 h2 => hG.block _ (Array.getElem?_eq_some_iff.1 h1).1 (fun e => K3.out.nd h1 h2 (Option.some.inj e))
      have hft : Ft w4 w3.heap.size (lookF fs) a' m1 c' ys := by
        refine ⟨hB, fun ad ha => ?_, F3.out.at (fun ad ha => ?_), HYS.out.1, by omega, HYS.out.2.symm⟩
        · obtain ⟨_, cur, q⟩ := R3.out ad ha
          exact ⟨cur, (nd q (by decide)).trans q⟩
        · obtain ⟨_, cur, q⟩ := R3.out ad ha
          exact nd q (by decide)
      have K4 := K3.out.arm (Q' := fun b => Q b ∨ (w.heap.size ≤ b ∧ b < w4.heap.size)) hM hG hft (fun _ h => .inl h) (fun b hb => by
        rcases hb with hb | hb
        · exact Nat.lt_of_lt_of_le (K3.out.lt b hb) s4
        · exact hb.2) (.inr ⟨s3, hb4⟩) (fun ad ha => by
        obtain ⟨q1, cur, q⟩ := R3.out ad ha
        exact .inr ⟨q1, Nat.lt_of_lt_of_le (Array.getElem?_eq_some_iff.1 q).1 s4⟩)
      have HK4 := hid K4
      have HF4 := hid ((Fr.ofB (Q := Q) G3.out).trans (.of hG K3.out.qd))
      clear kx hM hB hG hft K4 K3 m4 F3 R3 nd
      go_wp2_with fail
      go_ret
      refine ⟨by rw [HE5.out]; rfl, ?_, HF4.out⟩
      rw [HSS.out]
      exact ⟨_, _, _, _, _, _, _, _, _, _, HK4.out⟩
theorem own_setD {w : World} {B n cap g sz : Nat} {t : TypeId} {xs : List Value} (h : w.ownsRow B t sz (.slice (some ⟨g, 0, none⟩) n cap) n xs) (i : Nat) (u : Value) : (w.setCell ⟨g, i, none⟩ u).ownsRow B t sz (.slice (some ⟨g, 0, none⟩) n cap) n (xs.set i u) := by
  obtain ⟨h1, h2⟩ := h
  refine ⟨by rw [List.length_set]; exact h1, ?_⟩
  rcases h2 with ⟨h2, _⟩ | ⟨g', cap', cur, e, hb, hg, hnc, hcm, hs, ht⟩
  · simp at h2
  · simp at e
    obtain ⟨rfl, rfl⟩ := e
    refine .inr ⟨g, cap, cur.setIfInBounds i u, rfl, hb, by simp [World.setCell, Array.getElem?_modify, hg], hnc, hcm, by simpa using hs, ?_⟩
    rw [Array.toList_setIfInBounds, List.take_set, ht]
theorem pcs_set (K D : List It) (x y : It) (h : y.S = x.S) : (pcs (K ++ x :: D)).set (K.length * 2 + 1) (.slice (some ⟨y.g, 0, none⟩) 512 y.c) = pcs (K ++ y :: D) := by
  rw [pcs_app, pcs_app, ← pcs_length, List.set_append_right _ _ (by omega), show (pcs K).length + 1 - (pcs K).length = 1 from by omega]
  simp [pcs, h]
/-- Writes handed out: the same sectors and bytes, in blocks of their own. -/
structure Pl (w : World) (B : Nat) (v : Value) (P : List (Nat × List Int)) (J : List It) : Prop where
  own : w.ownsRow B 95 2 v J.length (pcs J)
  it : ∀ x ∈ J, Bs w (some ⟨x.g, 0, none⟩) 512 x.Z ∧ (∃ cur, w.heap[x.g]? = some (.cells cur 5 (0, 0))) ∧ B ≤ x.g ∧ 512 ≤ x.c ∧ x.c ≤ maxLen
  ip : P = J.map fun x => (x.S, x.Z)
end Go.Proofs.YtblcpdffiafgnaaGreatDoor
namespace Go.Proofs.YtblcpdffiafgnaaGreatDoor
set_option linter.unusedSimpArgs false
set_option maxRecDepth 100000
open Go.RowKit Go.Shelf
set_option linter.unusedVariables false
set_option linter.unusedSimpArgs false

/-! An Append. -/
def apT (T : Tp) (tx : List Int) : Tp :=
  match T.lg with
  | none => T
  | some (ep, nx, pl) => if T.safe = false then T else if aE true tx.length nx pl (roo T.s.n) ≠ 0 then T else
    if (apR T.s T.s.n ep nx pl tx).1 = 0 then { T with s := (apR T.s T.s.n ep nx pl tx).2, lg := some (ep, nx + 1, pl + ned tx.length), A := (T.A.1, T.A.2 ++ [tx]) }
    else { T with s := (apR T.s T.s.n ep nx pl tx).2, lg := none, op := true, M := (T.A.1, T.A.2 ++ [tx]) }
def ckT (T : Tp) (st : List Int) : Tp :=
  match T.lg with
  | none => T
  | some (ep, nx, pl) => if T.safe = false then T else if kE true st.length ep nx (roo T.s.n) ≠ 0 then T else
    if (ckp T.s T.s.n ep nx st).1 = 0 then { T with s := (ckp T.s T.s.n ep nx st).2, lg := some (ep + 1, nx, pcN st.length), A := (st, []) }
    else { T with s := (ckp T.s T.s.n ep nx st).2, lg := none, op := true, M := (st, []) }
def crT (T : Tp) (ks : List Bool) : Tp := { T with s := crS T.s ks, lg := none }
def arT (T : Tp) (fs : List (Int × Int)) : Tp := { T with s := arS T.s fs }
theorem wrs_is : ∀ (ws : List (Nat × List Int)) (s : St), (wrs s ws).1 = 0 ∨ (wrs s ws).1 = 103 ∨ (wrs s ws).1 = 104
  | [], s => .inl rfl
  | (i, z) :: r, s => by
    unfold wrs
    split
    · exact wrs_is r _
    · exact opE_is s
theorem wfl_e (s : St) (ws : List (Nat × List Int)) : (wfl s ws).1 = 0 ∨ (wfl s ws).1 = 103 ∨ (wfl s ws).1 = 104 := by
  unfold wfl
  split
  · exact opE_is _
  · exact wrs_is ws s
theorem two_e (s : St) (v w : List (Nat × List Int)) : (two s v w).1 = 0 ∨ (two s v w).1 = 103 ∨ (two s v w).1 = 104 := by
  unfold two
  split <;> exact wfl_e _ _
theorem two_P (s : St) (v w : List (Nat × List Int)) : (two s v w).2.P.length ≤ s.P.length + v.length + w.length := by
  obtain ⟨a1, a2, a3, a4⟩ := wfl_n s v
  obtain ⟨b1, b2, b3, b4⟩ := wfl_n (wfl s v).2 w
  unfold two
  split <;> omega
theorem pw_len (N e n p : Nat) (tx : List Int) (k : Nat) : (pw N e n p tx k).length = k := by unfold pw; simp
theorem apR_n (s : St) (N e n p : Nat) (tx : List Int) (h : tx.length ≤ 4800) : (apR s N e n p tx).2.n = s.n ∧ (apR s N e n p tx).2.k = s.k ∧ (apR s N e n p tx).2.c ≤ s.c + 13 ∧ (apR s N e n p tx).2.P.length ≤ s.P.length + 11 ∧ ((apR s N e n p tx).1 = 0 ∨ (apR s N e n p tx).1 = 103 ∨ (apR s N e n p tx).1 = 104) := by
  unfold apR
  split
  · obtain ⟨a1, a2, a3, a4⟩ := wfl_n s [(sct N e p, ps ⟨t4, e, n, p, tx⟩)]
    simp only [List.length_singleton] at a3 a4
    exact ⟨a1, a2, by omega, by omega, wfl_e _ _⟩
  · obtain ⟨b1, b2, b3⟩ := two_n12 s (pw N e n p tx (pcN tx.length)) [(sct N e (p + pcN tx.length), ps ⟨t3, e, n, (p + pcN tx.length : Nat), edb tx⟩)]
    have b4 := two_P s (pw N e n p tx (pcN tx.length)) [(sct N e (p + pcN tx.length), ps ⟨t3, e, n, (p + pcN tx.length : Nat), edb tx⟩)]
    rw [pw_len, List.length_singleton] at b3 b4
    have : pcN tx.length ≤ 10 := by unfold pcN; omega
    exact ⟨b1, b2, by omega, by omega, two_e _ _ _⟩
theorem ckp_n (s : St) (N e n : Nat) (st : List Int) : (ckp s N e n st).2.n = s.n ∧ (ckp s N e n st).2.k = s.k ∧ (ckp s N e n st).2.c ≤ s.c + pcN st.length + 3 ∧ (ckp s N e n st).2.P.length ≤ s.P.length + pcN st.length + 1 ∧ ((ckp s N e n st).1 = 0 ∨ (ckp s N e n st).1 = 103 ∨ (ckp s N e n st).1 = 104) := by
  unfold ckp
  obtain ⟨b1, b2, b3⟩ := two_n12 s (pw N (e + 1) n 0 st (pcN st.length)) [((e + 1) % 2, ps ⟨t1, (e + 1 : Nat), n, ((e + 1) % 2 : Nat), sup N st⟩)]
  have b4 := two_P s (pw N (e + 1) n 0 st (pcN st.length)) [((e + 1) % 2, ps ⟨t1, (e + 1 : Nat), n, ((e + 1) % 2 : Nat), sup N st⟩)]
  rw [pw_len, List.length_singleton] at b3 b4
  exact ⟨b1, b2, by omega, by omega, two_e _ _ _⟩
/-- What an Append that is not refused ahead asks. -/
theorem aE_ok {m nx pl R : Nat} (h : aE true m nx pl R = 0) : 0 < m ∧ m ≤ 4800 ∧ 0 < ned m ∧ pl + ned m ≤ R := by
  unfold aE at h
  rw [if_neg (by simp)] at h
  by_cases h1 : ned m = 0
  · rw [if_pos h1] at h; cases h
  · rw [if_neg h1] at h
    by_cases h2 : 4611686018427387904 < nx
    · rw [if_pos h2] at h; cases h
    · rw [if_neg h2] at h
      by_cases h3 : R - pl < ned m
      · rw [if_pos h3] at h; cases h
      · have h4 : 0 < m ∧ m ≤ 4800 := by
          unfold ned at h1
          split at h1
          · omega
          · omega
        exact ⟨h4.1, h4.2, by omega, by omega⟩
theorem aE_is {m nx pl R : Nat} (h : nx ≤ 1000000) : aE true m nx pl R = 0 ∨ aE true m nx pl R = 111 ∨ aE true m nx pl R = 112 := by
  unfold aE
  rw [if_neg (by simp)]
  by_cases h1 : ned m = 0
  · rw [if_pos h1]; exact .inr (.inl rfl)
  · rw [if_neg h1, if_neg (by omega)]
    by_cases h3 : R - pl < ned m
    · rw [if_pos h3]; exact .inr (.inr rfl)
    · rw [if_neg h3]; exact .inl rfl
theorem kE_ok {m ep nx R : Nat} (h : kE true m ep nx R = 0) : pcN m + 11 ≤ R := by
  unfold kE at h
  rw [if_neg (by simp)] at h
  split at h
  · cases h
  · split at h
    · cases h
    · omega
theorem kE_is {m ep nx R : Nat} (h : nx ≤ 1000000) (h' : ep ≤ 1000000) : kE true m ep nx R = 0 ∨ kE true m ep nx R = 112 := by
  unfold kE
  rw [if_neg (by simp), if_neg (by omega)]
  split
  · exact .inr rfl
  · exact .inl rfl
theorem Tv.app {T : Tp} {n : Nat} (h : Tv T n) (hn : n ≤ 1000000) {tx : List Int} (hb : By tx) : Tv (apT T tx) (n + 1) := by
  unfold apT
  split
  · exact h.up (by omega)
  · rename_i ep nx pl hlg
    split
    · exact h.up (by omega)
    · rename_i hsf
      have hsf : T.safe = true := by cases q : T.safe with | true => rfl | false => exact absurd q hsf
      split
      · exact h.up (by omega)
      · rename_i hE
        have hE : aE true tx.length nx pl (roo T.s.n) = 0 := by
          by_cases q : aE true tx.length nx pl (roo T.s.n) = 0
          · exact q
          · exact absurd q hE
        obtain ⟨m1, m2, m3, m4⟩ := aE_ok hE
        obtain ⟨hP, q, q1, q2, q3, q4, q5, q6⟩ := h.hs hsf ep nx pl hlg
        have q1e := q1.he
        obtain ⟨c1, c2, c3, c4, c5⟩ := apR_n T.s T.s.n ep nx pl tx m2
        have hw := append_whole hP q1 (⟨by omega, by omega⟩ : mq ep) (⟨by omega, by omega⟩ : mq (q + T.A.2.length)) hb m1 m2 (by rw [← q6]; exact m4)
        rw [← q4, ← q6] at hw
        have hk := h.k
        have hc := h.c
        have hl := h.len
        rw [hP] at c4
        simp only [List.length_nil] at c4
        split
        · rename_i hA
          obtain ⟨w1, w2⟩ := hw.1 hA
          have hQ : Qn3 T.s.n (n + 1) (dv (apR T.s T.s.n ep nx pl tx).2.S) (T.A.1, T.A.2 ++ [tx]) ep (nx + 1) (pl + ned tx.length) := ⟨q, w2, by omega, q3, by simp; omega, by omega, by simp only; rw [ends_snoc, ← q6]⟩
          refine ⟨by simp only; rw [c1]; exact h.n1, by simp only; rw [c1]; exact h.n2, by simp only; omega, by simp only; omega, by simp only; omega, by simp; omega, ?_, fun _ ep' nx' pl' e => ?_, fun q => (by have : T.safe = false := q; rw [hsf] at this; cases this)⟩
          · simp only
            rw [w1, c1]
            exact Fu.nil (.inl hQ.qa)
          · simp only [Option.some.injEq, Prod.mk.injEq] at e
            obtain ⟨rfl, rfl, rfl⟩ := e
            simp only
            rw [c1]
            exact ⟨w1, hQ⟩
        · rename_i hA
          have w1 := hw.2 hA
          refine ⟨by simp only; rw [c1]; exact h.n1, by simp only; rw [c1]; exact h.n2, by simp only; omega, by simp only; omega, by simp only; omega, by simp only; omega, ?_, fun _ ep' nx' pl' e => (by cases e), fun _ ep' nx' pl' e => (by cases e)⟩
          simp only
          rw [c1]
          refine w1.weak (fun D hD => ?_)
          rcases hD with hD | hD
          · exact .inl ⟨ep, q, hD, by omega, q3, by omega⟩
          · exact .inr ⟨by trivial, ep, q, hD, by omega, q3, by simp; omega⟩
theorem Tv.ck {T : Tp} {n : Nat} (h : Tv T n) (hn : n ≤ 1000000) {st : List Int} (hb : By st) : Tv (ckT T st) (n + 1) := by
  unfold ckT
  split
  · exact h.up (by omega)
  · rename_i ep nx pl hlg
    split
    · exact h.up (by omega)
    · rename_i hsf
      have hsf : T.safe = true := by cases q : T.safe with | true => rfl | false => exact absurd q hsf
      split
      · exact h.up (by omega)
      · rename_i hE
        have hE : kE true st.length ep nx (roo T.s.n) = 0 := by
          by_cases q : kE true st.length ep nx (roo T.s.n) = 0
          · exact q
          · exact absurd q hE
        have m1 := kE_ok hE
        have hr := roo_100 h.n2
        obtain ⟨hP, q, q1, q2, q3, q4, q5, q6⟩ := h.hs hsf ep nx pl hlg
        have q1e := q1.he
        obtain ⟨c1, c2, c3, c4, c5⟩ := ckp_n T.s T.s.n ep nx st
        have hw := check_whole hP q1 (⟨by omega, by omega⟩ : mq (ep + 1)) (⟨by omega, by omega⟩ : mq (q + T.A.2.length)) hb m1
        rw [← q4] at hw
        have hk := h.k
        have hc := h.c
        have hl := h.len
        rw [hP] at c4
        simp only [List.length_nil] at c4
        split
        · rename_i hA
          obtain ⟨w1, w2⟩ := hw.1 hA
          have hQ : Qn3 T.s.n (n + 1) (dv (ckp T.s T.s.n ep nx st).2.S) (st, []) (ep + 1) nx (pcN st.length) := ⟨nx, w2, by omega, by omega, by simp, by omega, rfl⟩
          refine ⟨by simp only; rw [c1]; exact h.n1, by simp only; rw [c1]; exact h.n2, by simp only; omega, by simp only; omega, by simp only; omega, by simp, ?_, fun _ ep' nx' pl' e => ?_, fun q => (by have : T.safe = false := q; rw [hsf] at this; cases this)⟩
          · simp only
            rw [w1, c1]
            exact Fu.nil (.inl hQ.qa)
          · simp only [Option.some.injEq, Prod.mk.injEq] at e
            obtain ⟨rfl, rfl, rfl⟩ := e
            simp only
            rw [c1]
            exact ⟨w1, hQ⟩
        · rename_i hA
          have w1 := hw.2 hA
          refine ⟨by simp only; rw [c1]; exact h.n1, by simp only; rw [c1]; exact h.n2, by simp only; omega, by simp only; omega, by simp only; omega, by simp only; omega, ?_, fun _ ep' nx' pl' e => (by cases e), fun _ ep' nx' pl' e => (by cases e)⟩
          simp only
          rw [c1]
          refine w1.weak (fun D hD => ?_)
          rcases hD with hD | hD
          · exact .inl ⟨ep, q, hD, by omega, q3, by omega⟩
          · exact .inr ⟨by trivial, ep + 1, nx, hD, by omega, by omega, by simp; omega⟩
theorem Tv.crash {T : Tp} {n : Nat} (h : Tv T n) (ks : List Bool) : Tv (crT T ks) n := by
  have hl := h.len
  have hk := h.k
  exact ⟨h.n1, h.n2, hk, Nat.zero_le _, Nat.zero_le _, hl, h.fu.crash ks, fun _ ep nx pl e => (by cases e), fun _ ep nx pl e => (by cases e)⟩
theorem arS_is (s : St) (fs : List (Int × Int)) : (arS s fs).n = s.n ∧ (arS s fs).k = s.k ∧ (arS s fs).c ≤ s.c ∧ (arS s fs).S = s.S ∧ (arS s fs).P = s.P := by
  unfold arS
  split
  · exact ⟨rfl, rfl, Nat.zero_le _, rfl, rfl⟩
  · exact ⟨rfl, rfl, Nat.le_refl _, rfl, rfl⟩
theorem Tv.arm {T : Tp} {n : Nat} (h : Tv T n) (fs : List (Int × Int)) : Tv (arT T fs) n := by
  obtain ⟨a1, a2, a3, a4, a5⟩ := arS_is T.s fs
  have hk := h.k
  have hc := h.c
  have hP := h.P
  refine ⟨?_, ?_, ?_, ?_, ?_, h.len, ?_, fun q ep nx pl e => ?_, fun q ep nx pl e => ?_⟩
  · show 32 ≤ (arS T.s fs).n; rw [a1]; exact h.n1
  · show (arS T.s fs).n ≤ 100; rw [a1]; exact h.n2
  · show (arS T.s fs).k ≤ _; omega
  · show (arS T.s fs).c ≤ _; omega
  · show (arS T.s fs).P.length ≤ _; rw [a5]; exact hP
  · show Fu (arS T.s fs).S (arS T.s fs).P (fun D => Qa (arS T.s fs).n n D T.A ∨ (T.op = true ∧ Qa (arS T.s fs).n n D T.M))
    rw [a1, a4, a5]
    exact h.fu
  · show (arS T.s fs).P = [] ∧ Qn3 (arS T.s fs).n n (dv (arS T.s fs).S) T.A ep nx pl
    rw [a1, a4, a5]
    exact h.hs q ep nx pl e
  · show (T.T = T.A ∨ (T.op = true ∧ T.T = T.M)) ∧ Qn3 (arS T.s fs).n n (dv (layA (arS T.s fs).S (arS T.s fs).P)) T.T ep nx pl
    rw [a1, a4, a5]
    exact h.hn q ep nx pl e
/-! With nothing refused. -/
theorem calm_opens {T : Tp} {n : Nat} (h : Tv T n) (hc : Calm T.s) : Calm (opT T).s ∧ ∃ ep nx pl, (opT T).lg = some (ep, nx, pl) := by
  obtain ⟨c1, c2⟩ := Calm.run (onP T.s.n) { T.s with k := T.s.k + 1 } hc
  refine ⟨by rw [(opT_s T).1]; exact c2, ?_⟩
  rcases h.tu.run with ⟨E, r1, _⟩ | ⟨a, ep, nx, pl, r1, _, _⟩
  · rw [c1] at r1; cases r1
  · exact ⟨ep, nx, pl, by unfold opT; rw [r1]⟩
theorem calm_safes {T : Tp} (hc : Calm T.s) (hl : T.lg ≠ none) (hs : T.safe = false) : sfT T = { T with s := flS T.s, safe := true, A := T.T, op := false } ∧ Calm (sfT T).s := by
  have e : sfT T = { T with s := flS T.s, safe := true, A := T.T, op := false } := by
    unfold sfT
    rw [if_neg (by rintro (q | q); exact hl q; rw [hs] at q; cases q), if_pos hc.E]
  rw [e]
  exact ⟨rfl, hc.fl⟩
theorem calm_apR {s : St} (hc : Calm s) (N e n p : Nat) (tx : List Int) : (apR s N e n p tx).1 = 0 ∧ Calm (apR s N e n p tx).2 := by
  unfold apR
  split
  · exact calm_wfl hc _
  · exact ⟨(calm_two hc _ _).1, (calm_two hc _ _).2.1⟩
theorem calm_ckp {s : St} (hc : Calm s) (N e n : Nat) (st : List Int) : (ckp s N e n st).1 = 0 ∧ Calm (ckp s N e n st).2 := ⟨(calm_two hc _ _).1, (calm_two hc _ _).2.1⟩
theorem calm_app {T : Tp} (hc : Calm T.s) (hl : T.lg ≠ none) (tx : List Int) : Calm (apT T tx).s ∧ (apT T tx).lg ≠ none ∧ (apT T tx).safe = T.safe ∧ (apT T tx).op = T.op := by
  unfold apT
  split
  · exact ⟨hc, hl, rfl, rfl⟩
  · rename_i ep nx pl hlg
    split
    · exact ⟨hc, hl, rfl, rfl⟩
    · split
      · exact ⟨hc, hl, rfl, rfl⟩
      · rw [if_pos (calm_apR hc _ _ _ _ _).1]
        exact ⟨(calm_apR hc _ _ _ _ _).2, by simp, rfl, rfl⟩
theorem calm_ck {T : Tp} (hc : Calm T.s) (hl : T.lg ≠ none) (st : List Int) : Calm (ckT T st).s ∧ (ckT T st).lg ≠ none ∧ (ckT T st).safe = T.safe ∧ (ckT T st).op = T.op := by
  unfold ckT
  split
  · exact ⟨hc, hl, rfl, rfl⟩
  · rename_i ep nx pl hlg
    split
    · exact ⟨hc, hl, rfl, rfl⟩
    · split
      · exact ⟨hc, hl, rfl, rfl⟩
      · rw [if_pos (calm_ckp hc _ _ _ _).1]
        exact ⟨(calm_ckp hc _ _ _ _).2, by simp, rfl, rfl⟩
theorem calm_crash (T : Tp) (ks : List Bool) : Calm (crT T ks).s := ⟨rfl, fun _ => rfl⟩
/-- A town at its beginning. -/
def bgT (N : Nat) : Tp := ⟨(fmA N 0 (st0 N)).2, none, false, ([], []), false, ([], []), ([], [])⟩
theorem tv_begin (N : Nat) (h1 : 32 ≤ N) (h2 : N ≤ 100) : Tv (bgT N) 1 ∧ Calm (bgT N).s := by
  obtain ⟨a0, a1, a2, a3, a4, a5, a6⟩ := okN_format N h1 (by omega)
  refine ⟨⟨by rw [show (bgT N).s.n = N from a1]; exact h1, by rw [show (bgT N).s.n = N from a1]; exact h2, by rw [show (bgT N).s.k = 0 from a4]; omega, ?_, by rw [show (bgT N).s.P = [] from a2]; simp, Nat.zero_le _, ?_, fun _ ep nx pl e => (by cases e), fun _ ep nx pl e => (by cases e)⟩, a3⟩
  · have : (bgT N).s.c ≤ N + 2 := a5
    omega
  · rw [show (bgT N).s.P = [] from a2, show (bgT N).s.n = N from a1]
    exact Fu.nil (.inl ⟨1, 1, a6, Nat.le_refl _, Nat.le_refl _, Nat.le_refl _⟩)
end Go.Proofs.YtblcpdffiafgnaaGreatDoor
namespace Go.Proofs.YtblcpdffiafgnaaGreatDoor
set_option linter.unusedSimpArgs false
set_option maxRecDepth 100000
open Go.RowKit Go.Shelf
set_option linter.unusedVariables false
set_option linter.unusedSimpArgs false

/-- A list of byte lists that can be read. -/
def Txv (w : World) (a : Option Addr) (m c : Nat) (txs : List (List Int)) : Prop := txs.length = m ∧ m ≤ c ∧ c ≤ maxLen ∧
  (m = 0 ∨ ∃ gt, a = some ⟨gt, 0, none⟩ ∧ ∀ i tx, txs[i]? = some tx → ∃ ai n ci, w.cell? ⟨gt, i, none⟩ = some (.slice ai n ci) ∧ Bs w ai n tx ∧ n ≤ ci ∧ ci ≤ maxLen)
theorem Txv.below {w w' : World} {a : Option Addr} {m c : Nat} {txs : List (List Int)} (h : Txv w a m c txs) (hb : Below w.heap.size w w') : Txv w' a m c txs := by
  refine ⟨h.1, h.2.1, h.2.2.1, ?_⟩
  rcases h.2.2.2 with q | ⟨gt, e, q⟩
  · exact .inl q
  · refine .inr ⟨gt, e, fun i tx hi => ?_⟩
    obtain ⟨ai, n, ci, k1, k2, k3, k4⟩ := q i tx hi
    exact ⟨ai, n, ci, (hb.cell (p := ⟨gt, i, none⟩) (World.block_lt_of_cell? _ _ k1)).trans k1, k2.below hb, k3, k4⟩
/-- Up to here they are alike. -/
theorem alike_all {txs us : List (List Int)} (hl : txs.length = us.length) (h : ∀ j, j < txs.length → txs[j]? = us[j]?) : txs = us := List.ext_getElem? fun j => by
  by_cases hj : j < txs.length
  · exact h j hj
  · rw [List.getElem?_eq_none (by omega), List.getElem?_eq_none (by omega)]
set_option maxHeartbeats 4000000 in
theorem same_ (w : World) (a : Option Addr) (n c : Nat) (st : List Int) (ta : Option Addr) (m tc : Nat) (txs : List (List Int)) (b : Option Addr) (k d : Nat) (su : List Int) (ub : Option Addr) (l uc : Nat) (us : List (List Int)) (h1 : Bs w a n st) (h2 : Txv w ta m tc txs) (h3 : Bs w b k su) (h4 : Txv w ub l uc us) (hn : n ≤ maxLen) (hk : k ≤ maxLen) :
    Calls Tryz.prog 14 #[.agg #[.slice a n c, .slice ta m tc], .agg #[.slice b k d, .slice ub l uc]] w fun en w' => en = .returned (.bool (decide (st = su ∧ txs = us))) ∧ Below w.heap.size w w' := by
  have B1 : Below w.heap.size w (w.alloc (.cells #[.slice a n c, .slice ta m tc] 39)) := (Below.refl _ _).alloc (Nat.le_refl _) _
  have B2 : Below w.heap.size w ((w.alloc (.cells #[.slice a n c, .slice ta m tc] 39)).alloc (.cells #[.slice b k d, .slice ub l uc] 39)) := B1.alloc (by simp) _
  have r0 : ((w.alloc (.cells #[.slice a n c, .slice ta m tc] 39)).alloc (.cells #[.slice b k d, .slice ub l uc] 39)).heap[w.heap.size]? = some (.cells #[.slice a n c, .slice ta m tc] 39 (0, 0)) := (Below.heap_alloc _ _ _ (by simp)).trans (World.alloc_heap_new w _)
  have r1 : ((w.alloc (.cells #[.slice a n c, .slice ta m tc] 39)).alloc (.cells #[.slice b k d, .slice ub l uc] 39)).heap[w.heap.size + 1]? = some (.cells #[.slice b k d, .slice ub l uc] 39 (0, 0)) := by
    have := World.alloc_heap_new (w.alloc (.cells #[.slice a n c, .slice ta m tc] 39)) (.cells #[.slice b k d, .slice ub l uc] 39)
    rwa [World.size_alloc] at this
  obtain ⟨W, HW⟩ : ∃ W, Hid ((w.alloc (.cells #[.slice a n c, .slice ta m tc] 39)).alloc (.cells #[.slice b k d, .slice ub l uc] 39) = W) := ⟨_, rfl⟩
  rw [HW.out] at B2 r0 r1
  have ks := same_d a b n c k d st su W (h1.below B2) (h3.below B2) hn hk
  have T1 := hid (h2.below B2)
  have T2 := hid (h4.below B2)
  have c0 : W.cell? ⟨w.heap.size, 0, none⟩ = some (.slice a n c) := (cell_of_row _ _ 0 _ _ (0, 0) r0).trans rfl
  have c1 : W.cell? ⟨w.heap.size, 1, none⟩ = some (.slice ta m tc) := (cell_of_row _ _ 1 _ _ (0, 0) r0).trans rfl
  have d0 : W.cell? ⟨w.heap.size + 1, 0, none⟩ = some (.slice b k d) := (cell_of_row _ _ 0 _ _ (0, 0) r1).trans rfl
  have d1 : W.cell? ⟨w.heap.size + 1, 1, none⟩ = some (.slice ub l uc) := (cell_of_row _ _ 1 _ _ (0, 0) r1).trans rfl
  have HB := hid B2
  clear B1 B2 r0 r1 h1 h2 h3 h4
  go_enter Tryz.func14, Tryz.ntmps14
  go_wp2_with fail
  rw [HW.out]
  refine ks.mono ?_
  rintro en w1 ⟨rfl, dr1⟩
  simp only
  have cell_1 : ∀ {p : Addr} {v : Value}, W.cell? p = some v → w1.cell? p = some v := fun h => (World.cell?_of_block (w := W) (dr1.at _)).trans h
  have c0' := cell_1 c0
  have c1' := cell_1 c1
  have d0' := cell_1 d0
  have d1' := cell_1 d1
  have HD1 := hid dr1
  clear ks cell_1 dr1
  by_cases hs : st = su
  · subst hs
    have e1 : sameB st st = true := sameB_self st
    rw [e1]
    by_cases hl : m = l
    · subst hl
      have e3 : ((m : Int) != (m : Int)) = false := by simp
      go_wp2_with fail
      go_loopw [5, 6] (fun i _ wr => ∃ j : Nat, j ≤ m ∧ i = .int .i64 j ∧ Drawn W wr ∧ Hid (∀ q, q < j → txs[q]? = us[q]?)) (fun i _ _ => m - (intOf i).toNat)
      case atStart => exact ⟨0, Nat.zero_le _, rfl, HD1.out, fun q hq => by omega⟩
      case round =>
        obtain ⟨j, hj, rfl, hd, hal⟩ := hrel
        have cell_d : ∀ {p : Addr} {v : Value}, W.cell? p = some v → wr.cell? p = some v := fun h => (World.cell?_of_block (w := W) (hd.at _)).trans h
        have p1 := cell_d c1
        have p2 := cell_d d1
        have b1 : w.heap.size < wr.heap.size := World.block_lt_of_cell? wr _ p1
        have b2 : w.heap.size + 1 < wr.heap.size := World.block_lt_of_cell? wr _ p2
        have hm : m ≤ 9223372036854775807 := by have := T1.out.2.1; have := T1.out.2.2.1; unfold maxLen at this; omega
        by_cases hlt : j < m
        · have hjI : (j : Int) < (m : Int) := by omega
          obtain ⟨x, hx⟩ : ∃ x, txs[j]? = some x := ⟨txs[j]'(by have := T1.out.1; omega), by simp [show j < txs.length from by have := T1.out.1; omega]⟩
          obtain ⟨y, hy⟩ : ∃ y, us[j]? = some y := ⟨us[j]'(by have := T2.out.1; omega), by simp [show j < us.length from by have := T2.out.1; omega]⟩
          obtain ⟨g1, rfl, hc1⟩ : ∃ g1, ta = some ⟨g1, 0, none⟩ ∧ _ := (T1.out.2.2.2).resolve_left (by omega)
          obtain ⟨g2, rfl, hc2⟩ : ∃ g2, ub = some ⟨g2, 0, none⟩ ∧ _ := (T2.out.2.2.2).resolve_left (by omega)
          obtain ⟨a1, n1, k1, q1, bx, f1, f2⟩ := hc1 j x hx
          obtain ⟨a2, n2, k2, q2, bY, f3, f4⟩ := hc2 j y hy
          have r1 := cell_d q1
          have r2 := cell_d q2
          have BX := hid (bx.drawn hd)
          have BY := hid (bY.drawn hd)
          have hb1 : g1 < wr.heap.size := World.block_lt_of_cell? wr _ r1
          have hb2 : g2 < wr.heap.size := World.block_lt_of_cell? wr _ r2
          have hn1 : n1 ≤ maxLen := by omega
          have hn2 : n2 ≤ maxLen := by omega
          have HDR := hid hd
          have Hx := hid hx
          have Hy := hid hy
          have hT1 := T1.out.2.1
          have hT2 := T2.out.2.1
          clear hx hy hc1 hc2 q1 q2 bx bY cell_d hd c0 c1 d0 d1 c0' c1' d0' d1' f1 f2 f3 f4
          go_wp2_with fail
          go_region_held (fun wx => wx.cell? ⟨g1, j, none⟩ = some (.slice a1 n1 k1) ∧ wx.cell? ⟨g2, j, none⟩ = some (.slice a2 n2 k2) ∧ wx.cell? ⟨w.heap.size, 1, none⟩ = some (.slice (some ⟨g1, 0, none⟩) m tc) ∧ wx.cell? ⟨w.heap.size + 1, 1, none⟩ = some (.slice (some ⟨g2, 0, none⟩) m uc)) (go_keep) (first | (go_at_call 38; refine (same_d a1 a2 n1 k1 n2 k2 x y _ (by exact BX.out) (by exact BY.out) hn1 hn2).mono ?_; rintro e w2 ⟨rfl, d2⟩; have u1 := (d2.below.cell (p := ⟨g1, j, none⟩) hb1).trans r1; have u2 := (d2.below.cell (p := ⟨g2, j, none⟩) hb2).trans r2; have u3 := (d2.below.cell (p := ⟨w.heap.size, 1, none⟩) b1).trans p1; have u4 := (d2.below.cell (p := ⟨w.heap.size + 1, 1, none⟩) b2).trans p2))
          have DF : Hid (Drawn W w2) := (⟨d2.os.trans HDR.out.os, d2.tape.trans HDR.out.tape, d2.output.trans HDR.out.output, d2.heap.trans HDR.out.heap⟩ : Drawn W w2)
          clear d2 p1 p2 r1 r2 u1 u2 u3 u4 HDR BX BY
          by_cases hxy : x = y
          · have e5 : sameB x y = true := by rw [hxy]; exact sameB_self y
            rw [e5]
            have hal2 : Hid (∀ q, q < j + 1 → txs[q]? = us[q]?) := fun q hq => by
              by_cases hqj : q < j
              · exact hal.out q hqj
              · obtain rfl : q = j := by omega
                rw [Hx.out, Hy.out, hxy]
            clear hxy
            go_wp2_with fail
            go_roundw
            case rel => exact ⟨j + 1, by omega, by go_num, DF.out, hal2⟩
            case measure => simp [intOf]; omega
          · have e5 : sameB x y = false := decide_eq_false hxy
            rw [e5]
            go_wp2_with fail
            go_ret
            refine ⟨?_, bel_bel HB.out HB.out.size DF.out.below⟩
            have hne : ¬ txs = us := fun q => hxy (by have h1 := Hx.out; rw [q, Hy.out] at h1; exact (Option.some.inj h1).symm)
            first | exact congrArg (fun b => Ending.returned (Value.bool b)) (decide_eq_false hne).symm | exact congrArg (fun b => Ending.returned (Value.bool b)) (decide_eq_false (fun q => hne q.2)).symm
        · obtain rfl : j = m := by omega
          have hjI : ¬ (j : Int) < (j : Int) := by omega
          have HDR := hid hd
          clear cell_d hd
          go_wp2_with fail
          go_ret
          refine ⟨?_, bel_bel HB.out HB.out.size HDR.out.below⟩
          have hye : txs = us := alike_all (T1.out.1.trans T2.out.1.symm) (fun q hq => hal.out q (by have := T1.out.1; omega))
          first | exact congrArg (fun b => Ending.returned (Value.bool b)) (decide_eq_true hye).symm | exact congrArg (fun b => Ending.returned (Value.bool b)) (decide_eq_true (And.intro rfl hye)).symm
    · have e3 : ((m : Int) != (l : Int)) = true := by simp; omega
      go_wp2_with fail
      go_ret
      refine ⟨?_, bel_bel HB.out HB.out.size HD1.out.below⟩
      have hne : ¬ txs = us := fun q => hl (by rw [← T1.out.1, ← T2.out.1, q])
      first | exact congrArg (fun b => Ending.returned (Value.bool b)) (decide_eq_false hne).symm | exact congrArg (fun b => Ending.returned (Value.bool b)) (decide_eq_false (fun q => hne q.2)).symm
  · have e1 : sameB st su = false := decide_eq_false hs
    rw [e1]
    go_wp2_with fail
    go_ret
    exact ⟨congrArg (fun b => Ending.returned (Value.bool b)) (decide_eq_false (fun q => hs q.1)).symm, bel_bel HB.out HB.out.size HD1.out.below⟩
end Go.Proofs.YtblcpdffiafgnaaGreatDoor
namespace Go.Proofs.YtblcpdffiafgnaaGreatDoor
set_option linter.unusedSimpArgs false
set_option maxRecDepth 100000
open Go.RowKit
set_option linter.unusedVariables false
set_option linter.unusedSimpArgs false

theorem infoT : (Tryz.prog.info? 27).map (fun i => (i.zero, i.size, i.bytes)) = some (some (.slice none 0 0), 1, 24) := by kernel_rfl
/-- The headers of a list of byte lists. -/
theorem Txv.vals {w : World} {gt m c : Nat} {txs : List (List Int)} (h : Txv w (some ⟨gt, 0, none⟩) m c txs) : ∃ vs : List Value, vs.length = m ∧ (∀ (i : Nat) u, vs[i]? = some u → w.cell? ⟨gt, i, none⟩ = some u) ∧ (∀ u ∈ vs, u.oneCell' = true) ∧ ∀ (i : Nat) tx, txs[i]? = some tx → ∃ ai n ci, vs[i]? = some (.slice ai n ci) ∧ Bs w ai n tx ∧ n ≤ ci ∧ ci ≤ maxLen := by
  obtain ⟨h1, h2, h3, h4⟩ := h
  rcases h4 with h4 | ⟨gt', e, q⟩
  · subst h4
    obtain rfl : txs = [] := List.length_eq_zero_iff.1 h1
    exact ⟨[], rfl, fun i u hi => by simp at hi, fun u hu => (by cases hu), fun i tx hi => by simp at hi⟩
  · obtain rfl : gt = gt' := by simpa using e
    have key : ∀ k, k ≤ m → ∃ vs : List Value, vs.length = k ∧ (∀ (i : Nat) u, vs[i]? = some u → w.cell? ⟨gt, i, none⟩ = some u) ∧ (∀ u ∈ vs, u.oneCell' = true) ∧ ∀ (i : Nat) tx, i < k → txs[i]? = some tx → ∃ ai n ci, vs[i]? = some (.slice ai n ci) ∧ Bs w ai n tx ∧ n ≤ ci ∧ ci ≤ maxLen := by
      intro k
      induction k with
      | zero => exact fun _ => ⟨[], rfl, fun i u hi => by simp at hi, fun u hu => (by cases hu), fun i tx hi => by omega⟩
      | succ k ih =>
        intro hk
        obtain ⟨vs, a1, a2, a3, a4⟩ := ih (by omega)
        obtain ⟨tx, htx⟩ : ∃ tx, txs[k]? = some tx := ⟨txs[k]'(by omega), by simp [show k < txs.length from by omega]⟩
        obtain ⟨ai, n, ci, b1, b2, b3, b4⟩ := q k tx htx
        refine ⟨vs ++ [.slice ai n ci], by simp [a1], fun i u hi => ?_, fun u hu => ?_, fun i t hi ht => ?_⟩
        · by_cases hl : i < k
          · rw [List.getElem?_append_left (by omega)] at hi
            exact a2 i u hi
          · rw [List.getElem?_append_right (by omega), a1] at hi
            have h0 : i - k = 0 := by
              by_cases h0 : i - k = 0
              · exact h0
              · rw [List.getElem?_eq_none (by simp; omega)] at hi; cases hi
            rw [h0] at hi
            simp at hi
            subst hi
            obtain rfl : i = k := by omega
            exact b1
        · rcases List.mem_append.1 hu with q | q
          · exact a3 u q
          · rw [List.mem_singleton.1 q]; rfl
        · by_cases hl : i < k
          · obtain ⟨x1, x2, x3, y1, y2⟩ := a4 i t hl ht
            exact ⟨x1, x2, x3, by rw [List.getElem?_append_left (by omega)]; exact y1, y2⟩
          · obtain rfl : i = k := by omega
            rw [htx] at ht
            cases ht
            exact ⟨ai, n, ci, by rw [List.getElem?_append_right (by omega), a1]; simp, b2, b3, b4⟩
    obtain ⟨vs, a1, a2, a3, a4⟩ := key m (Nat.le_refl _)
    exact ⟨vs, a1, a2, a3, fun i tx hi => a4 i tx (by have := (List.getElem?_eq_some_iff.1 hi).1; omega) hi⟩
/-- A row of one's own, as a list of byte lists. -/
theorem txv_own {w : World} {B m : Nat} {vs : List Value} {txs : List (List Int)} {v : Value} (ho : w.ownsRow B 27 1 v m vs) (hl : txs.length = m) (h : ∀ (i : Nat) tx, txs[i]? = some tx → ∃ ai n ci, vs[i]? = some (.slice ai n ci) ∧ Bs w ai n tx ∧ n ≤ ci ∧ ci ≤ maxLen) : ∃ a c, v = .slice a m c ∧ Txv w a m c txs := by
  rcases ho.2 with ⟨rfl, h0⟩ | ⟨g, cap, cur, e, hB, hg, h1, h2, _, _⟩
  · subst h0
    exact ⟨none, 0, rfl, hl, Nat.le_refl _, Nat.zero_le _, .inl rfl⟩
  · refine ⟨some ⟨g, 0, none⟩, cap, e, hl, h1, h2, .inr ⟨g, rfl, fun i tx hi => ?_⟩⟩
    obtain ⟨ai, n, ci, k1, k2⟩ := h i tx hi
    have := ho.cells (g := g) (by rw [e]; rfl) i _ k1
    rw [Addr.add_lit, Nat.zero_add] at this
    exact ⟨ai, n, ci, this, k2⟩
theorem sizeAc : (Tryz.prog.info? 39).map (·.size) = some 2 := by kernel_rfl
theorem results_ac {fn : Func} {p : Tmp} (h : fn.results = #[.cell p 39]) (tmps : Array Value) (w : World) (g : Nat) (v u : Value)
    (hp : tmps.getD p undef = .pointer (some ⟨g, 0, none⟩)) (hg : w.heap[g]? = some (.cells #[v, u] 39 (0, 0))) :
    (results fn tmps).run Tryz.prog w = .ok (.agg #[v, u]) w := by
  have hl := run_loadVar_row (P := Tryz.prog) w g 39 39 #[v, u] (0, 0) _ hg Tryz.underlying39 rfl sizeAc
  have hp' : tmps[p]?.getD undef = .pointer (some ⟨g, 0, none⟩) := by simpa using hp
  simp [results, h, hp', asAddr, hl]
theorem wpList_ac {ops : Array Oper} {rest : List Oper} {o : Oper} {a : Act} {w : World} {Q : Exit → Act → World → Prop} (hgd : o.guard = none) (hdst : o.dst = none) (x y : Operand) (ho : o.op = .store 39 x y)
    (g : Nat) (v u : Value) (hv : v.oneCell' = true) (hu : u.oneCell' = true) (hx : a.eval x = .pointer (some ⟨g, 0, none⟩)) (hy : a.eval y = .agg #[v, u]) (v0 u0 : Value) (hg : w.heap[g]? = some (.cells #[v0, u0] 39 (0, 0)))
    (h : wpList Tryz.prog ops Q rest a (w.setRow g #[v, u])) : wpList Tryz.prog ops Q (o :: rest) a w := by
  refine wpList_store_row hgd _ x y ho g #[v, u] hx hy _ _ hg sizeAc rfl (by simp [hv, hu]) ?_
  rw [hdst]
  exact h
theorem row_ac {w : World} {g : Nat} {v0 u0 : Value} (hg : w.heap[g]? = some (.cells #[v0, u0] 39 (0, 0))) (v u : Value) : (w.setRow g #[v, u]).heap[g]? = some (.cells #[v, u] 39 (0, 0)) := by
  simp [World.setRow, Array.getElem?_modify, hg]
end Go.Proofs.YtblcpdffiafgnaaGreatDoor
