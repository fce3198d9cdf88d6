import Derived.Test.YthjfgdldclhbhaaDC
namespace Go.Proofs.Ythjfgdldclhbhaa
set_option maxRecDepth 100000
open Go.RowKit Go.Shelf
set_option linter.unusedVariables false

theorem sortAny_ (B m cp : Nat) (a : Option Addr) (fs : List (Int × Int)) (w : World) (ho : w.ownsRow B 71 2 (.slice a m cp) m (fcs fs)) (hB : B ≤ w.heap.size) (hm : m ≤ 140737488355328) :
    Calls Try.prog 59 #[.slice a m cp, .func (.func 60) #[] #[]] w fun e w' => e = .returned (.tuple #[]) ∧ (∃ ys : List (Int × Int), ys.Perm fs ∧ ys.Pairwise (fun a b => a.1 ≤ b.1) ∧ Fs w' a m ys ∧ ∀ ad, a = some ad → B ≤ ad.block ∧ ∃ cur', w'.heap[ad.block]? = some (.cells cur' 71 (0, 0))) ∧ Below B w w' := by
  obtain ⟨a', c', e, hf, _, _, hrow, hno⟩ := Fs.ofOwn ho
  obtain ⟨rfl, -, rfl⟩ : a = a' ∧ m = m ∧ cp = c' := by simpa using e
  by_cases hm0 : m = 0
  · subst hm0
    have hz : fs = [] := List.eq_nil_of_length_eq_zero hf.1
    subst hz
    refine (sort_none a cp w).mono ?_
    rintro e w' ⟨rfl, rfl⟩
    exact ⟨rfl, ⟨[], List.Perm.refl _, List.Pairwise.nil, hf, fun ad ha => ⟨(hrow ad ha).2.1, (hrow ad ha).2.2⟩⟩, Below.refl _ _⟩
  · cases a with
    | none =>
      rcases hf.2 with h0 | ⟨b, off, e, _⟩
      · exact absurd h0 hm0
      · cases e
    | some ad =>
      obtain ⟨h1, h2, cur, h3⟩ := hrow ad rfl
      obtain ⟨g, off, sp⟩ := ad
      simp at h1
      obtain ⟨rfl, rfl⟩ := h1
      refine (sort_ g m cp fs cur w h3 hf hm).mono ?_
      rintro e w' ⟨rfl, ys, p1, p2, p3, p4, p5⟩
      refine ⟨rfl, ⟨ys, p1, p2, p3, fun ad ha => ?_⟩, p5.os, p5.tape, p5.output, p5.size, fun b hb => p5.block b (by omega) (fun e => ?_)⟩
      · obtain rfl := Option.some.inj ha
        exact ⟨h2, p4⟩
      · have := Option.some.inj e
        simp only at h2
        omega
/-- What Arm answers, and how the device stands behind it. -/
def arE (s : St) (fs : List (Int × Int)) : Int := if okF fs then (if s.on then 0 else 104) else 105
def arS (s : St) (fs : List (Int × Int)) : St := if okF fs ∧ s.on = true then { s with F := lookF fs, c := 0 } else s
theorem Dk.more {w : World} {d : Nat} {s : St} {Q R : Nat → Prop} {gl : Nat} {pa : Option Addr} {pn pc go : Nat} {a : Option Addr} {m cp : Nat} {fs : List (Int × Int)} {I : List It} (h : Dk w d s Q gl pa pn pc go a m cp fs I) (hq : ∀ b, Q b → R b) (hl : ∀ b, R b → b < w.heap.size) : Dk w d s R gl pa pn pc go a m cp fs I :=
  ⟨h.dm, h.ls, h.own, h.hpn, fun x hx => (h.it x hx).weak hq, h.ip, h.ft, hq _ h.qd, hq _ h.ql, fun g e => hq _ (h.qp g e), hq _ h.qo, fun ad e => hq _ (h.qf ad e), hl, h.n0⟩
set_option maxHeartbeats 2000000 in
theorem arm_ (d : Nat) (s : St) (Q : Nat → Prop) (a1 : Option Addr) (m1 c1 : Nat) (fs : List (Int × Int)) (w : World) (h : Dev w d s Q) (hf : Fs w a1 m1 fs) (hm : m1 * 16 ≤ 140737488355328) :
    Calls Try.prog 29 #[.pointer (some ⟨d, 0, none⟩), .slice a1 m1 c1] w fun e w' => e = .returned (.int .i64 (arE s fs)) ∧ Dev w' d (arS s fs) (fun b => Q b ∨ (w.heap.size ≤ b ∧ b < w'.heap.size)) ∧ Fr Q w w' := by
  obtain ⟨gl, pa, pn, pc, go, a, m, cp, fs0, I, h⟩ := h
  have HD := hid h
  have kc := cloneF_ a1 m1 c1 fs w hf hm
  obtain ⟨E, HE⟩ : ∃ E, Hid (arE s fs = E) := ⟨_, rfl⟩
  obtain ⟨S', HS⟩ : ∃ S', Hid (arS s fs = S') := ⟨_, rfl⟩
  rw [HE.out, HS.out]
  clear h hf
  go_enter Try.func29, Try.ntmps29
  go_wp2_with fail
  refine kc.mono ?_
  rintro e w1 ⟨v, rfl, o1, g1⟩
  obtain ⟨a', c', rfl, _⟩ := Fs.ofOwn o1
  have ks := sortAny_ w.heap.size m1 c' a' fs w1 o1 g1.size (by omega)
  have G1 := hid g1
  clear kc o1 g1
  go_wp2_with fail
  refine ks.mono ?_
  rintro e w2 ⟨rfl, ⟨ys, p1, p2, p3, p4⟩, g2⟩
  have G2 := hid (G1.out.trans g2)
  have ka := armable_ a' m1 c' ys w2 p3 p2 (by omega)
  have P1 := hid p1
  have P2 := hid p2
  have P3 := hid p3
  have P4 := hid p4
  have HO : Hid (decide (okF ys) = decide (okF fs)) := by show _ = _; simp only [okF_perm p1]
  rw [HO.out] at ka
  clear ks p1 p2 p3 p4 g2 G1
  go_wp2_with fail
  refine ka.mono ?_
  rintro e w3 ⟨rfl, g3⟩
  have G3 := hid (bel_bel G2.out G2.out.size g3)
  have H3 := HD.out.below G3.out
  have m4 := H3.dm.c4
  have K3 := hid H3
  have F3 := hid (P3.out.below g3)
  have R3 : Hid (∀ ad, a' = some ad → w.heap.size ≤ ad.block ∧ ∃ cur', w3.heap[ad.block]? = some (.cells cur' 71 (0, 0))) := fun ad ha => by
    obtain ⟨q1, cur, q2⟩ := P4.out ad ha
    exact ⟨q1, cur, (g3.block _ (Array.getElem?_eq_some_iff.1 q2).1).trans q2⟩
  clear ka g3 P3 P4 H3 G2
  by_cases hok : okF fs
  case neg =>
    have HE5 : Hid (E = 105) := by show _ = _; rw [← HE.out]; unfold arE; rw [if_neg hok]
    have HSS : Hid (S' = s) := by show _ = _; rw [← HS.out]; unfold arS; rw [if_neg (fun h => hok h.1)]
    have e1 : decide (okF fs) = false := decide_eq_false hok
    clear hok
    go_wp2_with fail
    go_ret
    refine ⟨by rw [HE5.out]; rfl, ?_, .ofB G3.out⟩
    rw [HSS.out]
    exact ⟨_, _, _, _, _, _, _, _, _, _, K3.out.more (fun _ h => .inl h) (fun b hb => by
      rcases hb with hb | hb
      · exact K3.out.lt b hb
      · exact hb.2)⟩
  case pos =>
    have e1 : decide (okF fs) = true := decide_eq_true hok
    cases hon : s.on with
    | false =>
      have HE5 : Hid (E = 104) := by show _ = _; rw [← HE.out]; unfold arE; rw [if_pos hok, hon]; rfl
      have HSS : Hid (S' = s) := by show _ = _; rw [← HS.out]; unfold arS; rw [if_neg (fun h => by rw [hon] at h; cases h.2)]
      rw [hon] at m4
      clear hok hon
      go_wp2_with fail
      go_ret
      refine ⟨by rw [HE5.out]; rfl, ?_, .ofB G3.out⟩
      rw [HSS.out]
      exact ⟨_, _, _, _, _, _, _, _, _, _, K3.out.more (fun _ h => .inl h) (fun b hb => by
        rcases hb with hb | hb
        · exact K3.out.lt b hb
        · exact hb.2)⟩
    | true =>
      have HE5 : Hid (E = 0) := by show _ = _; rw [← HE.out]; unfold arE; rw [if_pos hok, hon]; rfl
      have HSS : Hid (S' = { s with F := lookF fs, c := 0 }) := by show _ = _; rw [← HS.out]; unfold arS; rw [if_pos ⟨hok, hon⟩]
      rw [hon] at m4
      have HYS : Hid (srt ys ∧ lookF ys = lookF fs) := by
        have hoky := (okF_perm P1.out).2 hok
        refine ⟨?_, lookF_perm P1.out hoky.2⟩
        refine (List.Pairwise.and P2.out hoky.2).imp ?_
        rintro a b ⟨h1, h2⟩
        omega
      have kx := expect_ d _ _ _ _ _ _ a' m1 c' w3 K3.out.dm
      clear hok hon
      go_wp2_with fail
      refine kx.mono ?_
      rintro e w4 ⟨rfl, hM, hB, hG⟩
      have s3 := G3.out.size
      have s4 := hG.size
      have hb4 := (Array.getElem?_eq_some_iff.1 hB).1
      have nd : ∀ {g : Nat} {cur : Array Value} {t : TypeId}, w3.heap[g]? = some (.cells cur t (0, 0)) → t ≠ 90 → w4.heap[g]? = w3.heap[g]? := fun h1 h2 => hG.block _ (Array.getElem?_eq_some_iff.1 h1).1 (fun e => K3.out.nd h1 h2 (Option.some.inj e))
      have hft : Ft w4 w3.heap.size (lookF fs) a' m1 c' ys := by
        refine ⟨hB, fun ad ha => ?_, F3.out.at (fun ad ha => ?_), HYS.out.1, by omega, HYS.out.2.symm⟩
        · obtain ⟨_, cur, q⟩ := R3.out ad ha
          exact ⟨cur, (nd q (by decide)).trans q⟩
        · obtain ⟨_, cur, q⟩ := R3.out ad ha
          exact nd q (by decide)
      have K4 := K3.out.arm (Q' := fun b => Q b ∨ (w.heap.size ≤ b ∧ b < w4.heap.size)) hM hG hft (fun _ h => .inl h) (fun b hb => by
        rcases hb with hb | hb
        · exact Nat.lt_of_lt_of_le (K3.out.lt b hb) s4
        · exact hb.2) (.inr ⟨s3, hb4⟩) (fun ad ha => by
        obtain ⟨q1, cur, q⟩ := R3.out ad ha
        exact .inr ⟨q1, Nat.lt_of_lt_of_le (Array.getElem?_eq_some_iff.1 q).1 s4⟩)
      have HK4 := hid K4
      have HF4 := hid ((Fr.ofB (Q := Q) G3.out).trans (.of hG K3.out.qd))
      clear kx hM hB hG hft K4 K3 m4 F3 R3 nd
      go_wp2_with fail
      go_ret
      refine ⟨by rw [HE5.out]; rfl, ?_, HF4.out⟩
      rw [HSS.out]
      exact ⟨_, _, _, _, _, _, _, _, _, _, HK4.out⟩
set_option maxHeartbeats 1000000 in
theorem cloneP_ (a : Option Addr) (c : Nat) (I : List It) (w : World) (ho : w.ownsRow 0 94 2 (.slice a I.length c) I.length (pcs I)) (hm : I.length ≤ 1000000) :
    Calls Try.prog 57 #[.slice a I.length c] w fun e w' => ∃ v, e = .returned v ∧ w'.ownsRow w.heap.size 94 2 v I.length (pcs I) ∧ Below w.heap.size w w' := by
  obtain ⟨i, hi, hz0, hz1, hz2⟩ := info_parts info94
  have heq := Go.Lib.run_eql_slice_nil (P := Try.prog) w 61 94 a I.length c 0 0 Try.underlying61
  cases a with
  | none =>
    have hm0 : I.length = 0 := by
      rcases ho.2 with ⟨_, h0⟩ | ⟨g, cap, cur, e, _⟩
      · exact h0
      · simp at e
    have hz : I = [] := List.eq_nil_of_length_eq_zero hm0
    subst hz
    simp only [Option.isNone, List.length_nil] at heq ⊢
    clear ho
    go_enter Try.func57, Try.ntmps57
    go_wp2_with fail
    go_ret
    exact ⟨_, rfl, World.ownsRow_nil _ _ _ _, Below.refl _ _⟩
  | some x =>
    simp only [Option.isNone] at heq
    have HSRC : Hid (∀ j u, (pcs I)[j]? = some u → (w.alloc (.cells #[] 94)).cell? (x.add j) = some u) := fun j u hj => by
      have hj' := (List.getElem?_eq_some_iff.1 hj).1
      rw [pcs_length] at hj'
      obtain ⟨g, cap, e, _, _, _, _, hc⟩ := own2_cell ho (by omega)
      simp at e
      obtain ⟨rfl, rfl⟩ := e
      have q := hc j u hj
      rw [Addr.add_lit, Nat.zero_add]
      exact (((Below.refl w.heap.size w).alloc (Nat.le_refl _) (.cells #[] 94)).cell (p := ⟨g, j, none⟩) (World.block_lt_of_cell? w _ q)).trans q
    have HFL := hid (pcs_length I)
    clear ho
    go_enter Try.func57, Try.ntmps57
    go_wp2_with (at_builtin; (refine wpList_append_own _ rfl _ _ 61 rfl w.heap.size 94 i _ 2 32 Try.underlying61 hi hz0 hz1 hz2 rfl (by decide) _ 0 [] rfl (World.ownsRow_made w _ 0 (Nat.le_refl _) (by unfold maxLen; omega) (by simp)) x I.length c (pcs I) rfl (by rw [HFL.out]) HSRC.out (pcs_one I) (by unfold maxLen; omega) (by omega) (by simp) ?_); intro v' w1 hown hg hv)
    have hg' : (w.alloc (.cells #[] 94)).grownBy w1 (some w.heap.size) := hg
    go_ret
    refine ⟨_, rfl, by simpa using hown, grown_past' hg'⟩
theorem own_set {w : World} {B n cap g sz : Nat} {t : TypeId} {xs : List Value} (h : w.ownsRow B t sz (.slice (some ⟨g, 0, none⟩) n cap) n xs) (i : Nat) (u : Value) : (w.setCell ⟨g, i, none⟩ u).ownsRow B t sz (.slice (some ⟨g, 0, none⟩) n cap) n (xs.set i u) := by
  obtain ⟨h1, h2⟩ := h
  refine ⟨by rw [List.length_set]; exact h1, ?_⟩
  rcases h2 with ⟨h2, _⟩ | ⟨g', cap', cur, e, hb, hg, hnc, hcm, hs, ht⟩
  · simp at h2
  · simp at e
    obtain ⟨rfl, rfl⟩ := e
    refine .inr ⟨g, cap, cur.setIfInBounds i u, rfl, hb, by simp [World.setCell, Array.getElem?_modify, hg], hnc, hcm, by simpa using hs, ?_⟩
    rw [Array.toList_setIfInBounds, List.take_set, ht]
theorem pcs_set (K D : List It) (x y : It) (h : y.S = x.S) : (pcs (K ++ x :: D)).set (K.length * 2 + 1) (.slice (some ⟨y.g, 0, none⟩) 512 y.c) = pcs (K ++ y :: D) := by
  rw [pcs_app, pcs_app, ← pcs_length, List.set_append_right _ _ (by omega), show (pcs K).length + 1 - (pcs K).length = 1 from by omega]
  simp [pcs, h]
/-- Writes handed out: the same sectors and bytes, in blocks of their own. -/
structure Pl (w : World) (B : Nat) (v : Value) (P : List (Nat × List Int)) (J : List It) : Prop where
  own : w.ownsRow B 94 2 v J.length (pcs J)
  it : ∀ x ∈ J, Bs w (some ⟨x.g, 0, none⟩) 512 x.Z ∧ (∃ cur, w.heap[x.g]? = some (.cells cur 5 (0, 0))) ∧ B ≤ x.g ∧ 512 ≤ x.c ∧ x.c ≤ maxLen
  ip : P = J.map fun x => (x.S, x.Z)
set_option maxHeartbeats 2000000 in
theorem pending_ (d : Nat) (s : St) (Q : Nat → Prop) (w : World) (h : Dev w d s Q) (hp : s.P.length ≤ 1000000) :
    Calls Try.prog 27 #[.pointer (some ⟨d, 0, none⟩)] w fun e w' => (∃ v J, e = .returned v ∧ Pl w' w.heap.size v s.P J) ∧ Below w.heap.size w w' := by
  obtain ⟨gl, pa, pn, pc, go, a, m, cp, fs0, I, h⟩ := h
  have hI : I.length ≤ 1000000 := by have := hp; rw [h.ip, List.length_map] at this; exact this
  have hpn : pn = I.length := h.hpn
  subst hpn
  have HD := hid h
  have m1 := h.dm.c1
  have kc := cloneP_ pa pc I w h.own hI
  clear h
  go_enter Try.func27, Try.ntmps27
  go_wp2_with fail
  refine kc.mono ?_
  rintro e w1 ⟨v, rfl, o1, g1⟩
  obtain ⟨va, vc, rfl⟩ : ∃ va vc, v = .slice va I.length vc := by
    rcases o1.2 with ⟨rfl, h0⟩ | ⟨g, cap, cur, rfl, _⟩
    · exact ⟨none, 0, by rw [h0]⟩
    · exact ⟨_, _, rfl⟩
  have O1 := hid o1
  have G1 := hid g1
  clear kc o1 g1 m1
  go_wp2_with fail
  go_loopw [4, 5, 13] (fun _ _ i wr => ∃ (j : Nat) (K : List It), j ≤ I.length ∧ i = .int .i64 j ∧ K.length = j ∧ (K.map fun x => (x.S, x.Z)) = s.P.take j ∧ wr.ownsRow w.heap.size 94 2 (.slice va I.length vc) I.length (pcs (K ++ I.drop j)) ∧ (∀ x ∈ K, Bs wr (some ⟨x.g, 0, none⟩) 512 x.Z ∧ (∃ cur, wr.heap[x.g]? = some (.cells cur 5 (0, 0))) ∧ w.heap.size ≤ x.g ∧ 512 ≤ x.c ∧ x.c ≤ maxLen) ∧ Below w.heap.size w wr) (fun _ _ i _ => I.length - (intOf i).toNat)
  case atStart => exact ⟨0, [], Nat.zero_le _, rfl, rfl, rfl, by simpa using O1.out, fun x hx => by simp at hx, G1.out⟩
  case round =>
    clear O1 G1
    obtain ⟨j, K, hj, rfl, hK, hKP, hown, hit, hbl⟩ := hrel
    by_cases hlt : j < I.length
    · have hjI : (j : Int) < (I.length : Int) := by omega
      obtain ⟨x, HX⟩ : ∃ x, Hid (I[j]? = some x) := ⟨I[j], by show _ = _; simp [hlt]⟩
      have HDr : Hid (I.drop j = x :: I.drop (j + 1)) := by
        show _ = _
        rw [List.drop_eq_getElem_cons hlt]
        have := HX.out
        rw [List.getElem?_eq_getElem hlt] at this
        rw [Option.some.inj this]
      have hxm : x ∈ I := List.mem_of_getElem? HX.out
      have KD := HD.out.below hbl
      have hix := KD.it x hxm
      obtain ⟨g, cap, e, hg1, hg2, hg3, ⟨curg, hgt⟩, hc⟩ := own2_cell hown (by omega)
      obtain ⟨rfl, -, rfl⟩ : va = some ⟨g, 0, none⟩ ∧ I.length = I.length ∧ vc = cap := by simpa using e
      have hq : (K ++ I.drop j)[j]? = some x := by rw [List.getElem?_append_right (by omega), hK, Nat.sub_self, HDr.out]; rfl
      have c0 := hc _ _ (pcs_get _ j x hq).1
      have c1 := hc _ _ (pcs_get _ j x hq).2
      have BA : Below wr.heap.size wr (wr.alloc (.cells #[.int .i64 x.S, .slice (some ⟨x.g, 0, none⟩) 512 x.c] 94)) := (Below.refl _ _).alloc (Nat.le_refl _) _
      have kb := bclone_ ⟨x.g, 0, none⟩ 512 x.c x.Z (wr.alloc (.cells #[.int .i64 x.S, .slice (some ⟨x.g, 0, none⟩) 512 x.c] 94)) (hix.bs.below BA) (by decide)
      have HPj : Hid (s.P.take (j + 1) = s.P.take j ++ [(x.S, x.Z)]) := by
        show _ = _
        have hq : s.P[j]? = some (x.S, x.Z) := by rw [KD.ip, List.getElem?_map, HX.out]; rfl
        rw [List.take_add_one, hq]
        rfl
      have HO := hid hown
      have HIT := hid hit
      have HBL := hid (bel_bel hbl hbl.size BA)
      have HBA := hid BA
      have HKP := hid hKP
      have HZ := hid hix.bs.2.1
      have hgl : g < wr.heap.size := (Array.getElem?_eq_some_iff.1 hgt).1
      have HGT := hid hgt
      have HC := hid hc
      clear hown hit hbl BA KD hix hc hq hxm hKP hlt e hgt
      obtain ⟨xS, xg, xc, xZ⟩ := x
      simp only at *
      go_wp2_with fail
      refine kb.mono ?_
      rintro e w3 ⟨v3, rfl, o3, g3⟩
      obtain ⟨gz, cz, rfl, hz1, hz2, hz3, _, _⟩ := own_head o3 (by decide)
      have B3 : Below wr.heap.size wr w3 := bel_bel HBA.out HBA.out.size g3
      have d1 := (B3.cell (p := ⟨g, j * 2 + 1, none⟩) hgl).trans c1
      have hgt3 := (B3.block g hgl).trans HGT.out
      have f1 : w3.frozen? ⟨g, j * 2 + 1, none⟩ = false := by simp [World.frozen?, hgt3]
      obtain ⟨curz, hcz⟩ := own_ty o3 (g := gz) rfl
      obtain ⟨_, _, ez, zb, _⟩ := own_form o3 HZ.out
      obtain ⟨rfl, -, rfl⟩ : some (⟨gz, 0, none⟩ : Addr) = _ ∧ 512 = 512 ∧ cz = _ := by simpa using ez
      have sA := HBA.out.size
      have sG := g3.size
      have sL := HBL.out.size
      have hzl := (Array.getElem?_eq_some_iff.1 hcz).1
      have hs : (w3.setCell ⟨g, j * 2 + 1, none⟩ (.slice (some ⟨gz, 0, none⟩) 512 cz)).heap.size = w3.heap.size := by simp [World.setCell]
      have oth : ∀ b, b ≠ g → (w3.setCell ⟨g, j * 2 + 1, none⟩ (.slice (some ⟨gz, 0, none⟩) 512 cz)).heap[b]? = w3.heap[b]? := fun b hb => Below.heap_setCell _ _ _ _ hb
      have REL : Hid (∃ (j' : Nat) (K' : List It), j' ≤ I.length ∧ Value.int IntKind.i64 ((j : Int) + 1) = .int .i64 j' ∧ K'.length = j' ∧ (K'.map fun x => (x.S, x.Z)) = s.P.take j' ∧ (w3.setCell ⟨g, j * 2 + 1, none⟩ (.slice (some ⟨gz, 0, none⟩) 512 cz)).ownsRow w.heap.size 94 2 (.slice (some ⟨g, 0, none⟩) I.length vc) I.length (pcs (K' ++ I.drop j')) ∧ (∀ x ∈ K', Bs (w3.setCell ⟨g, j * 2 + 1, none⟩ (.slice (some ⟨gz, 0, none⟩) 512 cz)) (some ⟨x.g, 0, none⟩) 512 x.Z ∧ (∃ cur, (w3.setCell ⟨g, j * 2 + 1, none⟩ (.slice (some ⟨gz, 0, none⟩) 512 cz)).heap[x.g]? = some (.cells cur 5 (0, 0))) ∧ w.heap.size ≤ x.g ∧ 512 ≤ x.c ∧ x.c ≤ maxLen) ∧ Below w.heap.size w (w3.setCell ⟨g, j * 2 + 1, none⟩ (.slice (some ⟨gz, 0, none⟩) 512 cz))) := by
        refine ⟨j + 1, K ++ [⟨xS, gz, cz, xZ⟩], by omega, by go_num, by simp [hK], ?_, ?_, ?_, ?_⟩
        · rw [List.map_append, HKP.out, HPj.out]
          rfl
        · have h1 := own_set ((own_at' HO.out (fun q hq => by
            obtain rfl : g = q := by simpa [Value.ownBlock] using hq
            exact B3.block g hgl))) (j * 2 + 1) (.slice (some ⟨gz, 0, none⟩) 512 cz)
          rw [HDr.out] at h1
          rw [List.append_assoc, List.singleton_append]
          have h2 := pcs_set K (I.drop (j + 1)) ⟨xS, xg, xc, xZ⟩ ⟨xS, gz, cz, xZ⟩ rfl
          rw [hK] at h2
          rw [h2] at h1
          exact h1
        · intro x hx
          have ne5 : ∀ {b : Nat} {cur : Array Value}, w3.heap[b]? = some (.cells cur 5 (0, 0)) → b ≠ g := fun hb e => by
            rw [e, hgt3] at hb
            simp at hb
          rcases List.mem_append.1 hx with hx | hx
          · obtain ⟨q1, ⟨cur, q2⟩, q3⟩ := HIT.out x hx
            have q2' := (B3.block _ (Array.getElem?_eq_some_iff.1 q2).1).trans q2
            exact ⟨(q1.below B3).at (oth _ (ne5 q2')), ⟨cur, (oth _ (ne5 q2')).trans q2'⟩, q3⟩
          · obtain rfl : x = ⟨xS, gz, cz, xZ⟩ := by simpa using hx
            exact ⟨zb.at (oth _ (ne5 hcz)), ⟨curz, (oth _ (ne5 hcz)).trans hcz⟩, by show w.heap.size ≤ gz; omega, hz1, hz2⟩
        · exact (bel_bel HBL.out HBL.out.size g3).setCell (p := ⟨g, j * 2 + 1, none⟩) hg3 _
      clear kb o3 g3 B3 HO HIT HBL HBA HZ HC zb hcz oth hgt3 HGT c0 c1 ez
      go_wp2_with fail
      go_roundw
      case rel => exact REL.out
      case measure => simp [intOf]; omega
    · have hjI : ¬ (j : Int) < (I.length : Int) := by omega
      obtain rfl : j = I.length := by omega
      have HP : Hid (s.P.take I.length = s.P) := by
        show _ = _
        exact List.take_of_length_le (by rw [HD.out.ip, List.length_map]; exact Nat.le_refl _)
      rw [HP.out] at hKP
      rw [List.drop_of_length_le (Nat.le_refl _), List.append_nil] at hown
      have PL : Hid (Pl wr w.heap.size (.slice va I.length vc) s.P K) := ⟨by rw [hK]; exact hown, hit, hKP.symm⟩
      have HBL := hid hbl
      clear hown hit hKP hbl hlt
      go_wp2_with fail
      go_ret
      exact ⟨⟨_, rfl, K, PL.out⟩, HBL.out⟩
end Go.Proofs.Ythjfgdldclhbhaa
