import Derived.Test.YtnmklleoilicdaaVG
namespace Go.Proofs.Ytnmklleoilicdaa
set_option maxRecDepth 100000
open Go.RowKit Go.Shelf Go.Maps
set_option linter.unusedVariables false

def gsE (zs : List Int) : Int := if (gs zs).isSome then 0 else 114
theorem sl_nil (w : World) (V : Nat → Prop) (a : Option Addr) : Sl w V a 0 [] := ⟨rfl, .inl rfl⟩
theorem s_getsA {w0 w : World} {V : Nat → Prop} {a : Option Addr} {n c : Nat} {zs : List Int} {L : List Sx} {E : Int} (m : Nat) (B : Below w0.heap.size w0 w) (h : Vs w V a n c zs) (hn : n ≤ 5000000) (hL : (gs zs).getD [] = L) (hE : gsE zs = E) (hm : L.length = m) :
    Calls Try.prog 46 #[.slice a n c] w fun e w' => ∃ a' c', e = .returned (.tuple #[.slice a' m c', .int .i64 E]) ∧ Sl w' (Up w0) a' m L ∧ Below w0.heap.size w0 w' ∧ Below w.heap.size w w' := by
  subst hL hE hm
  unfold gsE
  cases hg : gs zs with
  | none =>
    refine (s_getsNo B h hn hg).mono ?_
    rintro e w1 ⟨rfl, g, bb⟩
    exact ⟨none, 0, rfl, sl_nil _ _ _, g, bb⟩
  | some l =>
    refine (s_gets _ B h hn hg rfl).mono ?_
    rintro e w1 ⟨a', c', rfl, sl, g, bb⟩
    exact ⟨a', c', rfl, sl, g, bb⟩
theorem s_rgetsA {w0 w : World} {V : Nat → Prop} {a : Option Addr} {n c : Nat} {zs : List Int} {L : List Sx} {E : Int} (m : Nat) (B : Below w0.heap.size w0 w) (h : Vs w V a n c zs) (hn : n ≤ 100000) (hL : (gs zs).getD [] = L) (hE : gsE zs = E) (hm : L.length = m) :
    Calls Try.prog 47 #[.slice a n c] w fun e w' => ∃ a' c', e = .returned (.tuple #[.slice a' m c', .int .i64 E]) ∧ Sl w' (Up w0) a' m L ∧ Below w0.heap.size w0 w' ∧ Below w.heap.size w w' := by
  subst hL hE hm
  unfold gsE
  have hs := B.size
  refine (rgets_ a n c zs w (h.wide fun x hx _ => hx) hn).mono ?_
  rintro e w1 (⟨l, a', m, c', hg, rfl, sl, _, _, _, g⟩ | ⟨hg, rfl, g⟩)
  · rw [hg]
    obtain rfl := sl.len
    exact ⟨a', c', rfl, sl.wide fun x _ hx => Nat.le_trans hs hx, bel_bel B hs g, g⟩
  · rw [hg]
    exact ⟨none, 0, rfl, sl_nil _ _ _, bel_bel B hs g, g⟩
theorem s_fromNo {w0 w : World} {V : Nat → Prop} {a : Option Addr} {n c : Nat} {zs : List Int} (B : Below w0.heap.size w0 w) (h : Vs w V a n c zs) (hn : n ≤ 5000000) (hM : fb zs = none) :
    Calls Try.prog 18 #[.slice a n c] w fun e w' => e = .returned (.tuple #[.pointer none, .int .i64 114]) ∧ Below w0.heap.size w0 w' ∧ Below w.heap.size w w' := by
  refine (fromBytes_ a n c zs w h.bs h.nil h.nc hn).mono ?_
  rintro e w1 (⟨M, t, b, hf, _⟩ | ⟨_, rfl, g⟩)
  · rw [hM] at hf; cases hf
  · exact ⟨rfl, bel_bel B B.size g, g⟩
theorem s_rfromNo {w0 w : World} {V : Nat → Prop} {a : Option Addr} {n c : Nat} {zs : List Int} (B : Below w0.heap.size w0 w) (h : Vs w V a n c zs) (hn : n ≤ 100000) (hM : fb zs = none) :
    Calls Try.prog 19 #[.slice a n c] w fun e w' => e = .returned (.tuple #[.pointer none, .int .i64 114]) ∧ Below w0.heap.size w0 w' ∧ Below w.heap.size w w' := by
  refine (rfrom_ a n c zs w (h.wide fun x hx _ => hx) hn).mono ?_
  rintro e w1 (⟨M, t, a', m, c', hf, _⟩ | ⟨_, rfl, g⟩)
  · rw [hM] at hf; cases hf
  · exact ⟨rfl, bel_bel B B.size g, g⟩
theorem s_rfrom {w0 w : World} {V : Nat → Prop} {a : Option Addr} {n c : Nat} {zs : List Int} {M : Tab} (m : Nat) (B : Below w0.heap.size w0 w) (h : Vs w V a n c zs) (hn : n ≤ 100000) (hM : fb zs = some M) (hm : M.length = m) :
    Calls Try.prog 19 #[.slice a n c] w fun e w' => ∃ t a' c', e = .returned (.tuple #[.pointer (some ⟨t, 0, none⟩), .int .i64 0]) ∧ Dr w' (Up w0) t a' m c' M ∧ m ≤ 100000 ∧ w.heap.size ≤ t ∧ Below w0.heap.size w0 w' ∧ Below w.heap.size w w' := by
  have hs := B.size
  refine (rfrom_ a n c zs w (h.wide fun x hx _ => hx) hn).mono ?_
  rintro e w1 (⟨M', t, a', m', c', hf, rfl, dr, ht, hm', g⟩ | ⟨hf, _⟩)
  · rw [hM] at hf
    obtain rfl := Option.some.inj hf
    obtain rfl : m' = m := by rw [← hm]; exact dr.rl.len.symm
    exact ⟨t, a', c', rfl, ⟨dr.var, dr.rl.wide fun x _ hx => Nat.le_trans hs hx⟩, hm', ht, bel_bel B hs g, g⟩
  · rw [hM] at hf; cases hf
theorem sameS_self (l : List Sx) : sameS l l = true := by simp [sameS]
theorem sameT_self' (M : Tab) : sameT M M = true := by simp [sameT]
theorem Vs.cut {w : World} {V : Nat → Prop} {a : Option Addr} {n c m d : Nat} {zs : List Int} (h : Vs w V a n c zs) (hm : m ≤ n) (hd : m ≤ d) (hdc : d ≤ c) : Vs w V a m d (zs.take m) := by
  refine ⟨⟨by rw [List.length_take, h.bs.1]; omega, fun z hz => h.bs.2.1 z (List.mem_of_mem_take hz), ?_⟩, hd, Nat.le_trans hdc h.cm, fun e => by have := h.nil e; omega, fun ad e h0 => h.lies ad e (by omega)⟩
  rcases h.bs.2.2 with h0 | ⟨b, off, e, hc⟩
  · exact .inl (by omega)
  · refine .inr ⟨b, off, e, fun i hi => ?_⟩
    rw [hc i (by omega)]
    simp [List.getD, hi]
set_option maxHeartbeats 1000000 in
theorem got_ (V : Nat → Prop) (b off n N c : Nat) (ys zs : List Int) (w : World) (h : Vs w V (some ⟨b, off, none⟩) N c ys) (hz : ys.take n = zs) (hN : N = n + 2) (hn : n ≤ 65536) :
    Calls Try.prog 17 #[.slice (some ⟨b, off, none⟩) N c, .int .i64 n] w fun e w' => e = .returned (.bool true) ∧ Below w.heap.size w w' := by
  have HY := hid h
  have hnc := h.nc
  have hcm := h.cm
  unfold maxLen at hcm
  have hOY := hid h.bs.2.1
  have i1 : (n : Int) ≤ N := by omega
  have i2 : (N : Int) ≤ c := by omega
  have i3 : (0 : Int) ≤ n := by omega
  have i4 : ¬ N = 0 := by omega
  have HZ := hid hz
  have kn := fun x wx => num_ x wx
  have hN2 : n ≤ N := by omega
  have hN3 : N ≤ 65538 := by omega
  obtain ⟨L, HL⟩ : ∃ L, Hid ((gs zs).getD [] = L) := ⟨_, rfl⟩
  obtain ⟨E, HE⟩ : ∃ E, Hid (gsE zs = E) := ⟨_, rfl⟩
  obtain ⟨m, HM⟩ : ∃ m, Hid (L.length = m) := ⟨_, rfl⟩
  have HML : Hid (m ≤ 65536) := by
    show m ≤ _
    rw [← HM.out, ← HL.out]
    cases hg : gs zs with
    | none => simp
    | some l =>
      have h1 := (gs_some hg).2.1
      have h2 := enc_len_le l
      rw [h1, ← HZ.out, List.length_take] at h2
      simp only [Option.getD_some]
      omega
  clear h hz hN
  have k1 := refBytes (some ⟨b, off, none⟩) N c ys w HY.out.bs (by omega)
  cases hfb : fb zs with
  | none =>
    go_enter Try.func17, Try.ntmps17
    go_wp2_with fail
    refine k1.mono ?_
    rintro e w1 ⟨v1, rfl, o1, g1⟩
    obtain ⟨p1, q1, rfl, vs1⟩ := Vs.ofOwn o1 hOY.out
    have G := hid g1
    have HY := hid (HY.out.lift g1 (fun _ _ h => h))
    have HW := hid vs1
    have j1 := vs1.nc
    have j2 := vs1.cm
    unfold maxLen at j2
    have j3 : (n : Int) ≤ q1 := by omega
    have j4 : ¬ q1 = 0 := by omega
    obtain ⟨pb, po, rfl⟩ : ∃ pb po, p1 = some ⟨pb, po, none⟩ := by
      rcases vs1.bs.2.2 with h0 | ⟨x, y, e, _⟩
      · exact absurd h0 i4
      · exact ⟨x, y, e⟩
    clear k1 o1 g1 vs1
    go_wp2_with fail
    refine (s_getsA (L := L) (E := E) m G.out (HY.out.cut (d := N) hN2 hN2 hnc) (by omega) (by rw [HZ.out]; exact HL.out) (by rw [HZ.out]; exact HE.out) HM.out).mono ?_
    rintro e w2 ⟨la, lc, rfl, sl, g, bb⟩
    have G := hid g
    have HY := hid (HY.out.lift bb (fun _ _ h => h))
    have HW := hid (HW.out.lift bb (fun _ _ h => h))
    have S1 := hid sl
    clear g bb sl
    go_wp2_with fail
    refine (s_rgetsA (L := L) (E := E) m G.out (HW.out.cut (d := q1) hN2 (by omega) (Nat.le_refl _)) (by omega) (by rw [HZ.out]; exact HL.out) (by rw [HZ.out]; exact HE.out) HM.out).mono ?_
    rintro e w3 ⟨ma, mc, rfl, sl, g, bb⟩
    have G := hid g
    have HY := hid (HY.out.lift bb (fun _ _ h => h))
    have HW := hid (HW.out.lift bb (fun _ _ h => h))
    have S1 := hid (S1.out.below bb)
    have S2 := hid sl
    clear g bb sl
    go_wp2_with fail
    refine (s_sameSets lc mc true G.out S1.out S2.out (by have := HML.out; omega) (by have := HML.out; omega) (sameS_self _)).mono ?_
    rintro e w4 ⟨rfl, g, bb⟩
    have G := hid g
    have HY := hid (HY.out.lift bb (fun _ _ h => h))
    have HW := hid (HW.out.lift bb (fun _ _ h => h))
    clear g bb S1 S2
    go_wp2_with fail
    refine (s_fromNo G.out (HY.out.cut (d := N) hN2 hN2 hnc) (by omega) (by rw [HZ.out]; exact hfb)).mono ?_
    rintro e w5 ⟨rfl, g, bb⟩
    have G := hid g
    have HY := hid (HY.out.lift bb (fun _ _ h => h))
    have HW := hid (HW.out.lift bb (fun _ _ h => h))
    clear g bb
    go_wp2_with fail
    refine (s_rfromNo G.out (HW.out.cut (d := q1) hN2 (by omega) (Nat.le_refl _)) (by omega) (by rw [HZ.out]; exact hfb)).mono ?_
    rintro e w6 ⟨rfl, g, bb⟩
    have G := hid g
    have HY := hid (HY.out.lift bb (fun _ _ h => h))
    have HW := hid (HW.out.lift bb (fun _ _ h => h))
    clear g bb
    go_wp2_with fail
    refine (s_sameB c q1 true G.out HY.out.bs HW.out.bs (by omega) (by omega) (by simp)).mono ?_
    rintro e w7 ⟨rfl, g, bb⟩
    have G := hid g
    clear g bb HY HW
    go_wp2_with fail
    refine (kn _ _).mono ?_
    rintro e wy ⟨rfl, hw⟩
    rw [hw]
    clear hw wy
    go_wp2_with fail
    refine (kn _ _).mono ?_
    rintro e wy ⟨rfl, hw⟩
    rw [hw]
    clear hw wy
    go_wp2_with fail
    go_ret
    exact ⟨rfl, G.out⟩
  | some M =>
    have HFB := hid hfb
    obtain ⟨mm, HMM⟩ : ∃ x, Hid (M.length = x) := ⟨_, rfl⟩
    clear hfb
    go_enter Try.func17, Try.ntmps17
    go_wp2_with fail
    refine k1.mono ?_
    rintro e w1 ⟨v1, rfl, o1, g1⟩
    obtain ⟨p1, q1, rfl, vs1⟩ := Vs.ofOwn o1 hOY.out
    have G := hid g1
    have HY := hid (HY.out.lift g1 (fun _ _ h => h))
    have HW := hid vs1
    have j1 := vs1.nc
    have j2 := vs1.cm
    unfold maxLen at j2
    have j3 : (n : Int) ≤ q1 := by omega
    have j4 : ¬ q1 = 0 := by omega
    obtain ⟨pb, po, rfl⟩ : ∃ pb po, p1 = some ⟨pb, po, none⟩ := by
      rcases vs1.bs.2.2 with h0 | ⟨x, y, e, _⟩
      · exact absurd h0 i4
      · exact ⟨x, y, e⟩
    clear k1 o1 g1 vs1
    go_wp2_with fail
    refine (s_getsA (L := L) (E := E) m G.out (HY.out.cut (d := N) hN2 hN2 hnc) (by omega) (by rw [HZ.out]; exact HL.out) (by rw [HZ.out]; exact HE.out) HM.out).mono ?_
    rintro e w2 ⟨la, lc, rfl, sl, g, bb⟩
    have G := hid g
    have HY := hid (HY.out.lift bb (fun _ _ h => h))
    have HW := hid (HW.out.lift bb (fun _ _ h => h))
    have S1 := hid sl
    clear g bb sl
    go_wp2_with fail
    refine (s_rgetsA (L := L) (E := E) m G.out (HW.out.cut (d := q1) hN2 (by omega) (Nat.le_refl _)) (by omega) (by rw [HZ.out]; exact HL.out) (by rw [HZ.out]; exact HE.out) HM.out).mono ?_
    rintro e w3 ⟨ma, mc, rfl, sl, g, bb⟩
    have G := hid g
    have HY := hid (HY.out.lift bb (fun _ _ h => h))
    have HW := hid (HW.out.lift bb (fun _ _ h => h))
    have S1 := hid (S1.out.below bb)
    have S2 := hid sl
    clear g bb sl
    go_wp2_with fail
    refine (s_sameSets lc mc true G.out S1.out S2.out (by have := HML.out; omega) (by have := HML.out; omega) (sameS_self _)).mono ?_
    rintro e w4 ⟨rfl, g, bb⟩
    have G := hid g
    have HY := hid (HY.out.lift bb (fun _ _ h => h))
    have HW := hid (HW.out.lift bb (fun _ _ h => h))
    clear g bb S1 S2
    go_wp2_with fail
    refine (s_from (M := M) G.out (HY.out.cut (d := N) hN2 hN2 hnc) (by omega) (by rw [HZ.out]; exact HFB.out)).mono ?_
    rintro e w5 ⟨t, tb, rfl, tw, -, g, bb⟩
    have G := hid g
    have HY := hid (HY.out.lift bb (fun _ _ h => h))
    have HW := hid (HW.out.lift bb (fun _ _ h => h))
    have T := hid tw
    clear g bb tw
    go_wp2_with fail
    refine (s_rfrom (M := M) mm G.out (HW.out.cut (d := q1) hN2 (by omega) (Nat.le_refl _)) (by omega) (by rw [HZ.out]; exact HFB.out) HMM.out).mono ?_
    rintro e w6 ⟨rt, ra, rc, rfl, dr, hmm, -, g, bb⟩
    have G := hid g
    have HY := hid (HY.out.lift bb (fun _ _ h => h))
    have HW := hid (HW.out.lift bb (fun _ _ h => h))
    have T := hid (T.out.below bb)
    have D := hid dr
    clear g bb dr
    go_wp2_with fail
    refine (s_sameB c q1 true G.out HY.out.bs HW.out.bs (by omega) (by omega) (by simp)).mono ?_
    rintro e w7 ⟨rfl, g, bb⟩
    have G := hid g
    have T := hid (T.out.below bb)
    have D := hid (D.out.below bb)
    clear g bb HY HW
    go_wp2_with fail
    refine (kn _ _).mono ?_
    rintro e wy ⟨rfl, hw⟩
    rw [hw]
    clear hw wy
    go_wp2_with fail
    refine (kn _ _).mono ?_
    rintro e wy ⟨rfl, hw⟩
    rw [hw]
    clear hw wy
    have cD := D.out.cell
    go_wp2_with fail
    clear cD
    refine (s_rows mm mm G.out T.out HMM.out (by omega) (by omega)).mono ?_
    rintro e w8 ⟨xa, xc, rfl, r, g, bb⟩
    have G := hid g
    have D := hid (D.out.below bb)
    have R := hid r
    clear g bb r T
    have cD := D.out.cell
    go_wp2_with fail
    clear cD
    refine (s_sameRows xc rc true G.out R.out D.out.rl (by omega) (by omega) (sameT_self' _)).mono ?_
    rintro e w9 ⟨rfl, g, bb⟩
    have G := hid g
    clear g bb R D
    go_wp2_with fail
    go_ret
    exact ⟨rfl, G.out⟩
end Go.Proofs.Ytnmklleoilicdaa
