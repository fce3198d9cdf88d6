import Derived.Lib.SlBytesConst
import Derived.Test.YtblcpdffiafgnaaGreatDoorZR
namespace Go.Proofs.YtblcpdffiafgnaaGreatDoor
set_option linter.unusedSimpArgs false
set_option maxRecDepth 100000
open Go.RowKit Go.Shelf
set_option linter.unusedVariables false
set_option linter.unusedSimpArgs false

/-- The device has made a step by itself: the log in hand is told nothing of any more. -/
theorem Ti.dev1 {w0 w w' : World} {t d g : Nat} {l : Value} {Q R : Nat → Prop} {s1 x1 s2 x2 s3 x3 : Value} {T : Tp} {s' : St} (h : Ti w0 w t d g l Q R s1 x1 s2 x2 s3 x3 T) (hl : T.lg ≠ none) (F : Fr Q w w') (hd : Dev w' d s' Q) : Ti w0 w' t d g l Q R s1 x1 s2 x2 s3 x3 { T with s := s', lg := some (0, 0, 0) } := by
  have F' : Fr R w w' := F.weak (fun b _ q => h.qr b q)
  have hr : ∀ b, R b → R b ∨ (w.heap.size ≤ b ∧ b < w'.heap.size) := fun b q => .inl q
  exact h.turn F' (h.tn.fr F h.qt) hd ⟨h.lg.ptr, fun q => absurd rfl q⟩ h.qr (fun b q => q) h.qt hr (h.a1.fr F' hr) (h.a2.fr F' hr) (h.a3.fr F' hr)
/-- Behind a crash an Open tells what is sure. -/
theorem tu_open {T : Tp} {n : Nat} (u : Tu T n) (c : Calm T.s) (o : T.op = false) : (opT T).T = (opT T).A ∧ (opT T).A = T.A ∧ (opT T).lg ≠ none := by
  obtain ⟨c1, _⟩ := Calm.run (onP T.s.n) { T.s with k := T.s.k + 1 } c
  obtain ⟨_, _, o3, _, _⟩ := opT_s T
  rcases u.run with ⟨E, r1, _⟩ | ⟨a, ep, nx, pl, r1, r2, _⟩
  · rw [c1] at r1; cases r1
  · have hT : (opT T).T = a ∧ (opT T).lg = some (ep, nx, pl) := by unfold opT; rw [r1]; exact ⟨rfl, rfl⟩
    refine ⟨?_, o3, by rw [hT.2]; simp⟩
    rw [hT.1, o3]
    rcases r2 with q | q
    · exact q
    · rw [o] at q; cases q.1
/-- The device's state behind steps that write nothing. -/
theorem Tu.like {T : Tp} {n m : Nat} {s' : St} {y : Option (Nat × Nat × Nat)} (u : Tu T n) (h1 : s'.n = T.s.n) (h2 : s'.S = T.s.S) (h3 : s'.P = T.s.P) (hk : s'.k ≤ m) (hc : s'.c ≤ 200 * m) (hm : n ≤ m) : Tu { T with s := s', lg := y } m :=
  ⟨by show 32 ≤ s'.n; rw [h1]; exact u.n1, by show s'.n ≤ 100; rw [h1]; exact u.n2, hk, hc, by show s'.P.length ≤ _; rw [h3]; have := u.P; omega, by show Fu s'.S s'.P (fun D => Qa s'.n m D T.A ∨ (T.op = true ∧ Qa s'.n m D T.M)); rw [h1, h2, h3]; exact fu_up u.fu hm⟩
theorem Tu.crash {T : Tp} {n : Nat} (u : Tu T n) (ks : List Bool) : Tu { T with s := crS T.s ks } n := ⟨u.n1, u.n2, u.k, Nat.zero_le _, Nat.zero_le _, u.fu.crash ks⟩
theorem opPost_ret {N B : Nat} {Q : Nat → Prop} {w' : World} {en : Ending} {d mi : Nat} {s' : St} {r : Except Int (Option (List Int × List (List Int) × Nat × Nat × Nat))} (h : opPost N B Q w' en d mi s' r) : ∃ v, en = .returned v := by
  unfold opPost at h
  split at h
  · exact ⟨_, h⟩
  · exact ⟨_, h⟩
  · obtain ⟨g, v, vt, xs, e, _⟩ := h
    exact ⟨_, e⟩
theorem tm4 (a : Int) : ∃ A B : Int, a.tmod 4 = A ∧ (A + 4).tmod 4 = B ∧ -4 < A ∧ A < 4 ∧ 0 ≤ B ∧ B < 4 := by
  have key : ∀ x : Int, -4 < x.tmod 4 ∧ x.tmod 4 < 4 := fun x => by
    have h1 : (x.tmod 4).natAbs = x.natAbs % 4 := Int.natAbs_tmod x 4
    omega
  have h1 := key a
  have h2 := key (a.tmod 4 + 4)
  have h3 := Int.tmod_nonneg 4 (show 0 ≤ a.tmod 4 + 4 by omega)
  exact ⟨_, _, rfl, rfl, h1.1, h1.2, h3, h2.2⟩
set_option maxHeartbeats 8000000 in
theorem walClaims_ (n : Int) (w : World) (hT : Tab w) (xa : Option Addr) (xn xc : Nat) (X : Nat → Xt) (hx : IsTxs w xa xn X) (hxn : xn ≤ 140737488355328) (hand : Bool) (a : Int) : Calls Tryz.prog 7 #[.int .i64 n, .slice xa xn xc, .bool hand, .int .i64 a] w fun en w' => en = .returned (.bool true) ∧ Below w.heap.size w w' := by
  have k1 := first_ w hT
  have kc := fun (w : World) (C : Array Value) (n c : Nat) => Lib.run_convert_bytes_const (P := Tryz.prog) w 27 5 C n c Tryz.underlying27 Tryz.underlying5
  have HT := hid hT
  have HX := hid hx
  clear hT hx
  go_enter Tryz.func7, Tryz.ntmps7
  go_wp2_with fail
  refine k1.mono ?_
  rintro en w1 ⟨rfl, B1⟩
  simp only
  have B2 : Below w1.heap.size w1 (w1.alloc (.cells #[.int .u8 115] 5 (1, 2))) := (Below.refl _ _).alloc (Nat.le_refl _) _
  have r2 : Bs (w1.alloc (.cells #[.int .u8 115] 5 (1, 2))) (some ⟨w1.heap.size, 0, none⟩) 1 [115] := bs_lit w1 [115] (1, 2) (by intro z hz; simp at hz; subst hz; decide)
  have T2 : Tab (w1.alloc (.cells #[.int .u8 115] 5 (1, 2))) := (HT.out.bel B1).bel B2
  have X2 := (HX.out.below B1).below B2
  have BW2 := hid (bel_bel B1 B1.size B2)
  obtain ⟨w2, HW2⟩ : ∃ w2, (w1.alloc (.cells #[.int .u8 115] 5 (1, 2))) = w2 := ⟨_, rfl⟩
  rw [HW2] at r2 T2 X2 BW2
  have kf := filled_ n w2 T2 xa xn xc X X2 hxn (some ⟨w1.heap.size, 0, none⟩) 1 1 [115] ⟨r2, by omega, by unfold maxLen; omega, by omega⟩
  clear k1 B1 B2 r2 T2 X2
  go_wp2_with fail
  refine kf.mono ?_
  rintro en w3 ⟨t, rfl, T, hk, htw⟩
  simp only
  obtain ⟨d, g, l, Q, R, s1, x1, s2, x2, s3, x3, H⟩ := htw
  obtain ⟨y, hlg⟩ := Option.ne_none_iff_exists'.1 hk.l
  obtain ⟨ep, nx, pl⟩ := y
  obtain ⟨p1, p2, p3, p4, p5⟩ := hk.v.pl hlg
  obtain ⟨rfl, q1, gt, rg⟩ := H.wq hlg p2
  rw [hk.s] at q1
  have hop := hk.o
  have c0 : w3.cell? ⟨t, 0, none⟩ = some (.pointer (some ⟨d, 0, none⟩)) := H.tn.cell 0
  have c1 : w3.cell? ⟨t, 1, none⟩ = some (.pointer (some ⟨g, 0, none⟩)) := H.tn.cell 1
  have HH := hid H
  have HQ1 := hid q1
  have HK := hid hk
  have hkk := hk.v.k
  have hkc := hk.v.c
  have hkP := hk.v.P
  clear kf H q1 hk
  cases hand with
  | true =>
    have kcl := claimD HH.out.dv (by omega)
    go_wp2_with fail
    refine kcl.mono ?_
    rintro en w4 ⟨rfl, D4, F4⟩
    simp only
    obtain ⟨s', hs'⟩ : ∃ s', ({ T.s with k := T.s.k + 1 } : St) = s' := ⟨_, rfl⟩
    rw [hs'] at D4
    have hed : edd T.s.k false s' = true := by unfold edd; rw [← hs']; simp
    have hpl : pl ≤ roo s'.n := by rw [← hs']; exact p1
    obtain ⟨Q', hQ'⟩ : ∃ Q', Q = Q' := ⟨_, rfl⟩
    rw [hQ'] at D4 F4 HQ1 HH
    have T4 := HH.out.dev1 HK.out.l F4 D4
    have q4 := HQ1.out.dev D4 F4 HQ1.out.ng HQ1.out.n0
    have hu : Tu { T with s := s', lg := some (0, 0, 0) } 60 := HK.out.v.tu.like (by rw [← hs']) (by rw [← hs']) (by rw [← hs']) (by rw [← hs']; show T.s.k + 1 ≤ _; omega) (by rw [← hs']; show T.s.c ≤ _; omega) (by omega)
    clear kcl D4 F4 c0 c1 HQ1 HH
    have kdn := doneD q4.dv
    have d0 : w4.cell? ⟨t, 0, none⟩ = some (.pointer (some ⟨d, 0, none⟩)) := T4.tn.cell 0
    have H4 := hid T4
    have HQ4 := hid q4
    obtain ⟨CN, HCN⟩ : ∃ CN : Nat, s'.c = CN := ⟨_, rfl⟩
    rw [HCN] at kdn
    clear T4 q4
    go_wp2_with fail
    refine kdn.mono ?_
    rintro en w5 ⟨rfl, hw⟩
    obtain rfl := hw.symm
    clear hw kdn
    simp only
    have ks := wsafe_e g d _ _ _ _ _ _ s' _ w4 HQ4.out hed
    go_wp2_with fail
    refine ks.mono ?_
    rintro en w5 ⟨rfl, dr5⟩
    simp only
    have B5 := hid dr5.below
    have B6 : Below w5.heap.size w5 (w5.alloc (.cells #[.int .u8 120] 5 (1, 2))) := (Below.refl _ _).alloc (Nat.le_refl _) _
    have HB6 := hid B6
    have hae : aE (true && !edd T.s.k false s') 1 nx pl (roo s'.n) = 115 := by rw [hed]; rfl
    have kap := wapp_no ((HQ4.out.below B5.out).below B6) (some ⟨w5.heap.size, 0, none⟩) 1 1 (by omega) hpl (by rw [hae]; decide)
    rw [hae] at kap
    clear ks dr5 B6 d0
    go_wp2_with fail
    refine kap.mono ?_
    rintro en w7 ⟨rfl, dr7⟩
    simp only
    have B7 := hid dr7.below
    have q7 := ((HQ4.out.below B5.out).below HB6.out).below B7.out
    have hke : kE (true && !edd T.s.k false s') 0 ep nx (roo s'.n) = 115 := by rw [hed]; rfl
    have kck := wchk_no q7 none 0 0 (by omega) (by rw [hke]; decide)
    rw [hke] at kck
    clear kap dr7 q7
    go_wp2_with fail
    refine kck.mono ?_
    rintro en w8 ⟨rfl, dr8⟩
    simp only
    have B8 := hid dr8.below
    have q8 := (((HQ4.out.below B5.out).below HB6.out).below B7.out).below B8.out
    have kst := wstate_e q8 hed
    clear kck dr8 q8
    go_wp2_with fail
    refine kst.mono ?_
    rintro en w9 ⟨rfl, dr9⟩
    simp only
    have B9 := hid dr9.below
    have q9 := ((((HQ4.out.below B5.out).below HB6.out).below B7.out).below B8.out).below B9.out
    have kle := wleft_e q9 hed
    clear kst dr9 q9
    go_wp2_with fail
    refine kle.mono ?_
    rintro en w10 ⟨rfl, dr10⟩
    simp only
    have B10 := hid dr10.below
    have q10 := (((((HQ4.out.below B5.out).below HB6.out).below B7.out).below B8.out).below B9.out).below B10.out
    have krm := wroomL_e q10 hed
    clear kle dr10 q10
    go_wp2_with fail
    refine krm.mono ?_
    rintro en w11 ⟨rfl, dr11⟩
    simp only
    have B11 := hid dr11.below
    have T11 := ((((((H4.out.below B5.out).below HB6.out).below B7.out).below B8.out).below B9.out).below B10.out).below B11.out
    have d0 : w11.cell? ⟨t, 0, none⟩ = some (.pointer (some ⟨d, 0, none⟩)) := T11.tn.cell 0
    have kdn := doneD T11.dv
    simp only at kdn
    rw [HCN] at kdn
    have kcr := crash_ d s' Q' none 0 0 [] w11 T11.dv (by have := hu.P; simp only at this; omega) ⟨rfl, .inl rfl⟩ (fun ad e => by cases e) (by omega)
    have H11 := hid T11
    have e2 : ((CN : Int) != (CN : Int)) = false := by simp
    clear krm dr11 T11 H4 HQ4 B5 HB6 B7 B8 B9 B10 B11
    go_wp2_with (first | (go_at_call 21; refine (num12 _ _).mono ?_; rintro e w' ⟨rfl, hw⟩; obtain rfl := hw.symm; clear hw) | (go_at_call 24; refine kdn.mono ?_; rintro e w' ⟨rfl, hw⟩; obtain rfl := hw.symm; clear hw))
    refine kcr.mono ?_
    rintro en w12 ⟨rfl, D12, F12⟩
    simp only
    have T12 := H11.out.dev F12 D12 rfl
    have hu2 := hu.crash ([] : List Bool)
    have ko := opens_u w2 w12 t _ 60 ⟨_, _, _, _, _, _, _, _, _, _, _, T12⟩ hu2 (by omega)
    have KO := hid (tu_open hu2 ⟨rfl, fun _ => rfl⟩ hop)
    clear kcr kdn D12 F12 T12 H11 d0
    go_wp2_with fail
    refine ko.mono ?_
    rintro en w13 ⟨rfl, h13⟩
    simp only
    obtain ⟨v1, v2, v3, v4, z3, z4, z8, z9, kS⟩ := h13.ts
    have C3 := hid z3
    have C4 := hid z4
    have C8 := hid z8
    have C9 := hid z9
    rw [decide_eq_true KO.out.1] at kS
    have KS := hid kS
    have H13 := hid h13
    clear ko h13 z3 z4 z8 z9 kS
    go_wp2_with fail
    refine wp_quietC (Bw w13) (by kernel_rfl) (by kernel_rfl) (Bw.drew w13) ?_
    repeat (first | go_big_quiet_skip | (go_big_quiet_want; go_big_quiet_op; first | go_big_quiet_on | (apply Exists.intro; refine ⟨fun wq hq => ?_, ?_⟩; (· first | (with_reducible rfl) | (go_at_call 14; exact KS.out _ hq) | (have q3 := hq.cell C3.out; have q4 := hq.cell C4.out; have q8 := hq.cell C8.out; have q9 := hq.cell C9.out; go_simp; rfl) | rfl); go_big_quiet_on)))
    refine wpQuiet_nil ?_
    intro w14 s14
    have HF := hid (bel_bel BW2.out BW2.out.size (H13.out.below s14).bel)
    clear C3 C4 C8 C9 KS H13 s14
    go_wp2_with fail
    go_ret
    exact ⟨rfl, HF.out⟩
  | false =>
    obtain ⟨A, B, hA, hB, b1, b2, b3, b4⟩ := tm4 a
    have B4 : Below w3.heap.size w3 (w3.alloc (.cells #[.int .i64 (B + 1), .int .i64 2] 50)) := (Below.refl _ _).alloc (Nat.le_refl _) _
    have r4 : (w3.alloc (.cells #[.int .i64 (B + 1), .int .i64 2] 50)).heap[w3.heap.size]? = some (.cells #[.int .i64 (B + 1), .int .i64 2] 50 (0, 0)) := World.alloc_heap_new w3 _
    obtain ⟨wa, HWa⟩ : ∃ wa, (w3.alloc (.cells #[.int .i64 (B + 1), .int .i64 2] 50)) = wa := ⟨_, rfl⟩
    rw [HWa] at B4 r4
    have fs4 : Fs wa (some ⟨w3.heap.size, 0, none⟩) 1 [(B + 1, 2)] := ⟨rfl, .inr ⟨_, _, rfl, fun i hi => by
      obtain rfl : i = 0 := by omega
      exact ⟨(cell_of_row _ _ 0 _ _ (0, 0) r4).trans rfl, (cell_of_row _ _ 1 _ _ (0, 0) r4).trans rfl⟩⟩⟩
    have Ta := HH.out.below B4
    have kar := arm_ d T.s Q (some ⟨w3.heap.size, 0, none⟩) 1 1 [(B + 1, 2)] wa Ta.dv fs4 (by omega)
    have HTa := hid Ta
    have HQa := hid (HQ1.out.below B4)
    clear HQ1 HH Ta B4 r4 fs4
    go_wp2_with fail
    refine kar.mono ?_
    rintro en wb ⟨rfl, Db, Fb⟩
    simp only
    have hark := (arS_is T.s [(B + 1, 2)])
    have Tb := HTa.out.dev Fb Db hark.2.1
    have qb := HQa.out.devn Db Fb
    have d0 : wb.cell? ⟨t, 0, none⟩ = some (.pointer (some ⟨d, 0, none⟩)) := Tb.tn.cell 0
    obtain ⟨sa, hsa⟩ : ∃ sa, arS T.s [(B + 1, 2)] = sa := ⟨_, rfl⟩
    rw [hsa] at Tb qb hark
    obtain ⟨Q', hQ'⟩ : ∃ Q' : Nat → Prop, Qn Q wa wb = Q' := ⟨_, rfl⟩
    have hQ2 : (fun b => Q b ∨ (wa.heap.size ≤ b ∧ b < wb.heap.size)) = Q' := hQ'
    rw [hQ2] at Tb
    rw [hQ'] at qb
    have kop := open_ d sa Q' wb Tb.dv Tb.tab Tb.q0 (by omega) (by rw [hark.2.2.2.2]; omega) (by omega)
    have HTb := hid Tb
    have HQb := hid qb
    clear kar Db Fb Tb qb HTa HQa c0 c1
    go_wp2_with fail
    refine kop.mono ?_
    rintro en w4 ⟨hen, D4, F4⟩
    obtain ⟨vo, rfl⟩ := opPost_ret hen
    simp only
    have n3 := run_SP (onP sa.n) { sa with k := sa.k + 1 }
    have n4 := run_nk (onP sa.n) { sa with k := sa.k + 1 }
    have n5 := on_c sa.n { sa with k := sa.k + 1 }
    have hr := roo_100 HK.out.v.n2
    rw [show roo T.s.n = roo sa.n by rw [hark.1]] at hr
    obtain ⟨s', hs'⟩ : ∃ s', ((onP sa.n).run { sa with k := sa.k + 1 }).2 = s' := ⟨_, rfl⟩
    rw [hs'] at D4 n3 n4 n5
    have n5' : s'.c ≤ sa.c + (3 * roo sa.n + 2) := n5
    have hed : edd T.s.k false s' = true := by unfold edd; rw [n4.2]; simp only; rw [hark.2.1]; simp
    have hpl : pl ≤ roo s'.n := by rw [n4.1]; simp only; rw [hark.1]; exact p1
    have T4 := HTb.out.dev1 HK.out.l F4 D4
    have q4 := HQb.out.dev D4 F4 HQb.out.ng HQb.out.n0
    have hu : Tu { T with s := s', lg := some (0, 0, 0) } 60 := HK.out.v.tu.like (by rw [n4.1]; exact hark.1) (by rw [n3.1]; exact hark.2.2.2.1) (by rw [n3.2]; exact hark.2.2.2.2) (by rw [n4.2]; show sa.k + 1 ≤ _; omega) (by omega) (by omega)
    clear kop D4 F4 hen HTb HQb d0
    have kdn := doneD q4.dv
    have d0 : w4.cell? ⟨t, 0, none⟩ = some (.pointer (some ⟨d, 0, none⟩)) := T4.tn.cell 0
    have H4 := hid T4
    have HQ4 := hid q4
    obtain ⟨CN, HCN⟩ : ∃ CN : Nat, s'.c = CN := ⟨_, rfl⟩
    rw [HCN] at kdn
    clear T4 q4
    go_wp2_with fail
    refine kdn.mono ?_
    rintro en w5 ⟨rfl, hw⟩
    obtain rfl := hw.symm
    clear hw kdn
    simp only
    have ks := wsafe_e g d _ _ _ _ _ _ s' _ w4 HQ4.out hed
    go_wp2_with fail
    refine ks.mono ?_
    rintro en w5 ⟨rfl, dr5⟩
    simp only
    have B5 := hid dr5.below
    have B6 : Below w5.heap.size w5 (w5.alloc (.cells #[.int .u8 120] 5 (1, 2))) := (Below.refl _ _).alloc (Nat.le_refl _) _
    have HB6 := hid B6
    have hae : aE (true && !edd T.s.k false s') 1 nx pl (roo s'.n) = 115 := by rw [hed]; rfl
    have kap := wapp_no ((HQ4.out.below B5.out).below B6) (some ⟨w5.heap.size, 0, none⟩) 1 1 (by omega) hpl (by rw [hae]; decide)
    rw [hae] at kap
    clear ks dr5 B6 d0
    go_wp2_with fail
    refine kap.mono ?_
    rintro en w7 ⟨rfl, dr7⟩
    simp only
    have B7 := hid dr7.below
    have q7 := ((HQ4.out.below B5.out).below HB6.out).below B7.out
    have hke : kE (true && !edd T.s.k false s') 0 ep nx (roo s'.n) = 115 := by rw [hed]; rfl
    have kck := wchk_no q7 none 0 0 (by omega) (by rw [hke]; decide)
    rw [hke] at kck
    clear kap dr7 q7
    go_wp2_with fail
    refine kck.mono ?_
    rintro en w8 ⟨rfl, dr8⟩
    simp only
    have B8 := hid dr8.below
    have q8 := (((HQ4.out.below B5.out).below HB6.out).below B7.out).below B8.out
    have kst := wstate_e q8 hed
    clear kck dr8 q8
    go_wp2_with fail
    refine kst.mono ?_
    rintro en w9 ⟨rfl, dr9⟩
    simp only
    have B9 := hid dr9.below
    have q9 := ((((HQ4.out.below B5.out).below HB6.out).below B7.out).below B8.out).below B9.out
    have kle := wleft_e q9 hed
    clear kst dr9 q9
    go_wp2_with fail
    refine kle.mono ?_
    rintro en w10 ⟨rfl, dr10⟩
    simp only
    have B10 := hid dr10.below
    have q10 := (((((HQ4.out.below B5.out).below HB6.out).below B7.out).below B8.out).below B9.out).below B10.out
    have krm := wroomL_e q10 hed
    clear kle dr10 q10
    go_wp2_with fail
    refine krm.mono ?_
    rintro en w11 ⟨rfl, dr11⟩
    simp only
    have B11 := hid dr11.below
    have T11 := ((((((H4.out.below B5.out).below HB6.out).below B7.out).below B8.out).below B9.out).below B10.out).below B11.out
    have d0 : w11.cell? ⟨t, 0, none⟩ = some (.pointer (some ⟨d, 0, none⟩)) := T11.tn.cell 0
    have kdn := doneD T11.dv
    simp only at kdn
    rw [HCN] at kdn
    have kcr := crash_ d s' Q' none 0 0 [] w11 T11.dv (by have := hu.P; simp only at this; omega) ⟨rfl, .inl rfl⟩ (fun ad e => by cases e) (by omega)
    have H11 := hid T11
    have e2 : ((CN : Int) != (CN : Int)) = false := by simp
    clear krm dr11 T11 H4 HQ4 B5 HB6 B7 B8 B9 B10 B11
    go_wp2_with (first | (go_at_call 21; refine (num12 _ _).mono ?_; rintro e w' ⟨rfl, hw⟩; obtain rfl := hw.symm; clear hw) | (go_at_call 24; refine kdn.mono ?_; rintro e w' ⟨rfl, hw⟩; obtain rfl := hw.symm; clear hw))
    refine kcr.mono ?_
    rintro en w12 ⟨rfl, D12, F12⟩
    simp only
    have T12 := H11.out.dev F12 D12 rfl
    have hu2 := hu.crash ([] : List Bool)
    have ko := opens_u w2 w12 t _ 60 ⟨_, _, _, _, _, _, _, _, _, _, _, T12⟩ hu2 (by omega)
    have KO := hid (tu_open hu2 ⟨rfl, fun _ => rfl⟩ hop)
    clear kcr kdn D12 F12 T12 H11 d0
    go_wp2_with fail
    refine ko.mono ?_
    rintro en w13 ⟨rfl, h13⟩
    simp only
    obtain ⟨v1, v2, v3, v4, z3, z4, z8, z9, kS⟩ := h13.ts
    have C3 := hid z3
    have C4 := hid z4
    have C8 := hid z8
    have C9 := hid z9
    rw [decide_eq_true KO.out.1] at kS
    have KS := hid kS
    have H13 := hid h13
    clear ko h13 z3 z4 z8 z9 kS
    go_wp2_with fail
    refine wp_quietC (Bw w13) (by kernel_rfl) (by kernel_rfl) (Bw.drew w13) ?_
    repeat (first | go_big_quiet_skip | (go_big_quiet_want; go_big_quiet_op; first | go_big_quiet_on | (apply Exists.intro; refine ⟨fun wq hq => ?_, ?_⟩; (· first | (with_reducible rfl) | (go_at_call 14; exact KS.out _ hq) | (have q3 := hq.cell C3.out; have q4 := hq.cell C4.out; have q8 := hq.cell C8.out; have q9 := hq.cell C9.out; go_simp; rfl) | rfl); go_big_quiet_on)))
    refine wpQuiet_nil ?_
    intro w14 s14
    have HF := hid (bel_bel BW2.out BW2.out.size (H13.out.below s14).bel)
    clear C3 C4 C8 C9 KS H13 s14
    go_wp2_with fail
    go_ret
    exact ⟨rfl, HF.out⟩
end Go.Proofs.YtblcpdffiafgnaaGreatDoor
