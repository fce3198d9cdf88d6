import Derived.Test.YtcbmgpmjnehjdaaGreatRT
namespace Go.Proofs.YtcbmgpmjnehjdaaGreat
set_option maxRecDepth 100000
open Go.RowKit
set_option linter.unusedVariables false

theorem lok_parts (m : Nat) (S C N s n : Int) : lok m S C N s n = (decide (m = 32) && (wtn S 0 1 && (wtn C 1 2147483647 && (wtn N 0 2147483647 && vld s n)))) := by
  unfold lok wtn
  cases vld s n
  · simp
  · simp only [Bool.and_true, true_and]
    rw [← Bool.decide_and, ← Bool.decide_and, ← Bool.decide_and]
    exact decide_eq_decide.2 (by omega)
set_option maxHeartbeats 1000000 in
/-- The landed laneMayBe. -/
theorem laneMayBe_ (a : Option Addr) (m c : Nat) (S C N D E s n : Int) (w : World) (hm : m ≤ maxLen) (hs : i64r s) (hn : i64r n) :
    Calls Tryz.prog 77 #[.agg #[.slice a m c, .int .i64 S, .int .i64 C, .int .i64 N, .int .u64 D, .int .u64 E, .int .i64 s, .int .i64 n]] w fun e w' => e = .returned (.bool (lok m S C N s n)) ∧ Below w.heap.size w w' := by
  have B0 := lnew w a m c S C N D E s n
  have m0 := Lm.new w a m c S C N D E s n
  rw [lok_parts]
  have k0 := fun wx => risKey_ a m c wx hm
  have k1 := fun wx => rwithin_ S 0 1 wx
  have k2 := fun wx => rwithin_ C 1 2147483647 wx
  have k3 := fun wx => rwithin_ N 0 2147483647 wx
  have k4 := fun wx => svalid_ s n wx hs hn
  have c0 := m0.c0
  have c1 := m0.c1
  have c2 := m0.c2
  have c3 := m0.c3
  have c6 := m0.c6
  have c7 := m0.c7
  have HB := hid B0
  clear B0 m0 hm hs hn
  generalize decide (m = 32) = q0 at *
  generalize wtn S 0 1 = q1 at *
  generalize wtn C 1 2147483647 = q2 at *
  generalize wtn N 0 2147483647 = q3 at *
  generalize vld s n = q4 at *
  go_enter Tryz.func77, Tryz.ntmps77
  go_wp2_with fail
  refine (k0 _).mono ?_
  rintro e w1 ⟨rfl, hw⟩
  rw [hw]
  clear hw w1 k0
  cases q0
  · go_wp2_with fail
    go_ret
    exact ⟨rfl, HB.out⟩
  · go_wp2_with fail
    refine (k1 _).mono ?_
    rintro e w1 ⟨rfl, hw⟩
    rw [hw]
    clear hw w1 k1
    cases q1
    · go_wp2_with fail
      go_ret
      exact ⟨rfl, HB.out⟩
    · go_wp2_with fail
      refine (k2 _).mono ?_
      rintro e w1 ⟨rfl, hw⟩
      rw [hw]
      clear hw w1 k2
      cases q2
      · go_wp2_with fail
        go_ret
        exact ⟨rfl, HB.out⟩
      · go_wp2_with fail
        refine (k3 _).mono ?_
        rintro e w1 ⟨rfl, hw⟩
        rw [hw]
        clear hw w1 k3
        cases q3
        · go_wp2_with fail
          go_ret
          exact ⟨rfl, HB.out⟩
        · go_wp2_with fail
          refine (k4 _).mono ?_
          rintro e w1 ⟨rfl, g1⟩
          have HB1 := hid (bel_bel HB.out HB.out.size g1)
          clear k4 g1 c0 c1 c2 c3 c6 c7
          go_wp2_with fail
          go_ret
          exact ⟨ret_bool (by simp), HB1.out⟩
end Go.Proofs.YtcbmgpmjnehjdaaGreat
namespace Go.Proofs.YtcbmgpmjnehjdaaGreat
set_option maxRecDepth 100000
open Go.RowKit
set_option linter.unusedVariables false

theorem be_one {x : Int} (h : 0 ≤ x ∧ x ≤ 255) : be 1 x = [x] := by
  simp [be]
  omega
set_option maxHeartbeats 2000000 in
/-- The landed PutLane. -/
theorem putLane_ (a : Option Addr) (m c : Nat) (k : List Int) (S C N D E s n : Int) (w : World) (hk : Bs w a m k) (hm : m ≤ maxLen) (hS : i64r S) (hC : i64r C) (hN : i64r N) (hD : u64r D) (hE : u64r E) (hs : i64r s) (hn : i64r n) :
    Calls Tryz.prog 40 #[.agg #[.slice a m c, .int .i64 S, .int .i64 C, .int .i64 N, .int .u64 D, .int .u64 E, .int .i64 s, .int .i64 n]] w fun e w' => Rp w (lRK k S C N s n) (lRV k S C N D E s n) (lRE k S C N s n) e w' := by
  unfold i64r u64r at *
  have hkl := hk.1
  have B0 := (lnew w a m c S C N D E s n).alloc (B := w.heap.size) (by simp) (.cells #[.slice none 0 0, .slice none 0 0] 54)
  have m0 : Lm ((w.alloc (.cells #[.slice a m c, .int .i64 S, .int .i64 C, .int .i64 N, .int .u64 D, .int .u64 E, .int .i64 s, .int .i64 n] 64)).alloc (.cells #[.slice none 0 0, .slice none 0 0] 54)) w.heap.size a m c S C N D E s n := (Lm.new w a m c S C N D E s n).at (Below.heap_alloc _ _ _ (by simp))
  have m1 := heap_alloc_new (w.alloc (.cells #[.slice a m c, .int .i64 S, .int .i64 C, .int .i64 N, .int .u64 D, .int .u64 E, .int .i64 s, .int .i64 n] 64)) (.cells #[.slice none 0 0, .slice none 0 0] 54)
  rw [World.size_alloc] at m1
  have HM := hid m1
  have HK := hid hk
  have ko := fun wx => laneMayBe_ a m c S C N D E s n wx hm hs hn
  obtain ⟨q, HQ⟩ : ∃ q, Hid (lok m S C N s n = q) := ⟨_, rfl⟩
  have HR : Hid (lRK k S C N s n = (if q then lK k else []) ∧ lRV k S C N D E s n = (if q then lV S C N D E s n else []) ∧ lRE k S C N s n = (if q then 0 else 114)) := by
    unfold lRK lRV lRE
    rw [hkl, HQ.out]
    exact ⟨rfl, rfl, rfl⟩
  rw [HR.out.1, HR.out.2.1, HR.out.2.2]
  rw [HQ.out] at ko
  clear HR m1 hk
  go_enter Tryz.func40, Tryz.ntmps40
  go_wp2_with fail
  refine (ko _).mono ?_
  rintro e w1 ⟨rfl, g1⟩
  have HB := hid (bel_bel B0 B0.size g1)
  have m1 := m0.kept g1
  have HM1 := hid ((g1.block (w.heap.size + 1) (by simp)).trans HM.out)
  have HMlt : Hid (w.heap.size + 1 < w1.heap.size) := by have := g1.size; simp at this; show _ < _; omega
  clear B0 m0 g1 HM
  cases q
  · clear HQ
    have z0 := (two_cell HM1.out).1
    have z1 := (two_cell HM1.out).2
    have f0 := two_fz HM1.out 0
    have f1 := two_fz HM1.out 1
    have HM2 := hid (two_set (a := .slice none 0 0) (b := .slice none 0 0) HM1.out)
    have HB2 := hid ((HB.out.setCell (p := ⟨w.heap.size + 1, 0, none⟩) (Nat.le_succ _) (.slice none 0 0)).setCell (p := ⟨w.heap.size + 1, 1, none⟩) (Nat.le_succ _) (.slice none 0 0))
    go_wp2_with fail
    refine bodyPost_ret (v := .tuple #[.agg #[.slice none 0 0, .slice none 0 0], .int .i64 114]) ?_ rfl ⟨none, 0, none, 0, rfl, vs_none _ _, vs_none _ _, HB2.out⟩
    exact results_rw rfl _ _ (w.heap.size + 1) _ _ 0 0 0 0 _ rfl rfl (two_cell HM2.out).1 (two_cell HM2.out).2
  · have hq := of_decide_eq_true (show decide _ = true from HQ.out)
    obtain ⟨q1, q2, q3, q4, q5, q6, q7⟩ := hq
    have HV : Hid (vld s n = true) := q1
    clear HQ q1
    subst q2
    have HL1 := hid m1
    have HS1 := hid (St.one w1 76)
    have HKA := hid ((HK.out.below HB.out).below HS1.out.bel)
    have c0 := (m1.kept HS1.out.bel).c0
    clear m1
    go_wp2_with (at_builtin; refine wpList_appS (W := w1) rfl _ _ rfl _ [76] rfl (by exact HS1.out) a 32 c k rfl (by exact HKA.out) (by simp) ?_; intro v5 w5 s5; have HS5 := hid s5; have c1 := (HL1.out.kept s5.bel).c1; clear s5)
    have HL5 := hid (HL1.out.kept HS5.out.bel)
    have HM5 := hid ((HS5.out.bel.block (w.heap.size + 1) HMlt.out).trans HM1.out)
    have HB5 := hid (bel_bel HB.out HB.out.size HS5.out.bel)
    have HMlt0 := hid HMlt.out
    have HMlt5 := hid (Nat.lt_of_lt_of_le HMlt.out HS5.out.bel.size)
    clear HS1 HKA c0 HL1 HM1 HB HMlt
    refine (oput8 none 0 0 [] S w5 ⟨rfl, by simp, .inl rfl⟩ (by omega) (by omega) (by omega)).mono ?_
    rintro e wa ⟨va, rfl, oa, ga⟩
    rw [List.nil_append, be_one (by omega)] at oa
    have HSa : Hid (St w5 wa va [S]) := ⟨oa, ga⟩
    obtain ⟨aa, ca, rfl, vsa⟩ := Vs.ofOwn (show wa.ownsRow w5.heap.size 5 1 va 1 (cells [S]) from oa) (Okb1 S (by omega))
    have HBa := hid vsa.bs
    have c2 := (HL5.out.kept ga).c2
    clear c1 oa ga vsa
    go_wp2_with fail
    clear c2
    refine (oput32 aa 1 ca [S] C wa HBa.out (by omega) (by omega) (by omega)).mono ?_
    rintro e wb ⟨vb, rfl, ob, gb⟩
    have HSb : Hid (St w5 wb vb ([S] ++ be 4 C)) := ⟨own_monoT (by rw [show ([S] ++ be 4 C).length = 5 from by simp [be_length]]; exact ob) HSa.out.bel.size, bel_bel HSa.out.bel HSa.out.bel.size gb⟩
    obtain ⟨ab, cb, rfl, vsb⟩ := Vs.ofOwn (show wb.ownsRow wa.heap.size 5 1 vb 5 (cells ([S] ++ be 4 C)) from ob) (by intro z hz; simp only [List.mem_append, List.mem_singleton] at hz; rcases hz with h | h <;> first | exact be_byte _ _ z h | (rw [h]; omega))
    have HBb := hid vsb.bs
    have c3 := (HL5.out.kept HSb.out.bel).c3
    clear ob gb vsb HBa HSa
    go_wp2_with fail
    clear c3
    refine (oput32 ab 5 cb ([S] ++ be 4 C) N wb HBb.out (by omega) (by omega) (by omega)).mono ?_
    rintro e wc ⟨vc, rfl, oc, gc⟩
    have HSc : Hid (St w5 wc vc (([S] ++ be 4 C) ++ be 4 N)) := ⟨own_monoT (by rw [show (([S] ++ be 4 C) ++ be 4 N).length = 9 from by simp [be_length]]; exact oc) HSb.out.bel.size, bel_bel HSb.out.bel HSb.out.bel.size gc⟩
    obtain ⟨ac, cc, rfl, vsc⟩ := Vs.ofOwn (show wc.ownsRow wb.heap.size 5 1 vc 9 (cells (([S] ++ be 4 C) ++ be 4 N)) from oc) (by intro z hz; simp only [List.mem_append, List.mem_singleton] at hz; rcases hz with (h | h) | h <;> first | exact be_byte _ _ z h | (rw [h]; omega))
    have HBc := hid vsc.bs
    have c4 := (HL5.out.kept HSc.out.bel).c4
    clear oc gc vsc HBb HSb
    go_wp2_with fail
    clear c4
    refine (oput64 ac 9 cc (([S] ++ be 4 C) ++ be 4 N) D wc HBc.out (by omega) (by omega) (by omega)).mono ?_
    rintro e wd ⟨vd, rfl, od, gd⟩
    have HSd : Hid (St w5 wd vd ((([S] ++ be 4 C) ++ be 4 N) ++ be 8 D)) := ⟨own_monoT (by rw [show ((([S] ++ be 4 C) ++ be 4 N) ++ be 8 D).length = 17 from by simp [be_length]]; exact od) HSc.out.bel.size, bel_bel HSc.out.bel HSc.out.bel.size gd⟩
    obtain ⟨ad, cd, rfl, vsd⟩ := Vs.ofOwn (show wd.ownsRow wc.heap.size 5 1 vd 17 (cells ((([S] ++ be 4 C) ++ be 4 N) ++ be 8 D)) from od) (by intro z hz; simp only [List.mem_append, List.mem_singleton] at hz; rcases hz with ((h | h) | h) | h <;> first | exact be_byte _ _ z h | (rw [h]; omega))
    have HBd := hid vsd.bs
    have c5 := (HL5.out.kept HSd.out.bel).c5
    clear od gd vsd HBc HSc
    go_wp2_with fail
    clear c5
    refine (oput64 ad 17 cd ((([S] ++ be 4 C) ++ be 4 N) ++ be 8 D) E wd HBd.out (by omega) (by omega) (by omega)).mono ?_
    rintro e we ⟨ve, rfl, oe, ge⟩
    have HSe : Hid (St w5 we ve (((([S] ++ be 4 C) ++ be 4 N) ++ be 8 D) ++ be 8 E)) := ⟨own_monoT (by rw [show (((([S] ++ be 4 C) ++ be 4 N) ++ be 8 D) ++ be 8 E).length = 25 from by simp [be_length]]; exact oe) HSd.out.bel.size, bel_bel HSd.out.bel HSd.out.bel.size ge⟩
    obtain ⟨ae, ce, rfl, vse⟩ := Vs.ofOwn (show we.ownsRow wd.heap.size 5 1 ve 25 (cells (((([S] ++ be 4 C) ++ be 4 N) ++ be 8 D) ++ be 8 E)) from oe) (by intro z hz; simp only [List.mem_append, List.mem_singleton] at hz; rcases hz with (((h | h) | h) | h) | h <;> first | exact be_byte _ _ z h | (rw [h]; omega))
    have HBe := hid vse.bs
    have c6 := (HL5.out.kept HSe.out.bel).c6
    have c7 := (HL5.out.kept HSe.out.bel).c7
    clear oe ge vse HBd HSd
    go_wp2_with fail
    clear c6 c7
    have hpl : (pt s n).length = 12 := by rw [pt_length, HV.out]; rfl
    have kp := sput_ s n we hs hn
    rw [hpl] at kp
    refine kp.mono ?_
    rintro e wi ⟨vi, rfl, oi, gi⟩
    obtain ⟨ai, ci, rfl, vsi⟩ := Vs.ofOwn oi (pt_byte _ _)
    have HSi := hid (HSe.out.call gi)
    have HBi := hid vsi.bs
    clear oi gi vsi HSe HBe kp
    have HQB : Hid (Okb (lV S C N D E s n)) := by
      intro z hz
      unfold lV at hz
      simp only [List.mem_append, List.mem_singleton] at hz
      rcases hz with ((((h | h) | h) | h) | h) | h
      · rw [h]; omega
      · exact be_byte _ _ z h
      · exact be_byte _ _ z h
      · exact be_byte _ _ z h
      · exact be_byte _ _ z h
      · exact pt_byte _ _ z h
    have HOK : Hid (Okb (lK k)) := by
      intro z hz
      unfold lK at hz
      rcases List.mem_append.1 hz with h | h
      · rw [List.mem_singleton.1 h]; omega
      · exact HK.out.2.1 z h
    obtain ⟨p5, HP5⟩ : ∃ p : Nat, Hid ((([76] : List Int) ++ k).length = p) := ⟨_, rfl⟩
    obtain ⟨pj, HPj⟩ : ∃ p : Nat, Hid (((((([S] ++ be 4 C) ++ be 4 N) ++ be 8 D) ++ be 8 E) ++ pt s n).length = p) := ⟨_, rfl⟩
    have o5 := HS5.out.own
    rw [HP5.out] at o5
    obtain ⟨a5, c5, rfl, vs5⟩ := Vs.ofOwn o5 HOK.out
    have HV5 := hid vs5
    have HB1 := hid HS5.out.bel
    clear vs5 o5 HS5 HOK HK hkl hm ko HL5
    go_wp2_with (at_builtin; refine wpList_appS (W := w5) rfl _ _ rfl _ _ rfl (by exact HSi.out) ai 12 ci (pt s n) rfl (by exact HBi.out) (by simp [be_length]) ?_; intro vj wj sj; have oj := sj.own; rw [HPj.out] at oj; obtain ⟨aj, cj, rfl, vsj⟩ := Vs.ofOwn oj HQB.out; clear oj; have HSj := hid sj; have HVj := hid vsj; have HMj := hid ((sj.bel.block (w.heap.size + 1) HMlt5.out).trans HM5.out); have z0 := (two_cell HMj.out).1; have z1 := (two_cell HMj.out).2; have f0 := two_fz HMj.out 0; have f1 := two_fz HMj.out 1; clear sj vsj)
    clear z0 z1 f0 f1
    have HM2 := hid (two_set (a := .slice a5 p5 c5) (b := .slice aj pj cj) HMj.out)
    have HBj := hid (bel_bel HB5.out HB5.out.size HSj.out.bel)
    have HB2 := hid ((HBj.out.setCell (p := ⟨w.heap.size + 1, 0, none⟩) (Nat.le_succ _) (.slice a5 p5 c5)).setCell (p := ⟨w.heap.size + 1, 1, none⟩) (Nat.le_succ _) (.slice aj pj cj))
    have HO := fun j (h : j ≠ w.heap.size + 1) => two_other (w := wj) (a := .slice a5 p5 c5) (b := .slice aj pj cj) h
    refine bodyPost_ret (v := .tuple #[.agg #[.slice a5 p5 c5, .slice aj pj cj], .int .i64 0]) ?_ rfl ?_
    · exact results_rw rfl _ _ (w.heap.size + 1) _ _ _ _ _ _ _ rfl rfl (two_cell HM2.out).1 (two_cell HM2.out).2
    · refine ⟨a5, c5, aj, cj, by rw [← HP5.out, ← HPj.out]; rfl, ?_, ?_, HB2.out⟩
      · have e : (lK k).length = p5 := HP5.out
        show Vs _ _ a5 (lK k).length c5 (lK k)
        rw [e]
        have h := HV5.out.wide (V' := fun x => w1.heap.size ≤ x ∧ x < w5.heap.size) fun x hx h => ⟨h, hx⟩
        exact (h.step fun x hx hV _ => (HO x (by have := HMlt0.out; omega)).trans (HSj.out.bel.block x hV.2)).wide fun x _ hx => by have := HMlt0.out; omega
      · have e : (lV S C N D E s n).length = pj := HPj.out
        show Vs _ _ aj (lV S C N D E s n).length cj (lV S C N D E s n)
        rw [e]
        exact (HVj.out.step fun x _ hV _ => HO x (by have := HMlt5.out; omega)).wide fun x _ hx => by have := HMlt5.out; omega
end Go.Proofs.YtcbmgpmjnehjdaaGreat
