import Derived.Test.YtcbmgpmjnehjdaaGreatRF
namespace Go.Proofs.YtcbmgpmjnehjdaaGreat
set_option maxRecDepth 100000
open Go.RowKit
set_option linter.unusedVariables false

/-- A lane's row. -/
def lK (k : List Int) : List Int := [76] ++ k
def lV (S C N D E s n : Int) : List Int := ((((([S] ++ be 4 C) ++ be 4 N) ++ be 8 D) ++ be 8 E) ++ pt s n)
def lRK (k : List Int) (S C N s n : Int) : List Int := if lok k.length S C N s n then lK k else []
def lRV (k : List Int) (S C N D E s n : Int) : List Int := if lok k.length S C N s n then lV S C N D E s n else []
def lRE (k : List Int) (S C N s n : Int) : Int := if lok k.length S C N s n then 0 else 114
theorem own_one (w : World) (z : Int) (base : Nat) (hb : base ≤ w.heap.size) : (w.alloc (.cells #[.int .u8 z] 5)).ownsRow base 5 1 (.slice (some ⟨w.heap.size, 0, none⟩) 1 1) 1 (cells [z]) :=
  World.ownsRow_lit w #[.int .u8 z] 1 hb (by unfold maxLen; omega) rfl
/-- Bytes of one's own, in memory made since W. -/
structure St (W w : World) (v : Value) (X : List Int) : Prop where
  own : w.ownsRow W.heap.size 5 1 v X.length (cells X)
  bel : Below W.heap.size W w
theorem St.call {W w w' : World} {v : Value} {X : List Int} (h : St W w v X) (g : Below w.heap.size w w') : St W w' v X := ⟨own_bel h.own g, bel_bel h.bel h.bel.size g⟩
theorem St.one (W : World) (z : Int) : St W (W.alloc (.cells #[.int .u8 z] 5)) (.slice (some ⟨W.heap.size, 0, none⟩) 1 1) [z] := ⟨own_one W z _ (Nat.le_refl _), (Below.refl _ _).alloc (Nat.le_refl _) _⟩
theorem wpList_appS {W w : World} {ops : Array Oper} {rest : List Oper} {o : Oper} {act : Act} {Q : Exit → Act → World → Prop} (hgd : o.guard = none) (s x : Operand)
    (ho : o.op = .call { callee := .builtin .append, args := #[s, x], argTypes := #[52, 52] })
    (v : Value) (X : List Int) (hs : act.eval s = v) (hst : St W w v X)
    (a : Option Addr) (m c : Nat) (zs : List Int) (hx : act.eval x = .slice a m c) (hb : Bs w a m zs) (hnm : X.length + m ≤ 140737488355328)
    (h : ∀ v' w', St W w' v' (X ++ zs) → wpList Tryz.prog ops Q rest (act.put o.dst v') w') : wpList Tryz.prog ops Q (o :: rest) act w := by
  refine wpList_appT hgd s x ho W.heap.size v X.length X hs hst.own a m c zs hx hb hnm hst.bel.size fun v' w' o' g' => h v' w' ⟨?_, ?_⟩
  · rw [List.length_append, hb.1]
    exact o'
  · exact hst.bel.grown g' hst.bel.size (fun p hp => (hst.own.lt p hp).1)
theorem two_fz {w : World} {g : Nat} {a b : Value} {T : TypeId} (h : w.heap[g]? = some (.cells #[a, b] T (0, 0))) (i : Nat) : w.frozen? ⟨g, i, none⟩ = false := by simp [World.frozen?, h]
set_option maxHeartbeats 2000000 in
/-- The document's PutLane. -/
theorem rputLane_ (a : Option Addr) (m c : Nat) (k : List Int) (S C N D E s n : Int) (w : World) (hk : Bs w a m k) (hm : m ≤ maxLen) (hS : i64r S) (hC : i64r C) (hN : i64r N) (hD : u64r D) (hE : u64r E) (hs : i64r s) (hn : i64r n) :
    Calls Tryz.prog 69 #[.agg #[.slice a m c, .int .i64 S, .int .i64 C, .int .i64 N, .int .u64 D, .int .u64 E, .int .i64 s, .int .i64 n]] w fun e w' => Rp w (lRK k S C N s n) (lRV k S C N D E s n) (lRE k S C N s n) e w' := by
  unfold i64r u64r at *
  have hkl := hk.1
  have B0 := (lnew w a m c S C N D E s n).alloc (B := w.heap.size) (by simp) (.cells #[.slice none 0 0, .slice none 0 0] 54)
  have m0 : Lm ((w.alloc (.cells #[.slice a m c, .int .i64 S, .int .i64 C, .int .i64 N, .int .u64 D, .int .u64 E, .int .i64 s, .int .i64 n] 64)).alloc (.cells #[.slice none 0 0, .slice none 0 0] 54)) w.heap.size a m c S C N D E s n := (Lm.new w a m c S C N D E s n).at (Below.heap_alloc _ _ _ (by simp))
  have m1 := heap_alloc_new (w.alloc (.cells #[.slice a m c, .int .i64 S, .int .i64 C, .int .i64 N, .int .u64 D, .int .u64 E, .int .i64 s, .int .i64 n] 64)) (.cells #[.slice none 0 0, .slice none 0 0] 54)
  rw [World.size_alloc] at m1
  have HM := hid m1
  have HK := hid hk
  have ko := fun wx => rlaneOK_ a m c S C N D E s n wx hm
  obtain ⟨q, HQ⟩ : ∃ q, Hid (lok m S C N s n = q) := ⟨_, rfl⟩
  have HR : Hid (lRK k S C N s n = (if q then lK k else []) ∧ lRV k S C N D E s n = (if q then lV S C N D E s n else []) ∧ lRE k S C N s n = (if q then 0 else 114)) := by
    unfold lRK lRV lRE
    rw [hkl, HQ.out]
    exact ⟨rfl, rfl, rfl⟩
  rw [HR.out.1, HR.out.2.1, HR.out.2.2]
  rw [HQ.out] at ko
  clear HR m1 hk
  go_enter Tryz.func69, Tryz.ntmps69
  go_wp2_with fail
  refine (ko _).mono ?_
  rintro e w1 ⟨rfl, g1⟩
  have HB := hid (bel_bel B0 B0.size g1)
  have m1 := m0.kept g1
  have HM1 := hid ((g1.block (w.heap.size + 1) (by simp)).trans HM.out)
  have HMlt : Hid (w.heap.size + 1 < w1.heap.size) := by have := g1.size; simp at this; show _ < _; omega
  clear B0 m0 g1 HM
  cases q
  · clear HQ
    have z0 := (two_cell HM1.out).1
    have z1 := (two_cell HM1.out).2
    have f0 := two_fz HM1.out 0
    have f1 := two_fz HM1.out 1
    have HM2 := hid (two_set (a := .slice none 0 0) (b := .slice none 0 0) HM1.out)
    have HB2 := hid ((HB.out.setCell (p := ⟨w.heap.size + 1, 0, none⟩) (Nat.le_succ _) (.slice none 0 0)).setCell (p := ⟨w.heap.size + 1, 1, none⟩) (Nat.le_succ _) (.slice none 0 0))
    go_wp2_with fail
    refine bodyPost_ret (v := .tuple #[.agg #[.slice none 0 0, .slice none 0 0], .int .i64 114]) ?_ rfl ⟨none, 0, none, 0, rfl, vs_none _ _, vs_none _ _, HB2.out⟩
    exact results_rw rfl _ _ (w.heap.size + 1) _ _ 0 0 0 0 _ rfl rfl (two_cell HM2.out).1 (two_cell HM2.out).2
  · have hq := of_decide_eq_true (show decide _ = true from HQ.out)
    obtain ⟨q1, q2, q3, q4, q5, q6, q7⟩ := hq
    have HV : Hid (vld s n = true) := q1
    clear HQ q1
    subst q2
    have HL1 := hid m1
    have HS1 := hid (St.one w1 76)
    have HKA := hid ((HK.out.below HB.out).below HS1.out.bel)
    have c0 := (m1.kept HS1.out.bel).c0
    clear m1
    go_wp2_with (at_builtin; refine wpList_appS (W := w1) rfl _ _ rfl _ [76] rfl (by exact HS1.out) a 32 c k rfl (by exact HKA.out) (by simp) ?_; intro v5 w5 s5; have HS5 := hid s5; have c1 := (HL1.out.kept s5.bel).c1; have c2 := ((HL1.out.kept s5.bel).kept (St.one w5 S).bel).c2; clear s5)
    have HL5 := hid (HL1.out.kept HS5.out.bel)
    have HM5 := hid ((HS5.out.bel.block (w.heap.size + 1) HMlt.out).trans HM1.out)
    have HB5 := hid (bel_bel HB.out HB.out.size HS5.out.bel)
    have HMlt0 := hid HMlt.out
    have HMlt5 := hid (Nat.lt_of_lt_of_le HMlt.out HS5.out.bel.size)
    clear HS1 HKA c0 HL1 HM1 HB HMlt
    refine (rnum15_ 4 C _ (by omega) (by omega)).mono ?_
    rintro e wa ⟨va, rfl, oa, ga⟩
    obtain ⟨aa, ca, rfl, vsa⟩ := Vs.ofOwn oa (be_byte _ _)
    have HSa := hid ((St.one w5 S).call ga)
    have HBa := hid vsa.bs
    clear c1 c2 oa ga vsa
    go_wp2_with (at_builtin; refine wpList_appS (W := w5) rfl _ _ rfl _ [S] rfl (by exact HSa.out) aa 4 ca (be 4 C) rfl (by exact HBa.out) (by simp) ?_; intro vb wb sb; have HSb := hid sb; have c3 := (HL5.out.kept sb.bel).c3; clear sb)
    clear HSa HBa c3
    refine (rnum15_ 4 N _ (by omega) (by omega)).mono ?_
    rintro e wc ⟨vc, rfl, oc, gc⟩
    obtain ⟨ac, cc, rfl, vsc⟩ := Vs.ofOwn oc (be_byte _ _)
    have HSc := hid (HSb.out.call gc)
    have HBc := hid vsc.bs
    clear oc gc vsc HSb
    go_wp2_with (at_builtin; refine wpList_appS (W := w5) rfl _ _ rfl _ _ rfl (by exact HSc.out) ac 4 cc (be 4 N) rfl (by exact HBc.out) (by simp [be_length]) ?_; intro vd wd sd; have HSd := hid sd; have c4 := (HL5.out.kept sd.bel).c4; clear sd)
    clear HSc HBc c4
    refine (rnum15_ 8 D _ (by omega) (by omega)).mono ?_
    rintro e we ⟨ve, rfl, oe, ge⟩
    obtain ⟨ae, ce, rfl, vse⟩ := Vs.ofOwn oe (be_byte _ _)
    have HSe := hid (HSd.out.call ge)
    have HBe := hid vse.bs
    clear oe ge vse HSd
    go_wp2_with (at_builtin; refine wpList_appS (W := w5) rfl _ _ rfl _ _ rfl (by exact HSe.out) ae 8 ce (be 8 D) rfl (by exact HBe.out) (by simp [be_length]) ?_; intro vf wf sf; have HSf := hid sf; have c5 := (HL5.out.kept sf.bel).c5; clear sf)
    clear HSe HBe c5
    refine (rnum15_ 8 E _ (by omega) (by omega)).mono ?_
    rintro e wg ⟨vg, rfl, og, gg⟩
    obtain ⟨ag, cg, rfl, vsg⟩ := Vs.ofOwn og (be_byte _ _)
    have HSg := hid (HSf.out.call gg)
    have HBg := hid vsg.bs
    clear og gg vsg HSf
    go_wp2_with (at_builtin; refine wpList_appS (W := w5) rfl _ _ rfl _ _ rfl (by exact HSg.out) ag 8 cg (be 8 E) rfl (by exact HBg.out) (by simp [be_length]) ?_; intro vh wh sh; have HSh := hid sh; have c6 := (HL5.out.kept sh.bel).c6; have c7 := (HL5.out.kept sh.bel).c7; clear sh)
    clear HSg HBg c6 c7
    have hpl : (pt s n).length = 12 := by rw [pt_length, HV.out]; rfl
    have kp := refPut_ s n wh hs hn
    rw [hpl] at kp
    refine kp.mono ?_
    rintro e wi ⟨vi, rfl, oi, gi⟩
    obtain ⟨ai, ci, rfl, vsi⟩ := Vs.ofOwn oi (pt_byte _ _)
    have HSi := hid (HSh.out.call gi)
    have HBi := hid vsi.bs
    clear oi gi vsi HSh kp
    have HQB : Hid (Okb (lV S C N D E s n)) := by
      intro z hz
      unfold lV at hz
      simp only [List.mem_append, List.mem_singleton] at hz
      rcases hz with ((((h | h) | h) | h) | h) | h
      · rw [h]; omega
      · exact be_byte _ _ z h
      · exact be_byte _ _ z h
      · exact be_byte _ _ z h
      · exact be_byte _ _ z h
      · exact pt_byte _ _ z h
    have HOK : Hid (Okb (lK k)) := by
      intro z hz
      unfold lK at hz
      rcases List.mem_append.1 hz with h | h
      · rw [List.mem_singleton.1 h]; omega
      · exact HK.out.2.1 z h
    obtain ⟨p5, HP5⟩ : ∃ p : Nat, Hid ((([76] : List Int) ++ k).length = p) := ⟨_, rfl⟩
    obtain ⟨pj, HPj⟩ : ∃ p : Nat, Hid (((((([S] ++ be 4 C) ++ be 4 N) ++ be 8 D) ++ be 8 E) ++ pt s n).length = p) := ⟨_, rfl⟩
    have o5 := HS5.out.own
    rw [HP5.out] at o5
    obtain ⟨a5, c5, rfl, vs5⟩ := Vs.ofOwn o5 HOK.out
    have HV5 := hid vs5
    have HB1 := hid HS5.out.bel
    clear vs5 o5 HS5 HOK HK hkl hm ko HL5
    go_wp2_with (at_builtin; refine wpList_appS (W := w5) rfl _ _ rfl _ _ rfl (by exact HSi.out) ai 12 ci (pt s n) rfl (by exact HBi.out) (by simp [be_length]) ?_; intro vj wj sj; have oj := sj.own; rw [HPj.out] at oj; obtain ⟨aj, cj, rfl, vsj⟩ := Vs.ofOwn oj HQB.out; clear oj; have HSj := hid sj; have HVj := hid vsj; have HMj := hid ((sj.bel.block (w.heap.size + 1) HMlt5.out).trans HM5.out); have z0 := (two_cell HMj.out).1; have z1 := (two_cell HMj.out).2; have f0 := two_fz HMj.out 0; have f1 := two_fz HMj.out 1; clear sj vsj)
    clear z0 z1 f0 f1
    have HM2 := hid (two_set (a := .slice a5 p5 c5) (b := .slice aj pj cj) HMj.out)
    have HBj := hid (bel_bel HB5.out HB5.out.size HSj.out.bel)
    have HB2 := hid ((HBj.out.setCell (p := ⟨w.heap.size + 1, 0, none⟩) (Nat.le_succ _) (.slice a5 p5 c5)).setCell (p := ⟨w.heap.size + 1, 1, none⟩) (Nat.le_succ _) (.slice aj pj cj))
    have HO := fun j (h : j ≠ w.heap.size + 1) => two_other (w := wj) (a := .slice a5 p5 c5) (b := .slice aj pj cj) h
    refine bodyPost_ret (v := .tuple #[.agg #[.slice a5 p5 c5, .slice aj pj cj], .int .i64 0]) ?_ rfl ?_
    · exact results_rw rfl _ _ (w.heap.size + 1) _ _ _ _ _ _ _ rfl rfl (two_cell HM2.out).1 (two_cell HM2.out).2
    · refine ⟨a5, c5, aj, cj, by rw [← HP5.out, ← HPj.out]; rfl, ?_, ?_, HB2.out⟩
      · have e : (lK k).length = p5 := HP5.out
        show Vs _ _ a5 (lK k).length c5 (lK k)
        rw [e]
        have h := HV5.out.wide (V' := fun x => w1.heap.size ≤ x ∧ x < w5.heap.size) fun x hx h => ⟨h, hx⟩
        exact (h.step fun x hx hV _ => (HO x (by have := HMlt0.out; omega)).trans (HSj.out.bel.block x hV.2)).wide fun x _ hx => by have := HMlt0.out; omega
      · have e : (lV S C N D E s n).length = pj := HPj.out
        show Vs _ _ aj (lV S C N D E s n).length cj (lV S C N D E s n)
        rw [e]
        exact (HVj.out.step fun x _ hV _ => HO x (by have := HMlt5.out; omega)).wide fun x _ hx => by have := HMlt5.out; omega
end Go.Proofs.YtcbmgpmjnehjdaaGreat
namespace Go.Proofs.YtcbmgpmjnehjdaaGreat
set_option maxRecDepth 100000
open Go.RowKit
set_option linter.unusedVariables false

theorem results_ln {fn : Func} {p u : Tmp} (h : fn.results = #[.cell p 64, .tmp u]) (tmps : Array Value) (w : World) (g : Nat) (a : Option Addr) (m c : Nat) (S C N D E s n : Int) (v : Value)
    (hp : tmps.getD p undef = .pointer (some ⟨g, 0, none⟩)) (hv : tmps.getD u undef = v) (hm : Lm w g a m c S C N D E s n) :
    (results fn tmps).run Tryz.prog w = .ok (.tuple #[.agg #[.slice a m c, .int .i64 S, .int .i64 C, .int .i64 N, .int .u64 D, .int .u64 E, .int .i64 s, .int .i64 n], v]) w := by
  rw [results_cell_tmp h, hp, hv]
  have c0 := hm.c0
  have c1 := hm.c1
  have c2 := hm.c2
  have c3 := hm.c3
  have c4 := hm.c4
  have c5 := hm.c5
  have c6 := hm.c6
  have c7 := hm.c7
  go_simp
/-- Two lanes, the same. -/
def slE (k l : List Int) (S C N D E s n S' C' N' D' E' s' n' : Int) : Bool := decide (k = l ∧ S = S' ∧ C = C' ∧ N = N' ∧ D = D' ∧ E = E' ∧ s = s' ∧ n = n')
set_option maxHeartbeats 1000000 in
/-- The document's SameLane. -/
theorem sameLane_ (ka kb : Option Addr) (kn kc ln lc : Nat) (k l : List Int) (S C N D E s n S' C' N' D' E' s' n' : Int) (w : World) (hk : Bs w ka kn k) (hl : Bs w kb ln l) (h1 : kn ≤ maxLen) (h2 : ln ≤ maxLen) :
    Calls Tryz.prog 36 #[.agg #[.slice ka kn kc, .int .i64 S, .int .i64 C, .int .i64 N, .int .u64 D, .int .u64 E, .int .i64 s, .int .i64 n], .agg #[.slice kb ln lc, .int .i64 S', .int .i64 C', .int .i64 N', .int .u64 D', .int .u64 E', .int .i64 s', .int .i64 n']] w fun e w' => e = .returned (.bool (slE k l S C N D E s n S' C' N' D' E' s' n')) ∧ Below w.heap.size w w' := by
  have B1 := lnew w ka kn kc S C N D E s n
  have B2 := B1.alloc (B := w.heap.size) (by simp) (.cells #[.slice kb ln lc, .int .i64 S', .int .i64 C', .int .i64 N', .int .u64 D', .int .u64 E', .int .i64 s', .int .i64 n'] 64)
  have m1 := (Lm.new w ka kn kc S C N D E s n).kept (lnew _ kb ln lc S' C' N' D' E' s' n')
  have m2 := Lm.new (w.alloc (.cells #[.slice ka kn kc, .int .i64 S, .int .i64 C, .int .i64 N, .int .u64 D, .int .u64 E, .int .i64 s, .int .i64 n] 64)) kb ln lc S' C' N' D' E' s' n'
  rw [World.size_alloc] at m2
  obtain ⟨r, HR⟩ : ∃ r, Hid (slE k l S C N D E s n S' C' N' D' E' s' n' = r) := ⟨_, rfl⟩
  rw [HR.out]
  obtain ⟨p, HP⟩ : ∃ p, Hid (sameB k l = p) := ⟨_, rfl⟩
  obtain ⟨q, HQ⟩ : ∃ p, Hid (sme s n s' n' = p) := ⟨_, rfl⟩
  have HR2 : Hid ((p && q && decide (S = S' ∧ C = C' ∧ N = N' ∧ D = D' ∧ E = E')) = r) := by
    show _ = _
    rw [← HR.out, ← HP.out, ← HQ.out]
    unfold slE sameB sme
    by_cases e1 : k = l <;> by_cases e2 : s = s' ∧ n = n' <;> by_cases e3 : S = S' ∧ C = C' ∧ N = N' ∧ D = D' ∧ E = E' <;> simp [e1, e2, e3]
    all_goals grind
  clear HR
  have ks := same_d ka kb kn kc ln lc k l _ (hk.below B2) (hl.below B2) h1 h2
  rw [HP.out] at ks
  have HB2 := hid B2
  have HM1 := hid m1
  have HM2 := hid m2
  clear B1 B2 m1 m2 hk hl
  go_enter Tryz.func36, Tryz.ntmps36
  go_wp2_with fail
  refine ks.mono ?_
  rintro e w1 ⟨rfl, d1⟩
  have HB3 := hid (bel_bel HB2.out HB2.out.size d1.below)
  have n1 := HM1.out.at (d1.at _)
  have n2 := HM2.out.at (d1.at _)
  have a6 := n1.c6
  have a7 := n1.c7
  have b6 := n2.c6
  have b7 := n2.c7
  have HM1 := hid n1
  have HM2 := hid n2
  clear d1 n1 n2 ks HB2
  go_wp2_with fail
  have kt := sameStamp_ s n s' n' w1
  rw [HQ.out] at kt
  refine kt.mono ?_
  rintro e w2 ⟨rfl, g2⟩
  have HB4 := hid (bel_bel HB3.out HB3.out.size g2)
  have n1 := HM1.out.kept g2
  have n2 := HM2.out.kept g2
  have a1 := n1.c1
  have a2 := n1.c2
  have a3 := n1.c3
  have a4 := n1.c4
  have a5 := n1.c5
  have b1 := n2.c1
  have b2 := n2.c2
  have b3 := n2.c3
  have b4 := n2.c4
  have b5 := n2.c5
  clear a6 a7 b6 b7 n1 n2 HM1 HM2 g2 kt HB3 HP HQ
  cases p
  · have HF : Hid (false = r) := HR2.out
    clear HR2
    go_wp2_with fail
    all_goals
      go_ret
      exact ⟨ret_bool HF.out, HB4.out⟩
  · cases q
    · have HF : Hid (false = r) := HR2.out
      clear HR2
      go_wp2_with fail
      all_goals
        go_ret
        exact ⟨ret_bool HF.out, HB4.out⟩
    · have HF : Hid (decide (S = S' ∧ C = C' ∧ N = N' ∧ D = D' ∧ E = E') = r) := HR2.out
      clear HR2
      go_wp2_with fail
      all_goals
        go_ret
        refine ⟨ret_bool ?_, HB4.out⟩
        rw [← HF.out]
        first
          | exact (decide_eq_true (by omega)).symm
          | exact (decide_eq_false (by omega)).symm
          | exact decide_eq_decide.2 (by omega)
end Go.Proofs.YtcbmgpmjnehjdaaGreat
namespace Go.Proofs.YtcbmgpmjnehjdaaGreat
set_option maxRecDepth 100000
open Go.RowKit
set_option linter.unusedVariables false

theorem Lm.key {w : World} {g : Nat} {a : Option Addr} {m c : Nat} {S C N D E s n : Int} (h : Lm w g a m c S C N D E s n) (a' : Option Addr) (m' c' : Nat) : Lm (w.setCell ⟨g, 0, none⟩ (.slice a' m' c')) g a' m' c' S C N D E s n := by
  unfold Lm at *
  simp [World.setCell, Array.getElem?_modify, h]
theorem Lm.fz {w : World} {g : Nat} {a : Option Addr} {m c : Nat} {S C N D E s n : Int} (h : Lm w g a m c S C N D E s n) (i : Nat) : w.frozen? ⟨g, i, none⟩ = false := by unfold Lm at h; simp [World.frozen?, h]
theorem sizeln : (Tryz.prog.info? 64).map (·.size) = some 8 := by kernel_rfl
theorem wpList_sln {ops : Array Oper} {rest : List Oper} {o : Oper} {act : Act} {w : World} {Q : Exit → Act → World → Prop} (hgd : o.guard = none) (hdst : o.dst = none) (x y : Operand) (ho : o.op = .store 64 x y)
    (g : Nat) (a : Option Addr) (m c : Nat) (S C N D E s n : Int) (hx : act.eval x = .pointer (some ⟨g, 0, none⟩)) (hy : act.eval y = .agg #[.slice a m c, .int .i64 S, .int .i64 C, .int .i64 N, .int .u64 D, .int .u64 E, .int .i64 s, .int .i64 n])
    {a0 : Option Addr} {m0 c0 : Nat} {S0 C0 N0 D0 E0 s0 n0 : Int} (hg : Lm w g a0 m0 c0 S0 C0 N0 D0 E0 s0 n0)
    (h : wpList Tryz.prog ops Q rest act (w.setRow g #[.slice a m c, .int .i64 S, .int .i64 C, .int .i64 N, .int .u64 D, .int .u64 E, .int .i64 s, .int .i64 n])) : wpList Tryz.prog ops Q (o :: rest) act w := by
  refine wpList_store_row hgd _ x y ho g #[.slice a m c, .int .i64 S, .int .i64 C, .int .i64 N, .int .u64 D, .int .u64 E, .int .i64 s, .int .i64 n] hx hy _ _ hg sizeln rfl (by simp [Value.oneCell']) ?_
  rw [hdst]
  exact h
theorem Lm.row {w : World} {g : Nat} {a0 : Option Addr} {m0 c0 : Nat} {S0 C0 N0 D0 E0 s0 n0 : Int} (h : Lm w g a0 m0 c0 S0 C0 N0 D0 E0 s0 n0) (a : Option Addr) (m c : Nat) (S C N D E s n : Int) : Lm (w.setRow g #[.slice a m c, .int .i64 S, .int .i64 C, .int .i64 N, .int .u64 D, .int .u64 E, .int .i64 s, .int .i64 n]) g a m c S C N D E s n := setRow_heap w g _ _ _ _ h
set_option maxHeartbeats 1000000 in
/-- The document's Lane: the same lane in new memory. -/
theorem refLane_ (a : Option Addr) (m c : Nat) (k : List Int) (S C N D E s n : Int) (w : World) (hk : Bs w a m k) (hm : m ≤ 140737488351232) :
    Calls Tryz.prog 44 #[.agg #[.slice a m c, .int .i64 S, .int .i64 C, .int .i64 N, .int .u64 D, .int .u64 E, .int .i64 s, .int .i64 n]] w fun e w' => ∃ ka kc, e = .returned (.agg #[.slice ka m kc, .int .i64 S, .int .i64 C, .int .i64 N, .int .u64 D, .int .u64 E, .int .i64 s, .int .i64 n]) ∧ Vs w' (fun x => w.heap.size ≤ x) ka m kc k ∧ Below w.heap.size w w' := by
  have B1 := lnew w a m c S C N D E s n
  have m1 := Lm.new w a m c S C N D E s n
  have HM := hid m1
  have HB := hid B1
  have HK := hid hk
  go_enter Tryz.func44, Tryz.ntmps44
  go_wp2_with fail
  have B2 := HB.out.alloc (B := w.heap.size) (by simp) (.cells #[.slice none 0 0, .int .i64 0, .int .i64 0, .int .i64 0, .int .u64 0, .int .u64 0, .int .i64 0, .int .i64 0] 64)
  have m1 := HM.out.kept (lnew _ none 0 0 0 0 0 0 0 0 0)
  have m2 := Lm.new (w.alloc (.cells #[.slice a m c, .int .i64 S, .int .i64 C, .int .i64 N, .int .u64 D, .int .u64 E, .int .i64 s, .int .i64 n] 64)) none 0 0 0 0 0 0 0 0 0
  rw [World.size_alloc] at m2
  refine (refBytes a m c k _ (HK.out.below B2) hm).mono ?_
  rintro e w1 ⟨v1, rfl, o1, g1⟩
  obtain ⟨ka, kc, rfl, vs⟩ := Vs.ofOwn o1 hk.2.1
  have HB1 := hid (bel_bel B2 B2.size g1)
  have n1 := m1.kept g1
  have n2 := m2.kept g1
  have f0 := n1.fz 0
  have n3 := n1.key ka m kc
  have n4 := n2.at (w' := w1.setCell ⟨w.heap.size, 0, none⟩ (.slice ka m kc)) (Below.heap_setCell _ _ _ _ (by show w.heap.size + 1 ≠ w.heap.size; omega))
  have d0 := n3.c0
  have d1 := n3.c1
  have d2 := n3.c2
  have d3 := n3.c3
  have d4 := n3.c4
  have d5 := n3.c5
  have d6 := n3.c6
  have d7 := n3.c7
  have c0 := n1.c0
  have HB2 := hid (HB1.out.setCell (p := ⟨w.heap.size, 0, none⟩) (Nat.le_refl _) (.slice ka m kc))
  have HVS := hid (vs.wide (V' := fun x => w.heap.size + 2 ≤ x) fun x _ hx => by simpa using hx)
  have HN4 := hid n4
  clear B1 m1 hk B2 m2 o1 vs g1 n1 n2 n3 n4 HM HB HK HB1
  go_wp2_with (refine wpList_sln rfl rfl _ _ rfl (w.heap.size + 1) ka m kc S C N D E s n rfl rfl (by with_reducible exact HN4.out) ?_)
  clear d0 d1 d2 d3 d4 d5 d6 d7 c0 f0
  refine bodyPost_ret (v := .agg #[.slice ka m kc, .int .i64 S, .int .i64 C, .int .i64 N, .int .u64 D, .int .u64 E, .int .i64 s, .int .i64 n]) ?_ rfl ⟨ka, kc, rfl, ?_, bel_row HB2.out (Nat.le_succ _) _⟩
  · exact results_cell_row rfl _ _ (w.heap.size + 1) _ _ _ _ rfl (HN4.out.row ka m kc S C N D E s n) Tryz.underlying64 rfl sizeln
  · exact (HVS.out.step fun x _ hx _ => (setRow_other _ _ _ _ (by omega)).trans (Below.heap_setCell _ _ _ _ (by show x ≠ w.heap.size; omega))).wide fun x _ hx => by omega
end Go.Proofs.YtcbmgpmjnehjdaaGreat
