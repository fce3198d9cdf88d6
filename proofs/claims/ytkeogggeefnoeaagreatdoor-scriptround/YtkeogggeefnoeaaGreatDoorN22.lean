import Derived.Test.YtkeogggeefnoeaaGreatDoorE1
import Derived.Deep.RegionHeld
namespace Go.Proofs.YtkeogggeefnoeaaGreatDoor
set_option linter.unusedSimpArgs false
open Go.RowKit Go.Shelf
set_option linter.unusedVariables false
set_option maxRecDepth 100000

/-! The same steps? -/
theorem Cs.on3 {w0 w : World} {V : Nat → Prop} {a : Option Addr} {n : Nat} {l : List Chg} (h : Cs w0 V a n l) (hb : Below w0.heap.size w0 w) : Cs w V a n l := h.on hb
theorem Fts.on3 {w0 w : World} {V : Nat → Prop} {a : Option Addr} {n : Nat} {l : List (Int × Int)} (h : Fts w0 V a n l) (hb : Below w0.heap.size w0 w) : Fts w V a n l := ⟨h.1, h.2.step (fun k hk _ => hb.block k hk) hb.size⟩
theorem Kps.on3 {w0 w : World} {V : Nat → Prop} {a : Option Addr} {n : Nat} {l : List Bool} (h : Kps w0 V a n l) (hb : Below w0.heap.size w0 w) : Kps w V a n l := ⟨h.1, h.2.step (fun k hk _ => hb.block k hk) hb.size⟩
/-- A step with lists that a machine holds. -/
def OpN (x : Opp) : Prop := x.ch.length ≤ 140737488355328 ∧ x.fl.length ≤ 140737488355328 ∧ x.kp.length ≤ 140737488355328
set_option maxHeartbeats 4000000 in
theorem sameOpL_ {V V' : Nat → Prop} (kd ea ek et ex lk sec nano bl wi : Int) (da da' ca ca' fa fa' ka ka' : Option Addr) (dn dp dp' cn cp cp' fn fp fp' kn kp kp' : Nat) (d : List Int) (ch : List Chg) (fl : List (Int × Int)) (ks : List Bool) (w : World)
    (hd : Bs w da dn d) (hd' : Bs w da' dn d) (hdm : dn ≤ maxLen) (hc : Cs w V ca cn ch) (hc' : Cs w V' ca' cn ch) (hcn : cn ≤ 140737488355328) (hf : Fts w V fa fn fl) (hf' : Fts w V' fa' fn fl) (hfn : fn ≤ 140737488355328) (hk : Kps w V ka kn ks) (hk' : Kps w V' ka' kn ks) (hkn : kn ≤ 140737488355328) :
    Calls Tryz.prog 35 #[.agg #[.int .i64 kd, .int .i64 ea, .int .i64 ek, .int .i64 et, .int .i64 ex, .int .i64 lk, .slice da dn dp, .int .i64 sec, .int .i64 nano, .int .i64 bl, .int .i64 wi, .slice ca cn cp, .slice fa fn fp, .slice ka kn kp], .agg #[.int .i64 kd, .int .i64 ea, .int .i64 ek, .int .i64 et, .int .i64 ex, .int .i64 lk, .slice da' dn dp', .int .i64 sec, .int .i64 nano, .int .i64 bl, .int .i64 wi, .slice ca' cn cp', .slice fa' fn fp', .slice ka' kn kp']] w fun e w' => e = .returned (.bool true) ∧ Below w.heap.size w w' := by
  have B0 : Below w.heap.size w ((w.alloc (.cells #[.int .i64 kd, .int .i64 ea, .int .i64 ek, .int .i64 et, .int .i64 ex, .int .i64 lk, .slice da dn dp, .int .i64 sec, .int .i64 nano, .int .i64 bl, .int .i64 wi, .slice ca cn cp, .slice fa fn fp, .slice ka kn kp] 53)).alloc (.cells #[.int .i64 kd, .int .i64 ea, .int .i64 ek, .int .i64 et, .int .i64 ex, .int .i64 lk, .slice da' dn dp', .int .i64 sec, .int .i64 nano, .int .i64 bl, .int .i64 wi, .slice ca' cn cp', .slice fa' fn fp', .slice ka' kn kp'] 53)) := ((Below.refl _ _).alloc (Nat.le_refl _) _).alloc (by simp) _
  have q0 : Yx ((w.alloc (.cells #[.int .i64 kd, .int .i64 ea, .int .i64 ek, .int .i64 et, .int .i64 ex, .int .i64 lk, .slice da dn dp, .int .i64 sec, .int .i64 nano, .int .i64 bl, .int .i64 wi, .slice ca cn cp, .slice fa fn fp, .slice ka kn kp] 53)).alloc (.cells #[.int .i64 kd, .int .i64 ea, .int .i64 ek, .int .i64 et, .int .i64 ex, .int .i64 lk, .slice da' dn dp', .int .i64 sec, .int .i64 nano, .int .i64 bl, .int .i64 wi, .slice ca' cn cp', .slice fa' fn fp', .slice ka' kn kp'] 53)) w.heap.size 53 [.int .i64 kd, .int .i64 ea, .int .i64 ek, .int .i64 et, .int .i64 ex, .int .i64 lk, .slice da dn dp, .int .i64 sec, .int .i64 nano, .int .i64 bl, .int .i64 wi, .slice ca cn cp, .slice fa fn fp, .slice ka kn kp] := (Yx.new w 53 [.int .i64 kd, .int .i64 ea, .int .i64 ek, .int .i64 et, .int .i64 ex, .int .i64 lk, .slice da dn dp, .int .i64 sec, .int .i64 nano, .int .i64 bl, .int .i64 wi, .slice ca cn cp, .slice fa fn fp, .slice ka kn kp]).on ((Below.refl _ _).alloc (Nat.le_refl _) _)
  have q1 := Yx.new (w.alloc (.cells #[.int .i64 kd, .int .i64 ea, .int .i64 ek, .int .i64 et, .int .i64 ex, .int .i64 lk, .slice da dn dp, .int .i64 sec, .int .i64 nano, .int .i64 bl, .int .i64 wi, .slice ca cn cp, .slice fa fn fp, .slice ka kn kp] 53)) 53 [.int .i64 kd, .int .i64 ea, .int .i64 ek, .int .i64 et, .int .i64 ex, .int .i64 lk, .slice da' dn dp', .int .i64 sec, .int .i64 nano, .int .i64 bl, .int .i64 wi, .slice ca' cn cp', .slice fa' fn fp', .slice ka' kn kp']
  rw [World.size_alloc] at q1
  have ksd := same_d da da' dn dp dn dp' d d _ (hd.below B0) (hd'.below B0) hdm hdm
  rw [sameB_self] at ksd
  have HB := hid B0
  have HP0 := hid q0
  have HP1 := hid q1
  have HC := hid hc
  have HC' := hid hc'
  have HF := hid hf
  have HF' := hid hf'
  have HK := hid hk
  have HK' := hid hk'
  have a6 := q0.cell 6
  have b6 := q1.cell 6
  simp only [List.getElem?_cons_succ, List.getElem?_cons_zero] at a6 b6
  clear B0 q0 q1 hd hd' hc hc' hf hf' hk hk'
  go_enter Tryz.func35, Tryz.ntmps35
  go_wp2_with fail
  clear a6 b6
  refine ksd.mono ?_
  rintro e w1 ⟨rfl, d1⟩
  have g1 := d1.below
  clear d1 ksd
  have HB1 := hid (bel_bel HB.out HB.out.size g1)
  have q0 : Yx w1 w.heap.size 53 [.int .i64 kd, .int .i64 ea, .int .i64 ek, .int .i64 et, .int .i64 ex, .int .i64 lk, .slice da dn dp, .int .i64 sec, .int .i64 nano, .int .i64 bl, .int .i64 wi, .slice ca cn cp, .slice fa fn fp, .slice ka kn kp] := HP0.out.on g1
  have q1 : Yx w1 (w.heap.size + 1) 53 [.int .i64 kd, .int .i64 ea, .int .i64 ek, .int .i64 et, .int .i64 ex, .int .i64 lk, .slice da' dn dp', .int .i64 sec, .int .i64 nano, .int .i64 bl, .int .i64 wi, .slice ca' cn cp', .slice fa' fn fp', .slice ka' kn kp'] := HP1.out.on g1
  have a7 := q0.cell 7
  have b7 := q1.cell 7
  have a8 := q0.cell 8
  have b8 := q1.cell 8
  simp only [List.getElem?_cons_succ, List.getElem?_cons_zero] at a7 b7 a8 b8
  have kt := sameStamp_ sec nano sec nano w1
  have hsp : sme sec nano sec nano = true := by unfold sme; simp
  rw [hsp] at kt
  clear hsp
  have HP0 := hid q0
  have HP1 := hid q1
  clear q0 q1 g1 HB
  go_wp2_with fail
  clear a7 b7 a8 b8
  refine kt.mono ?_
  rintro e w2 ⟨rfl, g2⟩
  clear kt
  have HB2 := hid (bel_bel HB1.out HB1.out.size g2)
  have q0 : Yx w2 w.heap.size 53 [.int .i64 kd, .int .i64 ea, .int .i64 ek, .int .i64 et, .int .i64 ex, .int .i64 lk, .slice da dn dp, .int .i64 sec, .int .i64 nano, .int .i64 bl, .int .i64 wi, .slice ca cn cp, .slice fa fn fp, .slice ka kn kp] := HP0.out.on g2
  have q1 : Yx w2 (w.heap.size + 1) 53 [.int .i64 kd, .int .i64 ea, .int .i64 ek, .int .i64 et, .int .i64 ex, .int .i64 lk, .slice da' dn dp', .int .i64 sec, .int .i64 nano, .int .i64 bl, .int .i64 wi, .slice ca' cn cp', .slice fa' fn fp', .slice ka' kn kp'] := HP1.out.on g2
  have a11 := q0.cell 11
  have b11 := q1.cell 11
  simp only [List.getElem?_cons_succ, List.getElem?_cons_zero] at a11 b11
  have kt := sameChanges_ ca ca' cn cp cp' ch w2 (HC.out.on3 HB2.out) (HC'.out.on3 HB2.out) hcn
  have HP0 := hid q0
  have HP1 := hid q1
  clear q0 q1 g2 HB1
  go_wp2_with fail
  clear a11 b11
  refine kt.mono ?_
  rintro e w3 ⟨rfl, g3⟩
  clear kt
  have HB3 := hid (bel_bel HB2.out HB2.out.size g3)
  have q0 : Yx w3 w.heap.size 53 [.int .i64 kd, .int .i64 ea, .int .i64 ek, .int .i64 et, .int .i64 ex, .int .i64 lk, .slice da dn dp, .int .i64 sec, .int .i64 nano, .int .i64 bl, .int .i64 wi, .slice ca cn cp, .slice fa fn fp, .slice ka kn kp] := HP0.out.on g3
  have q1 : Yx w3 (w.heap.size + 1) 53 [.int .i64 kd, .int .i64 ea, .int .i64 ek, .int .i64 et, .int .i64 ex, .int .i64 lk, .slice da' dn dp', .int .i64 sec, .int .i64 nano, .int .i64 bl, .int .i64 wi, .slice ca' cn cp', .slice fa' fn fp', .slice ka' kn kp'] := HP1.out.on g3
  have a12 := q0.cell 12
  have b12 := q1.cell 12
  simp only [List.getElem?_cons_succ, List.getElem?_cons_zero] at a12 b12
  have kt := sameFaults_ fa fa' fn fp fp' fl w3 (HF.out.on3 HB3.out) (HF'.out.on3 HB3.out) hfn
  have HP0 := hid q0
  have HP1 := hid q1
  clear q0 q1 g3 HB2
  go_wp2_with fail
  clear a12 b12
  refine kt.mono ?_
  rintro e w4 ⟨rfl, g4⟩
  clear kt
  have HB4 := hid (bel_bel HB3.out HB3.out.size g4)
  have q0 : Yx w4 w.heap.size 53 [.int .i64 kd, .int .i64 ea, .int .i64 ek, .int .i64 et, .int .i64 ex, .int .i64 lk, .slice da dn dp, .int .i64 sec, .int .i64 nano, .int .i64 bl, .int .i64 wi, .slice ca cn cp, .slice fa fn fp, .slice ka kn kp] := HP0.out.on g4
  have q1 : Yx w4 (w.heap.size + 1) 53 [.int .i64 kd, .int .i64 ea, .int .i64 ek, .int .i64 et, .int .i64 ex, .int .i64 lk, .slice da' dn dp', .int .i64 sec, .int .i64 nano, .int .i64 bl, .int .i64 wi, .slice ca' cn cp', .slice fa' fn fp', .slice ka' kn kp'] := HP1.out.on g4
  have a13 := q0.cell 13
  have b13 := q1.cell 13
  simp only [List.getElem?_cons_succ, List.getElem?_cons_zero] at a13 b13
  have kt := sameBools_ ka ka' kn kp kp' ks w4 (HK.out.on3 HB4.out) (HK'.out.on3 HB4.out) hkn
  have HP0 := hid q0
  have HP1 := hid q1
  clear q0 q1 g4 HB3
  go_wp2_with fail
  clear a13 b13
  refine kt.mono ?_
  rintro e w5 ⟨rfl, g5⟩
  clear kt
  have HB5 := hid (bel_bel HB4.out HB4.out.size g5)
  have q0 : Yx w5 w.heap.size 53 [.int .i64 kd, .int .i64 ea, .int .i64 ek, .int .i64 et, .int .i64 ex, .int .i64 lk, .slice da dn dp, .int .i64 sec, .int .i64 nano, .int .i64 bl, .int .i64 wi, .slice ca cn cp, .slice fa fn fp, .slice ka kn kp] := HP0.out.on g5
  have q1 : Yx w5 (w.heap.size + 1) 53 [.int .i64 kd, .int .i64 ea, .int .i64 ek, .int .i64 et, .int .i64 ex, .int .i64 lk, .slice da' dn dp', .int .i64 sec, .int .i64 nano, .int .i64 bl, .int .i64 wi, .slice ca' cn cp', .slice fa' fn fp', .slice ka' kn kp'] := HP1.out.on g5
  have a0 := q0.cell 0
  have b0 := q1.cell 0
  have a1 := q0.cell 1
  have b1 := q1.cell 1
  have a2 := q0.cell 2
  have b2 := q1.cell 2
  have a3 := q0.cell 3
  have b3 := q1.cell 3
  have a4 := q0.cell 4
  have b4 := q1.cell 4
  have a5 := q0.cell 5
  have b5 := q1.cell 5
  have a9 := q0.cell 9
  have b9 := q1.cell 9
  have a10 := q0.cell 10
  have b10 := q1.cell 10
  simp only [List.getElem?_cons_succ, List.getElem?_cons_zero] at a0 b0 a1 b1 a2 b2 a3 b3 a4 b4 a5 b5 a9 b9 a10 b10
  clear q0 q1 g5 HB4 HP0 HP1 HC HC' HF HF' HK HK'
  go_wp2_with fail
  go_ret
  exact ⟨rfl, HB5.out⟩
set_option maxHeartbeats 2000000 in
theorem sameOps_ {V V' : Nat → Prop} (a a' : Option Addr) (n p p' : Nat) (l : List Opp) (w : World) (h : Ops w V a n l) (h' : Ops w V' a' n l) (hin : ∀ x ∈ l, OpN x) (hn : n ≤ 140737488355328) :
    Calls Tryz.prog 23 #[.slice a n p, .slice a' n p'] w fun e w' => e = .returned (.bool true) ∧ Below w.heap.size w w' := by
  have hmm : ((n : Int) != (n : Int)) = false := by simp
  obtain ⟨xs, h1, h2, h3, h4⟩ := h
  obtain ⟨ys, h5, h6, h7, h8⟩ := h'
  have HK : Hid (∀ j, j < n → ∀ wx, Below w.heap.size w wx → Calls Tryz.prog 35 #[.agg (odc (xs.getD j od0)).toArray, .agg (odc (ys.getD j od0)).toArray] wx fun e w' => e = .returned (.bool true) ∧ Below wx.heap.size wx w') := fun j hj wx hb => by
    have e1 : xs.getD j od0 ∈ xs := by simp [List.getD, show j < xs.length by omega]
    have e2 : ys.getD j od0 ∈ ys := by simp [List.getD, show j < ys.length by omega]
    have e3 : (xs.getD j od0).o = (ys.getD j od0).o := by
      have := congrArg (fun z => z.getD j (opp0 0)) (h1.trans h5.symm)
      simpa [List.getD, show j < xs.length by omega, show j < ys.length by omega] using this
    have e4 : OpN (xs.getD j od0).o := hin _ (by rw [← h1]; exact List.mem_map_of_mem e1)
    have v1 := h4 _ e1
    have v2 := h8 _ e2
    generalize xs.getD j od0 = x at *
    generalize ys.getD j od0 = y at *
    obtain ⟨o, a1, p1, a2, p2, a3, p3, a4, p4⟩ := x
    obtain ⟨o', a1', p1', a2', p2', a3', p3', a4', p4'⟩ := y
    obtain rfl : o = o' := e3
    exact sameOpL_ o.kd o.a o.k o.t o.x o.lk o.sec o.nano o.bl o.wi a1 a1' a2 a2' a3 a3' a4 a4' o.d.length p1 p1' o.ch.length p2 p2' o.fl.length p3 p3' o.kp.length p4 p4' (ic o.d) o.ch o.fl o.kp wx (v1.d.bs.below hb) (v2.d.bs.below hb) (Nat.le_trans v1.d.nc v1.d.cm) (v1.c.on3 hb) (v2.c.on3 hb) e4.1 (v1.f.on3 hb) (v2.f.on3 hb) e4.2.1 (v1.k.on3 hb) (v2.k.on3 hb) e4.2.2
  have HL1 := hid h3
  have HL2 := hid h7
  clear h1 h2 h3 h4 h5 h6 h7 h8
  go_enter Tryz.func23, Tryz.ntmps23
  go_wp2_with fail
  go_loopw [5] (fun i wr => ∃ j : Nat, j ≤ n ∧ i = .int .i64 j ∧ Hid (Bw w wr)) (fun i _ => n - (intOf i).toNat)
  case atStart => exact ⟨0, by omega, rfl, Below.refl _ _⟩
  case round =>
    obtain ⟨j, hj, rfl, HB⟩ := hrel
    by_cases hlt : j < n
    · have hjI : (j : Int) < n := by omega
      obtain ⟨b1, o1, rfl, q1⟩ : ∃ b off, a = some ⟨b, off, none⟩ ∧ _ := (HL1.out.cells HB.out).resolve_left (by omega)
      obtain ⟨b2, o2, rfl, q2⟩ : ∃ b off, a' = some ⟨b, off, none⟩ ∧ _ := (HL2.out.cells HB.out).resolve_left (by omega)
      have ks := fun wx (hb : Bw wr wx) => HK.out j hlt wx (bel_bel HB.out HB.out.size hb)
      have c0 := q1 j hlt 0 _ rfl
      have d0 := q2 j hlt 0 _ rfl
      have c1 := q1 j hlt 1 _ rfl
      have d1 := q2 j hlt 1 _ rfl
      have c2 := q1 j hlt 2 _ rfl
      have d2 := q2 j hlt 2 _ rfl
      have c3 := q1 j hlt 3 _ rfl
      have d3 := q2 j hlt 3 _ rfl
      have c4 := q1 j hlt 4 _ rfl
      have d4 := q2 j hlt 4 _ rfl
      have c5 := q1 j hlt 5 _ rfl
      have d5 := q2 j hlt 5 _ rfl
      have c6 := q1 j hlt 6 _ rfl
      have d6 := q2 j hlt 6 _ rfl
      have c7 := q1 j hlt 7 _ rfl
      have d7 := q2 j hlt 7 _ rfl
      have c8 := q1 j hlt 8 _ rfl
      have d8 := q2 j hlt 8 _ rfl
      have c9 := q1 j hlt 9 _ rfl
      have d9 := q2 j hlt 9 _ rfl
      have c10 := q1 j hlt 10 _ rfl
      have d10 := q2 j hlt 10 _ rfl
      have c11 := q1 j hlt 11 _ rfl
      have d11 := q2 j hlt 11 _ rfl
      have c12 := q1 j hlt 12 _ rfl
      have d12 := q2 j hlt 12 _ rfl
      have c13 := q1 j hlt 13 _ rfl
      have d13 := q2 j hlt 13 _ rfl
      obtain ⟨x, HX⟩ : ∃ z, Hid (xs.getD j od0 = z) := ⟨_, rfl⟩
      obtain ⟨y, HY⟩ : ∃ z, Hid (ys.getD j od0 = z) := ⟨_, rfl⟩
      rw [HX.out, HY.out] at ks
      rw [HX.out] at c0 c1 c2 c3 c4 c5 c6 c7 c8 c9 c10 c11 c12 c13
      rw [HY.out] at d0 d1 d2 d3 d4 d5 d6 d7 d8 d9 d10 d11 d12 d13
      obtain ⟨⟨xkd, xea, xek, xet, xex, xlk, xd, xsec, xnano, xbl, xwi, xch, xfl, xkp⟩, xda, xdp, xca, xcp, xfa, xfp, xka, xkq⟩ := x
      obtain ⟨⟨ykd, yea, yek, yet, yex, ylk, yd, ysec, ynano, ybl, ywi, ych, yfl, ykp⟩, yda, ydp, yca, ycp, yfa, yfp, yka, ykq⟩ := y
      simp only [odc] at c0 c1 c2 c3 c4 c5 c6 c7 c8 c9 c10 c11 c12 c13 d0 d1 d2 d3 d4 d5 d6 d7 d8 d9 d10 d11 d12 d13 ks
      obtain ⟨xm6, Hxm6⟩ : ∃ z : Nat, Hid (xd.length = z) := ⟨_, rfl⟩
      rw [Hxm6.out] at ks c6
      obtain ⟨xm11, Hxm11⟩ : ∃ z : Nat, Hid (xch.length = z) := ⟨_, rfl⟩
      rw [Hxm11.out] at ks c11
      obtain ⟨xm12, Hxm12⟩ : ∃ z : Nat, Hid (xfl.length = z) := ⟨_, rfl⟩
      rw [Hxm12.out] at ks c12
      obtain ⟨xm13, Hxm13⟩ : ∃ z : Nat, Hid (xkp.length = z) := ⟨_, rfl⟩
      rw [Hxm13.out] at ks c13
      obtain ⟨ym6, Hym6⟩ : ∃ z : Nat, Hid (yd.length = z) := ⟨_, rfl⟩
      rw [Hym6.out] at ks d6
      obtain ⟨ym11, Hym11⟩ : ∃ z : Nat, Hid (ych.length = z) := ⟨_, rfl⟩
      rw [Hym11.out] at ks d11
      obtain ⟨ym12, Hym12⟩ : ∃ z : Nat, Hid (yfl.length = z) := ⟨_, rfl⟩
      rw [Hym12.out] at ks d12
      obtain ⟨ym13, Hym13⟩ : ∃ z : Nat, Hid (ykp.length = z) := ⟨_, rfl⟩
      rw [Hym13.out] at ks d13
      simp only [Nat.add_zero] at c0 d0 c1 d1 c2 d2 c3 d3 c4 d4 c5 d5 c6 d6 c7 d7 c8 d8 c9 d9 c10 d10 c11 d11 c12 d12 c13 d13
      have A0 := hid c0
      have B0 := hid d0
      have A1 := hid c1
      have B1 := hid d1
      have A2 := hid c2
      have B2 := hid d2
      have A3 := hid c3
      have B3 := hid d3
      have A4 := hid c4
      have B4 := hid d4
      have A5 := hid c5
      have B5 := hid d5
      have A6 := hid c6
      have B6 := hid d6
      have A7 := hid c7
      have B7 := hid d7
      have A8 := hid c8
      have B8 := hid d8
      have A9 := hid c9
      have B9 := hid d9
      have A10 := hid c10
      have B10 := hid d10
      have A11 := hid c11
      have B11 := hid d11
      have A12 := hid c12
      have B12 := hid d12
      have A13 := hid c13
      have B13 := hid d13
      clear q1 q2 c0 d0 c1 d1 c2 d2 c3 d3 c4 d4 c5 d5 c6 d6 c7 d7 c8 d8 c9 d9 c10 d10 c11 d11 c12 d12 c13 d13
      go_wp2_with fail
      refine wp_quietC (Bw wr) (by kernel_rfl) (by kernel_rfl) (Bw.drew wr) ?_
      repeat (first | go_big_quiet_skip | (go_big_quiet_want; go_big_quiet_op; first | go_big_quiet_on | (apply Exists.intro; refine ⟨fun wq hq => ?_, ?_⟩; (· first | (with_reducible rfl) | (go_at_call 35; exact (ks _ hq).mono fun _ _ h => ⟨h.1, hq.on h.2⟩) | (have s0 := hq.cell A0.out; have t0 := hq.cell B0.out; have s1 := hq.cell A1.out; have t1 := hq.cell B1.out; have s2 := hq.cell A2.out; have t2 := hq.cell B2.out; have s3 := hq.cell A3.out; have t3 := hq.cell B3.out; have s4 := hq.cell A4.out; have t4 := hq.cell B4.out; have s5 := hq.cell A5.out; have t5 := hq.cell B5.out; have s6 := hq.cell A6.out; have t6 := hq.cell B6.out; have s7 := hq.cell A7.out; have t7 := hq.cell B7.out; have s8 := hq.cell A8.out; have t8 := hq.cell B8.out; have s9 := hq.cell A9.out; have t9 := hq.cell B9.out; have s10 := hq.cell A10.out; have t10 := hq.cell B10.out; have s11 := hq.cell A11.out; have t11 := hq.cell B11.out; have s12 := hq.cell A12.out; have t12 := hq.cell B12.out; have s13 := hq.cell A13.out; have t13 := hq.cell B13.out; go_simp; rfl) | rfl); go_big_quiet_on)))
      refine wpQuiet_nil ?_
      intro w3 s3
      have HB3 := hid (Bw.on HB.out s3)
      clear s3
      go_wp2_with fail
      go_roundw
      case rel => exact ⟨j + 1, by omega, by go_num, HB3⟩
      case measure => simp [intOf]; omega
    · have hjI : ¬ (j : Int) < n := by omega
      go_wp2_with fail
      go_ret
      exact ⟨rfl, HB.out⟩
end Go.Proofs.YtkeogggeefnoeaaGreatDoor
namespace Go.Proofs.YtkeogggeefnoeaaGreatDoor
set_option linter.unusedSimpArgs false
open Go.RowKit
set_option linter.unusedVariables false
set_option maxRecDepth 100000

/-! Reading: a step's field. -/
theorem Ov.yx {w : World} {g : Nat} {x : OD} (h : Ov w g x) : Yx w g 53 (odc x) := h
theorem Ov.of {w : World} {g : Nat} {y : OD} (h : Yx w g 53 (odc y)) : Ov w g y := h
theorem Vo.row {w w' : World} {S g : Nat} {x : OD} (h : Vo w (Vg S g) x) (hg : w.grownBy w' (some g)) : Vo w' (Vg S g) x := h.step (fun b hb hV => hg.block b hb (fun e => hV.2 (Option.some.inj e))) hg.size
theorem vg_new {w : World} {S g : Nat} (hS : S ≤ w.heap.size) (hg : g < w.heap.size) : ∀ k : Nat, w.heap.size ≤ k → Vg S g k := fun k hk => ⟨by omega, by omega⟩
/-- What filling a field leaves. -/
def FsV (S g : Nat) (w : World) (r : R Opp) (e : Ending) (w' : World) : Prop := w.grownBy w' (some g) ∧ match r with
  | .error k => e = .returned (.int .i64 (k : Nat)) ∧ k ≠ 0
  | .ok o => e = .returned (.int .i64 0) ∧ ∃ y : OD, y.o = o ∧ Ov w' g y ∧ Vo w' (Vg S g) y
theorem FsV.err {S g : Nat} {w w' : World} {r : R Opp} {k : Nat} (hg : w.grownBy w' (some g)) (hr : r = .error k) (hk : k ≠ 0) : FsV S g w r (.returned (.int .i64 (k : Nat))) w' := by
  rw [hr]
  exact ⟨hg, rfl, hk⟩
theorem FsV.ok {S g : Nat} {w w' : World} {r : R Opp} {y : OD} (hg : w.grownBy w' (some g)) (hr : r = .ok y.o) (ho : Ov w' g y) (hv : Vo w' (Vg S g) y) : FsV S g w r (.returned (.int .i64 0)) w' := by
  rw [hr]
  exact ⟨hg, rfl, y, rfl, ho, hv⟩
theorem fltv_err : ∀ (ws : List (List Nat)) (e : Nat), fltv ws = .error e → e ≠ 0
  | [], e, h => by cases h
  | [_], e, h => by cases h
  | a :: b :: l, e, h => by
    rw [fltv_cons] at h
    cases hp : pv a b with
    | error e' =>
      rw [hp] at h
      cases h
      rcases pv_err hp with rfl | rfl <;> decide
    | ok y =>
      rw [hp] at h
      cases hl : fltv l with
      | ok r => rw [hl] at h; cases h
      | error e' =>
        rw [hl] at h
        cases h
        exact fltv_err l _ hl
section
variable (g : Nat) (x : OD) (V : Nat → Prop) (a : Option Addr) (n p : Nat) (ws : List (List Nat)) (hw : Gw ws) (S : Nat) (w : World) (h : Ov w g x) (hv : Vo w (Vg S g) x) (hS : S ≤ w.heap.size) (hq : Tq w) (hws : Wv w V a n p ws)
include hw h hv hS hq hws
set_option maxHeartbeats 4000000 in
theorem fillH_ (hn : 1 ≤ n) : Calls Tryz.prog 70 #[.pointer (some ⟨g, 0, none⟩), .int .i32 72, .slice a n p] w fun e w' => FsV S g w (sFil x.o 72 ws) e w' := by
  have hgl : g < w.heap.size := h.yx.lt
  obtain ⟨b, off, rfl, hc0⟩ := hws.at (i := 0) (by omega)
  rw [Nat.add_zero] at hc0
  have hg0 := hw.at 0
  have k2 := readHex_ (ws.getD 0 []) hg0.1 hg0.2 w hq.tb
  unfold RxV at k2
  have hr : sFil x.o 72 ws = match hexv (ws.getD 0 []) with
      | none => .error 225
      | some b => .ok { x.o with d := b } := rfl
  obtain ⟨r, HR⟩ : ∃ z, Hid (sFil x.o 72 ws = z) := ⟨_, rfl⟩
  rw [HR.out] at hr ⊢
  generalize ws.getD 0 [] = l at *
  generalize sb l = Sx at *
  have hn1 : (0 : Int) < (n : Int) := by omega
  have HV := hid hv
  have HO := hid h
  cases hh : hexv l with
  | none =>
    rw [hh] at k2 hr
    have HRR : Hid (r = .error 225) := hr
    clear h hv hr hh hws hg0
    go_enter Tryz.func70, Tryz.ntmps70
    go_wp2_with fail
    refine k2.mono ?_
    rintro e w2 ⟨rfl, g2⟩
    have HO2 := hid (HO.out.on g2)
    have c1 := HO2.out.yx.cell 6
    have f1 := HO2.out.yx.fz 6
    simp only [odc, List.getElem?_cons_succ, List.getElem?_cons_zero] at c1
    have HG := hid (grown_row g2 (grown_setG w2 g 6 (.slice none 0 0)))
    clear k2 g2 hc0
    go_wp2_with fail
    go_ret
    exact FsV.err HG.out HRR.out (by decide)
  | some bb =>
    rw [hh] at k2 hr
    have HRR : Hid (r = .ok { x.o with d := bb }) := hr
    clear h hv hr hh hws hg0
    go_enter Tryz.func70, Tryz.ntmps70
    go_wp2_with fail
    refine k2.mono ?_
    rintro e w2 ⟨⟨ra, rp, rfl, hvs⟩, g2⟩
    have HO2 := hid (HO.out.on g2)
    have c1 := HO2.out.yx.cell 6
    have f1 := HO2.out.yx.fz 6
    simp only [odc, List.getElem?_cons_succ, List.getElem?_cons_zero] at c1
    have hgs := grown_setG w2 g 6 (.slice ra bb.length rp)
    have HG := hid (grown_row g2 hgs)
    have HY : Hid (Ov (w2.setCell ⟨g, 6, none⟩ (.slice ra bb.length rp)) g { x with o := { x.o with d := bb }, da := ra, dp := rp }) := Ov.of (HO2.out.yx.set 6 (.slice ra bb.length rp))
    have hvx := HV.out.row HG.out
    have HVV : Hid (Vo (w2.setCell ⟨g, 6, none⟩ (.slice ra bb.length rp)) (Vg S g) { x with o := { x.o with d := bb }, da := ra, dp := rp }) := ⟨(Vs.wide hvs (fun k _ hk => vg_new hS hgl k hk)).step (fun k hk hV _ => hgs.block k hk (fun e => hV.2 (Option.some.inj e))), hvx.c, hvx.f, hvx.k, hvx.kc⟩
    obtain ⟨nb, HN⟩ : ∃ z, Hid (bb.length = z) := ⟨_, rfl⟩
    rw [HN.out] at HG HY HVV ⊢
    clear k2 g2 hvs hgs hvx hc0
    go_wp2_with fail
    go_ret
    exact FsV.ok HG.out HRR.out HY.out HVV.out
set_option maxHeartbeats 4000000 in
theorem fillB_ (hn : 1 ≤ n) : Calls Tryz.prog 70 #[.pointer (some ⟨g, 0, none⟩), .int .i32 66, .slice a n p] w fun e w' => FsV S g w (sFil x.o 66 ws) e w' := by
  have h_u := hq
  clear h_u
  have hgl : g < w.heap.size := h.yx.lt
  obtain ⟨b, off, rfl, hc0⟩ := hws.at (i := 0) (by omega)
  rw [Nat.add_zero] at hc0
  have hg0 := hw.at 0
  have k2 := readBits_ (ws.getD 0 []) hg0.1 hg0.2 w
  unfold RbV at k2
  have hr : sFil x.o 66 ws = match bitv (ws.getD 0 []) with
      | none => .error 223
      | some b => .ok { x.o with kp := b } := rfl
  obtain ⟨r, HR⟩ : ∃ z, Hid (sFil x.o 66 ws = z) := ⟨_, rfl⟩
  rw [HR.out] at hr ⊢
  generalize ws.getD 0 [] = l at *
  generalize sb l = Sx at *
  have hn1 : (0 : Int) < (n : Int) := by omega
  have HV := hid hv
  have HO := hid h
  cases hh : bitv l with
  | none =>
    rw [hh] at k2 hr
    have HRR : Hid (r = .error 223) := hr
    clear h hv hr hh hws hg0
    go_enter Tryz.func70, Tryz.ntmps70
    go_wp2_with fail
    refine k2.mono ?_
    rintro e w2 ⟨rfl, g2⟩
    have HO2 := hid (HO.out.on g2)
    have c1 := HO2.out.yx.cell 13
    have f1 := HO2.out.yx.fz 13
    simp only [odc, List.getElem?_cons_succ, List.getElem?_cons_zero] at c1
    have HG := hid (grown_row g2 (grown_setG w2 g 13 (.slice none 0 0)))
    clear k2 g2 hc0
    go_wp2_with fail
    go_ret
    exact FsV.err HG.out HRR.out (by decide)
  | some bb =>
    rw [hh] at k2 hr
    have HRR : Hid (r = .ok { x.o with kp := bb }) := hr
    clear h hv hr hh hws hg0
    go_enter Tryz.func70, Tryz.ntmps70
    go_wp2_with fail
    refine k2.mono ?_
    rintro e w2 ⟨⟨ra, rp, rfl, hvs, hvp⟩, g2⟩
    have HO2 := hid (HO.out.on g2)
    have c1 := HO2.out.yx.cell 13
    have f1 := HO2.out.yx.fz 13
    simp only [odc, List.getElem?_cons_succ, List.getElem?_cons_zero] at c1
    have hgs := grown_setG w2 g 13 (.slice ra bb.length rp)
    have HG := hid (grown_row g2 hgs)
    have HY : Hid (Ov (w2.setCell ⟨g, 13, none⟩ (.slice ra bb.length rp)) g { x with o := { x.o with kp := bb }, ka := ra, kp := rp }) := Ov.of (HO2.out.yx.set 13 (.slice ra bb.length rp))
    have hvx := HV.out.row HG.out
    have HVV : Hid (Vo (w2.setCell ⟨g, 13, none⟩ (.slice ra bb.length rp)) (Vg S g) { x with o := { x.o with kp := bb }, ka := ra, kp := rp }) := ⟨hvx.d, hvx.c, hvx.f, ⟨hvs.1, (hvs.2.wide (fun k _ hk => vg_new hS hgl k hk)).step (fun k hk hV => hgs.block k hk (fun e => hV.2 (Option.some.inj e))) hgs.size⟩, hvp⟩
    obtain ⟨nb, HN⟩ : ∃ z, Hid (bb.length = z) := ⟨_, rfl⟩
    rw [HN.out] at HG HY HVV ⊢
    clear k2 g2 hvs hgs hvx hc0 hvp
    go_wp2_with fail
    go_ret
    exact FsV.ok HG.out HRR.out HY.out HVV.out
set_option maxHeartbeats 4000000 in
theorem fillF_ (hn2 : n % 2 = 0) (hn4 : n ≤ 2000000) : Calls Tryz.prog 70 #[.pointer (some ⟨g, 0, none⟩), .int .i32 70, .slice a n p] w fun e w' => FsV S g w (sFil x.o 70 ws) e w' := by
  have hgl : g < w.heap.size := h.yx.lt
  have k2 := readFaults_ V a n p ws hw w hws hn2 hn4 hq
  unfold RfV at k2
  have hr : sFil x.o 70 ws = match fltv ws with
      | .error e => .error e
      | .ok l => .ok { x.o with fl := l } := rfl
  obtain ⟨r, HR⟩ : ∃ z, Hid (sFil x.o 70 ws = z) := ⟨_, rfl⟩
  rw [HR.out] at hr ⊢
  have HV := hid hv
  have HO := hid h
  cases hh : fltv ws with
  | error ek =>
    rw [hh] at k2 hr
    have HRR : Hid (r = .error ek) := hr
    have HEK := hid (fltv_err ws ek hh)
    clear h hv hr hh hws
    go_enter Tryz.func70, Tryz.ntmps70
    go_wp2_with fail
    refine k2.mono ?_
    rintro e w2 ⟨rfl, g2⟩
    have HO2 := hid (HO.out.on g2)
    have c1 := HO2.out.yx.cell 12
    have f1 := HO2.out.yx.fz 12
    simp only [odc, List.getElem?_cons_succ, List.getElem?_cons_zero] at c1
    have HG := hid (grown_row g2 (grown_setG w2 g 12 (.slice none 0 0)))
    clear k2 g2
    go_wp2_with fail
    go_ret
    exact FsV.err HG.out HRR.out HEK.out
  | ok bb =>
    rw [hh] at k2 hr
    have HRR : Hid (r = .ok { x.o with fl := bb }) := hr
    clear h hv hr hh hws
    go_enter Tryz.func70, Tryz.ntmps70
    go_wp2_with fail
    refine k2.mono ?_
    rintro e w2 ⟨⟨ra, rp, rfl, hvs, hvp⟩, g2⟩
    have HO2 := hid (HO.out.on g2)
    have c1 := HO2.out.yx.cell 12
    have f1 := HO2.out.yx.fz 12
    simp only [odc, List.getElem?_cons_succ, List.getElem?_cons_zero] at c1
    have hgs := grown_setG w2 g 12 (.slice ra bb.length rp)
    have HG := hid (grown_row g2 hgs)
    have HY : Hid (Ov (w2.setCell ⟨g, 12, none⟩ (.slice ra bb.length rp)) g { x with o := { x.o with fl := bb }, fa := ra, fp := rp }) := Ov.of (HO2.out.yx.set 12 (.slice ra bb.length rp))
    have hvx := HV.out.row HG.out
    have HVV : Hid (Vo (w2.setCell ⟨g, 12, none⟩ (.slice ra bb.length rp)) (Vg S g) { x with o := { x.o with fl := bb }, fa := ra, fp := rp }) := ⟨hvx.d, hvx.c, ⟨hvs.1, (hvs.2.wide (fun k _ hk => vg_new hS hgl k hk)).step (fun k hk hV => hgs.block k hk (fun e => hV.2 (Option.some.inj e))) hgs.size⟩, hvx.k, hvx.kc⟩
    obtain ⟨nb, HN⟩ : ∃ z, Hid (bb.length = z) := ⟨_, rfl⟩
    rw [HN.out] at HG HY HVV ⊢
    clear k2 g2 hvs hgs hvx hvp
    go_wp2_with fail
    go_ret
    exact FsV.ok HG.out HRR.out HY.out HVV.out
set_option maxHeartbeats 4000000 in
theorem fillC_ (hn4 : n ≤ 2000000) : Calls Tryz.prog 70 #[.pointer (some ⟨g, 0, none⟩), .int .i32 67, .slice a n p] w fun e w' => FsV S g w (sFil x.o 67 ws) e w' := by
  have hgl : g < w.heap.size := h.yx.lt
  have k2 := readChanges_ V a n p ws hw w hws hn4 hq
  unfold RgV at k2
  have hr : sFil x.o 67 ws = match chsv ws with
      | .error e => .error e
      | .ok l => .ok { x.o with ch := l } := rfl
  obtain ⟨r, HR⟩ : ∃ z, Hid (sFil x.o 67 ws = z) := ⟨_, rfl⟩
  rw [HR.out] at hr ⊢
  have HV := hid hv
  have HO := hid h
  cases hh : chsv ws with
  | error ek =>
    rw [hh] at k2 hr
    have HRR : Hid (r = .error ek) := hr
    clear h hv hr hh hws
    go_enter Tryz.func70, Tryz.ntmps70
    go_wp2_with fail
    refine k2.mono ?_
    rintro e w2 ⟨⟨rfl, hek⟩, g2⟩
    have HO2 := hid (HO.out.on g2)
    have c1 := HO2.out.yx.cell 11
    have f1 := HO2.out.yx.fz 11
    simp only [odc, List.getElem?_cons_succ, List.getElem?_cons_zero] at c1
    have HG := hid (grown_row g2 (grown_setG w2 g 11 (.slice none 0 0)))
    have HEK := hid hek
    clear k2 g2 hek
    go_wp2_with fail
    go_ret
    exact FsV.err HG.out HRR.out HEK.out
  | ok bb =>
    rw [hh] at k2 hr
    have HRR : Hid (r = .ok { x.o with ch := bb }) := hr
    clear h hv hr hh hws
    go_enter Tryz.func70, Tryz.ntmps70
    go_wp2_with fail
    refine k2.mono ?_
    rintro e w2 ⟨⟨ra, rp, rfl, hvs⟩, g2⟩
    have HO2 := hid (HO.out.on g2)
    have c1 := HO2.out.yx.cell 11
    have f1 := HO2.out.yx.fz 11
    simp only [odc, List.getElem?_cons_succ, List.getElem?_cons_zero] at c1
    have hgs := grown_setG w2 g 11 (.slice ra bb.length rp)
    have HG := hid (grown_row g2 hgs)
    have HY : Hid (Ov (w2.setCell ⟨g, 11, none⟩ (.slice ra bb.length rp)) g { x with o := { x.o with ch := bb }, ca := ra, cp := rp }) := Ov.of (HO2.out.yx.set 11 (.slice ra bb.length rp))
    have hvx := HV.out.row HG.out
    have HVV : Hid (Vo (w2.setCell ⟨g, 11, none⟩ (.slice ra bb.length rp)) (Vg S g) { x with o := { x.o with ch := bb }, ca := ra, cp := rp }) := ⟨hvx.d, (hvs.wide (fun k _ hk => vg_new hS hgl k hk)).step (fun k hk hV => hgs.block k hk (fun e => hV.2 (Option.some.inj e))) hgs.size, hvx.f, hvx.k, hvx.kc⟩
    obtain ⟨nb, HN⟩ : ∃ z, Hid (bb.length = z) := ⟨_, rfl⟩
    rw [HN.out] at HG HY HVV ⊢
    clear k2 g2 hvs hgs hvx
    go_wp2_with fail
    go_ret
    exact FsV.ok HG.out HRR.out HY.out HVV.out
set_option maxHeartbeats 4000000 in
theorem fillS_ (hn : 1 ≤ n) : Calls Tryz.prog 70 #[.pointer (some ⟨g, 0, none⟩), .int .i32 83, .slice a n p] w fun e w' => FsV S g w (sFil x.o 83 ws) e w' := by
  have h_u := hS
  clear h_u
  have hgl : g < w.heap.size := h.yx.lt
  obtain ⟨b, off, rfl, hc0⟩ := hws.at (i := 0) (by omega)
  rw [Nat.add_zero] at hc0
  have hg0 := hw.at 0
  have k2 := sparse_ (ws.getD 0 []) w hg0.1 (by unfold maxLen; have := hg0.2; omega) hq.tb
  have hr : sFil x.o 83 ws = if xe (ws.getD 0 []) = 0 then .ok { x.o with sec := xs (ws.getD 0 []), nano := xn (ws.getD 0 []) } else .error 60 := by
    unfold sFil
    rw [if_neg (by decide), if_pos rfl]
  have hE : xe (ws.getD 0 []) = 0 ∨ xe (ws.getD 0 []) = 60 := by unfold xe; split <;> simp
  obtain ⟨r, HR⟩ : ∃ z, Hid (sFil x.o 83 ws = z) := ⟨_, rfl⟩
  rw [HR.out] at hr ⊢
  generalize ws.getD 0 [] = l at *
  generalize sb l = Sx at *
  obtain ⟨X1, HX1⟩ : ∃ z, Hid (xs l = z) := ⟨_, rfl⟩
  obtain ⟨X2, HX2⟩ : ∃ z, Hid (xn l = z) := ⟨_, rfl⟩
  obtain ⟨E, HE⟩ : ∃ z, Hid (xe l = z) := ⟨_, rfl⟩
  rw [HX1.out, HX2.out, HE.out] at k2 hr
  rw [HE.out] at hE
  have HRR := hid hr
  have HEE := hid hE
  have hn1 : (0 : Int) < (n : Int) := by omega
  have HV := hid hv
  have HO := hid h
  clear h hv hr hws hg0 hE
  go_enter Tryz.func70, Tryz.ntmps70
  go_wp2_with fail
  refine k2.mono ?_
  rintro e w2 ⟨rfl, g2⟩
  have HO2 := hid (HO.out.on g2)
  have c7 := HO2.out.yx.cell 7
  have c8 := HO2.out.yx.cell 8
  have f7 := HO2.out.yx.fz 7
  have f8 := HO2.out.yx.fz 8
  simp only [odc, List.getElem?_cons_succ, List.getElem?_cons_zero] at c7 c8
  have hgs : w2.grownBy ((w2.setCell ⟨g, 7, none⟩ (.int .i64 X1)).setCell ⟨g, 8, none⟩ (.int .i64 X2)) (some g) := by_trans (grown_setG _ _ _ _) (grown_setG _ _ _ _)
  have HG := hid (grown_row g2 hgs)
  have HY : Hid (Ov ((w2.setCell ⟨g, 7, none⟩ (.int .i64 X1)).setCell ⟨g, 8, none⟩ (.int .i64 X2)) g { x with o := { x.o with sec := X1, nano := X2 } }) := Ov.of ((HO2.out.yx.set 7 (.int .i64 X1)).set 8 (.int .i64 X2))
  have hvx := HV.out.row HG.out
  have HVV : Hid (Vo ((w2.setCell ⟨g, 7, none⟩ (.int .i64 X1)).setCell ⟨g, 8, none⟩ (.int .i64 X2)) (Vg S g) { x with o := { x.o with sec := X1, nano := X2 } }) := ⟨hvx.d, hvx.c, hvx.f, hvx.k, hvx.kc⟩
  clear k2 g2 hgs hvx hc0
  go_wp2_with fail
  go_ret
  rcases HEE.out with rfl | rfl
  · exact FsV.ok HG.out (by rw [HRR.out, if_pos rfl]) HY.out HVV.out
  · exact FsV.err (k := 60) HG.out (by rw [HRR.out, if_neg (by decide)]) (by decide)
end
end Go.Proofs.YtkeogggeefnoeaaGreatDoor
namespace Go.Proofs.YtkeogggeefnoeaaGreatDoor
set_option linter.unusedSimpArgs false
open Go.RowKit
set_option linter.unusedVariables false
set_option maxRecDepth 100000

/-! Reading: a step's number. -/
theorem sNl_set {x : OD} {f : Nat} (hf : sNl f) (n : Int) : (odc x).set (sOff f) (.int .i64 n) = odc { x with o := sNum x.o f n } ∧ (odc x)[sOff f]? = some (.int .i64 (sGet x.o f)) := by
  rcases hf with rfl | rfl | rfl | rfl | rfl | rfl | rfl <;> exact ⟨rfl, rfl⟩
theorem odc_str {x : OD} {S : ByteArray} (off : Nat) (h : (odc x)[off]? = some (.string S)) : False := by
  match off, h with
  | 0, h => simp [odc] at h
  | 1, h => simp [odc] at h
  | 2, h => simp [odc] at h
  | 3, h => simp [odc] at h
  | 4, h => simp [odc] at h
  | 5, h => simp [odc] at h
  | 6, h => simp [odc] at h
  | 7, h => simp [odc] at h
  | 8, h => simp [odc] at h
  | 9, h => simp [odc] at h
  | 10, h => simp [odc] at h
  | 11, h => simp [odc] at h
  | 12, h => simp [odc] at h
  | 13, h => simp [odc] at h
  | n + 14, h => simp [odc] at h
theorem sNum_vo {w : World} {V : Nat → Prop} {x : OD} {f : Nat} {n : Int} (h : Vo w V x) (hf : sNl f) : Vo w V { x with o := sNum x.o f n } := by
  rcases hf with rfl | rfl | rfl | rfl | rfl | rfl | rfl <;> exact ⟨h.d, h.c, h.f, h.k, h.kc⟩
section
variable (g : Nat) (x : OD) (V : Nat → Prop) (a : Option Addr) (n p : Nat) (ws : List (List Nat)) (hw : Gw ws) (S : Nat) (w : World) (h : Ov w g x) (hv : Vo w (Vg S g) x) (hS : S ≤ w.heap.size) (hq : Tq w) (hws : Wv w V a n p ws)
include hw h hv hS hq hws
set_option maxHeartbeats 8000000 in
theorem fillN_ (f : Nat) (hf : sNl f) (hn : 1 ≤ n) : Calls Tryz.prog 70 #[.pointer (some ⟨g, 0, none⟩), .int .i32 (f : Int), .slice a n p] w fun e w' => FsV S g w (sFil x.o f ws) e w' := by
  have h_u := hS
  clear h_u
  have hgl : g < w.heap.size := h.yx.lt
  obtain ⟨b, off, rfl, hc0⟩ := hws.at (i := 0) (by omega)
  rw [Nat.add_zero] at hc0
  have hg0 := hw.at 0
  have k2 := fun wx hT => readNumber_ (ws.getD 0 []) hg0.1 hg0.2 wx hT
  unfold NuV at k2
  have hr : sFil x.o f ws = match numv (ws.getD 0 []) with
      | none => .error 223
      | some n => .ok (sNum x.o f n) := by
    unfold sFil
    rw [if_neg (by unfold sNl at hf; omega), if_neg (by unfold sNl at hf; omega), if_neg (by unfold sNl at hf; omega), if_neg (by unfold sNl at hf; omega), if_neg (by unfold sNl at hf; omega)]
    cases numv (ws.getD 0 []) <;> rfl
  obtain ⟨r, HR⟩ : ∃ z, Hid (sFil x.o f ws = z) := ⟨_, rfl⟩
  rw [HR.out] at hr ⊢
  generalize ws.getD 0 [] = l at *
  have kS := fun wx => stepNumber_ g f hf wx
  have e1 : ((f : Int) == 72) = false := by unfold sNl at hf; simp; omega
  have e2 : ((f : Int) == 83) = false := by unfold sNl at hf; simp; omega
  have e3 : ((f : Int) == 66) = false := by unfold sNl at hf; simp; omega
  have e4 : ((f : Int) == 70) = false := by unfold sNl at hf; simp; omega
  have e5 : ((f : Int) == 67) = false := by unfold sNl at hf; simp; omega
  have i1 : ¬ (f : Int) = 72 := by unfold sNl at hf; omega
  have i2 : ¬ (f : Int) = 83 := by unfold sNl at hf; omega
  have i3 : ¬ (f : Int) = 66 := by unfold sNl at hf; omega
  have i4 : ¬ (f : Int) = 70 := by unfold sNl at hf; omega
  have i5 : ¬ (f : Int) = 67 := by unfold sNl at hf; omega
  obtain ⟨o, HOF⟩ : ∃ z, Hid (sOff f = z) := ⟨_, rfl⟩
  have HSS := hid fun n => (sNl_set (x := x) hf n)
  rw [HOF.out] at HSS
  simp only [HOF.out] at kS
  generalize sb l = Sx at *
  have hn1 : (0 : Int) < (n : Int) := by omega
  have HV := hid hv
  have HO := hid h
  have HF := hid hf
  have HTB := hid hq.tb
  have HD : Below w.heap.size w w.drew := below_drew w
  have hbg : g ≠ b := fun e => by
    subst e
    rw [h.yx.cell] at hc0
    exact odc_str _ hc0
  cases hh : numv l with
  | none =>
    rw [hh] at hr
    have HRR : Hid (r = .error 223) := hr
    simp only [hh] at k2
    have HK2 : Hid (∀ wx, Below w.heap.size w wx → Calls Tryz.prog 67 #[.string Sx] wx fun e w' => e = .returned (.tuple #[.int .i64 0, .int .i64 223]) ∧ w'.cell? ⟨b, off, none⟩ = some (.string Sx) ∧ w'.cell? ⟨g, o, none⟩ = some (.int .i64 (sGet x.o f)) ∧ w'.frozen? ⟨g, o, none⟩ = false ∧ Hid (Below w.heap.size w w')) := fun wx hb => (k2 wx (HTB.out.kept hb)).mono fun e w' ⟨h1, h2⟩ => by
      have hb2 := bel_bel hb hb.size h2
      have hO2 := HO.out.on hb2
      exact ⟨h1, (Below.cell hb2 (p := ⟨b, off, none⟩) (World.block_lt_of_cell? w _ hc0)).trans hc0, by rw [hO2.yx.cell]; exact (HSS.out 0).2, hO2.yx.fz o, hb2⟩
    have K2 := HK2.out w.drew HD
    clear h hv hr hh hws hg0 k2 hf hgl HK2 HD
    go_enter Tryz.func70, Tryz.ntmps70
    go_wp2_with fail
    go_region_held (fun wx => wx.cell? ⟨b, off, none⟩ = some (.string Sx)) (go_keep) (first | (go_at_call 44; refine (kS _).mono ?_; rintro e wN ⟨rfl, hw⟩; obtain rfl := hw.symm) | (go_at_call 67; refine K2.mono ?_; rintro e w5 ⟨rfl, d0, d1, d2, g5⟩))
    all_goals
      have HG := hid (grown_row g5.out (grown_setG w5 g o (.int .i64 0)))
      clear d0 d1 d2 hc0
      go_wp2_with fail
      go_ret
      exact FsV.err HG.out HRR.out (by decide)
  | some nn =>
    rw [hh] at hr
    have HRR : Hid (r = .ok (sNum x.o f nn)) := hr
    simp only [hh] at k2
    have HK2 : Hid (∀ wx, Below w.heap.size w wx → Calls Tryz.prog 67 #[.string Sx] wx fun e w' => e = .returned (.tuple #[.int .i64 (nn : Nat), .int .i64 0]) ∧ w'.cell? ⟨b, off, none⟩ = some (.string Sx) ∧ w'.cell? ⟨g, o, none⟩ = some (.int .i64 (sGet x.o f)) ∧ w'.frozen? ⟨g, o, none⟩ = false ∧ Hid (Below w.heap.size w w')) := fun wx hb => (k2 wx (HTB.out.kept hb)).mono fun e w' ⟨h1, h2⟩ => by
      have hb2 := bel_bel hb hb.size h2
      have hO2 := HO.out.on hb2
      exact ⟨h1, (Below.cell hb2 (p := ⟨b, off, none⟩) (World.block_lt_of_cell? w _ hc0)).trans hc0, by rw [hO2.yx.cell]; exact (HSS.out 0).2, hO2.yx.fz o, hb2⟩
    have K2 := HK2.out w.drew HD
    clear h hv hr hh hws hg0 k2 hf hgl HK2 HD
    go_enter Tryz.func70, Tryz.ntmps70
    go_wp2_with fail
    go_region_held (fun wx => wx.cell? ⟨b, off, none⟩ = some (.string Sx)) (go_keep) (first | (go_at_call 44; refine (kS _).mono ?_; rintro e wN ⟨rfl, hw⟩; obtain rfl := hw.symm) | (go_at_call 67; refine K2.mono ?_; rintro e w5 ⟨rfl, d0, d1, d2, g5⟩))
    all_goals
      have hgs := grown_setG w5 g o (.int .i64 (nn : Nat))
      have HG := hid (grown_row g5.out hgs)
      have HO5 := hid (HO.out.on g5.out)
      have HY : Hid (Ov (w5.setCell ⟨g, o, none⟩ (.int .i64 (nn : Nat))) g { x with o := sNum x.o f nn }) := Ov.of (by
        have := HO5.out.yx.set o (.int .i64 (nn : Nat))
        rwa [(HSS.out nn).1] at this)
      have HVV : Hid (Vo (w5.setCell ⟨g, o, none⟩ (.int .i64 (nn : Nat))) (Vg S g) { x with o := sNum x.o f nn }) := sNum_vo (HV.out.row HG.out) HF.out
      clear d0 d1 d2 hc0 hgs
      go_wp2_with fail
      go_ret
      exact FsV.ok HG.out HRR.out HY.out HVV.out
/-- A field of a step is filled. -/
theorem fillStep_ (f : Nat) (hf : sLet f) (hn : f = 70 ∨ f = 67 ∨ 1 ≤ n) (hn2 : f = 70 → n % 2 = 0) (hn4 : n ≤ 2000000) : Calls Tryz.prog 70 #[.pointer (some ⟨g, 0, none⟩), .int .i32 (f : Int), .slice a n p] w fun e w' => FsV S g w (sFil x.o f ws) e w' := by
  unfold sLet at hf
  rcases hf with hf | hf | hf | hf | hf | hf | hf | hf | hf | hf | hf | hf
  · exact fillN_ g x V a n p ws hw S w h hv hS hq hws f (.inl hf) (by omega)
  · exact fillN_ g x V a n p ws hw S w h hv hS hq hws f (.inr (.inl hf)) (by omega)
  · exact fillN_ g x V a n p ws hw S w h hv hS hq hws f (.inr (.inr (.inl hf))) (by omega)
  · exact fillN_ g x V a n p ws hw S w h hv hS hq hws f (.inr (.inr (.inr (.inl hf)))) (by omega)
  · exact fillN_ g x V a n p ws hw S w h hv hS hq hws f (.inr (.inr (.inr (.inr (.inl hf))))) (by omega)
  · exact fillN_ g x V a n p ws hw S w h hv hS hq hws f (.inr (.inr (.inr (.inr (.inr (.inl hf)))))) (by omega)
  · exact fillN_ g x V a n p ws hw S w h hv hS hq hws f (.inr (.inr (.inr (.inr (.inr (.inr hf)))))) (by omega)
  · subst hf
    exact fillH_ g x V a n p ws hw S w h hv hS hq hws (by omega)
  · subst hf
    exact fillS_ g x V a n p ws hw S w h hv hS hq hws (by omega)
  · subst hf
    exact fillB_ g x V a n p ws hw S w h hv hS hq hws (by omega)
  · subst hf
    exact fillF_ g x V a n p ws hw S w h hv hS hq hws (hn2 rfl) hn4
  · subst hf
    exact fillC_ g x V a n p ws hw S w h hv hS hq hws hn4
end
theorem readFirst_ (V : Nat → Prop) (a : Option Addr) (n p : Nat) (ws : List (List Nat)) (hw : Gw ws) (w : World) (h : Wv w V a n p ws) (hn : 1 ≤ n) (hq : Tq w) : Calls Tryz.prog 52 #[.slice a n p] w fun e w' => (match fstv ws with
    | .error k => e = .returned (.tuple #[.int .i64 0, .int .i64 (k : Nat)]) ∧ k ≠ 0
    | .ok m => e = .returned (.tuple #[.int .i64 m, .int .i64 0])) ∧ Below w.heap.size w w' := by
  obtain ⟨b, off, rfl, hc0⟩ := h.at (i := 0) (by omega)
  rw [Nat.add_zero] at hc0
  have hg0 := hw.at 0
  have hg1 := hw.at 1
  have hln := h.ln
  have eC : (⟨#[99, 117, 108, 118, 101, 114, 116]⟩ : ByteArray).toList = [99, 117, 108, 118, 101, 114, 116] := by rw [toList_data]
  have q : ((sb (ws.getD 0 [])).toList == (⟨#[99, 117, 108, 118, 101, 114, 116]⟩ : ByteArray).toList) = decide (ws.getD 0 [] = cul) := sb_eq (l := cul) hg0.1 (by decide)
  rw [eC] at q
  have k2 := readNumber_ (ws.getD 1 []) hg1.1 hg1.2 w hq.tb
  unfold NuV at k2
  have hn1 : (0 : Int) < (n : Int) := by omega
  unfold fstv
  rw [hln]
  obtain ⟨X0, HX0⟩ : ∃ z, Hid (sb (ws.getD 0 []) = z) := ⟨_, rfl⟩
  rw [HX0.out] at q hc0
  by_cases h0 : ws.getD 0 [] = cul
  · rw [decide_eq_true h0] at q
    have q2 : (X0.toList != [99, 117, 108, 118, 101, 114, 116]) = false := by unfold bne; rw [q]; rfl
    rw [if_neg (by simpa using h0)]
    by_cases h2 : n = 2
    · subst h2
      rw [if_neg (by simp)]
      obtain ⟨b', off', e', hc1⟩ := h.at (i := 1) (by omega)
      obtain ⟨rfl, rfl⟩ : b = b' ∧ off = off' := by simpa using e'
      obtain ⟨X1, HX1⟩ : ∃ z, Hid (sb (ws.getD 1 []) = z) := ⟨_, rfl⟩
      rw [HX1.out] at k2 hc1
      cases hh : numv (ws.getD 1 []) with
      | none =>
        rw [hh] at k2
        clear h0 hw h hq hg0 hg1 hln eC e' hh
        go_enter Tryz.func52, Tryz.ntmps52
        go_wp2_with fail
        refine k2.mono ?_
        rintro e w2 ⟨rfl, g2⟩
        go_wp2_with fail
        go_ret2
        exact ⟨⟨rfl, by decide⟩, g2⟩
      | some m =>
        rw [hh] at k2
        clear h0 hw h hq hg0 hg1 hln eC e' hh
        go_enter Tryz.func52, Tryz.ntmps52
        go_wp2_with fail
        refine k2.mono ?_
        rintro e w2 ⟨rfl, g2⟩
        go_wp2_with fail
        go_ret2
        exact ⟨rfl, g2⟩
    · rw [if_pos h2]
      have e1 : ¬ (n : Int) = 2 := by omega
      have e2 : ((n : Int) != 2) = true := by simp; omega
      clear h0 hw h hq hg0 hg1 hln eC k2
      go_enter Tryz.func52, Tryz.ntmps52
      go_wp2_with fail
      go_ret2
      exact ⟨⟨rfl, by decide⟩, Below.refl _ _⟩
  · rw [decide_eq_false h0] at q
    have q2 : (X0.toList != [99, 117, 108, 118, 101, 114, 116]) = true := by unfold bne; rw [q]; rfl
    rw [if_pos h0]
    clear h0 hw h hq hg0 hg1 hln eC k2
    go_enter Tryz.func52, Tryz.ntmps52
    go_wp2_with fail
    go_ret2
    exact ⟨⟨rfl, by decide⟩, Below.refl _ _⟩
end Go.Proofs.YtkeogggeefnoeaaGreatDoor
