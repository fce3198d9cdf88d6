import Derived.Test.YtmbopaemnlikkaaLN0
namespace Go.Proofs.Ytmbopaemnlikkaa
set_option maxRecDepth 100000
open Go.RowKit
set_option linter.unusedVariables false

/-- What next answers: the lane that was, or a new one. -/
def Nx (w : World) (a : Option Addr) (c : Nat) (l : Ln) (kd G B X Y T U : Int) (e : Ending) (w' : World) : Prop := ∃ a' c', e = .returned (.tuple #[.agg #[.slice a' (nxL l kd G B X Y T U).k.length c', .int .i64 (nxL l kd G B X Y T U).S, .int .i64 (nxL l kd G B X Y T U).C, .int .i64 (nxL l kd G B X Y T U).N, .int .u64 (nxL l kd G B X Y T U).D, .int .u64 (nxL l kd G B X Y T U).E, .int .i64 (nxL l kd G B X Y T U).s, .int .i64 (nxL l kd G B X Y T U).n], .int .i64 (nxG l kd G B X Y T U), .int .u64 (nxA l kd G B X Y T U)]) ∧ Below w.heap.size w w' ∧ ((nxL l kd G B X Y T U = l ∧ a' = a ∧ c' = c) ∨ Vs w' (fun x => w.heap.size ≤ x) a' (nxL l kd G B X Y T U).k.length c' (nxL l kd G B X Y T U).k)
set_option maxHeartbeats 16000000 in
/-- The law's next. -/
theorem next_ (ll : LL) (a : Option Addr) (m c : Nat) (k : List Int) (S C N D E s n kd G B X Y T U : Int) (w : World) (hi : Li w a m k S C N D E s n) (hG : i64r G) (hB : i64r B) (hX : u64r X) (hY : u64r Y) (hT : i64r T) (hU : i64r U) :
    Calls Try.prog 9 #[.agg #[.slice a m c, .int .i64 S, .int .i64 C, .int .i64 N, .int .u64 D, .int .u64 E, .int .i64 s, .int .i64 n], .agg #[.int .i64 kd, .int .i64 G, .int .i64 B, .int .u64 X, .int .u64 Y, .int .i64 T, .int .i64 U]] w fun e w' => Nx w a c ⟨k, S, C, N, D, E, s, n⟩ kd G B X Y T U e w' := by
  have hkl : k.length = m := hi.k.1
  have B1 := lnew w a m c S C N D E s n
  have B2 := bel_al' (w.alloc (.cells #[.slice a m c, .int .i64 S, .int .i64 C, .int .i64 N, .int .u64 D, .int .u64 E, .int .i64 s, .int .i64 n] 29)) (.cells #[.int .i64 kd, .int .i64 G, .int .i64 B, .int .u64 X, .int .u64 Y, .int .i64 T, .int .i64 U] 36)
  have B3 := bel_al' ((w.alloc (.cells #[.slice a m c, .int .i64 S, .int .i64 C, .int .i64 N, .int .u64 D, .int .u64 E, .int .i64 s, .int .i64 n] 29)).alloc (.cells #[.int .i64 kd, .int .i64 G, .int .i64 B, .int .u64 X, .int .u64 Y, .int .i64 T, .int .i64 U] 36)) (.cells #[.slice none 0 0, .int .i64 0, .int .i64 0, .int .i64 0, .int .u64 0, .int .u64 0, .int .i64 0, .int .i64 0] 29)
  have B4 := bel_al' (((w.alloc (.cells #[.slice a m c, .int .i64 S, .int .i64 C, .int .i64 N, .int .u64 D, .int .u64 E, .int .i64 s, .int .i64 n] 29)).alloc (.cells #[.int .i64 kd, .int .i64 G, .int .i64 B, .int .u64 X, .int .u64 Y, .int .i64 T, .int .i64 U] 36)).alloc (.cells #[.slice none 0 0, .int .i64 0, .int .i64 0, .int .i64 0, .int .u64 0, .int .u64 0, .int .i64 0, .int .i64 0] 29)) (.cells #[.int .i64 G, .int .i64 B, .int .u64 X, .int .u64 Y, .int .i64 T, .int .i64 U] 34)
  have B5 := bel_al' ((((w.alloc (.cells #[.slice a m c, .int .i64 S, .int .i64 C, .int .i64 N, .int .u64 D, .int .u64 E, .int .i64 s, .int .i64 n] 29)).alloc (.cells #[.int .i64 kd, .int .i64 G, .int .i64 B, .int .u64 X, .int .u64 Y, .int .i64 T, .int .i64 U] 36)).alloc (.cells #[.slice none 0 0, .int .i64 0, .int .i64 0, .int .i64 0, .int .u64 0, .int .u64 0, .int .i64 0, .int .i64 0] 29)).alloc (.cells #[.int .i64 G, .int .i64 B, .int .u64 X, .int .u64 Y, .int .i64 T, .int .i64 U] 34)) (.cells #[.slice none 0 0, .int .i64 0, .int .i64 0, .int .i64 0, .int .u64 0, .int .u64 0, .int .i64 0, .int .i64 0] 29)
  have HB : Hid (Below w.heap.size w (((((w.alloc (.cells #[.slice a m c, .int .i64 S, .int .i64 C, .int .i64 N, .int .u64 D, .int .u64 E, .int .i64 s, .int .i64 n] 29)).alloc (.cells #[.int .i64 kd, .int .i64 G, .int .i64 B, .int .u64 X, .int .u64 Y, .int .i64 T, .int .i64 U] 36)).alloc (.cells #[.slice none 0 0, .int .i64 0, .int .i64 0, .int .i64 0, .int .u64 0, .int .u64 0, .int .i64 0, .int .i64 0] 29)).alloc (.cells #[.int .i64 G, .int .i64 B, .int .u64 X, .int .u64 Y, .int .i64 T, .int .i64 U] 34)).alloc (.cells #[.slice none 0 0, .int .i64 0, .int .i64 0, .int .i64 0, .int .u64 0, .int .u64 0, .int .i64 0, .int .i64 0] 29))) := Bw.on (Bw.on (Bw.on (Bw.on (W := w) B1 B2) B3) B4) B5
  have HLl := hid ((((Lm.new w a m c S C N D E s n).kept B2).kept B3).kept B4 |>.kept B5)
  have om3 := (Om.new (w.alloc (.cells #[.slice a m c, .int .i64 S, .int .i64 C, .int .i64 N, .int .u64 D, .int .u64 E, .int .i64 s, .int .i64 n] 29)) kd G B X Y T U).kept B3
  have HOo := hid ((om3.kept B4).kept B5)
  have HLr := hid (((Lm.new ((w.alloc (.cells #[.slice a m c, .int .i64 S, .int .i64 C, .int .i64 N, .int .u64 D, .int .u64 E, .int .i64 s, .int .i64 n] 29)).alloc (.cells #[.int .i64 kd, .int .i64 G, .int .i64 B, .int .u64 X, .int .u64 Y, .int .i64 T, .int .i64 U] 36)) none 0 0 0 0 0 0 0 0 0).kept B4).kept B5)
  have HNn := hid ((Nm.new (((w.alloc (.cells #[.slice a m c, .int .i64 S, .int .i64 C, .int .i64 N, .int .u64 D, .int .u64 E, .int .i64 s, .int .i64 n] 29)).alloc (.cells #[.int .i64 kd, .int .i64 G, .int .i64 B, .int .u64 X, .int .u64 Y, .int .i64 T, .int .i64 U] 36)).alloc (.cells #[.slice none 0 0, .int .i64 0, .int .i64 0, .int .i64 0, .int .u64 0, .int .u64 0, .int .i64 0, .int .i64 0] 29)) G B X Y T U).kept B5)
  have HLz := hid (Lm.new ((((w.alloc (.cells #[.slice a m c, .int .i64 S, .int .i64 C, .int .i64 N, .int .u64 D, .int .u64 E, .int .i64 s, .int .i64 n] 29)).alloc (.cells #[.int .i64 kd, .int .i64 G, .int .i64 B, .int .u64 X, .int .u64 Y, .int .i64 T, .int .i64 U] 36)).alloc (.cells #[.slice none 0 0, .int .i64 0, .int .i64 0, .int .i64 0, .int .u64 0, .int .u64 0, .int .i64 0, .int .i64 0] 29)).alloc (.cells #[.int .i64 G, .int .i64 B, .int .u64 X, .int .u64 Y, .int .i64 T, .int .i64 U] 34)) none 0 0 0 0 0 0 0 0 0)
  rw [World.size_alloc] at om3 HOo
  simp only [World.size_alloc] at HLr HNn HLz
  have o1 := om3.c1
  have o2 := om3.c2
  have o3 := om3.c3
  have o4 := om3.c4
  have o5 := om3.c5
  have o6 := om3.c6
  have HI := hid hi
  clear B1 B2 B3 B4 B5 om3 hi
  obtain ⟨W, HW⟩ : ∃ y, Hid ((((((w.alloc (.cells #[.slice a m c, .int .i64 S, .int .i64 C, .int .i64 N, .int .u64 D, .int .u64 E, .int .i64 s, .int .i64 n] 29)).alloc (.cells #[.int .i64 kd, .int .i64 G, .int .i64 B, .int .u64 X, .int .u64 Y, .int .i64 T, .int .i64 U] 36)).alloc (.cells #[.slice none 0 0, .int .i64 0, .int .i64 0, .int .i64 0, .int .u64 0, .int .u64 0, .int .i64 0, .int .i64 0] 29)).alloc (.cells #[.int .i64 G, .int .i64 B, .int .u64 X, .int .u64 Y, .int .i64 T, .int .i64 U] 34)).alloc (.cells #[.slice none 0 0, .int .i64 0, .int .i64 0, .int .i64 0, .int .u64 0, .int .u64 0, .int .i64 0, .int .i64 0] 29)) = y) := ⟨_, rfl⟩
  obtain ⟨gg, Hg⟩ : ∃ y, Hid (w.heap.size = y) := ⟨_, rfl⟩
  have HWS : Hid (W.heap.size = gg + 5) := by show _ = _; rw [← HW.out, ← Hg.out]; simp
  rw [HW.out] at HB HLl HOo HLr HNn HLz
  rw [Hg.out] at HLl HOo HLr HNn HLz
  replace HLr : Hid (Lm W (gg + 2) none 0 0 0 0 0 0 0 0 0) := HLr
  replace HNn : Hid (Nm W (gg + 3) G B X Y T U) := HNn
  replace HLz : Hid (Lm W (gg + 4) none 0 0 0 0 0 0 0 0 0) := HLz
  go_enter Try.func9, Try.ntmps9
  go_upto_region 5 with fail
  rw [HW.out, Hg.out]
  clear HW o1 o2 o3 o4 o5 o6
  have o0 := HOo.out.c0
  by_cases hk1 : kd = 1
  · subst hk1
    have HRE : Hid (nxR ⟨k, S, C, N, D, E, s, n⟩ 1 G B X Y T U = agnL ⟨k, S, C, N, D, E, s, n⟩) := by show _ = _; unfold nxR; rw [if_pos rfl]
    obtain ⟨Rz, hRz⟩ : ∃ R, agnL ⟨k, S, C, N, D, E, s, n⟩ = R := ⟨_, rfl⟩
    obtain ⟨xE, hxE⟩ : ∃ z, agnE ⟨k, S, C, N, D, E, s, n⟩ = z := ⟨_, rfl⟩
    have kx := ll.again a m c k S C N D E s n W (HI.out.on HB.out)
    rw [hRz, hxE] at kx
    have e0 := HLl.out.c0
    have e1 := HLl.out.c1
    have e2 := HLl.out.c2
    have e3 := HLl.out.c3
    have e4 := HLl.out.c4
    have e5 := HLl.out.c5
    have e6 := HLl.out.c6
    have e7 := HLl.out.c7
    have q0 := HNn.out.c0
    have q1 := HNn.out.c1
    have q2 := HNn.out.c2
    have q3 := HNn.out.c3
    have q4 := HNn.out.c4
    have q5 := HNn.out.c5
    go_wp2_with fail
    refine kx.mono ?_
    intro e y hy
    obtain ⟨kz, Sz, Cz, Nz, Dz, Ez, sz, nz⟩ := Rz
    obtain ⟨Mz, hMz⟩ : ∃ M, kz.length = M := ⟨_, rfl⟩
    obtain ⟨az, cz, rfl, vz, gz⟩ := hy.use rfl hMz
    have HRR : Hid (nxR ⟨k, S, C, N, D, E, s, n⟩ 1 G B X Y T U = ⟨kz, Sz, Cz, Nz, Dz, Ez, sz, nz⟩) := HRE.out.trans hRz
    have HXz := hid (HLz.out.kept gz)
    have HZz := hid (HXz.out.row az Mz cz Sz Cz Nz Dz Ez sz nz)
    have HZl : Hid (Lm (y.setRow (gg + 4) #[.slice az Mz cz, .int .i64 Sz, .int .i64 Cz, .int .i64 Nz, .int .u64 Dz, .int .u64 Ez, .int .i64 sz, .int .i64 nz]) gg a m c S C N D E s n) := (HLl.out.kept gz).at (setRow_other _ _ _ _ (by omega))
    have HZr : Hid (Lm (y.setRow (gg + 4) #[.slice az Mz cz, .int .i64 Sz, .int .i64 Cz, .int .i64 Nz, .int .u64 Dz, .int .u64 Ez, .int .i64 sz, .int .i64 nz]) (gg + 2) none 0 0 0 0 0 0 0 0 0) := (HLr.out.kept gz).at (setRow_other _ _ _ _ (by omega))
    have HZV : Hid (Vs (y.setRow (gg + 4) #[.slice az Mz cz, .int .i64 Sz, .int .i64 Cz, .int .i64 Nz, .int .u64 Dz, .int .u64 Ez, .int .i64 sz, .int .i64 nz]) (fun x => W.heap.size ≤ x) az Mz cz kz) := vz.step fun x _ hx _ => setRow_other _ _ _ _ (by have := HWS.out; omega)
    have HBz : Hid (Below w.heap.size w (y.setRow (gg + 4) #[.slice az Mz cz, .int .i64 Sz, .int .i64 Cz, .int .i64 Nz, .int .u64 Dz, .int .u64 Ez, .int .i64 sz, .int .i64 nz])) := bel_row (bel_bel HB.out HB.out.size gz) (by have := Hg.out; omega) _
    obtain ⟨wz, HWz⟩ : ∃ y', Hid (y.setRow (gg + 4) #[.slice az Mz cz, .int .i64 Sz, .int .i64 Cz, .int .i64 Nz, .int .u64 Dz, .int .u64 Ez, .int .i64 sz, .int .i64 nz] = y') := ⟨_, rfl⟩
    rw [HWz.out] at HZz HZl HZr HZV HBz
    clear kx hy vz gz e0 e1 e2 e3 e4 e5 e6 e7 q0 q1 q2 q3 q4 q5
    go_upto_region 21 with (refine wpList_sln rfl rfl _ _ rfl (gg + 4) az Mz cz Sz Cz Nz Dz Ez sz nz rfl rfl (by with_reducible exact HXz.out) ?_)
    rw [HWz.out]
    clear HWz HXz
    by_cases hC : Cz = 0
    · have HR0 : Hid ((nxR ⟨k, S, C, N, D, E, s, n⟩ 1 G B X Y T U).C = 0) := by show _ = _; rw [HRR.out]; exact hC
      have e1 : nxL ⟨k, S, C, N, D, E, s, n⟩ 1 G B X Y T U = ⟨k, S, C, N, D, E, s, n⟩ := by unfold nxL; rw [if_pos HR0.out]
      have e2 : nxG ⟨k, S, C, N, D, E, s, n⟩ 1 G B X Y T U = -1 := by unfold nxG; rw [if_pos HR0.out]
      have e3 : nxA ⟨k, S, C, N, D, E, s, n⟩ 1 G B X Y T U = 0 := by unfold nxA; rw [if_pos HR0.out]
      have hcz : (Cz == 0) = true := by rw [hC]; rfl
      have t0 := HZl.out.c0
      have t1 := HZl.out.c1
      have t2 := HZl.out.c2
      have t3 := HZl.out.c3
      have t4 := HZl.out.c4
      have t5 := HZl.out.c5
      have t6 := HZl.out.c6
      have t7 := HZl.out.c7
      have z2 := HZz.out.c2
      go_wp2_with (refine wpList_sln rfl rfl _ _ rfl (gg + 2) a m c S C N D E s n rfl rfl (by with_reducible exact HZr.out) ?_)
      refine bodyPost_ret (v := .tuple #[.agg #[.slice a m c, .int .i64 S, .int .i64 C, .int .i64 N, .int .u64 D, .int .u64 E, .int .i64 s, .int .i64 n], .int .i64 (-1), .int .u64 0]) ?_ rfl ?_
      · exact results_ln3 rfl _ _ (gg + 2) a m c S C N D E s n _ _ rfl rfl rfl (HZr.out.row a m c S C N D E s n)
      · unfold Nx
        rw [e1, e2, e3]
        exact ⟨a, c, by simp only [hkl], bel_row HBz.out (by have := Hg.out; omega) _, .inl ⟨rfl, rfl, rfl⟩⟩
    · have HR0 : Hid ((nxR ⟨k, S, C, N, D, E, s, n⟩ 1 G B X Y T U).C ≠ 0) := by show _ ≠ _; rw [HRR.out]; exact hC
      have e1 : nxL ⟨k, S, C, N, D, E, s, n⟩ 1 G B X Y T U = ⟨kz, Sz, Cz, Nz, Dz, Ez, sz, nz⟩ := by unfold nxL; rw [if_neg HR0.out, HRR.out]
      have e2 : nxG ⟨k, S, C, N, D, E, s, n⟩ 1 G B X Y T U = -1 := by unfold nxG; rw [if_neg HR0.out]; rw [if_neg (by omega)]
      have e3 : nxA ⟨k, S, C, N, D, E, s, n⟩ 1 G B X Y T U = 0 := by unfold nxA; rw [if_neg HR0.out]; rw [if_neg (by omega)]
      have hcz : (Cz == 0) = false := beq_eq_false_iff_ne.2 hC
      have t0 := HZz.out.c0
      have t1 := HZz.out.c1
      have t2 := HZz.out.c2
      have t3 := HZz.out.c3
      have t4 := HZz.out.c4
      have t5 := HZz.out.c5
      have t6 := HZz.out.c6
      have t7 := HZz.out.c7
      go_wp2_with (refine wpList_sln rfl rfl _ _ rfl (gg + 2) az Mz cz Sz Cz Nz Dz Ez sz nz rfl rfl (by with_reducible exact HZr.out) ?_)
      refine bodyPost_ret (v := .tuple #[.agg #[.slice az Mz cz, .int .i64 Sz, .int .i64 Cz, .int .i64 Nz, .int .u64 Dz, .int .u64 Ez, .int .i64 sz, .int .i64 nz], .int .i64 (-1), .int .u64 0]) ?_ rfl ?_
      · exact results_ln3 rfl _ _ (gg + 2) az Mz cz Sz Cz Nz Dz Ez sz nz _ _ rfl rfl rfl (HZr.out.row az Mz cz Sz Cz Nz Dz Ez sz nz)
      · unfold Nx
        rw [e1, e2, e3]
        exact ⟨az, cz, by simp only [hMz], bel_row HBz.out (by have := Hg.out; omega) _, .inr (by simp only [hMz]; exact (HZV.out.step fun x _ hx _ => setRow_other _ _ _ _ (by have := HWS.out; omega)).wide fun x _ hx => (by have h1 := HWS.out; have h2 := Hg.out; omega))⟩
  by_cases hk2 : kd = 2
  · subst hk2
    have HRE : Hid (nxR ⟨k, S, C, N, D, E, s, n⟩ 2 G B X Y T U = resL ⟨k, S, C, N, D, E, s, n⟩ (IntKind.u64.wrap (D + Y)) B) := by show _ = _; unfold nxR; rw [if_neg (by decide), if_pos rfl]; rfl
    obtain ⟨Rz, hRz⟩ : ∃ R, resL ⟨k, S, C, N, D, E, s, n⟩ (IntKind.u64.wrap (D + Y)) B = R := ⟨_, rfl⟩
    have kx := ll.reserve a m c k S C N D E s n (IntKind.u64.wrap (D + Y)) B W (HI.out.on HB.out) (by have := IntKind.wrap_u64 (D + Y); unfold u64r; omega) hB
    rw [hRz] at kx
    have e0 := HLl.out.c0
    have e1 := HLl.out.c1
    have e2 := HLl.out.c2
    have e3 := HLl.out.c3
    have e4 := HLl.out.c4
    have e5 := HLl.out.c5
    have e6 := HLl.out.c6
    have e7 := HLl.out.c7
    have q0 := HNn.out.c0
    have q1 := HNn.out.c1
    have q2 := HNn.out.c2
    have q3 := HNn.out.c3
    have q4 := HNn.out.c4
    have q5 := HNn.out.c5
    go_wp2_with fail
    refine kx.mono ?_
    intro e y hy
    obtain ⟨kz, Sz, Cz, Nz, Dz, Ez, sz, nz⟩ := Rz
    obtain ⟨Mz, hMz⟩ : ∃ M, kz.length = M := ⟨_, rfl⟩
    obtain ⟨az, cz, rfl, vz, gz⟩ := hy.use rfl hMz
    have HRR : Hid (nxR ⟨k, S, C, N, D, E, s, n⟩ 2 G B X Y T U = ⟨kz, Sz, Cz, Nz, Dz, Ez, sz, nz⟩) := HRE.out.trans hRz
    have HXz := hid (HLz.out.kept gz)
    have HZz := hid (HXz.out.row az Mz cz Sz Cz Nz Dz Ez sz nz)
    have HZl : Hid (Lm (y.setRow (gg + 4) #[.slice az Mz cz, .int .i64 Sz, .int .i64 Cz, .int .i64 Nz, .int .u64 Dz, .int .u64 Ez, .int .i64 sz, .int .i64 nz]) gg a m c S C N D E s n) := (HLl.out.kept gz).at (setRow_other _ _ _ _ (by omega))
    have HZr : Hid (Lm (y.setRow (gg + 4) #[.slice az Mz cz, .int .i64 Sz, .int .i64 Cz, .int .i64 Nz, .int .u64 Dz, .int .u64 Ez, .int .i64 sz, .int .i64 nz]) (gg + 2) none 0 0 0 0 0 0 0 0 0) := (HLr.out.kept gz).at (setRow_other _ _ _ _ (by omega))
    have HZV : Hid (Vs (y.setRow (gg + 4) #[.slice az Mz cz, .int .i64 Sz, .int .i64 Cz, .int .i64 Nz, .int .u64 Dz, .int .u64 Ez, .int .i64 sz, .int .i64 nz]) (fun x => W.heap.size ≤ x) az Mz cz kz) := vz.step fun x _ hx _ => setRow_other _ _ _ _ (by have := HWS.out; omega)
    have HBz : Hid (Below w.heap.size w (y.setRow (gg + 4) #[.slice az Mz cz, .int .i64 Sz, .int .i64 Cz, .int .i64 Nz, .int .u64 Dz, .int .u64 Ez, .int .i64 sz, .int .i64 nz])) := bel_row (bel_bel HB.out HB.out.size gz) (by have := Hg.out; omega) _
    obtain ⟨wz, HWz⟩ : ∃ y', Hid (y.setRow (gg + 4) #[.slice az Mz cz, .int .i64 Sz, .int .i64 Cz, .int .i64 Nz, .int .u64 Dz, .int .u64 Ez, .int .i64 sz, .int .i64 nz] = y') := ⟨_, rfl⟩
    rw [HWz.out] at HZz HZl HZr HZV HBz
    clear kx hy vz gz e0 e1 e2 e3 e4 e5 e6 e7 q0 q1 q2 q3 q4 q5
    go_upto_region 21 with (refine wpList_sln rfl rfl _ _ rfl (gg + 4) az Mz cz Sz Cz Nz Dz Ez sz nz rfl rfl (by with_reducible exact HXz.out) ?_)
    rw [HWz.out]
    clear HWz HXz
    by_cases hC : Cz = 0
    · have HR0 : Hid ((nxR ⟨k, S, C, N, D, E, s, n⟩ 2 G B X Y T U).C = 0) := by show _ = _; rw [HRR.out]; exact hC
      have e1 : nxL ⟨k, S, C, N, D, E, s, n⟩ 2 G B X Y T U = ⟨k, S, C, N, D, E, s, n⟩ := by unfold nxL; rw [if_pos HR0.out]
      have e2 : nxG ⟨k, S, C, N, D, E, s, n⟩ 2 G B X Y T U = -1 := by unfold nxG; rw [if_pos HR0.out]
      have e3 : nxA ⟨k, S, C, N, D, E, s, n⟩ 2 G B X Y T U = 0 := by unfold nxA; rw [if_pos HR0.out]
      have hcz : (Cz == 0) = true := by rw [hC]; rfl
      have t0 := HZl.out.c0
      have t1 := HZl.out.c1
      have t2 := HZl.out.c2
      have t3 := HZl.out.c3
      have t4 := HZl.out.c4
      have t5 := HZl.out.c5
      have t6 := HZl.out.c6
      have t7 := HZl.out.c7
      have z2 := HZz.out.c2
      go_wp2_with (refine wpList_sln rfl rfl _ _ rfl (gg + 2) a m c S C N D E s n rfl rfl (by with_reducible exact HZr.out) ?_)
      refine bodyPost_ret (v := .tuple #[.agg #[.slice a m c, .int .i64 S, .int .i64 C, .int .i64 N, .int .u64 D, .int .u64 E, .int .i64 s, .int .i64 n], .int .i64 (-1), .int .u64 0]) ?_ rfl ?_
      · exact results_ln3 rfl _ _ (gg + 2) a m c S C N D E s n _ _ rfl rfl rfl (HZr.out.row a m c S C N D E s n)
      · unfold Nx
        rw [e1, e2, e3]
        exact ⟨a, c, by simp only [hkl], bel_row HBz.out (by have := Hg.out; omega) _, .inl ⟨rfl, rfl, rfl⟩⟩
    · have HR0 : Hid ((nxR ⟨k, S, C, N, D, E, s, n⟩ 2 G B X Y T U).C ≠ 0) := by show _ ≠ _; rw [HRR.out]; exact hC
      have e1 : nxL ⟨k, S, C, N, D, E, s, n⟩ 2 G B X Y T U = ⟨kz, Sz, Cz, Nz, Dz, Ez, sz, nz⟩ := by unfold nxL; rw [if_neg HR0.out, HRR.out]
      have e2 : nxG ⟨k, S, C, N, D, E, s, n⟩ 2 G B X Y T U = -1 := by unfold nxG; rw [if_neg HR0.out]; rw [if_neg (by omega)]
      have e3 : nxA ⟨k, S, C, N, D, E, s, n⟩ 2 G B X Y T U = 0 := by unfold nxA; rw [if_neg HR0.out]; rw [if_neg (by omega)]
      have hcz : (Cz == 0) = false := beq_eq_false_iff_ne.2 hC
      have t0 := HZz.out.c0
      have t1 := HZz.out.c1
      have t2 := HZz.out.c2
      have t3 := HZz.out.c3
      have t4 := HZz.out.c4
      have t5 := HZz.out.c5
      have t6 := HZz.out.c6
      have t7 := HZz.out.c7
      go_wp2_with (refine wpList_sln rfl rfl _ _ rfl (gg + 2) az Mz cz Sz Cz Nz Dz Ez sz nz rfl rfl (by with_reducible exact HZr.out) ?_)
      refine bodyPost_ret (v := .tuple #[.agg #[.slice az Mz cz, .int .i64 Sz, .int .i64 Cz, .int .i64 Nz, .int .u64 Dz, .int .u64 Ez, .int .i64 sz, .int .i64 nz], .int .i64 (-1), .int .u64 0]) ?_ rfl ?_
      · exact results_ln3 rfl _ _ (gg + 2) az Mz cz Sz Cz Nz Dz Ez sz nz _ _ rfl rfl rfl (HZr.out.row az Mz cz Sz Cz Nz Dz Ez sz nz)
      · unfold Nx
        rw [e1, e2, e3]
        exact ⟨az, cz, by simp only [hMz], bel_row HBz.out (by have := Hg.out; omega) _, .inr (by simp only [hMz]; exact (HZV.out.step fun x _ hx _ => setRow_other _ _ _ _ (by have := HWS.out; omega)).wide fun x _ hx => (by have h1 := HWS.out; have h2 := Hg.out; omega))⟩
  by_cases hk3 : kd = 3
  · subst hk3
    have HRE : Hid (nxR ⟨k, S, C, N, D, E, s, n⟩ 3 G B X Y T U = prpL ⟨k, S, C, N, D, E, s, n⟩) := by show _ = _; unfold nxR; rw [if_neg (by decide), if_neg (by decide), if_pos rfl]
    obtain ⟨Rz, hRz⟩ : ∃ R, prpL ⟨k, S, C, N, D, E, s, n⟩ = R := ⟨_, rfl⟩
    obtain ⟨xG, hxG⟩ : ∃ z, prpG ⟨k, S, C, N, D, E, s, n⟩ = z := ⟨_, rfl⟩
    obtain ⟨xE, hxE⟩ : ∃ z, agnE ⟨k, S, C, N, D, E, s, n⟩ = z := ⟨_, rfl⟩
    have HE0 : Hid (xE ≠ 0 → Rz = lzero) := fun h => by
      rw [← hRz]
      unfold prpL agnB
      rw [← hxE] at h
      unfold agnE at h
      cases hl : lokL ⟨k, S, C, N, D, E, s, n⟩ with
      | false => rfl
      | true =>
        rw [hl, if_pos rfl] at h
        by_cases h2 : abN ⟨k, S, C, N, D, E, s, n⟩ ≤ 2147483647
        · rw [if_pos h2] at h; exact absurd rfl h
        · rw [decide_eq_false h2]; rfl
    have kx := ll.propose a m c k S C N D E s n W (HI.out.on HB.out)
    rw [hRz, hxG, hxE] at kx
    have e0 := HLl.out.c0
    have e1 := HLl.out.c1
    have e2 := HLl.out.c2
    have e3 := HLl.out.c3
    have e4 := HLl.out.c4
    have e5 := HLl.out.c5
    have e6 := HLl.out.c6
    have e7 := HLl.out.c7
    have kn := fun x wx => num17_ x wx
    go_wp2_with fail
    refine kx.mono ?_
    intro e y hy
    obtain ⟨kz, Sz, Cz, Nz, Dz, Ez, sz, nz⟩ := Rz
    obtain ⟨Mz, hMz⟩ : ∃ M, kz.length = M := ⟨_, rfl⟩
    obtain ⟨az, cz, rfl, vz, gz⟩ := hy.use rfl hMz
    have HRR : Hid (nxR ⟨k, S, C, N, D, E, s, n⟩ 3 G B X Y T U = ⟨kz, Sz, Cz, Nz, Dz, Ez, sz, nz⟩) := HRE.out.trans hRz
    have NL := lnew y az Mz cz Sz Cz Nz Dz Ez sz nz
    have HLx := hid (Lm.new y az Mz cz Sz Cz Nz Dz Ez sz nz)
    have HXz := hid ((HLz.out.kept gz).kept NL)
    have HXl := hid ((HLl.out.kept gz).kept NL)
    have HXr := hid ((HLr.out.kept gz).kept NL)
    have HXV := hid (vz.step (w' := y.alloc (.cells #[.slice az Mz cz, .int .i64 Sz, .int .i64 Cz, .int .i64 Nz, .int .u64 Dz, .int .u64 Ez, .int .i64 sz, .int .i64 nz] 29)) fun x hx _ _ => NL.block x hx)
    have HXB : Hid (Below w.heap.size w (y.alloc (.cells #[.slice az Mz cz, .int .i64 Sz, .int .i64 Cz, .int .i64 Nz, .int .u64 Dz, .int .u64 Ez, .int .i64 sz, .int .i64 nz] 29))) := bel_bel (bel_bel HB.out HB.out.size gz) (by have h1 := HB.out.size; have h2 := gz.size; omega) NL
    obtain ⟨wx0, HWx⟩ : ∃ y', Hid (y.alloc (.cells #[.slice az Mz cz, .int .i64 Sz, .int .i64 Cz, .int .i64 Nz, .int .u64 Dz, .int .u64 Ez, .int .i64 sz, .int .i64 nz] 29) = y') := ⟨_, rfl⟩
    obtain ⟨px, HPx⟩ : ∃ y', Hid (y.heap.size = y') := ⟨_, rfl⟩
    rw [HWx.out] at HLx HXz HXl HXr HXV HXB
    rw [HPx.out] at HLx
    clear kx hy vz gz NL e0 e1 e2 e3 e4 e5 e6 e7
    go_upto_region 12 with fail
    rw [HWx.out, HPx.out]
    clear HWx HPx
    by_cases hE0 : xE = 0
    · subst hE0
      have HZz := hid (HXz.out.row az Mz cz Sz Cz Nz Dz Ez sz nz)
      have HZl : Hid (Lm (wx0.setRow (gg + 4) #[.slice az Mz cz, .int .i64 Sz, .int .i64 Cz, .int .i64 Nz, .int .u64 Dz, .int .u64 Ez, .int .i64 sz, .int .i64 nz]) gg a m c S C N D E s n) := HXl.out.at (setRow_other _ _ _ _ (by omega))
      have HZr : Hid (Lm (wx0.setRow (gg + 4) #[.slice az Mz cz, .int .i64 Sz, .int .i64 Cz, .int .i64 Nz, .int .u64 Dz, .int .u64 Ez, .int .i64 sz, .int .i64 nz]) (gg + 2) none 0 0 0 0 0 0 0 0 0) := HXr.out.at (setRow_other _ _ _ _ (by omega))
      have HZV : Hid (Vs (wx0.setRow (gg + 4) #[.slice az Mz cz, .int .i64 Sz, .int .i64 Cz, .int .i64 Nz, .int .u64 Dz, .int .u64 Ez, .int .i64 sz, .int .i64 nz]) (fun x => W.heap.size ≤ x) az Mz cz kz) := HXV.out.step fun x _ hx _ => setRow_other _ _ _ _ (by have := HWS.out; omega)
      have HBz : Hid (Below w.heap.size w (wx0.setRow (gg + 4) #[.slice az Mz cz, .int .i64 Sz, .int .i64 Cz, .int .i64 Nz, .int .u64 Dz, .int .u64 Ez, .int .i64 sz, .int .i64 nz])) := bel_row HXB.out (by have := Hg.out; omega) _
      have x0 := HLx.out.c0
      have x1 := HLx.out.c1
      have x2 := HLx.out.c2
      have x3 := HLx.out.c3
      have x4 := HLx.out.c4
      have x5 := HLx.out.c5
      have x6 := HLx.out.c6
      have x7 := HLx.out.c7
      obtain ⟨wz, HWz⟩ : ∃ y', Hid (wx0.setRow (gg + 4) #[.slice az Mz cz, .int .i64 Sz, .int .i64 Cz, .int .i64 Nz, .int .u64 Dz, .int .u64 Ez, .int .i64 sz, .int .i64 nz] = y') := ⟨_, rfl⟩
      rw [HWz.out] at HZz HZl HZr HZV HBz
      go_upto_region 21 with (first | (go_at_call 24; refine (kn _ _).mono ?_; rintro en wn ⟨rfl, hwn⟩; rw [hwn]; clear hwn) | refine wpList_sln rfl rfl _ _ rfl (gg + 4) az Mz cz Sz Cz Nz Dz Ez sz nz rfl rfl (by with_reducible exact HXz.out) ?_)
      rw [HWz.out]
      clear HWz x0 x1 x2 x3 x4 x5 x6 x7
      by_cases hC : Cz = 0
      · have HR0 : Hid ((nxR ⟨k, S, C, N, D, E, s, n⟩ 3 G B X Y T U).C = 0) := by show _ = _; rw [HRR.out]; exact hC
        have e1 : nxL ⟨k, S, C, N, D, E, s, n⟩ 3 G B X Y T U = ⟨k, S, C, N, D, E, s, n⟩ := by unfold nxL; rw [if_pos HR0.out]
        have e2 : nxG ⟨k, S, C, N, D, E, s, n⟩ 3 G B X Y T U = -1 := by unfold nxG; rw [if_pos HR0.out]
        have e3 : nxA ⟨k, S, C, N, D, E, s, n⟩ 3 G B X Y T U = 0 := by unfold nxA; rw [if_pos HR0.out]
        have hcz : (Cz == 0) = true := by rw [hC]; rfl
        have t0 := HZl.out.c0
        have t1 := HZl.out.c1
        have t2 := HZl.out.c2
        have t3 := HZl.out.c3
        have t4 := HZl.out.c4
        have t5 := HZl.out.c5
        have t6 := HZl.out.c6
        have t7 := HZl.out.c7
        have z2 := HZz.out.c2
        go_wp2_with (refine wpList_sln rfl rfl _ _ rfl (gg + 2) a m c S C N D E s n rfl rfl (by with_reducible exact HZr.out) ?_)
        refine bodyPost_ret (v := .tuple #[.agg #[.slice a m c, .int .i64 S, .int .i64 C, .int .i64 N, .int .u64 D, .int .u64 E, .int .i64 s, .int .i64 n], .int .i64 (-1), .int .u64 0]) ?_ rfl ?_
        · exact results_ln3 rfl _ _ (gg + 2) a m c S C N D E s n _ _ rfl rfl rfl (HZr.out.row a m c S C N D E s n)
        · unfold Nx
          rw [e1, e2, e3]
          exact ⟨a, c, by simp only [hkl], bel_row HBz.out (by have := Hg.out; omega) _, .inl ⟨rfl, rfl, rfl⟩⟩
      · have HR0 : Hid ((nxR ⟨k, S, C, N, D, E, s, n⟩ 3 G B X Y T U).C ≠ 0) := by show _ ≠ _; rw [HRR.out]; exact hC
        have e1 : nxL ⟨k, S, C, N, D, E, s, n⟩ 3 G B X Y T U = ⟨kz, Sz, Cz, Nz, Dz, Ez, sz, nz⟩ := by unfold nxL; rw [if_neg HR0.out, HRR.out]
        have e2 : nxG ⟨k, S, C, N, D, E, s, n⟩ 3 G B X Y T U = xG := by unfold nxG; rw [if_neg HR0.out]; rw [if_pos rfl]; exact hxG
        have e3 : nxA ⟨k, S, C, N, D, E, s, n⟩ 3 G B X Y T U = 0 := by unfold nxA; rw [if_neg HR0.out]; rw [if_neg (by omega)]
        have hcz : (Cz == 0) = false := beq_eq_false_iff_ne.2 hC
        have t0 := HZz.out.c0
        have t1 := HZz.out.c1
        have t2 := HZz.out.c2
        have t3 := HZz.out.c3
        have t4 := HZz.out.c4
        have t5 := HZz.out.c5
        have t6 := HZz.out.c6
        have t7 := HZz.out.c7
        go_wp2_with (refine wpList_sln rfl rfl _ _ rfl (gg + 2) az Mz cz Sz Cz Nz Dz Ez sz nz rfl rfl (by with_reducible exact HZr.out) ?_)
        refine bodyPost_ret (v := .tuple #[.agg #[.slice az Mz cz, .int .i64 Sz, .int .i64 Cz, .int .i64 Nz, .int .u64 Dz, .int .u64 Ez, .int .i64 sz, .int .i64 nz], .int .i64 (xG), .int .u64 0]) ?_ rfl ?_
        · exact results_ln3 rfl _ _ (gg + 2) az Mz cz Sz Cz Nz Dz Ez sz nz _ _ rfl rfl rfl (HZr.out.row az Mz cz Sz Cz Nz Dz Ez sz nz)
        · unfold Nx
          rw [e1, e2, e3]
          exact ⟨az, cz, by simp only [hMz], bel_row HBz.out (by have := Hg.out; omega) _, .inr (by simp only [hMz]; exact (HZV.out.step fun x _ hx _ => setRow_other _ _ _ _ (by have := HWS.out; omega)).wide fun x _ hx => (by have h1 := HWS.out; have h2 := Hg.out; omega))⟩
    · have hz := HE0.out hE0
      have hxe : (xE == 0) = false := beq_eq_false_iff_ne.2 hE0
      obtain ⟨rfl, rfl, rfl, rfl, rfl, rfl, rfl, rfl⟩ : kz = [] ∧ Sz = 0 ∧ Cz = 0 ∧ Nz = 0 ∧ Dz = 0 ∧ Ez = 0 ∧ sz = 0 ∧ nz = 0 := by simpa [lzero] using hz
      have HR0 : Hid ((nxR ⟨k, S, C, N, D, E, s, n⟩ 3 G B X Y T U).C = 0) := by show _ = _; rw [HRR.out]
      have e1 : nxL ⟨k, S, C, N, D, E, s, n⟩ 3 G B X Y T U = ⟨k, S, C, N, D, E, s, n⟩ := by unfold nxL; rw [if_pos HR0.out]
      have e2 : nxG ⟨k, S, C, N, D, E, s, n⟩ 3 G B X Y T U = -1 := by unfold nxG; rw [if_pos HR0.out]
      have e3 : nxA ⟨k, S, C, N, D, E, s, n⟩ 3 G B X Y T U = 0 := by unfold nxA; rw [if_pos HR0.out]
      have t0 := HXl.out.c0
      have t1 := HXl.out.c1
      have t2 := HXl.out.c2
      have t3 := HXl.out.c3
      have t4 := HXl.out.c4
      have t5 := HXl.out.c5
      have t6 := HXl.out.c6
      have t7 := HXl.out.c7
      have z2 := HXz.out.c2
      go_wp2_with (first | (go_at_call 24; refine (kn _ _).mono ?_; rintro en wn ⟨rfl, hwn⟩; rw [hwn]; clear hwn) | refine wpList_sln rfl rfl _ _ rfl (gg + 2) a m c S C N D E s n rfl rfl (by with_reducible exact HXr.out) ?_)
      refine bodyPost_ret (v := .tuple #[.agg #[.slice a m c, .int .i64 S, .int .i64 C, .int .i64 N, .int .u64 D, .int .u64 E, .int .i64 s, .int .i64 n], .int .i64 (-1), .int .u64 0]) ?_ rfl ?_
      · exact results_ln3 rfl _ _ (gg + 2) a m c S C N D E s n _ _ rfl rfl rfl (HXr.out.row a m c S C N D E s n)
      · unfold Nx
        rw [e1, e2, e3]
        exact ⟨a, c, by simp only [hkl], bel_row HXB.out (by have := Hg.out; omega) _, .inl ⟨rfl, rfl, rfl⟩⟩
  by_cases hk4 : kd = 4
  · subst hk4
    obtain ⟨xg, hxg⟩ : ∃ z, IntKind.i64.wrap (C + G) = z := ⟨_, rfl⟩
    have hxr : i64r xg := by rw [← hxg]; exact wi_r _
    have HRE : Hid (nxR ⟨k, S, C, N, D, E, s, n⟩ 4 G B X Y T U = ansL ⟨k, S, C, N, D, E, s, n⟩ xg X T U B) := by show _ = _; unfold nxR; rw [if_neg (by decide), if_neg (by decide), if_neg (by decide), if_pos rfl]; unfold wi; simp only [hxg]
    obtain ⟨Rz, hRz⟩ : ∃ R, ansL ⟨k, S, C, N, D, E, s, n⟩ xg X T U B = R := ⟨_, rfl⟩
    obtain ⟨xN, hxN⟩ : ∃ z, ansN ⟨k, S, C, N, D, E, s, n⟩ xg X T U B = z := ⟨_, rfl⟩
    have kx := ll.answered a m c k S C N D E s n xg X T U B W (HI.out.on HB.out) hxr hX hT hU hB
    rw [hRz, hxN] at kx
    have e0 := HLl.out.c0
    have e1 := HLl.out.c1
    have e2 := HLl.out.c2
    have e3 := HLl.out.c3
    have e4 := HLl.out.c4
    have e5 := HLl.out.c5
    have e6 := HLl.out.c6
    have e7 := HLl.out.c7
    have q0 := HNn.out.c0
    have q1 := HNn.out.c1
    have q2 := HNn.out.c2
    have q3 := HNn.out.c3
    have q4 := HNn.out.c4
    have q5 := HNn.out.c5
    go_wp2_with fail
    refine kx.mono ?_
    intro e y hy
    obtain ⟨kz, Sz, Cz, Nz, Dz, Ez, sz, nz⟩ := Rz
    obtain ⟨Mz, hMz⟩ : ∃ M, kz.length = M := ⟨_, rfl⟩
    obtain ⟨az, cz, rfl, vz, gz⟩ := hy.use rfl hMz
    have HRR : Hid (nxR ⟨k, S, C, N, D, E, s, n⟩ 4 G B X Y T U = ⟨kz, Sz, Cz, Nz, Dz, Ez, sz, nz⟩) := HRE.out.trans hRz
    have HXz := hid (HLz.out.kept gz)
    have HZz := hid (HXz.out.row az Mz cz Sz Cz Nz Dz Ez sz nz)
    have HZl : Hid (Lm (y.setRow (gg + 4) #[.slice az Mz cz, .int .i64 Sz, .int .i64 Cz, .int .i64 Nz, .int .u64 Dz, .int .u64 Ez, .int .i64 sz, .int .i64 nz]) gg a m c S C N D E s n) := (HLl.out.kept gz).at (setRow_other _ _ _ _ (by omega))
    have HZr : Hid (Lm (y.setRow (gg + 4) #[.slice az Mz cz, .int .i64 Sz, .int .i64 Cz, .int .i64 Nz, .int .u64 Dz, .int .u64 Ez, .int .i64 sz, .int .i64 nz]) (gg + 2) none 0 0 0 0 0 0 0 0 0) := (HLr.out.kept gz).at (setRow_other _ _ _ _ (by omega))
    have HZV : Hid (Vs (y.setRow (gg + 4) #[.slice az Mz cz, .int .i64 Sz, .int .i64 Cz, .int .i64 Nz, .int .u64 Dz, .int .u64 Ez, .int .i64 sz, .int .i64 nz]) (fun x => W.heap.size ≤ x) az Mz cz kz) := vz.step fun x _ hx _ => setRow_other _ _ _ _ (by have := HWS.out; omega)
    have HBz : Hid (Below w.heap.size w (y.setRow (gg + 4) #[.slice az Mz cz, .int .i64 Sz, .int .i64 Cz, .int .i64 Nz, .int .u64 Dz, .int .u64 Ez, .int .i64 sz, .int .i64 nz])) := bel_row (bel_bel HB.out HB.out.size gz) (by have := Hg.out; omega) _
    obtain ⟨wz, HWz⟩ : ∃ y', Hid (y.setRow (gg + 4) #[.slice az Mz cz, .int .i64 Sz, .int .i64 Cz, .int .i64 Nz, .int .u64 Dz, .int .u64 Ez, .int .i64 sz, .int .i64 nz] = y') := ⟨_, rfl⟩
    rw [HWz.out] at HZz HZl HZr HZV HBz
    clear kx hy vz gz e0 e1 e2 e3 e4 e5 e6 e7 q0 q1 q2 q3 q4 q5
    go_upto_region 21 with (refine wpList_sln rfl rfl _ _ rfl (gg + 4) az Mz cz Sz Cz Nz Dz Ez sz nz rfl rfl (by with_reducible exact HXz.out) ?_)
    rw [HWz.out]
    clear HWz HXz
    by_cases hC : Cz = 0
    · have HR0 : Hid ((nxR ⟨k, S, C, N, D, E, s, n⟩ 4 G B X Y T U).C = 0) := by show _ = _; rw [HRR.out]; exact hC
      have e1 : nxL ⟨k, S, C, N, D, E, s, n⟩ 4 G B X Y T U = ⟨k, S, C, N, D, E, s, n⟩ := by unfold nxL; rw [if_pos HR0.out]
      have e2 : nxG ⟨k, S, C, N, D, E, s, n⟩ 4 G B X Y T U = -1 := by unfold nxG; rw [if_pos HR0.out]
      have e3 : nxA ⟨k, S, C, N, D, E, s, n⟩ 4 G B X Y T U = 0 := by unfold nxA; rw [if_pos HR0.out]
      have hcz : (Cz == 0) = true := by rw [hC]; rfl
      have t0 := HZl.out.c0
      have t1 := HZl.out.c1
      have t2 := HZl.out.c2
      have t3 := HZl.out.c3
      have t4 := HZl.out.c4
      have t5 := HZl.out.c5
      have t6 := HZl.out.c6
      have t7 := HZl.out.c7
      have z2 := HZz.out.c2
      go_wp2_with (refine wpList_sln rfl rfl _ _ rfl (gg + 2) a m c S C N D E s n rfl rfl (by with_reducible exact HZr.out) ?_)
      refine bodyPost_ret (v := .tuple #[.agg #[.slice a m c, .int .i64 S, .int .i64 C, .int .i64 N, .int .u64 D, .int .u64 E, .int .i64 s, .int .i64 n], .int .i64 (-1), .int .u64 0]) ?_ rfl ?_
      · exact results_ln3 rfl _ _ (gg + 2) a m c S C N D E s n _ _ rfl rfl rfl (HZr.out.row a m c S C N D E s n)
      · unfold Nx
        rw [e1, e2, e3]
        exact ⟨a, c, by simp only [hkl], bel_row HBz.out (by have := Hg.out; omega) _, .inl ⟨rfl, rfl, rfl⟩⟩
    · have HR0 : Hid ((nxR ⟨k, S, C, N, D, E, s, n⟩ 4 G B X Y T U).C ≠ 0) := by show _ ≠ _; rw [HRR.out]; exact hC
      have e1 : nxL ⟨k, S, C, N, D, E, s, n⟩ 4 G B X Y T U = ⟨kz, Sz, Cz, Nz, Dz, Ez, sz, nz⟩ := by unfold nxL; rw [if_neg HR0.out, HRR.out]
      have e2 : nxG ⟨k, S, C, N, D, E, s, n⟩ 4 G B X Y T U = -1 := by unfold nxG; rw [if_neg HR0.out]; rw [if_neg (by omega)]
      have e3 : nxA ⟨k, S, C, N, D, E, s, n⟩ 4 G B X Y T U = xN := by unfold nxA; rw [if_neg HR0.out]; rw [if_pos rfl]; unfold wi; simp only [hxg]; exact hxN
      have hcz : (Cz == 0) = false := beq_eq_false_iff_ne.2 hC
      have t0 := HZz.out.c0
      have t1 := HZz.out.c1
      have t2 := HZz.out.c2
      have t3 := HZz.out.c3
      have t4 := HZz.out.c4
      have t5 := HZz.out.c5
      have t6 := HZz.out.c6
      have t7 := HZz.out.c7
      go_wp2_with (refine wpList_sln rfl rfl _ _ rfl (gg + 2) az Mz cz Sz Cz Nz Dz Ez sz nz rfl rfl (by with_reducible exact HZr.out) ?_)
      refine bodyPost_ret (v := .tuple #[.agg #[.slice az Mz cz, .int .i64 Sz, .int .i64 Cz, .int .i64 Nz, .int .u64 Dz, .int .u64 Ez, .int .i64 sz, .int .i64 nz], .int .i64 (-1), .int .u64 xN]) ?_ rfl ?_
      · exact results_ln3 rfl _ _ (gg + 2) az Mz cz Sz Cz Nz Dz Ez sz nz _ _ rfl rfl rfl (HZr.out.row az Mz cz Sz Cz Nz Dz Ez sz nz)
      · unfold Nx
        rw [e1, e2, e3]
        exact ⟨az, cz, by simp only [hMz], bel_row HBz.out (by have := Hg.out; omega) _, .inr (by simp only [hMz]; exact (HZV.out.step fun x _ hx _ => setRow_other _ _ _ _ (by have := HWS.out; omega)).wide fun x _ hx => (by have h1 := HWS.out; have h2 := Hg.out; omega))⟩
  by_cases hk5 : kd = 5
  · subst hk5
    obtain ⟨xg, hxg⟩ : ∃ z, IntKind.i64.wrap (C + G) = z := ⟨_, rfl⟩
    have hxr : i64r xg := by rw [← hxg]; exact wi_r _
    have HRE : Hid (nxR ⟨k, S, C, N, D, E, s, n⟩ 5 G B X Y T U = opnL ⟨k, S, C, N, D, E, s, n⟩ xg X B) := by show _ = _; unfold nxR; rw [if_neg (by decide), if_neg (by decide), if_neg (by decide), if_neg (by decide), if_pos rfl]; unfold wi; simp only [hxg]
    obtain ⟨Rz, hRz⟩ : ∃ R, opnL ⟨k, S, C, N, D, E, s, n⟩ xg X B = R := ⟨_, rfl⟩
    have kx := ll.opened a m c k S C N D E s n xg X B W (HI.out.on HB.out) hxr hX hB
    rw [hRz] at kx
    have e0 := HLl.out.c0
    have e1 := HLl.out.c1
    have e2 := HLl.out.c2
    have e3 := HLl.out.c3
    have e4 := HLl.out.c4
    have e5 := HLl.out.c5
    have e6 := HLl.out.c6
    have e7 := HLl.out.c7
    have q0 := HNn.out.c0
    have q1 := HNn.out.c1
    have q2 := HNn.out.c2
    have q3 := HNn.out.c3
    have q4 := HNn.out.c4
    have q5 := HNn.out.c5
    go_wp2_with fail
    refine kx.mono ?_
    intro e y hy
    obtain ⟨kz, Sz, Cz, Nz, Dz, Ez, sz, nz⟩ := Rz
    obtain ⟨Mz, hMz⟩ : ∃ M, kz.length = M := ⟨_, rfl⟩
    obtain ⟨az, cz, rfl, vz, gz⟩ := hy.use rfl hMz
    have HRR : Hid (nxR ⟨k, S, C, N, D, E, s, n⟩ 5 G B X Y T U = ⟨kz, Sz, Cz, Nz, Dz, Ez, sz, nz⟩) := HRE.out.trans hRz
    have HXz := hid (HLz.out.kept gz)
    have HZz := hid (HXz.out.row az Mz cz Sz Cz Nz Dz Ez sz nz)
    have HZl : Hid (Lm (y.setRow (gg + 4) #[.slice az Mz cz, .int .i64 Sz, .int .i64 Cz, .int .i64 Nz, .int .u64 Dz, .int .u64 Ez, .int .i64 sz, .int .i64 nz]) gg a m c S C N D E s n) := (HLl.out.kept gz).at (setRow_other _ _ _ _ (by omega))
    have HZr : Hid (Lm (y.setRow (gg + 4) #[.slice az Mz cz, .int .i64 Sz, .int .i64 Cz, .int .i64 Nz, .int .u64 Dz, .int .u64 Ez, .int .i64 sz, .int .i64 nz]) (gg + 2) none 0 0 0 0 0 0 0 0 0) := (HLr.out.kept gz).at (setRow_other _ _ _ _ (by omega))
    have HZV : Hid (Vs (y.setRow (gg + 4) #[.slice az Mz cz, .int .i64 Sz, .int .i64 Cz, .int .i64 Nz, .int .u64 Dz, .int .u64 Ez, .int .i64 sz, .int .i64 nz]) (fun x => W.heap.size ≤ x) az Mz cz kz) := vz.step fun x _ hx _ => setRow_other _ _ _ _ (by have := HWS.out; omega)
    have HBz : Hid (Below w.heap.size w (y.setRow (gg + 4) #[.slice az Mz cz, .int .i64 Sz, .int .i64 Cz, .int .i64 Nz, .int .u64 Dz, .int .u64 Ez, .int .i64 sz, .int .i64 nz])) := bel_row (bel_bel HB.out HB.out.size gz) (by have := Hg.out; omega) _
    obtain ⟨wz, HWz⟩ : ∃ y', Hid (y.setRow (gg + 4) #[.slice az Mz cz, .int .i64 Sz, .int .i64 Cz, .int .i64 Nz, .int .u64 Dz, .int .u64 Ez, .int .i64 sz, .int .i64 nz] = y') := ⟨_, rfl⟩
    rw [HWz.out] at HZz HZl HZr HZV HBz
    clear kx hy vz gz e0 e1 e2 e3 e4 e5 e6 e7 q0 q1 q2 q3 q4 q5
    go_upto_region 21 with (refine wpList_sln rfl rfl _ _ rfl (gg + 4) az Mz cz Sz Cz Nz Dz Ez sz nz rfl rfl (by with_reducible exact HXz.out) ?_)
    rw [HWz.out]
    clear HWz HXz
    by_cases hC : Cz = 0
    · have HR0 : Hid ((nxR ⟨k, S, C, N, D, E, s, n⟩ 5 G B X Y T U).C = 0) := by show _ = _; rw [HRR.out]; exact hC
      have e1 : nxL ⟨k, S, C, N, D, E, s, n⟩ 5 G B X Y T U = ⟨k, S, C, N, D, E, s, n⟩ := by unfold nxL; rw [if_pos HR0.out]
      have e2 : nxG ⟨k, S, C, N, D, E, s, n⟩ 5 G B X Y T U = -1 := by unfold nxG; rw [if_pos HR0.out]
      have e3 : nxA ⟨k, S, C, N, D, E, s, n⟩ 5 G B X Y T U = 0 := by unfold nxA; rw [if_pos HR0.out]
      have hcz : (Cz == 0) = true := by rw [hC]; rfl
      have t0 := HZl.out.c0
      have t1 := HZl.out.c1
      have t2 := HZl.out.c2
      have t3 := HZl.out.c3
      have t4 := HZl.out.c4
      have t5 := HZl.out.c5
      have t6 := HZl.out.c6
      have t7 := HZl.out.c7
      have z2 := HZz.out.c2
      go_wp2_with (refine wpList_sln rfl rfl _ _ rfl (gg + 2) a m c S C N D E s n rfl rfl (by with_reducible exact HZr.out) ?_)
      refine bodyPost_ret (v := .tuple #[.agg #[.slice a m c, .int .i64 S, .int .i64 C, .int .i64 N, .int .u64 D, .int .u64 E, .int .i64 s, .int .i64 n], .int .i64 (-1), .int .u64 0]) ?_ rfl ?_
      · exact results_ln3 rfl _ _ (gg + 2) a m c S C N D E s n _ _ rfl rfl rfl (HZr.out.row a m c S C N D E s n)
      · unfold Nx
        rw [e1, e2, e3]
        exact ⟨a, c, by simp only [hkl], bel_row HBz.out (by have := Hg.out; omega) _, .inl ⟨rfl, rfl, rfl⟩⟩
    · have HR0 : Hid ((nxR ⟨k, S, C, N, D, E, s, n⟩ 5 G B X Y T U).C ≠ 0) := by show _ ≠ _; rw [HRR.out]; exact hC
      have e1 : nxL ⟨k, S, C, N, D, E, s, n⟩ 5 G B X Y T U = ⟨kz, Sz, Cz, Nz, Dz, Ez, sz, nz⟩ := by unfold nxL; rw [if_neg HR0.out, HRR.out]
      have e2 : nxG ⟨k, S, C, N, D, E, s, n⟩ 5 G B X Y T U = -1 := by unfold nxG; rw [if_neg HR0.out]; rw [if_neg (by omega)]
      have e3 : nxA ⟨k, S, C, N, D, E, s, n⟩ 5 G B X Y T U = 0 := by unfold nxA; rw [if_neg HR0.out]; rw [if_neg (by omega)]
      have hcz : (Cz == 0) = false := beq_eq_false_iff_ne.2 hC
      have t0 := HZz.out.c0
      have t1 := HZz.out.c1
      have t2 := HZz.out.c2
      have t3 := HZz.out.c3
      have t4 := HZz.out.c4
      have t5 := HZz.out.c5
      have t6 := HZz.out.c6
      have t7 := HZz.out.c7
      go_wp2_with (refine wpList_sln rfl rfl _ _ rfl (gg + 2) az Mz cz Sz Cz Nz Dz Ez sz nz rfl rfl (by with_reducible exact HZr.out) ?_)
      refine bodyPost_ret (v := .tuple #[.agg #[.slice az Mz cz, .int .i64 Sz, .int .i64 Cz, .int .i64 Nz, .int .u64 Dz, .int .u64 Ez, .int .i64 sz, .int .i64 nz], .int .i64 (-1), .int .u64 0]) ?_ rfl ?_
      · exact results_ln3 rfl _ _ (gg + 2) az Mz cz Sz Cz Nz Dz Ez sz nz _ _ rfl rfl rfl (HZr.out.row az Mz cz Sz Cz Nz Dz Ez sz nz)
      · unfold Nx
        rw [e1, e2, e3]
        exact ⟨az, cz, by simp only [hMz], bel_row HBz.out (by have := Hg.out; omega) _, .inr (by simp only [hMz]; exact (HZV.out.step fun x _ hx _ => setRow_other _ _ _ _ (by have := HWS.out; omega)).wide fun x _ hx => (by have h1 := HWS.out; have h2 := Hg.out; omega))⟩
  by_cases hk6 : kd = 6
  · subst hk6
    have HRE : Hid (nxR ⟨k, S, C, N, D, E, s, n⟩ 6 G B X Y T U = rseL ⟨k, S, C, N, D, E, s, n⟩ (IntKind.u64.wrap (E + X)) B) := by show _ = _; unfold nxR; rw [if_neg (by decide), if_neg (by decide), if_neg (by decide), if_neg (by decide), if_neg (by decide), if_pos rfl]; rfl
    obtain ⟨Rz, hRz⟩ : ∃ R, rseL ⟨k, S, C, N, D, E, s, n⟩ (IntKind.u64.wrap (E + X)) B = R := ⟨_, rfl⟩
    have kx := ll.raise a m c k S C N D E s n (IntKind.u64.wrap (E + X)) B W (HI.out.on HB.out) (by have := IntKind.wrap_u64 (E + X); unfold u64r; omega) hB
    rw [hRz] at kx
    have e0 := HLl.out.c0
    have e1 := HLl.out.c1
    have e2 := HLl.out.c2
    have e3 := HLl.out.c3
    have e4 := HLl.out.c4
    have e5 := HLl.out.c5
    have e6 := HLl.out.c6
    have e7 := HLl.out.c7
    have q0 := HNn.out.c0
    have q1 := HNn.out.c1
    have q2 := HNn.out.c2
    have q3 := HNn.out.c3
    have q4 := HNn.out.c4
    have q5 := HNn.out.c5
    go_wp2_with fail
    refine kx.mono ?_
    intro e y hy
    obtain ⟨kz, Sz, Cz, Nz, Dz, Ez, sz, nz⟩ := Rz
    obtain ⟨Mz, hMz⟩ : ∃ M, kz.length = M := ⟨_, rfl⟩
    obtain ⟨az, cz, rfl, vz, gz⟩ := hy.use rfl hMz
    have HRR : Hid (nxR ⟨k, S, C, N, D, E, s, n⟩ 6 G B X Y T U = ⟨kz, Sz, Cz, Nz, Dz, Ez, sz, nz⟩) := HRE.out.trans hRz
    have HXz := hid (HLz.out.kept gz)
    have HZz := hid (HXz.out.row az Mz cz Sz Cz Nz Dz Ez sz nz)
    have HZl : Hid (Lm (y.setRow (gg + 4) #[.slice az Mz cz, .int .i64 Sz, .int .i64 Cz, .int .i64 Nz, .int .u64 Dz, .int .u64 Ez, .int .i64 sz, .int .i64 nz]) gg a m c S C N D E s n) := (HLl.out.kept gz).at (setRow_other _ _ _ _ (by omega))
    have HZr : Hid (Lm (y.setRow (gg + 4) #[.slice az Mz cz, .int .i64 Sz, .int .i64 Cz, .int .i64 Nz, .int .u64 Dz, .int .u64 Ez, .int .i64 sz, .int .i64 nz]) (gg + 2) none 0 0 0 0 0 0 0 0 0) := (HLr.out.kept gz).at (setRow_other _ _ _ _ (by omega))
    have HZV : Hid (Vs (y.setRow (gg + 4) #[.slice az Mz cz, .int .i64 Sz, .int .i64 Cz, .int .i64 Nz, .int .u64 Dz, .int .u64 Ez, .int .i64 sz, .int .i64 nz]) (fun x => W.heap.size ≤ x) az Mz cz kz) := vz.step fun x _ hx _ => setRow_other _ _ _ _ (by have := HWS.out; omega)
    have HBz : Hid (Below w.heap.size w (y.setRow (gg + 4) #[.slice az Mz cz, .int .i64 Sz, .int .i64 Cz, .int .i64 Nz, .int .u64 Dz, .int .u64 Ez, .int .i64 sz, .int .i64 nz])) := bel_row (bel_bel HB.out HB.out.size gz) (by have := Hg.out; omega) _
    obtain ⟨wz, HWz⟩ : ∃ y', Hid (y.setRow (gg + 4) #[.slice az Mz cz, .int .i64 Sz, .int .i64 Cz, .int .i64 Nz, .int .u64 Dz, .int .u64 Ez, .int .i64 sz, .int .i64 nz] = y') := ⟨_, rfl⟩
    rw [HWz.out] at HZz HZl HZr HZV HBz
    clear kx hy vz gz e0 e1 e2 e3 e4 e5 e6 e7 q0 q1 q2 q3 q4 q5
    go_upto_region 21 with (refine wpList_sln rfl rfl _ _ rfl (gg + 4) az Mz cz Sz Cz Nz Dz Ez sz nz rfl rfl (by with_reducible exact HXz.out) ?_)
    rw [HWz.out]
    clear HWz HXz
    by_cases hC : Cz = 0
    · have HR0 : Hid ((nxR ⟨k, S, C, N, D, E, s, n⟩ 6 G B X Y T U).C = 0) := by show _ = _; rw [HRR.out]; exact hC
      have e1 : nxL ⟨k, S, C, N, D, E, s, n⟩ 6 G B X Y T U = ⟨k, S, C, N, D, E, s, n⟩ := by unfold nxL; rw [if_pos HR0.out]
      have e2 : nxG ⟨k, S, C, N, D, E, s, n⟩ 6 G B X Y T U = -1 := by unfold nxG; rw [if_pos HR0.out]
      have e3 : nxA ⟨k, S, C, N, D, E, s, n⟩ 6 G B X Y T U = 0 := by unfold nxA; rw [if_pos HR0.out]
      have hcz : (Cz == 0) = true := by rw [hC]; rfl
      have t0 := HZl.out.c0
      have t1 := HZl.out.c1
      have t2 := HZl.out.c2
      have t3 := HZl.out.c3
      have t4 := HZl.out.c4
      have t5 := HZl.out.c5
      have t6 := HZl.out.c6
      have t7 := HZl.out.c7
      have z2 := HZz.out.c2
      go_wp2_with (refine wpList_sln rfl rfl _ _ rfl (gg + 2) a m c S C N D E s n rfl rfl (by with_reducible exact HZr.out) ?_)
      refine bodyPost_ret (v := .tuple #[.agg #[.slice a m c, .int .i64 S, .int .i64 C, .int .i64 N, .int .u64 D, .int .u64 E, .int .i64 s, .int .i64 n], .int .i64 (-1), .int .u64 0]) ?_ rfl ?_
      · exact results_ln3 rfl _ _ (gg + 2) a m c S C N D E s n _ _ rfl rfl rfl (HZr.out.row a m c S C N D E s n)
      · unfold Nx
        rw [e1, e2, e3]
        exact ⟨a, c, by simp only [hkl], bel_row HBz.out (by have := Hg.out; omega) _, .inl ⟨rfl, rfl, rfl⟩⟩
    · have HR0 : Hid ((nxR ⟨k, S, C, N, D, E, s, n⟩ 6 G B X Y T U).C ≠ 0) := by show _ ≠ _; rw [HRR.out]; exact hC
      have e1 : nxL ⟨k, S, C, N, D, E, s, n⟩ 6 G B X Y T U = ⟨kz, Sz, Cz, Nz, Dz, Ez, sz, nz⟩ := by unfold nxL; rw [if_neg HR0.out, HRR.out]
      have e2 : nxG ⟨k, S, C, N, D, E, s, n⟩ 6 G B X Y T U = -1 := by unfold nxG; rw [if_neg HR0.out]; rw [if_neg (by omega)]
      have e3 : nxA ⟨k, S, C, N, D, E, s, n⟩ 6 G B X Y T U = 0 := by unfold nxA; rw [if_neg HR0.out]; rw [if_neg (by omega)]
      have hcz : (Cz == 0) = false := beq_eq_false_iff_ne.2 hC
      have t0 := HZz.out.c0
      have t1 := HZz.out.c1
      have t2 := HZz.out.c2
      have t3 := HZz.out.c3
      have t4 := HZz.out.c4
      have t5 := HZz.out.c5
      have t6 := HZz.out.c6
      have t7 := HZz.out.c7
      go_wp2_with (refine wpList_sln rfl rfl _ _ rfl (gg + 2) az Mz cz Sz Cz Nz Dz Ez sz nz rfl rfl (by with_reducible exact HZr.out) ?_)
      refine bodyPost_ret (v := .tuple #[.agg #[.slice az Mz cz, .int .i64 Sz, .int .i64 Cz, .int .i64 Nz, .int .u64 Dz, .int .u64 Ez, .int .i64 sz, .int .i64 nz], .int .i64 (-1), .int .u64 0]) ?_ rfl ?_
      · exact results_ln3 rfl _ _ (gg + 2) az Mz cz Sz Cz Nz Dz Ez sz nz _ _ rfl rfl rfl (HZr.out.row az Mz cz Sz Cz Nz Dz Ez sz nz)
      · unfold Nx
        rw [e1, e2, e3]
        exact ⟨az, cz, by simp only [hMz], bel_row HBz.out (by have := Hg.out; omega) _, .inr (by simp only [hMz]; exact (HZV.out.step fun x _ hx _ => setRow_other _ _ _ _ (by have := HWS.out; omega)).wide fun x _ hx => (by have h1 := HWS.out; have h2 := Hg.out; omega))⟩
  have hb1 : (kd == 1) = false := beq_eq_false_iff_ne.2 hk1
  have hb2 : (kd == 2) = false := beq_eq_false_iff_ne.2 hk2
  have hb3 : (kd == 3) = false := beq_eq_false_iff_ne.2 hk3
  have hb4 : (kd == 4) = false := beq_eq_false_iff_ne.2 hk4
  have hb5 : (kd == 5) = false := beq_eq_false_iff_ne.2 hk5
  have hb6 : (kd == 6) = false := beq_eq_false_iff_ne.2 hk6
  have HR0 : Hid ((nxR ⟨k, S, C, N, D, E, s, n⟩ kd G B X Y T U).C = 0) := by show _ = _; unfold nxR; rw [if_neg hk1, if_neg hk2, if_neg hk3, if_neg hk4, if_neg hk5, if_neg hk6]; rfl
  have e1 : nxL ⟨k, S, C, N, D, E, s, n⟩ kd G B X Y T U = ⟨k, S, C, N, D, E, s, n⟩ := by unfold nxL; rw [if_pos HR0.out]
  have e2 : nxG ⟨k, S, C, N, D, E, s, n⟩ kd G B X Y T U = -1 := by unfold nxG; rw [if_pos HR0.out]
  have e3 : nxA ⟨k, S, C, N, D, E, s, n⟩ kd G B X Y T U = 0 := by unfold nxA; rw [if_pos HR0.out]
  have t0 := HLl.out.c0
  have t1 := HLl.out.c1
  have t2 := HLl.out.c2
  have t3 := HLl.out.c3
  have t4 := HLl.out.c4
  have t5 := HLl.out.c5
  have t6 := HLl.out.c6
  have t7 := HLl.out.c7
  have z2 := HLz.out.c2
  go_wp2_with (refine wpList_sln rfl rfl _ _ rfl (gg + 2) a m c S C N D E s n rfl rfl (by with_reducible exact HLr.out) ?_)
  refine bodyPost_ret (v := .tuple #[.agg #[.slice a m c, .int .i64 S, .int .i64 C, .int .i64 N, .int .u64 D, .int .u64 E, .int .i64 s, .int .i64 n], .int .i64 (-1), .int .u64 0]) ?_ rfl ?_
  · exact results_ln3 rfl _ _ (gg + 2) a m c S C N D E s n _ _ rfl rfl rfl (HLr.out.row a m c S C N D E s n)
  · unfold Nx
    rw [e1, e2, e3]
    exact ⟨a, c, by simp only [hkl], bel_row HB.out (by have := Hg.out; omega) _, .inl ⟨rfl, rfl, rfl⟩⟩
end Go.Proofs.Ytmbopaemnlikkaa
