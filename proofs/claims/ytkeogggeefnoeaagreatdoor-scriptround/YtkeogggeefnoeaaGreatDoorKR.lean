import Derived.Test.YtkeogggeefnoeaaGreatDoorE4
import Derived.Test.YtkeogggeefnoeaaGreatDoorPH
import Derived.Deep.Slices
import Derived.SizedLaws
namespace Go.Proofs.YtkeogggeefnoeaaGreatDoor
set_option linter.unusedSimpArgs false
open Go.RowKit Go.Shelf Go.Maps
set_option linter.unusedVariables false
set_option maxRecDepth 100000

/-! The law's copies: ops, copied. -/
/-- The document's copy of a step. -/
theorem rop_ {V : Nat → Prop} (x : OD) (w : World) (hv : Vo w V x) (hb : OpB x.o) : Calls Tryz.prog 29 #[.agg (odc x).toArray] w fun e w' => ∃ y : OD, e = .returned (.agg (odc y).toArray) ∧ y.o = x.o ∧ Vo w' (fun k => w.heap.size ≤ k) y ∧ Below w.heap.size w w' := by
  obtain ⟨⟨kd, ea, ek, et, ex, lk, d, sec, nano, bl, wi, ch, fl, kq⟩, da, dp, ca, cp, fa, fp, ka, kp⟩ := x
  refine (ropL_ (V := V) kd ea ek et ex lk sec nano bl wi da ca fa ka d.length dp ch.length cp fl.length fp kq.length kp (ic d) ch fl kq w hv.d hb.d hv.c hb.c hb.k hv.f hb.f hv.k hb.b).mono ?_
  rintro e w' ⟨da1, dp1, ca1, cp1, fa1, fp1, ka1, kp1, rfl, hq, hkc, g⟩
  exact ⟨⟨⟨kd, ea, ek, et, ex, lk, d, sec, nano, bl, wi, ch, fl, kq⟩, da1, dp1, ca1, cp1, fa1, fp1, ka1, kp1⟩, rfl, rfl, ⟨hq.d, hq.c, hq.f, hq.k, hkc⟩, g⟩
set_option maxHeartbeats 8000000 in
/-- The law's steps in new memory. -/
theorem scr_ops {V : Nat → Prop} (a : Option Addr) (n c : Nat) (l : List Opp) (w : World) (hl : Ops w V a n l) (hn : n * 176 ≤ 140737488351232) (hb : ∀ x ∈ l, OpB x) :
    Calls Tryz.prog 20 #[.slice a n c] w fun e w' => ∃ a' p', e = .returned (.slice a' n p') ∧ Ops w' (fun x => w.heap.size ≤ x) a' n l ∧ Below w.heap.size w w' := by
  obtain ⟨xs, h1, h2, h3, h4⟩ := hl
  have HXL := hid h1
  have HN := hid h2
  have HL := hid h3
  have HV := hid h4
  have HB : Hid (∀ x ∈ xs, OpB x.o) := fun x hx => hb _ (by rw [← h1]; exact List.mem_map_of_mem hx)
  clear h1 h2 h3 h4 hb
  go_enter Tryz.func20, Tryz.ntmps20
  go_wp2_with fail
  go_loopw [3, 4] (fun v i wr => ∃ (j : Nat) (ds : List OD), j ≤ n ∧ i = .int .i64 j ∧ Hid (Ow w wr v ds) ∧ Hid (ds.map (·.o) = (xs.take j).map (·.o))) (fun _ i _ => n - (intOf i).toNat)
  case atStart => exact ⟨0, [], by omega, rfl, Ow.nil w, rfl⟩
  case round =>
    obtain ⟨j, ds, hj, rfl, HR, HD⟩ := hrel
    by_cases hlt : j < n
    · have hjI : (j : Int) < n := by omega
      have hxl : j < xs.length := by have := HN.out; omega
      obtain ⟨bb, off, rfl, q1⟩ : ∃ b off, a = some ⟨b, off, none⟩ ∧ _ := (HL.out.cells HR.out.bel).resolve_left (by omega)
      have c0 := q1 j hlt 0 _ rfl
      have c1 := q1 j hlt 1 _ rfl
      have c2 := q1 j hlt 2 _ rfl
      have c3 := q1 j hlt 3 _ rfl
      have c4 := q1 j hlt 4 _ rfl
      have c5 := q1 j hlt 5 _ rfl
      have c6 := q1 j hlt 6 _ rfl
      have c7 := q1 j hlt 7 _ rfl
      have c8 := q1 j hlt 8 _ rfl
      have c9 := q1 j hlt 9 _ rfl
      have c10 := q1 j hlt 10 _ rfl
      have c11 := q1 j hlt 11 _ rfl
      have c12 := q1 j hlt 12 _ rfl
      have c13 := q1 j hlt 13 _ rfl
      rw [Nat.add_zero] at c0
      have HT := hid (take_getDE (l := xs) (j := j) od0 hxl)
      have HDL : Hid ((ds.length + 1) * 176 ≤ 140737488355328) := by
        have h1 := congrArg List.length HD.out
        rw [List.length_map, List.length_map, List.length_take] at h1
        show _ ≤ _
        omega
      have hm := mem_getDE (l := xs) (j := j) od0 hxl
      obtain ⟨x, HX⟩ : ∃ x, Hid (xs.getD j od0 = x) := ⟨_, rfl⟩
      have kp := rop_ x wr (((by rw [← HX.out]; exact HV.out _ hm : Vo w V x)).on HR.out.bel) (by rw [← HX.out]; exact HB.out _ hm)
      rw [HX.out] at HT c0 c1 c2 c3 c4 c5 c6 c7 c8 c9 c10 c11 c12 c13
      clear q1 hm
      obtain ⟨⟨kd, ea, ek, et, ex, lk, d, sec, nano, bl, wi, ch, fl, kq⟩, da, dp, ca, cp, fa, fp, ka, kp'⟩ := x
      simp only [odc] at kp c0 c1 c2 c3 c4 c5 c6 c7 c8 c9 c10 c11 c12 c13
      obtain ⟨dn, Hdn⟩ : ∃ z : Nat, Hid (d.length = z) := ⟨_, rfl⟩
      obtain ⟨cn, Hcn⟩ : ∃ z : Nat, Hid (ch.length = z) := ⟨_, rfl⟩
      obtain ⟨fn, Hfn⟩ : ∃ z : Nat, Hid (fl.length = z) := ⟨_, rfl⟩
      obtain ⟨kn, Hkn⟩ : ∃ z : Nat, Hid (kq.length = z) := ⟨_, rfl⟩
      rw [Hdn.out, Hcn.out, Hfn.out, Hkn.out] at kp
      rw [Hdn.out] at c6
      rw [Hcn.out] at c11
      rw [Hfn.out] at c12
      rw [Hkn.out] at c13
      go_wp2_with fail
      clear c0 c1 c2 c3 c4 c5 c6 c7 c8 c9 c10 c11 c12 c13
      refine kp.mono ?_
      rintro e y1 ⟨y, rfl, hy, vy, g1⟩
      have HR1 := hid (HR.out.below g1)
      have HSZ : Hid (w.heap.size ≤ wr.heap.size) := HR.out.bel.size
      have HOW := hid HR.out.own.lt
      have HVY : Hid (Vo y1 (fun x => w.heap.size ≤ x ∧ u3.ownBlock ≠ some x) y) := vy.wide fun x _ hx => ⟨by have := HSZ.out; omega, fun f => by have := (HOW.out x f).2; omega⟩
      have HYO := hid hy
      clear kp HR vy g1 hy
      obtain ⟨⟨zkd, zea, zek, zet, zex, zlk, zd, zsec, znano, zbl, zwi, zch, zfl, zkq⟩, zda, zdp, zca, zcp, zfa, zfp, zka, zkp⟩ := y
      simp only [odc]
      obtain ⟨zdn, Gdn⟩ : ∃ z : Nat, Hid (zd.length = z) := ⟨_, rfl⟩
      obtain ⟨zcn, Gcn⟩ : ∃ z : Nat, Hid (zch.length = z) := ⟨_, rfl⟩
      obtain ⟨zfn, Gfn⟩ : ∃ z : Nat, Hid (zfl.length = z) := ⟨_, rfl⟩
      obtain ⟨zkn, Gkn⟩ : ∃ z : Nat, Hid (zkq.length = z) := ⟨_, rfl⟩
      rw [Gdn.out, Gcn.out, Gfn.out, Gkn.out]
      have HR2 := hid (HR1.out.below ((Below.refl _ y1).alloc (Nat.le_refl _) (.cells #[.int .i64 zkd, .int .i64 zea, .int .i64 zek, .int .i64 zet, .int .i64 zex, .int .i64 zlk, .slice zda zdn zdp, .int .i64 zsec, .int .i64 znano, .int .i64 zbl, .int .i64 zwi, .slice zca zcn zcp, .slice zfa zfn zfp, .slice zka zkn zkp] 53)))
      have HRD := hid (HVY.out.on ((Below.refl _ y1).alloc (Nat.le_refl _) (.cells #[.int .i64 zkd, .int .i64 zea, .int .i64 zek, .int .i64 zet, .int .i64 zex, .int .i64 zlk, .slice zda zdn zdp, .int .i64 zsec, .int .i64 znano, .int .i64 zbl, .int .i64 zwi, .slice zca zcn zcp, .slice zfa zfn zfp, .slice zka zkn zkp] 53)))
      have y2 := Yx.new y1 53 [.int .i64 zkd, .int .i64 zea, .int .i64 zek, .int .i64 zet, .int .i64 zex, .int .i64 zlk, .slice zda zdn zdp, .int .i64 zsec, .int .i64 znano, .int .i64 zbl, .int .i64 zwi, .slice zca zcn zcp, .slice zfa zfn zfp, .slice zka zkn zkp]
      have d0 := y2.cell 0
      have d1 := y2.cell 1
      have d2 := y2.cell 2
      have d3 := y2.cell 3
      have d4 := y2.cell 4
      have d5 := y2.cell 5
      have d6 := y2.cell 6
      have d7 := y2.cell 7
      have d8 := y2.cell 8
      have d9 := y2.cell 9
      have d10 := y2.cell 10
      have d11 := y2.cell 11
      have d12 := y2.cell 12
      have d13 := y2.cell 13
      simp only [List.getElem?_cons_succ, List.getElem?_cons_zero] at d0 d1 d2 d3 d4 d5 d6 d7 d8 d9 d10 d11 d12 d13
      clear HR1 HVY y2
      have HNW : Hid (∀ i u, (odc ⟨⟨zkd, zea, zek, zet, zex, zlk, zd, zsec, znano, zbl, zwi, zch, zfl, zkq⟩, zda, zdp, zca, zcp, zfa, zfp, zka, zkp⟩)[i]? = some u → ((y1.alloc (.cells #[.int .i64 zkd, .int .i64 zea, .int .i64 zek, .int .i64 zet, .int .i64 zex, .int .i64 zlk, .slice zda zdn zdp, .int .i64 zsec, .int .i64 znano, .int .i64 zbl, .int .i64 zwi, .slice zca zcn zcp, .slice zfa zfn zfp, .slice zka zkn zkp] 53)).alloc (.cells #[.int .i64 zkd, .int .i64 zea, .int .i64 zek, .int .i64 zet, .int .i64 zex, .int .i64 zlk, .slice zda zdn zdp, .int .i64 zsec, .int .i64 znano, .int .i64 zbl, .int .i64 zwi, .slice zca zcn zcp, .slice zfa zfn zfp, .slice zka zkn zkp] 53)).cell? ⟨y1.heap.size + 1, i, none⟩ = some u) := fun i u hi => by
        rw [show y1.heap.size + 1 = (y1.alloc (.cells #[.int .i64 zkd, .int .i64 zea, .int .i64 zek, .int .i64 zet, .int .i64 zex, .int .i64 zlk, .slice zda zdn zdp, .int .i64 zsec, .int .i64 znano, .int .i64 zbl, .int .i64 zwi, .slice zca zcn zcp, .slice zfa zfn zfp, .slice zka zkn zkp] 53)).heap.size by simp]
        rw [cell_of_row _ (y1.alloc (.cells #[.int .i64 zkd, .int .i64 zea, .int .i64 zek, .int .i64 zet, .int .i64 zex, .int .i64 zlk, .slice zda zdn zdp, .int .i64 zsec, .int .i64 znano, .int .i64 zbl, .int .i64 zwi, .slice zca zcn zcp, .slice zfa zfn zfp, .slice zka zkn zkp] 53)).heap.size i _ 53 (0, 0) (heap_alloc_new (y1.alloc (.cells #[.int .i64 zkd, .int .i64 zea, .int .i64 zek, .int .i64 zet, .int .i64 zex, .int .i64 zlk, .slice zda zdn zdp, .int .i64 zsec, .int .i64 znano, .int .i64 zbl, .int .i64 zwi, .slice zca zcn zcp, .slice zfa zfn zfp, .slice zka zkn zkp] 53)) _)]
        simp only [odc, Gdn.out, Gcn.out, Gfn.out, Gkn.out] at hi
        simpa using hi
      have HO6 := hid (HR2.out.own.alloc (.cells #[.int .i64 zkd, .int .i64 zea, .int .i64 zek, .int .i64 zet, .int .i64 zex, .int .i64 zlk, .slice zda zdn zdp, .int .i64 zsec, .int .i64 znano, .int .i64 zbl, .int .i64 zwi, .slice zca zcn zcp, .slice zfa zfn zfp, .slice zka zkn zkp] 53))
      have HBZ : Hid (w.heap.size ≤ ((y1.alloc (.cells #[.int .i64 zkd, .int .i64 zea, .int .i64 zek, .int .i64 zet, .int .i64 zex, .int .i64 zlk, .slice zda zdn zdp, .int .i64 zsec, .int .i64 znano, .int .i64 zbl, .int .i64 zwi, .slice zca zcn zcp, .slice zfa zfn zfp, .slice zka zkn zkp] 53)).alloc (.cells #[.int .i64 zkd, .int .i64 zea, .int .i64 zek, .int .i64 zet, .int .i64 zex, .int .i64 zlk, .slice zda zdn zdp, .int .i64 zsec, .int .i64 znano, .int .i64 zbl, .int .i64 zwi, .slice zca zcn zcp, .slice zfa zfn zfp, .slice zka zkn zkp] 53)).heap.size) := by show _ ≤ _; rw [World.size_alloc]; exact Nat.le_succ_of_le HR2.out.bel.size
      go_wp2_with (first | (at_builtin; refine wpList_appOp rfl _ _ rfl w.heap.size u3 ds rfl (by exact HO6.out) (y1.heap.size + 1) ⟨⟨zkd, zea, zek, zet, zex, zlk, zd, zsec, znano, zbl, zwi, zch, zfl, zkq⟩, zda, zdp, zca, zcp, zfa, zfp, zka, zkp⟩ rfl (by exact HNW.out) HDL.out HBZ.out ?_; intro v7 w7 o7 g7 l7; have HO7 := hid (HR2.out.app HRD.out o7 g7 l7); clear o7 g7 l7 HNW) | fail)
      go_roundw
      case rel => exact ⟨j + 1, ds ++ [⟨⟨zkd, zea, zek, zet, zex, zlk, zd, zsec, znano, zbl, zwi, zch, zfl, zkq⟩, zda, zdp, zca, zcp, zfa, zfp, zka, zkp⟩], by omega, by go_num, HO7, by show _ = _; rw [HT.out, List.map_append, List.map_append, HD.out]; exact congrArg (_ ++ [·]) HYO.out⟩
      case measure => simp [intOf]; omega
    · have hjI : ¬ (j : Int) < n := by omega
      obtain rfl : j = n := by omega
      rw [List.take_of_length_le (by have := HN.out; omega)] at HD
      go_wp2_with fail
      go_ret
      have ho := HR.out.own
      have hln : ds.length = j := by have h1 := congrArg List.length HD.out; rw [List.length_map, List.length_map] at h1; have := HN.out; omega
      rw [hln] at ho
      obtain ⟨a', p', rfl, h1, _⟩ := own_slice ho
      refine ⟨a', ⟨p', rfl⟩, ?_, HR.out.bel⟩
      rw [← HXL.out, ← HD.out]
      exact ops_own ho hln (Nat.le_refl _) HR.out.sv (fun k hk => hk.1)
theorem sizeScrE : (Tryz.prog.info? 24).map (·.size) = some 2 := by kernel_rfl
theorem below_drew' {w : World} {B : Nat} (h : B ≤ w.heap.size) : Below B w w.drew := ⟨rfl, rfl, rfl, Nat.le_refl _, fun _ _ => rfl⟩
theorem below_le {w w' : World} {B C : Nat} (h : Below C w w') (hB : B ≤ C) : Below B w w' := ⟨h.os, h.tape, h.output, h.size, fun k hk => h.block k (by omega)⟩
set_option maxHeartbeats 4000000 in
/-- The law's copy of a script. -/
theorem scr_copied {V : Nat → Prop} (sec : Int) (a : Option Addr) (n c : Nat) (l : List Opp) (w : World) (hl : Ops w V a n l) (hn : n * 176 ≤ 140737488351232) (hb : ∀ x ∈ l, OpB x) :
    Calls Tryz.prog 9 #[.agg #[.int .i64 sec, .slice a n c]] w fun e w' => ∃ a' p', e = .returned (.agg #[.int .i64 sec, .slice a' n p']) ∧ Ops w' (fun x => w.heap.size ≤ x) a' n l ∧ Below w.heap.size w w' := by
  have BB : Below w.heap.size w ((w.alloc (.cells #[.int .i64 sec, .slice a n c] 24)).alloc (.cells #[.int .i64 0, .slice none 0 0] 24)) := ((Below.refl _ _).alloc (Nat.le_refl _) _).alloc (by simp) _
  have q0 : Yx ((w.alloc (.cells #[.int .i64 sec, .slice a n c] 24)).alloc (.cells #[.int .i64 0, .slice none 0 0] 24)) w.heap.size 24 [.int .i64 sec, .slice a n c] := (Yx.new w 24 [.int .i64 sec, .slice a n c]).on ((Below.refl _ _).alloc (Nat.le_refl _) _)
  have q1 := Yx.new (w.alloc (.cells #[.int .i64 sec, .slice a n c] 24)) 24 [.int .i64 0, .slice none 0 0]
  rw [World.size_alloc] at q1
  have hsz : ((w.alloc (.cells #[.int .i64 sec, .slice a n c] 24)).alloc (.cells #[.int .i64 0, .slice none 0 0] 24)).heap.size = w.heap.size + 1 + 1 := by simp
  go_enter Tryz.func9, Tryz.ntmps9
  go_upto_region 1 with fail
  generalize hw1 : (w.alloc (.cells #[.int .i64 sec, .slice a n c] 24)).alloc (.cells #[.int .i64 0, .slice none 0 0] 24) = x0 at *
  clear hw1
  obtain ⟨B1, HB1'⟩ : ∃ z, Hid (w.heap.size + 1 = z) := ⟨_, rfl⟩
  obtain ⟨B0, HB0'⟩ : ∃ z, Hid (w.heap.size = z) := ⟨_, rfl⟩
  have HB : Hid (w.heap.size ≤ B0 ∧ B0 < B1 ∧ B1 < x0.heap.size ∧ w.heap.size ≤ B1) := by have := HB1'.out; have := HB0'.out; show _ ∧ _; omega
  have kp := scr_ops a n c l x0.drew ((hl.on BB).on (below_drew x0)) hn hb
  have HX := hid BB
  rw [HB1'.out] at q1 ⊢
  rw [HB0'.out] at q0 ⊢
  have s0 : x0.drew.cell? ⟨B0, 0, none⟩ = some (.int .i64 sec) := (Yx.cell (w := x0.drew) q0 0)
  have s1 : x0.drew.cell? ⟨B0, 1, none⟩ = some (.slice a n c) := (Yx.cell (w := x0.drew) q0 1)
  have HQ0 : Hid (Yx x0.drew B0 24 [.int .i64 sec, .slice a n c]) := q0
  have HQ1 : Hid (Yx x0.drew B1 24 [.int .i64 0, .slice none 0 0]) := q1
  clear q0 q1 hl hb BB hsz
  go_region_held (fun wx => wx.cell? ⟨B0, 0, none⟩ = some (.int .i64 sec) ∧ wx.cell? ⟨B0, 1, none⟩ = some (.slice a n c)) (first | go_keep | exact ⟨s0, s1⟩ | exact ⟨t0, t1⟩ | exact ⟨HKK.out.cell 0, HKK.out.cell 1⟩) (first
    | (go_at_call 20; refine kp.mono ?_; rintro e w3 ⟨a', p', rfl, ho, g3⟩; have r0 := HQ0.out.on g3; have r1 := HQ1.out.on g3; have t0 := r0.cell 0; have t1 := r0.cell 1; have u0 := r1.cell 0; have u1 := r1.cell 1; have zf0 := r1.fz 0; have zf1 := r1.fz 1; have HR1 := hid r1; have HKK := hid ((r0.other (g' := B1) (i := 0) (v := .int .i64 sec) (by have := HB.out; omega)).other (g' := B1) (i := 1) (v := .slice a' n p') (by have := HB.out; omega)); have HG3 := hid g3; have HO := hid ho; simp only [List.getElem?_cons_succ, List.getElem?_cons_zero] at t0 t1 u0 u1; clear r0 r1 g3 ho))
  have hb := HB.out
  have hr1 : Yx ((w3.setCell ⟨B1, 0, none⟩ (.int .i64 sec)).setCell ⟨B1, 1, none⟩ (.slice a' n p')) B1 24 [.int .i64 sec, .slice a' n p'] := (HR1.out.set 0 _).set 1 _
  have hx : Below w.heap.size w ((w3.setCell ⟨B1, 0, none⟩ (.int .i64 sec)).setCell ⟨B1, 1, none⟩ (.slice a' n p')) := (((HX.out.trans (below_drew' HX.out.size)).trans (below_le HG3.out HX.out.size)).setCell (p := ⟨B1, 0, none⟩) (by show w.heap.size ≤ B1; omega) _).setCell (p := ⟨B1, 1, none⟩) (by show w.heap.size ≤ B1; omega) _
  have ho : Ops ((w3.setCell ⟨B1, 0, none⟩ (.int .i64 sec)).setCell ⟨B1, 1, none⟩ (.slice a' n p')) (fun x => w.heap.size ≤ x) a' n l := (HO.out.step (fun k hk hV => (Below.heap_setCell _ _ _ _ (by show k ≠ B1; have hV : x0.heap.size ≤ k := hV; omega)).trans (Below.heap_setCell _ _ _ _ (by show k ≠ B1; have hV : x0.heap.size ≤ k := hV; omega))) (by simp [World.setCell])).wide fun k _ hV => by have hV : x0.heap.size ≤ k := hV; omega
  clear t0 t1 u0 u1 zf0 zf1 s0 s1 kp
  go_wp2_with fail
  refine bodyPost_ret (v := .agg #[.int .i64 sec, .slice a' n p']) ?_ rfl ⟨a', p', rfl, ho, hx⟩
  exact results_cell_row rfl _ _ B1 _ _ _ _ rfl hr1 Tryz.underlying24 rfl sizeScrE
end Go.Proofs.YtkeogggeefnoeaaGreatDoor
namespace Go.Proofs.YtkeogggeefnoeaaGreatDoor
set_option linter.unusedSimpArgs false
set_option maxRecDepth 100000
open Go.ChangeShapes Go.WideShapes Go.ChangeAt Go.RowKit Go.Deep
set_option linter.unusedVariables false

/-! What came in: scripts, lists of changes. -/
theorem sized_at {H : Type} {P : Program} {ts : List TypeId} {ds : List (DataW H)} {j : Nat} {t : TypeId} {d : DataW H} (h : (DataW.weightsEach P ts ds).all (· ≤ reachBytes) = true) (ht : ts[j]? = some t) (hd : ds[j]? = some d) : ∀ n ∈ d.weights P t, n ≤ reachBytes := fun n hn => by
  have := List.all_eq_true.1 h _ (DataW.weights_mem_each ht hd n hn)
  simpa using this
theorem reach_is : reachBytes = 140737488351232 := by decide
theorem choose_d {α : Type} (d : α) {n : Nat} {p : Nat → α → Prop} (h : ∀ i, i < n → ∃ x, p i x) : ∃ f : Nat → α, ∀ i, i < n → p i (f i) := by
  haveI : Inhabited α := ⟨d⟩
  exact choose_lt h
theorem mem_weightsAllK {H : Type} {P : Program} {e : TypeId} {d : DataW H} {m : Nat} (hm : m ∈ d.weights P e) : ∀ {l : List (DataW H)}, d ∈ l → m ∈ DataW.weightsAll P e l
  | x :: l, h => by
    rw [DataW.weightsAll]
    rcases List.mem_cons.1 h with rfl | h
    · exact List.mem_append_left _ hm
    · exact List.mem_append_right _ (mem_weightsAllK hm h)
section
variable {H : Type} {enc : TypeId × Value → H} {W : World} {b0 : Nat} {held : Bool}
theorem open_lst {α : Type} (d0 : α) {e t : TypeId} {s : Nat} (hu : Tryz.prog.underlying t = some (.slice e)) (hce : Tryz.prog.cellsOf e = s) (hs0 : 0 < s) {Q : List Value → α → Prop}
    (el : ∀ {fuel : Nat} {cs : List Value} {x : DataW H × List MemPlace}, DataW.trod enc Tryz.prog W b0 (fun _ => true) held fuel e cs = some x → (∀ n ∈ x.1.weights Tryz.prog e, n ≤ reachBytes) → ∃ y, Q cs y)
    {fuel : Nat} {cs : List Value} {x : DataW H × List MemPlace} (h : DataW.trod enc Tryz.prog W b0 (fun _ => true) held fuel t cs = some x) (hw : ∀ n ∈ x.1.weights Tryz.prog t, n ≤ reachBytes) :
    ∃ (a : Option Addr) (n c : Nat) (f : Nat → α) (g : Nat → List Value), cs = [.slice a n c] ∧ n ≤ c ∧ c ≤ maxLen ∧ (a = none → c = 0) ∧ n * Tryz.prog.bytesOf e ≤ 140737488351232 ∧ (n = 0 ∨ ∃ b off, a = some ⟨b, off, none⟩ ∧ b < W.heap.size ∧ ∀ i, i < n → Q (g i) (f i) ∧ ∀ j u, (g i)[j]? = some u → W.cell? ⟨b, off + i * s + j, none⟩ = some u) := by
  rcases open_slice hu h with ⟨rfl, _⟩ | ⟨x, n, c, m, nn, D, Pl, rfl, _, hl, hm, hme, hx, hel⟩
  · exact ⟨none, 0, 0, fun _ => d0, fun _ => [], rfl, Nat.le_refl _, by unfold maxLen; omega, fun _ => rfl, by omega, .inl rfl⟩
  · have hnm : n ≤ m := by rw [hme]; split <;> omega
    subst hx
    have key : ∀ i, i < n → ∃ y : List Value × α, Q y.1 y.2 ∧ y.1.length = s ∧ ∀ j u, y.1[j]? = some u → W.cell? ((x.add (i * s)).add j) = some u := by
      intro i hi
      obtain ⟨cs', h1, h2⟩ := hel i (by omega)
      rw [hce] at h1
      obtain ⟨_, hlen, hc⟩ := World.cells?_some h1
      obtain ⟨y, hy⟩ := el h2 (fun k hk => hw k (by
        simp only [DataW.weights, hu]
        refine List.mem_cons_of_mem _ (List.mem_append_left _ (mem_weightsAllK hk ?_))
        exact List.mem_map.2 ⟨i, List.mem_range.2 hi, rfl⟩))
      refine ⟨(cs', y), hy, hlen, fun j u hj => ?_⟩
      have hj' : j < cs'.length := (List.getElem?_eq_some_iff.1 hj).1
      rw [← hj]
      exact hc j (by omega)
    obtain ⟨f, hf⟩ := choose_d (([] : List Value), d0) key
    have hs := hw (((List.range n).map D).length * Tryz.prog.bytesOf e + ((List.range (m - n)).map fun j => D (n + j)).length * Tryz.prog.bytesOf e) (by
      simp only [DataW.weights, hu, Nat.add_mul]
      exact List.mem_cons_self)
    rw [reach_is, List.length_map, List.length_range] at hs
    refine ⟨some x, n, c, fun i => (f i).2, fun i => (f i).1, rfl, hl, hm, (fun e => by cases e), by omega, ?_⟩
    by_cases h0 : n = 0
    · exact .inl h0
    obtain ⟨b, off, spot⟩ := x
    obtain ⟨_, hl0, hc0⟩ := hf 0 (by omega)
    have hc00 := hc0 0 _ (List.getElem?_eq_getElem (by omega))
    have hspot : spot = none := by simpa [Addr.add] using World.cell?_spot hc00
    subst hspot
    refine .inr ⟨b, off, rfl, by simpa [Addr.add_lit] using World.block_lt_of_cell? W _ hc00, fun i hi => ?_⟩
    obtain ⟨q1, q2, q3⟩ := hf i hi
    refine ⟨q1, fun j u hj => ?_⟩
    have := q3 j u hj
    simpa only [Addr.add_lit] using this
/-- The blocks that are there. -/
def Th (W : World) : Nat → Prop := fun x => x < W.heap.size
theorem ls_of {α : Type} {a : Option Addr} {n s : Nat} {f : Nat → α} {g : Nat → List Value} {Q : List Value → α → Prop} (h : n = 0 ∨ ∃ b off, a = some ⟨b, off, none⟩ ∧ b < W.heap.size ∧ ∀ i, i < n → Q (g i) (f i) ∧ ∀ j u, (g i)[j]? = some u → W.cell? ⟨b, off + i * s + j, none⟩ = some u) (k : Nat → List Value) (hk : ∀ i, i < n → Q (g i) (f i) → k i = g i) : Ls W (Th W) a n s k := by
  rcases h with h0 | ⟨b, off, rfl, hb, hc⟩
  · exact .inl h0
  · refine .inr ⟨b, off, rfl, hb, hb, fun i hi j u hu => ?_⟩
    obtain ⟨q1, q2⟩ := hc i hi
    rw [hk i hi q1] at hu
    exact q2 j u hu
theorem all_of {α : Type} {n s : Nat} {a : Option Addr} {f : Nat → α} {g : Nat → List Value} {Q : List Value → α → Prop} (h : n = 0 ∨ ∃ b off, a = some ⟨b, off, none⟩ ∧ b < W.heap.size ∧ ∀ i, i < n → Q (g i) (f i) ∧ ∀ j u, (g i)[j]? = some u → W.cell? ⟨b, off + i * s + j, none⟩ = some u) {x : α} (hx : x ∈ (List.range n).map f) : ∃ cs, Q cs x := by
  obtain ⟨i, hi, rfl⟩ := List.mem_map.1 hx
  have hi := List.mem_range.1 hi
  rcases h with h0 | ⟨b, off, _, _, hc⟩
  · omega
  · exact ⟨_, (hc i hi).1⟩
theorem getD_rm {α : Type} {n i : Nat} (f : Nat → α) (d : α) (hi : i < n) : ((List.range n).map f).getD i d = f i := by simp [List.getD, hi]
theorem cellsByK : Tryz.prog.cellsOf 40 = 1 := by kernel_rfl
theorem cells3K : Tryz.prog.cellsOf 3 = 1 := by kernel_rfl
theorem cellsUK : Tryz.prog.cellsOf 64 = 1 := by kernel_rfl
theorem inU_ofK {n : Int} (h : (Lit.int .u64 n).wf = true) : InU n := by
  have := bounds_u64 h
  unfold InU
  omega
theorem inI_ofK {n : Int} (h : (Lit.int .i64 n).wf = true) : InI n := bounds_i64 h
/-- Bytes that came in. -/
theorem open_byK {fuel : Nat} {cs : List Value} {x : DataW H × List MemPlace} (h : DataW.trod enc Tryz.prog W b0 (fun _ => true) held fuel 40 cs = some x) (hw : ∀ n ∈ x.1.weights Tryz.prog 40, n ≤ reachBytes) :
    ∃ a c l, cs = [.slice a l.length c] ∧ Vs W (Th W) a l.length c (ic l) ∧ (∀ x ∈ l, x < 256) ∧ l.length ≤ 140737488351232 := by
  rcases open_ints Tryz.underlying40 Tryz.underlying5 (by kernel_rfl) h with ⟨rfl, _⟩ | ⟨y, l, c, zs, rfl, _, hl, hm, hz, hdat, hcell, hwz⟩
  · exact ⟨none, 0, [], rfl, vs_none _ _, by simp, by simp⟩
  · have hz' : zs.length = c := by simpa using hz
    have hlz : (zs.take l).length = l := by rw [List.length_take]; omega
    have hb : ∀ z ∈ zs.take l, 0 ≤ z ∧ z ≤ 255 := fun z hq => bounds_u8 (hwz z (List.mem_of_mem_take hq))
    have hic : ic ((zs.take l).map Int.toNat) = zs.take l := by
      unfold ic
      rw [List.map_map]
      conv => rhs; rw [← List.map_id (zs.take l)]
      apply List.map_congr_left
      intro z hq
      have := hb z hq
      simp only [Function.comp, id]
      omega
    have hrow : IsRow .u8 W (some y) l c zs := .inr ⟨_, rfl, hl, hm, hz', hcell, hwz⟩
    have hbs := hrow.bs
    refine ⟨some y, c, (zs.take l).map Int.toNat, by rw [List.length_map, hlz], ?_, fun x hx => ?_, ?_⟩
    · rw [List.length_map, hlz, hic]
      exact ⟨hbs, hl, hm, fun e => (by cases e), fun ad e hn => (Bs.at_block hbs e hn).1⟩
    · obtain ⟨z, hq, rfl⟩ := List.mem_map.1 hx
      have := hb z hq
      omega
    · rw [List.length_map, hlz]
      subst hdat
      have hs := hw (((lits (H := H) .u8 (zs.take l)).length + (lits (H := H) .u8 (zs.drop l)).length) * Tryz.prog.bytesOf 5) (by simp only [DataW.weights, Tryz.underlying40]; exact List.mem_cons_self)
      rw [show Tryz.prog.bytesOf 5 = 1 by kernel_rfl, Nat.mul_one, reach_is] at hs
      simp only [lits, List.length_map, hlz] at hs
      omega
theorem underAdK : ∃ f0 f1 f2, Tryz.prog.underlying 66 = some (.struct #[f0, f1, f2]) ∧ (f0.type = 3 ∧ f1.type = 64 ∧ f2.type = 64) ∧ (f0.offset = 0 ∧ f1.offset = 1 ∧ f2.offset = 2) := ⟨_, _, _, Tryz.underlying66, ⟨rfl, rfl, rfl⟩, ⟨rfl, rfl, rfl⟩⟩
theorem cellsAdK : Tryz.prog.cellsOf 66 = 3 := by kernel_rfl
theorem openAdK {fuel : Nat} {cs : List Value} {x : DataW H × List MemPlace} (h : DataW.trod enc Tryz.prog W b0 (fun _ => true) held fuel 66 cs = some x) :
    ∃ F H L, InI F ∧ InU H ∧ InU L ∧ cs = [.int .i64 F, .int .u64 H, .int .u64 L] := by
  obtain ⟨f0, f1, f2, hu, ⟨t0, t1, t2⟩, o0, o1, o2⟩ := underAdK
  obtain ⟨xs, nn, _, e, hl, hlen, hff⟩ := DataW.trod_struct hu h
  subst e
  rw [cellsAdK] at hl
  match xs, hlen with
  | [y0, y1, y2], _ =>
    have h0 := hff 0 f0 rfl
    rw [t0, o0, cells3K] at h0
    have h1 := hff 1 f1 rfl
    rw [t1, o1, cellsUK] at h1
    have h2 := hff 2 f2 rfl
    rw [t2, o2, cellsUK] at h2
    obtain ⟨z0, e0, _, w0⟩ := DataW.trod_int Tryz.underlying3 (h0.trans rfl)
    obtain ⟨z1, e1, _, w1⟩ := DataW.trod_int Tryz.underlying64 (h1.trans rfl)
    obtain ⟨z2, e2, _, w2⟩ := DataW.trod_int Tryz.underlying64 (h2.trans rfl)
    refine ⟨z0, z1, z2, inI_ofK w0, inU_ofK w1, inU_ofK w2, ?_⟩
    match cs, hl with
    | [c0, c1, c2], _ =>
      simp at e0 e1 e2
      rw [e0, e1, e2]
theorem underPxK : ∃ f0 f1, Tryz.prog.underlying 68 = some (.struct #[f0, f1]) ∧ (f0.type = 66 ∧ f1.type = 3) ∧ (f0.offset = 0 ∧ f1.offset = 3) := ⟨_, _, Tryz.underlying68, ⟨rfl, rfl⟩, ⟨rfl, rfl⟩⟩
theorem cellsPxK : Tryz.prog.cellsOf 68 = 4 := by kernel_rfl
theorem openPxK {fuel : Nat} {cs : List Value} {x : DataW H × List MemPlace} (h : DataW.trod enc Tryz.prog W b0 (fun _ => true) held fuel 68 cs = some x) :
    ∃ F H L B, (InI F ∧ InU H ∧ InU L ∧ InI B) ∧ cs = [.int .i64 F, .int .u64 H, .int .u64 L, .int .i64 B] := by
  obtain ⟨f0, f1, hu, ⟨t0, t1⟩, o0, o1⟩ := underPxK
  obtain ⟨xs, nn, _, e, hl, hlen, hff⟩ := DataW.trod_struct hu h
  subst e
  rw [cellsPxK] at hl
  match xs, hlen with
  | [y0, y1], _ =>
    have h0 := hff 0 f0 rfl
    rw [t0, o0, cellsAdK] at h0
    have h1 := hff 1 f1 rfl
    rw [t1, o1, cells3K] at h1
    obtain ⟨F, H', L, a1, a2, a3, e0⟩ := openAdK (h0.trans rfl)
    obtain ⟨z1, e1, _, w1⟩ := DataW.trod_int Tryz.underlying3 (h1.trans rfl)
    refine ⟨F, H', L, z1, ⟨a1, a2, a3, inI_ofK w1⟩, ?_⟩
    match cs, hl with
    | [c0, c1, c2, c3], _ =>
      simp at e0 e1
      rw [e0.1, e0.2.1, e0.2.2, e1]
theorem underStK : ∃ f0 f1, Tryz.prog.underlying 46 = some (.struct #[f0, f1]) ∧ (f0.type = 3 ∧ f1.type = 3) ∧ (f0.offset = 0 ∧ f1.offset = 1) := ⟨_, _, Tryz.underlying46, ⟨rfl, rfl⟩, ⟨rfl, rfl⟩⟩
theorem cellsStK : Tryz.prog.cellsOf 46 = 2 := by kernel_rfl
theorem openStK {fuel : Nat} {cs : List Value} {x : DataW H × List MemPlace} (h : DataW.trod enc Tryz.prog W b0 (fun _ => true) held fuel 46 cs = some x) :
    ∃ z0 z1, (InI z0 ∧ InI z1) ∧ cs = [.int .i64 z0, .int .i64 z1] := by
  obtain ⟨f0, f1, hu, ⟨t0, t1⟩, o0, o1⟩ := underStK
  obtain ⟨xs, nn, _, e, hl, hlen, hff⟩ := DataW.trod_struct hu h
  subst e
  rw [cellsStK] at hl
  match xs, hlen with
  | [y0, y1], _ =>
    have h0 := hff 0 f0 rfl
    rw [t0, o0, cells3K] at h0
    have h1 := hff 1 f1 rfl
    rw [t1, o1, cells3K] at h1
    obtain ⟨z0, e0, _, w0⟩ := DataW.trod_int Tryz.underlying3 (h0.trans rfl)
    obtain ⟨z1, e1, _, w1⟩ := DataW.trod_int Tryz.underlying3 (h1.trans rfl)
    refine ⟨z0, z1, ⟨inI_ofK w0, inI_ofK w1⟩, ?_⟩
    match cs, hl with
    | [c0, c1], _ =>
      simp at e0 e1
      rw [e0, e1]
theorem underPmK : ∃ f0 f1, Tryz.prog.underlying 48 = some (.struct #[f0, f1]) ∧ (f0.type = 3 ∧ f1.type = 3) ∧ (f0.offset = 0 ∧ f1.offset = 1) := ⟨_, _, Tryz.underlying48, ⟨rfl, rfl⟩, ⟨rfl, rfl⟩⟩
theorem cellsPmK : Tryz.prog.cellsOf 48 = 2 := by kernel_rfl
theorem openPmK {fuel : Nat} {cs : List Value} {x : DataW H × List MemPlace} (h : DataW.trod enc Tryz.prog W b0 (fun _ => true) held fuel 48 cs = some x) :
    ∃ z0 z1, (InI z0 ∧ InI z1) ∧ cs = [.int .i64 z0, .int .i64 z1] := by
  obtain ⟨f0, f1, hu, ⟨t0, t1⟩, o0, o1⟩ := underPmK
  obtain ⟨xs, nn, _, e, hl, hlen, hff⟩ := DataW.trod_struct hu h
  subst e
  rw [cellsPmK] at hl
  match xs, hlen with
  | [y0, y1], _ =>
    have h0 := hff 0 f0 rfl
    rw [t0, o0, cells3K] at h0
    have h1 := hff 1 f1 rfl
    rw [t1, o1, cells3K] at h1
    obtain ⟨z0, e0, _, w0⟩ := DataW.trod_int Tryz.underlying3 (h0.trans rfl)
    obtain ⟨z1, e1, _, w1⟩ := DataW.trod_int Tryz.underlying3 (h1.trans rfl)
    refine ⟨z0, z1, ⟨inI_ofK w0, inI_ofK w1⟩, ?_⟩
    match cs, hl with
    | [c0, c1], _ =>
      simp at e0 e1
      rw [e0, e1]
theorem underFtK : ∃ f0 f1, Tryz.prog.underlying 72 = some (.struct #[f0, f1]) ∧ (f0.type = 3 ∧ f1.type = 3) ∧ (f0.offset = 0 ∧ f1.offset = 1) := ⟨_, _, Tryz.underlying72, ⟨rfl, rfl⟩, ⟨rfl, rfl⟩⟩
theorem cellsFtK : Tryz.prog.cellsOf 72 = 2 := by kernel_rfl
theorem openFtK {fuel : Nat} {cs : List Value} {x : DataW H × List MemPlace} (h : DataW.trod enc Tryz.prog W b0 (fun _ => true) held fuel 72 cs = some x) :
    ∃ z0 z1, (InI z0 ∧ InI z1) ∧ cs = [.int .i64 z0, .int .i64 z1] := by
  obtain ⟨f0, f1, hu, ⟨t0, t1⟩, o0, o1⟩ := underFtK
  obtain ⟨xs, nn, _, e, hl, hlen, hff⟩ := DataW.trod_struct hu h
  subst e
  rw [cellsFtK] at hl
  match xs, hlen with
  | [y0, y1], _ =>
    have h0 := hff 0 f0 rfl
    rw [t0, o0, cells3K] at h0
    have h1 := hff 1 f1 rfl
    rw [t1, o1, cells3K] at h1
    obtain ⟨z0, e0, _, w0⟩ := DataW.trod_int Tryz.underlying3 (h0.trans rfl)
    obtain ⟨z1, e1, _, w1⟩ := DataW.trod_int Tryz.underlying3 (h1.trans rfl)
    refine ⟨z0, z1, ⟨inI_ofK w0, inI_ofK w1⟩, ?_⟩
    match cs, hl with
    | [c0, c1], _ =>
      simp at e0 e1
      rw [e0, e1]
/-- A change that came in. -/
structure ChI (W : World) (x : CD) : Prop where
  v : Vc W (Th W) x
  n : InC x.c
  b : ∀ z ∈ x.c.key, z < 256
  k : x.c.key.length ≤ 140737488351232
theorem underChK : ∃ f0 f1 f2 f3 f4, Tryz.prog.underlying 70 = some (.struct #[f0, f1, f2, f3, f4]) ∧ (f0.type = 3 ∧ f1.type = 3 ∧ f2.type = 3 ∧ f3.type = 40 ∧ f4.type = 68) ∧ (f0.offset = 0 ∧ f1.offset = 1 ∧ f2.offset = 2 ∧ f3.offset = 3 ∧ f4.offset = 4) := ⟨_, _, _, _, _, Tryz.underlying70, ⟨rfl, rfl, rfl, rfl, rfl⟩, ⟨rfl, rfl, rfl, rfl, rfl⟩⟩
theorem cellsChK : Tryz.prog.cellsOf 70 = 8 := by kernel_rfl
theorem openChK {fuel : Nat} {cs : List Value} {x : DataW H × List MemPlace} (h : DataW.trod enc Tryz.prog W b0 (fun _ => true) held fuel 70 cs = some x) (hw : ∀ n ∈ x.1.weights Tryz.prog 70, n ≤ reachBytes) :
    ∃ y : CD, cs = cdc y ∧ ChI W y := by
  obtain ⟨f0, f1, f2, f3, f4, hu, ⟨t0, t1, t2, t3, t4⟩, o0, o1, o2, o3, o4⟩ := underChK
  obtain ⟨xs, nn, _, e, hl, hlen, hff⟩ := DataW.trod_struct hu h
  subst e
  rw [cellsChK] at hl
  match xs, hlen with
  | [y0, y1, y2, y3, y4], _ =>
    have h0 := hff 0 f0 rfl
    rw [t0, o0, cells3K] at h0
    have h1 := hff 1 f1 rfl
    rw [t1, o1, cells3K] at h1
    have h2 := hff 2 f2 rfl
    rw [t2, o2, cells3K] at h2
    have h3 := hff 3 f3 rfl
    rw [t3, o3, cellsByK] at h3
    have h4 := hff 4 f4 rfl
    rw [t4, o4, cellsPxK] at h4
    obtain ⟨z0, e0, _, w0⟩ := DataW.trod_int Tryz.underlying3 (h0.trans rfl)
    obtain ⟨z1, e1, _, w1⟩ := DataW.trod_int Tryz.underlying3 (h1.trans rfl)
    obtain ⟨z2, e2, _, w2⟩ := DataW.trod_int Tryz.underlying3 (h2.trans rfl)
    obtain ⟨ka, kc, kl, e3, vk, kb, kn⟩ := open_byK (h3.trans rfl) (fun n hn => hw n (by
      simp only [DataW.weights, hu]
      simp [DataW.weightsEach, t0, t1, t2, t3, t4, hn]))
    obtain ⟨F, H', L, B, ⟨q1, q2, q3, q4⟩, e4⟩ := openPxK (h4.trans rfl)
    refine ⟨⟨⟨z0, z1, z2, kl, F, H', L, B⟩, ka, kc⟩, ?_, vk, ⟨inI_ofK w0, inI_ofK w1, inI_ofK w2, q1, q2, q3, q4⟩, kb, kn⟩
    match cs, hl with
    | [c0, c1, c2, c3, c4, c5, c6, c7], _ =>
      simp at e0 e1 e2 e3 e4
      unfold cdc
      rw [e0, e1, e2, e3, e4.1, e4.2.1, e4.2.2.1, e4.2.2.2]
theorem cellsBlK : Tryz.prog.cellsOf 4 = 1 := by kernel_rfl
theorem cellsChsK : Tryz.prog.cellsOf 49 = 1 := by kernel_rfl
theorem cellsFtsK : Tryz.prog.cellsOf 50 = 1 := by kernel_rfl
theorem cellsBlsK : Tryz.prog.cellsOf 51 = 1 := by kernel_rfl
theorem cellsOpsK : Tryz.prog.cellsOf 22 = 1 := by kernel_rfl
/-- A list of changes that came in. -/
structure IsChs (W : World) (a : Option Addr) (n : Nat) (l : List Chg) : Prop where
  v : Cs W (Th W) a n l
  n : n * 80 ≤ 140737488351232
  i : ∀ x ∈ l, InC x ∧ (∀ z ∈ x.key, z < 256) ∧ x.key.length ≤ 140737488351232
theorem IsChs.len {a : Option Addr} {n : Nat} {l : List Chg} (h : IsChs W a n l) : l.length = n := by
  obtain ⟨cs, rfl, h2, _⟩ := h.v
  rw [List.length_map]
  exact h2
def QC (W : World) (cs : List Value) (y : CD) : Prop := cs = cdc y ∧ ChI W y
def QF (cs : List Value) (y : Int × Int) : Prop := cs = [.int .i64 y.1, .int .i64 y.2] ∧ InI y.1 ∧ InI y.2
def QB (cs : List Value) (y : Bool) : Prop := cs = [.bool y]
theorem open_chl {fuel : Nat} {cs : List Value} {x : DataW H × List MemPlace} (h : DataW.trod enc Tryz.prog W b0 (fun _ => true) held fuel 49 cs = some x) (hw : ∀ n ∈ x.1.weights Tryz.prog 49, n ≤ reachBytes) :
    ∃ a n c l, cs = [.slice a n c] ∧ IsChs W a n l := by
  obtain ⟨a, n, c, f, g, rfl, _, _, _, hn, hc⟩ := open_lst (cd0) (Q := QC W) Tryz.underlying49 cellsChK (by decide) (fun h hw => openChK h hw) h hw
  rw [show Tryz.prog.bytesOf 70 = 80 by kernel_rfl] at hn
  refine ⟨a, n, c, ((List.range n).map f).map (·.c), rfl, ⟨(List.range n).map f, rfl, by simp, ls_of (Q := QC W) hc (fun i => cdc (((List.range n).map f).getD i cd0)) (fun i hi q => by rw [getD_rm f cd0 hi]; exact q.1.symm), fun x hx => ?_⟩, hn, fun y hy => ?_⟩
  · obtain ⟨cs, _, q⟩ := all_of (g := g) (Q := QC W) hc hx
    exact q.v
  · obtain ⟨x, hx, rfl⟩ := List.mem_map.1 hy
    obtain ⟨cs, _, q⟩ := all_of (g := g) (Q := QC W) hc hx
    exact ⟨q.n, q.b, q.k⟩
theorem open_ftl {fuel : Nat} {cs : List Value} {x : DataW H × List MemPlace} (h : DataW.trod enc Tryz.prog W b0 (fun _ => true) held fuel 50 cs = some x) (hw : ∀ n ∈ x.1.weights Tryz.prog 50, n ≤ reachBytes) :
    ∃ a c l, cs = [.slice a l.length c] ∧ Fts W (Th W) a l.length l ∧ l.length * 16 ≤ 140737488351232 ∧ ∀ x ∈ l, InI x.1 ∧ InI x.2 := by
  obtain ⟨a, n, c, f, g, rfl, _, _, _, hn, hc⟩ := open_lst ((0, 0) : Int × Int) (Q := QF) Tryz.underlying50 cellsFtK (by decide) (fun h hw => by obtain ⟨z0, z1, q, e⟩ := openFtK h; exact ⟨(z0, z1), e, q⟩) h hw
  rw [show Tryz.prog.bytesOf 72 = 16 by kernel_rfl] at hn
  have hl : ((List.range n).map f).length = n := by simp
  refine ⟨a, c, (List.range n).map f, by rw [hl], ⟨rfl, ?_⟩, by rw [hl]; exact hn, fun x hx => ?_⟩
  · rw [hl]
    exact ls_of (Q := QF) hc (fun i => [.int .i64 (((List.range n).map f).getD i (0, 0)).1, .int .i64 (((List.range n).map f).getD i (0, 0)).2]) (fun i hi q => by rw [getD_rm f (0, 0) hi]; exact q.1.symm)
  · obtain ⟨cs, _, q⟩ := all_of (g := g) (Q := QF) hc hx
    exact q
theorem open_bll {fuel : Nat} {cs : List Value} {x : DataW H × List MemPlace} (h : DataW.trod enc Tryz.prog W b0 (fun _ => true) held fuel 51 cs = some x) (hw : ∀ n ∈ x.1.weights Tryz.prog 51, n ≤ reachBytes) :
    ∃ a c l, cs = [.slice a l.length c] ∧ Kps W (Th W) a l.length l ∧ l.length ≤ 140737488351232 ∧ l.length ≤ c := by
  obtain ⟨a, n, c, f, g, rfl, hnc, _, _, hn, hc⟩ := open_lst false (Q := QB) Tryz.underlying51 cellsBlK (by decide) (fun h hw => by obtain ⟨b, e, _⟩ := DataW.trod_bool Tryz.underlying4 h; exact ⟨b, e⟩) h hw
  rw [show Tryz.prog.bytesOf 4 = 1 by kernel_rfl, Nat.mul_one] at hn
  have hl : ((List.range n).map f).length = n := by simp
  refine ⟨a, c, (List.range n).map f, by rw [hl], ⟨rfl, ?_⟩, by rw [hl]; exact hn, by rw [hl]; exact hnc⟩
  rw [hl]
  exact ls_of (Q := QB) hc (fun i => [.bool (((List.range n).map f).getD i false)]) (fun i hi q => by rw [getD_rm f false hi]; exact q.symm)
/-- A step that came in. -/
structure OpI (W : World) (x : OD) : Prop where
  v : Vo W (Th W) x
  n : InO x.o
  d : (∀ z ∈ x.o.d, z < 256) ∧ x.o.d.length ≤ 140737488351232
  c : x.o.ch.length * 80 ≤ 140737488351232 ∧ ∀ y ∈ x.o.ch, InC y ∧ (∀ z ∈ y.key, z < 256) ∧ y.key.length ≤ 140737488351232
  f : x.o.fl.length * 16 ≤ 140737488351232 ∧ ∀ y ∈ x.o.fl, InI y.1 ∧ InI y.2
  k : x.o.kp.length ≤ 140737488351232
theorem underOpK : ∃ f0 f1 f2 f3 f4 f5 f6 f7 f8 f9 f10 f11, Tryz.prog.underlying 53 = some (.struct #[f0, f1, f2, f3, f4, f5, f6, f7, f8, f9, f10, f11]) ∧ (f0.type = 3 ∧ f1.type = 3 ∧ f2.type = 3 ∧ f3.type = 3 ∧ f4.type = 3 ∧ f5.type = 3 ∧ f6.type = 40 ∧ f7.type = 46 ∧ f8.type = 48 ∧ f9.type = 49 ∧ f10.type = 50 ∧ f11.type = 51) ∧ (f0.offset = 0 ∧ f1.offset = 1 ∧ f2.offset = 2 ∧ f3.offset = 3 ∧ f4.offset = 4 ∧ f5.offset = 5 ∧ f6.offset = 6 ∧ f7.offset = 7 ∧ f8.offset = 9 ∧ f9.offset = 11 ∧ f10.offset = 12 ∧ f11.offset = 13) := ⟨_, _, _, _, _, _, _, _, _, _, _, _, Tryz.underlying53, ⟨rfl, rfl, rfl, rfl, rfl, rfl, rfl, rfl, rfl, rfl, rfl, rfl⟩, ⟨rfl, rfl, rfl, rfl, rfl, rfl, rfl, rfl, rfl, rfl, rfl, rfl⟩⟩
theorem cellsOpK : Tryz.prog.cellsOf 53 = 14 := by kernel_rfl
theorem openOpK {fuel : Nat} {cs : List Value} {x : DataW H × List MemPlace} (h : DataW.trod enc Tryz.prog W b0 (fun _ => true) held fuel 53 cs = some x) (hw : ∀ n ∈ x.1.weights Tryz.prog 53, n ≤ reachBytes) :
    ∃ y : OD, cs = odc y ∧ OpI W y := by
  obtain ⟨f0, f1, f2, f3, f4, f5, f6, f7, f8, f9, f10, f11, hu, ⟨t0, t1, t2, t3, t4, t5, t6, t7, t8, t9, t10, t11⟩, o0, o1, o2, o3, o4, o5, o6, o7, o8, o9, o10, o11⟩ := underOpK
  obtain ⟨xs, nn, _, e, hl, hlen, hff⟩ := DataW.trod_struct hu h
  subst e
  rw [cellsOpK] at hl
  match xs, hlen with
  | [y0, y1, y2, y3, y4, y5, y6, y7, y8, y9, y10, y11], _ =>
    have h0 := hff 0 f0 rfl
    rw [t0, o0, cells3K] at h0
    have h1 := hff 1 f1 rfl
    rw [t1, o1, cells3K] at h1
    have h2 := hff 2 f2 rfl
    rw [t2, o2, cells3K] at h2
    have h3 := hff 3 f3 rfl
    rw [t3, o3, cells3K] at h3
    have h4 := hff 4 f4 rfl
    rw [t4, o4, cells3K] at h4
    have h5 := hff 5 f5 rfl
    rw [t5, o5, cells3K] at h5
    have h6 := hff 6 f6 rfl
    rw [t6, o6, cellsByK] at h6
    have h7 := hff 7 f7 rfl
    rw [t7, o7, cellsStK] at h7
    have h8 := hff 8 f8 rfl
    rw [t8, o8, cellsPmK] at h8
    have h9 := hff 9 f9 rfl
    rw [t9, o9, cellsChsK] at h9
    have h10 := hff 10 f10 rfl
    rw [t10, o10, cellsFtsK] at h10
    have h11 := hff 11 f11 rfl
    rw [t11, o11, cellsBlsK] at h11
    obtain ⟨z0, e0, _, w0⟩ := DataW.trod_int Tryz.underlying3 (h0.trans rfl)
    obtain ⟨z1, e1, _, w1⟩ := DataW.trod_int Tryz.underlying3 (h1.trans rfl)
    obtain ⟨z2, e2, _, w2⟩ := DataW.trod_int Tryz.underlying3 (h2.trans rfl)
    obtain ⟨z3, e3, _, w3⟩ := DataW.trod_int Tryz.underlying3 (h3.trans rfl)
    obtain ⟨z4, e4, _, w4⟩ := DataW.trod_int Tryz.underlying3 (h4.trans rfl)
    obtain ⟨z5, e5, _, w5⟩ := DataW.trod_int Tryz.underlying3 (h5.trans rfl)
    obtain ⟨da, dc, dl, e6, vd, db, dn⟩ := open_byK (h6.trans rfl) (fun n hn => hw n (by
      simp only [DataW.weights, hu]
      simp [DataW.weightsEach, t0, t1, t2, t3, t4, t5, t6, t7, t8, t9, t10, t11, hn]))
    obtain ⟨s0, s1, ⟨u0, u1⟩, e7⟩ := openStK (h7.trans rfl)
    obtain ⟨p0, p1, ⟨u2, u3⟩, e8⟩ := openPmK (h8.trans rfl)
    obtain ⟨ca, cn, cc, cl, e9, hch⟩ := open_chl (h9.trans rfl) (fun n hn => hw n (by
      simp only [DataW.weights, hu]
      simp [DataW.weightsEach, t0, t1, t2, t3, t4, t5, t6, t7, t8, t9, t10, t11, hn]))
    obtain ⟨fa, fc, fl, e10, vf, fn, fi⟩ := open_ftl (h10.trans rfl) (fun n hn => hw n (by
      simp only [DataW.weights, hu]
      simp [DataW.weightsEach, t0, t1, t2, t3, t4, t5, t6, t7, t8, t9, t10, t11, hn]))
    obtain ⟨ka, kc, kl, e11, vk, kn, knc⟩ := open_bll (h11.trans rfl) (fun n hn => hw n (by
      simp only [DataW.weights, hu]
      simp [DataW.weightsEach, t0, t1, t2, t3, t4, t5, t6, t7, t8, t9, t10, t11, hn]))
    have hcl := hch.len
    subst hcl
    refine ⟨⟨⟨z0, z1, z2, z3, z4, z5, dl, s0, s1, p0, p1, cl, fl, kl⟩, da, dc, ca, cc, fa, fc, ka, kc⟩, ?_, ⟨vd, hch.v, vf, vk, knc⟩, ⟨inI_ofK w0, inI_ofK w1, inI_ofK w2, inI_ofK w3, inI_ofK w4, inI_ofK w5, u0, u1, u2, u3⟩, ⟨db, dn⟩, ⟨hch.n, hch.i⟩, ⟨fn, fi⟩, kn⟩
    match cs, hl with
    | [c0, c1, c2, c3, c4, c5, c6, c7, c8, c9, c10, c11, c12, c13], _ =>
      simp at e0 e1 e2 e3 e4 e5 e6 e7 e8 e9 e10 e11
      unfold odc
      rw [e0, e1, e2, e3, e4, e5, e6, e7.1, e7.2, e8.1, e8.2, e9, e10, e11]
/-- A script that came in. -/
structure IsScr (W : World) (sec : Int) (a : Option Addr) (n : Nat) (l : List Opp) : Prop where
  s : InI sec
  v : Ops W (Th W) a n l
  n : n * 176 ≤ 140737488351232
  b : ∀ x ∈ l, OpB x
  i : ∀ x ∈ l, InO x ∧ Bo x
  o : ∀ x ∈ l, OppOk x
  q : ∀ x ∈ l, OpN x
theorem IsScr.len {sec : Int} {a : Option Addr} {n : Nat} {l : List Opp} (h : IsScr W sec a n l) : l.length = n := by
  obtain ⟨cs, rfl, h2, _⟩ := h.v
  rw [List.length_map]
  exact h2
theorem OpI.b {x : OD} (h : OpI W x) : OpB x.o ∧ (InO x.o ∧ Bo x.o) ∧ OppOk x.o ∧ OpN x.o := by
  have h1 := h.d.2
  have h2 := h.c.1
  have h3 := h.f.1
  have h4 := h.k
  exact ⟨⟨h1, h2, fun y hy => (h.c.2 y hy).2.2, h3, h4⟩, ⟨h.n, by omega, by omega, fun y hy => ⟨(h.c.2 y hy).1, by have := (h.c.2 y hy).2.2; omega⟩, by omega, h.f.2, by omega⟩, ⟨h.d.1, h.n.sec.2, fun y hy => ⟨(h.c.2 y hy).2.1, (h.c.2 y hy).1.h, (h.c.2 y hy).1.l⟩⟩, by omega, by omega, by omega⟩
def QO (W : World) (cs : List Value) (y : OD) : Prop := cs = odc y ∧ OpI W y
theorem open_opl {fuel : Nat} {cs : List Value} {x : DataW H × List MemPlace} (h : DataW.trod enc Tryz.prog W b0 (fun _ => true) held fuel 22 cs = some x) (hw : ∀ n ∈ x.1.weights Tryz.prog 22, n ≤ reachBytes) :
    ∃ a n c l, cs = [.slice a n c] ∧ Ops W (Th W) a n l ∧ n * 176 ≤ 140737488351232 ∧ ∀ x ∈ l, OpB x ∧ (InO x ∧ Bo x) ∧ OppOk x ∧ OpN x := by
  obtain ⟨a, n, c, f, g, rfl, _, _, _, hn, hc⟩ := open_lst (od0) (Q := QO W) Tryz.underlying22 cellsOpK (by decide) (fun h hw => openOpK h hw) h hw
  rw [show Tryz.prog.bytesOf 53 = 176 by kernel_rfl] at hn
  refine ⟨a, n, c, ((List.range n).map f).map (·.o), rfl, ⟨(List.range n).map f, rfl, by simp, ls_of (Q := QO W) hc (fun i => odc (((List.range n).map f).getD i od0)) (fun i hi q => by rw [getD_rm f od0 hi]; exact q.1.symm), fun x hx => ?_⟩, hn, fun y hy => ?_⟩
  · obtain ⟨cs, _, q⟩ := all_of (g := g) (Q := QO W) hc hx
    exact q.v
  · obtain ⟨x, hx, rfl⟩ := List.mem_map.1 hy
    obtain ⟨cs, _, q⟩ := all_of (g := g) (Q := QO W) hc hx
    exact q.b
end
theorem underScK : ∃ f0 f1, Tryz.prog.underlying 24 = some (.struct #[f0, f1]) ∧ (f0.type = 3 ∧ f1.type = 22) ∧ (f0.offset = 0 ∧ f1.offset = 1) := ⟨_, _, Tryz.underlying24, ⟨rfl, rfl⟩, ⟨rfl, rfl⟩⟩
theorem cellsScK : Tryz.prog.cellsOf 24 = 2 := by kernel_rfl
theorem open_scr {H : Type} {enc : TypeId × Value → H} {W : World} {base b0 : Nat} {held : Bool} {v : Value} {d : DataW H} {p : List MemPlace} (hv : Value.okWide Tryz.prog W .any base 24 v) (h : DataW.Trod enc Tryz.prog W b0 (fun _ => true) held 24 v d p) (hw : ∀ n ∈ d.weights Tryz.prog 24, n ≤ reachBytes) :
    ∃ (sec : Int) (a : Option Addr) (n c : Nat) (l : List Opp), v = .agg #[.int .i64 sec, .slice a n c] ∧ IsScr W sec a n l := by
  obtain ⟨cs, rfl, hsz, _⟩ : ∃ cs, v = .agg cs ∧ cs.size = Tryz.prog.cellsOf 24 ∧ Row.okWide Tryz.prog W .any base 24 cs := by
    simpa [Value.okWide, Tryz.underlying24] using hv
  obtain ⟨fuel, hf⟩ := h
  obtain ⟨f0, f1, hu, ⟨t0, t1⟩, o0, o1⟩ := underScK
  obtain ⟨xs, nn, _, e, hl, hlen, hff⟩ := DataW.trod_struct hu hf
  obtain ⟨rfl, rfl⟩ := Prod.mk.inj e
  rw [cellsScK] at hl
  match xs, hlen with
  | [y0, y1], _ =>
    have h0 := hff 0 f0 rfl
    have h1 := hff 1 f1 rfl
    rw [t0, o0, cells3K] at h0
    rw [t1, o1, cellsOpsK] at h1
    obtain ⟨z0, e0, _, w0⟩ := DataW.trod_int Tryz.underlying3 (h0.trans rfl)
    obtain ⟨a, n, c, l, e1, ho, hn, hi⟩ := open_opl (h1.trans rfl) (fun n hn => hw n (by
      simp only [DataW.weights, hu]
      simp [DataW.weightsEach, t0, t1, hn]))
    refine ⟨z0, a, n, c, l, ?_, inI_ofK w0, ho, hn, fun x hx => (hi x hx).1, fun x hx => (hi x hx).2.1, fun x hx => (hi x hx).2.2.1, fun x hx => (hi x hx).2.2.2⟩
    obtain ⟨cl⟩ := cs
    match cl, hl with
    | [c0, c1], _ =>
      have q0 : [c0] = [.int .i64 z0] := e0
      have q1 : [c1] = [.slice a n c] := e1
      cases q0
      cases q1
      rfl
theorem open_chs {H : Type} {enc : TypeId × Value → H} {W : World} {base b0 : Nat} {held : Bool} {v : Value} {d : DataW H} {p : List MemPlace} (hv : Value.okWide Tryz.prog W .any base 49 v) (h : DataW.Trod enc Tryz.prog W b0 (fun _ => true) held 49 v d p) (hw : ∀ n ∈ d.weights Tryz.prog 49, n ≤ reachBytes) :
    ∃ (a : Option Addr) (n c : Nat) (l : List Chg), v = .slice a n c ∧ IsChs W a n l := by
  obtain ⟨a, len, cap, rfl⟩ := okWide_slice Tryz.underlying49 hv
  obtain ⟨fuel, hf⟩ := h
  obtain ⟨a', n, c, l, e, hi⟩ := open_chl hf hw
  have e : Value.slice a len cap = .slice a' n c := by simpa [Value.cells] using e
  exact ⟨a', n, c, l, e, hi⟩
end Go.Proofs.YtkeogggeefnoeaaGreatDoor
