import Derived.Test.YtbkeejapongmlaaGreatDoorLD
import Derived.Test.YtbkeejapongmlaaGreatDoorLB0
namespace Go.Proofs.YtbkeejapongmlaaGreatDoor
set_option maxRecDepth 100000
open Go.RowKit
set_option linter.unusedVariables false

def mk3 : List Int := [201, 202, 203]
theorem mk3_okb : Okb mk3 := by intro z hz; simp [mk3] at hz; omega
/-- A key with marks behind it. -/
structure Rm (w : World) (g m cap : Nat) (k : List Int) : Prop where
  bs : Bs w (some ⟨g, 0, none⟩) (m + 3) (k ++ mk3)
  ce : m + 3 ≤ cap
  mx : cap ≤ maxLen
  blk : ∃ cur, w.heap[g]? = some (.cells cur 5 (0, 0))
theorem Rm.on {w w' : World} {g m cap : Nat} {k : List Int} (h : Rm w g m cap k) (hb : Below w.heap.size w w') : Rm w' g m cap k := ⟨h.bs.below hb, h.ce, h.mx, by obtain ⟨cur, hc⟩ := h.blk; exact ⟨cur, (hb.block g (Array.getElem?_eq_some_iff.1 hc).1).trans hc⟩⟩
theorem Rm.key {w : World} {g m cap : Nat} {k : List Int} (h : Rm w g m cap k) (hk : k.length = m) : Bs w (some ⟨g, 0, none⟩) m k := by
  refine ⟨hk, fun z hz => h.bs.2.1 z (List.mem_append_left _ hz), ?_⟩
  rcases h.bs.2.2 with h0 | ⟨b, off, e, hc⟩
  · omega
  · refine .inr ⟨b, off, e, fun i hi => ?_⟩
    have := hc i (by omega)
    rwa [show (k ++ mk3).getD i 0 = k.getD i 0 from by simp [List.getD, List.getElem?_append_left (show i < k.length by omega)]] at this
theorem Rm.mark {w : World} {g m cap : Nat} {k : List Int} (h : Rm w g m cap k) (hk : k.length = m) (i : Nat) (hi : i < 3) : w.cell? ⟨g, m + i, none⟩ = some (.int .u8 (mk3.getD i 0)) := by
  rcases h.bs.2.2 with h0 | ⟨b, off, e, hc⟩
  · omega
  · simp at e
    obtain ⟨rfl, rfl⟩ := e
    have := hc (m + i) (by omega)
    rw [Nat.zero_add] at this
    rwa [show (k ++ mk3).getD (m + i) 0 = mk3.getD i 0 from by rw [← hk]; simp only [List.getD]; rw [List.getElem?_append_right (Nat.le_add_right _ _), Nat.add_sub_cancel_left]] at this
def Ry (w : World) (m : Nat) (k : List Int) (S C N D E s n : Int) (e : Ending) (w' : World) : Prop := ∃ g cap, e = .returned (.agg #[.slice (some ⟨g, 0, none⟩) m cap, .int .i64 S, .int .i64 C, .int .i64 N, .int .u64 D, .int .u64 E, .int .i64 s, .int .i64 n]) ∧ Rm w' g m cap k ∧ Below w.heap.size w w'
set_option maxHeartbeats 4000000 in
/-- The law's roomy. -/
theorem roomy_ (a : Option Addr) (m c : Nat) (k : List Int) (S C N D E s n : Int) (w : World) (hk : Bs w a m k) (hm : m ≤ 4096) :
    Calls Tryz.prog 5 #[.agg #[.slice a m c, .int .i64 S, .int .i64 C, .int .i64 N, .int .u64 D, .int .u64 E, .int .i64 s, .int .i64 n]] w fun e w' => Ry w m k S C N D E s n e w' := by
  have B1 := lnew w a m c S C N D E s n
  have B2 := B1.alloc (B := w.heap.size) (by simp) (.cells #[.slice none 0 0, .int .i64 0, .int .i64 0, .int .i64 0, .int .u64 0, .int .u64 0, .int .i64 0, .int .i64 0] 27)
  have m1 := (Lm.new w a m c S C N D E s n).kept (lnew _ none 0 0 0 0 0 0 0 0 0)
  have m2 := Lm.new (w.alloc (.cells #[.slice a m c, .int .i64 S, .int .i64 C, .int .i64 N, .int .u64 D, .int .u64 E, .int .i64 s, .int .i64 n] 27)) none 0 0 0 0 0 0 0 0 0
  rw [World.size_alloc] at m2
  obtain ⟨W, HW⟩ : ∃ y, Hid ((w.alloc (.cells #[.slice a m c, .int .i64 S, .int .i64 C, .int .i64 N, .int .u64 D, .int .u64 E, .int .i64 s, .int .i64 n] 27)).alloc (.cells #[.slice none 0 0, .int .i64 0, .int .i64 0, .int .i64 0, .int .u64 0, .int .u64 0, .int .i64 0, .int .i64 0] 27) = y) := ⟨_, rfl⟩
  obtain ⟨gg, Hg⟩ : ∃ y, Hid (w.heap.size = y) := ⟨_, rfl⟩
  have HWS : Hid (W.heap.size = gg + 2) := by show _ = _; rw [← HW.out, ← Hg.out]; simp
  rw [HW.out] at B2 m1 m2
  have HB2 := hid B2
  rw [Hg.out] at m1 m2
  have HM1 := hid m1
  have HM2 := hid m2
  have hkl : k.length = m := hk.1
  have HKO := hid hk.2.1
  have kb := refBytes a m c k W (hk.below B2) (by omega)
  have y0 := m1.c0
  clear B1 B2 m1 m2 hk
  go_enter Tryz.func5, Tryz.ntmps5
  go_wp2_with fail
  rw [HW.out, Hg.out]
  clear HW
  refine kb.mono ?_
  rintro e w1 ⟨v1, rfl, o1, g1⟩
  have HB1 : Hid (Bw W w1) := g1
  have HO1 := hid (own_bel o1 (bel_al' w1 (.cells #[.int .u8 201, .int .u8 202, .int .u8 203] 5)))
  have HLB : Hid (Bs (w1.alloc (.cells #[.int .u8 201, .int .u8 202, .int .u8 203] 5)) (some ⟨w1.heap.size, 0, none⟩) 3 mk3) := bs_lit w1 mk3 (0, 0) mk3_okb
  have HOL := hid o1.lt
  have HSZ : Hid (W.heap.size ≤ (w1.alloc (.cells #[.int .u8 201, .int .u8 202, .int .u8 203] 5)).heap.size) := by have := g1.size; show _ ≤ _; simp; omega
  clear kb o1 g1 y0
  go_upto_region 3 with (first | (at_builtin; refine wpList_appT rfl _ _ rfl W.heap.size v1 m k rfl (by exact HO1.out) (some ⟨w1.heap.size, 0, none⟩) 3 3 mk3 rfl (by exact HLB.out) (by omega) HSZ.out ?_; intro v3 w3 o3 g3; have HO3 := hid o3; have HG3 := hid g3; clear o3 g3) | fail)
  have HB3 : Hid (Bw W w3) := by
    have hb : Below W.heap.size W (w1.alloc (.cells #[.int .u8 201, .int .u8 202, .int .u8 203] 5)) := bel_bel HB1.out (Below.size HB1.out) (bel_al' w1 _)
    exact hb.grown HG3.out HSZ.out (fun q e => (HOL.out q e).1)
  obtain ⟨g, cap, rfl, hy, hge, hlt, hcap, hmax⟩ := Yr.ofOwn HO3.out (by intro z hz; rcases List.mem_append.1 hz with h | h; exact HKO.out z h; exact mk3_okb z h) (by omega)
  have HY := hid hy
  have HN3 := hid (HM1.out.kept HB3.out)
  have HZ3 := hid (HM2.out.kept HB3.out)
  have y0 := HN3.out.c0
  have f0 := HN3.out.fz 0
  have HN4 := hid (HN3.out.key (some ⟨g, 0, none⟩) m cap)
  have HGN : Hid (gg ≠ g ∧ gg + 1 ≠ g) := by have := HWS.out; exact ⟨by omega, by omega⟩
  have HZ4 : Hid (Lm (w3.setCell ⟨gg, 0, none⟩ (.slice (some ⟨g, 0, none⟩) m cap)) (gg + 1) none 0 0 0 0 0 0 0 0 0) := HZ3.out.at (Below.heap_setCell _ _ _ _ (by show gg + 1 ≠ gg; omega))
  have HY4 : Hid (Yr (w3.setCell ⟨gg, 0, none⟩ (.slice (some ⟨g, 0, none⟩) m cap)) g (m + 3) (k ++ mk3)) := HY.out.same (Below.heap_setCell _ _ _ _ (Ne.symm HGN.out.1))
  have HB4 : Hid (Below w.heap.size w (w3.setCell ⟨gg, 0, none⟩ (.slice (some ⟨g, 0, none⟩) m cap))) := (bel_bel HB2.out HB2.out.size HB3.out).setCell (p := ⟨gg, 0, none⟩) (by have := Hg.out; show w.heap.size ≤ gg; omega) _
  have hm0 : (0 : Int) ≤ m := by omega
  have hmc : (m : Int) ≤ cap := by omega
  clear hy HO1 HO3 HG3 HLB HOL HSZ HB1 HKO
  obtain ⟨z4, HZ4'⟩ : ∃ y, Hid (w3.setCell ⟨gg, 0, none⟩ (.slice (some ⟨g, 0, none⟩) m cap) = y) := ⟨_, rfl⟩
  rw [HZ4'.out] at HN4 HZ4 HY4 HB4
  go_upto_region 4 with fail
  rw [HZ4'.out]
  clear HZ4' y0 f0
  have d0 := HN4.out.c0
  have d1 := HN4.out.c1
  have d2 := HN4.out.c2
  have d3 := HN4.out.c3
  have d4 := HN4.out.c4
  have d5 := HN4.out.c5
  have d6 := HN4.out.c6
  have d7 := HN4.out.c7
  go_wp2_with (refine wpList_sln rfl rfl _ _ rfl (gg + 1) (some ⟨g, 0, none⟩) m cap S C N D E s n rfl rfl (by with_reducible exact HZ4.out) ?_)
  refine bodyPost_ret (v := .agg #[.slice (some ⟨g, 0, none⟩) m cap, .int .i64 S, .int .i64 C, .int .i64 N, .int .u64 D, .int .u64 E, .int .i64 s, .int .i64 n]) ?_ rfl ?_
  · exact results_cell_row rfl _ _ (gg + 1) _ _ _ _ rfl (HZ4.out.row (some ⟨g, 0, none⟩) m cap S C N D E s n) Tryz.underlying27 rfl sizeln
  · exact ⟨g, cap, rfl, ⟨(HY4.out.same (setRow_other _ _ _ _ (Ne.symm HGN.out.2))).bs, hcap, hmax, (HY4.out.same (setRow_other _ _ _ _ (Ne.symm HGN.out.2))).blk⟩, bel_row HB4.out (by have := Hg.out; omega) _⟩
set_option maxHeartbeats 4000000 in
/-- The law's stays. -/
theorem stays_ (a : Option Addr) (g m cap c : Nat) (k : List Int) (S C N D E s n S' C' N' D' E' s' n' : Int) (w : World) (hr : Rm w g m cap k) (hk : Bs w a m k) (hm : m ≤ 4096) :
    Calls Tryz.prog 15 #[.agg #[.slice (some ⟨g, 0, none⟩) m cap, .int .i64 S, .int .i64 C, .int .i64 N, .int .u64 D, .int .u64 E, .int .i64 s, .int .i64 n], .agg #[.slice a m c, .int .i64 S', .int .i64 C', .int .i64 N', .int .u64 D', .int .u64 E', .int .i64 s', .int .i64 n']] w fun e w' => e = .returned (.bool true) ∧ Below w.heap.size w w' := by
  have B1 := lnew w (some ⟨g, 0, none⟩) m cap S C N D E s n
  have B2 := B1.alloc (B := w.heap.size) (by simp) (.cells #[.slice a m c, .int .i64 S', .int .i64 C', .int .i64 N', .int .u64 D', .int .u64 E', .int .i64 s', .int .i64 n'] 27)
  have m1 := (Lm.new w (some ⟨g, 0, none⟩) m cap S C N D E s n).kept (lnew _ a m c S' C' N' D' E' s' n')
  have m2 := Lm.new (w.alloc (.cells #[.slice (some ⟨g, 0, none⟩) m cap, .int .i64 S, .int .i64 C, .int .i64 N, .int .u64 D, .int .u64 E, .int .i64 s, .int .i64 n] 27)) a m c S' C' N' D' E' s' n'
  rw [World.size_alloc] at m2
  obtain ⟨W, HW⟩ : ∃ y, Hid ((w.alloc (.cells #[.slice (some ⟨g, 0, none⟩) m cap, .int .i64 S, .int .i64 C, .int .i64 N, .int .u64 D, .int .u64 E, .int .i64 s, .int .i64 n] 27)).alloc (.cells #[.slice a m c, .int .i64 S', .int .i64 C', .int .i64 N', .int .u64 D', .int .u64 E', .int .i64 s', .int .i64 n'] 27) = y) := ⟨_, rfl⟩
  obtain ⟨gg, Hg⟩ : ∃ y, Hid (w.heap.size = y) := ⟨_, rfl⟩
  rw [HW.out] at B2 m1 m2
  have HB2 := hid B2
  rw [Hg.out] at m1 m2
  have HM1 := hid m1
  have HR := hid (hr.on B2)
  have hkl : k.length = m := hk.1
  have ks := same_d (some ⟨g, 0, none⟩) a m cap m c k k W (HR.out.key hkl) (hk.below B2) (by unfold maxLen; omega) (by unfold maxLen; omega)
  rw [sameB_self] at ks
  have y0 := m1.c0
  have x0 := m2.c0
  clear B1 B2 m1 m2 hk hr
  go_enter Tryz.func15, Tryz.ntmps15
  go_wp2_with fail
  rw [HW.out, Hg.out]
  clear HW
  refine ks.mono ?_
  rintro e w1 ⟨rfl, g1⟩
  have HB1 : Hid (Bw W w1) := g1.below
  clear ks y0 x0 g1
  have y0 := (HM1.out.kept HB1.out).c0
  have HR1 := HR.out.on HB1.out
  have z0 := HR1.mark hkl 0 (by omega)
  have z1 := HR1.mark hkl 1 (by omega)
  have z2 := HR1.mark hkl 2 (by omega)
  simp only [mk3, List.getD_cons_zero, List.getD_cons_succ, Nat.add_zero] at z0 z1 z2
  have hcap := HR1.ce
  have hmax := HR1.mx
  unfold maxLen at hmax
  have hc1 : (m : Int) + 3 ≤ cap := by omega
  have i0 : ((m : Int)).toNat = m := by omega
  have i1 : ((m : Int) + 1).toNat = m + 1 := by omega
  have i2 : ((m : Int) + 2).toNat = m + 2 := by omega
  have i3 : ((m : Int) + 3).toNat = m + 3 := by omega
  have HF : Hid (Below w.heap.size w w1) := bel_bel HB2.out HB2.out.size HB1.out
  clear HR1 HB1 HR HM1
  go_wp2_with fail
  go_ret
  exact ⟨rfl, HF.out⟩
end Go.Proofs.YtbkeejapongmlaaGreatDoor
