import Derived.Test.YtohfdkhlpghbcaaRJ
namespace Go.Proofs.Ytohfdkhlpghbcaa
set_option maxRecDepth 100000
open Go.RowKit
set_option linter.unusedVariables false

set_option maxHeartbeats 400000 in
/-- The document's GetLane, where a length is another. -/
theorem rgetLane0_ (ka va : Option Addr) (kn kc vn vc : Nat) (k v : List Int) (w : World) (hk : Bs w ka kn k) (hv : Bs w va vn v) (h3 : kn ≤ maxLen) (h4 : vn ≤ maxLen) (hok : ¬ (kn = 33 ∧ vn = 37)) :
    Calls Try.prog 21 #[.agg #[.slice ka kn kc, .slice va vn vc]] w fun e w' => Ga w k v e w' := by
  have hy : yok k v = false := by
    unfold yok
    rw [decide_eq_false (by rw [hk.1, hv.1]; exact hok), Bool.false_and]
  have HY := hid hy
  unfold maxLen at h3 h4
  have BA : Below w.heap.size w ((w.alloc (.cells #[.slice ka kn kc, .slice va vn vc] 27)).alloc (.cells #[.slice none 0 0, .int .i64 0, .int .i64 0, .int .i64 0, .int .u64 0, .int .u64 0, .int .i64 0, .int .i64 0] 48)) := ((Below.refl _ _).alloc (Nat.le_refl _) _).alloc (by simp) _
  have m2 := Lm.new (w.alloc (.cells #[.slice ka kn kc, .slice va vn vc] 27)) none 0 0 0 0 0 0 0 0 0
  rw [World.size_alloc] at m2
  have HBA := hid BA
  have HM2 := hid m2
  clear BA m2 hk hv hy
  by_cases h33 : kn = 33
  · have h37 : ((vn : Int) != 37) = true := bne_iff_ne.2 (by omega)
    subst h33
    have h37' : ¬ (vn : Int) = 37 := by omega
    clear hok
    go_enter Try.func21, Try.ntmps21
    go_wp2_with fail
    refine bodyPost_ret (v := .tuple #[.agg #[.slice none 0 0, .int .i64 0, .int .i64 0, .int .i64 0, .int .u64 0, .int .u64 0, .int .i64 0, .int .i64 0], .int .i64 114]) ?_ rfl ⟨⟨none, 0, ?_⟩, HBA.out⟩
    · exact results_ln rfl _ _ (w.heap.size + 1) none 0 0 0 0 0 0 0 0 0 _ rfl rfl HM2.out
    · rw [HY.out]
      exact rfl
  · have h33' : ((kn : Int) != 33) = true := bne_iff_ne.2 (by omega)
    have h33'' : ¬ (kn : Int) = 33 := by omega
    clear hok h33
    go_enter Try.func21, Try.ntmps21
    go_wp2_with fail
    refine bodyPost_ret (v := .tuple #[.agg #[.slice none 0 0, .int .i64 0, .int .i64 0, .int .i64 0, .int .u64 0, .int .u64 0, .int .i64 0, .int .i64 0], .int .i64 114]) ?_ rfl ⟨⟨none, 0, ?_⟩, HBA.out⟩
    · exact results_ln rfl _ _ (w.heap.size + 1) none 0 0 0 0 0 0 0 0 0 _ rfl rfl HM2.out
    · rw [HY.out]
      exact rfl
end Go.Proofs.Ytohfdkhlpghbcaa
namespace Go.Proofs.Ytohfdkhlpghbcaa
set_option maxRecDepth 100000
open Go.RowKit
set_option linter.unusedVariables false

theorem sizerw : (Try.prog.info? 27).map (·.size) = some 2 := by kernel_rfl
set_option maxHeartbeats 400000 in
/-- The laws' row: a row in new memory. -/
theorem lrow_ (ka va : Option Addr) (kn kc vn vc : Nat) (k v : List Int) (w : World) (hk : Bs w ka kn k) (hv : Bs w va vn v) (h3 : kn ≤ 140737488351232) (h4 : vn ≤ 140737488351232) :
    Calls Try.prog 12 #[.agg #[.slice ka kn kc, .slice va vn vc]] w fun e w' => ∃ pa pc qa qc, e = .returned (.agg #[.slice pa kn pc, .slice qa vn qc]) ∧ Vs w' (fun x => w.heap.size ≤ x) pa kn pc k ∧ Vs w' (fun x => w.heap.size ≤ x) qa vn qc v ∧ Below w.heap.size w w' := by
  have BA : Below w.heap.size w ((w.alloc (.cells #[.slice ka kn kc, .slice va vn vc] 27)).alloc (.cells #[.slice none 0 0, .slice none 0 0] 27)) := ((Below.refl _ _).alloc (Nat.le_refl _) _).alloc (by simp) _
  have m1 : ((w.alloc (.cells #[.slice ka kn kc, .slice va vn vc] 27)).alloc (.cells #[.slice none 0 0, .slice none 0 0] 27)).heap[w.heap.size]? = some (.cells #[.slice ka kn kc, .slice va vn vc] 27 (0, 0)) := (Below.heap_alloc _ _ _ (by simp)).trans (heap_alloc_new w _)
  have m2 := heap_alloc_new (w.alloc (.cells #[.slice ka kn kc, .slice va vn vc] 27)) (.cells #[.slice none 0 0, .slice none 0 0] 27)
  rw [World.size_alloc] at m2
  have HBA := hid BA
  have HM1 := hid m1
  have HM2 := hid m2
  have HK := hid hk
  have HV := hid hv
  have HWS : Hid (((w.alloc (.cells #[.slice ka kn kc, .slice va vn vc] 27)).alloc (.cells #[.slice none 0 0, .slice none 0 0] 27)).heap.size = w.heap.size + 2) := by show _ = _; simp
  clear BA m1 m2 hk hv
  have y0 := (two_cell HM1.out).1
  have y1 := (two_cell HM1.out).2
  generalize HW : ((w.alloc (.cells #[.slice ka kn kc, .slice va vn vc] 27)).alloc (.cells #[.slice none 0 0, .slice none 0 0] 27)) = W at *
  have k1 := fun wx (h : Bw W wx) => refBytes ka kn kc k wx ((HK.out.below HBA.out).below h) h3
  have k2 := fun wx (h : Bw W wx) => refBytes va vn vc v wx ((HV.out.below HBA.out).below h) h4
  have BW0 : Bw W { W with drawn := W.drawn + 1 } := Bw.drew W
  go_enter Try.func12, Try.ntmps12
  go_wp2_with fail
  clear HW
  go_region_held (fun wx => wx.cell? ⟨w.heap.size, 0, none⟩ = some (.slice ka kn kc) ∧ wx.cell? ⟨w.heap.size, 1, none⟩ = some (.slice va vn vc)) (go_keep) (first | (have hh := G2; clear hh; go_at_call 32; refine (k2 _ (by exact G2)).mono ?_; rintro en w3 ⟨v3, rfl, o3, g3⟩; have G3 := Bw.on G2 g3; have u2 := Bw.cell G3 y0; have u3 := Bw.cell G3 y1; obtain ⟨a3, c3, rfl, vs3⟩ := Vs.ofOwn o3 HV.out.2.1; have HO3 := hid vs3; have HG3 := hid g3; have HM3 := hid ((Below.block G3 (w.heap.size + 1) (by have := HWS.out; omega)).trans HM2.out); have z0 := (two_cell HM3.out).1; have z1 := (two_cell HM3.out).2; have f0 := two_fz HM3.out 0; have f1 := two_fz HM3.out 1; clear vs3 o3 g3) | (go_at_call 32; refine (k1 _ (by exact BW0)).mono ?_; rintro en w2 ⟨v2, rfl, o2, g2⟩; have G2 := Bw.on BW0 g2; have u0 := Bw.cell G2 y0; have u1 := Bw.cell G2 y1; obtain ⟨a2, c2, rfl, vs2⟩ := Vs.ofOwn o2 HK.out.2.1; have HO2 := hid vs2; clear vs2 o2 g2))
  have HM4 := hid (two_set (a := .slice a2 kn c2) (b := .slice a3 vn c3) HM3.out)
  have HB4 := hid (((bel_bel HBA.out HBA.out.size G3).setCell (p := ⟨w.heap.size + 1, 0, none⟩) (Nat.le_succ _) (.slice a2 kn c2)).setCell (p := ⟨w.heap.size + 1, 1, none⟩) (Nat.le_succ _) (.slice a3 vn c3))
  have HG2 := hid G2
  clear z0 z1 f0 f1 u0 u1 u2 u3 G2 G3 BW0 y0 y1
  go_wp2_with fail
  refine bodyPost_ret (v := .agg #[.slice a2 kn c2, .slice a3 vn c3]) ?_ rfl ⟨a2, c2, a3, c3, rfl, ?_, ?_, HB4.out⟩
  · exact results_cell_row rfl _ _ (w.heap.size + 1) _ _ _ _ rfl HM4.out Try.underlying27 rfl sizerw
  · refine (((HO2.out.step fun x hx _ _ => HG3.out.block x hx).wide (V' := fun x => W.heap.size ≤ x) fun x _ hx => hx).step fun x _ hx _ => two_other (by have := HWS.out; omega)).wide fun x _ hx => by have := HWS.out; omega
  · refine ((HO3.out.wide (V' := fun x => W.heap.size ≤ x) fun x _ hx => by have := Below.size HG2.out; omega).step fun x _ hx _ => two_other (by have := HWS.out; omega)).wide fun x _ hx => by have := HWS.out; omega
end Go.Proofs.Ytohfdkhlpghbcaa
