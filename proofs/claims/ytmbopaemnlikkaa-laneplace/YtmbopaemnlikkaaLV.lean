import Derived.Test.YtmbopaemnlikkaaLO0
import Derived.Deep.RegionHeld
namespace Go.Proofs.Ytmbopaemnlikkaa
set_option maxRecDepth 100000
open Go.RowKit
set_option linter.unusedVariables false

/-- Seven lists in a variable. -/
def A7 (w : World) (g : Nat) (v0 v1 v2 v3 v4 v5 v6 : Value) : Prop := w.heap[g]? = some (.cells #[v0, v1, v2, v3, v4, v5, v6] 52 (0, 0))
section
variable {w w' : World} {g : Nat} {v0 v1 v2 v3 v4 v5 v6 : Value}
theorem A7.c0 (h : A7 w g v0 v1 v2 v3 v4 v5 v6) : w.cell? ⟨g, 0, none⟩ = some v0 := (cell_of_row w g 0 _ _ (0, 0) h).trans rfl
theorem A7.c1 (h : A7 w g v0 v1 v2 v3 v4 v5 v6) : w.cell? ⟨g, 1, none⟩ = some v1 := (cell_of_row w g 1 _ _ (0, 0) h).trans rfl
theorem A7.c2 (h : A7 w g v0 v1 v2 v3 v4 v5 v6) : w.cell? ⟨g, 2, none⟩ = some v2 := (cell_of_row w g 2 _ _ (0, 0) h).trans rfl
theorem A7.c3 (h : A7 w g v0 v1 v2 v3 v4 v5 v6) : w.cell? ⟨g, 3, none⟩ = some v3 := (cell_of_row w g 3 _ _ (0, 0) h).trans rfl
theorem A7.c4 (h : A7 w g v0 v1 v2 v3 v4 v5 v6) : w.cell? ⟨g, 4, none⟩ = some v4 := (cell_of_row w g 4 _ _ (0, 0) h).trans rfl
theorem A7.c5 (h : A7 w g v0 v1 v2 v3 v4 v5 v6) : w.cell? ⟨g, 5, none⟩ = some v5 := (cell_of_row w g 5 _ _ (0, 0) h).trans rfl
theorem A7.c6 (h : A7 w g v0 v1 v2 v3 v4 v5 v6) : w.cell? ⟨g, 6, none⟩ = some v6 := (cell_of_row w g 6 _ _ (0, 0) h).trans rfl
theorem A7.fz (h : A7 w g v0 v1 v2 v3 v4 v5 v6) (i : Nat) : w.frozen? ⟨g, i, none⟩ = false := by unfold A7 at h; simp [World.frozen?, h]
theorem A7.lt (h : A7 w g v0 v1 v2 v3 v4 v5 v6) : g < w.heap.size := (Array.getElem?_eq_some_iff.1 h).1
theorem A7.at (h : A7 w g v0 v1 v2 v3 v4 v5 v6) (e : w'.heap[g]? = w.heap[g]?) : A7 w' g v0 v1 v2 v3 v4 v5 v6 := by unfold A7 at *; rw [e]; exact h
theorem A7.kept (h : A7 w g v0 v1 v2 v3 v4 v5 v6) (hb : Below w.heap.size w w') : A7 w' g v0 v1 v2 v3 v4 v5 v6 := h.at (hb.block g h.lt)
theorem A7.set7 (h : A7 w g v0 v1 v2 v3 v4 v5 v6) (u0 u1 u2 u3 u4 u5 u6 : Value) : A7 (((((((w.setCell ⟨g, 0, none⟩ u0).setCell ⟨g, 1, none⟩ u1).setCell ⟨g, 2, none⟩ u2).setCell ⟨g, 3, none⟩ u3).setCell ⟨g, 4, none⟩ u4).setCell ⟨g, 5, none⟩ u5).setCell ⟨g, 6, none⟩ u6) g u0 u1 u2 u3 u4 u5 u6 := by unfold A7 at *; simp [World.setCell, Array.getElem?_modify, h]
end
theorem A7.new (w : World) (v0 v1 v2 v3 v4 v5 v6 : Value) : A7 (w.alloc (.cells #[v0, v1, v2, v3, v4, v5, v6] 52)) w.heap.size v0 v1 v2 v3 v4 v5 v6 := heap_alloc_new w _
theorem size7 : (Try.prog.info? 52).map (·.size) = some 7 := by kernel_rfl
theorem set7_other {w : World} {g j : Nat} (h : j ≠ g) (u0 u1 u2 u3 u4 u5 u6 : Value) : (((((((w.setCell ⟨g, 0, none⟩ u0).setCell ⟨g, 1, none⟩ u1).setCell ⟨g, 2, none⟩ u2).setCell ⟨g, 3, none⟩ u3).setCell ⟨g, 4, none⟩ u4).setCell ⟨g, 5, none⟩ u5).setCell ⟨g, 6, none⟩ u6).heap[j]? = w.heap[j]? := by
  simp [World.setCell, Array.getElem?_modify, Ne.symm h]
theorem set7_bel {B g : Nat} {a w : World} (h : Below B a w) (hg : B ≤ g) (u0 u1 u2 u3 u4 u5 u6 : Value) : Below B a (((((((w.setCell ⟨g, 0, none⟩ u0).setCell ⟨g, 1, none⟩ u1).setCell ⟨g, 2, none⟩ u2).setCell ⟨g, 3, none⟩ u3).setCell ⟨g, 4, none⟩ u4).setCell ⟨g, 5, none⟩ u5).setCell ⟨g, 6, none⟩ u6) :=
  ((((((h.setCell (p := ⟨g, 0, none⟩) hg u0).setCell (p := ⟨g, 1, none⟩) hg u1).setCell (p := ⟨g, 2, none⟩) hg u2).setCell (p := ⟨g, 3, none⟩) hg u3).setCell (p := ⟨g, 4, none⟩) hg u4).setCell (p := ⟨g, 5, none⟩) hg u5).setCell (p := ⟨g, 6, none⟩) hg u6
theorem fld0 (a : Option Addr) (m c : Nat) (S C N D E s n : Int) (w : World) : (Instr.field 29 (.agg #[.slice a m c, .int .i64 S, .int .i64 C, .int .i64 N, .int .u64 D, .int .u64 E, .int .i64 s, .int .i64 n]) 0).run Try.prog w = .ok (.slice a m c) w := by
  kernel_rfl
/-- What seven answers. -/
def S7 (w : World) (K : List Int) (e : Ending) (w' : World) : Prop := ∃ (f : Nat → Option Addr) (d : Nat → Nat), e = .returned (.agg #[.slice (f 0) 32 (d 0), .slice (f 1) 32 (d 1), .slice (f 2) 32 (d 2), .slice (f 3) 32 (d 3), .slice (f 4) 32 (d 4), .slice (f 5) 32 (d 5), .slice (f 6) 32 (d 6)]) ∧ (∀ i, i < 7 → Vs w' (fun x => w.heap.size ≤ x) (f i) 32 (d i) K) ∧ Below w.heap.size w w'
def pk7 {α : Type} (x0 x1 x2 x3 x4 x5 x6 : α) : Nat → α
  | 0 => x0 | 1 => x1 | 2 => x2 | 3 => x3 | 4 => x4 | 5 => x5 | _ => x6
set_option maxHeartbeats 16000000 in
/-- The law's seven: each of the seven keys is the key. -/
theorem seven_ (ll : LL) (a : Option Addr) (c : Nat) (k : List Int) (S : Int) (w : World) (hk : Bs w a 32 k) (hS : S = 0 ∨ S = 1) :
    Calls Try.prog 17 #[.slice a 32 c, .int .i64 S] w fun e w' => S7 w k e w' := by
  have hK : k.length = 32 := hk.1
  have B1 := bel_al' w (.cells #[.slice none 0 0, .slice none 0 0, .slice none 0 0, .slice none 0 0, .slice none 0 0, .slice none 0 0, .slice none 0 0] 52)
  have B2 := lnew (w.alloc (.cells #[.slice none 0 0, .slice none 0 0, .slice none 0 0, .slice none 0 0, .slice none 0 0, .slice none 0 0, .slice none 0 0] 52)) a 32 c S 1 2 0 0 0 0
  have HB : Hid (Below w.heap.size w ((w.alloc (.cells #[.slice none 0 0, .slice none 0 0, .slice none 0 0, .slice none 0 0, .slice none 0 0, .slice none 0 0, .slice none 0 0] 52)).alloc (.cells #[.slice a 32 c, .int .i64 S, .int .i64 1, .int .i64 2, .int .u64 0, .int .u64 0, .int .i64 0, .int .i64 0] 29))) := Bw.on (W := w) B1 B2
  have HR := hid ((A7.new w (.slice none 0 0) (.slice none 0 0) (.slice none 0 0) (.slice none 0 0) (.slice none 0 0) (.slice none 0 0) (.slice none 0 0)).kept B2)
  have HL := hid (Lm.new (w.alloc (.cells #[.slice none 0 0, .slice none 0 0, .slice none 0 0, .slice none 0 0, .slice none 0 0, .slice none 0 0, .slice none 0 0] 52)) a 32 c S 1 2 0 0 0 0)
  rw [World.size_alloc] at HL
  have HKB := hid (hk.below HB.out)
  clear B1 B2 hk
  obtain ⟨wc0, HW⟩ : ∃ y, Hid (((w.alloc (.cells #[.slice none 0 0, .slice none 0 0, .slice none 0 0, .slice none 0 0, .slice none 0 0, .slice none 0 0, .slice none 0 0] 52)).alloc (.cells #[.slice a 32 c, .int .i64 S, .int .i64 1, .int .i64 2, .int .u64 0, .int .u64 0, .int .i64 0, .int .i64 0] 29)) = y) := ⟨_, rfl⟩
  obtain ⟨gg, Hg⟩ : ∃ y, Hid (w.heap.size = y) := ⟨_, rfl⟩
  have HWS : Hid (wc0.heap.size = gg + 2) := by show _ = _; rw [← HW.out, ← Hg.out]; simp
  rw [HW.out] at HB HR HL HKB
  rw [Hg.out] at HR HL
  have rS : i64r S := by unfold i64r; omega
  have r0 : i64r 0 := by unfold i64r; omega
  have r1 : i64r 1 := by unfold i64r; omega
  have r2 : i64r 2 := by unfold i64r; omega
  have v0 : u64r 0 := by unfold u64r; omega
  go_enter Try.func17, Try.ntmps17
  go_upto_region 2 with fail
  rw [HW.out, Hg.out]
  clear HW
  have HGE : Hid (gg + 2 ≤ wc0.heap.size) := by show _ ≤ _; rw [HWS.out]; exact Nat.le_refl _
  have kx := ll.again a 32 c k S 1 2 0 0 0 0 wc0 ⟨HKB.out, by omega, rS, r1, r2, v0, v0, r0, r0⟩
  have e0 := HL.out.c0
  have e1 := HL.out.c1
  have e2 := HL.out.c2
  have e3 := HL.out.c3
  have e4 := HL.out.c4
  have e5 := HL.out.c5
  have e6 := HL.out.c6
  have e7 := HL.out.c7
  go_wp2_with fail
  refine kx.mono ?_
  intro e y hy
  clear kx e0 e1 e2 e3 e4 e5 e6 e7
  have eR : agnL ⟨k, S, 1, 2, 0, 0, 0, 0⟩ = ⟨k, S, 3, 2, 0, 0, 0, 0⟩ := by rcases hS with rfl | rfl <;> simp [agnL, agnB, lokL, lok, vld, abN, hK]
  obtain ⟨a1, c1, rfl, vb, gb⟩ := hy.use eR hK
  have NL := lnew y a1 32 c1 S 3 2 0 0 0 0
  have BB := bel_bel (B := wc0.heap.size) gb gb.size NL
  have HBB := hid BB
  have HC1 := hid (Lm.new y a1 32 c1 S 3 2 0 0 0 0).c0
  have HV1 := hid ((vb.wide (V' := fun x => gg + 2 ≤ x) fun x _ hx => by have := HGE.out; omega).step (w' := y.alloc (.cells #[.slice a1 32 c1, .int .i64 S, .int .i64 3, .int .i64 2, .int .u64 0, .int .u64 0, .int .i64 0, .int .i64 0] 29)) fun x hx _ _ => NL.block x hx)
  have HP1 : Hid (gg + 2 ≤ y.heap.size) := by have := HGE.out; have := gb.size; show _ ≤ _; omega
  obtain ⟨wc1, HZ⟩ : ∃ z, Hid (y.alloc (.cells #[.slice a1 32 c1, .int .i64 S, .int .i64 3, .int .i64 2, .int .u64 0, .int .u64 0, .int .i64 0, .int .i64 0] 29) = z) := ⟨_, rfl⟩
  obtain ⟨p1, HP⟩ : ∃ z, Hid (y.heap.size = z) := ⟨_, rfl⟩
  rw [HZ.out] at HC1 HV1 HBB
  rw [HP.out] at HC1 HP1
  clear hy eR vb gb NL BB
  go_upto_region 3 with fail
  rw [HZ.out, HP.out]
  clear HZ HP
  replace HB : Hid (Below w.heap.size w wc1) := bel_bel HB.out HB.out.size HBB.out
  replace HR := hid (HR.out.kept HBB.out)
  replace HL := hid (HL.out.kept HBB.out)
  replace HKB := hid (HKB.out.below HBB.out)
  replace HGE : Hid (gg + 2 ≤ wc1.heap.size) := Nat.le_trans HGE.out HBB.out.size
  clear HBB
  have kx := ll.propose a 32 c k S 1 2 0 0 0 0 wc1 ⟨HKB.out, by omega, rS, r1, r2, v0, v0, r0, r0⟩
  have e0 := HL.out.c0
  have e1 := HL.out.c1
  have e2 := HL.out.c2
  have e3 := HL.out.c3
  have e4 := HL.out.c4
  have e5 := HL.out.c5
  have e6 := HL.out.c6
  have e7 := HL.out.c7
  go_wp2_with fail
  refine kx.mono ?_
  intro e y hy
  clear kx e0 e1 e2 e3 e4 e5 e6 e7
  have eR : prpL ⟨k, S, 1, 2, 0, 0, 0, 0⟩ = ⟨k, S, 1, 3, 0, 0, 0, 0⟩ := by rcases hS with rfl | rfl <;> simp [prpL, agnB, lokL, lok, vld, abN, hK]
  obtain ⟨a2, c2, rfl, vb, gb⟩ := hy.use eR hK
  have NL := lnew y a2 32 c2 S 1 3 0 0 0 0
  have BB := bel_bel (B := wc1.heap.size) gb gb.size NL
  have HBB := hid BB
  have HC2 := hid (Lm.new y a2 32 c2 S 1 3 0 0 0 0).c0
  have HV2 := hid ((vb.wide (V' := fun x => gg + 2 ≤ x) fun x _ hx => by have := HGE.out; omega).step (w' := y.alloc (.cells #[.slice a2 32 c2, .int .i64 S, .int .i64 1, .int .i64 3, .int .u64 0, .int .u64 0, .int .i64 0, .int .i64 0] 29)) fun x hx _ _ => NL.block x hx)
  have HP2 : Hid (gg + 2 ≤ y.heap.size) := by have := HGE.out; have := gb.size; show _ ≤ _; omega
  obtain ⟨wc2, HZ⟩ : ∃ z, Hid (y.alloc (.cells #[.slice a2 32 c2, .int .i64 S, .int .i64 1, .int .i64 3, .int .u64 0, .int .u64 0, .int .i64 0, .int .i64 0] 29) = z) := ⟨_, rfl⟩
  obtain ⟨p2, HP⟩ : ∃ z, Hid (y.heap.size = z) := ⟨_, rfl⟩
  rw [HZ.out] at HC2 HV2 HBB
  rw [HP.out] at HC2 HP2
  clear hy eR vb gb NL BB
  go_upto_region 4 with fail
  rw [HZ.out, HP.out]
  clear HZ HP
  replace HB : Hid (Below w.heap.size w wc2) := bel_bel HB.out HB.out.size HBB.out
  replace HR := hid (HR.out.kept HBB.out)
  replace HL := hid (HL.out.kept HBB.out)
  replace HKB := hid (HKB.out.below HBB.out)
  replace HGE : Hid (gg + 2 ≤ wc2.heap.size) := Nat.le_trans HGE.out HBB.out.size
  replace HC1 := hid (cell_on17 HC1.out HBB.out)
  replace HV1 := hid (HV1.out.step fun x hx _ _ => HBB.out.block x hx)
  clear HBB
  have kx := ll.answered a 32 c k S 1 2 0 0 0 0 2 0 1 0 1 wc2 ⟨HKB.out, by omega, rS, r1, r2, v0, v0, r0, r0⟩ r2 v0 r1 r0 r1
  have e0 := HL.out.c0
  have e1 := HL.out.c1
  have e2 := HL.out.c2
  have e3 := HL.out.c3
  have e4 := HL.out.c4
  have e5 := HL.out.c5
  have e6 := HL.out.c6
  have e7 := HL.out.c7
  go_wp2_with fail
  refine kx.mono ?_
  intro e y hy
  clear kx e0 e1 e2 e3 e4 e5 e6 e7
  have eR : ansL ⟨k, S, 1, 2, 0, 0, 0, 0⟩ 2 0 1 0 1 = ⟨k, S, 2, 2, 2, 1, 1, 0⟩ := by rcases hS with rfl | rfl <;> simp [ansL, ansB, ansC, lokL, lok, blk, upN, vld, lss, hK]
  obtain ⟨a3, c3, rfl, vb, gb⟩ := hy.use eR hK
  have NL := lnew y a3 32 c3 S 2 2 2 1 1 0
  have BB := bel_bel (B := wc2.heap.size) gb gb.size NL
  have HBB := hid BB
  have HC3 := hid (Lm.new y a3 32 c3 S 2 2 2 1 1 0).c0
  have HV3 := hid ((vb.wide (V' := fun x => gg + 2 ≤ x) fun x _ hx => by have := HGE.out; omega).step (w' := y.alloc (.cells #[.slice a3 32 c3, .int .i64 S, .int .i64 2, .int .i64 2, .int .u64 2, .int .u64 1, .int .i64 1, .int .i64 0] 29)) fun x hx _ _ => NL.block x hx)
  have HP3 : Hid (gg + 2 ≤ y.heap.size) := by have := HGE.out; have := gb.size; show _ ≤ _; omega
  obtain ⟨wc3, HZ⟩ : ∃ z, Hid (y.alloc (.cells #[.slice a3 32 c3, .int .i64 S, .int .i64 2, .int .i64 2, .int .u64 2, .int .u64 1, .int .i64 1, .int .i64 0] 29) = z) := ⟨_, rfl⟩
  obtain ⟨p3, HP⟩ : ∃ z, Hid (y.heap.size = z) := ⟨_, rfl⟩
  rw [HZ.out] at HC3 HV3 HBB
  rw [HP.out] at HC3 HP3
  clear hy eR vb gb NL BB
  go_upto_region 5 with fail
  rw [HZ.out, HP.out]
  clear HZ HP
  replace HB : Hid (Below w.heap.size w wc3) := bel_bel HB.out HB.out.size HBB.out
  replace HR := hid (HR.out.kept HBB.out)
  replace HL := hid (HL.out.kept HBB.out)
  replace HKB := hid (HKB.out.below HBB.out)
  replace HGE : Hid (gg + 2 ≤ wc3.heap.size) := Nat.le_trans HGE.out HBB.out.size
  replace HC1 := hid (cell_on17 HC1.out HBB.out)
  replace HV1 := hid (HV1.out.step fun x hx _ _ => HBB.out.block x hx)
  replace HC2 := hid (cell_on17 HC2.out HBB.out)
  replace HV2 := hid (HV2.out.step fun x hx _ _ => HBB.out.block x hx)
  clear HBB
  have kx := ll.reserve a 32 c k S 1 2 0 0 0 0 0 1 wc3 ⟨HKB.out, by omega, rS, r1, r2, v0, v0, r0, r0⟩ v0 r1
  have e0 := HL.out.c0
  have e1 := HL.out.c1
  have e2 := HL.out.c2
  have e3 := HL.out.c3
  have e4 := HL.out.c4
  have e5 := HL.out.c5
  have e6 := HL.out.c6
  have e7 := HL.out.c7
  go_wp2_with fail
  refine kx.mono ?_
  intro e y hy
  clear kx e0 e1 e2 e3 e4 e5 e6 e7
  have eR : resL ⟨k, S, 1, 2, 0, 0, 0, 0⟩ 0 1 = ⟨k, S, 1, 2, 1, 0, 0, 0⟩ := by rcases hS with rfl | rfl <;> simp [resL, resB, lokL, lok, blk, upN, vld, hK]
  obtain ⟨a4, c4, rfl, vb, gb⟩ := hy.use eR hK
  have NL := lnew y a4 32 c4 S 1 2 1 0 0 0
  have BB := bel_bel (B := wc3.heap.size) gb gb.size NL
  have HBB := hid BB
  have HC4 := hid (Lm.new y a4 32 c4 S 1 2 1 0 0 0).c0
  have HV4 := hid ((vb.wide (V' := fun x => gg + 2 ≤ x) fun x _ hx => by have := HGE.out; omega).step (w' := y.alloc (.cells #[.slice a4 32 c4, .int .i64 S, .int .i64 1, .int .i64 2, .int .u64 1, .int .u64 0, .int .i64 0, .int .i64 0] 29)) fun x hx _ _ => NL.block x hx)
  have HP4 : Hid (gg + 2 ≤ y.heap.size) := by have := HGE.out; have := gb.size; show _ ≤ _; omega
  obtain ⟨wc4, HZ⟩ : ∃ z, Hid (y.alloc (.cells #[.slice a4 32 c4, .int .i64 S, .int .i64 1, .int .i64 2, .int .u64 1, .int .u64 0, .int .i64 0, .int .i64 0] 29) = z) := ⟨_, rfl⟩
  obtain ⟨p4, HP⟩ : ∃ z, Hid (y.heap.size = z) := ⟨_, rfl⟩
  rw [HZ.out] at HC4 HV4 HBB
  rw [HP.out] at HC4 HP4
  clear hy eR vb gb NL BB
  go_upto_region 6 with fail
  rw [HZ.out, HP.out]
  clear HZ HP
  replace HB : Hid (Below w.heap.size w wc4) := bel_bel HB.out HB.out.size HBB.out
  replace HR := hid (HR.out.kept HBB.out)
  replace HL := hid (HL.out.kept HBB.out)
  replace HKB := hid (HKB.out.below HBB.out)
  replace HGE : Hid (gg + 2 ≤ wc4.heap.size) := Nat.le_trans HGE.out HBB.out.size
  replace HC1 := hid (cell_on17 HC1.out HBB.out)
  replace HV1 := hid (HV1.out.step fun x hx _ _ => HBB.out.block x hx)
  replace HC2 := hid (cell_on17 HC2.out HBB.out)
  replace HV2 := hid (HV2.out.step fun x hx _ _ => HBB.out.block x hx)
  replace HC3 := hid (cell_on17 HC3.out HBB.out)
  replace HV3 := hid (HV3.out.step fun x hx _ _ => HBB.out.block x hx)
  clear HBB
  have kx := ll.opened a 32 c k S 1 2 0 0 0 0 2 0 1 wc4 ⟨HKB.out, by omega, rS, r1, r2, v0, v0, r0, r0⟩ r2 v0 r1
  have e0 := HL.out.c0
  have e1 := HL.out.c1
  have e2 := HL.out.c2
  have e3 := HL.out.c3
  have e4 := HL.out.c4
  have e5 := HL.out.c5
  have e6 := HL.out.c6
  have e7 := HL.out.c7
  go_wp2_with fail
  refine kx.mono ?_
  intro e y hy
  clear kx e0 e1 e2 e3 e4 e5 e6 e7
  have eR : opnL ⟨k, S, 1, 2, 0, 0, 0, 0⟩ 2 0 1 = ⟨k, S, 2, 2, 2, 1, 0, 0⟩ := by rcases hS with rfl | rfl <;> simp [opnL, opnB, lokL, lok, blk, upN, vld, hK]
  obtain ⟨a5, c5, rfl, vb, gb⟩ := hy.use eR hK
  have NL := lnew y a5 32 c5 S 2 2 2 1 0 0
  have BB := bel_bel (B := wc4.heap.size) gb gb.size NL
  have HBB := hid BB
  have HC5 := hid (Lm.new y a5 32 c5 S 2 2 2 1 0 0).c0
  have HV5 := hid ((vb.wide (V' := fun x => gg + 2 ≤ x) fun x _ hx => by have := HGE.out; omega).step (w' := y.alloc (.cells #[.slice a5 32 c5, .int .i64 S, .int .i64 2, .int .i64 2, .int .u64 2, .int .u64 1, .int .i64 0, .int .i64 0] 29)) fun x hx _ _ => NL.block x hx)
  have HP5 : Hid (gg + 2 ≤ y.heap.size) := by have := HGE.out; have := gb.size; show _ ≤ _; omega
  obtain ⟨wc5, HZ⟩ : ∃ z, Hid (y.alloc (.cells #[.slice a5 32 c5, .int .i64 S, .int .i64 2, .int .i64 2, .int .u64 2, .int .u64 1, .int .i64 0, .int .i64 0] 29) = z) := ⟨_, rfl⟩
  obtain ⟨p5, HP⟩ : ∃ z, Hid (y.heap.size = z) := ⟨_, rfl⟩
  rw [HZ.out] at HC5 HV5 HBB
  rw [HP.out] at HC5 HP5
  clear hy eR vb gb NL BB
  go_upto_region 7 with fail
  rw [HZ.out, HP.out]
  clear HZ HP
  replace HB : Hid (Below w.heap.size w wc5) := bel_bel HB.out HB.out.size HBB.out
  replace HR := hid (HR.out.kept HBB.out)
  replace HL := hid (HL.out.kept HBB.out)
  replace HKB := hid (HKB.out.below HBB.out)
  replace HGE : Hid (gg + 2 ≤ wc5.heap.size) := Nat.le_trans HGE.out HBB.out.size
  replace HC1 := hid (cell_on17 HC1.out HBB.out)
  replace HV1 := hid (HV1.out.step fun x hx _ _ => HBB.out.block x hx)
  replace HC2 := hid (cell_on17 HC2.out HBB.out)
  replace HV2 := hid (HV2.out.step fun x hx _ _ => HBB.out.block x hx)
  replace HC3 := hid (cell_on17 HC3.out HBB.out)
  replace HV3 := hid (HV3.out.step fun x hx _ _ => HBB.out.block x hx)
  replace HC4 := hid (cell_on17 HC4.out HBB.out)
  replace HV4 := hid (HV4.out.step fun x hx _ _ => HBB.out.block x hx)
  clear HBB
  have kx := ll.raise a 32 c k S 1 2 0 0 0 0 0 1 wc5 ⟨HKB.out, by omega, rS, r1, r2, v0, v0, r0, r0⟩ v0 r1
  have e0 := HL.out.c0
  have e1 := HL.out.c1
  have e2 := HL.out.c2
  have e3 := HL.out.c3
  have e4 := HL.out.c4
  have e5 := HL.out.c5
  have e6 := HL.out.c6
  have e7 := HL.out.c7
  go_wp2_with fail
  refine kx.mono ?_
  intro e y hy
  clear kx e0 e1 e2 e3 e4 e5 e6 e7
  have eR : rseL ⟨k, S, 1, 2, 0, 0, 0, 0⟩ 0 1 = ⟨k, S, 1, 2, 0, 1, 0, 0⟩ := by rcases hS with rfl | rfl <;> simp [rseL, rseB, lokL, lok, blk, upN, vld, hK]
  obtain ⟨a6, c6, rfl, vb, gb⟩ := hy.use eR hK
  have NL := lnew y a6 32 c6 S 1 2 0 1 0 0
  have BB := bel_bel (B := wc5.heap.size) gb gb.size NL
  have HBB := hid BB
  have HC6 := hid (Lm.new y a6 32 c6 S 1 2 0 1 0 0).c0
  have HV6 := hid ((vb.wide (V' := fun x => gg + 2 ≤ x) fun x _ hx => by have := HGE.out; omega).step (w' := y.alloc (.cells #[.slice a6 32 c6, .int .i64 S, .int .i64 1, .int .i64 2, .int .u64 0, .int .u64 1, .int .i64 0, .int .i64 0] 29)) fun x hx _ _ => NL.block x hx)
  have HP6 : Hid (gg + 2 ≤ y.heap.size) := by have := HGE.out; have := gb.size; show _ ≤ _; omega
  obtain ⟨wc6, HZ⟩ : ∃ z, Hid (y.alloc (.cells #[.slice a6 32 c6, .int .i64 S, .int .i64 1, .int .i64 2, .int .u64 0, .int .u64 1, .int .i64 0, .int .i64 0] 29) = z) := ⟨_, rfl⟩
  obtain ⟨p6, HP⟩ : ∃ z, Hid (y.heap.size = z) := ⟨_, rfl⟩
  rw [HZ.out] at HC6 HV6 HBB
  rw [HP.out] at HC6 HP6
  clear hy eR vb gb NL BB
  go_upto_region 8 with fail
  rw [HZ.out, HP.out]
  clear HZ HP
  replace HB : Hid (Below w.heap.size w wc6) := bel_bel HB.out HB.out.size HBB.out
  replace HR := hid (HR.out.kept HBB.out)
  replace HL := hid (HL.out.kept HBB.out)
  replace HKB := hid (HKB.out.below HBB.out)
  replace HGE : Hid (gg + 2 ≤ wc6.heap.size) := Nat.le_trans HGE.out HBB.out.size
  replace HC1 := hid (cell_on17 HC1.out HBB.out)
  replace HV1 := hid (HV1.out.step fun x hx _ _ => HBB.out.block x hx)
  replace HC2 := hid (cell_on17 HC2.out HBB.out)
  replace HV2 := hid (HV2.out.step fun x hx _ _ => HBB.out.block x hx)
  replace HC3 := hid (cell_on17 HC3.out HBB.out)
  replace HV3 := hid (HV3.out.step fun x hx _ _ => HBB.out.block x hx)
  replace HC4 := hid (cell_on17 HC4.out HBB.out)
  replace HV4 := hid (HV4.out.step fun x hx _ _ => HBB.out.block x hx)
  replace HC5 := hid (cell_on17 HC5.out HBB.out)
  replace HV5 := hid (HV5.out.step fun x hx _ _ => HBB.out.block x hx)
  clear HBB
  have kn : ∀ wx, Bw wc6 wx → Calls Try.prog 8 #[.slice a 32 c, .int .i64 S] wx fun e w' => ∃ ka kc, e = .returned (.agg #[.slice ka 32 kc, .int .i64 S, .int .i64 1, .int .i64 0, .int .u64 0, .int .u64 0, .int .i64 0, .int .i64 0]) ∧ Vs w' (fun x => wx.heap.size ≤ x) ka 32 kc k ∧ Below wx.heap.size wx w' := fun wx hb => (ll.new a 32 c k S wx (HKB.out.below hb) (by omega) rS).mono fun e w' hy => hy.use (show newL k S = ⟨k, S, 1, 0, 0, 0, 0, 0⟩ from by unfold newL; rw [decide_eq_true ⟨hK, hS⟩]; rfl) hK
  have BW0 : Bw wc6 { wc6 with drawn := wc6.drawn + 1 } := Bw.drew wc6
  have s1 := HC1.out
  have s2 := HC2.out
  have s3 := HC3.out
  have s4 := HC4.out
  have s5 := HC5.out
  have s6 := HC6.out
  have hfl := fld0
  go_region_held (fun wx => wx.cell? ⟨p1, 0, none⟩ = some (.slice a1 32 c1) ∧ wx.cell? ⟨p2, 0, none⟩ = some (.slice a2 32 c2) ∧ wx.cell? ⟨p3, 0, none⟩ = some (.slice a3 32 c3) ∧ wx.cell? ⟨p4, 0, none⟩ = some (.slice a4 32 c4) ∧ wx.cell? ⟨p5, 0, none⟩ = some (.slice a5 32 c5) ∧ wx.cell? ⟨p6, 0, none⟩ = some (.slice a6 32 c6)) (first | go_keep | exact ⟨t1, t2, t3, t4, t5, t6⟩) (first | (go_at_call 8; refine (kn _ BW0).mono ?_; rintro en y5 ⟨ka, kc, rfl, v1, g1⟩; have G1 := Bw.on BW0 g1; have i1 := Bw.cell G1 HC1.out; have i2 := Bw.cell G1 HC2.out; have i3 := Bw.cell G1 HC3.out; have i4 := Bw.cell G1 HC4.out; have i5 := Bw.cell G1 HC5.out; have i6 := Bw.cell G1 HC6.out; have HR5 := hid (HR.out.kept G1); have zc0 := HR5.out.c0; have zf0 := HR5.out.fz 0; have zc1 := HR5.out.c1; have zf1 := HR5.out.fz 1; have zc2 := HR5.out.c2; have zf2 := HR5.out.fz 2; have zc3 := HR5.out.c3; have zf3 := HR5.out.fz 3; have zc4 := HR5.out.c4; have zf4 := HR5.out.fz 4; have zc5 := HR5.out.c5; have zf5 := HR5.out.fz 5; have zc6 := HR5.out.c6; have zf6 := HR5.out.fz 6; have t1 := (World.cell?_of_block (w := y5) (a := ⟨p1, 0, none⟩) (set7_other (w := y5) (g := gg) (j := p1) (by have := HP1.out; omega) (.slice ka 32 kc) (.slice a1 32 c1) (.slice a2 32 c2) (.slice a3 32 c3) (.slice a4 32 c4) (.slice a5 32 c5) (.slice a6 32 c6))).trans i1; have t2 := (World.cell?_of_block (w := y5) (a := ⟨p2, 0, none⟩) (set7_other (w := y5) (g := gg) (j := p2) (by have := HP2.out; omega) (.slice ka 32 kc) (.slice a1 32 c1) (.slice a2 32 c2) (.slice a3 32 c3) (.slice a4 32 c4) (.slice a5 32 c5) (.slice a6 32 c6))).trans i2; have t3 := (World.cell?_of_block (w := y5) (a := ⟨p3, 0, none⟩) (set7_other (w := y5) (g := gg) (j := p3) (by have := HP3.out; omega) (.slice ka 32 kc) (.slice a1 32 c1) (.slice a2 32 c2) (.slice a3 32 c3) (.slice a4 32 c4) (.slice a5 32 c5) (.slice a6 32 c6))).trans i3; have t4 := (World.cell?_of_block (w := y5) (a := ⟨p4, 0, none⟩) (set7_other (w := y5) (g := gg) (j := p4) (by have := HP4.out; omega) (.slice ka 32 kc) (.slice a1 32 c1) (.slice a2 32 c2) (.slice a3 32 c3) (.slice a4 32 c4) (.slice a5 32 c5) (.slice a6 32 c6))).trans i4; have t5 := (World.cell?_of_block (w := y5) (a := ⟨p5, 0, none⟩) (set7_other (w := y5) (g := gg) (j := p5) (by have := HP5.out; omega) (.slice ka 32 kc) (.slice a1 32 c1) (.slice a2 32 c2) (.slice a3 32 c3) (.slice a4 32 c4) (.slice a5 32 c5) (.slice a6 32 c6))).trans i5; have t6 := (World.cell?_of_block (w := y5) (a := ⟨p6, 0, none⟩) (set7_other (w := y5) (g := gg) (j := p6) (by have := HP6.out; omega) (.slice ka 32 kc) (.slice a1 32 c1) (.slice a2 32 c2) (.slice a3 32 c3) (.slice a4 32 c4) (.slice a5 32 c5) (.slice a6 32 c6))).trans i6; have HV1' := hid v1; have HG1 := hid G1; clear v1 g1))
  all_goals (
    go_wp2_with fail
    refine bodyPost_ret (v := .agg #[.slice ka 32 kc, .slice a1 32 c1, .slice a2 32 c2, .slice a3 32 c3, .slice a4 32 c4, .slice a5 32 c5, .slice a6 32 c6]) ?_ rfl ?_
    · exact results_cell_row rfl _ _ gg _ _ _ _ rfl (HR5.out.set7 (.slice ka 32 kc) (.slice a1 32 c1) (.slice a2 32 c2) (.slice a3 32 c3) (.slice a4 32 c4) (.slice a5 32 c5) (.slice a6 32 c6)) Try.underlying52 rfl size7
    · refine ⟨pk7 ka a1 a2 a3 a4 a5 a6, pk7 kc c1 c2 c3 c4 c5 c6, rfl, ?_, ?_⟩
      · have hne : ∀ x, gg + 2 ≤ x → x ≠ gg := fun x hx => by omega
        have q0 : Vs _ (fun x => w.heap.size ≤ x) ka 32 kc k := ((HV1'.out.wide (V' := fun x => gg + 2 ≤ x) fun x _ hx => Nat.le_trans HGE.out hx).step fun x _ hx _ => set7_other (w := y5) (g := gg) (hne x hx) (.slice ka 32 kc) (.slice a1 32 c1) (.slice a2 32 c2) (.slice a3 32 c3) (.slice a4 32 c4) (.slice a5 32 c5) (.slice a6 32 c6)).wide fun x _ hx => by have := Hg.out; omega
        have q1 : Vs _ (fun x => w.heap.size ≤ x) a1 32 c1 k := ((HV1.out.step fun x hx _ _ => HG1.out.block x hx).step fun x _ hx _ => set7_other (w := y5) (g := gg) (hne x hx) (.slice ka 32 kc) (.slice a1 32 c1) (.slice a2 32 c2) (.slice a3 32 c3) (.slice a4 32 c4) (.slice a5 32 c5) (.slice a6 32 c6)).wide fun x _ hx => by have := Hg.out; omega
        have q2 : Vs _ (fun x => w.heap.size ≤ x) a2 32 c2 k := ((HV2.out.step fun x hx _ _ => HG1.out.block x hx).step fun x _ hx _ => set7_other (w := y5) (g := gg) (hne x hx) (.slice ka 32 kc) (.slice a1 32 c1) (.slice a2 32 c2) (.slice a3 32 c3) (.slice a4 32 c4) (.slice a5 32 c5) (.slice a6 32 c6)).wide fun x _ hx => by have := Hg.out; omega
        have q3 : Vs _ (fun x => w.heap.size ≤ x) a3 32 c3 k := ((HV3.out.step fun x hx _ _ => HG1.out.block x hx).step fun x _ hx _ => set7_other (w := y5) (g := gg) (hne x hx) (.slice ka 32 kc) (.slice a1 32 c1) (.slice a2 32 c2) (.slice a3 32 c3) (.slice a4 32 c4) (.slice a5 32 c5) (.slice a6 32 c6)).wide fun x _ hx => by have := Hg.out; omega
        have q4 : Vs _ (fun x => w.heap.size ≤ x) a4 32 c4 k := ((HV4.out.step fun x hx _ _ => HG1.out.block x hx).step fun x _ hx _ => set7_other (w := y5) (g := gg) (hne x hx) (.slice ka 32 kc) (.slice a1 32 c1) (.slice a2 32 c2) (.slice a3 32 c3) (.slice a4 32 c4) (.slice a5 32 c5) (.slice a6 32 c6)).wide fun x _ hx => by have := Hg.out; omega
        have q5 : Vs _ (fun x => w.heap.size ≤ x) a5 32 c5 k := ((HV5.out.step fun x hx _ _ => HG1.out.block x hx).step fun x _ hx _ => set7_other (w := y5) (g := gg) (hne x hx) (.slice ka 32 kc) (.slice a1 32 c1) (.slice a2 32 c2) (.slice a3 32 c3) (.slice a4 32 c4) (.slice a5 32 c5) (.slice a6 32 c6)).wide fun x _ hx => by have := Hg.out; omega
        have q6 : Vs _ (fun x => w.heap.size ≤ x) a6 32 c6 k := ((HV6.out.step fun x hx _ _ => HG1.out.block x hx).step fun x _ hx _ => set7_other (w := y5) (g := gg) (hne x hx) (.slice ka 32 kc) (.slice a1 32 c1) (.slice a2 32 c2) (.slice a3 32 c3) (.slice a4 32 c4) (.slice a5 32 c5) (.slice a6 32 c6)).wide fun x _ hx => by have := Hg.out; omega
        intro i hi
        match i, hi with
        | 0, _ => exact q0
        | 1, _ => exact q1
        | 2, _ => exact q2
        | 3, _ => exact q3
        | 4, _ => exact q4
        | 5, _ => exact q5
        | 6, _ => exact q6
      · exact set7_bel (bel_bel HB.out HB.out.size HG1.out) (by have := Hg.out; omega) (.slice ka 32 kc) (.slice a1 32 c1) (.slice a2 32 c2) (.slice a3 32 c3) (.slice a4 32 c4) (.slice a5 32 c5) (.slice a6 32 c6))
end Go.Proofs.Ytmbopaemnlikkaa
