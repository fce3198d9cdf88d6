import Derived.Test.YtbdmgciibfgmbaaGreatDoorSList
import Derived.Test.YtbdmgciibfgmbaaGreatDoorKTold
namespace Go.Proofs.YtbdmgciibfgmbaaGreatDoor
open Go.RowKit
set_option linter.unusedVariables false
set_option maxRecDepth 100000

theorem built_book : Tryz.prog.built 43 [] = some (bookCells 0 (.slice none 0 0) (.slice none 0 0) (.slice none 0 0)) := by kernel_rfl
theorem wpList_book {ops : Array Oper} {rest : List Oper} {o : Oper} {a : Act} {w : World} {Q : Exit → Act → World → Prop} (hg : o.guard = none) (ho : o.op = .build 43 #[])
    (h : wpList Tryz.prog ops Q rest (a.put o.dst (.agg (bookCells 0 (.slice none 0 0) (.slice none 0 0) (.slice none 0 0)))) w) : wpList Tryz.prog ops Q (o :: rest) a w := by
  exact wpList_build hg 43 #[] ho (by simp [built_book]) (by simpa [built_book] using h)
theorem new_book (w : World) : Bk (w.alloc (.cells (bookCells 0 (.slice none 0 0) (.slice none 0 0) (.slice none 0 0)) 43)) w.heap.size 0 (.slice none 0 0) (.slice none 0 0) (.slice none 0 0) := heap_alloc_new w _
theorem bo_start {w : World} {k base : Nat} (h : Bk w k 0 (.slice none 0 0) (.slice none 0 0) (.slice none 0 0)) : Bo w k base 0 0 (fun _ => ⟨none, 0, 0⟩) (fun _ => ⟨none, 0, 0⟩) (.slice none 0 0) (.slice none 0 0) :=
  ⟨h, own_nil _ _ _, own_nil _ _ _, fun q hq => by simp [Value.ownBlock] at hq, fun i hi => by omega, fun i hi => by omega, fun i j hi => by omega⟩
theorem below_wz {p : Nat → Nat → Prop} {w w' : World} {B : Nat} (z : Wz p w w') (h : ∀ b, b < B → w'.heap[b]? = w.heap[b]?) : Below B w w' := ⟨z.os, z.tape, z.output, z.size, h⟩
set_option maxHeartbeats 3000000 in
theorem stampOwns_ (a : Option Addr) (n c : Nat) (K N : Nat → Int) (w : World) (hT : Tb w) (hnc : n ≤ c ∧ c ≤ maxLen) (hL : IsSt w a n K N) :
    Calls Tryz.prog 3 #[.slice a n c] w fun e w' => e = .returned (.bool true) ∧ Below w.heap.size w w' := by
  have HL := hid hL
  have hn := hnc.1
  have hc := hnc.2
  unfold maxLen at hc
  clear hL hnc
  have B0 := Below.refl w.heap.size w
  go_enter Tryz.func3, Tryz.ntmps3
  go_wp2_with fail
  refine (known_ _ (hT.kept B0)).mono ?_
  rintro e w1 ⟨rfl, g2⟩
  replace B0 := bel_bel B0 B0.size g2
  clear g2
  go_wp2_with (refine wpList_book rfl rfl ?_)
  generalize hbc : bookCells 0 (.slice none 0 0) (.slice none 0 0) (.slice none 0 0) = bc at *
  have NB : Bk (w1.alloc (.cells bc 43)) w1.heap.size 0 (.slice none 0 0) (.slice none 0 0) (.slice none 0 0) := by rw [← hbc]; exact new_book w1
  have hk : w.heap.size ≤ w1.heap.size := B0.size
  replace B0 : Below w.heap.size w (w1.alloc (.cells bc 43)) := B0.alloc B0.size _
  clear hbc
  generalize w1.heap.size = k at *
  generalize w1.alloc (.cells bc 43) = w2 at *
  have b0 := bo_start (base := w.heap.size) NB
  clear NB
  go_loopw [4] (fun i wr => ∃ (j : Nat) (E G : Nat → Ent) (v2 v3 : Value), j ≤ 60 ∧ j ≤ n ∧ i = .int .i64 j ∧ Bo wr k w.heap.size (2 * j) (2 * j) E G v2 v3 ∧ Hid (∀ l, l < 2 * j → ∀ b x, (E l).In b x → w.heap.size ≤ b) ∧ Below w.heap.size w wr) (fun i _ => 60 - (intOf i).toNat)
  case atStart => exact ⟨0, _, _, _, _, by omega, by omega, rfl, b0, fun l hl => by omega, B0⟩
  case round =>
    clear b0 B0
    obtain ⟨j, E, G, v2, v3, hj60, hjn, rfl, b0, HLO, B0⟩ := hrel
    by_cases hlt : j < n ∧ j < 60
    · obtain ⟨hl1, hl2⟩ := hlt
      have hI1 : (j : Int) < (n : Int) := by omega
      have hI2 : (j : Int) < 60 := by omega
      obtain ⟨b, off, rfl, HC⟩ : ∃ b off, a = some ⟨b, off, none⟩ ∧ Hid (∀ i, i < n → (w.cell? ⟨b, off + i * 2, none⟩ = some (.int .i64 (K i)) ∧ w.cell? ⟨b, off + i * 2 + 1, none⟩ = some (.int .i64 (N i))) ∧ InI (K i) ∧ InI (N i)) := by
        rcases HL.out with h | ⟨b, off, e, h⟩
        · omega
        · exact ⟨b, off, e, h⟩
      obtain ⟨⟨d0, d1⟩, hK, hN⟩ := HC.out j hl1
      have HLB : Hid (b < w.heap.size) := World.block_lt_of_cell? w _ d0
      have HD0 := hid d0
      have HD1 := hid d1
      have k1 := fun w => put_ (K j) (N j) w hK hN
      have k2 := fun w => refPut_ (K j) (N j) w hK hN
      have HPB := hid (pt_byte (K j) (N j))
      have HPL : (pt (K j) (N j)).length ≤ 12 := by rw [pt_length]; split <;> omega
      obtain ⟨L, HLL⟩ : ∃ L, Hid (pt (K j) (N j) = L) := ⟨_, rfl⟩
      rw [HLL.out] at HPB HPL
      simp only [HLL.out] at k1 k2
      clear d0 d1 HL HC hK hN
      obtain ⟨kk, Hk⟩ : ∃ k, Hid (K j = k) := ⟨_, rfl⟩
      obtain ⟨mm, Hm⟩ : ∃ m, Hid (N j = m) := ⟨_, rfl⟩
      rw [Hk.out, Hm.out] at k1 k2
      rw [Hk.out] at HD0
      rw [Hm.out] at HD1
      obtain ⟨wo, rfl⟩ : ∃ wo, wo = wr := ⟨_, rfl⟩
      go_wp2_with fail
      go_loopw [5] (fun i wr => ∃ (q : Nat) (E G : Nat → Ent) (v2 v3 : Value), q ≤ 2 ∧ i = .int .i64 q ∧ Bo wr k w.heap.size (2 * j + q) (2 * j + q) E G v2 v3 ∧ Hid (∀ l, l < 2 * j + q → ∀ b x, (E l).In b x → w.heap.size ≤ b) ∧ Below w.heap.size w wr) (fun i _ => 2 - (intOf i).toNat)
      case atStart => exact ⟨0, E, G, v2, v3, by omega, rfl, b0, HLO, B0⟩
      case round =>
        clear b0 B0 HLO
        obtain ⟨q, E, G, v2, v3, hq, rfl, b0, HLO, B0⟩ := hrel
        by_cases hlt : q < 2
        · have hI : (q : Int) < 2 := by omega
          have c0 := (B0.cell HLB.out).trans HD0.out
          have c1 := (B0.cell HLB.out).trans HD1.out
          have HB0 := hid b0
          have HBW := hid B0
          clear b0 B0
          go_wp2_with fail
          refine (k1 _).mono ?_
          rintro e w3 ⟨v, rfl, ho, g2⟩
          obtain ⟨ea, ec, rfl, eok, ebs, elo⟩ := own_ent ho HPB.out (by omega)
          have HEO := hid eok
          have HEB := hid ebs
          have HEL := hid elo
          have HB1 := hid (HB0.out.below (Nat.le_refl _) g2)
          have HW1 := hid (bel_bel HBW.out HBW.out.size g2)
          have HDJ : Hid (∀ i, i < 2 * j + q → ∀ b x, (E i).In b x → ¬ Ent.In ⟨ea, L.length, ec⟩ b x) := fun i hi b x h1 h2 => by
            have := ok_lt (HB0.out.e i hi).1 h1
            have := HEL.out b x h2
            omega
          have HLO2 : Hid (∀ b x, Ent.In ⟨ea, L.length, ec⟩ b x → w.heap.size ≤ b) := fun b x h => Nat.le_trans HBW.out.size (HEL.out b x h)
          clear g2 ho eok ebs elo c0 c1 HB0 HBW HEL
          have c0 := (HW1.out.cell HLB.out).trans HD0.out
          have c1 := (HW1.out.cell HLB.out).trans HD1.out
          go_wp2_with fail
          refine (k2 _).mono ?_
          rintro e w4 ⟨v, rfl, ho, g2⟩
          obtain ⟨qa, qc, rfl, qb, _, _, _⟩ := own_form ho HPB.out
          have HB2 := hid (HB1.out.below (Nat.le_refl _) g2)
          have HW2 := hid (bel_bel HW1.out HW1.out.size g2)
          have HEB2 := hid (HEB.out.below g2)
          have HEO2 : Hid (Ent.Ok w4 ⟨ea, L.length, ec⟩) := HEO.out.wz (p := fun _ _ => False) (.ofWk (.ofBelow g2))
          clear g2 ho c0 c1 HB1 HW1 HEB HEO
          go_wp2_with fail
          refine (same_yes ea qa _ ec _ qc L _ HEB2.out qb (by omega) (by omega)).mono ?_
          rintro e w5 ⟨rfl, D⟩
          have g2 := D.below
          have HB3 := hid (HB2.out.below (Nat.le_refl _) g2)
          have HW3 := hid (bel_bel HW2.out HW2.out.size g2)
          have HEB3 := hid (HEB2.out.below g2)
          have HEO3 : Hid (Ent.Ok w5 ⟨ea, L.length, ec⟩) := HEO2.out.wz (p := fun _ _ => False) (.ofWk (.ofBelow g2))
          clear D g2 HB2 HW2 HEB2 HEO2 qb
          go_wp2_with fail
          refine (bookBytes5_ k w.heap.size (2 * j + q) E G v2 v3 ⟨ea, L.length, ec⟩ L _ HB3.out HEO3.out (by show L.length ≤ 5000; omega) HEB3.out HDJ.out (by omega) HW3.out.size hk).mono ?_
          rintro e w6 ⟨rfl, ⟨f, v2', v3', nb, _⟩, z, lo⟩
          have B6 := HW3.out.trans (below_wz z lo)
          have HLO3 : Hid (∀ l, l < 2 * j + (q + 1) → ∀ b x, (upd E (2 * j + q) ⟨ea, L.length, ec⟩ l).In b x → w.heap.size ≤ b) := fun l hl b x h => by
            by_cases e : l = 2 * j + q
            · subst e
              rw [upd_same] at h
              exact HLO2.out b x h
            · rw [upd_other _ e] at h
              exact HLO.out l (by omega) b x h
          clear z lo HB3 HW3 HEB3 HEO3 HDJ HLO2 HLO
          go_wp2_with fail
          go_roundw
          case rel => exact ⟨q + 1, _, _, v2', v3', by omega, by go_num, nb, HLO3, B6⟩
          case measure => simp [intOf]; omega
        · have hI : ¬ (q : Int) < 2 := by omega
          obtain rfl : q = 2 := by omega
          go_wp2_with fail
          go_roundw
          case rel => exact ⟨j + 1, E, G, v2, v3, by omega, by omega, by go_num, b0, HLO, B0⟩
          case measure => simp [intOf]; omega
    · have HF := hid b0
      have HW := hid B0
      clear b0 B0
      by_cases hjn2 : j < n
      · have hI1 : (j : Int) < (n : Int) := by omega
        have hI2 : ¬ (j : Int) < 60 := by omega
        go_wp2_with fail
        refine (finish_ k w.heap.size (2 * j) E G v2 v3 _ HF.out.bk HF.out.t2 HF.out.t3 (fun i hi => (HF.out.g i hi).2) (fun i hi => HF.out.e i hi) HF.out.d (by omega) ⟨hk, HW.out.size, HLO.out⟩).mono ?_
        rintro e w3 ⟨rfl, z, lo⟩
        have B3 := HW.out.trans (below_wz z lo)
        clear z lo HF HW HLO
        go_wp2_with fail
        refine (known_ _ (hT.kept B3)).mono ?_
        rintro e w4 ⟨rfl, g2⟩
        replace B3 := bel_bel B3 B3.size g2
        clear g2
        go_wp2_with fail
        go_ret
        exact ⟨rfl, B3⟩
      · have hI1 : ¬ (j : Int) < (n : Int) := by omega
        go_wp2_with fail
        refine (finish_ k w.heap.size (2 * j) E G v2 v3 _ HF.out.bk HF.out.t2 HF.out.t3 (fun i hi => (HF.out.g i hi).2) (fun i hi => HF.out.e i hi) HF.out.d (by omega) ⟨hk, HW.out.size, HLO.out⟩).mono ?_
        rintro e w3 ⟨rfl, z, lo⟩
        have B3 := HW.out.trans (below_wz z lo)
        clear z lo HF HW HLO
        go_wp2_with fail
        refine (known_ _ (hT.kept B3)).mono ?_
        rintro e w4 ⟨rfl, g2⟩
        replace B3 := bel_bel B3 B3.size g2
        clear g2
        go_wp2_with fail
        go_ret
        exact ⟨rfl, B3⟩
end Go.Proofs.YtbdmgciibfgmbaaGreatDoor
