import Derived.Test.YtnjfckijpbgagaaH5
import Derived.Test.YtnjfckijpbgagaaH4
import Derived.Lib.AppendZerosOnto
import Derived.Test.YtnjfckijpbgagaaN4
import Derived.Test.YtnjfckijpbgagaaN0
namespace Go.Proofs.Ytnjfckijpbgagaa
set_option maxRecDepth 100000
open Go.RowKit
set_option linter.unusedVariables false

theorem num_ (E : Int) (w : World) : Calls Try.prog 13 #[.int .i64 E] w fun e w' => e = .returned (.int .i64 E) ∧ w' = w := by
  go_enter Try.func13, Try.ntmps13
  go_wp2_with fail
  go_ret
  exact ⟨rfl, rfl⟩
theorem sameHead_ (T K G C : Int) (w : World) : Calls Try.prog 17 #[.agg #[.int .i64 T, .int .i64 K, .int .i64 G, .int .u64 C], .agg #[.int .i64 T, .int .i64 K, .int .i64 G, .int .u64 C]] w fun e w' => e = .returned (.bool true) ∧ Below w.heap.size w w' := by
  have B0 := (hnew w T K G C).alloc (by simp) (.cells #[.int .i64 T, .int .i64 K, .int .i64 G, .int .u64 C] 25)
  go_enter Try.func17, Try.ntmps17
  go_wp2_with fail
  go_ret
  exact ⟨rfl, B0⟩
theorem zeros_cells (n : Nat) : Builtin.zeroCells #[Value.int .u8 0] n = (cells (List.replicate n 0)).toArray := by
  apply Array.ext
  · simp [Builtin.zeroCells, cells]
  · intro i h1 h2
    simp [Builtin.zeroCells, cells, Nat.mod_one]
def want20 : List Int := [3, 0, 0, 0, 0, 0, 0, 7, 0, 0, 0, 1, 0, 0, 0, 0, 0, 0, 1, 2]
def want12 : List Int := [128, 0, 0, 1, 0, 0, 0, 0, 0, 0, 1, 2]
theorem ex_head : hB 3 7 1 258 = want20 ∧ hE 3 7 1 258 = 0 := by decide
theorem ex_nonce : nB 1 1 258 = want12 := by decide
def want45 : List Int := want20 ++ List.replicate 25 0
theorem ex_get : gZ want45 (gT want45) = 3 ∧ gZ want45 (gK want45) = 7 ∧ gZ want45 (gG want45) = 1 ∧ gZ want45 (gC want45) = 258 ∧ gE want45 = 0 := by decide
set_option maxHeartbeats 4000000 in
/-- The chapter's first example. -/
theorem first_ (w : World) : Calls Try.prog 14 #[] w fun e w' => e = .returned (.bool true) ∧ Below w.heap.size w w' := by
  obtain ⟨i5, hi, hz0, hz1, hz2⟩ := info_parts info5
  have B0 := hnew w 3 7 1 258
  have m0 := Hm.new w 3 7 1 258
  have k1 := fun w => putHead_ 3 7 1 258 w ⟨by decide, by decide⟩
  rw [ex_head.1, ex_head.2] at k1
  have k2 := fun w => nonce_ 1 1 258 w ⟨by decide, by decide⟩
  rw [ex_nonce] at k2
  have HB := hid B0
  have HM := hid m0
  clear B0 m0
  go_enter Try.func14, Try.ntmps14
  go_wp2_with fail
  refine (k1 _).mono ?_
  rintro e w1 ⟨v1, rfl, o1, g1⟩
  obtain ⟨a1, c1, rfl, y1, _⟩ := own_form o1 (by decide)
  have BA := (Below.refl w1.heap.size w1).alloc (Nat.le_refl _) (.cells #[.int .u8 3, .int .u8 0, .int .u8 0, .int .u8 0, .int .u8 0, .int .u8 0, .int .u8 0, .int .u8 7, .int .u8 0, .int .u8 0, .int .u8 0, .int .u8 1, .int .u8 0, .int .u8 0, .int .u8 0, .int .u8 0, .int .u8 0, .int .u8 0, .int .u8 1, .int .u8 2] 5)
  have R1 : Hid (Row (w1.alloc (.cells #[.int .u8 3, .int .u8 0, .int .u8 0, .int .u8 0, .int .u8 0, .int .u8 0, .int .u8 0, .int .u8 7, .int .u8 0, .int .u8 0, .int .u8 0, .int .u8 1, .int .u8 0, .int .u8 0, .int .u8 0, .int .u8 0, .int .u8 0, .int .u8 0, .int .u8 1, .int .u8 2] 5)) w1.heap.size want20) := heap_alloc_new w1 _
  have Y1 := hid (y1.below BA)
  have M1 := hid ((HM.out.kept g1).kept BA)
  have B1 := hid (bel_bel (bel_bel HB.out HB.out.size g1) (bel_bel HB.out HB.out.size g1).size BA)
  clear k1 o1 g1 y1 HB HM BA
  go_wp2_with fail
  generalize w1.alloc (.cells #[.int .u8 3, .int .u8 0, .int .u8 0, .int .u8 0, .int .u8 0, .int .u8 0, .int .u8 0, .int .u8 7, .int .u8 0, .int .u8 0, .int .u8 0, .int .u8 1, .int .u8 0, .int .u8 0, .int .u8 0, .int .u8 0, .int .u8 0, .int .u8 0, .int .u8 1, .int .u8 2] 5) = wa at *
  generalize w1.heap.size = q at *
  have HW : Hid (Bs wa (some ⟨q, 0, none⟩) 20 want20) := R1.out.bs (by decide)
  refine (same_yes a1 (some ⟨q, 0, none⟩) 20 c1 20 20 want20 wa Y1.out HW.out (by decide) (by decide)).mono ?_
  rintro e w2 ⟨rfl, d2⟩
  have M2 := hid (M1.out.kept d2.below)
  have B2 := hid (bel_bel B1.out B1.out.size d2.below)
  have R2 : Hid (Row w2 q want20) := by
    show Row _ _ _
    unfold Row
    rw [d2.at]
    exact R1.out
  clear R1 Y1 M1 B1 HW d2
  go_wp2_with fail
  refine (k2 _).mono ?_
  rintro e w3 ⟨v3, rfl, o3, g3⟩
  obtain ⟨a3, c3, rfl, y3, _⟩ := own_form o3 (by decide)
  have BA := (Below.refl w3.heap.size w3).alloc (Nat.le_refl _) (.cells #[.int .u8 128, .int .u8 0, .int .u8 0, .int .u8 1, .int .u8 0, .int .u8 0, .int .u8 0, .int .u8 0, .int .u8 0, .int .u8 0, .int .u8 1, .int .u8 2] 5)
  have N3 : Hid (Row (w3.alloc (.cells #[.int .u8 128, .int .u8 0, .int .u8 0, .int .u8 1, .int .u8 0, .int .u8 0, .int .u8 0, .int .u8 0, .int .u8 0, .int .u8 0, .int .u8 1, .int .u8 2] 5)) w3.heap.size want12) := heap_alloc_new w3 _
  have Y3 := hid (y3.below BA)
  have M3 := hid ((M2.out.kept g3).kept BA)
  have B3 := hid (bel_bel (bel_bel B2.out B2.out.size g3) (bel_bel B2.out B2.out.size g3).size BA)
  have R3 : Hid (Row (w3.alloc (.cells #[.int .u8 128, .int .u8 0, .int .u8 0, .int .u8 1, .int .u8 0, .int .u8 0, .int .u8 0, .int .u8 0, .int .u8 0, .int .u8 0, .int .u8 1, .int .u8 2] 5)) q want20) := by
    show Row _ _ _
    have hq := R2.out.lt
    unfold Row
    rw [BA.block q (Nat.lt_of_lt_of_le hq g3.size), g3.block q hq]
    exact R2.out
  clear k2 o3 g3 y3 BA M2 B2 R2
  go_wp2_with fail
  generalize w3.alloc (.cells #[.int .u8 128, .int .u8 0, .int .u8 0, .int .u8 1, .int .u8 0, .int .u8 0, .int .u8 0, .int .u8 0, .int .u8 0, .int .u8 0, .int .u8 1, .int .u8 2] 5) = wb at *
  generalize w3.heap.size = q3 at *
  have HN : Hid (Bs wb (some ⟨q3, 0, none⟩) 12 want12) := N3.out.bs (by decide)
  refine (same_yes a3 (some ⟨q3, 0, none⟩) 12 c3 12 12 want12 wb Y3.out HN.out (by decide) (by decide)).mono ?_
  rintro e w4 ⟨rfl, d4⟩
  have M4 := hid (M3.out.kept d4.below)
  have B4 := hid (bel_bel B3.out B3.out.size d4.below)
  have R4 : Hid (Row w4 q want20) := by
    show Row _ _ _
    unfold Row
    rw [d4.at]
    exact R3.out
  clear M3 B3 R3 d4 N3 Y3 HN
  have HOLD : Hid ((Builtin.firstCells i5.size 20 (.slice (some ⟨q, 0, none⟩) 20 20)).run Try.prog w4.drew = .ok (cells want20).toArray w4.drew) := by
    show _ = _
    refine run_firstCells_some w4.drew i5.size 20 ⟨q, 0, none⟩ 20 20 (cells want20) (by rw [hz1]; rfl) (fun j v hj => ?_)
    have hj' : j < 20 := (List.getElem?_eq_some_iff.1 hj).1
    rw [Addr.add_lit, Nat.zero_add]
    show w4.cell? ⟨q, j, none⟩ = some v
    rw [cell_of_row w4 q j _ _ (0, 0) R4.out, ← hj]
    simp
  have hrz := fun ty => Lib.run_append_grow_zeros (P := Try.prog) w4 22 3 ty 5 i5 (.int .u8 0) .i64 .i64 Try.underlying22 Try.underlying3 hi hz0 (some ⟨q, 0, none⟩) 20 20 (cells want20) HOLD.out 25 (by decide) (by omega) (by decide) (by decide) (by rw [hz2]; decide) (by rw [hz2]; decide)
  have hGn : 45 ≤ grownCap w4 45 20 5 := grownCap_ge w4 _ _ _
  have hG63 := grownCap_le_maxLen w4 45 20 5 (by unfold maxLen; omega)
  obtain ⟨G, hG⟩ : ∃ G, G = grownCap w4 (20 + 25) 20 5 := ⟨_, rfl⟩
  replace hGn : 45 ≤ G := by rw [hG]; exact hGn
  replace hG63 : G ≤ maxLen := by rw [hG]; exact hG63
  rw [← hG] at hrz
  clear hG
  have HRZ := hid hrz
  clear hrz
  go_wp2_with (at_builtin; refine Lib.wpList_append_run _ rfl _ _ _ _ rfl _ _ rfl rfl _ _ (HRZ.out _) ?_)
  have hG0 := hG63
  unfold maxLen at hG0
  have RG : Hid ((w4.alloc (.cells ((cells want20).toArray ++ (Builtin.zeroCells #[.int .u8 0] 25 ++ Builtin.zeroCells #[.int .u8 0] (G - 45))) 5)).drew.heap[w4.heap.size]? = some (.cells ((cells want20).toArray ++ (Builtin.zeroCells #[.int .u8 0] 25 ++ Builtin.zeroCells #[.int .u8 0] (G - 45))) 5 (0, 0))) := heap_alloc_new w4 _
  have B5 : Hid (Below w4.heap.size w4 (w4.alloc (.cells ((cells want20).toArray ++ (Builtin.zeroCells #[.int .u8 0] 25 ++ Builtin.zeroCells #[.int .u8 0] (G - 45))) 5)).drew) := by
    have hA := (Below.refl w4.heap.size w4).alloc (Nat.le_refl _) (.cells ((cells want20).toArray ++ (Builtin.zeroCells #[.int .u8 0] 25 ++ Builtin.zeroCells #[.int .u8 0] (G - 45))) 5)
    exact ⟨hA.os, hA.tape, hA.output, hA.size, hA.block⟩
  have YG : Hid (Bs (w4.alloc (.cells ((cells want20).toArray ++ (Builtin.zeroCells #[.int .u8 0] 25 ++ Builtin.zeroCells #[.int .u8 0] (G - 45))) 5)).drew (some ⟨w4.heap.size, 0, none⟩) 45 want45) := by
    refine ⟨rfl, by decide, .inr ⟨w4.heap.size, 0, rfl, fun i hi => ?_⟩⟩
    rw [Nat.zero_add, cell_of_row _ _ i _ _ (0, 0) RG.out]
    have hz : Builtin.zeroCells #[Value.int .u8 0] 25 = (cells (List.replicate 25 0)).toArray := zeros_cells 25
    have hs : (cells want20).toArray ++ (cells (List.replicate 25 0)).toArray = (cells want45).toArray := rfl
    rw [hz, ← Array.append_assoc, hs]
    have hlen : (cells want45).length = 45 := rfl
    have hi' : i < 45 := hi
    rw [Array.getElem?_append_left (by simp [hlen]; omega)]
    have := cells_get want45 i hi'
    simpa using this
  have M5 := hid (M4.out.kept B5.out)
  have B6 := hid (bel_bel B4.out B4.out.size B5.out)
  generalize (w4.alloc (.cells ((cells want20).toArray ++ (Builtin.zeroCells #[.int .u8 0] 25 ++ Builtin.zeroCells #[.int .u8 0] (G - 45))) 5)).drew = w5 at *
  generalize w4.heap.size = q5 at *
  have k5 := getHead_ (some ⟨q5, 0, none⟩) 45 G want45 w5 YG.out hGn hG63
  rw [ex_get.1, ex_get.2.1, ex_get.2.2.1, ex_get.2.2.2.1, ex_get.2.2.2.2] at k5
  clear RG B5 YG M4 B4 R4 HOLD HRZ
  refine k5.mono ?_
  rintro e w6 ⟨rfl, g6⟩
  have m6 := M5.out.kept g6
  have b6 := bel_bel B6.out B6.out.size g6
  have M7 := hid (m6.alloc (.cells #[.int .i64 3, .int .i64 7, .int .i64 1, .int .u64 258] 25))
  have B7 := hid (b6.alloc b6.size (.cells #[.int .i64 3, .int .i64 7, .int .i64 1, .int .u64 258] 25))
  have N7 : Hid (Hm (w6.alloc (.cells #[.int .i64 3, .int .i64 7, .int .i64 1, .int .u64 258] 25)) w6.heap.size 3 7 1 258) := Hm.new w6 3 7 1 258
  have d0 := M7.out.c0
  have d1 := M7.out.c1
  have d2 := M7.out.c2
  have d3 := M7.out.c3
  clear k5 g6 m6 b6 M5 B6
  go_wp2_with fail
  clear d0 d1 d2 d3
  refine (sameHead_ 3 7 1 258 _).mono ?_
  rintro e w7 ⟨rfl, g7⟩
  have b7 := bel_bel B7.out B7.out.size g7
  clear g7 M7 N7 B7
  go_wp2_with (go_at_call 13; refine (num_ 0 _).mono ?_; rintro e wn ⟨rfl, hw⟩; obtain rfl := hw.symm; clear hw)
  go_ret
  exact ⟨rfl, b7⟩
end Go.Proofs.Ytnjfckijpbgagaa
namespace Go.Proofs.Ytnjfckijpbgagaa
set_option maxRecDepth 100000
open Go.RowKit
set_option linter.unusedVariables false

/-- A packet in a variable. -/
def Km (w : World) (g : Nat) (T K G C : Int) (s : Value) : Prop := w.heap[g]? = some (.cells #[.int .i64 T, .int .i64 K, .int .i64 G, .int .u64 C, s] 27 (0, 0))
section
variable {w w' : World} {g : Nat} {T K G C : Int} {s : Value}
theorem Km.lt (h : Km w g T K G C s) : g < w.heap.size := (Array.getElem?_eq_some_iff.1 h).1
theorem Km.c0 (h : Km w g T K G C s) : w.cell? ⟨g, 0, none⟩ = some (.int .i64 T) := (cell_of_row w g 0 _ _ (0, 0) h).trans rfl
theorem Km.c1 (h : Km w g T K G C s) : w.cell? ⟨g, 1, none⟩ = some (.int .i64 K) := (cell_of_row w g 1 _ _ (0, 0) h).trans rfl
theorem Km.c2 (h : Km w g T K G C s) : w.cell? ⟨g, 2, none⟩ = some (.int .i64 G) := (cell_of_row w g 2 _ _ (0, 0) h).trans rfl
theorem Km.c3 (h : Km w g T K G C s) : w.cell? ⟨g, 3, none⟩ = some (.int .u64 C) := (cell_of_row w g 3 _ _ (0, 0) h).trans rfl
theorem Km.c4 (h : Km w g T K G C s) : w.cell? ⟨g, 4, none⟩ = some s := (cell_of_row w g 4 _ _ (0, 0) h).trans rfl
theorem Km.at (h : Km w g T K G C s) (e : w'.heap[g]? = w.heap[g]?) : Km w' g T K G C s := by unfold Km at *; rw [e]; exact h
theorem Km.kept (h : Km w g T K G C s) (hb : Below w.heap.size w w') : Km w' g T K G C s := h.at (hb.block g h.lt)
theorem Km.new (w : World) (T K G C : Int) (s : Value) : Km (w.alloc (.cells #[.int .i64 T, .int .i64 K, .int .i64 G, .int .u64 C, s] 27)) w.heap.size T K G C s := heap_alloc_new w _
theorem Km.alloc (h : Km w g T K G C s) (o : Obj) : Km (w.alloc o) g T K G C s := h.at (Below.heap_alloc _ _ _ h.lt)
end
theorem knew (w : World) (T K G C : Int) (s : Value) : Below w.heap.size w (w.alloc (.cells #[.int .i64 T, .int .i64 K, .int .i64 G, .int .u64 C, s] 27)) := (Below.refl _ _).alloc (Nat.le_refl _) _
set_option maxHeartbeats 2000000 in
theorem refSeal9_ (a0 : Option Addr) (n0 c0 : Nat) (ks : List Int) (S T K G C : Int) (a1 : Option Addr) (n1 c1 : Nat) (zs : List Int) (w : World) (hb0 : Bs w a0 n0 ks) (hb1 : Bs w a1 n1 zs) (hn0 : n0 ≤ maxLen) (hn1 : n1 ≤ maxLen) (hC : InU C) :
    Calls Try.prog 11 #[.slice a0 n0 c0, .int .i64 S, .agg #[.int .i64 T, .int .i64 K, .int .i64 G, .int .u64 C, .slice a1 n1 c1]] w fun e w' => ∃ v, e = .returned (.tuple #[v, .int .i64 (sE ks S T K G C zs)]) ∧ w'.ownsRow w.heap.size 5 1 v (sB ks S T K G C zs).length (cells (sB ks S T K G C zs)) ∧ Below w.heap.size w w' := by
  have B0 := knew w T K G C (.slice a1 n1 c1)
  have m0 := Km.new w T K G C (.slice a1 n1 c1)
  have l0 := hb0.1
  have l1 := hb1.1
  unfold maxLen at hn0 hn1
  by_cases hk : n0 = 32
  · subst hk
    have kp := fun w => refPutHead_ T K G C w hC
    have kf := fun w => fits_ T (n1 : Int) w
    have kn := fun w => refNonce_ S G C w hC
    have HE : Hid (sE ks S T K G C zs = if kOk ks S T K G C n1 then 0 else 90) := by
      show _ = _
      unfold sE
      rw [if_pos l0, l1]
    have HB : Hid (sB ks S T K G C zs = if kOk ks S T K G C n1 = true then hRow T K G C ++ sealt ks S T K G C zs else []) := by
      show _ = _
      unfold sB
      rw [l1]
      cases kOk ks S T K G C n1 with
      | false => simp
      | true => rw [if_pos ⟨l0, rfl⟩, if_pos rfl]
    go_enter Try.func11, Try.ntmps11
    go_wp2_with fail
    refine (kp _).mono ?_
    rintro e w1 ⟨v, rfl, o1, g2⟩
    replace m0 := m0.kept g2
    replace B0 := bel_bel B0 B0.size g2
    have d0 := m0.c0
    have d4 := m0.c4
    go_wp2_with fail
    refine (kf _).mono ?_
    rintro e w2 ⟨rfl, rfl⟩
    clear kf kp d0 d4 g2
    have BAD : kOk ks S T K G C n1 = false → (∃ v, Ending.returned (.tuple #[.slice none 0 0, .int .i64 90]) = .returned (.tuple #[v, .int .i64 (sE ks S T K G C zs)]) ∧ w2.ownsRow w.heap.size 5 1 v (sB ks S T K G C zs).length (cells (sB ks S T K G C zs)) ∧ Below w.heap.size w w2) := fun h => by
      rw [HE.out, HB.out, h]
      exact ⟨_, rfl, World.ownsRow_nil _ _ _ _, B0⟩
    have HBAD := hid BAD
    have HKK : Hid (kOk ks S T K G C n1 = (decide (S = 0 ∨ S = 1) && (hOk T K G C && fit T n1))) := rfl
    clear BAD
    by_cases hS : 0 ≤ S ∧ S ≤ 1
    · obtain ⟨hS0, hS1⟩ := hS
      rw [decide_eq_true (by omega), Bool.true_and] at HKK
      cases hh : hOk T K G C with
      | false =>
        have e1 : hE T K G C = 90 := by unfold hE; rw [hh]; rfl
        rw [hh, Bool.false_and] at HKK
        rw [e1]
        generalize fit T (n1 : Int) = r at *
        clear e1 hh kn
        go_wp2_with fail
        go_ret2
        exact HBAD.out HKK.out
      | true =>
        have e1 : hE T K G C = 0 := by unfold hE; rw [hh]; rfl
        have e2 : hB T K G C = hRow T K G C := by unfold hB; rw [hh]; rfl
        have e3 : nOk S G C = true := by
          obtain ⟨h1, h2, h3, h4, h5, h6, h7⟩ := hOk_in hh
          exact decide_eq_true ⟨by omega, h5, h6, h7⟩
        have e4 : nB S G C = nRow S G C := by unfold nB; rw [e3]; rfl
        have HHB := hid (hRow_byte hh)
        rw [hh, Bool.true_and] at HKK
        rw [e1]
        rw [e2, hRow_length] at o1
        rw [e4, nRow_length] at kn
        clear e1 e2 e3 e4 hh
        cases hf : fit T (n1 : Int) with
        | false =>
          rw [hf] at HKK
          clear hf kn
          go_wp2_with fail
          go_ret2
          exact HBAD.out HKK.out
        | true =>
          rw [hf] at HKK
          have hn5 : n1 ≤ 65536 := by
            unfold fit at hf
            split at hf
            · have := of_decide_eq_true hf
              omega
            · have := of_decide_eq_true hf
              omega
          rw [HKK.out, if_pos rfl] at HE HB
          have d2 := m0.c2
          have d3 := m0.c3
          clear hf HBAD HKK
          go_wp2_with fail
          refine (kn _).mono ?_
          rintro e w3 ⟨vn, rfl, o3, g3⟩
          obtain ⟨an, dn, rfl, yn, _⟩ := own_form o3 (nRow_byte S G C)
          replace m0 := m0.kept g3
          replace B0 := bel_bel B0 B0.size g3
          have o1' := own_bel7 o1 g3
          obtain ⟨ah, dh, rfl, yh, dh1, dh2, _⟩ := own_form o1' HHB.out
          have d4 := m0.c4
          have ys : Bs w3 a0 32 (ic (nt ks)) := by rw [ic_nt hb0.2.1]; exact hb0.below B0
          have yt : Bs w3 a1 n1 (ic (nt zs)) := by rw [ic_nt hb1.2.1]; exact hb1.below B0
          have kz := refSeal_ a0 an ah a1 c0 dn 20 dh n1 c1 (nt ks) (nt (nRow S G C)) (nt (hRow T K G C)) (nt zs) w3 ys (by rw [ic_nt (nRow_byte S G C)]; exact yn) (by rw [ic_nt HHB.out]; exact yh) yt (nt_lt hb0.2.1) (nt_lt (nRow_byte S G C)) (nt_lt HHB.out) (nt_lt hb1.2.1) (by decide) hn5
          clear kn o1 g3 d2 d3 o3 yn yh ys yt
          go_wp2_with fail
          refine kz.mono ?_
          rintro e w4 ⟨vs, rfl, o4, g4⟩
          obtain ⟨as4, ds4, rfl, y4, _⟩ := own_form o4 (ic_bytes (sl_lt (kf_lt (nt_lt hb0.2.1)) (nt_lt (nRow_byte S G C)) (nt_lt hb1.2.1)))
          have o5 := own_bel7 o1' g4
          have B5 := bel_bel B0 B0.size g4
          have hz5 := B5.size
          have hb5 := m0.lt
          have hb6 := g4.size
          clear kz o1' g4 B0 d4 o4
          go_wp2_with (at_builtin; refine wpList_app7 rfl _ _ rfl (w.heap.size + 1) (.slice ah 20 dh) 20 (hRow T K G C) rfl (own_le7 o5 (by simp)) (by decide) as4 (n1 + 16) ds4 (sealt ks S T K G C zs) rfl y4 (by omega) (by omega) ?_; intro v6 w6 o6 j6; have f6 : Below w.heap.size w w6 := B5.grown j6 hz5 fun p hp => (by have := (o5.lt p hp).1; simp at this; omega))
          go_ret2
          refine ⟨_, by rw [HE.out]; rfl, ?_, f6⟩
          rw [HB.out]
          have e : (hRow T K G C ++ sealt ks S T K G C zs).length = 20 + (n1 + 16) := by
            rw [List.length_append, hRow_length]
            unfold sealt
            rw [ic_length, sl_length, nt_length, l1]
          rw [e]
          exact own_le7 o6 (Nat.le_succ _)
    · rw [decide_eq_false (by omega), Bool.false_and] at HKK
      generalize fit T (n1 : Int) = r at *
      generalize hE T K G C = q at *
      clear kn
      by_cases h0 : S < 0
      · go_wp2_with fail
        go_ret2
        exact HBAD.out HKK.out
      · have h1 : 1 < S := by omega
        go_wp2_with fail
        go_ret2
        exact HBAD.out HKK.out
  · have e1 : sE ks S T K G C zs = 40 := by unfold sE; rw [if_neg (by omega)]
    have e2 : sB ks S T K G C zs = [] := by unfold sB; rw [if_neg (fun h => hk (by omega))]
    have hI : ((n0 : Int) != 32) = true := by rw [bne_iff_ne]; omega
    rw [e1, e2]
    clear e1 e2
    go_enter Try.func11, Try.ntmps11
    go_wp2_with fail
    go_ret2
    exact ⟨_, rfl, World.ownsRow_nil _ _ _ _, B0⟩
end Go.Proofs.Ytnjfckijpbgagaa
