import Derived.Test.YtkeogggeefnoeaaGreatDoorN1
import Derived.RangeFuncFrom
import Derived.RangeFuncNested
import Derived.RangeFuncBound
import Derived.RangeFuncCalls
import Derived.RangeFuncLeaves
import Derived.Shelf.Abstract
import Derived.Shelf.RegionOpen
import Derived.WalkKit
import Derived.OwnWalkIn
import Derived.TacticsInMore
import Derived.LoopNIn
import Derived.LoopIn
import Derived.Lib.ParseIntBCases
import Derived.Lib.AppendIntMem
import Derived.Lib.ConvBytes
import Derived.Laws.Closers25
import Derived.Laws.Closers25b
namespace Go.Proofs.YtkeogggeefnoeaaGreatDoor
set_option linter.unusedSimpArgs false
open Go.RowKit
set_option linter.unusedVariables false
set_option maxRecDepth 100000

/-! Reading: what a line says. -/
theorem said_app : ∀ (a b : List Nat), (∀ y ∈ a, y ≠ 35) → said (a ++ b) = a ++ said b
  | [], b, _ => rfl
  | x :: a, b, h => by
    have hx := h x List.mem_cons_self
    show said (x :: (a ++ b)) = _
    rw [said, if_neg hx, said_app a b fun y hy => h y (List.mem_cons_of_mem _ hy)]
    rfl
theorem said_at {l : List Nat} {j : Nat} (hj : j < l.length) (h : ∀ y ∈ l.take j, y ≠ 35) : said l = l.take j ++ (if l.getD j 0 = 35 then [] else l.getD j 0 :: said (l.drop (j + 1))) := by
  have e : l = l.take j ++ l[j] :: l.drop (j + 1) := by rw [← List.drop_eq_getElem_cons hj, List.take_append_drop]
  have e2 : l.getD j 0 = l[j] := by simp [List.getD, hj]
  rw [e2]
  conv => lhs; rw [e, said_app _ _ h, said]
theorem said_all {l : List Nat} (h : ∀ y ∈ l, y ≠ 35) : said l = l := by
  have := said_app l [] h
  simpa [said] using this
def gd1 (x : Nat) : Bool := blk x || wch x
theorem take_all {p : Nat → Prop} {l : List Nat} {j : Nat} (hj : j < l.length) (h : ∀ y ∈ l.take j, p y) (hx : p (l.getD j 0)) : ∀ y ∈ l.take (j + 1), p y := by
  rw [List.take_succ_eq_append_getElem hj]
  intro y hy
  rcases List.mem_append.1 hy with e | e
  · exact h y e
  · rw [List.mem_singleton.1 e]
    have e2 : l.getD j 0 = l[j] := by simp [List.getD, hj]
    rw [← e2]
    exact hx
theorem sb_take (l : List Nat) (j : Nat) (hj : j ≤ l.length) : (sb l).extract 0 j = sb (l.take j) := by
  apply ByteArray.ext
  rw [ByteArray.data_extract]
  unfold sb
  simp [List.map_take]
/-- What is answered of a line: what it says, or an error. -/
def UV (l : List Nat) : Value := if sgood l then .tuple #[.string (sb (said l)), .int .i64 0] else .tuple #[.string ⟨#[]⟩, .int .i64 224]
theorem UV_hash {l : List Nat} {j : Nat} (hj : j < l.length) (h : ∀ y ∈ l.take j, y ≠ 35 ∧ gd1 y = true) (hx : l.getD j 0 = 35) : UV l = .tuple #[.string (sb (l.take j)), .int .i64 0] := by
  have e : said l = l.take j := by rw [said_at hj fun y hy => (h y hy).1, if_pos hx, List.append_nil]
  unfold UV
  rw [show sgood l = (said l).all gd1 from rfl, e, if_pos (List.all_eq_true.2 fun y hy => (h y hy).2)]
theorem UV_bad {l : List Nat} {j : Nat} (hj : j < l.length) (h : ∀ y ∈ l.take j, y ≠ 35 ∧ gd1 y = true) (hx : l.getD j 0 ≠ 35) (hb : gd1 (l.getD j 0) = false) : UV l = .tuple #[.string ⟨#[]⟩, .int .i64 224] := by
  have e : said l = l.take j ++ l.getD j 0 :: said (l.drop (j + 1)) := by rw [said_at hj fun y hy => (h y hy).1, if_neg hx]
  have : ¬ sgood l = true := fun hg => by
    unfold sgood at hg
    rw [e] at hg
    have h2 := List.all_eq_true.1 hg (l.getD j 0) (by simp)
    have h3 : gd1 (l.getD j 0) = true := h2
    rw [hb] at h3
    cases h3
  unfold UV
  rw [if_neg this]
theorem UV_end {l : List Nat} (h : ∀ y ∈ l, y ≠ 35 ∧ gd1 y = true) : UV l = .tuple #[.string (sb l), .int .i64 0] := by
  have e : said l = l := said_all fun y hy => (h y hy).1
  unfold UV
  rw [show sgood l = (said l).all gd1 from rfl, e, if_pos (List.all_eq_true.2 fun y hy => (h y hy).2)]
set_option maxHeartbeats 4000000 in
theorem uncommented_ (l : List Nat) (hy : ∀ x ∈ l, x < 256) (hl : l.length ≤ 140737488355328) (w : World) : Calls Tryz.prog 50 #[.string (sb l)] w fun e w' => e = .returned (UV l) ∧ Below w.heap.size w w' := by
  have HNL := hid (next_low l hy)
  have HNH := hid (next_high l hy)
  have HNE := hid (next_end l)
  have HUH := hid fun j => UV_hash (l := l) (j := j)
  have HUB := hid fun j => UV_bad (l := l) (j := j)
  have HUE := hid (UV_end (l := l))
  have HTK := hid fun j => take_all (p := fun y => y ≠ 35 ∧ gd1 y = true) (l := l) (j := j)
  have HSX : Hid (∀ j : Nat, j ≤ l.length → (sb l).extract 0 j = sb (l.take j)) := fun j hj => sb_take l j hj
  have HSZ : Hid ((sb l).size = l.length) := sb_size l
  obtain ⟨U, HU⟩ : ∃ z, Hid (UV l = z) := ⟨_, rfl⟩
  rw [HU.out] at HUH HUB HUE ⊢
  obtain ⟨q, HQ⟩ : ∃ z, Hid (l.length = z) := ⟨_, rfl⟩
  have HL := hid hl
  obtain ⟨S, HS⟩ : ∃ z, Hid (sb l = z) := ⟨_, rfl⟩
  rw [HS.out] at HNL HNH HNE HSX HSZ HUE ⊢
  clear hl
  go_enter Tryz.func50, Tryz.ntmps50
  go_wp2_with fail
  have HI0 : Hid (It (w.iter S 0) w.heap.size S 0) := heap_alloc_new w _
  have HB0 : Hid (Below w.heap.size w (w.iter S 0)) := (Below.refl _ _).alloc (Nat.le_refl _) _
  obtain ⟨ig, HIG⟩ : ∃ z, Hid (w.heap.size = z) := ⟨_, rfl⟩
  generalize w.iter S 0 = w1 at *
  rw [HIG.out] at HI0 ⊢
  go_loopw [4, 5] (fun u u' wr => ∃ j : Nat, j ≤ q ∧ Hid (∀ y ∈ l.take j, y ≠ 35 ∧ gd1 y = true) ∧ Hid (It wr ig S j) ∧ Hid (Below w.heap.size w wr)) (fun u u' wr => q - wr.iterPos ig)
  case atStart => exact ⟨0, by omega, by show ∀ y ∈ _, _; simp, HI0, by have := HIG.out; exact HB0⟩
  case round =>
    obtain ⟨j, hj, HA, HI, HB⟩ := hrel
    by_cases hlt : j < q
    · have hlf : j < l.length := by rw [HQ.out]; exact hlt
      obtain ⟨x, HX⟩ : ∃ z, Hid (l.getD j 0 = z) := ⟨_, rfl⟩
      have HP1 := hid HI.out.pos
      have HHX := hid (HUH.out j hlf HA.out)
      have HBX := hid (HUB.out j hlf HA.out)
      have HTX := hid (HTK.out j hlf HA.out)
      rw [HX.out] at HHX HBX HTX
      have hz : (j : Int) ≤ (S.size : Int) := by rw [HSZ.out]; omega
      have hz0 : (0 : Int) ≤ (j : Int) := by omega
      have HSJ := hid (HSX.out j (by omega))
      by_cases hx : x < 128
      · have hnx := HNL.out j hlf wr _ HI.out (by rw [HX.out]; exact hx)
        rw [HX.out] at hnx
        have hit2 : It (wr.iterAt ig S (j + 1)) ig S (j + 1) := Lib.iterAt_heap wr _ S j (j + 1) HI.out
        have HB3 : Hid (Below w.heap.size w (wr.iterAt ig S (j + 1))) := Lib.below_iterAt HB.out (by have := HIG.out; omega) S (j + 1)
        have HI2 := hid hit2
        generalize wr.iterAt ig S (j + 1) = w2 at *
        have k1 := isBlank_ (x : Int) w2
        clear hit2 HI HB hlf
        by_cases h35 : x = 35
        · subst h35
          have HUU := hid (HHX.out rfl)
          rw [show ((35 : Nat) : Int) = 35 from rfl] at hnx
          clear k1
          go_wp2_with fail
          go_ret2
          exact ⟨by rw [HUU.out, ← HSJ.out]; rfl, HB3.out⟩
        · have e1 : ¬ (x : Int) = 35 := by omega
          have e2 : ((x : Int) == 35) = false := by simp; omega
          by_cases hb : x = 32 ∨ x = 9
          · rw [decide_eq_true (show (x : Int) = 32 ∨ (x : Int) = 9 by omega)] at k1
            have HG : Hid (∀ y ∈ l.take (j + 1), y ≠ 35 ∧ gd1 y = true) := HTX.out ⟨h35, by unfold gd1 blk; rw [decide_eq_true hb]; rfl⟩
            clear hz hz0 hb h35
            go_wp2_with fail
            refine k1.mono ?_
            rintro e w3 ⟨rfl, hw⟩
            obtain rfl := hw.symm
            clear k1
            go_wp2_with fail
            go_roundw
            case rel => exact ⟨j + 1, by omega, HG, HI2, HB3⟩
            case measure => rw [HI2.out.pos, HP1.out]; omega
          · rw [decide_eq_false (show ¬ ((x : Int) = 32 ∨ (x : Int) = 9) by omega)] at k1
            have hbl : blk x = false := decide_eq_false hb
            by_cases hw : 33 ≤ x ∧ x ≤ 126
            · have e3 : ¬ (x : Int) < 33 := by omega
              have e4 : ¬ (126 : Int) < x := by omega
              have HG : Hid (∀ y ∈ l.take (j + 1), y ≠ 35 ∧ gd1 y = true) := HTX.out ⟨h35, by unfold gd1 wch; rw [decide_eq_true hw]; simp⟩
              clear hz hz0 hb h35 hbl hw
              go_wp2_with fail
              refine k1.mono ?_
              rintro e w3 ⟨rfl, hw⟩
              obtain rfl := hw.symm
              clear k1
              go_wp2_with fail
              go_roundw
              case rel => exact ⟨j + 1, by omega, HG, HI2, HB3⟩
              case measure => rw [HI2.out.pos, HP1.out]; omega
            · have HUU := hid (HBX.out h35 (by unfold gd1 wch; rw [hbl, decide_eq_false hw]; rfl))
              have e3 : (x : Int) < 33 ∨ (¬ (x : Int) < 33 ∧ (126 : Int) < x) := by omega
              clear hz hz0 hb h35 hbl hw
              rcases e3 with e3 | ⟨e3, e4⟩
              all_goals
                go_wp2_with fail
                refine k1.mono ?_
                rintro e w3 ⟨rfl, hw⟩
                obtain rfl := hw.symm
                clear k1
                go_wp2_with fail
                go_ret2
                exact ⟨by rw [HUU.out]; rfl, HB3.out⟩
      · obtain ⟨R, p, hR, _, hnx⟩ := HNH.out j hlf wr _ HI.out (by rw [HX.out]; omega)
        have HB3 : Hid (Below w.heap.size w (wr.iterAt ig S p)) := Lib.below_iterAt HB.out (by have := HIG.out; omega) S p
        generalize wr.iterAt ig S p = w2 at *
        have k1 := isBlank_ (R : Int) w2
        rw [decide_eq_false (show ¬ ((R : Int) = 32 ∨ (R : Int) = 9) by omega)] at k1
        have e1 : ¬ (R : Int) = 35 := by omega
        have e2 : ((R : Int) == 35) = false := by simp; omega
        have e3 : ¬ (R : Int) < 33 := by omega
        have e4 : (126 : Int) < R := by omega
        have HUU := hid (HBX.out (by omega) (by unfold gd1 blk wch; rw [decide_eq_false (by omega), decide_eq_false (by omega)]; rfl))
        clear hz hz0 HI HB hlf hR hx
        go_wp2_with fail
        refine k1.mono ?_
        rintro e w3 ⟨rfl, hw⟩
        obtain rfl := hw.symm
        clear k1
        go_wp2_with fail
        go_ret2
        exact ⟨by rw [HUU.out]; rfl, HB3.out⟩
    · obtain rfl : j = q := by omega
      have hq := HQ.out
      have hie : It wr ig S l.length := by rw [hq]; exact HI.out
      have hnx := HNE.out wr _ hie
      have HUU : Hid (U = .tuple #[.string S, .int .i64 0]) := HUE.out (by
        have := HA.out
        rw [← hq, List.take_length] at this
        exact this)
      clear hq hie HA HI
      go_wp2_with fail
      go_ret2
      exact ⟨by rw [HUU.out]; rfl, HB.out⟩
end Go.Proofs.YtkeogggeefnoeaaGreatDoor
namespace Go.Proofs.YtkeogggeefnoeaaGreatDoor
set_option linter.unusedSimpArgs false
open Go.RowKit
set_option linter.unusedVariables false
set_option maxRecDepth 100000

/-! Reading: numbers. -/
def q32 (l : List Nat) : Option Nat := match Lib.parseUintB 32 (l.map UInt8.ofNat) with
  | .ok u => some u
  | _ => none
theorem pu32_ (l : List Nat) (w : World) (hl : l.length ≤ 140737488355328) (hT : Tb w) :
    Calls Tryz.prog 85 #[.string (sb l), .int .i64 10, .int .i64 32] w fun e w' => PuP (q32 l) e ∧ Below w.heap.size w w' := by
  have hsz : (sb l).size = l.length := sb_size l
  have hd := sb_data l
  unfold q32
  cases hq : Lib.parseUintB 32 (l.map UInt8.ofNat) with
  | ok u =>
    refine (Tryz.strconv_ParseUint_10_at32_ok (sb l) (by omega) u (by rw [hd]; exact hq) w).mono ?_
    rintro e w' ⟨rfl, hw⟩
    refine ⟨rfl, ?_⟩
    rcases hw with rfl | rfl
    · exact Below.refl _ _
    · exact Lib.bytesWorld_below _ _ _
  | «syntax» =>
    obtain ⟨tp, p, hv⟩ := hT.syn
    refine (Tryz.strconv_ParseUint_10_at32_syntax_var (sb l) (by omega) (by rw [hd]; exact hq) tp p w hv).mono ?_
    rintro e w' ⟨N, rfl, _, _, g⟩
    exact ⟨⟨_, _, _, rfl⟩, g⟩
  | range =>
    obtain ⟨tp, p, hv⟩ := hT.rng
    refine (Tryz.strconv_ParseUint_10_at32_range_var (sb l) (by omega) (by rw [hd]; exact hq) tp p w hv).mono ?_
    rintro e w' ⟨N, rfl, _, _, g⟩
    exact ⟨⟨_, _, _, rfl⟩, g⟩
end Go.Proofs.YtkeogggeefnoeaaGreatDoor
namespace Go.Proofs.YtkeogggeefnoeaaGreatDoor
set_option linter.unusedSimpArgs false
open Go.RowKit
set_option linter.unusedVariables false
set_option maxRecDepth 100000

/-! Reading: names. -/
theorem sb_eq {a l : List Nat} (ha : ∀ x ∈ a, x < 256) (hl : ∀ x ∈ l, x < 256) : ((sb a).toList == (sb l).toList) = decide (a = l) := by
  by_cases h : a = l
  · subst h; simp
  · rw [decide_eq_false h]
    refine beq_eq_false_iff_ne.2 fun e => h ?_
    rw [toList_data, toList_data] at e
    have e : a.map UInt8.ofNat = l.map UInt8.ofNat := by simpa [sb] using e
    have key : ∀ (a l : List Nat), (∀ x ∈ a, x < 256) → (∀ x ∈ l, x < 256) → a.map UInt8.ofNat = l.map UInt8.ofNat → a = l := by
      intro a
      induction a with
      | nil => intro l _ _ h; cases l with
        | nil => rfl
        | cons y l => simp at h
      | cons x a ih => intro l h1 h2 h; cases l with
        | nil => simp at h
        | cons y l =>
          simp only [List.map_cons, List.cons.injEq] at h
          have e2 := congrArg UInt8.toNat h.1
          rw [UInt8.toNat_ofNat', UInt8.toNat_ofNat'] at e2
          have := h1 x List.mem_cons_self
          have := h2 y List.mem_cons_self
          rw [show x = y by omega, ih l (fun z hz => h1 z (List.mem_cons_of_mem _ hz)) (fun z hz => h2 z (List.mem_cons_of_mem _ hz)) h.2]
    exact key a l ha hl e
theorem fndN_hit (n : List Nat) : ∀ (l : List (List Nat)) (i j : Nat), j < l.length → (∀ k, k < j → l.getD k [] ≠ n) → l.getD j [] = n → fndN i n l = i + j
  | [], i, j, hj, _, _ => by simp at hj
  | m :: l, i, 0, _, _, h => by
    have h : m = n := h
    rw [fndN, if_pos h]
    rfl
  | m :: l, i, j + 1, hj, hk, h => by
    have h0 : m ≠ n := hk 0 (by omega)
    rw [fndN, if_neg h0, fndN_hit n l (i + 1) j (by simpa using hj) (fun k h => hk (k + 1) (by omega)) h]
    omega
theorem fndN_none (n : List Nat) : ∀ (l : List (List Nat)) (i : Nat), (∀ k, k < l.length → l.getD k [] ≠ n) → fndN i n l = 0
  | [], i, _ => rfl
  | m :: l, i, hk => by
    have h0 : m ≠ n := hk 0 (by simp)
    rw [fndN, if_neg h0, fndN_none n l (i + 1) fun k h => hk (k + 1) (by simpa using h)]
theorem fNm_lt {j : Nat} (h : j < 3) : ∀ x ∈ fNm.getD j [], x < 256 := by
  rcases (show j = 0 ∨ j = 1 ∨ j = 2 by omega) with rfl | rfl | rfl <;> decide
theorem ix3 (a b c : ByteArray) (w : World) : (Instr.index 123 (.agg #[.string a, .string b, .string c]) (.int .i64 0)).run Tryz.prog w = .ok (.string a) w ∧ (Instr.index 123 (.agg #[.string a, .string b, .string c]) (.int .i64 1)).run Tryz.prog w = .ok (.string b) w ∧ (Instr.index 123 (.agg #[.string a, .string b, .string c]) (.int .i64 2)).run Tryz.prog w = .ok (.string c) w := by
  refine ⟨?_, ?_, ?_⟩ <;> rfl
theorem faultNamed_ (l : List Nat) (hy : ∀ x ∈ l, x < 256) (w : World) (hq : Tq w) : Calls Tryz.prog 113 #[.string (sb l)] w fun e w' => e = .returned (.int .i64 (fKd l : Nat)) ∧ w' = w := by
  have c0 : w.cell? ⟨1, 0, none⟩ = some (.string (sb (fNm.getD 0 []))) := World.var?_cell gFl hq.fl 0
  have c1 : w.cell? ⟨1, 1, none⟩ = some (.string (sb (fNm.getD 1 []))) := World.var?_cell gFl hq.fl 1
  have c2 : w.cell? ⟨1, 2, none⟩ = some (.string (sb (fNm.getD 2 []))) := World.var?_cell gFl hq.fl 2
  have HQE := hid fun j (h : j < 3) => sb_eq (fNm_lt h) hy
  have HF1 := hid fun j => fndN_hit l fNm 0 j
  have HF0 := hid (fndN_none l fNm 0)
  rw [show fKd l = fndN 0 l fNm from rfl]
  obtain ⟨f, HF⟩ : ∃ z, Hid (fndN 0 l fNm = z) := ⟨_, rfl⟩
  rw [HF.out] at HF1 HF0 ⊢
  obtain ⟨S, HS⟩ : ∃ z, Hid (sb l = z) := ⟨_, rfl⟩
  obtain ⟨S0, HS0⟩ : ∃ z, Hid (sb (fNm.getD 0 []) = z) := ⟨_, rfl⟩
  obtain ⟨S1, HS1⟩ : ∃ z, Hid (sb (fNm.getD 1 []) = z) := ⟨_, rfl⟩
  obtain ⟨S2, HS2⟩ : ∃ z, Hid (sb (fNm.getD 2 []) = z) := ⟨_, rfl⟩
  have q0 := HQE.out 0 (by omega)
  have q1 := HQE.out 1 (by omega)
  have q2 := HQE.out 2 (by omega)
  rw [HS0.out] at c0 q0
  rw [HS1.out] at c1 q1
  rw [HS2.out] at c2 q2
  rw [HS.out] at q0 q1 q2 ⊢
  clear HQE hq
  go_enter Tryz.func113, Tryz.ntmps113
  go_wp2_with fail
  go_loopw [6] (fun i wr => Hid (wr = w) ∧ ∃ (I : Int) (j : Nat), I = (j : Int) ∧ j ≤ 3 ∧ i = .int .i64 I ∧ Hid (∀ k, k < j → fNm.getD k [] ≠ l)) (fun i wr => 3 - (intOf i).toNat)
  case atStart => exact ⟨rfl, 0, 0, rfl, by omega, rfl, by show ∀ k, _; intro k hk; omega⟩
  case round =>
    obtain ⟨HW, I, j, hI, hj, rfl, HK⟩ := hrel
    obtain rfl := HW.out
    by_cases hlt : j < 3
    · have hstep : Hid (¬ fNm.getD j [] = l → ∀ k, k < j + 1 → fNm.getD k [] ≠ l) := fun h k hk => by
        by_cases e : k = j
        · subst e; exact h
        · exact HK.out k (by omega)
      have HHT := hid (fun h => HF1.out j hlt HK.out h)
      rcases (show j = 0 ∨ j = 1 ∨ j = 2 by omega) with rfl | rfl | rfl
      · obtain rfl : I = 0 := hI
        by_cases h : fNm.getD 0 [] = l
        · rw [decide_eq_true h] at q0
          have HE := hid (HHT.out h)
          clear q1 q2 h HK
          have hix := (ix3 S0 S1 S2 wr).1
          go_wp2_with fail
          go_ret
          exact ⟨by rw [HE.out]; rfl, rfl⟩
        · rw [decide_eq_false h] at q0
          have HE := hid (hstep.out h)
          clear q1 q2 h HK
          have hix := (ix3 S0 S1 S2 wr).1
          go_wp2_with fail
          go_roundw
          case rel => exact ⟨hid True.intro, 1, 1, rfl, by omega, rfl, HE.out⟩
          case measure => simp [intOf]
      · obtain rfl : I = 1 := hI
        by_cases h : fNm.getD 1 [] = l
        · rw [decide_eq_true h] at q1
          have HE := hid (HHT.out h)
          clear q0 q2 h HK
          have hix := (ix3 S0 S1 S2 wr).2.1
          go_wp2_with fail
          go_ret
          exact ⟨by rw [HE.out]; rfl, rfl⟩
        · rw [decide_eq_false h] at q1
          have HE := hid (hstep.out h)
          clear q0 q2 h HK
          have hix := (ix3 S0 S1 S2 wr).2.1
          go_wp2_with fail
          go_roundw
          case rel => exact ⟨hid True.intro, 2, 2, rfl, by omega, rfl, HE.out⟩
          case measure => simp [intOf]
      · obtain rfl : I = 2 := hI
        by_cases h : fNm.getD 2 [] = l
        · rw [decide_eq_true h] at q2
          have HE := hid (HHT.out h)
          clear q0 q1 h HK
          have hix := (ix3 S0 S1 S2 wr).2.2
          go_wp2_with fail
          go_ret
          exact ⟨by rw [HE.out]; rfl, rfl⟩
        · rw [decide_eq_false h] at q2
          have HE := hid (hstep.out h)
          clear q0 q1 h HK
          have hix := (ix3 S0 S1 S2 wr).2.2
          go_wp2_with fail
          go_roundw
          case rel => exact ⟨hid True.intro, 3, 3, rfl, by omega, rfl, HE.out⟩
          case measure => simp [intOf]
    · obtain rfl : j = 3 := by omega
      obtain rfl : I = 3 := hI
      have HE := hid (HF0.out HK.out)
      clear q0 q1 q2 HK
      go_wp2_with fail
      go_ret
      exact ⟨by rw [HE.out]; rfl, rfl⟩
end Go.Proofs.YtkeogggeefnoeaaGreatDoor
namespace Go.Proofs.YtkeogggeefnoeaaGreatDoor
set_option linter.unusedSimpArgs false
open Go.RowKit Go.Shelf
set_option linter.unusedVariables false
set_option maxRecDepth 100000

/-! Reading: words in memory. -/
theorem own_slice {w : World} {B n sz : Nat} {t : TypeId} {v : Value} {xs : List Value} (h : w.ownsRow B t sz v n xs) : ∃ a c, v = .slice a n c ∧ n ≤ c ∧ c ≤ maxLen ∧ (a = none → c = 0) ∧ (∀ ad, a = some ad → ad = ⟨ad.block, 0, none⟩ ∧ B ≤ ad.block) := by
  obtain ⟨h1, h2⟩ := h
  rcases h2 with ⟨rfl, h⟩ | ⟨g, cap, cur, rfl, hb, hg, hnc, hcm, hs, ht⟩
  · subst h
    exact ⟨none, 0, rfl, Nat.le_refl _, by unfold maxLen; omega, fun _ => rfl, fun ad ha => by cases ha⟩
  · exact ⟨some ⟨g, 0, none⟩, cap, rfl, hnc, hcm, fun e => (by cases e), fun ad ha => by obtain rfl := Option.some.inj ha; exact ⟨rfl, hb⟩⟩
theorem own_at' {w w' : World} {B n sz : Nat} {t : TypeId} {v : Value} {xs : List Value} (h : w.ownsRow B t sz v n xs) (e : ∀ g, v.ownBlock = some g → w'.heap[g]? = w.heap[g]?) : w'.ownsRow B t sz v n xs := by
  obtain ⟨h1, h2⟩ := h
  refine ⟨h1, ?_⟩
  rcases h2 with h2 | ⟨g, cap, cur, rfl, hb, hg, r⟩
  · exact .inl h2
  · exact .inr ⟨g, cap, cur, rfl, hb, (e g rfl).trans hg, r⟩
theorem own_ty {w : World} {B n sz : Nat} {t : TypeId} {v : Value} {xs : List Value} (h : w.ownsRow B t sz v n xs) {g : Nat} (e : v.ownBlock = some g) : ∃ cur, w.heap[g]? = some (.cells cur t (0, 0)) := by
  rcases h.2 with ⟨rfl, _⟩ | ⟨g', cap, cur, rfl, hb, hg, _⟩
  · cases e
  · have e : some g' = some g := e
    obtain rfl := Option.some.inj e
    exact ⟨cur, hg⟩
theorem own_non {X Y : World} {B S n sz : Nat} {t : TypeId} {v : Value} {xs : List Value} {row : Option Nat} (h : X.ownsRow S t sz v n xs) (hg : X.grownBy Y row) (hr : ∀ r, row = some r → B ≤ r ∧ ∃ o : Obj, X.heap[r]? = some o ∧ o.isCells = false) : Y.ownsRow S t sz v n xs :=
  own_at' h (fun g e => by
    obtain ⟨cur, hc⟩ := own_ty h e
    refine hg.block g (Array.getElem?_eq_some_iff.1 hc).1 (fun q => ?_)
    obtain ⟨_, o, ho, hoc⟩ := hr g q.symm
    rw [hc] at ho
    cases ho
    cases hoc)
theorem boxed_non {X Y : World} {B b : Nat} {t : TypeId} {v : Value} {row : Option Nat} (h : Boxed X b t v) (hg : X.grownBy Y row) (hr : ∀ r, row = some r → B ≤ r ∧ ∃ o : Obj, X.heap[r]? = some o ∧ o.isCells = false) : Boxed Y b t v :=
  h.kept hg (fun q => by
    obtain ⟨_, o, ho, hoc⟩ := hr b q.symm
    rw [show X.heap[b]? = _ from h] at ho
    cases ho
    cases hoc)
theorem with_act {F : Fence} {n : Nat} {P : Program} {c : Code} {Q : Exit → Act → World → Prop} {a : Act} {w : World} (h : ∀ A, A = a → c.wpIn F n P Q A w) : c.wpIn F n P Q a w := h a rfl
/-- A row of one's own, by its cells. -/
theorem ls_own {w : World} {S n sz c : Nat} {t : TypeId} {a : Option Addr} {xs : List Value} (h : w.ownsRow S t sz (.slice a n c) n xs) (f : Nat → List Value) (hx : ∀ i, i < n → ∀ j u, (f i)[j]? = some u → xs[i * sz + j]? = some u) : Ls w (fun x => S ≤ x) a n sz f := by
  have hl := h.1
  rcases h.2 with ⟨e, e0⟩ | ⟨g, cap, cur, e, hb, hg, hnc, hcm, hs, ht⟩
  · exact .inl (by simp at e; omega)
  · obtain ⟨rfl, -, rfl⟩ : a = some ⟨g, 0, none⟩ ∧ True ∧ c = cap := by simpa using e
    refine .inr ⟨g, 0, rfl, hb, (Array.getElem?_eq_some_iff.1 hg).1, fun i hi j u hu => ?_⟩
    rw [Nat.zero_add, cell_of_row w g (i * sz + j) cur _ (0, 0) hg]
    have h2 := hx i hi j u hu
    have hlt := (List.getElem?_eq_some_iff.1 h2).1
    rw [← ht, List.getElem?_take] at h2
    split at h2
    · simpa using h2
    · cases h2
/-- Words that can be read. -/
structure Wv (w : World) (V : Nat → Prop) (a : Option Addr) (n p : Nat) (ws : List (List Nat)) : Prop where
  ln : ws.length = n
  np : n ≤ p
  pm : p ≤ maxLen
  nl : a = none → p = 0
  ls : Ls w V a n 1 (fun i => [.string (sb (ws.getD i []))])
theorem Wv.on {w w' : World} {V : Nat → Prop} {a : Option Addr} {n p : Nat} {ws : List (List Nat)} (h : Wv w V a n p ws) (hb : Below w.heap.size w w') : Wv w' V a n p ws := ⟨h.ln, h.np, h.pm, h.nl, h.ls.step (fun k hk _ => hb.block k hk) hb.size⟩
theorem Wv.at {w : World} {V : Nat → Prop} {a : Option Addr} {n p : Nat} {ws : List (List Nat)} (h : Wv w V a n p ws) {i : Nat} (hi : i < n) : ∃ b off, a = some ⟨b, off, none⟩ ∧ w.cell? ⟨b, off + i, none⟩ = some (.string (sb (ws.getD i []))) := by
  obtain ⟨b, off, e, hc⟩ := h.ls.at hi
  exact ⟨b, off, e, by have := hc 0 _ rfl; rwa [Nat.mul_one, Nat.add_zero] at this⟩
theorem list_of {w : World} {V : Nat → Prop} {a : Option Addr} {n p k : Nat} {ws : List (List Nat)} (h : Wv w V a n p ws) (hk : k ≤ n) : ∃ a', (∀ W, (Instr.sliceAt 86 (.slice a n p) (some (.int .i64 (k : Int))) none none).run Tryz.prog W = .ok (.slice a' (n - k) (p - k)) W) ∧ Wv w V a' (n - k) (p - k) (ws.drop k) := by
  have hnp := h.np
  have hpm := h.pm
  have h1 : (0 : Int) ≤ (k : Int) := by omega
  have h2 : (k : Int) ≤ (n : Int) := by omega
  have h3 : (n : Int) ≤ (p : Int) := by omega
  unfold maxLen at hpm
  have hd : ∀ i, (ws.drop k).getD i [] = ws.getD (k + i) [] := fun i => by simp [List.getD, List.getElem?_drop]
  cases a with
  | none =>
    obtain rfl : p = 0 := h.nl rfl
    obtain rfl : n = 0 := by omega
    obtain rfl : k = 0 := by omega
    refine ⟨none, fun W => ?_, ?_⟩
    · go_simp
    · simpa using h
  | some ad =>
    by_cases hp : p = k
    · subst hp
      obtain rfl : n = p := by omega
      refine ⟨some ad, fun W => ?_, ⟨by rw [List.length_drop, h.ln], by omega, by unfold maxLen; omega, fun e => (by cases e), .inl (by omega)⟩⟩
      go_simp
    · have hb : ∃ b off, ad = ⟨b, off, none⟩ ∨ n = 0 := by
        rcases h.ls with h0 | ⟨b, off, e, _⟩
        · exact ⟨0, 0, .inr h0⟩
        · exact ⟨b, off, .inl (Option.some.inj e)⟩
      obtain ⟨b, off, hb⟩ := hb
      by_cases h0 : n = 0
      · subst h0
        obtain rfl : k = 0 := by omega
        refine ⟨some ad, fun W => ?_, by simpa using h⟩
        go_simp
        try simp
      · obtain rfl := hb.resolve_right h0
        refine ⟨some ⟨b, off + k, none⟩, fun W => ?_, ⟨by rw [List.length_drop, h.ln], by omega, by unfold maxLen; omega, fun e => (by cases e), ?_⟩⟩
        · go_simp
          try simp
        · rcases h.ls with h0' | ⟨b', off', e, hV, hlt, hc⟩
          · exact .inl (by omega)
          · obtain ⟨rfl, rfl⟩ : b = b' ∧ off = off' := by simpa using e
            refine .inr ⟨b, off + k, rfl, hV, hlt, fun i hi j u hu => ?_⟩
            have hu : [Value.string (sb ((ws.drop k).getD i []))][j]? = some u := hu
            rw [hd] at hu
            rw [show off + k + i * 1 + j = off + (k + i) * 1 + j by omega]
            exact hc (k + i) (by omega) j u hu
theorem list_to {w : World} {V : Nat → Prop} {a : Option Addr} {n p k : Nat} {ws : List (List Nat)} (h : Wv w V a n p ws) (hk : k ≤ n) : (∀ W, (Instr.sliceAt 86 (.slice a n p) none (some (.int .i64 (k : Int))) none).run Tryz.prog W = .ok (.slice a k p) W) ∧ Wv w V a k p (ws.take k) := by
  have hnp := h.np
  have hpm := h.pm
  have h1 : (0 : Int) ≤ (k : Int) := by omega
  have h2 : (k : Int) ≤ (n : Int) := by omega
  have h3 : (k : Int) ≤ (p : Int) := by omega
  unfold maxLen at hpm
  refine ⟨fun W => ?_, ⟨by rw [List.length_take, h.ln]; omega, by omega, h.pm, h.nl, ?_⟩⟩
  · cases a with
    | none =>
      obtain rfl : p = 0 := h.nl rfl
      obtain rfl : n = 0 := by omega
      obtain rfl : k = 0 := by omega
      go_simp
    | some ad =>
      go_simp
      try (split <;> simp_all)
  · rcases h.ls with h0' | ⟨b', off', e, hV, hlt, hc⟩
    · exact .inl (by omega)
    · refine .inr ⟨b', off', e, hV, hlt, fun i hi j u hu => ?_⟩
      refine hc i (by omega) j u ?_
      have hu : [Value.string (sb ((ws.take k).getD i []))][j]? = some u := hu
      have hd : (ws.take k).getD i [] = ws.getD i [] := by simp [List.getD, List.getElem?_take, hi]
      rwa [hd] at hu
end Go.Proofs.YtkeogggeefnoeaaGreatDoor
namespace Go.Proofs.YtkeogggeefnoeaaGreatDoor
set_option linter.unusedSimpArgs false
open Go.RowKit
set_option linter.unusedVariables false
set_option maxRecDepth 100000

/-! Reading: a number. -/
theorem fold_ge : ∀ (l : List Nat) (a : Nat), a ≤ l.foldl (fun x z => x * 10 + (z - 48)) a
  | [], a => Nat.le_refl _
  | x :: l, a => by
    have := fold_ge l (a * 10 + (x - 48))
    rw [List.foldl_cons]
    omega
theorem pum_ok (M : Nat) (hM : M ≤ 4294967295) : ∀ (l : List Nat) (a : Nat), (∀ x ∈ l, 48 ≤ x ∧ x ≤ 57) → l.foldl (fun x z => x * 10 + (z - 48)) a ≤ M → Lib.parseUintM M a (l.map UInt8.ofNat) = .ok (l.foldl (fun x z => x * 10 + (z - 48)) a)
  | [], a, _, _ => rfl
  | x :: l, a, hd, h => by
    have hx := hd x List.mem_cons_self
    have hn : (UInt8.ofNat x).toNat = x := by rw [UInt8.toNat_ofNat']; omega
    rw [List.foldl_cons] at h ⊢
    have h2 := fold_ge l (a * 10 + (x - 48))
    rw [List.map_cons, Lib.parseUintM, hn, if_pos (by omega), if_neg (by omega), if_neg (by omega)]
    exact pum_ok M hM l _ (fun y hy => hd y (List.mem_cons_of_mem _ hy)) h
theorem q32_dgs {v : Nat} (h : v ≤ 4294967295) : q32 (dgs v 1) = some v := by
  have hd : ∀ x ∈ dgs v 1, 48 ≤ x ∧ x ≤ 57 := fun x hx => by have := dl_digit _ _ x hx; omega
  have hv : (dgs v 1).foldl (fun x z => x * 10 + (z - 48)) 0 = v := dv_dgs v 1
  have hb : Lib.parseUintB 32 ((dgs v 1).map UInt8.ofNat) = .ok v := by
    unfold Lib.parseUintB
    rw [if_neg (by simpa using dgs_ne v)]
    have := pum_ok (2 ^ 32 - 1) (by omega) (dgs v 1) 0 hd (by rw [hv]; omega)
    rw [hv] at this
    exact this
  unfold q32
  rw [hb]
theorem q32_le {l : List Nat} {u : Nat} (h : q32 l = some u) : u ≤ 4294967295 := by
  unfold q32 at h
  split at h
  · rename_i u' hu
    obtain rfl := Option.some.inj h
    have := Lib.parseUintB_le hu
    omega
  · cases h
theorem numv_q (l : List Nat) : numv l = match q32 l with
    | none => none
    | some u => if dgs u 1 = l then some u else none := by
  have key : ∀ v, numv l = some v → q32 l = some v ∧ dgs v 1 = l := fun v hv => by
    obtain ⟨h1, h2⟩ := numv_some hv
    exact ⟨by rw [← h1]; exact q32_dgs h2, h1⟩
  cases hq : q32 l with
  | none =>
    cases hn : numv l with
    | none => rfl
    | some v => have := (key v hn).1; rw [hq] at this; cases this
  | some u =>
    simp only
    by_cases h : dgs u 1 = l
    · rw [if_pos h, ← h]
      exact numv_dgs (q32_le hq)
    · rw [if_neg h]
      cases hn : numv l with
      | none => rfl
      | some v =>
        obtain ⟨h1, h2⟩ := key v hn
        rw [hq] at h1
        obtain rfl := Option.some.inj h1
        exact absurd h2 h
theorem dgs_dec (u : Nat) : (⟨(Lib.decDigits u).toArray⟩ : ByteArray) = sb (dgs u 1) := by
  rw [dec_dgs (u + 1) u (by omega)]
  rfl
set_option maxHeartbeats 4000000 in
theorem fmtu_ (u : Nat) (hu : u ≤ 4294967295) (w : World) (hT : Tb w) : Calls Tryz.prog 110 #[.int .u64 (u : Int), .int .i64 10] w fun e w' => e = .returned (.string (sb (dgs u 1))) ∧ Below w.heap.size w w' := by
  by_cases hs : u < 100
  · have k1 := fun w => Tryz.internal_strconv_small u hs w
    go_enter Tryz.func110, Tryz.ntmps110
    go_wp2_with fail
    refine (k1 _).mono ?_
    rintro e w1 ⟨rfl, rfl⟩
    go_wp2_with fail
    go_ret
    exact ⟨by rw [← dgs_dec]; rfl, Below.refl _ _⟩
  · have hu1 : 1 ≤ u := by omega
    have hu64 : u < 18446744073709551616 := by omega
    have hnd20 : Lib.nDigits u ≤ 20 := by have := Lib.numDigits_eq u hu1 hu64; split at this <;> omega
    have hnd1 : 1 ≤ Lib.nDigits u := by
      rw [← Lib.decDigits_length, dec_dgs (u + 1) u (by omega), List.length_map]
      have := dgs_ne u
      have := List.length_pos_iff.2 this
      omega
    have hb3 : Lib.nDigits u ≤ 24 := by omega
    have hal : Tryz.prog.arrayLen 132 = 24 := by kernel_rfl
    have hsl1 : ∀ W, (Instr.sliceAt 132 (.pointer (some ⟨w.heap.size, 0, none⟩)) none (some (.int .i64 (Lib.nDigits u : Int))) none).run Tryz.prog W = .ok (.slice (some ⟨w.heap.size, 0, none⟩) (Lib.nDigits u) 24) W := fun W => by
      rw [run_sliceAt_array_h W 132 ⟨w.heap.size, 0, none⟩ (by kernel_rfl) .i64 (Lib.nDigits u : Int) (by omega) (by rw [hal]; omega)]
      go_simp
    have hH0 := Lib.holds_zero0 w 132 (Lib.nDigits u) hb3
    have hfmt := Tryz.internal_strconv_formatBase10 w.heap.size 0 24 u (Array.replicate (Lib.nDigits u) 0) (w.alloc (.cells Lib.zeros24 132)) hH0 (by rw [Array.size_replicate]; exact Lib.lt_pow_nDigits u) hu64 (by rw [Array.size_replicate]; omega)
    rw [Array.size_replicate] at hfmt
    have k3 : Calls Tryz.prog 74 #[.slice (some ⟨w.heap.size, 0, none⟩) (Lib.nDigits u) 24, .int .u64 (u : Int)] (w.alloc (.cells Lib.zeros24 132)) fun e w' => e = .returned (.tuple #[]) ∧ Below w.heap.size w w' ∧ (convert 40 9 (.slice (some ⟨w.heap.size, 0, none⟩) (Lib.nDigits u) 24)).run Tryz.prog w' = .ok (.string (sb (dgs u 1))) w' := by
      refine hfmt.mono ?_
      rintro e w' ⟨rfl, k, v', dk, rfl, hF⟩
      refine ⟨rfl, ?_, ?_⟩
      · obtain ⟨os, eo⟩ := Lib.fin_at w (.cells Lib.zeros24 132) dk k 0
        rw [eo]
        exact below_grow6 _ _ _
      · have h := run_convert_bytes_back (P := Tryz.prog) ((Sort.putRow (fun (b : UInt8) => Value.int .u8 (b.toNat : Int)) (w.alloc (.cells Lib.zeros24 132)) w.heap.size 0 dk).drewN k) 40 9 5 ⟨w.heap.size, 0, none⟩ 24 (Lib.decDigits u) Tryz.underlying40 (by kernel_rfl) (by kernel_rfl) (fun j hj => by
          rw [Lib.row_is_numeral hF j hj, Lib.add_plain, World.cell?_drewN]
          exact Sort.cell?_putRow (fun (b : UInt8) => Value.int .u8 (b.toNat : Int)) _ w.heap.size 0 _ dk hH0 (by rw [hF.size, Array.size_replicate]) j (by rw [hF.size]; rw [Lib.decDigits_length] at hj; exact hj))
        rw [Lib.decDigits_length, dgs_dec] at h
        exact h
    have k2 := fun w hT => Tryz.internal_strconv_numDigits u hu1 hu64 w hT
    have hT1 := (hT.alloc (.cells Lib.zeros24 132)).tab
    have K3 := hid k3
    have HT1 := hid hT1
    obtain ⟨w1, HW1⟩ : ∃ z, Hid (w.alloc (.cells Lib.zeros24 132) = z) := ⟨_, rfl⟩
    rw [HW1.out] at K3 HT1
    have HW2 : Hid (w.alloc (.cells #[.int .u8 0, .int .u8 0, .int .u8 0, .int .u8 0, .int .u8 0, .int .u8 0, .int .u8 0, .int .u8 0, .int .u8 0, .int .u8 0, .int .u8 0, .int .u8 0, .int .u8 0, .int .u8 0, .int .u8 0, .int .u8 0, .int .u8 0, .int .u8 0, .int .u8 0, .int .u8 0, .int .u8 0, .int .u8 0, .int .u8 0, .int .u8 0] 132) = w1) := HW1.out
    obtain ⟨nd, HND⟩ : ∃ z, Hid (Lib.nDigits u = z) := ⟨_, rfl⟩
    rw [HND.out] at hsl1 K3 hnd1 hnd20 hb3
    have k2' : ∀ w, Lib.TabIs Tryz.prog w "internal/strconv.uint64pow10" .u64 Lib.pow10Tab → Calls Tryz.prog 73 #[.int .u64 (u : Int)] w fun e w' => e = .returned (.int .i64 (nd : Nat)) ∧ w' = w := by
      rw [← HND.out]
      exact k2
    have h100 : ¬ (u : Int) < 100 := by omega
    clear hfmt hH0 hal k2 k3 hT1 hs hu64 hu1
    go_enter Tryz.func110, Tryz.ntmps110
    go_wp2_with fail
    rw [HW2.out]
    refine (k2' _ HT1.out).mono ?_
    rintro e w2 ⟨rfl, hw⟩
    obtain rfl := hw.symm
    go_wp2_with fail
    refine K3.out.mono ?_
    rintro e w3 ⟨rfl, g3, hcv⟩
    have G3 := hid g3
    clear k2' g3
    go_wp2_with fail
    go_ret
    exact ⟨rfl, G3.out⟩
theorem fmtu10_ (u : Nat) (hu : u ≤ 4294967295) (w : World) (hT : Tb w) : Calls Tryz.prog 86 #[.int .u64 (u : Int), .int .i64 10] w fun e w' => e = .returned (.string (sb (dgs u 1))) ∧ Below w.heap.size w w' := by
  have k := fun w hT => fmtu_ u hu w hT
  go_enter Tryz.func86, Tryz.ntmps86
  go_wp2_with fail
  refine (k _ hT).mono ?_
  rintro e w1 ⟨rfl, g⟩
  go_wp2_with fail
  go_ret
  exact ⟨rfl, g⟩
/-- What is answered of a word that is to be a number. -/
def NuV (l : List Nat) : Value := match numv l with
  | none => .tuple #[.int .i64 0, .int .i64 223]
  | some n => .tuple #[.int .i64 (n : Nat), .int .i64 0]
theorem readNumber_ (l : List Nat) (hy : ∀ x ∈ l, x < 256) (hl : l.length ≤ 1048576) (w : World) (hT : Tb w) : Calls Tryz.prog 67 #[.string (sb l)] w fun e w' => e = .returned (NuV l) ∧ Below w.heap.size w w' := by
  have k1 := fun w hT => pu32_ l w (by omega) hT
  have hn := numv_q l
  unfold NuV
  obtain ⟨Q, HQ⟩ : ∃ z, Hid (q32 l = z) := ⟨_, rfl⟩
  rw [HQ.out] at hn
  simp only [HQ.out] at k1
  cases Q with
  | none =>
    simp only at hn
    rw [hn]
    clear hn
    go_enter Tryz.func67, Tryz.ntmps67
    go_wp2_with fail
    refine (k1 _ hT).mono ?_
    rintro e w1 ⟨⟨u, t, p, rfl⟩, g⟩
    clear k1
    go_wp2_with fail
    go_ret2
    exact ⟨rfl, g⟩
  | some u =>
    simp only at hn
    have hu := q32_le HQ.out
    have k2 := fun w hT => fmtu10_ u hu w hT
    have q := sb_eq (dgs_lt u) hy
    by_cases h : dgs u 1 = l
    · rw [if_pos h] at hn
      rw [decide_eq_true h] at q
      rw [hn]
      simp only
      obtain ⟨S, HS⟩ : ∃ z, Hid (sb l = z) := ⟨_, rfl⟩
      obtain ⟨D, HD⟩ : ∃ z, Hid (sb (dgs u 1) = z) := ⟨_, rfl⟩
      simp only [HS.out, HD.out] at k1 k2 q ⊢
      have iu : (0 : Int) ≤ (u : Int) ∧ (u : Int) ≤ 4294967295 := by omega
      clear hn h hl
      go_enter Tryz.func67, Tryz.ntmps67
      go_wp2_with fail
      refine (k1 _ hT).mono ?_
      rintro e w1 ⟨he, g⟩
      obtain rfl : e = _ := he
      have hT1 := hT.kept g
      go_wp2_with fail
      refine (k2 _ hT1).mono ?_
      rintro e w2 ⟨rfl, g2⟩
      clear k1 k2
      go_wp2_with fail
      go_ret2
      exact ⟨by first | rfl | (congr 4; omega), bel_bel g g.size g2⟩
    · rw [if_neg h] at hn
      rw [decide_eq_false h] at q
      rw [hn]
      simp only
      obtain ⟨S, HS⟩ : ∃ z, Hid (sb l = z) := ⟨_, rfl⟩
      obtain ⟨D, HD⟩ : ∃ z, Hid (sb (dgs u 1) = z) := ⟨_, rfl⟩
      simp only [HS.out, HD.out] at k1 k2 q ⊢
      have iu : (0 : Int) ≤ (u : Int) ∧ (u : Int) ≤ 4294967295 := by omega
      clear hn h hl
      go_enter Tryz.func67, Tryz.ntmps67
      go_wp2_with fail
      refine (k1 _ hT).mono ?_
      rintro e w1 ⟨he, g⟩
      obtain rfl : e = _ := he
      have hT1 := hT.kept g
      go_wp2_with fail
      refine (k2 _ hT1).mono ?_
      rintro e w2 ⟨rfl, g2⟩
      clear k1 k2
      go_wp2_with fail
      go_ret2
      exact ⟨rfl, bel_bel g g.size g2⟩
end Go.Proofs.YtkeogggeefnoeaaGreatDoor
namespace Go.Proofs.YtkeogggeefnoeaaGreatDoor
set_option linter.unusedSimpArgs false
set_option maxRecDepth 100000
open Go.RowKit
set_option linter.unusedVariables false

/-! Reading: two hexadecimal digits. Written by genN7.py. -/
/-- ParseUint(.., 16, 8). -/
def ph8 (acc : Nat) : List Nat → Option Nat
  | [] => some acc
  | c :: r => match hv c with
    | none => none
    | some d => if 255 < acc * 16 + d then none else ph8 (acc * 16 + d) r
def q8 (l : List Nat) : Option Nat := if l = [] then none else ph8 0 l
set_option maxHeartbeats 4000000 in
theorem puI8_ (l : List Nat) (w : World) (hy : ∀ x ∈ l, x < 256) (hl : l.length ≤ maxLen) (hne : l ≠ []) :
    Calls Tryz.prog 108 #[.string (sb l), .int .i64 16, .int .i64 8] w fun e w' => PuR (ph8 0 l) e ∧ w' = Lib.bytesWorld w 5 (sb l) := by
  have hemp : (sb l).toList.isEmpty = false := by
    rw [toList_data, sb_data]
    cases l with
    | nil => exact absurd rfl hne
    | cons x r => rfl
  have hcv := Lib.run_convert_string_bytes (P := Tryz.prog) w 9 40 5 (sb l) (u := .string) (by kernel_rfl) Tryz.underlying40 (by kernel_rfl)
  have hB := bytes_at w l hy
  have hsz := sb_size l
  obtain ⟨W1, hW1⟩ : ∃ W1, Lib.bytesWorld w 5 (sb l) = W1 := ⟨_, rfl⟩
  rw [hW1] at hcv hB ⊢
  clear hW1 hne
  obtain ⟨S, HS⟩ : ∃ S, Hid (sb l = S) := ⟨_, rfl⟩
  rw [HS.out] at hemp hcv hsz ⊢
  obtain ⟨n, HL⟩ : ∃ n, Hid (l.length = n) := ⟨_, rfl⟩
  rw [HL.out] at hsz hl
  simp only [HL.out] at hB
  unfold maxLen at hl
  have hmv : IntKind.u64.wrap (IntKind.u64.wrap 256 - 1) = 255 := by
    rw [IntKind.wrap_u64, IntKind.wrap_u64]
    decide
  go_enter Tryz.func108, Tryz.ntmps108
  go_wp2_with fail
  go_loop [12, 13, 101] (fun vu vn vi => ∃ (k acc : Nat) (a : Int), vu = .bool false ∧ vn = .int .u64 a ∧ vi = .int .i64 k ∧ k ≤ n ∧ Hid (a = (acc : Int) ∧ acc ≤ 255 ∧ ph8 0 l = ph8 acc (l.drop k))) (fun _ _ vi => n - (intOf vi).toNat)
  case atStart => exact ⟨0, 0, 0, rfl, rfl, rfl, by omega, rfl, by omega, rfl⟩
  case round =>
    obtain ⟨k, acc, a, rfl, rfl, rfl, hk, hh⟩ := hrel
    obtain ⟨ha, hacc, hph⟩ := hh.out
    have HH := hid hph
    clear hh hph
    have a0 : 0 ≤ a := by omega
    have a1 : a ≤ 255 := by omega
    by_cases hkn : k < n
    · have hc := hB k hkn
      have hdrop : l.drop k = l.getD k 0 :: l.drop (k + 1) := by
        have h' : k < l.length := by rw [HL.out]; exact hkn
        rw [List.drop_eq_getElem_cons h']
        simp [List.getD, h']
      have hc256 : l.getD k 0 < 256 := getD_lt6 hy k
      have HE : Hid (ph8 0 l = match hv (l.getD k 0) with
        | none => none
        | some d => if 255 < acc * 16 + d then none else ph8 (acc * 16 + d) (l.drop (k + 1))) := by
        show _ = _
        rw [HH.out, hdrop]
        rfl
      have hlw := lw_lt (l.getD k 0)
      have HV : Hid (hv (l.getD k 0) = if 48 ≤ l.getD k 0 ∧ l.getD k 0 ≤ 57 then some (l.getD k 0 - 48) else if 97 ≤ lw (l.getD k 0) ∧ lw (l.getD k 0) ≤ 102 then some (lw (l.getD k 0) - 87) else none) := rfl
      have kl : ∀ w, Calls Tryz.prog 127 #[.int .u8 ((l.getD k 0 : Nat) : Int)] w fun e w' => e = .returned (.int .u8 ((lw (l.getD k 0) : Nat) : Int)) ∧ w' = w := fun w => by
        rw [← lw_eq]
        exact Tryz.internal_strconv_lower _ w
      clear hdrop hB HH
      have Hlw : Hid (∀ z, l.getD k 0 = z → lw z = lw (l.getD k 0)) := fun z h => by rw [h]
      generalize lw (l.getD k 0) = y at *
      generalize l.getD k 0 = c at *
      have hI : (k : Int) < (n : Int) := by omega
      by_cases hdig : 48 ≤ c ∧ c ≤ 57
      · obtain ⟨hd0, hd1⟩ := hdig
        have e95 : ((c : Int) == 95) = false := by simp; omega
        have i0 : (48 : Int) ≤ (c : Int) := by omega
        have i1 : (c : Int) ≤ 57 := by omega
        rw [HV.out, if_pos ⟨hd0, hd1⟩] at HE
        have HE2 : Hid (ph8 0 l = if 255 < acc * 16 + (c - 48) then none else ph8 (acc * 16 + (c - 48)) (l.drop (k + 1))) := HE
        clear HE HV kl
        by_cases hov : 255 < acc * 16 + (c - 48)
        · rw [if_pos hov] at HE2
          have iov : 255 < a * 16 + ((c : Int) - 48) := by omega
          clear hov hacc ha hd0 hd1
          go_wp2_with fail
          go_ret2
          refine ⟨?_, rfl⟩
          rw [HE2.out]
          exact ⟨_, _, .inl rfl, rfl⟩
        · rw [if_neg hov] at HE2
          have iov : a * 16 + ((c : Int) - 48) ≤ 255 := by omega
          have HN : Hid (a * 16 + ((c : Int) - 48) = ((acc * 16 + (c - 48) : Nat) : Int) ∧ acc * 16 + (c - 48) ≤ 255 ∧ ph8 0 l = ph8 (acc * 16 + (c - 48)) (l.drop (k + 1))) := ⟨by omega, by omega, HE2.out⟩
          clear hov hacc ha hd0 hd1
          go_wp2_with fail
          refine ⟨⟨k + 1, acc * 16 + (c - 48), a * 16 + ((c : Int) - 48), rfl, (by first | rfl | (congr 1; omega)), (by first | rfl | (congr 1; omega)), by omega, HN⟩, by simp [intOf]; omega⟩
      · rw [HV.out, if_neg hdig] at HE
        clear HV
        by_cases h95 : c = 95
        · obtain rfl : y = 127 := by
            have h1 := Hlw.out 95 h95
            have h2 : lw 95 = 127 := by decide
            omega
          subst h95
          rw [if_neg (by omega)] at HE
          have HE2 : Hid (ph8 0 l = none) := HE
          have kl9 : ∀ w, Calls Tryz.prog 127 #[.int .u8 95] w fun e w' => e = .returned (.int .u8 127) ∧ w' = w := kl
          clear HE hacc ha kl Hlw
          go_wp2_with (go_at_call 127; refine (kl9 _).mono ?_; rintro e w' ⟨rfl, rfl⟩)
          all_goals
            go_ret2
            refine ⟨?_, rfl⟩
            rw [HE2.out]
            exact ⟨_, _, .inr rfl, rfl⟩
        have e95 : ((c : Int) == 95) = false := by simp; omega
        clear Hlw
        by_cases hlet : 97 ≤ y ∧ y ≤ 102
        · obtain ⟨hl0, hl1⟩ := hlet
          rw [if_pos ⟨hl0, hl1⟩] at HE
          have HE2 : Hid (ph8 0 l = if 255 < acc * 16 + (y - 87) then none else ph8 (acc * 16 + (y - 87)) (l.drop (k + 1))) := HE
          clear HE
          have j0 : (97 : Int) ≤ (y : Int) := by omega
          have j1 : (y : Int) ≤ 102 := by omega
          by_cases hov : 255 < acc * 16 + (y - 87)
          · rw [if_pos hov] at HE2
            have iov : 255 < a * 16 + ((y : Int) - 97 + 10) := by omega
            clear hov hacc ha hl0 hl1
            go_wp2_with (go_at_call 127; refine (kl _).mono ?_; rintro e w' ⟨rfl, rfl⟩)
            all_goals
              go_ret2
              refine ⟨?_, rfl⟩
              rw [HE2.out]
              exact ⟨_, _, .inl rfl, rfl⟩
          · rw [if_neg hov] at HE2
            have iov : a * 16 + ((y : Int) - 97 + 10) ≤ 255 := by omega
            have HN : Hid (a * 16 + ((y : Int) - 97 + 10) = ((acc * 16 + (y - 87) : Nat) : Int) ∧ acc * 16 + (y - 87) ≤ 255 ∧ ph8 0 l = ph8 (acc * 16 + (y - 87)) (l.drop (k + 1))) := ⟨by omega, by omega, HE2.out⟩
            clear hov hacc ha hl0 hl1
            go_wp2_with (go_at_call 127; refine (kl _).mono ?_; rintro e w' ⟨rfl, rfl⟩)
            all_goals
              refine ⟨⟨k + 1, acc * 16 + (y - 87), a * 16 + ((y : Int) - 97 + 10), rfl, (by first | rfl | (congr 1; omega)), (by first | rfl | (congr 1; omega)), by omega, HN⟩, by simp [intOf]; omega⟩
        · rw [if_neg hlet] at HE
          have HE2 : Hid (ph8 0 l = none) := HE
          clear HE hacc ha
          go_wp2_with (go_at_call 127; refine (kl _).mono ?_; rintro e w' ⟨rfl, rfl⟩)
          all_goals
            go_ret2
            refine ⟨?_, rfl⟩
            rw [HE2.out]
            exact ⟨_, _, .inr rfl, rfl⟩
    · obtain rfl : k = n := by omega
      subst ha
      have HE : Hid (ph8 0 l = some acc) := by
        show _ = _
        rw [HH.out, List.drop_of_length_le (by rw [HL.out]; exact Nat.le_refl _)]
        rfl
      clear HH hB
      go_wp2_with fail
      go_ret2
      refine ⟨?_, rfl⟩
      rw [HE.out]
      rfl
set_option maxHeartbeats 400000 in
theorem puI08_ (w : World) : Calls Tryz.prog 108 #[.string ⟨#[]⟩, .int .i64 16, .int .i64 8] w fun e w' => PuR none e ∧ w' = w := by
  go_enter Tryz.func108, Tryz.ntmps108
  go_wp2_with fail
  go_ret2
  exact ⟨⟨_, _, .inr rfl, rfl⟩, rfl⟩
theorem puIh_ (l : List Nat) (w : World) (hy : ∀ x ∈ l, x < 256) (hl : l.length ≤ maxLen) :
    Calls Tryz.prog 108 #[.string (sb l), .int .i64 16, .int .i64 8] w fun e w' => PuR (q8 l) e ∧ Below w.heap.size w w' := by
  unfold q8
  by_cases h : l = []
  · subst h
    rw [if_pos rfl]
    refine (puI08_ w).mono ?_
    rintro e w' ⟨h1, rfl⟩
    exact ⟨h1, Below.refl _ _⟩
  · rw [if_neg h]
    refine (puI8_ l w hy hl h).mono ?_
    rintro e w' ⟨h1, rfl⟩
    exact ⟨h1, Lib.bytesWorld_below _ _ _⟩
set_option maxHeartbeats 1000000 in
theorem pu8_ (l : List Nat) (w : World) (hy : ∀ x ∈ l, x < 256) (hl : l.length ≤ 140737488355328) (hT : Tb w) :
    Calls Tryz.prog 85 #[.string (sb l), .int .i64 16, .int .i64 8] w fun e w' => PuP (q8 l) e ∧ Below w.heap.size w w' := by
  have k := fun w => puIh_ l w hy (by unfold maxLen; omega)
  have hsz : (sb l).size ≤ 281474976710656 := by rw [sb_size]; omega
  have kS := fun ev w hv hev => Tryz.strconv_toError_syntax ⟨#[80, 97, 114, 115, 101, 85, 105, 110, 116]⟩ (sb l) 16 8 ev w hsz hv hev
  have kR := fun ev w hv hev => Tryz.strconv_toError_range ⟨#[80, 97, 114, 115, 101, 85, 105, 110, 116]⟩ (sb l) 16 8 ev w hsz hv hev
  obtain ⟨Q, HQ⟩ : ∃ Q, Hid (q8 l = Q) := ⟨_, rfl⟩
  simp only [HQ.out] at k
  rw [HQ.out]
  generalize sb l = S at *
  go_enter Tryz.func85, Tryz.ntmps85
  go_wp2_with fail
  refine (k _).mono ?_
  rintro e w1 ⟨h1, g1⟩
  have hT1 := hT.kept g1
  cases Q with
  | some u =>
    obtain rfl : e = _ := h1
    clear k kS kR HQ
    go_wp2_with fail
    go_ret2
    exact ⟨rfl, g1⟩
  | none =>
    obtain ⟨u, q, hq, rfl⟩ := h1
    clear k HQ
    rcases hq with rfl | rfl
    · obtain ⟨tp, p, hc⟩ := hT1.rngCell
      have kk := kR _ _ hc (.inr ⟨tp, p, rfl⟩)
      clear kS kR hc
      go_wp2_with fail
      refine kk.mono ?_
      rintro e w2 ⟨N, rfl, _, _, g2⟩
      clear kk
      go_wp2_with fail
      go_ret2
      exact ⟨⟨_, _, _, rfl⟩, bel_bel g1 g1.size g2⟩
    · obtain ⟨tp, p, hc⟩ := hT1.synCell
      have kk := kS _ _ hc (.inr ⟨tp, p, rfl⟩)
      clear kS kR hc
      go_wp2_with fail
      refine kk.mono ?_
      rintro e w2 ⟨N, rfl, _, _, g2⟩
      clear kk
      go_wp2_with fail
      go_ret2
      exact ⟨⟨_, _, _, rfl⟩, bel_bel g1 g1.size g2⟩
theorem hv_hdv : ∀ c, c < 256 → hv c = hdv c := by decide +kernel
/-- Two letters as one byte. -/
def q2 (a b : Nat) : Option Nat := match hdv a, hdv b with
  | some x, some y => some (16 * x + y)
  | _, _ => none
theorem q8_two {a b : Nat} (ha : a < 256) (hb : b < 256) : q8 [a, b] = q2 a b := by
  unfold q8 q2
  rw [if_neg (by simp)]
  simp only [ph8, hv_hdv a ha, hv_hdv b hb]
  cases h1 : hdv a with
  | none => rfl
  | some x =>
    have hx := hdv_lt h1
    simp only
    rw [if_neg (by omega)]
    cases h2 : hdv b with
    | none => rfl
    | some y =>
      have hy := hdv_lt h2
      simp only
      rw [if_neg (by omega)]
      congr 1
      omega
end Go.Proofs.YtkeogggeefnoeaaGreatDoor
