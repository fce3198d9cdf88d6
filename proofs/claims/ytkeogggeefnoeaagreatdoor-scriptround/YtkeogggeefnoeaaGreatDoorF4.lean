import Derived.Test.YtkeogggeefnoeaaGreatDoorF3
import Derived.Test.YtkeogggeefnoeaaGreatDoorKR
namespace Go.Proofs.YtkeogggeefnoeaaGreatDoor
set_option linter.unusedSimpArgs false
open Go.RowKit Go.Shelf
set_option linter.unusedVariables false
set_option maxRecDepth 100000

/-! ScriptRound. -/
theorem fltW_nz (l : List (Int × Int)) : Nz (fltW l) := by
  rw [fltW_cat]
  refine catR_nz (fun x => ?_) l
  unfold fl1
  have h1 := nTx_nz x.1
  split
  · cases hx : nTx x.1 with
    | error e => rw [hx] at h1; intro he; cases he; exact h1 rfl
    | ok n => intro he; cases he
  · intro he; cases he
theorem sTx_nz (o : Opp) (f : Nat) : Nz (sTx o f) := by
  unfold sTx
  split
  · intro he; cases he
  split
  · split <;> (intro he; cases he)
  split
  · intro he; cases he
  split
  · exact fltW_nz _
  split
  · exact chsW_nz _
  · exact nTx_nz _
theorem stpW_nz (o : Opp) : Nz (stpW o) := by
  unfold stpW
  split
  · split
    · intro he; cases he
    · have h := catR_nz (sTx_nz o) (sFm o.kd.toNat)
      cases hx : catR (sTx o) (sFm o.kd.toNat) with
      | error e => rw [hx] at h; intro he; cases he; exact h rfl
      | ok n => intro he; cases he
  · intro he; cases he
theorem scrW_no {s : Scr} {e : Nat} (h : scrW s = .error e) : e ≠ 0 ∧ (2000 < s.ops.length → 0 ≤ s.sec → s.sec ≤ 4294967295 → e = 221) := by
  unfold scrW at h
  split at h
  · rename_i x hx
    cases h
    unfold nTx at hx
    split at hx
    · cases hx
    · rename_i hr
      cases hx
      exact ⟨by decide, fun _ h1 h2 => absurd ⟨h1, h2⟩ hr⟩
  · split at h
    · cases h
      exact ⟨by decide, fun _ _ _ => rfl⟩
    · rename_i hm
      split at h
      · rename_i x hx
        cases h
        refine ⟨?_, fun h1 => absurd h1 hm⟩
        intro e0
        rw [e0] at hx
        exact mapR_nz stpW_nz s.ops hx
      · split at h
        · cases h
          exact ⟨by decide, fun h1 => absurd h1 hm⟩
        · cases h
theorem scrW_len {s : Scr} {T : List Nat} (h : scrW s = .ok T) : s.ops.length ≤ 2000 := by
  unfold scrW at h
  split at h
  · cases h
  · split at h
    · cases h
    · omega
set_option maxHeartbeats 8000000 in
theorem scriptRound_ (sec : Int) (a : Option Addr) (n c : Nat) (l : List Opp) (w : World) (hq : Tq w) (hi : IsScr w sec a n l) : Calls Tryz.prog 3 #[.agg #[.int .i64 sec, .slice a n c]] w fun e w' => e = .returned (.bool true) ∧ Below w.heap.size w w' := by
  have hln := hi.len
  have HQ := hid hq
  have HI := hid hi
  have b1 : Below w.heap.size w (w.alloc (.cells #[.int .i64 sec, .slice a n c] 24)) := (Below.refl _ _).alloc (Nat.le_refl _) _
  have HB1 := hid b1
  have HY1 := hid (Yx.new w 24 [.int .i64 sec, .slice a n c])
  have k1 := scr_first _ (hq.kept b1)
  have hN : n ≤ 140737488355328 := by have := hi.n; omega
  clear hq hi b1
  obtain ⟨r, HR⟩ : ∃ z, Hid (scrW ⟨sec, l⟩ = z) := ⟨_, rfl⟩
  cases r with
  | ok T =>
    have hT := HR.out
    have hlen : n ≤ 2000 := by have := scrW_len hT; rw [← hln]; exact this
    have hrd := scr_round (fun o ho => HI.out.o o ho) hT
    have hTy := scr_byte (fun o ho => HI.out.o o ho) hT
    obtain ⟨Y, HY⟩ : ∃ z, Hid (sb T = z) := ⟨_, rfl⟩
    have KP : Hid (∀ (wx : World) (V : Nat → Prop) (a : Option Addr) (p : Nat), Tq wx → Ops wx V a n l → Calls Tryz.prog 8 #[.agg #[.int .i64 sec, .slice a n p]] wx fun e w' => e = .returned (.tuple #[.string Y, .int .i64 0]) ∧ Below wx.heap.size wx w') := fun wx V a p hq ho => by
      rw [← HY.out]
      refine (scrPrint_ hq HI.out.s ho HI.out.i hN).mono ?_
      rintro e w' ⟨rfl, g, _⟩
      rw [hT]
      exact ⟨rfl, g⟩
    have KR := hid fun wx (h : Tq wx) => scr_parseL T hTy sec l 0 0 n hrd.1 hln 0 0 rfl rfl wx h
    rw [HY.out] at KR
    have hle : (n : Int) ≤ 2000 := by omega
    clear hT hrd hTy hln
    go_enter Tryz.func3, Tryz.ntmps3
    go_wp2_with fail
    refine k1.mono ?_
    rintro e w1 ⟨rfl, g1⟩
    have HB2 := hid (bel_bel HB1.out HB1.out.size g1)
    have y1 : Yx w1 w.heap.size 24 [.int .i64 sec, .slice a n c] := HY1.out.on g1
    have k2 := scr_copied sec a n c l w1 (HI.out.v.on HB2.out) HI.out.n HI.out.b
    have c0 := y1.cell 0
    have c1 := y1.cell 1
    simp only [List.getElem?_cons_succ, List.getElem?_cons_zero] at c0 c1
    have HY2 := hid y1
    clear k1 g1 y1 HY1 HB1
    go_wp2_with fail
    clear c0 c1
    refine k2.mono ?_
    rintro e w3 ⟨a3, p3, rfl, ho3, g3⟩
    have HB3 := hid (bel_bel HB2.out HB2.out.size g3)
    have HY3 : Hid (Yx w3 w.heap.size 24 [.int .i64 sec, .slice a n c]) := HY2.out.on g3
    have k3 := KP.out w3 _ a3 p3 (HQ.out.kept HB3.out) ho3
    clear k2 ho3 g3 HY2 HB2
    go_wp2_with fail
    refine k3.mono ?_
    rintro e w4 ⟨rfl, g4⟩
    have HB4 := hid (bel_bel HB3.out HB3.out.size g4)
    have HY4 : Hid (Yx w4 w.heap.size 24 [.int .i64 sec, .slice a n c]) := HY3.out.on g4
    have k4 := KR.out w4 (HQ.out.kept HB4.out)
    clear k3 g4 HB3 HY3 KR KP
    go_wp2_with fail
    refine (scr_num _ _).mono ?_
    rintro e _ ⟨rfl, rfl⟩
    go_wp2_with fail
    refine k4.mono ?_
    rintro e w5 ⟨⟨a', p', rfl, ho⟩, g5⟩
    have b6 : Below w5.heap.size w5 (w5.alloc (.cells #[.int .i64 sec, .slice a' n p'] 24)) := (Below.refl _ _).alloc (Nat.le_refl _) _
    have g6 := bel_bel g5 g5.size b6
    have HB6 := hid (bel_bel HB4.out HB4.out.size g6)
    have k6 := scr_same sec a' a n p' c l _ (ho.on b6) (HI.out.v.on HB6.out) HI.out.q hN
    have y0 := Yx.new w5 24 [.int .i64 sec, .slice a' n p']
    have y1 : Yx (w5.alloc (.cells #[.int .i64 sec, .slice a' n p'] 24)) w.heap.size 24 [.int .i64 sec, .slice a n c] := HY4.out.on g6
    have c0 := y0.cell 0
    have c1 := y0.cell 1
    have d0 := y1.cell 0
    have d1 := y1.cell 1
    simp only [List.getElem?_cons_succ, List.getElem?_cons_zero] at c0 c1 d0 d1
    have HY6 := hid y1
    clear k4 g5 b6 g6 ho HY4 HB4 y0 y1
    go_wp2_with fail
    clear c0 c1 d0 d1
    refine k6.mono ?_
    rintro e w7 ⟨rfl, g7⟩
    have HB7 := hid (bel_bel HB6.out HB6.out.size g7)
    have y7 : Yx w7 w.heap.size 24 [.int .i64 sec, .slice a n c] := HY6.out.on g7
    have d1 := y7.cell 1
    simp only [List.getElem?_cons_succ, List.getElem?_cons_zero] at d1
    clear k6 g7 HB6 HY6 y7
    go_wp2_with fail
    refine (scr_num _ _).mono ?_
    rintro e _ ⟨rfl, rfl⟩
    go_wp2_with fail
    go_ret
    exact ⟨rfl, HB7.out⟩
  | error er =>
    obtain ⟨he0, he2⟩ := scrW_no HR.out
    simp only at he2
    rw [hln] at he2
    obtain ⟨E, HE⟩ : ∃ z : Int, Hid ((er : Int) = z) := ⟨_, rfl⟩
    have he1 : (E != 0) = true := by have := HE.out; simp; omega
    have HMM : Hid (2000 < n → 0 ≤ sec → sec ≤ 4294967295 → E = 221) := fun h1 h2 h3 => by have := he2 h1 h2 h3; have := HE.out; omega
    have KP : Hid (∀ (wx : World) (V : Nat → Prop) (a : Option Addr) (p : Nat), Tq wx → Ops wx V a n l → Calls Tryz.prog 8 #[.agg #[.int .i64 sec, .slice a n p]] wx fun e w' => e = .returned (.tuple #[.string ⟨#[]⟩, .int .i64 E]) ∧ Below wx.heap.size wx w') := fun wx V a p hq ho => scr_printE hq HI.out.s ho HI.out.i hN er E HE.out HR.out
    clear he0 he2 hln
    go_enter Tryz.func3, Tryz.ntmps3
    go_wp2_with fail
    refine k1.mono ?_
    rintro e w1 ⟨rfl, g1⟩
    have HB2 := hid (bel_bel HB1.out HB1.out.size g1)
    have y1 : Yx w1 w.heap.size 24 [.int .i64 sec, .slice a n c] := HY1.out.on g1
    have k2 := scr_copied sec a n c l w1 (HI.out.v.on HB2.out) HI.out.n HI.out.b
    have c0 := y1.cell 0
    have c1 := y1.cell 1
    simp only [List.getElem?_cons_succ, List.getElem?_cons_zero] at c0 c1
    have HY2 := hid y1
    clear k1 g1 y1 HY1 HB1
    go_wp2_with fail
    clear c0 c1
    refine k2.mono ?_
    rintro e w3 ⟨a3, p3, rfl, ho3, g3⟩
    have HB3 := hid (bel_bel HB2.out HB2.out.size g3)
    have HY3 : Hid (Yx w3 w.heap.size 24 [.int .i64 sec, .slice a n c]) := HY2.out.on g3
    have k3 := KP.out w3 _ a3 p3 (HQ.out.kept HB3.out) ho3
    clear k2 ho3 g3 HY2 HB2
    go_wp2_with fail
    refine k3.mono ?_
    rintro e w4 ⟨rfl, g4⟩
    have HB4 := hid (bel_bel HB3.out HB3.out.size g4)
    have y4 : Yx w4 w.heap.size 24 [.int .i64 sec, .slice a n c] := HY3.out.on g4
    have c0 := y4.cell 0
    have c1 := y4.cell 1
    simp only [List.getElem?_cons_succ, List.getElem?_cons_zero] at c0 c1
    clear k3 g4 HB3 HY3 KP y4
    go_wp2_with fail
    refine (scr_num _ _).mono ?_
    rintro e _ ⟨rfl, rfl⟩
    by_cases h1 : 2000 < n
    · have i1 : decide ((2000 : Int) < (n : Int)) = true := decide_eq_true (by omega)
      by_cases h2 : 0 ≤ sec
      · have i2 : decide ((0 : Int) ≤ sec) = true := decide_eq_true h2
        by_cases h3 : sec ≤ 4294967295
        · have i3 : decide (sec ≤ 4294967295) = true := decide_eq_true h3
          have hE := HMM.out h1 h2 h3
          clear h1 h2 h3
          subst hE
          go_wp2_with fail
          refine (scr_num _ _).mono ?_
          rintro e _ ⟨rfl, rfl⟩
          go_wp2_with fail
          go_ret
          exact ⟨rfl, HB4.out⟩
        · have i3 : decide (sec ≤ 4294967295) = false := decide_eq_false h3
          clear h1 h2 h3
          go_wp2_with fail
          go_ret
          exact ⟨rfl, HB4.out⟩
      · have i2 : decide ((0 : Int) ≤ sec) = false := decide_eq_false h2
        clear h1 h2
        go_wp2_with fail
        go_ret
        exact ⟨rfl, HB4.out⟩
    · have i1 : decide ((2000 : Int) < (n : Int)) = false := decide_eq_false (by omega)
      clear h1
      go_wp2_with fail
      go_ret
      exact ⟨rfl, HB4.out⟩
end Go.Proofs.YtkeogggeefnoeaaGreatDoor
