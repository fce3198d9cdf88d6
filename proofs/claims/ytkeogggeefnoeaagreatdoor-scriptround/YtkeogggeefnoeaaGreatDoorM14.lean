import Derived.Test.YtkeogggeefnoeaaGreatDoorM11
namespace Go.Proofs.YtkeogggeefnoeaaGreatDoor
set_option linter.unusedSimpArgs false
open Go.RowKit
set_option linter.unusedVariables false
set_option maxRecDepth 100000

/-! Writing: what a step has. Written by genM12.py. -/
def odv (x : OD) : Value := .agg #[.int .i64 x.o.kd, .int .i64 x.o.a, .int .i64 x.o.k, .int .i64 x.o.t, .int .i64 x.o.x, .int .i64 x.o.lk, .slice x.da x.o.d.length x.dp, .int .i64 x.o.sec, .int .i64 x.o.nano, .int .i64 x.o.bl, .int .i64 x.o.wi, .slice x.ca x.o.ch.length x.cp, .slice x.fa x.o.fl.length x.fp, .slice x.ka x.o.kp.length x.kp]
/-- The numbers of a step as Go's. -/
structure InO (c : Opp) : Prop where
  kd : InI c.kd
  a : InI c.a
  k : InI c.k
  t : InI c.t
  x : InI c.x
  lk : InI c.lk
  sec : InI c.sec
  nano : InI c.nano
  bl : InI c.bl
  wi : InI c.wi
/-- A step in a variable. -/
def Ov (w : World) (g : Nat) (x : OD) : Prop := w.heap[g]? = some (.cells #[.int .i64 x.o.kd, .int .i64 x.o.a, .int .i64 x.o.k, .int .i64 x.o.t, .int .i64 x.o.x, .int .i64 x.o.lk, .slice x.da x.o.d.length x.dp, .int .i64 x.o.sec, .int .i64 x.o.nano, .int .i64 x.o.bl, .int .i64 x.o.wi, .slice x.ca x.o.ch.length x.cp, .slice x.fa x.o.fl.length x.fp, .slice x.ka x.o.kp.length x.kp] 53 (0, 0))
theorem Ov.c {w : World} {g : Nat} {x : OD} (h : Ov w g x) (i : Nat) : w.cell? ⟨g, i, none⟩ = (odc x)[i]? := (cell_of_row _ _ i _ _ (0, 0) h).trans (by simp [odc])
theorem Ov.new (w : World) (x : OD) : Ov (w.alloc (.cells #[.int .i64 x.o.kd, .int .i64 x.o.a, .int .i64 x.o.k, .int .i64 x.o.t, .int .i64 x.o.x, .int .i64 x.o.lk, .slice x.da x.o.d.length x.dp, .int .i64 x.o.sec, .int .i64 x.o.nano, .int .i64 x.o.bl, .int .i64 x.o.wi, .slice x.ca x.o.ch.length x.cp, .slice x.fa x.o.fl.length x.fp, .slice x.ka x.o.kp.length x.kp] 53)) w.heap.size x := heap_alloc_new w _
theorem Ov.on {w w' : World} {g : Nat} {x : OD} (h : Ov w g x) (hb : Below w.heap.size w w') : Ov w' g x := (hb.block g (Array.getElem?_eq_some_iff.1 h).1).trans h
def sNl (f : Nat) : Prop := f = 97 ∨ f = 107 ∨ f = 116 ∨ f = 120 ∨ f = 108 ∨ f = 98 ∨ f = 119
def sOff (f : Nat) : Nat := if f = 97 then 1 else if f = 107 then 2 else if f = 116 then 3 else if f = 120 then 4 else if f = 108 then 5 else if f = 98 then 9 else 10
theorem eqst (s n : Int) (w : World) : (Op.equalIn 10000 46 (.agg #[.int .i64 s, .int .i64 n]) (.agg #[.int .i64 0, .int .i64 0])).run Tryz.prog w = .ok (decide (s = 0 ∧ n = 0)) w := by
  rw [show (10000 : Nat) = 9999 + 1 from rfl, run_equalIn_agg w 9999 46 _ _ (by kernel_rfl) (by kernel_rfl)]
  simp only [Program.fieldsOf, Tryz.underlying46]
  by_cases h1 : s = 0
  · subst h1
    by_cases h2 : n = 0
    · subst h2
      go_simp
    · go_simp
      try simp [h2]
  · go_simp
    try simp [h1]
theorem stepNumber_ (g f : Nat) (hf : sNl f) (w : World) : Calls Tryz.prog 44 #[.pointer (some ⟨g, 0, none⟩), .int .i32 (f : Int)] w fun e w' => e = .returned (.pointer (some ⟨g, sOff f, none⟩)) ∧ w' = w := by
  rcases hf with rfl | rfl | rfl | rfl | rfl | rfl | rfl
  · rw [show ((97 : Nat) : Int) = 97 from rfl]
    go_enter Tryz.func44, Tryz.ntmps44
    go_wp2_with fail
    go_ret
    exact ⟨rfl, rfl⟩
  · rw [show ((107 : Nat) : Int) = 107 from rfl]
    go_enter Tryz.func44, Tryz.ntmps44
    go_wp2_with fail
    go_ret
    exact ⟨rfl, rfl⟩
  · rw [show ((116 : Nat) : Int) = 116 from rfl]
    go_enter Tryz.func44, Tryz.ntmps44
    go_wp2_with fail
    go_ret
    exact ⟨rfl, rfl⟩
  · rw [show ((120 : Nat) : Int) = 120 from rfl]
    go_enter Tryz.func44, Tryz.ntmps44
    go_wp2_with fail
    go_ret
    exact ⟨rfl, rfl⟩
  · rw [show ((108 : Nat) : Int) = 108 from rfl]
    go_enter Tryz.func44, Tryz.ntmps44
    go_wp2_with fail
    go_ret
    exact ⟨rfl, rfl⟩
  · rw [show ((98 : Nat) : Int) = 98 from rfl]
    go_enter Tryz.func44, Tryz.ntmps44
    go_wp2_with fail
    go_ret
    exact ⟨rfl, rfl⟩
  · rw [show ((119 : Nat) : Int) = 119 from rfl]
    go_enter Tryz.func44, Tryz.ntmps44
    go_wp2_with fail
    go_ret
    exact ⟨rfl, rfl⟩
set_option maxHeartbeats 4000000 in
theorem stepHas_ (x : OD) (f : Nat) (hf : sLet f) (w : World) : Calls Tryz.prog 38 #[odv x, .int .i32 (f : Int)] w fun e w' => e = .returned (.bool (sHas x.o f)) ∧ Below w.heap.size w w' := by
  obtain ⟨⟨kd, a, k, t, x, lk, d, sec, nano, bl, wi, ch, fl, kq⟩, da, dp, ca, cp, fa, fp, ka, kp⟩ := x
  unfold odv
  simp only
  have HC := hid (Ov.new w ⟨⟨kd, a, k, t, x, lk, d, sec, nano, bl, wi, ch, fl, kq⟩, da, dp, ca, cp, fa, fp, ka, kp⟩)
  simp only at HC
  obtain ⟨nd, HD⟩ : ∃ z, Hid (d.length = z) := ⟨_, rfl⟩
  obtain ⟨nc, HCN⟩ : ∃ z, Hid (ch.length = z) := ⟨_, rfl⟩
  obtain ⟨nf, HFN⟩ : ∃ z, Hid (fl.length = z) := ⟨_, rfl⟩
  obtain ⟨nk, HKN⟩ : ∃ z, Hid (kq.length = z) := ⟨_, rfl⟩
  rw [HD.out, HCN.out, HFN.out, HKN.out] at HC ⊢
  have HB := hid ((Below.refl w.heap.size w).alloc (Nat.le_refl _) (.cells #[.int .i64 kd, .int .i64 a, .int .i64 k, .int .i64 t, .int .i64 x, .int .i64 lk, .slice da nd dp, .int .i64 sec, .int .i64 nano, .int .i64 bl, .int .i64 wi, .slice ca nc cp, .slice fa nf fp, .slice ka nk kp] 53))
  rcases hf with rfl | rfl | rfl | rfl | rfl | rfl | rfl | rfl | rfl | rfl | rfl | rfl
  · rw [show ((97 : Nat) : Int) = 97 from rfl]
    obtain ⟨w1, HW1⟩ : ∃ z, Hid (w.alloc (.cells #[.int .i64 kd, .int .i64 a, .int .i64 k, .int .i64 t, .int .i64 x, .int .i64 lk, .slice da nd dp, .int .i64 sec, .int .i64 nano, .int .i64 bl, .int .i64 wi, .slice ca nc cp, .slice fa nf fp, .slice ka nk kp] 53) = z) := ⟨_, rfl⟩
    rw [HW1.out] at HC HB
    have k1 := stepNumber_ w.heap.size 97 (by simp [sNl]) w1
    rw [show sOff 97 = 1 from rfl, show ((97 : Nat) : Int) = 97 from rfl] at k1
    have hv : sHas ⟨kd, a, k, t, x, lk, d, sec, nano, bl, wi, ch, fl, kq⟩ 97 = !(a == 0) := by
      show decide (a ≠ 0) = _
      by_cases h : a = 0 <;> simp [h]
    rw [hv]
    have c1 : w1.cell? ⟨w.heap.size, 1, none⟩ = some (.int .i64 a) := HC.out.c 1
    go_enter Tryz.func38, Tryz.ntmps38
    go_wp2_with fail
    rw [HW1.out]
    refine k1.mono ?_
    rintro e w2 ⟨rfl, hw⟩
    obtain rfl := hw.symm
    clear k1
    go_wp2_with fail
    go_ret
    exact ⟨by first | rfl | simp, HB.out⟩
  · rw [show ((107 : Nat) : Int) = 107 from rfl]
    obtain ⟨w1, HW1⟩ : ∃ z, Hid (w.alloc (.cells #[.int .i64 kd, .int .i64 a, .int .i64 k, .int .i64 t, .int .i64 x, .int .i64 lk, .slice da nd dp, .int .i64 sec, .int .i64 nano, .int .i64 bl, .int .i64 wi, .slice ca nc cp, .slice fa nf fp, .slice ka nk kp] 53) = z) := ⟨_, rfl⟩
    rw [HW1.out] at HC HB
    have k1 := stepNumber_ w.heap.size 107 (by simp [sNl]) w1
    rw [show sOff 107 = 2 from rfl, show ((107 : Nat) : Int) = 107 from rfl] at k1
    have hv : sHas ⟨kd, a, k, t, x, lk, d, sec, nano, bl, wi, ch, fl, kq⟩ 107 = !(k == 0) := by
      show decide (k ≠ 0) = _
      by_cases h : k = 0 <;> simp [h]
    rw [hv]
    have c1 : w1.cell? ⟨w.heap.size, 2, none⟩ = some (.int .i64 k) := HC.out.c 2
    go_enter Tryz.func38, Tryz.ntmps38
    go_wp2_with fail
    rw [HW1.out]
    refine k1.mono ?_
    rintro e w2 ⟨rfl, hw⟩
    obtain rfl := hw.symm
    clear k1
    go_wp2_with fail
    go_ret
    exact ⟨by first | rfl | simp, HB.out⟩
  · rw [show ((116 : Nat) : Int) = 116 from rfl]
    obtain ⟨w1, HW1⟩ : ∃ z, Hid (w.alloc (.cells #[.int .i64 kd, .int .i64 a, .int .i64 k, .int .i64 t, .int .i64 x, .int .i64 lk, .slice da nd dp, .int .i64 sec, .int .i64 nano, .int .i64 bl, .int .i64 wi, .slice ca nc cp, .slice fa nf fp, .slice ka nk kp] 53) = z) := ⟨_, rfl⟩
    rw [HW1.out] at HC HB
    have k1 := stepNumber_ w.heap.size 116 (by simp [sNl]) w1
    rw [show sOff 116 = 3 from rfl, show ((116 : Nat) : Int) = 116 from rfl] at k1
    have hv : sHas ⟨kd, a, k, t, x, lk, d, sec, nano, bl, wi, ch, fl, kq⟩ 116 = !(t == 0) := by
      show decide (t ≠ 0) = _
      by_cases h : t = 0 <;> simp [h]
    rw [hv]
    have c1 : w1.cell? ⟨w.heap.size, 3, none⟩ = some (.int .i64 t) := HC.out.c 3
    go_enter Tryz.func38, Tryz.ntmps38
    go_wp2_with fail
    rw [HW1.out]
    refine k1.mono ?_
    rintro e w2 ⟨rfl, hw⟩
    obtain rfl := hw.symm
    clear k1
    go_wp2_with fail
    go_ret
    exact ⟨by first | rfl | simp, HB.out⟩
  · rw [show ((120 : Nat) : Int) = 120 from rfl]
    obtain ⟨w1, HW1⟩ : ∃ z, Hid (w.alloc (.cells #[.int .i64 kd, .int .i64 a, .int .i64 k, .int .i64 t, .int .i64 x, .int .i64 lk, .slice da nd dp, .int .i64 sec, .int .i64 nano, .int .i64 bl, .int .i64 wi, .slice ca nc cp, .slice fa nf fp, .slice ka nk kp] 53) = z) := ⟨_, rfl⟩
    rw [HW1.out] at HC HB
    have k1 := stepNumber_ w.heap.size 120 (by simp [sNl]) w1
    rw [show sOff 120 = 4 from rfl, show ((120 : Nat) : Int) = 120 from rfl] at k1
    have hv : sHas ⟨kd, a, k, t, x, lk, d, sec, nano, bl, wi, ch, fl, kq⟩ 120 = !(x == 0) := by
      show decide (x ≠ 0) = _
      by_cases h : x = 0 <;> simp [h]
    rw [hv]
    have c1 : w1.cell? ⟨w.heap.size, 4, none⟩ = some (.int .i64 x) := HC.out.c 4
    go_enter Tryz.func38, Tryz.ntmps38
    go_wp2_with fail
    rw [HW1.out]
    refine k1.mono ?_
    rintro e w2 ⟨rfl, hw⟩
    obtain rfl := hw.symm
    clear k1
    go_wp2_with fail
    go_ret
    exact ⟨by first | rfl | simp, HB.out⟩
  · rw [show ((108 : Nat) : Int) = 108 from rfl]
    obtain ⟨w1, HW1⟩ : ∃ z, Hid (w.alloc (.cells #[.int .i64 kd, .int .i64 a, .int .i64 k, .int .i64 t, .int .i64 x, .int .i64 lk, .slice da nd dp, .int .i64 sec, .int .i64 nano, .int .i64 bl, .int .i64 wi, .slice ca nc cp, .slice fa nf fp, .slice ka nk kp] 53) = z) := ⟨_, rfl⟩
    rw [HW1.out] at HC HB
    have k1 := stepNumber_ w.heap.size 108 (by simp [sNl]) w1
    rw [show sOff 108 = 5 from rfl, show ((108 : Nat) : Int) = 108 from rfl] at k1
    have hv : sHas ⟨kd, a, k, t, x, lk, d, sec, nano, bl, wi, ch, fl, kq⟩ 108 = !(lk == 0) := by
      show decide (lk ≠ 0) = _
      by_cases h : lk = 0 <;> simp [h]
    rw [hv]
    have c1 : w1.cell? ⟨w.heap.size, 5, none⟩ = some (.int .i64 lk) := HC.out.c 5
    go_enter Tryz.func38, Tryz.ntmps38
    go_wp2_with fail
    rw [HW1.out]
    refine k1.mono ?_
    rintro e w2 ⟨rfl, hw⟩
    obtain rfl := hw.symm
    clear k1
    go_wp2_with fail
    go_ret
    exact ⟨by first | rfl | simp, HB.out⟩
  · rw [show ((98 : Nat) : Int) = 98 from rfl]
    obtain ⟨w1, HW1⟩ : ∃ z, Hid (w.alloc (.cells #[.int .i64 kd, .int .i64 a, .int .i64 k, .int .i64 t, .int .i64 x, .int .i64 lk, .slice da nd dp, .int .i64 sec, .int .i64 nano, .int .i64 bl, .int .i64 wi, .slice ca nc cp, .slice fa nf fp, .slice ka nk kp] 53) = z) := ⟨_, rfl⟩
    rw [HW1.out] at HC HB
    have k1 := stepNumber_ w.heap.size 98 (by simp [sNl]) w1
    rw [show sOff 98 = 9 from rfl, show ((98 : Nat) : Int) = 98 from rfl] at k1
    have hv : sHas ⟨kd, a, k, t, x, lk, d, sec, nano, bl, wi, ch, fl, kq⟩ 98 = !(bl == 0) := by
      show decide (bl ≠ 0) = _
      by_cases h : bl = 0 <;> simp [h]
    rw [hv]
    have c1 : w1.cell? ⟨w.heap.size, 9, none⟩ = some (.int .i64 bl) := HC.out.c 9
    go_enter Tryz.func38, Tryz.ntmps38
    go_wp2_with fail
    rw [HW1.out]
    refine k1.mono ?_
    rintro e w2 ⟨rfl, hw⟩
    obtain rfl := hw.symm
    clear k1
    go_wp2_with fail
    go_ret
    exact ⟨by first | rfl | simp, HB.out⟩
  · rw [show ((119 : Nat) : Int) = 119 from rfl]
    obtain ⟨w1, HW1⟩ : ∃ z, Hid (w.alloc (.cells #[.int .i64 kd, .int .i64 a, .int .i64 k, .int .i64 t, .int .i64 x, .int .i64 lk, .slice da nd dp, .int .i64 sec, .int .i64 nano, .int .i64 bl, .int .i64 wi, .slice ca nc cp, .slice fa nf fp, .slice ka nk kp] 53) = z) := ⟨_, rfl⟩
    rw [HW1.out] at HC HB
    have k1 := stepNumber_ w.heap.size 119 (by simp [sNl]) w1
    rw [show sOff 119 = 10 from rfl, show ((119 : Nat) : Int) = 119 from rfl] at k1
    have hv : sHas ⟨kd, a, k, t, x, lk, d, sec, nano, bl, wi, ch, fl, kq⟩ 119 = !(wi == 0) := by
      show decide (wi ≠ 0) = _
      by_cases h : wi = 0 <;> simp [h]
    rw [hv]
    have c1 : w1.cell? ⟨w.heap.size, 10, none⟩ = some (.int .i64 wi) := HC.out.c 10
    go_enter Tryz.func38, Tryz.ntmps38
    go_wp2_with fail
    rw [HW1.out]
    refine k1.mono ?_
    rintro e w2 ⟨rfl, hw⟩
    obtain rfl := hw.symm
    clear k1
    go_wp2_with fail
    go_ret
    exact ⟨by first | rfl | simp, HB.out⟩
  · rw [show ((72 : Nat) : Int) = 72 from rfl]
    have hv : sHas ⟨kd, a, k, t, x, lk, d, sec, nano, bl, wi, ch, fl, kq⟩ 72 = decide (0 < nd) := by
      have hn := HD.out
      show decide (d ≠ []) = _
      cases d with
      | nil => simp at hn; subst hn; rfl
      | cons y k => simp at hn; rw [decide_eq_true (by simp), decide_eq_true (by omega)]
    rw [hv]
    clear hv
    have c3 := HC.out.c 6
    simp only [odc, List.getElem?_cons_succ, List.getElem?_cons_zero, HD.out] at c3
    go_enter Tryz.func38, Tryz.ntmps38
    go_wp2_with fail
    go_ret
    exact ⟨rfl, HB.out⟩
  · rw [show ((83 : Nat) : Int) = 83 from rfl]
    have c7 := HC.out.c 7
    have c8 := HC.out.c 8
    simp only [odc, List.getElem?_cons_succ, List.getElem?_cons_zero] at c7 c8
    by_cases hz : sec = 0 ∧ nano = 0
    · have hv : sHas ⟨kd, a, k, t, x, lk, d, sec, nano, bl, wi, ch, fl, kq⟩ 83 = false := decide_eq_false (fun h => h hz)
      rw [hv]
      obtain ⟨rfl, rfl⟩ := hz
      go_enter Tryz.func38, Tryz.ntmps38
      go_wp2_with fail
      go_ret
      exact ⟨rfl, HB.out⟩
    · have hv : sHas ⟨kd, a, k, t, x, lk, d, sec, nano, bl, wi, ch, fl, kq⟩ 83 = true := decide_eq_true hz
      rw [hv]
      have he : ∀ w, (Op.equalIn 10000 46 (.agg #[.int .i64 sec, .int .i64 nano]) (.agg #[.int .i64 0, .int .i64 0])).run Tryz.prog w = .ok false w := fun w => by
        rw [eqst sec nano w, decide_eq_false hz]
      clear hz
      go_enter Tryz.func38, Tryz.ntmps38
      go_wp2_with fail
      go_ret
      exact ⟨rfl, HB.out⟩
  · rw [show ((66 : Nat) : Int) = 66 from rfl]
    have hv : sHas ⟨kd, a, k, t, x, lk, d, sec, nano, bl, wi, ch, fl, kq⟩ 66 = decide (0 < nk) := by
      have hn := HKN.out
      show decide (kq ≠ []) = _
      cases kq with
      | nil => simp at hn; subst hn; rfl
      | cons y k => simp at hn; rw [decide_eq_true (by simp), decide_eq_true (by omega)]
    rw [hv]
    clear hv
    have c3 := HC.out.c 13
    simp only [odc, List.getElem?_cons_succ, List.getElem?_cons_zero, HKN.out] at c3
    go_enter Tryz.func38, Tryz.ntmps38
    go_wp2_with fail
    go_ret
    exact ⟨rfl, HB.out⟩
  · rw [show ((70 : Nat) : Int) = 70 from rfl]
    have hv : sHas ⟨kd, a, k, t, x, lk, d, sec, nano, bl, wi, ch, fl, kq⟩ 70 = decide (0 < nf) := by
      have hn := HFN.out
      show decide (fl ≠ []) = _
      cases fl with
      | nil => simp at hn; subst hn; rfl
      | cons y k => simp at hn; rw [decide_eq_true (by simp), decide_eq_true (by omega)]
    rw [hv]
    clear hv
    have c3 := HC.out.c 12
    simp only [odc, List.getElem?_cons_succ, List.getElem?_cons_zero, HFN.out] at c3
    go_enter Tryz.func38, Tryz.ntmps38
    go_wp2_with fail
    go_ret
    exact ⟨rfl, HB.out⟩
  · rw [show ((67 : Nat) : Int) = 67 from rfl]
    have hv : sHas ⟨kd, a, k, t, x, lk, d, sec, nano, bl, wi, ch, fl, kq⟩ 67 = decide (0 < nc) := by
      have hn := HCN.out
      show decide (ch ≠ []) = _
      cases ch with
      | nil => simp at hn; subst hn; rfl
      | cons y k => simp at hn; rw [decide_eq_true (by simp), decide_eq_true (by omega)]
    rw [hv]
    clear hv
    have c3 := HC.out.c 11
    simp only [odc, List.getElem?_cons_succ, List.getElem?_cons_zero, HCN.out] at c3
    go_enter Tryz.func38, Tryz.ntmps38
    go_wp2_with fail
    go_ret
    exact ⟨rfl, HB.out⟩
end Go.Proofs.YtkeogggeefnoeaaGreatDoor
namespace Go.Proofs.YtkeogggeefnoeaaGreatDoor
set_option linter.unusedSimpArgs false
open Go.RowKit
set_option linter.unusedVariables false
set_option maxRecDepth 100000

/-! Writing: what is spare in a step; a step's field. Written by genM13.py. -/
def sspr1 (c : Opp) (fs : List Nat) (f : Nat) : Bool := !fs.contains f && sHas c f
theorem sSpr_eq (c : Opp) (fs : List Nat) : sSpr c fs = sAll.any (sspr1 c fs) := rfl
set_option maxHeartbeats 4000000 in
theorem stepSpare_ (x : OD) (fs : List Nat) (hfs : ∀ y ∈ fs, y < 256) (w : World) : Calls Tryz.prog 27 #[odv x, .string (sb fs)] w fun e w' => e = .returned (.bool (sSpr x.o fs)) ∧ Below w.heap.size w w' := by
  rw [sSpr_eq]
  obtain ⟨p, HPP⟩ : ∃ z, Hid (sspr1 x.o fs = z) := ⟨_, rfl⟩
  rw [HPP.out]
  have HNL := hid (next_low sAll (by decide))
  have HNE := hid (next_end sAll)
  have HK1 := hid fun f hf wx => containsRune_ fs hfs f hf wx
  have HK2 := hid fun f hf wx => stepHas_ x f hf wx
  obtain ⟨FS, HFS⟩ : ∃ z, Hid (sb fs = z) := ⟨_, rfl⟩
  rw [HFS.out] at HK1 ⊢
  have HC := hid (Ov.new w x)
  have HB := hid ((Below.refl w.heap.size w).alloc (Nat.le_refl _) (.cells #[.int .i64 x.o.kd, .int .i64 x.o.a, .int .i64 x.o.k, .int .i64 x.o.t, .int .i64 x.o.x, .int .i64 x.o.lk, .slice x.da x.o.d.length x.dp, .int .i64 x.o.sec, .int .i64 x.o.nano, .int .i64 x.o.bl, .int .i64 x.o.wi, .slice x.ca x.o.ch.length x.cp, .slice x.fa x.o.fl.length x.fp, .slice x.ka x.o.kp.length x.kp] 53))
  obtain ⟨w1, HW1⟩ : ∃ z, Hid (w.alloc (.cells #[.int .i64 x.o.kd, .int .i64 x.o.a, .int .i64 x.o.k, .int .i64 x.o.t, .int .i64 x.o.x, .int .i64 x.o.lk, .slice x.da x.o.d.length x.dp, .int .i64 x.o.sec, .int .i64 x.o.nano, .int .i64 x.o.bl, .int .i64 x.o.wi, .slice x.ca x.o.ch.length x.cp, .slice x.fa x.o.fl.length x.fp, .slice x.ka x.o.kp.length x.kp] 53) = z) := ⟨_, rfl⟩
  obtain ⟨cg, HCG⟩ : ∃ z, Hid (w.heap.size = z) := ⟨_, rfl⟩
  have HSZ : Hid (w1.heap.size = cg + 1) := by show _ = _; rw [← HW1.out, ← HCG.out]; simp
  rw [HW1.out] at HC HB
  rw [HCG.out] at HC
  unfold odv at HK2 ⊢
  clear hfs
  go_enter Tryz.func27, Tryz.ntmps27
  go_upto_region 1 with fail
  rw [HW1.out, HCG.out]
  go_wp2_with fail
  have HI0 : Hid (It (w1.alloc (.stringIter ⟨#[97, 107, 116, 120, 108, 98, 119, 72, 83, 66, 70, 67]⟩ 0)) w1.heap.size (sb sAll) 0) := heap_alloc_new w1 _
  have HB2 : Hid (Below w.heap.size w (w1.alloc (.stringIter ⟨#[97, 107, 116, 120, 108, 98, 119, 72, 83, 66, 70, 67]⟩ 0))) := HB.out.alloc HB.out.size _
  have HC2 := hid (HC.out.on ((Below.refl w1.heap.size w1).alloc (Nat.le_refl _) (.stringIter ⟨#[97, 107, 116, 120, 108, 98, 119, 72, 83, 66, 70, 67]⟩ 0)))
  obtain ⟨S, HS⟩ : ∃ z, Hid (sb sAll = z) := ⟨_, rfl⟩
  rw [HS.out] at HNL HNE HI0
  rw [HSZ.out] at HI0 ⊢
  go_loopw [6] (fun u wr => ∃ j : Nat, j ≤ 12 ∧ Hid ((sAll.take j).any p = false) ∧ Hid (It wr (cg + 1) S j) ∧ Hid (Ov wr cg x) ∧ Hid (Below w.heap.size w wr)) (fun u wr => 12 - wr.iterPos (cg + 1))
  case atStart => exact ⟨0, by omega, rfl, HI0, HC2, HB2⟩
  case round =>
    obtain ⟨j, hj, HA, HI, HV, HBW⟩ := hrel
    by_cases hlt : j < 12
    · obtain ⟨f, HF⟩ : ∃ z, Hid (sAll.getD j 0 = z) := ⟨_, rfl⟩
      have HFL : Hid (sLet f ∧ f < 128) := by
        rw [← HF.out]
        rcases (show j = 0 ∨ j = 1 ∨ j = 2 ∨ j = 3 ∨ j = 4 ∨ j = 5 ∨ j = 6 ∨ j = 7 ∨ j = 8 ∨ j = 9 ∨ j = 10 ∨ j = 11 by omega) with rfl | rfl | rfl | rfl | rfl | rfl | rfl | rfl | rfl | rfl | rfl | rfl <;> exact ⟨by simp [sLet, sAll], by decide⟩
      have hnx := HNL.out j hlt wr _ HI.out (by rw [HF.out]; exact HFL.out.2)
      rw [HF.out] at hnx
      have hit2 : It (wr.iterAt (cg + 1) S (j + 1)) (cg + 1) S (j + 1) := Lib.iterAt_heap wr _ S j (j + 1) HI.out
      have HB3 : Hid (Below w.heap.size w (wr.iterAt (cg + 1) S (j + 1))) := Lib.below_iterAt HBW.out (k := cg + 1) (by have := HCG.out; omega) S (j + 1)
      have HV3 : Hid (Ov (wr.iterAt (cg + 1) S (j + 1)) cg x) := (Lib.iterAt_other wr (cg + 1) cg S (j + 1) (by omega)).trans HV.out
      have HP1 := hid HI.out.pos
      have HI2 := hid hit2
      generalize wr.iterAt (cg + 1) S (j + 1) = w2 at *
      have k1 := HK1.out f HFL.out.2 w2
      have k2 := HK2.out f HFL.out.1 w2
      have hpf : sspr1 x.o fs f = p f := by rw [HPP.out]
      have HTK := hid (any_take (p := p) sAll j hlt)
      rw [HF.out] at HTK
      have HIT := hid (any_hit (p := p) sAll j hlt)
      rw [HF.out] at HIT
      have v0 := HV3.out.c 0
      have v1 := HV3.out.c 1
      have v2 := HV3.out.c 2
      have v3 := HV3.out.c 3
      have v4 := HV3.out.c 4
      have v5 := HV3.out.c 5
      have v6 := HV3.out.c 6
      have v7 := HV3.out.c 7
      have v8 := HV3.out.c 8
      have v9 := HV3.out.c 9
      have v10 := HV3.out.c 10
      have v11 := HV3.out.c 11
      have v12 := HV3.out.c 12
      have v13 := HV3.out.c 13
      simp only [odc, List.getElem?_cons_succ, List.getElem?_cons_zero] at v0 v1 v2 v3 v4 v5 v6 v7 v8 v9 v10 v11 v12 v13
      clear hit2 HI HV HBW
      cases hc : fs.contains f
      · rw [hc] at k1
        unfold sspr1 at hpf
        rw [hc] at hpf
        cases hh : sHas x.o f
        · rw [hh] at k2
          have HPF : Hid (p f = false) := by rw [hh] at hpf; exact hpf.symm
          clear hpf hc hh
          go_wp2_with fail
          refine k1.mono ?_
          rintro e w3 ⟨rfl, hw⟩
          obtain rfl := hw.symm
          clear k1
          go_wp2_with fail
          refine k2.mono ?_
          rintro e w4 ⟨rfl, g4⟩
          have HB4 := hid (bel_bel HB3.out HB3.out.size g4)
          have HV4 := hid (HV3.out.on g4)
          have HI4 : Hid (It w4 (cg + 1) S (j + 1)) := (g4.block (cg + 1) (Array.getElem?_eq_some_iff.1 HI2.out).1).trans HI2.out
          clear k2 g4 v0 v1 v2 v3 v4 v5 v6 v7 v8 v9 v10 v11 v12 v13
          go_wp2_with fail
          go_roundw
          case rel => exact ⟨j + 1, by omega, by show _ = _; rw [HTK.out, HA.out, HPF.out]; rfl, HI4, HV4, HB4⟩
          case measure => rw [HI4.out.pos, HP1.out]; omega
        · rw [hh] at k2
          have HPF : Hid (p f = true) := by rw [hh] at hpf; exact hpf.symm
          clear hpf hc hh
          go_wp2_with fail
          refine k1.mono ?_
          rintro e w3 ⟨rfl, hw⟩
          obtain rfl := hw.symm
          clear k1
          go_wp2_with fail
          refine k2.mono ?_
          rintro e w4 ⟨rfl, g4⟩
          have HB4 := hid (bel_bel HB3.out HB3.out.size g4)
          clear k2 g4 v0 v1 v2 v3 v4 v5 v6 v7 v8 v9 v10 v11 v12 v13
          go_wp2_with fail
          go_ret
          exact ⟨by rw [HIT.out HPF.out]; rfl, HB4.out⟩
      · rw [hc] at k1
        unfold sspr1 at hpf
        rw [hc] at hpf
        have HPF : Hid (p f = false) := by rw [← hpf]; rfl
        clear hpf hc k2
        go_wp2_with fail
        refine k1.mono ?_
        rintro e w3 ⟨rfl, hw⟩
        obtain rfl := hw.symm
        clear k1 v0 v1 v2 v3 v4 v5 v6 v7 v8 v9 v10 v11 v12 v13
        go_wp2_with fail
        go_roundw
        case rel => exact ⟨j + 1, by omega, by show _ = _; rw [HTK.out, HA.out, HPF.out]; rfl, HI2, HV3, HB3⟩
        case measure => rw [HI2.out.pos, HP1.out]; omega
    · obtain rfl : j = 12 := by omega
      have hnx := HNE.out wr _ HI.out
      have HR : Hid (sAll.any p = false) := HA.out
      clear HA HI
      go_wp2_with fail
      go_ret
      exact ⟨by rw [HR.out]; rfl, HBW.out⟩
end Go.Proofs.YtkeogggeefnoeaaGreatDoor
namespace Go.Proofs.YtkeogggeefnoeaaGreatDoor
set_option linter.unusedSimpArgs false
open Go.RowKit
set_option linter.unusedVariables false
set_option maxRecDepth 100000

/-! Writing: a step's field. Written by genM14.py. -/
theorem nTx_nz (n : Int) : Nz (nTx n) := by
  unfold nTx
  split <;> simp [Nz]
theorem catR_nz {α : Type} {f : α → R (List (List Nat))} (hf : ∀ x, Nz (f x)) : ∀ l : List α, Nz (catR f l)
  | [] => by intro h; cases h
  | x :: l => by
    have ih := catR_nz hf l
    have hx := hf x
    unfold Nz
    rw [catR]
    cases h : f x with
    | error e => intro he; cases he; exact hx h
    | ok y =>
      simp only
      cases h2 : catR f l with
      | error e => intro he; cases he; exact ih h2
      | ok r => intro he; cases he
theorem cTx_nz (c : Chg) (f : Nat) : Nz (cTx c f) := by
  unfold cTx
  split
  · simp [Nz]
  · split
    · split <;> simp [Nz]
    · exact nTx_nz _
theorem chgW_nz (c : Chg) : Nz (chgW c) := by
  unfold chgW
  split
  · split
    · simp [Nz]
    · have := catR_nz (cTx_nz c) (cFm c.kd.toNat)
      cases h : catR (cTx c) (cFm c.kd.toNat) with
      | error e => intro he; cases he; exact this h
      | ok r => intro he; cases he
  · simp [Nz]
theorem chsW_nz (l : List Chg) : Nz (chsW l) := by
  unfold chsW
  have := mapR_nz chgW_nz l
  cases h : mapR chgW l with
  | error e => intro he; cases he; exact this h
  | ok r =>
    simp only
    split <;> simp [Nz]
/-- A step that can be. -/
structure Bo (o : Opp) : Prop where
  dl : o.d.length ≤ 140737488355328
  cl : o.ch.length ≤ 140737488355328
  cs : ∀ x ∈ o.ch, InC x ∧ x.key.length ≤ 140737488355328
  fl : o.fl.length ≤ 140737488355328
  fs : ∀ x ∈ o.fl, InI x.1 ∧ InI x.2
  kl : o.kp.length ≤ 9223372036854775807
section
variable {Kk : Nat → Obj → Prop} {w0 w : World} {g : Nat} {T : List Nat} {V : Nat → Prop}
set_option maxHeartbeats 4000000 in
theorem stepField_ (h : Pg Kk w0 w g T) (hq : Tq w0) (x : OD) (hx : InO x.o) (hv : Vo w0 V x) (hb : Bo x.o) (f : Nat) (hf : sLet f) :
    Calls Tryz.prog 28 #[.pointer (some ⟨g, 0, none⟩), odv x, .int .i32 (f : Int)] w fun e w' => Pw Kk w0 g T (sTx x.o f) e w' := by
  obtain ⟨⟨kd, a, k, t, x, lk, d, sec, nano, bl, wi, ch, fl, kq⟩, da, dp, ca, cp, fa, fp, ka, kp⟩ := x
  unfold odv
  simp only
  have HC := hid (Ov.new w ⟨⟨kd, a, k, t, x, lk, d, sec, nano, bl, wi, ch, fl, kq⟩, da, dp, ca, cp, fa, fp, ka, kp⟩)
  have v0 : Vs w0 V da d.length dp (ic d) := hv.d
  have v1 : Cs w0 V ca ch.length ch := hv.c
  have v2 : Fts w0 V fa fl.length fl := hv.f
  have v3 : Kps w0 V ka kq.length kq := hv.k
  have v4 : kq.length ≤ kp := hv.kc
  have b0 : d.length ≤ 140737488355328 := hb.dl
  have b1 : ch.length ≤ 140737488355328 := hb.cl
  have b2 : fl.length ≤ 140737488355328 := hb.fl
  have b3 : kq.length ≤ 9223372036854775807 := hb.kl
  have b4 : ∀ x ∈ ch, InC x ∧ x.key.length ≤ 140737488355328 := hb.cs
  have b5 : ∀ x ∈ fl, InI x.1 ∧ InI x.2 := hb.fs
  simp only at HC
  obtain ⟨nd, HD⟩ : ∃ z, Hid (d.length = z) := ⟨_, rfl⟩
  obtain ⟨nc, HCN⟩ : ∃ z, Hid (ch.length = z) := ⟨_, rfl⟩
  obtain ⟨nf, HFN⟩ : ∃ z, Hid (fl.length = z) := ⟨_, rfl⟩
  obtain ⟨nk, HKN⟩ : ∃ z, Hid (kq.length = z) := ⟨_, rfl⟩
  rw [HD.out] at v0 b0
  rw [HCN.out] at v1 b1
  rw [HFN.out] at v2 b2
  rw [HKN.out] at v3 v4 b3
  rw [HD.out, HCN.out, HFN.out, HKN.out] at HC ⊢
  have HB := hid ((Below.refl w.heap.size w).alloc (Nat.le_refl _) (.cells #[.int .i64 kd, .int .i64 a, .int .i64 k, .int .i64 t, .int .i64 x, .int .i64 lk, .slice da nd dp, .int .i64 sec, .int .i64 nano, .int .i64 bl, .int .i64 wi, .slice ca nc cp, .slice fa nf fp, .slice ka nk kp] 53))
  have HP := hid (h.on HB.out)
  obtain ⟨w1, HW1⟩ : ∃ z, Hid (w.alloc (.cells #[.int .i64 kd, .int .i64 a, .int .i64 k, .int .i64 t, .int .i64 x, .int .i64 lk, .slice da nd dp, .int .i64 sec, .int .i64 nano, .int .i64 bl, .int .i64 wi, .slice ca nc cp, .slice fa nf fp, .slice ka nk kp] 53) = z) := ⟨_, rfl⟩
  obtain ⟨cg, HCG⟩ : ∃ z, Hid (w.heap.size = z) := ⟨_, rfl⟩
  rw [HW1.out] at HC HB HP
  rw [HCG.out] at HC
  have HX := hid hx
  have HV0 := hid v0
  have HV1 := hid v1
  have HV2 := hid v2
  have HV3 := hid v3
  have HV4 := hid v4
  have HB0 := hid b0
  have HB1 := hid b1
  have HB2 := hid b2
  have HB3 := hid b3
  have HB4 := hid b4
  have HB5 := hid b5
  have HQ := hid hq
  clear h hq hx hv hb v0 v1 v2 v3 v4 b0 b1 b2 b3 b4 b5
  rcases hf with rfl | rfl | rfl | rfl | rfl | rfl | rfl | rfl | rfl | rfl | rfl | rfl
  · show Calls _ _ _ _ fun e w' => Pw Kk w0 g T (nTx a) e w'
    rw [show ((97 : Nat) : Int) = 97 from rfl]
    have q1 : w1.cell? ⟨cg, 1, none⟩ = some (.int .i64 a) := HC.out.c 1
    have k1 := stepNumber_ cg 97 (by simp [sNl]) w1
    rw [show sOff 97 = 1 from rfl, show ((97 : Nat) : Int) = 97 from rfl] at k1
    have k2 := number_ HP.out HQ.out.tb a HX.out.a
    obtain ⟨r, HR⟩ : ∃ z, Hid (nTx a = z) := ⟨_, rfl⟩
    rw [HR.out] at k2 ⊢
    go_enter Tryz.func28, Tryz.ntmps28
    go_upto_region 1 with fail
    rw [HW1.out, HCG.out]
    go_wp2_with fail
    refine k1.mono ?_
    rintro e w2 ⟨rfl, hw⟩
    obtain rfl := hw.symm
    clear k1
    go_wp2_with fail
    refine k2.mono ?_
    intro e w3 h3
    cases r with
    | ok ws =>
      obtain ⟨rfl, h3⟩ := h3
      have H3 := hid h3
      clear k2 h3
      go_wp2_with fail
      go_ret
      exact ⟨rfl, H3.out⟩
    | error y =>
      obtain ⟨rfl, h3⟩ := h3
      have H3 := hid h3
      clear k2 h3
      go_wp2_with fail
      go_ret
      exact ⟨rfl, H3.out⟩
  · show Calls _ _ _ _ fun e w' => Pw Kk w0 g T (nTx k) e w'
    rw [show ((107 : Nat) : Int) = 107 from rfl]
    have q1 : w1.cell? ⟨cg, 2, none⟩ = some (.int .i64 k) := HC.out.c 2
    have k1 := stepNumber_ cg 107 (by simp [sNl]) w1
    rw [show sOff 107 = 2 from rfl, show ((107 : Nat) : Int) = 107 from rfl] at k1
    have k2 := number_ HP.out HQ.out.tb k HX.out.k
    obtain ⟨r, HR⟩ : ∃ z, Hid (nTx k = z) := ⟨_, rfl⟩
    rw [HR.out] at k2 ⊢
    go_enter Tryz.func28, Tryz.ntmps28
    go_upto_region 1 with fail
    rw [HW1.out, HCG.out]
    go_wp2_with fail
    refine k1.mono ?_
    rintro e w2 ⟨rfl, hw⟩
    obtain rfl := hw.symm
    clear k1
    go_wp2_with fail
    refine k2.mono ?_
    intro e w3 h3
    cases r with
    | ok ws =>
      obtain ⟨rfl, h3⟩ := h3
      have H3 := hid h3
      clear k2 h3
      go_wp2_with fail
      go_ret
      exact ⟨rfl, H3.out⟩
    | error y =>
      obtain ⟨rfl, h3⟩ := h3
      have H3 := hid h3
      clear k2 h3
      go_wp2_with fail
      go_ret
      exact ⟨rfl, H3.out⟩
  · show Calls _ _ _ _ fun e w' => Pw Kk w0 g T (nTx t) e w'
    rw [show ((116 : Nat) : Int) = 116 from rfl]
    have q1 : w1.cell? ⟨cg, 3, none⟩ = some (.int .i64 t) := HC.out.c 3
    have k1 := stepNumber_ cg 116 (by simp [sNl]) w1
    rw [show sOff 116 = 3 from rfl, show ((116 : Nat) : Int) = 116 from rfl] at k1
    have k2 := number_ HP.out HQ.out.tb t HX.out.t
    obtain ⟨r, HR⟩ : ∃ z, Hid (nTx t = z) := ⟨_, rfl⟩
    rw [HR.out] at k2 ⊢
    go_enter Tryz.func28, Tryz.ntmps28
    go_upto_region 1 with fail
    rw [HW1.out, HCG.out]
    go_wp2_with fail
    refine k1.mono ?_
    rintro e w2 ⟨rfl, hw⟩
    obtain rfl := hw.symm
    clear k1
    go_wp2_with fail
    refine k2.mono ?_
    intro e w3 h3
    cases r with
    | ok ws =>
      obtain ⟨rfl, h3⟩ := h3
      have H3 := hid h3
      clear k2 h3
      go_wp2_with fail
      go_ret
      exact ⟨rfl, H3.out⟩
    | error y =>
      obtain ⟨rfl, h3⟩ := h3
      have H3 := hid h3
      clear k2 h3
      go_wp2_with fail
      go_ret
      exact ⟨rfl, H3.out⟩
  · show Calls _ _ _ _ fun e w' => Pw Kk w0 g T (nTx x) e w'
    rw [show ((120 : Nat) : Int) = 120 from rfl]
    have q1 : w1.cell? ⟨cg, 4, none⟩ = some (.int .i64 x) := HC.out.c 4
    have k1 := stepNumber_ cg 120 (by simp [sNl]) w1
    rw [show sOff 120 = 4 from rfl, show ((120 : Nat) : Int) = 120 from rfl] at k1
    have k2 := number_ HP.out HQ.out.tb x HX.out.x
    obtain ⟨r, HR⟩ : ∃ z, Hid (nTx x = z) := ⟨_, rfl⟩
    rw [HR.out] at k2 ⊢
    go_enter Tryz.func28, Tryz.ntmps28
    go_upto_region 1 with fail
    rw [HW1.out, HCG.out]
    go_wp2_with fail
    refine k1.mono ?_
    rintro e w2 ⟨rfl, hw⟩
    obtain rfl := hw.symm
    clear k1
    go_wp2_with fail
    refine k2.mono ?_
    intro e w3 h3
    cases r with
    | ok ws =>
      obtain ⟨rfl, h3⟩ := h3
      have H3 := hid h3
      clear k2 h3
      go_wp2_with fail
      go_ret
      exact ⟨rfl, H3.out⟩
    | error y =>
      obtain ⟨rfl, h3⟩ := h3
      have H3 := hid h3
      clear k2 h3
      go_wp2_with fail
      go_ret
      exact ⟨rfl, H3.out⟩
  · show Calls _ _ _ _ fun e w' => Pw Kk w0 g T (nTx lk) e w'
    rw [show ((108 : Nat) : Int) = 108 from rfl]
    have q1 : w1.cell? ⟨cg, 5, none⟩ = some (.int .i64 lk) := HC.out.c 5
    have k1 := stepNumber_ cg 108 (by simp [sNl]) w1
    rw [show sOff 108 = 5 from rfl, show ((108 : Nat) : Int) = 108 from rfl] at k1
    have k2 := number_ HP.out HQ.out.tb lk HX.out.lk
    obtain ⟨r, HR⟩ : ∃ z, Hid (nTx lk = z) := ⟨_, rfl⟩
    rw [HR.out] at k2 ⊢
    go_enter Tryz.func28, Tryz.ntmps28
    go_upto_region 1 with fail
    rw [HW1.out, HCG.out]
    go_wp2_with fail
    refine k1.mono ?_
    rintro e w2 ⟨rfl, hw⟩
    obtain rfl := hw.symm
    clear k1
    go_wp2_with fail
    refine k2.mono ?_
    intro e w3 h3
    cases r with
    | ok ws =>
      obtain ⟨rfl, h3⟩ := h3
      have H3 := hid h3
      clear k2 h3
      go_wp2_with fail
      go_ret
      exact ⟨rfl, H3.out⟩
    | error y =>
      obtain ⟨rfl, h3⟩ := h3
      have H3 := hid h3
      clear k2 h3
      go_wp2_with fail
      go_ret
      exact ⟨rfl, H3.out⟩
  · show Calls _ _ _ _ fun e w' => Pw Kk w0 g T (nTx bl) e w'
    rw [show ((98 : Nat) : Int) = 98 from rfl]
    have q1 : w1.cell? ⟨cg, 9, none⟩ = some (.int .i64 bl) := HC.out.c 9
    have k1 := stepNumber_ cg 98 (by simp [sNl]) w1
    rw [show sOff 98 = 9 from rfl, show ((98 : Nat) : Int) = 98 from rfl] at k1
    have k2 := number_ HP.out HQ.out.tb bl HX.out.bl
    obtain ⟨r, HR⟩ : ∃ z, Hid (nTx bl = z) := ⟨_, rfl⟩
    rw [HR.out] at k2 ⊢
    go_enter Tryz.func28, Tryz.ntmps28
    go_upto_region 1 with fail
    rw [HW1.out, HCG.out]
    go_wp2_with fail
    refine k1.mono ?_
    rintro e w2 ⟨rfl, hw⟩
    obtain rfl := hw.symm
    clear k1
    go_wp2_with fail
    refine k2.mono ?_
    intro e w3 h3
    cases r with
    | ok ws =>
      obtain ⟨rfl, h3⟩ := h3
      have H3 := hid h3
      clear k2 h3
      go_wp2_with fail
      go_ret
      exact ⟨rfl, H3.out⟩
    | error y =>
      obtain ⟨rfl, h3⟩ := h3
      have H3 := hid h3
      clear k2 h3
      go_wp2_with fail
      go_ret
      exact ⟨rfl, H3.out⟩
  · show Calls _ _ _ _ fun e w' => Pw Kk w0 g T (nTx wi) e w'
    rw [show ((119 : Nat) : Int) = 119 from rfl]
    have q1 : w1.cell? ⟨cg, 10, none⟩ = some (.int .i64 wi) := HC.out.c 10
    have k1 := stepNumber_ cg 119 (by simp [sNl]) w1
    rw [show sOff 119 = 10 from rfl, show ((119 : Nat) : Int) = 119 from rfl] at k1
    have k2 := number_ HP.out HQ.out.tb wi HX.out.wi
    obtain ⟨r, HR⟩ : ∃ z, Hid (nTx wi = z) := ⟨_, rfl⟩
    rw [HR.out] at k2 ⊢
    go_enter Tryz.func28, Tryz.ntmps28
    go_upto_region 1 with fail
    rw [HW1.out, HCG.out]
    go_wp2_with fail
    refine k1.mono ?_
    rintro e w2 ⟨rfl, hw⟩
    obtain rfl := hw.symm
    clear k1
    go_wp2_with fail
    refine k2.mono ?_
    intro e w3 h3
    cases r with
    | ok ws =>
      obtain ⟨rfl, h3⟩ := h3
      have H3 := hid h3
      clear k2 h3
      go_wp2_with fail
      go_ret
      exact ⟨rfl, H3.out⟩
    | error y =>
      obtain ⟨rfl, h3⟩ := h3
      have H3 := hid h3
      clear k2 h3
      go_wp2_with fail
      go_ret
      exact ⟨rfl, H3.out⟩
  · show Calls _ _ _ _ fun e w' => Pw Kk w0 g T (.ok [hxt d]) e w'
    rw [show ((72 : Nat) : Int) = 72 from rfl]
    have q3 : w1.cell? ⟨cg, 6, none⟩ = some (.slice da nd dp) := by have := HC.out.c 6; simp only [odc, List.getElem?_cons_succ, List.getElem?_cons_zero, HD.out] at this; exact this
    have k2 := hex_ HP.out d da nd dp HV0.out HB0.out
    go_enter Tryz.func28, Tryz.ntmps28
    go_upto_region 1 with fail
    rw [HW1.out, HCG.out]
    go_wp2_with fail
    refine k2.mono ?_
    rintro e w3 ⟨rfl, h3⟩
    have H3 := hid h3
    clear k2 h3
    go_wp2_with fail
    go_ret
    exact ⟨rfl, by rw [spw_one]; exact H3.out⟩
  · show Calls _ _ _ _ fun e w' => Pw Kk w0 g T (if vld sec nano then .ok [pr sec nano] else .error 60) e w'
    rw [show ((83 : Nat) : Int) = 83 from rfl]
    have q7 : w1.cell? ⟨cg, 7, none⟩ = some (.int .i64 sec) := HC.out.c 7
    have q8 : w1.cell? ⟨cg, 8, none⟩ = some (.int .i64 nano) := HC.out.c 8
    have k2 := stampP_ HP.out HQ.out.tb sec nano HX.out.sec HX.out.nano
    obtain ⟨r, HR⟩ : ∃ z, Hid ((if vld sec nano then .ok [pr sec nano] else .error 60 : R (List (List Nat))) = z) := ⟨_, rfl⟩
    rw [HR.out] at k2 ⊢
    go_enter Tryz.func28, Tryz.ntmps28
    go_upto_region 1 with fail
    rw [HW1.out, HCG.out]
    go_wp2_with fail
    refine k2.mono ?_
    intro e w3 h3
    cases r with
    | ok ws =>
      obtain ⟨rfl, h3⟩ := h3
      have H3 := hid h3
      clear k2 h3
      go_wp2_with fail
      go_ret
      exact ⟨rfl, H3.out⟩
    | error y =>
      obtain ⟨rfl, h3⟩ := h3
      have H3 := hid h3
      clear k2 h3
      go_wp2_with fail
      go_ret
      exact ⟨rfl, H3.out⟩
  · show Calls _ _ _ _ fun e w' => Pw Kk w0 g T (.ok [bitt kq]) e w'
    rw [show ((66 : Nat) : Int) = 66 from rfl]
    have q3 : w1.cell? ⟨cg, 13, none⟩ = some (.slice ka nk kp) := by have := HC.out.c 13; simp only [odc, List.getElem?_cons_succ, List.getElem?_cons_zero, HKN.out] at this; exact this
    have k2 := bits_ HP.out kq ka nk kp HV3.out HV4.out HB3.out
    go_enter Tryz.func28, Tryz.ntmps28
    go_upto_region 1 with fail
    rw [HW1.out, HCG.out]
    go_wp2_with fail
    refine k2.mono ?_
    rintro e w3 ⟨rfl, h3⟩
    have H3 := hid h3
    clear k2 h3
    go_wp2_with fail
    go_ret
    exact ⟨rfl, by rw [spw_one]; exact H3.out⟩
  · show Calls _ _ _ _ fun e w' => Pw Kk w0 g T (fltW fl) e w'
    rw [show ((70 : Nat) : Int) = 70 from rfl]
    have q3 : w1.cell? ⟨cg, 12, none⟩ = some (.slice fa nf fp) := by have := HC.out.c 12; simp only [odc, List.getElem?_cons_succ, List.getElem?_cons_zero, HFN.out] at this; exact this
    have k2 := faults_ (p := fp) HP.out HQ.out HV2.out HB5.out HB2.out
    obtain ⟨r, HR⟩ : ∃ z, Hid (fltW fl = z) := ⟨_, rfl⟩
    rw [HR.out] at k2 ⊢
    go_enter Tryz.func28, Tryz.ntmps28
    go_upto_region 1 with fail
    rw [HW1.out, HCG.out]
    go_wp2_with fail
    refine k2.mono ?_
    intro e w3 h3
    cases r with
    | ok ws =>
      obtain ⟨rfl, h3⟩ := h3
      have H3 := hid h3
      clear k2 h3
      go_wp2_with fail
      go_ret
      exact ⟨rfl, H3.out⟩
    | error y =>
      obtain ⟨rfl, h3⟩ := h3
      have H3 := hid h3
      clear k2 h3
      go_wp2_with fail
      go_ret
      exact ⟨rfl, H3.out⟩
  · show Calls _ _ _ _ fun e w' => Pw Kk w0 g T (chsW ch) e w'
    rw [show ((67 : Nat) : Int) = 67 from rfl]
    have q3 : w1.cell? ⟨cg, 11, none⟩ = some (.slice ca nc cp) := by have := HC.out.c 11; simp only [odc, List.getElem?_cons_succ, List.getElem?_cons_zero, HCN.out] at this; exact this
    have k2 := changes_ (p := cp) HP.out HQ.out HV1.out HB4.out HB1.out (fun x e hx => chsW_nz ch (by rw [e, hx]))
    obtain ⟨r, HR⟩ : ∃ z, Hid (chsW ch = z) := ⟨_, rfl⟩
    rw [HR.out] at k2 ⊢
    go_enter Tryz.func28, Tryz.ntmps28
    go_upto_region 1 with fail
    rw [HW1.out, HCG.out]
    go_wp2_with fail
    refine k2.mono ?_
    intro e w3 h3
    cases r with
    | ok ws =>
      obtain ⟨rfl, h3⟩ := h3
      have H3 := hid h3
      clear k2 h3
      go_wp2_with fail
      go_ret
      exact ⟨rfl, H3.out⟩
    | error y =>
      obtain ⟨rfl, h3⟩ := h3
      have H3 := hid h3
      clear k2 h3
      go_wp2_with fail
      go_ret
      exact ⟨rfl, H3.out⟩
end
end Go.Proofs.YtkeogggeefnoeaaGreatDoor
