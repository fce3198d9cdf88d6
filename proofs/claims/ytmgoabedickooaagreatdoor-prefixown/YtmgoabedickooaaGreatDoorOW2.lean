import Derived.Test.YtmgoabedickooaaGreatDoorOW1
import Derived.Test.YtmgoabedickooaaGreatDoorP23
import Derived.Deep.RegionLaw
namespace Go.Proofs.YtmgoabedickooaaGreatDoor.Kp
set_option maxRecDepth 100000
open Go.RowKit
set_option linter.unusedVariables false

/-- A list of prefixes that came in. -/
def IsPx (w : World) (a : Option Addr) (n : Nat) (f h l b : Nat → Int) : Prop :=
  n = 0 ∨ ∃ q off, a = some ⟨q, off, none⟩ ∧ ∀ i, i < n → (w.cell? ⟨q, off + i * 4, none⟩ = some (.int .i64 (f i)) ∧ w.cell? ⟨q, off + i * 4 + 1, none⟩ = some (.int .u64 (h i)) ∧ w.cell? ⟨q, off + i * 4 + 2, none⟩ = some (.int .u64 (l i)) ∧ w.cell? ⟨q, off + i * 4 + 3, none⟩ = some (.int .i64 (b i))) ∧ InI (f i) ∧ InU (h i) ∧ InU (l i) ∧ InI (b i)
theorem spx_me (F H L B : Int) : spx F H L B F H L B = true := by unfold spx; simp
theorem pp_len18 (F H L B : Int) : (pp F H L B).length ≤ 18 := by
  unfold pp
  split
  · rw [List.length_cons, List.length_cons, pa_length]
    have := nb_le F
    split <;> omega
  · simp
theorem pa_len16 (F H L : Int) : (pa F H L).length ≤ 16 := by
  rw [pa_length]
  have := nb_le F
  split <;> omega
set_option maxHeartbeats 8000000 in
theorem prefixOwn_ (a : Option Addr) (n c : Nat) (f h l b : Nat → Int) (w : World) (hT : Tb w) (hnc : n ≤ c ∧ c ≤ maxLen) (hL : IsPx w a n f h l b) (h0 : 0 < w.heap.size) :
    Calls Tryz.prog 3 #[.slice a n c] w fun e w' => e = .returned (.bool true) ∧ Below w.heap.size w w' := by
  obtain ⟨i5, hi, hz0, hz1, hz2⟩ := info_parts info5
  have HL := hid hL
  have HT := hid hT
  have hn := hnc.1
  have hc := hnc.2
  unfold maxLen at hc
  clear hL hnc hT
  have B0 := Below.refl w.heap.size w
  go_enter Tryz.func3, Tryz.ntmps3
  go_wp2_with fail
  refine (first_ _ (HT.out.kept B0)).mono ?_
  rintro e w1 ⟨rfl, g2⟩
  replace B0 := bel_bel B0 B0.size g2
  clear g2
  by_cases hbig : 60 < n
  · have hbI : (60 : Int) < (n : Int) := by omega
    go_wp2_with fail
    go_ret
    exact ⟨rfl, B0⟩
  have hbI : ¬ (60 : Int) < (n : Int) := by omega
  have hs1 := B0.size
  generalize hbc : bookCells 0 (.slice none 0 0) (.slice none 0 0) (.slice none 0 0) = bc at *
  have NB : Bk (w1.alloc (.cells bc 43)) w1.heap.size 0 (.slice none 0 0) (.slice none 0 0) (.slice none 0 0) := by rw [← hbc]; exact new_book w1
  have B1 : Below w.heap.size w (w1.alloc (.cells bc 43)) := B0.alloc B0.size _
  have hbk := fun {ops : Array Oper} {rest : List Oper} {o : Oper} {a : Act} {w : World} {Q : Exit → Act → World → Prop} (hg : o.guard = none) (ho : o.op = .build 43 #[]) (h : wpList Tryz.prog ops Q rest (a.put o.dst (.agg bc)) w) => (wpList_book hg ho (by rw [hbc]; exact h) : wpList Tryz.prog ops Q (o :: rest) a w)
  have hs2 : w.heap.size ≤ (w1.alloc (.cells bc 43)).heap.size := B1.size
  go_wp2_with (first | (refine hbk rfl rfl ?_) | (at_make; refine wpList_make_own _ rfl _ _ 44 rfl w.heap.size 5 i5 (.int .u8 0) 1 Tryz.underlying44 hi hz0 hz1 .i64 .i64 _ 64 rfl rfl (by omega) (by rw [hz2]; omega) (by unfold maxLen; omega) hs2 ?_; intro w5 hown hg2; have g2 := below_of_grown hg2; clear hg2))
  rw [World.size_alloc] at hown hs2
  have hgl := (Rm.of hown).lt
  have PW : Hid (Pw w w5 w1.heap.size w5.heap.size (w1.heap.size + 1) 0 w5.heap.size (fun _ => ⟨none, 0, 0⟩) (fun _ => ⟨none, 0, 0⟩)) :=
    ⟨⟨_, _, bo_start (NB.at (g2.block _ NB.lt))⟩, hs1, fun l hl => by omega, fun l hl => by omega, fun l hl => by omega, Rm.of hown, ⟨hs2, hgl, Nat.le_refl _, Nat.le_refl _⟩, bel_bel B1 B1.size g2⟩
  clear hown g2 hgl NB B0 B1 hbk hs1 hs2 hbc hi hz0 hz1 hz2
  generalize w1.heap.size = k at *
  generalize k + 1 = gr at *
  generalize hB1 : w5.heap.size = Bq at *
  clear hB1
  have hn60 : n ≤ 60 := by omega
  go_loopw [5, 6] (fun v i wr => ∃ (j p S : Nat) (E G : Nat → Ent), j ≤ n ∧ i = .int .i64 j ∧ v = .slice (some ⟨gr, 0, none⟩) p 64 ∧ p ≤ 64 ∧ Pw w wr k Bq gr (4 * j) S E G) (fun _ i _ => n - (intOf i).toNat)
  case atStart => exact ⟨0, 0, _, _, _, by omega, rfl, rfl, by omega, PW.out⟩
  case round =>
    clear PW
    obtain ⟨j, p, S, E, G, hj, rfl, rfl, hp, pw⟩ := hrel
    by_cases hlt : j < n
    · have hI : (j : Int) < (n : Int) := by omega
      obtain ⟨q, off, rfl, HC0⟩ : ∃ q off, a = some ⟨q, off, none⟩ ∧ Hid (∀ i, i < n → (w.cell? ⟨q, off + i * 4, none⟩ = some (.int .i64 (f i)) ∧ w.cell? ⟨q, off + i * 4 + 1, none⟩ = some (.int .u64 (h i)) ∧ w.cell? ⟨q, off + i * 4 + 2, none⟩ = some (.int .u64 (l i)) ∧ w.cell? ⟨q, off + i * 4 + 3, none⟩ = some (.int .i64 (b i))) ∧ InI (f i) ∧ InU (h i) ∧ InU (l i) ∧ InI (b i)) := by
        rcases HL.out with h | ⟨b, off, e, h⟩
        · omega
        · exact ⟨b, off, e, h⟩
      obtain ⟨⟨d0, d1, d2, d3⟩, iF, iH, iL, iB⟩ := HC0.out j hlt
      have hqb : q < w.heap.size := World.block_lt_of_cell? w _ d0
      clear HC0 HL
      have k1 := fun w => put_ (f j) (h j) (l j) (b j) w iF iH iL iB
      have k2 := fun w => putAddr_ (f j) (h j) (l j) w iF iH iL
      have k3 := fun w => refPut_ (f j) (h j) (l j) (b j) w iH iL iB
      have HX := hid (pp_byte (f j) (h j) (l j) (b j))
      have HA := hid (pa_byte (f j) (h j) (l j))
      have lX := pp_len18 (f j) (h j) (l j) (b j)
      have lA := pa_len16 (f j) (h j) (l j)
      obtain ⟨F, eF⟩ : ∃ F, Hid (f j = F) := ⟨_, rfl⟩
      obtain ⟨H, eH⟩ : ∃ F, Hid (h j = F) := ⟨_, rfl⟩
      obtain ⟨L, eL⟩ : ∃ F, Hid (l j = F) := ⟨_, rfl⟩
      obtain ⟨B, eB⟩ : ∃ F, Hid (b j = F) := ⟨_, rfl⟩
      rw [eF.out] at d0
      rw [eH.out] at d1
      rw [eL.out] at d2
      rw [eB.out] at d3
      rw [eF.out, eH.out, eL.out, eB.out] at k1 k3 HX lX
      rw [eF.out, eH.out, eL.out] at k2 HA lA
      have HC : Hid (∀ wx, Below w.heap.size w wx → wx.cell? ⟨q, off + j * 4, none⟩ = some (.int .i64 F) ∧ wx.cell? ⟨q, off + j * 4 + 1, none⟩ = some (.int .u64 H) ∧ wx.cell? ⟨q, off + j * 4 + 2, none⟩ = some (.int .u64 L) ∧ wx.cell? ⟨q, off + j * 4 + 3, none⟩ = some (.int .i64 B)) :=
        fun wx hx => ⟨(hx.cell hqb).trans d0, (hx.cell hqb).trans d1, (hx.cell hqb).trans d2, (hx.cell hqb).trans d3⟩
      clear d0 d1 d2 d3 iF iH iL iB eF eH eL eB hqb
      generalize pp F H L B = X at *
      generalize pa F H L = A at *
      obtain ⟨wo, hwo⟩ : ∃ wo, Hid (wo = wr) := ⟨_, rfl⟩
      have hS0 := pw.lt.2.2.2
      have hg0 : gr < wr.heap.size := by have := pw.lt; omega
      obtain ⟨c0, c1, c2, c3⟩ := HC.out _ pw.fr
      go_wp2_with fail
      refine (k1 _).mono ?_
      rintro e w3 ⟨v, rfl, ho, g2⟩
      obtain ⟨a1, c1', rfl, e1⟩ := En.new ho HX.out (by omega)
      have hz1 := g2.size
      clear c0 c1 c2 c3
      replace pw := pw.below g2
      clear g2 ho
      obtain ⟨c0, c1, c2, c3⟩ := HC.out _ pw.fr
      go_wp2_with fail
      refine (k1 _).mono ?_
      rintro e w4 ⟨v, rfl, ho, g2⟩
      obtain ⟨a2, c2', rfl, e2⟩ := En.new ho HX.out (by omega)
      have hz2 := g2.size
      clear c0 c1 c2 c3
      replace pw := pw.below g2
      replace e1 := e1.below g2
      clear g2 ho
      obtain ⟨c0, c1, c2, c3⟩ := HC.out _ pw.fr
      go_wp2_with fail
      refine (k2 _).mono ?_
      rintro e w6 ⟨v, rfl, ho, g2⟩
      obtain ⟨a3, c3', rfl, e3⟩ := En.new ho HA.out (by omega)
      have hz3 := g2.size
      clear c0 c1 c2 c3
      replace pw := pw.below g2
      replace e1 := e1.below g2
      replace e2 := e2.below g2
      clear g2 ho
      obtain ⟨c0, c1, c2, c3⟩ := HC.out _ pw.fr
      go_wp2_with fail
      refine (k2 _).mono ?_
      rintro e w7 ⟨v, rfl, ho, g2⟩
      obtain ⟨a4, c4', rfl, e4⟩ := En.new ho HA.out (by omega)
      have hz4 := g2.size
      clear c0 c1 c2 c3
      replace pw := pw.below g2
      replace e1 := e1.below g2
      replace e2 := e2.below g2
      replace e3 := e3.below g2
      clear g2 ho
      obtain ⟨c0, c1, c2, c3⟩ := HC.out _ pw.fr
      go_wp2_with fail
      refine (k3 _).mono ?_
      rintro e w8 ⟨v, rfl, ho, g2⟩
      obtain ⟨a5, c5', rfl, e5⟩ := En.new ho HX.out (by omega)
      have hz5 := g2.size
      clear c0 c1 c2 c3
      replace pw := pw.below g2
      replace e1 := e1.below g2
      replace e2 := e2.below g2
      replace e3 := e3.below g2
      replace e4 := e4.below g2
      clear g2 ho
      clear k1 k2 k3
      have HPW := hid pw
      have H1 := hid e1
      have H2 := hid e2
      have H3 := hid e3
      have H4 := hid e4
      have H5 := hid e5
      have hlow := pw.lt.1
      have HRO := hid (pw.rm.own hlow)
      clear pw e1 e2 e3 e4 e5
      have HX2 : Hid (∀ z ∈ X ++ [47, 11], 0 ≤ z ∧ z ≤ 255) := fun z hz => by
        rcases List.mem_append.1 hz with h | h
        · exact HX.out z h
        · simp at h; omega
      obtain ⟨N, hN⟩ : ∃ N, X.length = N := ⟨_, rfl⟩
      rw [hN] at lX H1 H2 H5
      simp only [hN]
      have HN := hid hN
      clear hN
      obtain ⟨M, hM⟩ : ∃ N, A.length = N := ⟨_, rfl⟩
      rw [hM] at lA H3 H4
      simp only [hM]
      clear hM
      go_wp2_with (at_builtin; first
        | (refine wpList_room0 rfl _ _ rfl w.heap.size gr rfl HRO.out a5 N c5' X rfl H5.out.bs (by omega) ?_; intro w9 ho9 hg9; have HO9 := hid ho9; have HG9 := hid hg9; clear ho9 hg9)
        | (refine wpList_room rfl _ _ rfl w.heap.size gr N X rfl (HO9.out.alloc _) (some ⟨w9.heap.size, 0, none⟩) 2 2 [47, 11] rfl (Bs.new w9 [47, 11] 5 (by decide)) (by omega) ?_; intro w10 ho10 hg10; have HO10 := hid ho10; have HG10 := hid hg10; clear ho10 hg10))
      have al : Below w9.heap.size w9 (w9.alloc (.cells #[.int .u8 47, .int .u8 11] 5)) := (Below.refl _ _).alloc (Nat.le_refl _) _
      have pw := ((HPW.out.room HO9.out HG9.out).below al).room HO10.out HG10.out
      have e1 := ((H1.out.room HG9.out hg0).below al).room HG10.out hg0
      have e2 := ((H2.out.room HG9.out (by omega)).below al).room HG10.out (by omega)
      have e3 := ((H3.out.room HG9.out (by omega)).below al).room HG10.out (by omega)
      have e4 := ((H4.out.room HG9.out (by omega)).below al).room HG10.out (by omega)
      have e5 := ((H5.out.room HG9.out (by omega)).below al).room HG10.out (by omega)
      have gb : Bs w10 (some ⟨gr, 0, none⟩) (N + 2) (X ++ [47, 11]) := by
        obtain ⟨ga, gc, eg, gb, _⟩ := own_form HO10.out HX2.out
        simp at eg
        obtain ⟨rfl, rfl⟩ := eg
        exact gb
      have hnow : w8.heap.size ≤ w10.heap.size := Nat.le_trans HG9.out.size (Nat.le_trans al.size HG10.out.size)
      have HCX : Hid (∀ wx, Bs wx (some ⟨gr, 0, none⟩) (N + 2) (X ++ [47, 11]) → Bs wx (some ⟨gr, 0, none⟩) N X ∧ wx.cell? ⟨gr, N, none⟩ = some (.int .u8 47) ∧ wx.cell? ⟨gr, N + 1, none⟩ = some (.int .u8 11)) := fun wx hb => by
        refine ⟨?_, ?_⟩
        · have := hb.cut (m := N) (by omega)
          rwa [List.take_left' HN.out] at this
        · rcases hb.2.2 with h | ⟨b', o', e', hc'⟩
          · omega
          · simp at e'
            obtain ⟨rfl, rfl⟩ := e'
            have q1 := hc' N (by omega)
            have q2 := hc' (N + 1) (by omega)
            rw [Nat.zero_add] at q1 q2
            rw [q1, q2]
            have hN := HN.out
            constructor
            · simp [List.getD, List.getElem?_append_right, hN]
            · simp [List.getD, List.getElem?_append_right, hN]
      have hok5 := e5.ok.1
      have hok5' := e5.ok.2.1
      have k4 := fun w hb h0 => get_ (some ⟨gr, 0, none⟩) N 64 X w hb (by omega) (by unfold maxLen; omega) (fun h => by cases h) h0
      have k5 := fun w hb => refGet_ a5 N c5' X w hb hok5 hok5'
      obtain ⟨QF, tF⟩ : ∃ b, Hid (qF X = b) := ⟨_, rfl⟩
      obtain ⟨QH, tH⟩ : ∃ b, Hid (qH X = b) := ⟨_, rfl⟩
      obtain ⟨QL, tL⟩ : ∃ b, Hid (qL X = b) := ⟨_, rfl⟩
      obtain ⟨QB, tB⟩ : ∃ b, Hid (qB X = b) := ⟨_, rfl⟩
      obtain ⟨QN, tN⟩ : ∃ b, Hid (qN X = b) := ⟨_, rfl⟩
      obtain ⟨QE, tE⟩ : ∃ b, Hid (qE X = b) := ⟨_, rfl⟩
      rw [tF.out, tH.out, tL.out, tB.out, tN.out, tE.out] at k4 k5
      clear tF tH tL tB tN tE HPW H1 H2 H3 H4 H5 HO9 HG9 HO10 HG10 al HRO HX2 HX HA hok5 hok5'
      have hne : (QN != QN) = false := by simp
      have k6 := fun w => samePrefix_ QF QH QL QB QF QH QL QB w
      rw [spx_me] at k6
      have hpos : 0 < w10.heap.size := by omega
      refine (k4 _ (HCX.out _ gb).1 hpos).mono ?_
      rintro e w11 ⟨rfl, g2⟩
      replace pw := pw.below g2
      replace e1 := e1.below g2
      replace e2 := e2.below g2
      replace e3 := e3.below g2
      replace e4 := e4.below g2
      replace e5 := e5.below g2
      replace gb := gb.below g2
      replace hnow := Nat.le_trans hnow g2.size
      clear g2 k4 hpos
      have m0 := Pm.new w11 QF QH QL QB
      have g2 : Below w11.heap.size w11 (w11.alloc (.cells #[.int .i64 QF, .int .u64 QH, .int .u64 QL, .int .i64 QB] 50)) := (Below.refl _ _).alloc (Nat.le_refl _) _
      replace pw := pw.below g2
      replace e1 := e1.below g2
      replace e2 := e2.below g2
      replace e3 := e3.below g2
      replace e4 := e4.below g2
      replace e5 := e5.below g2
      replace gb := gb.below g2
      replace hnow := Nat.le_trans hnow g2.size
      clear g2
      go_wp2_with fail
      refine (k5 _ e5.bs).mono ?_
      rintro e w12 ⟨rfl, g2⟩
      replace pw := pw.below g2
      replace e1 := e1.below g2
      replace e2 := e2.below g2
      replace e3 := e3.below g2
      replace e4 := e4.below g2
      replace e5 := e5.below g2
      replace gb := gb.below g2
      replace hnow := Nat.le_trans hnow g2.size
      replace m0 := m0.kept g2
      clear g2 k5
      have m1 := Pm.new w12 QF QH QL QB
      have g2 : Below w12.heap.size w12 (w12.alloc (.cells #[.int .i64 QF, .int .u64 QH, .int .u64 QL, .int .i64 QB] 50)) := (Below.refl _ _).alloc (Nat.le_refl _) _
      replace pw := pw.below g2
      replace e1 := e1.below g2
      replace e2 := e2.below g2
      replace e3 := e3.below g2
      replace e4 := e4.below g2
      replace e5 := e5.below g2
      replace gb := gb.below g2
      replace hnow := Nat.le_trans hnow g2.size
      replace m0 := m0.kept g2
      clear g2
      have p0 := m0.c0
      have p1 := m0.c1
      have p2 := m0.c2
      have p3 := m0.c3
      have r0 := m1.c0
      have r1 := m1.c1
      have r2 := m1.c2
      have r3 := m1.c3
      go_wp2_with fail
      refine (k6 _).mono ?_
      rintro e w13 ⟨rfl, g2⟩
      replace pw := pw.below g2
      replace e1 := e1.below g2
      replace e2 := e2.below g2
      replace e3 := e3.below g2
      replace e4 := e4.below g2
      replace e5 := e5.below g2
      replace gb := gb.below g2
      replace hnow := Nat.le_trans hnow g2.size
      clear g2 k6 p0 p1 p2 p3 r0 r1 r2 r3 m0 m1
      go_wp2_with fail
      refine (same_yes (some ⟨gr, 0, none⟩) a5 N 64 N c5' X _ (HCX.out _ gb).1 e5.bs (by omega) (by omega)).mono ?_
      rintro e w14 ⟨rfl, dr⟩
      have g2 := dr.below
      replace pw := pw.below g2
      replace e1 := e1.below g2
      replace e2 := e2.below g2
      replace e3 := e3.below g2
      replace e4 := e4.below g2
      replace e5 := e5.below g2
      replace gb := gb.below g2
      replace hnow := Nat.le_trans hnow g2.size
      clear g2 dr
      obtain ⟨_, x47, x11⟩ := HCX.out _ gb
      go_wp2_with fail
      refine (same_yes a1 a2 N c1' N c2' X _ e1.bs e2.bs (by omega) (by omega)).mono ?_
      rintro e w15 ⟨rfl, dr⟩
      have g2 := dr.below
      replace pw := pw.below g2
      replace e1 := e1.below g2
      replace e2 := e2.below g2
      replace e3 := e3.below g2
      replace e4 := e4.below g2
      replace e5 := e5.below g2
      replace gb := gb.below g2
      replace hnow := Nat.le_trans hnow g2.size
      clear g2 dr x47 x11
      go_wp2_with fail
      refine (same_yes a3 a4 M c3' M c4' A _ e3.bs e4.bs (by omega) (by omega)).mono ?_
      rintro e w16 ⟨rfl, dr⟩
      have g2 := dr.below
      replace pw := pw.below g2
      replace e1 := e1.below g2
      replace e2 := e2.below g2
      replace e3 := e3.below g2
      replace e4 := e4.below g2
      replace e5 := e5.below g2
      replace gb := gb.below g2
      replace hnow := Nat.le_trans hnow g2.size
      clear g2 dr gb HCX e5
      go_wp2_with fail
      refine (pw_tell (S' := w3.heap.size) pw ⟨a1, N, c1'⟩ X e1.ok (by show N ≤ 5000; omega) e1.bs (fun b x hx => by have := e1.lo b x hx; omega) e1.hi (by omega) (by omega)).mono ?_
      rintro e w17 ⟨rfl, ⟨E0, G0, pw0⟩, z⟩
      replace hnow := Nat.le_trans hnow z.size
      replace e2 := e2.wz z
      replace e3 := e3.wz z
      replace e4 := e4.wz z
      clear z pw e1
      have pw := pw0
      clear pw0
      go_wp2_with fail
      refine (pw_tell (S' := w4.heap.size) pw ⟨a2, N, c2'⟩ X e2.ok (by show N ≤ 5000; omega) e2.bs (fun b x hx => by have := e2.lo b x hx; omega) e2.hi (by omega) (by omega)).mono ?_
      rintro e w18 ⟨rfl, ⟨E1, G1, pw1⟩, z⟩
      replace hnow := Nat.le_trans hnow z.size
      replace e3 := e3.wz z
      replace e4 := e4.wz z
      clear z pw e2
      have pw := pw1
      clear pw1
      go_wp2_with fail
      refine (pw_tell (S' := w6.heap.size) pw ⟨a3, M, c3'⟩ A e3.ok (by show M ≤ 5000; omega) e3.bs (fun b x hx => by have := e3.lo b x hx; omega) e3.hi (by omega) (by omega)).mono ?_
      rintro e w19 ⟨rfl, ⟨E2, G2, pw2⟩, z⟩
      replace hnow := Nat.le_trans hnow z.size
      replace e4 := e4.wz z
      clear z pw e3
      have pw := pw2
      clear pw2
      go_wp2_with fail
      refine (pw_tell (S' := w7.heap.size) pw ⟨a4, M, c4'⟩ A e4.ok (by show M ≤ 5000; omega) e4.bs (fun b x hx => by have := e4.lo b x hx; omega) e4.hi (by omega) (by omega)).mono ?_
      rintro e w20 ⟨rfl, ⟨E3, G3, pw3⟩, z⟩
      replace hnow := Nat.le_trans hnow z.size
      clear z pw e4
      have pw := pw3
      clear pw3
      go_wp2_with fail
      go_roundw
      case rel => exact ⟨j + 1, N + 2, _, _, _, by omega, by go_num, rfl, by omega, pw⟩
      case measure => simp [intOf]; omega
    · have hI : ¬ (j : Int) < (n : Int) := by omega
      go_wp2_with fail
      refine (pw_finish pw (by omega)).mono ?_
      rintro e w6 ⟨rfl, E, F, pf⟩
      clear pw
      go_wp2_with fail
      go_loopw [21, 22] (fun v i wr => ∃ (t : Nat), t ≤ n ∧ v = .bool true ∧ i = .int .i64 t ∧ Pf w wr k (4 * j) E F) (fun _ i _ => n - (intOf i).toNat)
      case atStart => exact ⟨0, by omega, rfl, rfl, pf⟩
      case round =>
        clear pf
        obtain ⟨t, ht, rfl, rfl, pf⟩ := hrel
        by_cases hlt2 : t < n
        · have hI2 : (t : Int) < (n : Int) := by omega
          obtain ⟨q, off, rfl, HC0⟩ : ∃ q off, a = some ⟨q, off, none⟩ ∧ Hid (∀ i, i < n → (w.cell? ⟨q, off + i * 4, none⟩ = some (.int .i64 (f i)) ∧ w.cell? ⟨q, off + i * 4 + 1, none⟩ = some (.int .u64 (h i)) ∧ w.cell? ⟨q, off + i * 4 + 2, none⟩ = some (.int .u64 (l i)) ∧ w.cell? ⟨q, off + i * 4 + 3, none⟩ = some (.int .i64 (b i))) ∧ InI (f i) ∧ InU (h i) ∧ InU (l i) ∧ InI (b i)) := by
            rcases HL.out with h | ⟨b, off, e, h⟩
            · omega
            · exact ⟨b, off, e, h⟩
          obtain ⟨⟨d0, d1, d2, d3⟩, iF, iH, iL, iB⟩ := HC0.out t hlt2
          have hqb : q < w.heap.size := World.block_lt_of_cell? w _ d0
          clear HC0 HL
          have k1 := fun w => put_ (f t) (h t) (l t) (b t) w iF iH iL iB
          have k3 := fun w => refPut_ (f t) (h t) (l t) (b t) w iH iL iB
          have HX := hid (pp_byte (f t) (h t) (l t) (b t))
          have lX := pp_len18 (f t) (h t) (l t) (b t)
          generalize pp (f t) (h t) (l t) (b t) = X at *
          have c0 := (pf.fr.cell hqb).trans d0
          have c1 := (pf.fr.cell hqb).trans d1
          have c2 := (pf.fr.cell hqb).trans d2
          have c3 := (pf.fr.cell hqb).trans d3
          go_wp2_with fail
          refine (k1 _).mono ?_
          rintro e w7 ⟨v, rfl, ho, g2⟩
          obtain ⟨xa1, xc1, rfl, xb1, _, _, _⟩ := own_form ho HX.out
          replace pf := pf.below g2
          clear g2 ho k1 c0 c1 c2 c3
          have c0 := (pf.fr.cell hqb).trans d0
          have c1 := (pf.fr.cell hqb).trans d1
          have c2 := (pf.fr.cell hqb).trans d2
          have c3 := (pf.fr.cell hqb).trans d3
          go_wp2_with fail
          refine (k3 _).mono ?_
          rintro e w8 ⟨v, rfl, ho, g2⟩
          obtain ⟨xa2, xc2, rfl, xb2, _, _, _⟩ := own_form ho HX.out
          replace pf := pf.below g2
          replace xb1 := xb1.below g2
          clear g2 ho k3 c0 c1 c2 c3
          go_wp2_with fail
          refine (same_yes xa1 xa2 _ xc1 _ xc2 X _ xb1 xb2 (by omega) (by omega)).mono ?_
          rintro e w9 ⟨rfl, dr⟩
          replace pf := pf.below dr.below
          clear dr xb1 xb2
          go_wp2_with fail
          go_roundw
          case rel => exact ⟨t + 1, by omega, rfl, by go_num, pf⟩
          case measure => simp [intOf]; omega
        · have hI2 : ¬ (t : Int) < (n : Int) := by omega
          go_wp2_with fail
          refine (pf_holds pf (by omega)).mono ?_
          rintro e w7 ⟨rfl, hw⟩
          obtain rfl := hw.symm
          go_wp2_with fail
          go_ret
          exact ⟨rfl, pf.fr⟩
end Go.Proofs.YtmgoabedickooaaGreatDoor.Kp
