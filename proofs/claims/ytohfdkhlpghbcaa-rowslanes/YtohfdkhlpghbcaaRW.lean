import Derived.Test.YtohfdkhlpghbcaaRV
namespace Go.Proofs.Ytohfdkhlpghbcaa
set_option maxRecDepth 100000
open Go.RowKit
set_option linter.unusedVariables false

/-! What readLane reads. -/
def tl1 (v : List Int) : List Int := gl 1 v 0
def te1 (v : List Int) : Int := ge 1 v 0
def tl2 (v : List Int) : List Int := gl 4 (tl1 v) (te1 v)
def te2 (v : List Int) : Int := ge 4 (tl1 v) (te1 v)
def tl3 (v : List Int) : List Int := gl 4 (tl2 v) (te2 v)
def te3 (v : List Int) : Int := ge 4 (tl2 v) (te2 v)
def tl4 (v : List Int) : List Int := gl 8 (tl3 v) (te3 v)
def te4 (v : List Int) : Int := ge 8 (tl3 v) (te3 v)
def tl5 (v : List Int) : List Int := gl 8 (tl4 v) (te4 v)
def te5 (v : List Int) : Int := ge 8 (tl4 v) (te4 v)
def tS (v : List Int) : Int := gv 1 v 0
def tC (v : List Int) : Int := gv 4 (tl1 v) (te1 v)
def tN (v : List Int) : Int := gv 4 (tl2 v) (te2 v)
def tD (v : List Int) : Int := gv 8 (tl3 v) (te3 v)
def tE (v : List Int) : Int := gv 8 (tl4 v) (te4 v)
def tR (v : List Int) : List Int := bz (ln (tl5 v) (te5 v)) (tl5 v) (te5 v)
def tK (k : List Int) : List Int := bz 32 (gl 1 k 0) (ge 1 k 0)
theorem t_whole {v : List Int} (hb : Okb v) (h : v.length = 37) : tS v = yS v ∧ tC v = rdN v 1 4 ∧ tN v = rdN v 5 4 ∧ tD v = rdN v 9 8 ∧ tE v = rdN v 17 8 ∧ tR v = v.drop 25 := by
  obtain ⟨a1, a2, -, a4⟩ := g_yes (W := 1) (l := v) (p := 0) (by omega)
  have l1 : tl1 v = v.drop 1 := a2
  have e1 : te1 v = 0 := a4
  obtain ⟨b1, b2, -, b4⟩ := g_yes (W := 4) (l := v.drop 1) (p := 0) (by rw [List.length_drop]; omega)
  have l2 : tl2 v = v.drop 5 := by unfold tl2; rw [l1, e1, b2, List.drop_drop]
  have e2 : te2 v = 0 := by unfold te2; rw [l1, e1, b4]
  obtain ⟨c1, c2, -, c4⟩ := g_yes (W := 4) (l := v.drop 5) (p := 0) (by rw [List.length_drop]; omega)
  have l3 : tl3 v = v.drop 9 := by unfold tl3; rw [l2, e2, c2, List.drop_drop]
  have e3 : te3 v = 0 := by unfold te3; rw [l2, e2, c4]
  obtain ⟨d1, d2, -, d4⟩ := g_yes (W := 8) (l := v.drop 9) (p := 0) (by rw [List.length_drop]; omega)
  have l4 : tl4 v = v.drop 17 := by unfold tl4; rw [l3, e3, d2, List.drop_drop]
  have e4 : te4 v = 0 := by unfold te4; rw [l3, e3, d4]
  obtain ⟨f1, f2, -, f4⟩ := g_yes (W := 8) (l := v.drop 17) (p := 0) (by rw [List.length_drop]; omega)
  have l5 : tl5 v = v.drop 25 := by unfold tl5; rw [l4, e4, f2, List.drop_drop]
  have e5 : te5 v = 0 := by unfold te5; rw [l4, e4, f4]
  refine ⟨?_, ?_, ?_, ?_, ?_, ?_⟩
  · unfold tS yS
    rw [a1]
    cases v with
    | nil => simp at h
    | cons x t => simp [val]
  · unfold tC rdN; rw [l1, e1, b1, if_pos (by omega)]
  · unfold tN rdN; rw [l2, e2, c1, if_pos (by omega)]
  · unfold tD rdN; rw [l3, e3, d1, if_pos (by omega)]
  · unfold tE rdN; rw [l4, e4, f1, if_pos (by omega)]
  · unfold tR bz ln
    rw [l5, e5, if_pos rfl, if_pos ⟨rfl, Nat.le_refl _⟩, List.take_of_length_le (Nat.le_refl _)]
theorem tK_whole {k : List Int} (h : k.length = 33) : tK k = yK k := by
  obtain ⟨a1, a2, -, a4⟩ := g_yes (W := 1) (l := k) (p := 0) (by omega)
  unfold tK yK bz
  rw [a2, a4, if_pos ⟨rfl, by rw [List.length_drop]; omega⟩, List.take_of_length_le (by rw [List.length_drop]; omega)]
theorem lV_length {S C N D E s n : Int} (h : vld s n = true) : (lV S C N D E s n).length = 37 := by
  unfold lV
  simp only [List.length_append, be_length, pt_length, h, List.length_singleton, if_true]
/-- The row whose lane's row is this one. -/
def gtL (k v : List Int) : Bool := lok (tK k).length (tS v) (tC v) (tN v) (qs (tR v)) (qn (tR v)) && sameB (lK (tK k)) k && sameB (lV (tS v) (tC v) (tN v) (tD v) (tE v) (qs (tR v)) (qn (tR v))) v
theorem gtL_eq (k v : List Int) (hb : Okb v) : gtL k v = yok k v := by
  by_cases hl : k.length = 33 ∧ v.length = 37
  · obtain ⟨h1, h2, h3, h4, h5, h6⟩ := t_whole hb hl.2
    unfold gtL yok
    rw [h1, h2, h3, h4, h5, h6, tK_whole hl.1, decide_eq_true hl, Bool.true_and, show (yK k).length = 32 from by unfold yK; rw [List.length_drop]; omega]
    have hd : Okb (v.drop 25) := fun z hz => hb z (List.mem_of_mem_drop hz)
    have hdl : (v.drop 25).length = 12 := by rw [List.length_drop]; omega
    cases hg : gok (v.drop 25) with
    | true => simp only [Bool.true_and, Bool.and_assoc]
    | false =>
      simp only [Bool.false_and, Bool.and_false]
      obtain ⟨q1, q2, -⟩ := q_bad hg
      rw [← q1, ← q2]
      cases hq : sameB (lV (yS v) (rdN v 1 4) (rdN v 5 4) (rdN v 9 8) (rdN v 17 8) 0 0) v with
      | false => rw [Bool.and_false]
      | true =>
        exfalso
        have e := of_decide_eq_true (show decide _ = true from hq)
        have : v.drop 25 = pt 0 0 := by
          rw [← e]
          unfold lV
          rw [List.drop_left' (by simp [be_length])]
        have hp : gok (pt 0 0) = true := by decide
        rw [this, hp] at hg
        cases hg
  · have hr : yok k v = false := by unfold yok; rw [decide_eq_false hl, Bool.false_and]
    rw [hr]
    cases hq : gtL k v with
    | false => rfl
    | true =>
      exfalso
      unfold gtL at hq
      simp only [Bool.and_eq_true] at hq
      obtain ⟨⟨q1, q2⟩, q3⟩ := hq
      obtain ⟨p1, p2, -⟩ := of_decide_eq_true (show decide _ = true from q1)
      have e2 := of_decide_eq_true (show decide _ = true from q2)
      have e3 := of_decide_eq_true (show decide _ = true from q3)
      refine hl ⟨?_, ?_⟩
      · rw [← e2]; unfold lK; rw [List.length_append, p2]; rfl
      · rw [← e3]; exact lV_length p1
theorem skipMark_ (r g : Nat) (l : List Int) (p e : Int) (w : World) (h : RS w r g l p e) (hl : l.length ≤ 140737488351232) (hp : 0 ≤ p ∧ p ≤ 100000) :
    Calls Try.prog 67 #[.pointer (some ⟨r, 0, none⟩)] w fun en w' => en = .returned (.tuple #[]) ∧ RS w' r g (gl 1 l e) (gp 1 l e p) (ge 1 l e) ∧ Only r w w' := by
  have k1 := fun wx hx => getAny8 r g l p e wx hx hl hp
  generalize gv 1 l e = x at *
  generalize gl 1 l e = y at *
  generalize gp 1 l e p = q at *
  generalize ge 1 l e = z at *
  go_enter Try.func67, Try.ntmps67
  go_wp2_with fail
  refine (k1 _ h).mono ?_
  rintro e w1 ⟨rfl, s1, g1⟩
  have HS := hid s1
  have HG := hid g1
  clear s1 g1 k1 h
  go_wp2_with fail
  go_end0
  exact ⟨rfl, HS.out, HG.out⟩
end Go.Proofs.Ytohfdkhlpghbcaa
