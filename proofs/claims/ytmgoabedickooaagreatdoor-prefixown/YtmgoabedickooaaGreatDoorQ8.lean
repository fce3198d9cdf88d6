import Derived.Test.YtmgoabedickooaaGreatDoorQ7
namespace Go.Proofs.YtmgoabedickooaaGreatDoor
set_option maxRecDepth 100000
open Go.RowKit
set_option linter.unusedVariables false

theorem val_nil : val [] = 0 := rfl
theorem val_one (a : Int) : val [a] = a := by rw [val_cons, val_nil]; simp
theorem rd_two (a b : Int) (s : List Int) : rdF (a :: b :: s) = a ∧ rdB (a :: b :: s) = b ∧ rdl (a :: b :: s) = s ∧ rde (a :: b :: s) = 0 ∧ rdp (a :: b :: s) = 2 := by
  obtain ⟨e1, e2, e3, e4⟩ := g_yes (W := 1) (l := a :: b :: s) (p := 0) (by simp)
  obtain ⟨f1, f2, f3, f4⟩ := g_yes (W := 1) (l := b :: s) (p := 0 + 1) (by simp)
  unfold rdF rdB rdl rde rdp
  rw [e1, e2, e3, e4]
  show _ ∧ gv 1 (b :: s) 0 = b ∧ gl 1 (b :: s) 0 = s ∧ ge 1 (b :: s) 0 = 0 ∧ gp 1 (b :: s) 0 (0 + (1 : Nat)) = 2
  have f3' : gp 1 (b :: s) 0 (0 + (1 : Nat)) = 2 := f3
  rw [f1, f2, f4, f3']
  exact ⟨val_one a, val_one b, rfl, rfl, rfl⟩
theorem rd_bad {l : List Int} (h : rde l ≠ 0) : rdE l ≠ 0 := by
  unfold rdE
  split
  · rw [(g_bad (W := 4) (l := rdl l) (p := 0) h).2.2.2]; exact h
  · have e := (g_bad (W := 8) (l := rdl l) (p := 0) h).2.2.2
    rw [e, (g_bad (W := 8) (l := gl 8 (rdl l) (rde l)) (p := 0) h).2.2.2]
    exact h
theorem rd_few {l : List Int} (h : l.length < 2) : rdE l ≠ 0 := by
  refine rd_bad ?_
  unfold rde
  match l, h with
  | [], _ =>
    have e1 : ge 1 ([] : List Int) 0 = 10 := by decide
    rw [e1, (g_bad (W := 1) (l := gl 1 ([] : List Int) 0) (p := 0) (e := 10) (by decide)).2.2.2]
    decide
  | [a], _ =>
    obtain ⟨_, e2, _, e4⟩ := g_yes (W := 1) (l := [a]) (p := 0) (by simp)
    rw [e2, e4]
    show ge 1 ([] : List Int) 0 ≠ 0
    decide
theorem val_app (x y : List Int) : val (x ++ y) = val x * 256 ^ y.length + val y := by
  have := fold_val y (val x)
  unfold val at *
  rw [List.foldl_append, this]
theorem ah_four {S : List Int} (hb : ∀ z ∈ S, 0 ≤ z ∧ z ≤ 255) (h : S.length = 4) : ah S = 0 ∧ al S = val S := by
  have := val_bound S hb
  rw [h] at this
  have e : (256 : Int) ^ 4 = 4294967296 := by decide
  rw [e] at this
  unfold ah al
  omega
theorem ah_16 {S : List Int} (hb : ∀ z ∈ S, 0 ≤ z ∧ z ≤ 255) (h : S.length = 16) : ah S = val (S.take 8) ∧ al S = val (S.drop 8) := by
  have h1 := val_app (S.take 8) (S.drop 8)
  rw [List.take_append_drop] at h1
  have hl : (S.drop 8).length = 8 := by rw [List.length_drop, h]
  have h2 := val_bound (S.drop 8) (fun z hz => hb z (List.mem_of_mem_drop hz))
  rw [hl] at h1 h2
  have e : (256 : Int) ^ 8 = 18446744073709551616 := by decide
  rw [e] at h1 h2
  unfold ah al
  rw [h1]
  omega
/-- What read says of a list's beginning is what Get says of the list. -/
theorem rd_gk (zs : List Int) (hb : ∀ z ∈ zs, 0 ≤ z ∧ z ≤ 255) :
    (decide (rdE (zs.take 18) = 0) && vp (rdF (zs.take 18)) (rdH (zs.take 18)) (rdL (zs.take 18)) (rdB (zs.take 18))) = gk zs ∧
    (gk zs = true → rdF (zs.take 18) = g0 zs ∧ rdH (zs.take 18) = ah (gs7 zs) ∧ rdL (zs.take 18) = al (gs7 zs) ∧ rdB (zs.take 18) = zs.getD 1 0 ∧ rdP (zs.take 18) = ((2 + gm zs : Nat) : Int)) := by
  by_cases h2 : zs.length < 2
  · have e : gk zs = false := by unfold gk; rw [decide_eq_false (by omega), Bool.false_and]
    rw [e, decide_eq_false (rd_few (by rw [List.length_take]; omega)), Bool.false_and]
    exact ⟨rfl, fun h => by cases h⟩
  · match zs, h2 with
    | [], h => simp at h
    | [a], h => simp at h
    | a :: b :: t, _ =>
      have hbt : ∀ z ∈ t, 0 ≤ z ∧ z ≤ 255 := fun z hz => hb z (by simp [hz])
      have el : (a :: b :: t).take 18 = a :: b :: t.take 16 := rfl
      rw [el]
      obtain ⟨e1, e2, e3, e4, e5⟩ := rd_two a b (t.take 16)
      have g1 : g0 (a :: b :: t) = a := rfl
      have g2 : (a :: b :: t).getD 1 0 = b := rfl
      have g3 : (a :: b :: t).length = t.length + 2 := rfl
      have g4 : gm (a :: b :: t) = nb a / 8 := rfl
      have g5 : gs7 (a :: b :: t) = t.take (nb a / 8) := rfl
      unfold gk rdE rdH rdL rdP
      rw [e1, e2, e3, e4, e5, g1, g2, g3, g4, g5]
      by_cases h4 : a = 4
      · subst h4
        rw [if_pos rfl, if_pos rfl, if_pos rfl, if_pos rfl, show nb 4 / 8 = 4 from rfl]
        by_cases hl : 4 ≤ t.length
        · have hl' : 4 ≤ (t.take 16).length := by rw [List.length_take]; omega
          obtain ⟨y1, y2, y3, y4⟩ := g_yes (W := 4) (l := t.take 16) (p := 2) hl'
          have et : (t.take 16).take 4 = t.take 4 := by rw [List.take_take]; rfl
          obtain ⟨s1, s2⟩ := ah_four (S := t.take 4) (fun z hz => hbt z (List.mem_of_mem_take hz)) (by rw [List.length_take]; omega)
          rw [y1, y3, y4, et, s1, s2, decide_eq_true rfl, decide_eq_true (by omega)]
          exact ⟨rfl, fun _ => ⟨rfl, rfl, rfl, rfl, rfl⟩⟩
        · have hl' : (t.take 16).length < 4 := by rw [List.length_take]; omega
          obtain ⟨y1, y2, y3, y4⟩ := g_no (W := 4) (l := t.take 16) (p := 2) hl'
          rw [y4, decide_eq_false (by decide), Bool.false_and, decide_eq_false (by omega), Bool.false_and]
          exact ⟨rfl, fun h => by cases h⟩
      · rw [if_neg h4, if_neg h4, if_neg h4, if_neg h4]
        by_cases h6 : a = 6
        · subst h6
          rw [show nb 6 / 8 = 16 from rfl]
          by_cases hl : 16 ≤ t.length
          · have hl' : (t.take 16).length = 16 := by rw [List.length_take]; omega
            obtain ⟨y1, y2, y3, y4⟩ := g_yes (W := 8) (l := t.take 16) (p := 2) (by omega)
            rw [y1, y2, y3, y4]
            obtain ⟨x1, x2, x3, x4⟩ := g_yes (W := 8) (l := (t.take 16).drop 8) (p := 2 + 8) (by rw [List.length_drop]; omega)
            have x3' : gp 8 ((t.take 16).drop 8) 0 (2 + (8 : Nat)) = 18 := x3
            have et : ((t.take 16).drop 8).take 8 = (t.take 16).drop 8 := List.take_of_length_le (by rw [List.length_drop]; omega)
            obtain ⟨s1, s2⟩ := ah_16 (S := t.take 16) (fun z hz => hbt z (List.mem_of_mem_take hz)) hl'
            rw [x1, x3', x4, et, s1, s2, decide_eq_true rfl, decide_eq_true (by omega)]
            exact ⟨rfl, fun _ => ⟨rfl, rfl, rfl, rfl, rfl⟩⟩
          · have hE : ge 8 (gl 8 (t.take 16) 0) (ge 8 (t.take 16) 0) ≠ 0 := by
              by_cases h8 : 8 ≤ (t.take 16).length
              · obtain ⟨y1, y2, y3, y4⟩ := g_yes (W := 8) (l := t.take 16) (p := 2) h8
                rw [y2, y4, (g_no (W := 8) (l := (t.take 16).drop 8) (p := 2) (by rw [List.length_drop, List.length_take]; omega)).2.2.2]
                decide
              · obtain ⟨y1, y2, y3, y4⟩ := g_no (W := 8) (l := t.take 16) (p := 2) (by omega)
                rw [y2, y4, (g_bad (W := 8) (l := t.take 16) (p := 2) (e := 10) (by decide)).2.2.2]
                decide
            rw [decide_eq_false hE, Bool.false_and, decide_eq_false (by omega), Bool.false_and]
            exact ⟨rfl, fun h => by cases h⟩
        · have hv : ∀ H L, va a H L = false := fun H L => decide_eq_false (by omega)
          rw [show nb a = 0 from by unfold nb; rw [if_neg h4, if_neg h6]]
          have hvp : ∀ H L, vp a H L b = false := fun H L => va_out (hv H L) b
          rw [hvp, Bool.and_false, hvp, Bool.and_false]
          exact ⟨rfl, fun h => by cases h⟩
end Go.Proofs.YtmgoabedickooaaGreatDoor
