import Derived.Test.YtlepbncaicpmjaaQ6
namespace Go.Proofs.Ytlepbncaicpmjaa
set_option maxRecDepth 100000
open Go.RowKit
set_option linter.unusedVariables false

/-- A reader, whole or broken: what is left, its place, its error. -/
def RS (w : World) (r g : Nat) (l : List Int) (p e : Int) : Prop := (e = 0 ∧ Rd w r g l p) ∨ Rb w r p e
def gv (W : Nat) (l : List Int) (e : Int) : Int := if e = 0 ∧ W ≤ l.length then val (l.take W) else 0
def gl (W : Nat) (l : List Int) (e : Int) : List Int := if e = 0 ∧ W ≤ l.length then l.drop W else l
def gp (W : Nat) (l : List Int) (e p : Int) : Int := if e = 0 ∧ W ≤ l.length then p + W else p
def ge (W : Nat) (l : List Int) (e : Int) : Int := if e = 0 then (if W ≤ l.length then 0 else 10) else e
theorem g_yes {W : Nat} {l : List Int} {p : Int} (h : W ≤ l.length) : gv W l 0 = val (l.take W) ∧ gl W l 0 = l.drop W ∧ gp W l 0 p = p + W ∧ ge W l 0 = 0 := by
  unfold gv gl gp ge
  rw [if_pos ⟨rfl, h⟩, if_pos ⟨rfl, h⟩, if_pos ⟨rfl, h⟩, if_pos rfl, if_pos h]
  exact ⟨rfl, rfl, rfl, rfl⟩
theorem g_no {W : Nat} {l : List Int} {p : Int} (h : l.length < W) : gv W l 0 = 0 ∧ gl W l 0 = l ∧ gp W l 0 p = p ∧ ge W l 0 = 10 := by
  unfold gv gl gp ge
  rw [if_neg (by omega), if_neg (by omega), if_neg (by omega), if_pos rfl, if_neg (by omega)]
  exact ⟨rfl, rfl, rfl, rfl⟩
theorem g_bad {W : Nat} {l : List Int} {p e : Int} (h : e ≠ 0) : gv W l e = 0 ∧ gl W l e = l ∧ gp W l e p = p ∧ ge W l e = e := by
  unfold gv gl gp ge
  rw [if_neg (fun h' => h h'.1), if_neg (fun h' => h h'.1), if_neg (fun h' => h h'.1), if_neg h]
  exact ⟨rfl, rfl, rfl, rfl⟩
theorem gl_sub {W : Nat} {l : List Int} {e : Int} (h : ∀ z ∈ l, 0 ≤ z ∧ z ≤ 255) : (∀ z ∈ gl W l e, 0 ≤ z ∧ z ≤ 255) ∧ (gl W l e).length ≤ l.length := by
  unfold gl
  split
  · exact ⟨fun z hz => h z (List.mem_of_mem_drop hz), by simp⟩
  · exact ⟨h, Nat.le_refl _⟩
theorem gp_in {W : Nat} {l : List Int} {e p : Int} {m : Int} (h : 0 ≤ p ∧ p ≤ m) : 0 ≤ gp W l e p ∧ gp W l e p ≤ m + W := by
  unfold gp
  split <;> omega
theorem gvIn8 {l : List Int} {e : Int} (h : ∀ z ∈ l, 0 ≤ z ∧ z ≤ 255) : 0 ≤ gv 1 l e ∧ gv 1 l e ≤ 255 := by
  unfold gv
  split
  · rename_i hh
    have := valLt8 hh.2 (fun z hz => h z (List.mem_of_mem_take hz))
    omega
  · omega
theorem getAny8 (r g : Nat) (l : List Int) (p e : Int) (w : World) (h : RS w r g l p e) (hl : l.length ≤ 140737488351232) (hp : 0 ≤ p ∧ p ≤ 100000) :
    Calls Try.prog 48 #[.pointer (some ⟨r, 0, none⟩)] w fun en w' => en = .returned (.int .u8 (gv 1 l e)) ∧ RS w' r g (gl 1 l e) (gp 1 l e p) (ge 1 l e) ∧ Only r w w' := by
  rcases h with ⟨rfl, h⟩ | h
  · by_cases hm : 1 ≤ l.length
    · obtain ⟨e1, e2, e3, e4⟩ := g_yes (p := p) hm
      rw [e1, e2, e3, e4]
      refine (get8_whole r g l p w h hm (by omega) hp.1 (by omega)).mono ?_
      rintro en w' ⟨rfl, h1, h2⟩
      exact ⟨rfl, .inl ⟨rfl, h1⟩, h2⟩
    · obtain ⟨e1, e2, e3, e4⟩ := g_no (p := p) (show l.length < 1 by omega)
      rw [e1, e2, e3, e4]
      refine (get8_short r g l p w h (by omega)).mono ?_
      rintro en w' ⟨rfl, h1, h2⟩
      exact ⟨rfl, .inr h1, h2⟩
  · obtain ⟨e1, e2, e3, e4⟩ := g_bad (W := 1) (l := l) (p := p) (bne_iff_ne.1 h.2)
    rw [e1, e2, e3, e4]
    refine (get8_broken r p e w h).mono ?_
    rintro en w' ⟨rfl, rfl⟩
    exact ⟨rfl, .inr h, Only.refl _ _⟩
theorem gvIn32 {l : List Int} {e : Int} (h : ∀ z ∈ l, 0 ≤ z ∧ z ≤ 255) : 0 ≤ gv 4 l e ∧ gv 4 l e ≤ 4294967295 := by
  unfold gv
  split
  · rename_i hh
    have := valLt32 hh.2 (fun z hz => h z (List.mem_of_mem_take hz))
    omega
  · omega
theorem getAny32 (r g : Nat) (l : List Int) (p e : Int) (w : World) (h : RS w r g l p e) (hl : l.length ≤ 140737488351232) (hp : 0 ≤ p ∧ p ≤ 100000) :
    Calls Try.prog 49 #[.pointer (some ⟨r, 0, none⟩)] w fun en w' => en = .returned (.int .u32 (gv 4 l e)) ∧ RS w' r g (gl 4 l e) (gp 4 l e p) (ge 4 l e) ∧ Only r w w' := by
  rcases h with ⟨rfl, h⟩ | h
  · by_cases hm : 4 ≤ l.length
    · obtain ⟨e1, e2, e3, e4⟩ := g_yes (p := p) hm
      rw [e1, e2, e3, e4]
      refine (get32_whole r g l p w h hm (by omega) hp.1 (by omega)).mono ?_
      rintro en w' ⟨rfl, h1, h2⟩
      exact ⟨rfl, .inl ⟨rfl, h1⟩, h2⟩
    · obtain ⟨e1, e2, e3, e4⟩ := g_no (p := p) (show l.length < 4 by omega)
      rw [e1, e2, e3, e4]
      refine (get32_short r g l p w h (by omega)).mono ?_
      rintro en w' ⟨rfl, h1, h2⟩
      exact ⟨rfl, .inr h1, h2⟩
  · obtain ⟨e1, e2, e3, e4⟩ := g_bad (W := 4) (l := l) (p := p) (bne_iff_ne.1 h.2)
    rw [e1, e2, e3, e4]
    refine (get32_broken r p e w h).mono ?_
    rintro en w' ⟨rfl, rfl⟩
    exact ⟨rfl, .inr h, Only.refl _ _⟩
theorem gvIn64 {l : List Int} {e : Int} (h : ∀ z ∈ l, 0 ≤ z ∧ z ≤ 255) : 0 ≤ gv 8 l e ∧ gv 8 l e ≤ 18446744073709551615 := by
  unfold gv
  split
  · rename_i hh
    have := valLt64 hh.2 (fun z hz => h z (List.mem_of_mem_take hz))
    omega
  · omega
theorem getAny64 (r g : Nat) (l : List Int) (p e : Int) (w : World) (h : RS w r g l p e) (hl : l.length ≤ 140737488351232) (hp : 0 ≤ p ∧ p ≤ 100000) :
    Calls Try.prog 50 #[.pointer (some ⟨r, 0, none⟩)] w fun en w' => en = .returned (.int .u64 (gv 8 l e)) ∧ RS w' r g (gl 8 l e) (gp 8 l e p) (ge 8 l e) ∧ Only r w w' := by
  rcases h with ⟨rfl, h⟩ | h
  · by_cases hm : 8 ≤ l.length
    · obtain ⟨e1, e2, e3, e4⟩ := g_yes (p := p) hm
      rw [e1, e2, e3, e4]
      refine (get64_whole r g l p w h hm (by omega) hp.1 (by omega)).mono ?_
      rintro en w' ⟨rfl, h1, h2⟩
      exact ⟨rfl, .inl ⟨rfl, h1⟩, h2⟩
    · obtain ⟨e1, e2, e3, e4⟩ := g_no (p := p) (show l.length < 8 by omega)
      rw [e1, e2, e3, e4]
      refine (get64_short r g l p w h (by omega)).mono ?_
      rintro en w' ⟨rfl, h1, h2⟩
      exact ⟨rfl, .inr h1, h2⟩
  · obtain ⟨e1, e2, e3, e4⟩ := g_bad (W := 8) (l := l) (p := p) (bne_iff_ne.1 h.2)
    rw [e1, e2, e3, e4]
    refine (get64_broken r p e w h).mono ?_
    rintro en w' ⟨rfl, rfl⟩
    exact ⟨rfl, .inr h, Only.refl _ _⟩
theorem RS.lt {w : World} {r g : Nat} {l : List Int} {p e : Int} (h : RS w r g l p e) : r < w.heap.size := by
  rcases h with ⟨_, h⟩ | h
  · exact h.lt
  · exact h.lt
theorem RS.kept {w w' : World} {r g : Nat} {l : List Int} {p e : Int} (h : RS w r g l p e) (hb : Below w.heap.size w w') : RS w' r g l p e := by
  rcases h with ⟨h0, h⟩ | h
  · exact .inl ⟨h0, h.kept (hb.block r h.lt) (fun hg => hb.block g hg)⟩
  · exact .inr (h.kept (hb.block r h.lt))
theorem RS.other {w w' : World} {r g q : Nat} {l : List Int} {p e : Int} (h : RS w r g l p e) (ho : ∀ k, k ≠ q → w'.heap[k]? = w.heap[k]?) (hr : r ≠ q) (hg : g ≠ q) : RS w' r g l p e := by
  rcases h with ⟨h0, h⟩ | h
  · exact .inl ⟨h0, h.kept (ho r hr) (fun _ => ho g hg)⟩
  · exact .inr (h.kept (ho r hr))
theorem Pm.only {w w' : World} {r g : Nat} {F H L B : Int} (h : Pm w g F H L B) (ho : Only r w w') (hn : g ≠ r) : Pm w' g F H L B := h.at (ho.block g hn)
theorem bel_only {b r : Nat} {w0 w w' : World} (h : Below b w0 w) (ho : Only r w w') (hb : b ≤ r) : Below b w0 w' := h.trans (ho.below hb)
theorem Pm.set0 {w : World} {g : Nat} {F H L B : Int} (h : Pm w g F H L B) (x : Int) : Pm (w.setCell ⟨g, 0, none⟩ (.int .i64 x)) g x H L B := by
  unfold Pm at *; simp [World.setCell, Array.getElem?_modify, h]
theorem Pm.set1 {w : World} {g : Nat} {F H L B : Int} (h : Pm w g F H L B) (x : Int) : Pm (w.setCell ⟨g, 1, none⟩ (.int .u64 x)) g F x L B := by
  unfold Pm at *; simp [World.setCell, Array.getElem?_modify, h]
theorem Pm.set2 {w : World} {g : Nat} {F H L B : Int} (h : Pm w g F H L B) (x : Int) : Pm (w.setCell ⟨g, 2, none⟩ (.int .u64 x)) g F H x B := by
  unfold Pm at *; simp [World.setCell, Array.getElem?_modify, h]
theorem Pm.set3 {w : World} {g : Nat} {F H L B : Int} (h : Pm w g F H L B) (x : Int) : Pm (w.setCell ⟨g, 3, none⟩ (.int .i64 x)) g F H L x := by
  unfold Pm at *; simp [World.setCell, Array.getElem?_modify, h]
/-- What read answers, number by number. -/
def rdF (l : List Int) : Int := gv 1 l 0
def rdB (l : List Int) : Int := gv 1 (gl 1 l 0) (ge 1 l 0)
def rdl (l : List Int) : List Int := gl 1 (gl 1 l 0) (ge 1 l 0)
def rde (l : List Int) : Int := ge 1 (gl 1 l 0) (ge 1 l 0)
def rdp (l : List Int) : Int := gp 1 (gl 1 l 0) (ge 1 l 0) (gp 1 l 0 0)
def rdH (l : List Int) : Int := if rdF l = 4 then 0 else gv 8 (rdl l) (rde l)
def rdL (l : List Int) : Int := if rdF l = 4 then gv 4 (rdl l) (rde l) else gv 8 (gl 8 (rdl l) (rde l)) (ge 8 (rdl l) (rde l))
def rdP (l : List Int) : Int := if rdF l = 4 then gp 4 (rdl l) (rde l) (rdp l) else gp 8 (gl 8 (rdl l) (rde l)) (ge 8 (rdl l) (rde l)) (gp 8 (rdl l) (rde l) (rdp l))
def rdE (l : List Int) : Int := if rdF l = 4 then ge 4 (rdl l) (rde l) else ge 8 (gl 8 (rdl l) (rde l)) (ge 8 (rdl l) (rde l))
end Go.Proofs.Ytlepbncaicpmjaa
namespace Go.Proofs.Ytlepbncaicpmjaa
set_option maxRecDepth 100000
open Go.RowKit
set_option linter.unusedVariables false

theorem val_nil : val [] = 0 := rfl
theorem val_one (a : Int) : val [a] = a := by rw [val_cons, val_nil]; simp
theorem rd_two (a b : Int) (s : List Int) : rdF (a :: b :: s) = a ∧ rdB (a :: b :: s) = b ∧ rdl (a :: b :: s) = s ∧ rde (a :: b :: s) = 0 ∧ rdp (a :: b :: s) = 2 := by
  obtain ⟨e1, e2, e3, e4⟩ := g_yes (W := 1) (l := a :: b :: s) (p := 0) (by simp)
  obtain ⟨f1, f2, f3, f4⟩ := g_yes (W := 1) (l := b :: s) (p := 0 + 1) (by simp)
  unfold rdF rdB rdl rde rdp
  rw [e1, e2, e3, e4]
  show _ ∧ gv 1 (b :: s) 0 = b ∧ gl 1 (b :: s) 0 = s ∧ ge 1 (b :: s) 0 = 0 ∧ gp 1 (b :: s) 0 (0 + (1 : Nat)) = 2
  have f3' : gp 1 (b :: s) 0 (0 + (1 : Nat)) = 2 := f3
  rw [f1, f2, f4, f3']
  exact ⟨val_one a, val_one b, rfl, rfl, rfl⟩
theorem rd_bad {l : List Int} (h : rde l ≠ 0) : rdE l ≠ 0 := by
  unfold rdE
  split
  · rw [(g_bad (W := 4) (l := rdl l) (p := 0) h).2.2.2]; exact h
  · have e := (g_bad (W := 8) (l := rdl l) (p := 0) h).2.2.2
    rw [e, (g_bad (W := 8) (l := gl 8 (rdl l) (rde l)) (p := 0) h).2.2.2]
    exact h
theorem rd_few {l : List Int} (h : l.length < 2) : rdE l ≠ 0 := by
  refine rd_bad ?_
  unfold rde
  match l, h with
  | [], _ =>
    have e1 : ge 1 ([] : List Int) 0 = 10 := by decide
    rw [e1, (g_bad (W := 1) (l := gl 1 ([] : List Int) 0) (p := 0) (e := 10) (by decide)).2.2.2]
    decide
  | [a], _ =>
    obtain ⟨_, e2, _, e4⟩ := g_yes (W := 1) (l := [a]) (p := 0) (by simp)
    rw [e2, e4]
    show ge 1 ([] : List Int) 0 ≠ 0
    decide
theorem val_app (x y : List Int) : val (x ++ y) = val x * 256 ^ y.length + val y := by
  have := fold_val y (val x)
  unfold val at *
  rw [List.foldl_append, this]
theorem ah_four {S : List Int} (hb : ∀ z ∈ S, 0 ≤ z ∧ z ≤ 255) (h : S.length = 4) : ah S = 0 ∧ al S = val S := by
  have := val_bound S hb
  rw [h] at this
  have e : (256 : Int) ^ 4 = 4294967296 := by decide
  rw [e] at this
  unfold ah al
  omega
theorem ah_16 {S : List Int} (hb : ∀ z ∈ S, 0 ≤ z ∧ z ≤ 255) (h : S.length = 16) : ah S = val (S.take 8) ∧ al S = val (S.drop 8) := by
  have h1 := val_app (S.take 8) (S.drop 8)
  rw [List.take_append_drop] at h1
  have hl : (S.drop 8).length = 8 := by rw [List.length_drop, h]
  have h2 := val_bound (S.drop 8) (fun z hz => hb z (List.mem_of_mem_drop hz))
  rw [hl] at h1 h2
  have e : (256 : Int) ^ 8 = 18446744073709551616 := by decide
  rw [e] at h1 h2
  unfold ah al
  rw [h1]
  omega
/-- What read says of a list's beginning is what Get says of the list. -/
theorem rd_gk (zs : List Int) (hb : ∀ z ∈ zs, 0 ≤ z ∧ z ≤ 255) :
    (decide (rdE (zs.take 18) = 0) && vp (rdF (zs.take 18)) (rdH (zs.take 18)) (rdL (zs.take 18)) (rdB (zs.take 18))) = gk zs ∧
    (gk zs = true → rdF (zs.take 18) = g0 zs ∧ rdH (zs.take 18) = ah (gs7 zs) ∧ rdL (zs.take 18) = al (gs7 zs) ∧ rdB (zs.take 18) = zs.getD 1 0 ∧ rdP (zs.take 18) = ((2 + gm zs : Nat) : Int)) := by
  by_cases h2 : zs.length < 2
  · have e : gk zs = false := by unfold gk; rw [decide_eq_false (by omega), Bool.false_and]
    rw [e, decide_eq_false (rd_few (by rw [List.length_take]; omega)), Bool.false_and]
    exact ⟨rfl, fun h => by cases h⟩
  · match zs, h2 with
    | [], h => simp at h
    | [a], h => simp at h
    | a :: b :: t, _ =>
      have hbt : ∀ z ∈ t, 0 ≤ z ∧ z ≤ 255 := fun z hz => hb z (by simp [hz])
      have el : (a :: b :: t).take 18 = a :: b :: t.take 16 := rfl
      rw [el]
      obtain ⟨e1, e2, e3, e4, e5⟩ := rd_two a b (t.take 16)
      have g1 : g0 (a :: b :: t) = a := rfl
      have g2 : (a :: b :: t).getD 1 0 = b := rfl
      have g3 : (a :: b :: t).length = t.length + 2 := rfl
      have g4 : gm (a :: b :: t) = nb a / 8 := rfl
      have g5 : gs7 (a :: b :: t) = t.take (nb a / 8) := rfl
      unfold gk rdE rdH rdL rdP
      rw [e1, e2, e3, e4, e5, g1, g2, g3, g4, g5]
      by_cases h4 : a = 4
      · subst h4
        rw [if_pos rfl, if_pos rfl, if_pos rfl, if_pos rfl, show nb 4 / 8 = 4 from rfl]
        by_cases hl : 4 ≤ t.length
        · have hl' : 4 ≤ (t.take 16).length := by rw [List.length_take]; omega
          obtain ⟨y1, y2, y3, y4⟩ := g_yes (W := 4) (l := t.take 16) (p := 2) hl'
          have et : (t.take 16).take 4 = t.take 4 := by rw [List.take_take]; rfl
          obtain ⟨s1, s2⟩ := ah_four (S := t.take 4) (fun z hz => hbt z (List.mem_of_mem_take hz)) (by rw [List.length_take]; omega)
          rw [y1, y3, y4, et, s1, s2, decide_eq_true rfl, decide_eq_true (by omega)]
          exact ⟨rfl, fun _ => ⟨rfl, rfl, rfl, rfl, rfl⟩⟩
        · have hl' : (t.take 16).length < 4 := by rw [List.length_take]; omega
          obtain ⟨y1, y2, y3, y4⟩ := g_no (W := 4) (l := t.take 16) (p := 2) hl'
          rw [y4, decide_eq_false (by decide), Bool.false_and, decide_eq_false (by omega), Bool.false_and]
          exact ⟨rfl, fun h => by cases h⟩
      · rw [if_neg h4, if_neg h4, if_neg h4, if_neg h4]
        by_cases h6 : a = 6
        · subst h6
          rw [show nb 6 / 8 = 16 from rfl]
          by_cases hl : 16 ≤ t.length
          · have hl' : (t.take 16).length = 16 := by rw [List.length_take]; omega
            obtain ⟨y1, y2, y3, y4⟩ := g_yes (W := 8) (l := t.take 16) (p := 2) (by omega)
            rw [y1, y2, y3, y4]
            obtain ⟨x1, x2, x3, x4⟩ := g_yes (W := 8) (l := (t.take 16).drop 8) (p := 2 + 8) (by rw [List.length_drop]; omega)
            have x3' : gp 8 ((t.take 16).drop 8) 0 (2 + (8 : Nat)) = 18 := x3
            have et : ((t.take 16).drop 8).take 8 = (t.take 16).drop 8 := List.take_of_length_le (by rw [List.length_drop]; omega)
            obtain ⟨s1, s2⟩ := ah_16 (S := t.take 16) (fun z hz => hbt z (List.mem_of_mem_take hz)) hl'
            rw [x1, x3', x4, et, s1, s2, decide_eq_true rfl, decide_eq_true (by omega)]
            exact ⟨rfl, fun _ => ⟨rfl, rfl, rfl, rfl, rfl⟩⟩
          · have hE : ge 8 (gl 8 (t.take 16) 0) (ge 8 (t.take 16) 0) ≠ 0 := by
              by_cases h8 : 8 ≤ (t.take 16).length
              · obtain ⟨y1, y2, y3, y4⟩ := g_yes (W := 8) (l := t.take 16) (p := 2) h8
                rw [y2, y4, (g_no (W := 8) (l := (t.take 16).drop 8) (p := 2) (by rw [List.length_drop, List.length_take]; omega)).2.2.2]
                decide
              · obtain ⟨y1, y2, y3, y4⟩ := g_no (W := 8) (l := t.take 16) (p := 2) (by omega)
                rw [y2, y4, (g_bad (W := 8) (l := t.take 16) (p := 2) (e := 10) (by decide)).2.2.2]
                decide
            rw [decide_eq_false hE, Bool.false_and, decide_eq_false (by omega), Bool.false_and]
            exact ⟨rfl, fun h => by cases h⟩
        · have hv : ∀ H L, va a H L = false := fun H L => decide_eq_false (by omega)
          rw [show nb a = 0 from by unfold nb; rw [if_neg h4, if_neg h6]]
          have hvp : ∀ H L, vp a H L b = false := fun H L => va_out (hv H L) b
          rw [hvp, Bool.and_false, hvp, Bool.and_false]
          exact ⟨rfl, fun h => by cases h⟩
end Go.Proofs.Ytlepbncaicpmjaa
namespace Go.Proofs.Ytlepbncaicpmjaa
set_option maxRecDepth 100000
open Go.RowKit
set_option linter.unusedVariables false

theorem Bs.cut {w : World} {a : Option Addr} {n m : Nat} {zs : List Int} (h : Bs w a n zs) (hm : m ≤ n) : Bs w a m (zs.take m) := by
  refine ⟨by rw [List.length_take, h.1]; omega, fun z hz => h.2.1 z (List.mem_of_mem_take hz), ?_⟩
  rcases h.2.2 with h0 | ⟨b, off, rfl, hc⟩
  · exact .inl (by omega)
  · refine .inr ⟨b, off, rfl, fun i hi => ?_⟩
    rw [hc i (by omega)]
    simp only [List.getD, List.getElem?_take, if_pos hi]
/-- A new reader, all its memory new: its bytes lie below it. -/
theorem newReader7 (a : Option Addr) (n c : Nat) (zs : List Int) (w : World) (hb : Bs w a n zs) (ha : a = none → c = 0) (hn : n ≤ 140737488351232) (hnc : n ≤ c) (h0 : 0 < w.heap.size) :
    Calls Try.prog 45 #[.slice a n c] w fun en w' => ∃ r g, en = .returned (.pointer (some ⟨r, 0, none⟩)) ∧ RS w' r g zs 0 0 ∧ w.heap.size ≤ r ∧ g < r ∧ Below w.heap.size w w' := by
  cases a with
  | none =>
    obtain rfl : c = 0 := ha rfl
    obtain rfl : n = 0 := by omega
    obtain rfl : zs = [] := List.eq_nil_of_length_eq_zero hb.1
    refine (newReader_nil w).mono ?_
    rintro en w' ⟨rfl, rfl⟩
    exact ⟨w.heap.size, 0, rfl, .inl ⟨rfl, by omega, none, 0, 0, heap_alloc_new w _, rfl, Nat.le_refl _, by unfold maxLen; omega, by simp, .inl ⟨rfl, rfl, rfl⟩⟩, Nat.le_refl _, h0, (Below.refl _ _).alloc (Nat.le_refl _) _⟩
  | some x =>
    refine (newReader_some x n c zs w hb hn).mono ?_
    rintro en w' ⟨g, cap, cur, w1, rfl, hbg, hgg, hnc', hcm, hcs, ht, hg, rfl⟩
    have hs := hg.size
    have hlt : g < w1.heap.size := (Array.getElem?_eq_some_iff.1 hgg).1
    refine ⟨w1.heap.size, g, rfl, .inl ⟨rfl, by omega, some ⟨g, 0, none⟩, n, cap, heap_alloc_new w1 _, hb.1, hnc', hcm, hb.2.1, .inr ⟨0, cur, rfl, ?_, by omega, ?_⟩⟩, hs, hlt, (below_of_grown hg).alloc hs _⟩
    · rw [Below.heap_alloc w1 _ g hlt]; exact hgg
    · simpa using ht
end Go.Proofs.Ytlepbncaicpmjaa
