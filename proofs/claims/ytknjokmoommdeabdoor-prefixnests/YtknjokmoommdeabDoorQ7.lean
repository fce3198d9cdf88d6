import Derived.Test.YtknjokmoommdeabDoorQ6
namespace Go.Proofs.YtknjokmoommdeabDoor
open Go.RowKit
set_option linter.unusedVariables false

/-- A reader, whole or broken: what is left, its place, its error. -/
def RS (w : World) (r g : Nat) (l : List Int) (p e : Int) : Prop := (e = 0 ∧ Rd w r g l p) ∨ Rb w r p e
def gv (W : Nat) (l : List Int) (e : Int) : Int := if e = 0 ∧ W ≤ l.length then val (l.take W) else 0
def gl (W : Nat) (l : List Int) (e : Int) : List Int := if e = 0 ∧ W ≤ l.length then l.drop W else l
def gp (W : Nat) (l : List Int) (e p : Int) : Int := if e = 0 ∧ W ≤ l.length then p + W else p
def ge (W : Nat) (l : List Int) (e : Int) : Int := if e = 0 then (if W ≤ l.length then 0 else 10) else e
theorem g_yes {W : Nat} {l : List Int} {p : Int} (h : W ≤ l.length) : gv W l 0 = val (l.take W) ∧ gl W l 0 = l.drop W ∧ gp W l 0 p = p + W ∧ ge W l 0 = 0 := by
  unfold gv gl gp ge
  rw [if_pos ⟨rfl, h⟩, if_pos ⟨rfl, h⟩, if_pos ⟨rfl, h⟩, if_pos rfl, if_pos h]
  exact ⟨rfl, rfl, rfl, rfl⟩
theorem g_no {W : Nat} {l : List Int} {p : Int} (h : l.length < W) : gv W l 0 = 0 ∧ gl W l 0 = l ∧ gp W l 0 p = p ∧ ge W l 0 = 10 := by
  unfold gv gl gp ge
  rw [if_neg (by omega), if_neg (by omega), if_neg (by omega), if_pos rfl, if_neg (by omega)]
  exact ⟨rfl, rfl, rfl, rfl⟩
theorem g_bad {W : Nat} {l : List Int} {p e : Int} (h : e ≠ 0) : gv W l e = 0 ∧ gl W l e = l ∧ gp W l e p = p ∧ ge W l e = e := by
  unfold gv gl gp ge
  rw [if_neg (fun h' => h h'.1), if_neg (fun h' => h h'.1), if_neg (fun h' => h h'.1), if_neg h]
  exact ⟨rfl, rfl, rfl, rfl⟩
theorem gl_sub {W : Nat} {l : List Int} {e : Int} (h : ∀ z ∈ l, 0 ≤ z ∧ z ≤ 255) : (∀ z ∈ gl W l e, 0 ≤ z ∧ z ≤ 255) ∧ (gl W l e).length ≤ l.length := by
  unfold gl
  split
  · exact ⟨fun z hz => h z (List.mem_of_mem_drop hz), by simp⟩
  · exact ⟨h, Nat.le_refl _⟩
theorem gp_in {W : Nat} {l : List Int} {e p : Int} {m : Int} (h : 0 ≤ p ∧ p ≤ m) : 0 ≤ gp W l e p ∧ gp W l e p ≤ m + W := by
  unfold gp
  split <;> omega
theorem gvIn8 {l : List Int} {e : Int} (h : ∀ z ∈ l, 0 ≤ z ∧ z ≤ 255) : 0 ≤ gv 1 l e ∧ gv 1 l e ≤ 255 := by
  unfold gv
  split
  · rename_i hh
    have := valLt8 hh.2 (fun z hz => h z (List.mem_of_mem_take hz))
    omega
  · omega
theorem getAny8 (r g : Nat) (l : List Int) (p e : Int) (w : World) (h : RS w r g l p e) (hl : l.length ≤ 1000) (hp : 0 ≤ p ∧ p ≤ 1000) :
    Calls Tryd.prog 44 #[.pointer (some ⟨r, 0, none⟩)] w fun en w' => en = .returned (.int .u8 (gv 1 l e)) ∧ RS w' r g (gl 1 l e) (gp 1 l e p) (ge 1 l e) ∧ Only r w w' := by
  rcases h with ⟨rfl, h⟩ | h
  · by_cases hm : 1 ≤ l.length
    · obtain ⟨e1, e2, e3, e4⟩ := g_yes (p := p) hm
      rw [e1, e2, e3, e4]
      refine (get8_whole r g l p w h hm (by omega) hp.1 (by omega)).mono ?_
      rintro en w' ⟨rfl, h1, h2⟩
      exact ⟨rfl, .inl ⟨rfl, h1⟩, h2⟩
    · obtain ⟨e1, e2, e3, e4⟩ := g_no (p := p) (show l.length < 1 by omega)
      rw [e1, e2, e3, e4]
      refine (get8_short r g l p w h (by omega)).mono ?_
      rintro en w' ⟨rfl, h1, h2⟩
      exact ⟨rfl, .inr h1, h2⟩
  · obtain ⟨e1, e2, e3, e4⟩ := g_bad (W := 1) (l := l) (p := p) (bne_iff_ne.1 h.2)
    rw [e1, e2, e3, e4]
    refine (get8_broken r p e w h).mono ?_
    rintro en w' ⟨rfl, rfl⟩
    exact ⟨rfl, .inr h, Only.refl _ _⟩
theorem gvIn16 {l : List Int} {e : Int} (h : ∀ z ∈ l, 0 ≤ z ∧ z ≤ 255) : 0 ≤ gv 2 l e ∧ gv 2 l e ≤ 65535 := by
  unfold gv
  split
  · rename_i hh
    have := valLt16 hh.2 (fun z hz => h z (List.mem_of_mem_take hz))
    omega
  · omega
theorem getAny16 (r g : Nat) (l : List Int) (p e : Int) (w : World) (h : RS w r g l p e) (hl : l.length ≤ 1000) (hp : 0 ≤ p ∧ p ≤ 1000) :
    Calls Tryd.prog 45 #[.pointer (some ⟨r, 0, none⟩)] w fun en w' => en = .returned (.int .u16 (gv 2 l e)) ∧ RS w' r g (gl 2 l e) (gp 2 l e p) (ge 2 l e) ∧ Only r w w' := by
  rcases h with ⟨rfl, h⟩ | h
  · by_cases hm : 2 ≤ l.length
    · obtain ⟨e1, e2, e3, e4⟩ := g_yes (p := p) hm
      rw [e1, e2, e3, e4]
      refine (get16_whole r g l p w h hm (by omega) hp.1 (by omega)).mono ?_
      rintro en w' ⟨rfl, h1, h2⟩
      exact ⟨rfl, .inl ⟨rfl, h1⟩, h2⟩
    · obtain ⟨e1, e2, e3, e4⟩ := g_no (p := p) (show l.length < 2 by omega)
      rw [e1, e2, e3, e4]
      refine (get16_short r g l p w h (by omega)).mono ?_
      rintro en w' ⟨rfl, h1, h2⟩
      exact ⟨rfl, .inr h1, h2⟩
  · obtain ⟨e1, e2, e3, e4⟩ := g_bad (W := 2) (l := l) (p := p) (bne_iff_ne.1 h.2)
    rw [e1, e2, e3, e4]
    refine (get16_broken r p e w h).mono ?_
    rintro en w' ⟨rfl, rfl⟩
    exact ⟨rfl, .inr h, Only.refl _ _⟩
theorem RS.lt {w : World} {r g : Nat} {l : List Int} {p e : Int} (h : RS w r g l p e) : r < w.heap.size := by
  rcases h with ⟨_, h⟩ | h
  · exact h.lt
  · exact h.lt
theorem RS.kept {w w' : World} {r g : Nat} {l : List Int} {p e : Int} (h : RS w r g l p e) (hb : Below w.heap.size w w') : RS w' r g l p e := by
  rcases h with ⟨h0, h⟩ | h
  · exact .inl ⟨h0, h.kept (hb.block r h.lt) (fun hg => hb.block g hg)⟩
  · exact .inr (h.kept (hb.block r h.lt))
theorem RS.other {w w' : World} {r g q : Nat} {l : List Int} {p e : Int} (h : RS w r g l p e) (ho : ∀ k, k ≠ q → w'.heap[k]? = w.heap[k]?) (hr : r ≠ q) (hg : g ≠ q) : RS w' r g l p e := by
  rcases h with ⟨h0, h⟩ | h
  · exact .inl ⟨h0, h.kept (ho r hr) (fun _ => ho g hg)⟩
  · exact .inr (h.kept (ho r hr))
theorem Pm.only {w w' : World} {r g : Nat} {F H L B : Int} (h : Pm w g F H L B) (ho : Only r w w') (hn : g ≠ r) : Pm w' g F H L B := h.at (ho.block g hn)
theorem bel_only {b r : Nat} {w0 w w' : World} (h : Below b w0 w) (ho : Only r w w') (hb : b ≤ r) : Below b w0 w' := h.trans (ho.below hb)
theorem Pm.set0 {w : World} {g : Nat} {F H L B : Int} (h : Pm w g F H L B) (x : Int) : Pm (w.setCell ⟨g, 0, none⟩ (.int .i64 x)) g x H L B := by
  unfold Pm at *; simp [World.setCell, Array.getElem?_modify, h]
theorem Pm.set1 {w : World} {g : Nat} {F H L B : Int} (h : Pm w g F H L B) (x : Int) : Pm (w.setCell ⟨g, 1, none⟩ (.int .u64 x)) g F x L B := by
  unfold Pm at *; simp [World.setCell, Array.getElem?_modify, h]
theorem Pm.set2 {w : World} {g : Nat} {F H L B : Int} (h : Pm w g F H L B) (x : Int) : Pm (w.setCell ⟨g, 2, none⟩ (.int .u64 x)) g F H x B := by
  unfold Pm at *; simp [World.setCell, Array.getElem?_modify, h]
theorem Pm.set3 {w : World} {g : Nat} {F H L B : Int} (h : Pm w g F H L B) (x : Int) : Pm (w.setCell ⟨g, 3, none⟩ (.int .i64 x)) g F H L x := by
  unfold Pm at *; simp [World.setCell, Array.getElem?_modify, h]
/-- What read answers, number by number. -/
def rdF (l : List Int) : Int := gv 1 l 0
def rdB (l : List Int) : Int := gv 1 (gl 1 l 0) (ge 1 l 0)
def rdl (l : List Int) : List Int := gl 1 (gl 1 l 0) (ge 1 l 0)
def rde (l : List Int) : Int := ge 1 (gl 1 l 0) (ge 1 l 0)
def rdp (l : List Int) : Int := gp 1 (gl 1 l 0) (ge 1 l 0) (gp 1 l 0 0)
def rdH (l : List Int) : Int := if rdF l = 4 then 0 else gv 8 (rdl l) (rde l)
def rdL (l : List Int) : Int := if rdF l = 4 then gv 4 (rdl l) (rde l) else gv 8 (gl 8 (rdl l) (rde l)) (ge 8 (rdl l) (rde l))
def rdP (l : List Int) : Int := if rdF l = 4 then gp 4 (rdl l) (rde l) (rdp l) else gp 8 (gl 8 (rdl l) (rde l)) (ge 8 (rdl l) (rde l)) (gp 8 (rdl l) (rde l) (rdp l))
def rdE (l : List Int) : Int := if rdF l = 4 then ge 4 (rdl l) (rde l) else ge 8 (gl 8 (rdl l) (rde l)) (ge 8 (rdl l) (rde l))
end Go.Proofs.YtknjokmoommdeabDoor
