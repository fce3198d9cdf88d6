import Derived.Test.YtcbmgpmjnehjdaaGreatQ6
namespace Go.Proofs.YtcbmgpmjnehjdaaGreat
set_option maxRecDepth 100000
open Go.RowKit
set_option linter.unusedVariables false

/-- A reader, whole or broken: what is left, its place, its error. -/
def RS (w : World) (r g : Nat) (l : List Int) (p e : Int) : Prop := (e = 0 ∧ Rd w r g l p) ∨ Rb w r p e
def gv (W : Nat) (l : List Int) (e : Int) : Int := if e = 0 ∧ W ≤ l.length then val (l.take W) else 0
def gl (W : Nat) (l : List Int) (e : Int) : List Int := if e = 0 ∧ W ≤ l.length then l.drop W else l
def gp (W : Nat) (l : List Int) (e p : Int) : Int := if e = 0 ∧ W ≤ l.length then p + W else p
def ge (W : Nat) (l : List Int) (e : Int) : Int := if e = 0 then (if W ≤ l.length then 0 else 10) else e
theorem g_yes {W : Nat} {l : List Int} {p : Int} (h : W ≤ l.length) : gv W l 0 = val (l.take W) ∧ gl W l 0 = l.drop W ∧ gp W l 0 p = p + W ∧ ge W l 0 = 0 := by
  unfold gv gl gp ge
  rw [if_pos ⟨rfl, h⟩, if_pos ⟨rfl, h⟩, if_pos ⟨rfl, h⟩, if_pos rfl, if_pos h]
  exact ⟨rfl, rfl, rfl, rfl⟩
theorem g_no {W : Nat} {l : List Int} {p : Int} (h : l.length < W) : gv W l 0 = 0 ∧ gl W l 0 = l ∧ gp W l 0 p = p ∧ ge W l 0 = 10 := by
  unfold gv gl gp ge
  rw [if_neg (by omega), if_neg (by omega), if_neg (by omega), if_pos rfl, if_neg (by omega)]
  exact ⟨rfl, rfl, rfl, rfl⟩
theorem g_bad {W : Nat} {l : List Int} {p e : Int} (h : e ≠ 0) : gv W l e = 0 ∧ gl W l e = l ∧ gp W l e p = p ∧ ge W l e = e := by
  unfold gv gl gp ge
  rw [if_neg (fun h' => h h'.1), if_neg (fun h' => h h'.1), if_neg (fun h' => h h'.1), if_neg h]
  exact ⟨rfl, rfl, rfl, rfl⟩
theorem gl_sub {W : Nat} {l : List Int} {e : Int} (h : ∀ z ∈ l, 0 ≤ z ∧ z ≤ 255) : (∀ z ∈ gl W l e, 0 ≤ z ∧ z ≤ 255) ∧ (gl W l e).length ≤ l.length := by
  unfold gl
  split
  · exact ⟨fun z hz => h z (List.mem_of_mem_drop hz), by simp⟩
  · exact ⟨h, Nat.le_refl _⟩
theorem gp_in {W : Nat} {l : List Int} {e p : Int} {m : Int} (h : 0 ≤ p ∧ p ≤ m) : 0 ≤ gp W l e p ∧ gp W l e p ≤ m + W := by
  unfold gp
  split <;> omega
theorem gvIn8 {l : List Int} {e : Int} (h : ∀ z ∈ l, 0 ≤ z ∧ z ≤ 255) : 0 ≤ gv 1 l e ∧ gv 1 l e ≤ 255 := by
  unfold gv
  split
  · rename_i hh
    have := valLt8 hh.2 (fun z hz => h z (List.mem_of_mem_take hz))
    omega
  · omega
theorem getAny8 (r g : Nat) (l : List Int) (p e : Int) (w : World) (h : RS w r g l p e) (hl : l.length ≤ 140737488351232) (hp : 0 ≤ p ∧ p ≤ 100000) :
    Calls Tryz.prog 93 #[.pointer (some ⟨r, 0, none⟩)] w fun en w' => en = .returned (.int .u8 (gv 1 l e)) ∧ RS w' r g (gl 1 l e) (gp 1 l e p) (ge 1 l e) ∧ Only r w w' := by
  rcases h with ⟨rfl, h⟩ | h
  · by_cases hm : 1 ≤ l.length
    · obtain ⟨e1, e2, e3, e4⟩ := g_yes (p := p) hm
      rw [e1, e2, e3, e4]
      refine (get8_whole r g l p w h hm (by omega) hp.1 (by omega)).mono ?_
      rintro en w' ⟨rfl, h1, h2⟩
      exact ⟨rfl, .inl ⟨rfl, h1⟩, h2⟩
    · obtain ⟨e1, e2, e3, e4⟩ := g_no (p := p) (show l.length < 1 by omega)
      rw [e1, e2, e3, e4]
      refine (get8_short r g l p w h (by omega)).mono ?_
      rintro en w' ⟨rfl, h1, h2⟩
      exact ⟨rfl, .inr h1, h2⟩
  · obtain ⟨e1, e2, e3, e4⟩ := g_bad (W := 1) (l := l) (p := p) (bne_iff_ne.1 h.2)
    rw [e1, e2, e3, e4]
    refine (get8_broken r p e w h).mono ?_
    rintro en w' ⟨rfl, rfl⟩
    exact ⟨rfl, .inr h, Only.refl _ _⟩
theorem gvIn32 {l : List Int} {e : Int} (h : ∀ z ∈ l, 0 ≤ z ∧ z ≤ 255) : 0 ≤ gv 4 l e ∧ gv 4 l e ≤ 4294967295 := by
  unfold gv
  split
  · rename_i hh
    have := valLt32 hh.2 (fun z hz => h z (List.mem_of_mem_take hz))
    omega
  · omega
theorem getAny32 (r g : Nat) (l : List Int) (p e : Int) (w : World) (h : RS w r g l p e) (hl : l.length ≤ 140737488351232) (hp : 0 ≤ p ∧ p ≤ 100000) :
    Calls Tryz.prog 91 #[.pointer (some ⟨r, 0, none⟩)] w fun en w' => en = .returned (.int .u32 (gv 4 l e)) ∧ RS w' r g (gl 4 l e) (gp 4 l e p) (ge 4 l e) ∧ Only r w w' := by
  rcases h with ⟨rfl, h⟩ | h
  · by_cases hm : 4 ≤ l.length
    · obtain ⟨e1, e2, e3, e4⟩ := g_yes (p := p) hm
      rw [e1, e2, e3, e4]
      refine (get32_whole r g l p w h hm (by omega) hp.1 (by omega)).mono ?_
      rintro en w' ⟨rfl, h1, h2⟩
      exact ⟨rfl, .inl ⟨rfl, h1⟩, h2⟩
    · obtain ⟨e1, e2, e3, e4⟩ := g_no (p := p) (show l.length < 4 by omega)
      rw [e1, e2, e3, e4]
      refine (get32_short r g l p w h (by omega)).mono ?_
      rintro en w' ⟨rfl, h1, h2⟩
      exact ⟨rfl, .inr h1, h2⟩
  · obtain ⟨e1, e2, e3, e4⟩ := g_bad (W := 4) (l := l) (p := p) (bne_iff_ne.1 h.2)
    rw [e1, e2, e3, e4]
    refine (get32_broken r p e w h).mono ?_
    rintro en w' ⟨rfl, rfl⟩
    exact ⟨rfl, .inr h, Only.refl _ _⟩
theorem gvIn64 {l : List Int} {e : Int} (h : ∀ z ∈ l, 0 ≤ z ∧ z ≤ 255) : 0 ≤ gv 8 l e ∧ gv 8 l e ≤ 18446744073709551615 := by
  unfold gv
  split
  · rename_i hh
    have := valLt64 hh.2 (fun z hz => h z (List.mem_of_mem_take hz))
    omega
  · omega
theorem getAny64 (r g : Nat) (l : List Int) (p e : Int) (w : World) (h : RS w r g l p e) (hl : l.length ≤ 140737488351232) (hp : 0 ≤ p ∧ p ≤ 100000) :
    Calls Tryz.prog 98 #[.pointer (some ⟨r, 0, none⟩)] w fun en w' => en = .returned (.int .u64 (gv 8 l e)) ∧ RS w' r g (gl 8 l e) (gp 8 l e p) (ge 8 l e) ∧ Only r w w' := by
  rcases h with ⟨rfl, h⟩ | h
  · by_cases hm : 8 ≤ l.length
    · obtain ⟨e1, e2, e3, e4⟩ := g_yes (p := p) hm
      rw [e1, e2, e3, e4]
      refine (get64_whole r g l p w h hm (by omega) hp.1 (by omega)).mono ?_
      rintro en w' ⟨rfl, h1, h2⟩
      exact ⟨rfl, .inl ⟨rfl, h1⟩, h2⟩
    · obtain ⟨e1, e2, e3, e4⟩ := g_no (p := p) (show l.length < 8 by omega)
      rw [e1, e2, e3, e4]
      refine (get64_short r g l p w h (by omega)).mono ?_
      rintro en w' ⟨rfl, h1, h2⟩
      exact ⟨rfl, .inr h1, h2⟩
  · obtain ⟨e1, e2, e3, e4⟩ := g_bad (W := 8) (l := l) (p := p) (bne_iff_ne.1 h.2)
    rw [e1, e2, e3, e4]
    refine (get64_broken r p e w h).mono ?_
    rintro en w' ⟨rfl, rfl⟩
    exact ⟨rfl, .inr h, Only.refl _ _⟩
theorem errAny (r g : Nat) (l : List Int) (p e : Int) (w : World) (h : RS w r g l p e) :
    Calls Tryz.prog 134 #[.pointer (some ⟨r, 0, none⟩)] w fun en w' => en = .returned (.tuple #[.int .i64 e, .int .i64 p]) ∧ ∃ nq, w' = w.drewN nq := by
  rcases h with ⟨rfl, h⟩ | h
  · exact err_whole r g l p w h
  · exact err_broken r p e w h
theorem RS.lt {w : World} {r g : Nat} {l : List Int} {p e : Int} (h : RS w r g l p e) : r < w.heap.size := by
  rcases h with ⟨_, h⟩ | h
  · exact h.lt
  · exact h.lt
theorem RS.kept {w w' : World} {r g : Nat} {l : List Int} {p e : Int} (h : RS w r g l p e) (hb : Below w.heap.size w w') : RS w' r g l p e := by
  rcases h with ⟨h0, h⟩ | h
  · exact .inl ⟨h0, h.kept (hb.block r h.lt) (fun hg => hb.block g hg)⟩
  · exact .inr (h.kept (hb.block r h.lt))
theorem RS.other {w w' : World} {r g q : Nat} {l : List Int} {p e : Int} (h : RS w r g l p e) (ho : ∀ k, k ≠ q → w'.heap[k]? = w.heap[k]?) (hr : r ≠ q) (hg : g ≠ q) : RS w' r g l p e := by
  rcases h with ⟨h0, h⟩ | h
  · exact .inl ⟨h0, h.kept (ho r hr) (fun _ => ho g hg)⟩
  · exact .inr (h.kept (ho r hr))
theorem Pm.only {w w' : World} {r g : Nat} {F H L B : Int} (h : Pm w g F H L B) (ho : Only r w w') (hn : g ≠ r) : Pm w' g F H L B := h.at (ho.block g hn)
theorem bel_only {b r : Nat} {w0 w w' : World} (h : Below b w0 w) (ho : Only r w w') (hb : b ≤ r) : Below b w0 w' := h.trans (ho.below hb)
theorem Pm.set0 {w : World} {g : Nat} {F H L B : Int} (h : Pm w g F H L B) (x : Int) : Pm (w.setCell ⟨g, 0, none⟩ (.int .i64 x)) g x H L B := by
  unfold Pm at *; simp [World.setCell, Array.getElem?_modify, h]
theorem Pm.set1 {w : World} {g : Nat} {F H L B : Int} (h : Pm w g F H L B) (x : Int) : Pm (w.setCell ⟨g, 1, none⟩ (.int .u64 x)) g F x L B := by
  unfold Pm at *; simp [World.setCell, Array.getElem?_modify, h]
theorem Pm.set2 {w : World} {g : Nat} {F H L B : Int} (h : Pm w g F H L B) (x : Int) : Pm (w.setCell ⟨g, 2, none⟩ (.int .u64 x)) g F H x B := by
  unfold Pm at *; simp [World.setCell, Array.getElem?_modify, h]
theorem Pm.set3 {w : World} {g : Nat} {F H L B : Int} (h : Pm w g F H L B) (x : Int) : Pm (w.setCell ⟨g, 3, none⟩ (.int .i64 x)) g F H L x := by
  unfold Pm at *; simp [World.setCell, Array.getElem?_modify, h]
/-- What read answers, number by number. -/
def rdF (l : List Int) : Int := gv 1 l 0
def rdB (l : List Int) : Int := gv 1 (gl 1 l 0) (ge 1 l 0)
def rdl (l : List Int) : List Int := gl 1 (gl 1 l 0) (ge 1 l 0)
def rde (l : List Int) : Int := ge 1 (gl 1 l 0) (ge 1 l 0)
def rdp (l : List Int) : Int := gp 1 (gl 1 l 0) (ge 1 l 0) (gp 1 l 0 0)
def rdH (l : List Int) : Int := if rdF l = 4 then 0 else gv 8 (rdl l) (rde l)
def rdL (l : List Int) : Int := if rdF l = 4 then gv 4 (rdl l) (rde l) else gv 8 (gl 8 (rdl l) (rde l)) (ge 8 (rdl l) (rde l))
def rdP (l : List Int) : Int := if rdF l = 4 then gp 4 (rdl l) (rde l) (rdp l) else gp 8 (gl 8 (rdl l) (rde l)) (ge 8 (rdl l) (rde l)) (gp 8 (rdl l) (rde l) (rdp l))
def rdE (l : List Int) : Int := if rdF l = 4 then ge 4 (rdl l) (rde l) else ge 8 (gl 8 (rdl l) (rde l)) (ge 8 (rdl l) (rde l))
set_option maxHeartbeats 1000000 in
theorem read_ (r g : Nat) (l : List Int) (w : World) (h : RS w r g l 0 0) (hl : l.length ≤ 18) (hb : ∀ z ∈ l, 0 ≤ z ∧ z ≤ 255) (hgr : g < r) :
    Calls Tryz.prog 133 #[.pointer (some ⟨r, 0, none⟩)] w fun e w' => e = .returned (.agg #[.int .i64 (rdF l), .int .u64 (rdH l), .int .u64 (rdL l), .int .i64 (rdB l)]) ∧ (∃ l', RS w' r g l' (rdP l) (rdE l)) ∧ Below r w w' := by
  have hr := h.lt
  obtain ⟨hrl, hb0⟩ : r < w.heap.size ∧ g < w.heap.size := ⟨hr, by omega⟩
  have m0 := (Pm.new w 0 0 0 0).alloc (.cells #[.int .i64 0, .int .u64 0, .int .u64 0, .int .i64 0] 121)
  have m1 := Pm.new (w.alloc (.cells #[.int .i64 0, .int .u64 0, .int .u64 0, .int .i64 0] 121)) 0 0 0 0
  rw [World.size_alloc] at m1
  have B0 : Below r w ((w.alloc (.cells #[.int .i64 0, .int .u64 0, .int .u64 0, .int .i64 0] 121)).alloc (.cells #[.int .i64 0, .int .u64 0, .int .u64 0, .int .i64 0] 121)) := ((Below.refl r w).alloc (by omega) _).alloc (by simp; omega) _
  have rs := h.kept (((Below.refl _ w).alloc (Nat.le_refl _) (.cells #[.int .i64 0, .int .u64 0, .int .u64 0, .int .i64 0] 121)).alloc (by simp) (.cells #[.int .i64 0, .int .u64 0, .int .u64 0, .int .i64 0] 121))
  obtain ⟨v0, v1⟩ := gvIn8 (e := 0) hb
  obtain ⟨hb1, hl1⟩ := gl_sub (W := 1) (e := 0) hb
  have hp1 := gp_in (W := 1) (l := l) (e := 0) (p := 0) (m := 0) (by omega)
  have k1 := fun w rs => getAny8 r g l 0 0 w rs (by omega) (by omega)
  obtain ⟨F, HF⟩ : ∃ F, Hid (gv 1 l 0 = F) := ⟨_, rfl⟩
  obtain ⟨l1, Hl1⟩ : ∃ x, Hid (gl 1 l 0 = x) := ⟨_, rfl⟩
  obtain ⟨p1, Hp1⟩ : ∃ x, Hid (gp 1 l 0 0 = x) := ⟨_, rfl⟩
  obtain ⟨e1, He1⟩ : ∃ x, Hid (ge 1 l 0 = x) := ⟨_, rfl⟩
  rw [HF.out] at v0 v1
  simp only [HF.out, Hl1.out, Hp1.out, He1.out] at k1
  rw [Hl1.out] at hb1 hl1
  rw [Hp1.out] at hp1
  obtain ⟨u0, u1⟩ := gvIn8 (e := e1) hb1
  obtain ⟨hb2, hl2⟩ := gl_sub (W := 1) (e := e1) hb1
  have hp2 := gp_in (W := 1) (l := l1) (e := e1) (p := p1) (m := 1) (by omega)
  have k2 := fun w rs => getAny8 r g l1 p1 e1 w rs (by omega) (by omega)
  obtain ⟨B, HB⟩ : ∃ F, Hid (gv 1 l1 e1 = F) := ⟨_, rfl⟩
  obtain ⟨l2, Hl2⟩ : ∃ x, Hid (gl 1 l1 e1 = x) := ⟨_, rfl⟩
  obtain ⟨p2, Hp2⟩ : ∃ x, Hid (gp 1 l1 e1 p1 = x) := ⟨_, rfl⟩
  obtain ⟨e2, He2⟩ : ∃ x, Hid (ge 1 l1 e1 = x) := ⟨_, rfl⟩
  rw [HB.out] at u0 u1
  simp only [HB.out, Hl2.out, Hp2.out, He2.out] at k2
  rw [Hl2.out] at hb2 hl2
  rw [Hp2.out] at hp2
  have hF2 : Hid (rdF l = F) := HF
  have HRd : Hid (rdB l = B ∧ rdl l = l2 ∧ rdp l = p2 ∧ rde l = e2) := by
    show _ ∧ _ ∧ _ ∧ _
    unfold rdB rdl rdp rde
    rw [Hl1.out, He1.out, Hp1.out]
    exact ⟨HB.out, Hl2.out, Hp2.out, He2.out⟩
  clear HF Hl1 Hp1 He1 HB Hl2 Hp2 He2 h
  go_enter Tryz.func133, Tryz.ntmps133
  go_wp2_with fail
  refine (k1 _ rs).mono ?_
  rintro e w1 ⟨rfl, rs, ho⟩
  clear k1
  replace m0 := m0.only ho (by omega)
  replace m1 := m1.only ho (by omega)
  replace B0 := bel_only B0 ho (Nat.le_refl _)
  clear ho
  have c0 := m1.c0
  have f0 := m1.fz 0
  replace m0 := m0.other (g' := w.heap.size + 1) (by omega) 0 (.int .i64 F)
  have m2 := m1.set0 F
  replace rs := rs.other (q := w.heap.size + 1) (w' := w1.setCell ⟨w.heap.size + 1, 0, none⟩ (.int .i64 F)) (fun k hk => Below.heap_setCell _ _ _ _ hk) (by omega) (by omega)
  replace B0 := B0.setCell (p := ⟨w.heap.size + 1, 0, none⟩) (by show r ≤ w.heap.size + 1; omega) (.int .i64 F)
  go_wp2_with fail
  clear c0 f0 m1
  generalize w1.setCell ⟨w.heap.size + 1, 0, none⟩ (.int .i64 F) = w1 at *
  have m1 := m2
  clear m2
  refine (k2 _ rs).mono ?_
  rintro e w2 ⟨rfl, rs, ho⟩
  clear k2
  replace m0 := m0.only ho (by omega)
  replace m1 := m1.only ho (by omega)
  replace B0 := bel_only B0 ho (Nat.le_refl _)
  clear ho
  have c3 := m1.c3
  have f3 := m1.fz 3
  replace m0 := m0.other (g' := w.heap.size + 1) (by omega) 3 (.int .i64 B)
  have m2 := m1.set3 B
  replace rs := rs.other (q := w.heap.size + 1) (w' := w2.setCell ⟨w.heap.size + 1, 3, none⟩ (.int .i64 B)) (fun k hk => Below.heap_setCell _ _ _ _ hk) (by omega) (by omega)
  replace B0 := B0.setCell (p := ⟨w.heap.size + 1, 3, none⟩) (by show r ≤ w.heap.size + 1; omega) (.int .i64 B)
  have c0 := m2.c0
  by_cases h4 : F = 4
  · subst h4
    obtain ⟨x0, x1⟩ := gvIn32 (e := e2) hb2
    have k3 := fun w rs => getAny32 r g l2 p2 e2 w rs (by omega) (by omega)
    go_wp2_with fail
    clear c0 c3 f3 m1
    generalize w2.setCell ⟨w.heap.size + 1, 3, none⟩ (.int .i64 B) = w2 at *
    have m1 := m2
    clear m2
    refine (k3 _ rs).mono ?_
    rintro e w3 ⟨rfl, rs, ho⟩
    clear k3
    replace m0 := m0.only ho (by omega)
    replace m1 := m1.only ho (by omega)
    replace B0 := bel_only B0 ho (Nat.le_refl _)
    clear ho
    have HV : Hid (rdL l = gv 4 l2 e2 ∧ rdH l = 0 ∧ rdP l = gp 4 l2 e2 p2 ∧ rdE l = ge 4 l2 e2) := by
      show _ ∧ _ ∧ _ ∧ _
      unfold rdL rdH rdP rdE
      rw [hF2.out, HRd.out.2.1, HRd.out.2.2.1, HRd.out.2.2.2, if_pos rfl, if_pos rfl, if_pos rfl, if_pos rfl]
      exact ⟨rfl, rfl, rfl, rfl⟩
    generalize gv 4 l2 e2 = V at *
    generalize gl 4 l2 e2 = l3 at *
    generalize gp 4 l2 e2 p2 = p3 at *
    generalize ge 4 l2 e2 = e3 at *
    have c2 := m1.c2
    have f2 := m1.fz 2
    replace m0 := m0.other (g' := w.heap.size + 1) (by omega) 2 (.int .u64 V)
    have m2 := m1.set2 V
    replace rs := rs.other (q := w.heap.size + 1) (w' := w3.setCell ⟨w.heap.size + 1, 2, none⟩ (.int .u64 V)) (fun k hk => Below.heap_setCell _ _ _ _ hk) (by omega) (by omega)
    replace B0 := B0.setCell (p := ⟨w.heap.size + 1, 2, none⟩) (by show r ≤ w.heap.size + 1; omega) (.int .u64 V)
    have d0 := m2.c0
    have d1 := m2.c1
    have d2 := m2.c2
    have d3 := m2.c3
    go_wp2_with (refine wpList_spx rfl rfl _ _ rfl w.heap.size 4 0 V B rfl rfl _ _ _ _ m0 ?_)
    refine bodyPost_ret (v := .agg #[.int .i64 4, .int .u64 0, .int .u64 V, .int .i64 B]) ?_ rfl ⟨?_, ⟨l3, ?_⟩, bel_row B0 (by omega) _⟩
    · exact results_cell_row rfl _ _ w.heap.size 121 _ (0, 0) _ rfl (m0.row _ _ _ _) Tryz.underlying121 rfl sizep
    · rw [hF2.out, HRd.out.1, HV.out.1, HV.out.2.1]
    · rw [HV.out.2.2.1, HV.out.2.2.2]
      exact rs.other (q := w.heap.size) (fun k hk => setRow_other _ _ _ _ hk) (by omega) (by omega)
  · have e4 : (F == 4) = false := by simpa using h4
    obtain ⟨x0, x1⟩ := gvIn64 (e := e2) hb2
    obtain ⟨hb3, hl3⟩ := gl_sub (W := 8) (e := e2) hb2
    have hp3 := gp_in (W := 8) (l := l2) (e := e2) (p := p2) (m := 2) (by omega)
    have k3 := fun w rs => getAny64 r g l2 p2 e2 w rs (by omega) (by omega)
    go_wp2_with fail
    clear c0 c3 f3 m1
    generalize w2.setCell ⟨w.heap.size + 1, 3, none⟩ (.int .i64 B) = w2 at *
    have m1 := m2
    clear m2
    refine (k3 _ rs).mono ?_
    rintro e w3 ⟨rfl, rs, ho⟩
    clear k3
    replace m0 := m0.only ho (by omega)
    replace m1 := m1.only ho (by omega)
    replace B0 := bel_only B0 ho (Nat.le_refl _)
    clear ho
    have HV : Hid (rdH l = gv 8 l2 e2 ∧ rdL l = gv 8 (gl 8 l2 e2) (ge 8 l2 e2) ∧ rdP l = gp 8 (gl 8 l2 e2) (ge 8 l2 e2) (gp 8 l2 e2 p2) ∧ rdE l = ge 8 (gl 8 l2 e2) (ge 8 l2 e2)) := by
      show _ ∧ _ ∧ _ ∧ _
      unfold rdL rdH rdP rdE
      rw [hF2.out, HRd.out.2.1, HRd.out.2.2.1, HRd.out.2.2.2, if_neg h4, if_neg h4, if_neg h4, if_neg h4]
      exact ⟨rfl, rfl, rfl, rfl⟩
    generalize gv 8 l2 e2 = V at *
    generalize gl 8 l2 e2 = l3 at *
    generalize gp 8 l2 e2 p2 = p3 at *
    generalize ge 8 l2 e2 = e3 at *
    obtain ⟨y0, y1⟩ := gvIn64 (e := e3) hb3
    have k4 := fun w rs => getAny64 r g l3 p3 e3 w rs (by omega) (by omega)
    generalize gv 8 l3 e3 = U at *
    generalize gl 8 l3 e3 = l4 at *
    generalize gp 8 l3 e3 p3 = p4 at *
    generalize ge 8 l3 e3 = e5 at *
    have c1 := m1.c1
    have f1 := m1.fz 1
    replace m0 := m0.other (g' := w.heap.size + 1) (by omega) 1 (.int .u64 V)
    have m2 := m1.set1 V
    replace rs := rs.other (q := w.heap.size + 1) (w' := w3.setCell ⟨w.heap.size + 1, 1, none⟩ (.int .u64 V)) (fun k hk => Below.heap_setCell _ _ _ _ hk) (by omega) (by omega)
    replace B0 := B0.setCell (p := ⟨w.heap.size + 1, 1, none⟩) (by show r ≤ w.heap.size + 1; omega) (.int .u64 V)
    go_wp2_with fail
    clear c1 f1 m1
    generalize w3.setCell ⟨w.heap.size + 1, 1, none⟩ (.int .u64 V) = w3 at *
    have m1 := m2
    clear m2
    refine (k4 _ rs).mono ?_
    rintro e w4 ⟨rfl, rs, ho⟩
    clear k4
    replace m0 := m0.only ho (by omega)
    replace m1 := m1.only ho (by omega)
    replace B0 := bel_only B0 ho (Nat.le_refl _)
    clear ho
    have c2 := m1.c2
    have f2 := m1.fz 2
    replace m0 := m0.other (g' := w.heap.size + 1) (by omega) 2 (.int .u64 U)
    have m2 := m1.set2 U
    replace rs := rs.other (q := w.heap.size + 1) (w' := w4.setCell ⟨w.heap.size + 1, 2, none⟩ (.int .u64 U)) (fun k hk => Below.heap_setCell _ _ _ _ hk) (by omega) (by omega)
    replace B0 := B0.setCell (p := ⟨w.heap.size + 1, 2, none⟩) (by show r ≤ w.heap.size + 1; omega) (.int .u64 U)
    have d0 := m2.c0
    have d1 := m2.c1
    have d2 := m2.c2
    have d3 := m2.c3
    go_wp2_with (refine wpList_spx rfl rfl _ _ rfl w.heap.size F V U B rfl rfl _ _ _ _ m0 ?_)
    refine bodyPost_ret (v := .agg #[.int .i64 F, .int .u64 V, .int .u64 U, .int .i64 B]) ?_ rfl ⟨?_, ⟨l4, ?_⟩, bel_row B0 (by omega) _⟩
    · exact results_cell_row rfl _ _ w.heap.size 121 _ (0, 0) _ rfl (m0.row _ _ _ _) Tryz.underlying121 rfl sizep
    · rw [hF2.out, HRd.out.1, HV.out.1, HV.out.2.1]
    · rw [HV.out.2.2.1, HV.out.2.2.2]
      exact rs.other (q := w.heap.size) (fun k hk => setRow_other _ _ _ _ hk) (by omega) (by omega)
end Go.Proofs.YtcbmgpmjnehjdaaGreat
namespace Go.Proofs.YtcbmgpmjnehjdaaGreat
set_option maxRecDepth 100000
open Go.RowKit
set_option linter.unusedVariables false

theorem val_nil : val [] = 0 := rfl
theorem val_one (a : Int) : val [a] = a := by rw [val_cons, val_nil]; simp
theorem rd_two (a b : Int) (s : List Int) : rdF (a :: b :: s) = a ∧ rdB (a :: b :: s) = b ∧ rdl (a :: b :: s) = s ∧ rde (a :: b :: s) = 0 ∧ rdp (a :: b :: s) = 2 := by
  obtain ⟨e1, e2, e3, e4⟩ := g_yes (W := 1) (l := a :: b :: s) (p := 0) (by simp)
  obtain ⟨f1, f2, f3, f4⟩ := g_yes (W := 1) (l := b :: s) (p := 0 + 1) (by simp)
  unfold rdF rdB rdl rde rdp
  rw [e1, e2, e3, e4]
  show _ ∧ gv 1 (b :: s) 0 = b ∧ gl 1 (b :: s) 0 = s ∧ ge 1 (b :: s) 0 = 0 ∧ gp 1 (b :: s) 0 (0 + (1 : Nat)) = 2
  have f3' : gp 1 (b :: s) 0 (0 + (1 : Nat)) = 2 := f3
  rw [f1, f2, f4, f3']
  exact ⟨val_one a, val_one b, rfl, rfl, rfl⟩
theorem rd_bad {l : List Int} (h : rde l ≠ 0) : rdE l ≠ 0 := by
  unfold rdE
  split
  · rw [(g_bad (W := 4) (l := rdl l) (p := 0) h).2.2.2]; exact h
  · have e := (g_bad (W := 8) (l := rdl l) (p := 0) h).2.2.2
    rw [e, (g_bad (W := 8) (l := gl 8 (rdl l) (rde l)) (p := 0) h).2.2.2]
    exact h
theorem rd_few {l : List Int} (h : l.length < 2) : rdE l ≠ 0 := by
  refine rd_bad ?_
  unfold rde
  match l, h with
  | [], _ =>
    have e1 : ge 1 ([] : List Int) 0 = 10 := by decide
    rw [e1, (g_bad (W := 1) (l := gl 1 ([] : List Int) 0) (p := 0) (e := 10) (by decide)).2.2.2]
    decide
  | [a], _ =>
    obtain ⟨_, e2, _, e4⟩ := g_yes (W := 1) (l := [a]) (p := 0) (by simp)
    rw [e2, e4]
    show ge 1 ([] : List Int) 0 ≠ 0
    decide
theorem val_app (x y : List Int) : val (x ++ y) = val x * 256 ^ y.length + val y := by
  have := fold_val y (val x)
  unfold val at *
  rw [List.foldl_append, this]
theorem ah_four {S : List Int} (hb : ∀ z ∈ S, 0 ≤ z ∧ z ≤ 255) (h : S.length = 4) : ah S = 0 ∧ al S = val S := by
  have := val_bound S hb
  rw [h] at this
  have e : (256 : Int) ^ 4 = 4294967296 := by decide
  rw [e] at this
  unfold ah al
  omega
theorem ah_16 {S : List Int} (hb : ∀ z ∈ S, 0 ≤ z ∧ z ≤ 255) (h : S.length = 16) : ah S = val (S.take 8) ∧ al S = val (S.drop 8) := by
  have h1 := val_app (S.take 8) (S.drop 8)
  rw [List.take_append_drop] at h1
  have hl : (S.drop 8).length = 8 := by rw [List.length_drop, h]
  have h2 := val_bound (S.drop 8) (fun z hz => hb z (List.mem_of_mem_drop hz))
  rw [hl] at h1 h2
  have e : (256 : Int) ^ 8 = 18446744073709551616 := by decide
  rw [e] at h1 h2
  unfold ah al
  rw [h1]
  omega
/-- What read says of a list's beginning is what Get says of the list. -/
theorem rd_gk (zs : List Int) (hb : ∀ z ∈ zs, 0 ≤ z ∧ z ≤ 255) :
    (decide (rdE (zs.take 18) = 0) && vp (rdF (zs.take 18)) (rdH (zs.take 18)) (rdL (zs.take 18)) (rdB (zs.take 18))) = gk zs ∧
    (gk zs = true → rdF (zs.take 18) = g0 zs ∧ rdH (zs.take 18) = ah (gs7 zs) ∧ rdL (zs.take 18) = al (gs7 zs) ∧ rdB (zs.take 18) = zs.getD 1 0 ∧ rdP (zs.take 18) = ((2 + gm zs : Nat) : Int)) := by
  by_cases h2 : zs.length < 2
  · have e : gk zs = false := by unfold gk; rw [decide_eq_false (by omega), Bool.false_and]
    rw [e, decide_eq_false (rd_few (by rw [List.length_take]; omega)), Bool.false_and]
    exact ⟨rfl, fun h => by cases h⟩
  · match zs, h2 with
    | [], h => simp at h
    | [a], h => simp at h
    | a :: b :: t, _ =>
      have hbt : ∀ z ∈ t, 0 ≤ z ∧ z ≤ 255 := fun z hz => hb z (by simp [hz])
      have el : (a :: b :: t).take 18 = a :: b :: t.take 16 := rfl
      rw [el]
      obtain ⟨e1, e2, e3, e4, e5⟩ := rd_two a b (t.take 16)
      have g1 : g0 (a :: b :: t) = a := rfl
      have g2 : (a :: b :: t).getD 1 0 = b := rfl
      have g3 : (a :: b :: t).length = t.length + 2 := rfl
      have g4 : gm (a :: b :: t) = nb a / 8 := rfl
      have g5 : gs7 (a :: b :: t) = t.take (nb a / 8) := rfl
      unfold gk rdE rdH rdL rdP
      rw [e1, e2, e3, e4, e5, g1, g2, g3, g4, g5]
      by_cases h4 : a = 4
      · subst h4
        rw [if_pos rfl, if_pos rfl, if_pos rfl, if_pos rfl, show nb 4 / 8 = 4 from rfl]
        by_cases hl : 4 ≤ t.length
        · have hl' : 4 ≤ (t.take 16).length := by rw [List.length_take]; omega
          obtain ⟨y1, y2, y3, y4⟩ := g_yes (W := 4) (l := t.take 16) (p := 2) hl'
          have et : (t.take 16).take 4 = t.take 4 := by rw [List.take_take]; rfl
          obtain ⟨s1, s2⟩ := ah_four (S := t.take 4) (fun z hz => hbt z (List.mem_of_mem_take hz)) (by rw [List.length_take]; omega)
          rw [y1, y3, y4, et, s1, s2, decide_eq_true rfl, decide_eq_true (by omega)]
          exact ⟨rfl, fun _ => ⟨rfl, rfl, rfl, rfl, rfl⟩⟩
        · have hl' : (t.take 16).length < 4 := by rw [List.length_take]; omega
          obtain ⟨y1, y2, y3, y4⟩ := g_no (W := 4) (l := t.take 16) (p := 2) hl'
          rw [y4, decide_eq_false (by decide), Bool.false_and, decide_eq_false (by omega), Bool.false_and]
          exact ⟨rfl, fun h => by cases h⟩
      · rw [if_neg h4, if_neg h4, if_neg h4, if_neg h4]
        by_cases h6 : a = 6
        · subst h6
          rw [show nb 6 / 8 = 16 from rfl]
          by_cases hl : 16 ≤ t.length
          · have hl' : (t.take 16).length = 16 := by rw [List.length_take]; omega
            obtain ⟨y1, y2, y3, y4⟩ := g_yes (W := 8) (l := t.take 16) (p := 2) (by omega)
            rw [y1, y2, y3, y4]
            obtain ⟨x1, x2, x3, x4⟩ := g_yes (W := 8) (l := (t.take 16).drop 8) (p := 2 + 8) (by rw [List.length_drop]; omega)
            have x3' : gp 8 ((t.take 16).drop 8) 0 (2 + (8 : Nat)) = 18 := x3
            have et : ((t.take 16).drop 8).take 8 = (t.take 16).drop 8 := List.take_of_length_le (by rw [List.length_drop]; omega)
            obtain ⟨s1, s2⟩ := ah_16 (S := t.take 16) (fun z hz => hbt z (List.mem_of_mem_take hz)) hl'
            rw [x1, x3', x4, et, s1, s2, decide_eq_true rfl, decide_eq_true (by omega)]
            exact ⟨rfl, fun _ => ⟨rfl, rfl, rfl, rfl, rfl⟩⟩
          · have hE : ge 8 (gl 8 (t.take 16) 0) (ge 8 (t.take 16) 0) ≠ 0 := by
              by_cases h8 : 8 ≤ (t.take 16).length
              · obtain ⟨y1, y2, y3, y4⟩ := g_yes (W := 8) (l := t.take 16) (p := 2) h8
                rw [y2, y4, (g_no (W := 8) (l := (t.take 16).drop 8) (p := 2) (by rw [List.length_drop, List.length_take]; omega)).2.2.2]
                decide
              · obtain ⟨y1, y2, y3, y4⟩ := g_no (W := 8) (l := t.take 16) (p := 2) (by omega)
                rw [y2, y4, (g_bad (W := 8) (l := t.take 16) (p := 2) (e := 10) (by decide)).2.2.2]
                decide
            rw [decide_eq_false hE, Bool.false_and, decide_eq_false (by omega), Bool.false_and]
            exact ⟨rfl, fun h => by cases h⟩
        · have hv : ∀ H L, va a H L = false := fun H L => decide_eq_false (by omega)
          rw [show nb a = 0 from by unfold nb; rw [if_neg h4, if_neg h6]]
          have hvp : ∀ H L, vp a H L b = false := fun H L => va_out (hv H L) b
          rw [hvp, Bool.and_false, hvp, Bool.and_false]
          exact ⟨rfl, fun h => by cases h⟩
end Go.Proofs.YtcbmgpmjnehjdaaGreat
namespace Go.Proofs.YtcbmgpmjnehjdaaGreat
set_option maxRecDepth 100000
open Go.RowKit
set_option linter.unusedVariables false

theorem Bs.cut {w : World} {a : Option Addr} {n m : Nat} {zs : List Int} (h : Bs w a n zs) (hm : m ≤ n) : Bs w a m (zs.take m) := by
  refine ⟨by rw [List.length_take, h.1]; omega, fun z hz => h.2.1 z (List.mem_of_mem_take hz), ?_⟩
  rcases h.2.2 with h0 | ⟨b, off, rfl, hc⟩
  · exact .inl (by omega)
  · refine .inr ⟨b, off, rfl, fun i hi => ?_⟩
    rw [hc i (by omega)]
    simp only [List.getD, List.getElem?_take, if_pos hi]
theorem rd_in {l : List Int} (hb : ∀ z ∈ l, 0 ≤ z ∧ z ≤ 255) : InI (rdF l) ∧ InU (rdH l) ∧ InU (rdL l) ∧ InI (rdB l) := by
  have f := gvIn8 (e := 0) hb
  have h1 := (gl_sub (W := 1) (e := 0) hb).1
  have b := gvIn8 (e := ge 1 l 0) h1
  have h2 := (gl_sub (W := 1) (e := ge 1 l 0) h1).1
  have x4 := gvIn32 (e := rde l) h2
  have x8 := gvIn64 (e := rde l) h2
  have h3 := (gl_sub (W := 8) (e := rde l) h2).1
  have y8 := gvIn64 (e := ge 8 (rdl l) (rde l)) h3
  refine ⟨?_, ?_, ?_, ?_⟩
  · unfold InI rdF; omega
  · unfold InU rdH
    split
    · omega
    · exact x8
  · unfold InU rdL
    split
    · exact ⟨x4.1, by have := x4.2; unfold rdl at *; omega⟩
    · exact y8
  · unfold InI rdB; omega
/-- A new reader, all its memory new: its bytes lie below it. -/
theorem newReader7 (a : Option Addr) (n c : Nat) (zs : List Int) (w : World) (hb : Bs w a n zs) (ha : a = none → c = 0) (hn : n ≤ 140737488351232) (hnc : n ≤ c) (h0 : 0 < w.heap.size) :
    Calls Tryz.prog 89 #[.slice a n c] w fun en w' => ∃ r g, en = .returned (.pointer (some ⟨r, 0, none⟩)) ∧ RS w' r g zs 0 0 ∧ w.heap.size ≤ r ∧ g < r ∧ Below w.heap.size w w' := by
  cases a with
  | none =>
    obtain rfl : c = 0 := ha rfl
    obtain rfl : n = 0 := by omega
    obtain rfl : zs = [] := List.eq_nil_of_length_eq_zero hb.1
    refine (newReader_nil w).mono ?_
    rintro en w' ⟨rfl, rfl⟩
    exact ⟨w.heap.size, 0, rfl, .inl ⟨rfl, by omega, none, 0, 0, heap_alloc_new w _, rfl, Nat.le_refl _, by unfold maxLen; omega, by simp, .inl ⟨rfl, rfl, rfl⟩⟩, Nat.le_refl _, h0, (Below.refl _ _).alloc (Nat.le_refl _) _⟩
  | some x =>
    refine (newReader_some x n c zs w hb hn).mono ?_
    rintro en w' ⟨g, cap, cur, w1, rfl, hbg, hgg, hnc', hcm, hcs, ht, hg, rfl⟩
    have hs := hg.size
    have hlt : g < w1.heap.size := (Array.getElem?_eq_some_iff.1 hgg).1
    refine ⟨w1.heap.size, g, rfl, .inl ⟨rfl, by omega, some ⟨g, 0, none⟩, n, cap, heap_alloc_new w1 _, hb.1, hnc', hcm, hb.2.1, .inr ⟨0, cur, rfl, ?_, by omega, ?_⟩⟩, hs, hlt, (below_of_grown hg).alloc hs _⟩
    · rw [Below.heap_alloc w1 _ g hlt]; exact hgg
    · simpa using ht
set_option maxHeartbeats 1000000 in
theorem get_le (a : Option Addr) (n c : Nat) (zs : List Int) (w : World) (hb : Bs w a n zs) (hnc : n ≤ c) (hcm : c ≤ maxLen) (ha : a = none → c = 0) (h0 : 0 < w.heap.size) (hn18 : n ≤ 18) :
    Calls Tryz.prog 95 #[.slice a n c] w fun e w' => e = .returned (.tuple #[.agg #[.int .i64 (qF zs), .int .u64 (qH zs), .int .u64 (qL zs), .int .i64 (qB zs)], .int .i64 (qN zs), .int .i64 (qE zs)]) ∧ Below w.heap.size w w' := by
  have hm : min n 18 ≤ n := Nat.min_le_left _ _
  have hz : zs.take (min n 18) = zs.take 18 := by
    rw [← hb.1]
    by_cases h : zs.length ≤ 18
    · rw [Nat.min_eq_left h, List.take_of_length_le (Nat.le_refl _), List.take_of_length_le h]
    · rw [Nat.min_eq_right (by omega)]
  have b1 := hb.cut hm
  rw [hz] at b1
  have hbyte := b1.2.1
  have hlen : (zs.take 18).length ≤ 18 := by rw [List.length_take]; omega
  obtain ⟨r1, r2⟩ := rd_gk zs hb.2.1
  obtain ⟨i1, i2, i3, i4⟩ := rd_in hbyte
  have k1 := fun w b1 h0 => newReader7 a (min n 18) c (zs.take 18) w b1 ha (by omega) (by omega) h0
  have k2 := fun r g w h hgr => read_ r g (zs.take 18) w h hlen hbyte hgr
  have k3 := fun r g l w h => errAny r g l (rdP (zs.take 18)) (rdE (zs.take 18)) w h
  have k4 := fun w => pvalid_ (rdF (zs.take 18)) (rdH (zs.take 18)) (rdL (zs.take 18)) (rdB (zs.take 18)) w i1 i2 i3 i4
  have hmin : (min (n : Int) 18) = (n : Int) := by omega
  have hmin2 : min n 18 = n := by omega
  rw [hmin2] at k1 b1
  have hi18 : (n : Int) ≤ 18 := by omega
  have hi19 : ¬ (18 : Int) < (n : Int) := by omega
  unfold maxLen at hcm
  have m0 := Pm.new w 0 0 0 0
  have B0 := pnew w 0 0 0 0
  replace b1 := b1.below B0
  have HG : Hid ((decide (rdE (zs.take 18) = 0) && vp (rdF (zs.take 18)) (rdH (zs.take 18)) (rdL (zs.take 18)) (rdB (zs.take 18))) = gk zs) := r1
  have HQ : Hid (gk zs = true → qF zs = rdF (zs.take 18) ∧ qH zs = rdH (zs.take 18) ∧ qL zs = rdL (zs.take 18) ∧ qB zs = rdB (zs.take 18) ∧ qN zs = rdP (zs.take 18) ∧ qE zs = 0) := fun h => by
    obtain ⟨a1, a2, a3, a4, a5, a6⟩ := q7_good h
    obtain ⟨c1, c2, c3, c4, c5⟩ := r2 h
    rw [a1, a2, a3, a4, a5, a6, c1, c2, c3, c4, c5]
    exact ⟨rfl, rfl, rfl, rfl, rfl, rfl⟩
  have HB := hid (q7_bad (l := zs))
  clear r1 r2 hz hm hbyte hlen
  generalize rdF (zs.take 18) = F at *
  generalize rdH (zs.take 18) = H at *
  generalize rdL (zs.take 18) = L at *
  generalize rdB (zs.take 18) = B at *
  generalize rdP (zs.take 18) = P at *
  generalize rdE (zs.take 18) = E at *
  generalize zs.take 18 = l at *
  go_enter Tryz.func95, Tryz.ntmps95
  go_wp2_with fail
  refine (k1 _ b1 (by simp)).mono ?_
  rintro e w1 ⟨r, g, rfl, rs, hr, hgr, g2⟩
  rw [World.size_alloc] at hr
  replace m0 := m0.kept g2
  replace B0 := bel_bel B0 B0.size g2
  clear g2 k1 b1 hb
  go_wp2_with fail
  refine (k2 r g _ rs hgr).mono ?_
  rintro e w2 ⟨rfl, ⟨l', rs'⟩, g2⟩
  replace m0 := m0.at (g2.block _ (by omega))
  replace B0 := B0.trans (g2.mono (by omega))
  clear g2 k2 rs
  have m1 := Pm.new w2 F H L B
  have hw2 := m0.lt
  replace m0 := m0.alloc (.cells #[.int .i64 F, .int .u64 H, .int .u64 L, .int .i64 B] 121)
  replace rs' := rs'.kept ((Below.refl _ w2).alloc (Nat.le_refl _) (.cells #[.int .i64 F, .int .u64 H, .int .u64 L, .int .i64 B] 121))
  replace B0 := B0.alloc B0.size (.cells #[.int .i64 F, .int .u64 H, .int .u64 L, .int .i64 B] 121)
  go_wp2_with fail
  refine (k3 r g l' _ rs').mono ?_
  rintro e w3 ⟨rfl, nq, rfl⟩
  clear k3 rs'
  replace m0 : Pm ((w2.alloc (.cells #[.int .i64 F, .int .u64 H, .int .u64 L, .int .i64 B] 121)).drewN nq) w.heap.size 0 0 0 0 := m0
  replace m1 : Pm ((w2.alloc (.cells #[.int .i64 F, .int .u64 H, .int .u64 L, .int .i64 B] 121)).drewN nq) w2.heap.size F H L B := m1
  replace B0 := bel_drawn B0 nq
  generalize (w2.alloc (.cells #[.int .i64 F, .int .u64 H, .int .u64 L, .int .i64 B] 121)).drewN nq = w3 at *
  generalize w2.heap.size = gq at *
  have d0 := m1.c0
  have d1 := m1.c1
  have d2 := m1.c2
  have d3 := m1.c3
  by_cases hE : E = 0
  · subst hE
    go_wp2_with fail
    clear d0 d1 d2 d3
    refine (k4 _).mono ?_
    rintro e w4 ⟨rfl, g2⟩
    replace m0 := m0.kept g2
    replace m1 := m1.kept g2
    replace B0 := bel_bel B0 B0.size g2
    clear g2 k4
    cases hv : vp F H L B with
    | false =>
      have HE := hid (HB.out (by rw [← HG.out, hv]; rfl))
      clear hv HB HQ HG
      go_wp2_with (refine wpList_spx rfl rfl _ _ rfl w.heap.size 0 0 0 0 rfl rfl _ _ _ _ m0 ?_)
      refine bodyPost_ret (v := .tuple #[.agg #[.int .i64 0, .int .u64 0, .int .u64 0, .int .i64 0], .int .i64 0, .int .i64 70]) ?_ rfl ⟨?_, bel_row B0 (Nat.le_refl _) _⟩
      · exact results_p3 rfl _ _ w.heap.size 0 0 0 0 _ _ rfl rfl rfl (m0.row _ _ _ _)
      · rw [HE.out.1, HE.out.2.1, HE.out.2.2.1, HE.out.2.2.2.1, HE.out.2.2.2.2.1, HE.out.2.2.2.2.2]
    | true =>
      have HE := hid (HQ.out (by rw [← HG.out, hv]; rfl))
      have d0 := m1.c0
      have d1 := m1.c1
      have d2 := m1.c2
      have d3 := m1.c3
      clear hv HB HQ HG
      go_wp2_with (refine wpList_spx rfl rfl _ _ rfl w.heap.size F H L B rfl rfl _ _ _ _ m0 ?_)
      refine bodyPost_ret (v := .tuple #[.agg #[.int .i64 F, .int .u64 H, .int .u64 L, .int .i64 B], .int .i64 P, .int .i64 0]) ?_ rfl ⟨?_, bel_row B0 (Nat.le_refl _) _⟩
      · exact results_p3 rfl _ _ w.heap.size F H L B _ _ rfl rfl rfl (m0.row _ _ _ _)
      · rw [HE.out.1, HE.out.2.1, HE.out.2.2.1, HE.out.2.2.2.1, HE.out.2.2.2.2.1, HE.out.2.2.2.2.2]
  · have HE := hid (HB.out (by rw [← HG.out, decide_eq_false hE, Bool.false_and]))
    clear HB HQ HG
    go_wp2_with (refine wpList_spx rfl rfl _ _ rfl w.heap.size 0 0 0 0 rfl rfl _ _ _ _ m0 ?_)
    refine bodyPost_ret (v := .tuple #[.agg #[.int .i64 0, .int .u64 0, .int .u64 0, .int .i64 0], .int .i64 0, .int .i64 70]) ?_ rfl ⟨?_, bel_row B0 (Nat.le_refl _) _⟩
    · exact results_p3 rfl _ _ w.heap.size 0 0 0 0 _ _ rfl rfl rfl (m0.row _ _ _ _)
    · rw [HE.out.1, HE.out.2.1, HE.out.2.2.1, HE.out.2.2.2.1, HE.out.2.2.2.2.1, HE.out.2.2.2.2.2]
set_option maxHeartbeats 1000000 in
theorem get_gt (a : Option Addr) (n c : Nat) (zs : List Int) (w : World) (hb : Bs w a n zs) (hnc : n ≤ c) (hcm : c ≤ maxLen) (ha : a = none → c = 0) (h0 : 0 < w.heap.size) (hn18 : 18 < n) :
    Calls Tryz.prog 95 #[.slice a n c] w fun e w' => e = .returned (.tuple #[.agg #[.int .i64 (qF zs), .int .u64 (qH zs), .int .u64 (qL zs), .int .i64 (qB zs)], .int .i64 (qN zs), .int .i64 (qE zs)]) ∧ Below w.heap.size w w' := by
  have hm : min n 18 ≤ n := Nat.min_le_left _ _
  have hz : zs.take (min n 18) = zs.take 18 := by
    rw [← hb.1]
    by_cases h : zs.length ≤ 18
    · rw [Nat.min_eq_left h, List.take_of_length_le (Nat.le_refl _), List.take_of_length_le h]
    · rw [Nat.min_eq_right (by omega)]
  have b1 := hb.cut hm
  rw [hz] at b1
  have hbyte := b1.2.1
  have hlen : (zs.take 18).length ≤ 18 := by rw [List.length_take]; omega
  obtain ⟨r1, r2⟩ := rd_gk zs hb.2.1
  obtain ⟨i1, i2, i3, i4⟩ := rd_in hbyte
  have k1 := fun w b1 h0 => newReader7 a (min n 18) c (zs.take 18) w b1 ha (by omega) (by omega) h0
  have k2 := fun r g w h hgr => read_ r g (zs.take 18) w h hlen hbyte hgr
  have k3 := fun r g l w h => errAny r g l (rdP (zs.take 18)) (rdE (zs.take 18)) w h
  have k4 := fun w => pvalid_ (rdF (zs.take 18)) (rdH (zs.take 18)) (rdL (zs.take 18)) (rdB (zs.take 18)) w i1 i2 i3 i4
  have hmin : (min (n : Int) 18) = (18 : Int) := by omega
  have hmin2 : min n 18 = 18 := by omega
  rw [hmin2] at k1 b1
  have hi18 : ¬ (n : Int) ≤ 18 := by omega
  have hi19 : (18 : Int) < (n : Int) := by omega
  unfold maxLen at hcm
  have m0 := Pm.new w 0 0 0 0
  have B0 := pnew w 0 0 0 0
  replace b1 := b1.below B0
  have HG : Hid ((decide (rdE (zs.take 18) = 0) && vp (rdF (zs.take 18)) (rdH (zs.take 18)) (rdL (zs.take 18)) (rdB (zs.take 18))) = gk zs) := r1
  have HQ : Hid (gk zs = true → qF zs = rdF (zs.take 18) ∧ qH zs = rdH (zs.take 18) ∧ qL zs = rdL (zs.take 18) ∧ qB zs = rdB (zs.take 18) ∧ qN zs = rdP (zs.take 18) ∧ qE zs = 0) := fun h => by
    obtain ⟨a1, a2, a3, a4, a5, a6⟩ := q7_good h
    obtain ⟨c1, c2, c3, c4, c5⟩ := r2 h
    rw [a1, a2, a3, a4, a5, a6, c1, c2, c3, c4, c5]
    exact ⟨rfl, rfl, rfl, rfl, rfl, rfl⟩
  have HB := hid (q7_bad (l := zs))
  clear r1 r2 hz hm hbyte hlen
  generalize rdF (zs.take 18) = F at *
  generalize rdH (zs.take 18) = H at *
  generalize rdL (zs.take 18) = L at *
  generalize rdB (zs.take 18) = B at *
  generalize rdP (zs.take 18) = P at *
  generalize rdE (zs.take 18) = E at *
  generalize zs.take 18 = l at *
  go_enter Tryz.func95, Tryz.ntmps95
  go_wp2_with fail
  refine (k1 _ b1 (by simp)).mono ?_
  rintro e w1 ⟨r, g, rfl, rs, hr, hgr, g2⟩
  rw [World.size_alloc] at hr
  replace m0 := m0.kept g2
  replace B0 := bel_bel B0 B0.size g2
  clear g2 k1 b1 hb
  go_wp2_with fail
  refine (k2 r g _ rs hgr).mono ?_
  rintro e w2 ⟨rfl, ⟨l', rs'⟩, g2⟩
  replace m0 := m0.at (g2.block _ (by omega))
  replace B0 := B0.trans (g2.mono (by omega))
  clear g2 k2 rs
  have m1 := Pm.new w2 F H L B
  have hw2 := m0.lt
  replace m0 := m0.alloc (.cells #[.int .i64 F, .int .u64 H, .int .u64 L, .int .i64 B] 121)
  replace rs' := rs'.kept ((Below.refl _ w2).alloc (Nat.le_refl _) (.cells #[.int .i64 F, .int .u64 H, .int .u64 L, .int .i64 B] 121))
  replace B0 := B0.alloc B0.size (.cells #[.int .i64 F, .int .u64 H, .int .u64 L, .int .i64 B] 121)
  go_wp2_with fail
  refine (k3 r g l' _ rs').mono ?_
  rintro e w3 ⟨rfl, nq, rfl⟩
  clear k3 rs'
  replace m0 : Pm ((w2.alloc (.cells #[.int .i64 F, .int .u64 H, .int .u64 L, .int .i64 B] 121)).drewN nq) w.heap.size 0 0 0 0 := m0
  replace m1 : Pm ((w2.alloc (.cells #[.int .i64 F, .int .u64 H, .int .u64 L, .int .i64 B] 121)).drewN nq) w2.heap.size F H L B := m1
  replace B0 := bel_drawn B0 nq
  generalize (w2.alloc (.cells #[.int .i64 F, .int .u64 H, .int .u64 L, .int .i64 B] 121)).drewN nq = w3 at *
  generalize w2.heap.size = gq at *
  have d0 := m1.c0
  have d1 := m1.c1
  have d2 := m1.c2
  have d3 := m1.c3
  by_cases hE : E = 0
  · subst hE
    go_wp2_with fail
    clear d0 d1 d2 d3
    refine (k4 _).mono ?_
    rintro e w4 ⟨rfl, g2⟩
    replace m0 := m0.kept g2
    replace m1 := m1.kept g2
    replace B0 := bel_bel B0 B0.size g2
    clear g2 k4
    cases hv : vp F H L B with
    | false =>
      have HE := hid (HB.out (by rw [← HG.out, hv]; rfl))
      clear hv HB HQ HG
      go_wp2_with (refine wpList_spx rfl rfl _ _ rfl w.heap.size 0 0 0 0 rfl rfl _ _ _ _ m0 ?_)
      refine bodyPost_ret (v := .tuple #[.agg #[.int .i64 0, .int .u64 0, .int .u64 0, .int .i64 0], .int .i64 0, .int .i64 70]) ?_ rfl ⟨?_, bel_row B0 (Nat.le_refl _) _⟩
      · exact results_p3 rfl _ _ w.heap.size 0 0 0 0 _ _ rfl rfl rfl (m0.row _ _ _ _)
      · rw [HE.out.1, HE.out.2.1, HE.out.2.2.1, HE.out.2.2.2.1, HE.out.2.2.2.2.1, HE.out.2.2.2.2.2]
    | true =>
      have HE := hid (HQ.out (by rw [← HG.out, hv]; rfl))
      have d0 := m1.c0
      have d1 := m1.c1
      have d2 := m1.c2
      have d3 := m1.c3
      clear hv HB HQ HG
      go_wp2_with (refine wpList_spx rfl rfl _ _ rfl w.heap.size F H L B rfl rfl _ _ _ _ m0 ?_)
      refine bodyPost_ret (v := .tuple #[.agg #[.int .i64 F, .int .u64 H, .int .u64 L, .int .i64 B], .int .i64 P, .int .i64 0]) ?_ rfl ⟨?_, bel_row B0 (Nat.le_refl _) _⟩
      · exact results_p3 rfl _ _ w.heap.size F H L B _ _ rfl rfl rfl (m0.row _ _ _ _)
      · rw [HE.out.1, HE.out.2.1, HE.out.2.2.1, HE.out.2.2.2.1, HE.out.2.2.2.2.1, HE.out.2.2.2.2.2]
  · have HE := hid (HB.out (by rw [← HG.out, decide_eq_false hE, Bool.false_and]))
    clear HB HQ HG
    go_wp2_with (refine wpList_spx rfl rfl _ _ rfl w.heap.size 0 0 0 0 rfl rfl _ _ _ _ m0 ?_)
    refine bodyPost_ret (v := .tuple #[.agg #[.int .i64 0, .int .u64 0, .int .u64 0, .int .i64 0], .int .i64 0, .int .i64 70]) ?_ rfl ⟨?_, bel_row B0 (Nat.le_refl _) _⟩
    · exact results_p3 rfl _ _ w.heap.size 0 0 0 0 _ _ rfl rfl rfl (m0.row _ _ _ _)
    · rw [HE.out.1, HE.out.2.1, HE.out.2.2.1, HE.out.2.2.2.1, HE.out.2.2.2.2.1, HE.out.2.2.2.2.2]
theorem pget_ (a : Option Addr) (n c : Nat) (zs : List Int) (w : World) (hb : Bs w a n zs) (hnc : n ≤ c) (hcm : c ≤ maxLen) (ha : a = none → c = 0) (h0 : 0 < w.heap.size) :
    Calls Tryz.prog 95 #[.slice a n c] w fun e w' => e = .returned (.tuple #[.agg #[.int .i64 (qF zs), .int .u64 (qH zs), .int .u64 (qL zs), .int .i64 (qB zs)], .int .i64 (qN zs), .int .i64 (qE zs)]) ∧ Below w.heap.size w w' := by
  by_cases h : n ≤ 18
  · exact get_le a n c zs w hb hnc hcm ha h0 h
  · exact get_gt a n c zs w hb hnc hcm ha h0 (by omega)
end Go.Proofs.YtcbmgpmjnehjdaaGreat
