import Derived.Test.YtjajcbjodokfnaaGreatDoorXG
namespace Go.Proofs.YtjajcbjodokfnaaGreatDoor
set_option maxRecDepth 100000
open Go.RowKit Go.Shelf
set_option linter.unusedVariables false
set_option linter.unusedSimpArgs false

theorem Row.own12 {w : World} {g n B : Nat} {zs : List Int} (h : Row w g zs) (hl : zs.length = n) (hn : n ≤ maxLen) (hB : B ≤ g) : w.ownsRow B 5 1 (.slice (some ⟨g, 0, none⟩) n n) n (cells zs) := by
  refine ⟨by rw [cells_length, hl, Nat.mul_one], .inr ⟨g, n, (cells zs).toArray, rfl, hB, h, Nat.le_refl _, hn, ?_, ?_⟩⟩
  · simp [cells_length, hl]
  · simp only [Nat.mul_one]
    exact List.take_of_length_le (by rw [cells_length, hl]; exact Nat.le_refl _)
section
variable {w : World} {g d mi ep nx pl : Nat} {se re : Bool}
set_option maxHeartbeats 4000000 in
theorem wright_y (h : Wm w g d mi ep nx pl se re) (hT : Tab w) (a : Option Addr) (n c p : Nat) (zs : List Int) (hb : Bs w a n zs) (hc : n ≤ c) (hm : c ≤ maxLen) (T : ByteArray) (l : List Int) (hs : gs zs = some ⟨T, ep, nx, p, l⟩) :
    Calls Tryz.prog 131 #[.pointer (some ⟨g, 0, none⟩), .slice a n c, .int .i64 p] w fun en w' => ∃ g', en = .returned (.tuple #[.string T, .slice (some ⟨g', 0, none⟩) l.length l.length]) ∧ w.heap.size ≤ g' ∧ Row w' g' l ∧ Below w.heap.size w w' := by
  have kg := get_y a n c zs w hT hb hc hm ⟨T, ep, nx, p, l⟩ hs
  have HL := hid h
  obtain ⟨m, Hm⟩ : ∃ m, Hid (l.length = m) := ⟨_, rfl⟩
  simp only [Hm.out] at kg
  rw [Hm.out]
  have z1 : ((ep : Int) != (ep : Int)) = false := by simp
  have z2 : ((nx : Int) != (nx : Int)) = false := by simp
  have z3 : ((p : Int) != (p : Int)) = false := by simp
  clear h hb hs
  go_enter Tryz.func131, Tryz.ntmps131
  go_wp2_with fail
  refine kg.mono ?_
  rintro x1 w1 ⟨g', rfl, hg, r1, g1⟩
  simp only
  have m1 := Sm.new w1 T ep nx p (.slice (some ⟨g', 0, none⟩) m m)
  have B1 : Below w.heap.size w (w1.alloc (.cells #[.string T, .int .i64 ep, .int .i64 nx, .int .i64 p, .slice (some ⟨g', 0, none⟩) m m] 40)) := g1.alloc g1.size _
  have r2 : Row (w1.alloc (.cells #[.string T, .int .i64 ep, .int .i64 nx, .int .i64 p, .slice (some ⟨g', 0, none⟩) m m] 40)) g' l := r1.kept (r := none) (World.grownBy_alloc w1 _ _) (by simp)
  have L1 := HL.out.below B1
  have d0 := m1.c0
  have d1 := m1.c1
  have d2 := m1.c2
  have d3 := m1.c3
  have d4 := m1.c4
  have c2 := L1.c2
  have c3 := L1.c3
  have R2 := hid r2
  have BB := hid B1
  clear kg g1 r1 r2 m1 L1 B1 HL
  go_wp2_with fail
  generalize w1.alloc (.cells #[.string T, .int .i64 ep, .int .i64 nx, .int .i64 p, .slice (some ⟨g', 0, none⟩) m m] 40) = W at *
  go_quiet (fail)
  go_wp2_with fail
  go_quiet (fail)
  go_wp2_with fail
  go_ret2
  exact ⟨g', rfl, hg, (R2.out), bel_drawn (bel_drawn BB.out _) _⟩
set_option maxHeartbeats 4000000 in
theorem wright_0 (h : Wm w g d mi ep nx pl se re) (hT : Tab w) (a : Option Addr) (n c p : Nat) (zs : List Int) (hb : Bs w a n zs) (hc : n ≤ c) (hm : c ≤ maxLen) (hs : gs zs = none) :
    Calls Tryz.prog 131 #[.pointer (some ⟨g, 0, none⟩), .slice a n c, .int .i64 p] w fun en w' => en = .returned (.tuple #[.string ⟨#[]⟩, .slice none 0 0]) ∧ Below w.heap.size w w' := by
  have kg := get_n a n c zs w hT hb hc hm hs
  have HL := hid h
  clear h hb hs
  go_enter Tryz.func131, Tryz.ntmps131
  go_wp2_with fail
  refine kg.mono ?_
  rintro x1 w1 ⟨rfl, g1⟩
  have m1 := Sm.new w1 ⟨#[]⟩ 0 0 0 (.slice none 0 0)
  have B1 : Below w.heap.size w (w1.alloc (.cells #[.string ⟨#[]⟩, .int .i64 0, .int .i64 0, .int .i64 0, .slice none 0 0] 40)) := g1.alloc g1.size _
  have L1 := HL.out.below B1
  have d0 := m1.c0
  have d1 := m1.c1
  have d2 := m1.c2
  have d3 := m1.c3
  have d4 := m1.c4
  have c2 := L1.c2
  have c3 := L1.c3
  have BB := hid B1
  clear kg g1 m1 L1 B1 HL
  go_wp2_with fail
  generalize w1.alloc (.cells #[.string ⟨#[]⟩, .int .i64 0, .int .i64 0, .int .i64 0, .slice none 0 0] 40) = W at *
  go_quiet (fail)
  go_wp2_with fail
  go_ret2
  exact ⟨rfl, bel_drawn BB.out _⟩
set_option maxHeartbeats 4000000 in
theorem wright_1 (h : Wm w g d mi ep nx pl se re) (hT : Tab w) (a : Option Addr) (n c p : Nat) (zs : List Int) (hb : Bs w a n zs) (hc : n ≤ c) (hm : c ≤ maxLen) (T : ByteArray) (e q k : Int) (l : List Int) (hs : gs zs = some ⟨T, e, q, k, l⟩) (hx : e ≠ ep) :
    Calls Tryz.prog 131 #[.pointer (some ⟨g, 0, none⟩), .slice a n c, .int .i64 p] w fun en w' => en = .returned (.tuple #[.string ⟨#[]⟩, .slice none 0 0]) ∧ Below w.heap.size w w' := by
  have kg := get_y a n c zs w hT hb hc hm ⟨T, e, q, k, l⟩ hs
  have HL := hid h
  obtain ⟨m, Hm⟩ : ∃ m, Hid (l.length = m) := ⟨_, rfl⟩
  simp only [Hm.out] at kg
  have z1 : (e != (ep : Int)) = true := by rw [bne_iff_ne]; exact hx
  clear h hb hs hx
  go_enter Tryz.func131, Tryz.ntmps131
  go_wp2_with fail
  refine kg.mono ?_
  rintro x1 w1 ⟨g', rfl, hg, r1, g1⟩
  simp only
  have m1 := Sm.new w1 T e q k (.slice (some ⟨g', 0, none⟩) m m)
  have B1 : Below w.heap.size w (w1.alloc (.cells #[.string T, .int .i64 e, .int .i64 q, .int .i64 k, .slice (some ⟨g', 0, none⟩) m m] 40)) := g1.alloc g1.size _
  have L1 := HL.out.below B1
  have d0 := m1.c0
  have d1 := m1.c1
  have d2 := m1.c2
  have d3 := m1.c3
  have d4 := m1.c4
  have c2 := L1.c2
  have c3 := L1.c3
  have BB := hid B1
  clear kg g1 r1 m1 L1 B1 HL
  go_wp2_with fail
  generalize w1.alloc (.cells #[.string T, .int .i64 e, .int .i64 q, .int .i64 k, .slice (some ⟨g', 0, none⟩) m m] 40) = W at *
  go_quiet (fail)
  go_wp2_with fail
  go_ret2
  exact ⟨rfl, bel_drawn BB.out _⟩
set_option maxHeartbeats 4000000 in
theorem wright_2 (h : Wm w g d mi ep nx pl se re) (hT : Tab w) (a : Option Addr) (n c p : Nat) (zs : List Int) (hb : Bs w a n zs) (hc : n ≤ c) (hm : c ≤ maxLen) (T : ByteArray) (q k : Int) (l : List Int) (hs : gs zs = some ⟨T, ep, q, k, l⟩) (hx : q ≠ nx) :
    Calls Tryz.prog 131 #[.pointer (some ⟨g, 0, none⟩), .slice a n c, .int .i64 p] w fun en w' => en = .returned (.tuple #[.string ⟨#[]⟩, .slice none 0 0]) ∧ Below w.heap.size w w' := by
  have kg := get_y a n c zs w hT hb hc hm ⟨T, ep, q, k, l⟩ hs
  have HL := hid h
  obtain ⟨m, Hm⟩ : ∃ m, Hid (l.length = m) := ⟨_, rfl⟩
  simp only [Hm.out] at kg
  have z1 : ((ep : Int) != (ep : Int)) = false := by simp
  have z2 : (q != (nx : Int)) = true := by rw [bne_iff_ne]; exact hx
  clear h hb hs hx
  go_enter Tryz.func131, Tryz.ntmps131
  go_wp2_with fail
  refine kg.mono ?_
  rintro x1 w1 ⟨g', rfl, hg, r1, g1⟩
  simp only
  have m1 := Sm.new w1 T ep q k (.slice (some ⟨g', 0, none⟩) m m)
  have B1 : Below w.heap.size w (w1.alloc (.cells #[.string T, .int .i64 ep, .int .i64 q, .int .i64 k, .slice (some ⟨g', 0, none⟩) m m] 40)) := g1.alloc g1.size _
  have L1 := HL.out.below B1
  have d0 := m1.c0
  have d1 := m1.c1
  have d2 := m1.c2
  have d3 := m1.c3
  have d4 := m1.c4
  have c2 := L1.c2
  have c3 := L1.c3
  have BB := hid B1
  clear kg g1 r1 m1 L1 B1 HL
  go_wp2_with fail
  generalize w1.alloc (.cells #[.string T, .int .i64 ep, .int .i64 q, .int .i64 k, .slice (some ⟨g', 0, none⟩) m m] 40) = W at *
  go_quiet (fail)
  go_wp2_with fail
  go_ret2
  exact ⟨rfl, bel_drawn BB.out _⟩
set_option maxHeartbeats 4000000 in
theorem wright_3 (h : Wm w g d mi ep nx pl se re) (hT : Tab w) (a : Option Addr) (n c p : Nat) (zs : List Int) (hb : Bs w a n zs) (hc : n ≤ c) (hm : c ≤ maxLen) (T : ByteArray) (k : Int) (l : List Int) (hs : gs zs = some ⟨T, ep, nx, k, l⟩) (hx : k ≠ p) :
    Calls Tryz.prog 131 #[.pointer (some ⟨g, 0, none⟩), .slice a n c, .int .i64 p] w fun en w' => en = .returned (.tuple #[.string ⟨#[]⟩, .slice none 0 0]) ∧ Below w.heap.size w w' := by
  have kg := get_y a n c zs w hT hb hc hm ⟨T, ep, nx, k, l⟩ hs
  have HL := hid h
  obtain ⟨m, Hm⟩ : ∃ m, Hid (l.length = m) := ⟨_, rfl⟩
  simp only [Hm.out] at kg
  have z1 : ((ep : Int) != (ep : Int)) = false := by simp
  have z2 : ((nx : Int) != (nx : Int)) = false := by simp
  have z3 : (k != (p : Int)) = true := by rw [bne_iff_ne]; exact hx
  clear h hb hs hx
  go_enter Tryz.func131, Tryz.ntmps131
  go_wp2_with fail
  refine kg.mono ?_
  rintro x1 w1 ⟨g', rfl, hg, r1, g1⟩
  simp only
  have m1 := Sm.new w1 T ep nx k (.slice (some ⟨g', 0, none⟩) m m)
  have B1 : Below w.heap.size w (w1.alloc (.cells #[.string T, .int .i64 ep, .int .i64 nx, .int .i64 k, .slice (some ⟨g', 0, none⟩) m m] 40)) := g1.alloc g1.size _
  have L1 := HL.out.below B1
  have d0 := m1.c0
  have d1 := m1.c1
  have d2 := m1.c2
  have d3 := m1.c3
  have d4 := m1.c4
  have c2 := L1.c2
  have c3 := L1.c3
  have BB := hid B1
  clear kg g1 r1 m1 L1 B1 HL
  go_wp2_with fail
  generalize w1.alloc (.cells #[.string T, .int .i64 ep, .int .i64 nx, .int .i64 k, .slice (some ⟨g', 0, none⟩) m m] 40) = W at *
  go_quiet (fail)
  go_wp2_with fail
  go_ret2
  exact ⟨rfl, bel_drawn BB.out _⟩
/-- What stands at a place, if it is right there. -/
def rgt (zs : List Int) (ep nx p : Nat) : Option (ByteArray × List Int) :=
  match gs zs with
  | some x => if x.e = ep ∧ x.q = nx ∧ x.p = p then some (x.T, x.l) else none
  | none => none
theorem wright_n (h : Wm w g d mi ep nx pl se re) (hT : Tab w) (a : Option Addr) (n c p : Nat) (zs : List Int) (hb : Bs w a n zs) (hc : n ≤ c) (hm : c ≤ maxLen) (hs : rgt zs ep nx p = none) :
    Calls Tryz.prog 131 #[.pointer (some ⟨g, 0, none⟩), .slice a n c, .int .i64 p] w fun en w' => en = .returned (.tuple #[.string ⟨#[]⟩, .slice none 0 0]) ∧ Below w.heap.size w w' := by
  unfold rgt at hs
  cases hg : gs zs with
  | none => exact wright_0 h hT a n c p zs hb hc hm hg
  | some x =>
    rw [hg] at hs
    obtain ⟨T, e, q, k, l⟩ := x
    simp only at hs
    by_cases h1 : e = ep
    · subst h1
      by_cases h2 : q = nx
      · subst h2
        by_cases h3 : k = p
        · rw [if_pos ⟨rfl, rfl, h3⟩] at hs
          cases hs
        · exact wright_3 h hT a n c p zs hb hc hm T k l hg h3
      · exact wright_2 h hT a n c p zs hb hc hm T q k l hg h2
    · exact wright_1 h hT a n c p zs hb hc hm T e q k l hg h1
theorem rgt_some {zs : List Int} {ep nx p : Nat} {T : ByteArray} {l : List Int} (h : rgt zs ep nx p = some (T, l)) : gs zs = some ⟨T, ep, nx, p, l⟩ := by
  unfold rgt at h
  cases hg : gs zs with
  | none => rw [hg] at h; cases h
  | some x =>
    rw [hg] at h
    obtain ⟨T', e, q, k, l'⟩ := x
    simp only at h
    split at h
    · rename_i hh
      obtain ⟨rfl, rfl, rfl⟩ := hh
      simp only [Option.some.injEq, Prod.mk.injEq] at h
      obtain ⟨rfl, rfl⟩ := h
      rfl
    · cases h
end
end Go.Proofs.YtjajcbjodokfnaaGreatDoor
namespace Go.Proofs.YtjajcbjodokfnaaGreatDoor
set_option maxRecDepth 100000
open Go.RowKit Go.Shelf
set_option linter.unusedVariables false
set_option linter.unusedSimpArgs false

/-- A row of sectors in the reading. -/
def Ym (w : World) (r k : Nat) (v : Value) (b : Bool) : Prop := w.heap[r]? = some (.cells #[.int .i64 k, v, .bool b] 162 (0, 0))
section
variable {w w' : World} {r k : Nat} {v : Value} {b : Bool}
theorem Ym.lt (h : Ym w r k v b) : r < w.heap.size := (Array.getElem?_eq_some_iff.1 h).1
theorem Ym.c0 (h : Ym w r k v b) : w.cell? ⟨r, 0, none⟩ = some (.int .i64 k) := (cell_of_row w r 0 _ _ (0, 0) h).trans rfl
theorem Ym.c1 (h : Ym w r k v b) : w.cell? ⟨r, 1, none⟩ = some v := (cell_of_row w r 1 _ _ (0, 0) h).trans rfl
theorem Ym.c2 (h : Ym w r k v b) : w.cell? ⟨r, 2, none⟩ = some (.bool b) := (cell_of_row w r 2 _ _ (0, 0) h).trans rfl
theorem Ym.fz (h : Ym w r k v b) (i : Nat) : w.frozen? ⟨r, i, none⟩ = false := by unfold Ym at h; simp [World.frozen?, h]
theorem Ym.at (h : Ym w r k v b) (e : w'.heap[r]? = w.heap[r]?) : Ym w' r k v b := e.trans h
theorem Ym.below (h : Ym w r k v b) (hb : Below w.heap.size w w') : Ym w' r k v b := h.at (hb.block r h.lt)
theorem Ym.new (w : World) : Ym (w.alloc (.cells #[.int .i64 0, .slice none 0 0, .bool false] 162)) w.heap.size 0 (.slice none 0 0) false := heap_alloc_new w _
theorem Ym.s0 (h : Ym w r k v b) (x : Nat) : Ym (w.setCell ⟨r, 0, none⟩ (.int .i64 x)) r x v b := by
  unfold Ym at *
  simp [World.setCell, Array.getElem?_modify, h]
theorem Ym.s1 (h : Ym w r k v b) (x : Value) : Ym (w.setCell ⟨r, 1, none⟩ x) r k x b := by
  unfold Ym at *
  simp [World.setCell, Array.getElem?_modify, h]
theorem Ym.s2 (h : Ym w r k v b) (x : Bool) : Ym (w.setCell ⟨r, 2, none⟩ (.bool x)) r k v x := by
  unfold Ym at *
  simp [World.setCell, Array.getElem?_modify, h]
end
/-- May a piece of m bytes stand behind k pieces of n bytes? -/
def tkp (k n m : Nat) : Bool := if k = 0 then decide (m = 480) else decide (n = k * 480) && (decide (n < 4800) && decide (0 < m))
set_option maxHeartbeats 4000000 in
theorem takes_ (r k : Nat) (a : Option Addr) (n c : Nat) (b : Bool) (a2 : Option Addr) (m c2 : Nat) (w : World) (h : Ym w r k (.slice a n c) b) (hk : k ≤ 100) (hn : n ≤ 1000000) (hm : m ≤ 1000000) :
    Calls Tryz.prog 157 #[.pointer (some ⟨r, 0, none⟩), .slice a2 m c2] w fun en w' => en = .returned (.bool (tkp k n m)) ∧ Drawn w w' := by
  have c0 := h.c0
  have c1 := h.c1
  unfold tkp
  clear h
  by_cases h0 : k = 0
  · subst h0
    rw [if_pos rfl]
    have e1 : ((m : Int) == 480) = decide (m = 480) := by
      by_cases q : m = 480
      · subst q; rfl
      · rw [decide_eq_false q]; simp; omega
    go_enter Tryz.func157, Tryz.ntmps157
    go_wp2_with fail
    go_ret
    exact ⟨by first | rfl | (rw [e1]) , ⟨rfl, rfl, rfl, rfl⟩⟩
  · rw [if_neg h0]
    have hkb : ((k : Int) == 0) = false := by simp; omega
    obtain ⟨M, HM⟩ : ∃ M, Hid (k * 480 = M) := ⟨_, rfl⟩
    have hM : (k : Int) * 480 = (M : Int) := by have := HM.out; omega
    have hMw : IntKind.i64.wrap ((k : Int) * 480) = (M : Int) := by rw [IntKind.wrap_i64]; have := HM.out; omega
    rw [HM.out]
    by_cases hf : n = M
    · have f1 : ((n : Int) == (M : Int)) = true := by simp; omega
      rw [decide_eq_true hf, Bool.true_and]
      by_cases hl : n < 4800
      · have f2 : (n : Int) < 4800 := by omega
        have f3 : decide ((n : Int) < 4800) = true := decide_eq_true f2
        rw [decide_eq_true hl, Bool.true_and]
        clear hf hl
        go_enter Tryz.func157, Tryz.ntmps157
        go_wp2_with fail
        go_quiet (fail)
        go_wp2_with fail
        go_ret
        exact ⟨rfl, drawnN w _⟩
      · have f2 : ¬ (n : Int) < 4800 := by omega
        have f3 : decide ((n : Int) < 4800) = false := decide_eq_false f2
        rw [decide_eq_false hl, Bool.false_and]
        clear hf hl
        go_enter Tryz.func157, Tryz.ntmps157
        go_wp2_with fail
        go_quiet (fail)
        go_wp2_with fail
        go_ret
        exact ⟨rfl, drawnN w _⟩
    · have f1 : ((n : Int) == (M : Int)) = false := by simp; omega
      rw [decide_eq_false hf, Bool.false_and]
      clear hf
      go_enter Tryz.func157, Tryz.ntmps157
      go_wp2_with fail
      go_quiet (fail)
      go_wp2_with fail
      go_ret
      exact ⟨rfl, drawnN w _⟩
end Go.Proofs.YtjajcbjodokfnaaGreatDoor
