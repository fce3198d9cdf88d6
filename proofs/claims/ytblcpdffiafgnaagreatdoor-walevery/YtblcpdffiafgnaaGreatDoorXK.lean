import Derived.Test.YtblcpdffiafgnaaGreatDoorXG
import Derived.Test.YtblcpdffiafgnaaGreatDoorCTab
namespace Go.Proofs.YtblcpdffiafgnaaGreatDoor
set_option linter.unusedSimpArgs false
set_option maxRecDepth 100000
open Go.RowKit Go.Shelf
set_option linter.unusedVariables false

theorem Row.own12 {w : World} {g n B : Nat} {zs : List Int} (h : Row w g zs) (hl : zs.length = n) (hn : n ≤ maxLen) (hB : B ≤ g) : w.ownsRow B 5 1 (.slice (some ⟨g, 0, none⟩) n n) n (cells zs) := by
  refine ⟨by rw [cells_length, hl, Nat.mul_one], .inr ⟨g, n, (cells zs).toArray, rfl, hB, h, Nat.le_refl _, hn, ?_, ?_⟩⟩
  · simp [cells_length, hl]
  · simp only [Nat.mul_one]
    exact List.take_of_length_le (by rw [cells_length, hl]; exact Nat.le_refl _)
section
variable {w : World} {g d mi ep nx pl : Nat} {se re : Bool}
set_option maxHeartbeats 4000000 in
theorem wright_y (h : Wm w g d mi ep nx pl se re) (hT : Tab w) (a : Option Addr) (n c p : Nat) (zs : List Int) (hb : Bs w a n zs) (hc : n ≤ c) (hm : c ≤ maxLen) (T : ByteArray) (l : List Int) (hs : gs zs = some ⟨T, ep, nx, p, l⟩) :
    Calls Tryz.prog 80 #[.pointer (some ⟨g, 0, none⟩), .slice a n c, .int .i64 p] w fun en w' => ∃ g', en = .returned (.tuple #[.string T, .slice (some ⟨g', 0, none⟩) l.length l.length]) ∧ w.heap.size ≤ g' ∧ Row w' g' l ∧ Below w.heap.size w w' := by
  have kg := get_y a n c zs w hT hb hc hm ⟨T, ep, nx, p, l⟩ hs
  have HL := hid h
  obtain ⟨m, Hm⟩ : ∃ m, Hid (l.length = m) := ⟨_, rfl⟩
  simp only [Hm.out] at kg
  rw [Hm.out]
  have z1 : ((ep : Int) != (ep : Int)) = false := by simp
  have z2 : ((nx : Int) != (nx : Int)) = false := by simp
  have z3 : ((p : Int) != (p : Int)) = false := by simp
  clear h hb hs
  go_enter Tryz.func80, Tryz.ntmps80
  go_wp2_with fail
  refine kg.mono ?_
  rintro x1 w1 ⟨g', rfl, hg, r1, g1⟩
  simp only
  have m1 := Sm.new w1 T ep nx p (.slice (some ⟨g', 0, none⟩) m m)
  have B1 : Below w.heap.size w (w1.alloc (.cells #[.string T, .int .i64 ep, .int .i64 nx, .int .i64 p, .slice (some ⟨g', 0, none⟩) m m] 31)) := g1.alloc g1.size _
  have r2 : Row (w1.alloc (.cells #[.string T, .int .i64 ep, .int .i64 nx, .int .i64 p, .slice (some ⟨g', 0, none⟩) m m] 31)) g' l := r1.kept (r := none) (World.grownBy_alloc w1 _ _) (by simp)
  have L1 := HL.out.below B1
  have d0 := m1.c0
  have d1 := m1.c1
  have d2 := m1.c2
  have d3 := m1.c3
  have d4 := m1.c4
  have c2 := L1.c2
  have c3 := L1.c3
  have R2 := hid r2
  have BB := hid B1
  clear kg g1 r1 r2 m1 L1 B1 HL
  go_wp2_with fail
  generalize w1.alloc (.cells #[.string T, .int .i64 ep, .int .i64 nx, .int .i64 p, .slice (some ⟨g', 0, none⟩) m m] 31) = W at *
  go_quiet (fail)
  go_wp2_with fail
  go_quiet (fail)
  go_wp2_with fail
  go_ret2
  exact ⟨g', rfl, hg, (R2.out), bel_drawn (bel_drawn BB.out _) _⟩
set_option maxHeartbeats 4000000 in
theorem wright_0 (h : Wm w g d mi ep nx pl se re) (hT : Tab w) (a : Option Addr) (n c p : Nat) (zs : List Int) (hb : Bs w a n zs) (hc : n ≤ c) (hm : c ≤ maxLen) (hs : gs zs = none) :
    Calls Tryz.prog 80 #[.pointer (some ⟨g, 0, none⟩), .slice a n c, .int .i64 p] w fun en w' => en = .returned (.tuple #[.string ⟨#[]⟩, .slice none 0 0]) ∧ Below w.heap.size w w' := by
  have kg := get_n a n c zs w hT hb hc hm hs
  have HL := hid h
  clear h hb hs
  go_enter Tryz.func80, Tryz.ntmps80
  go_wp2_with fail
  refine kg.mono ?_
  rintro x1 w1 ⟨rfl, g1⟩
  have m1 := Sm.new w1 ⟨#[]⟩ 0 0 0 (.slice none 0 0)
  have B1 : Below w.heap.size w (w1.alloc (.cells #[.string ⟨#[]⟩, .int .i64 0, .int .i64 0, .int .i64 0, .slice none 0 0] 31)) := g1.alloc g1.size _
  have L1 := HL.out.below B1
  have d0 := m1.c0
  have d1 := m1.c1
  have d2 := m1.c2
  have d3 := m1.c3
  have d4 := m1.c4
  have c2 := L1.c2
  have c3 := L1.c3
  have BB := hid B1
  clear kg g1 m1 L1 B1 HL
  go_wp2_with fail
  generalize w1.alloc (.cells #[.string ⟨#[]⟩, .int .i64 0, .int .i64 0, .int .i64 0, .slice none 0 0] 31) = W at *
  go_quiet (fail)
  go_wp2_with fail
  go_ret2
  exact ⟨rfl, bel_drawn BB.out _⟩
set_option maxHeartbeats 4000000 in
theorem wright_1 (h : Wm w g d mi ep nx pl se re) (hT : Tab w) (a : Option Addr) (n c p : Nat) (zs : List Int) (hb : Bs w a n zs) (hc : n ≤ c) (hm : c ≤ maxLen) (T : ByteArray) (e q k : Int) (l : List Int) (hs : gs zs = some ⟨T, e, q, k, l⟩) (hx : e ≠ ep) :
    Calls Tryz.prog 80 #[.pointer (some ⟨g, 0, none⟩), .slice a n c, .int .i64 p] w fun en w' => en = .returned (.tuple #[.string ⟨#[]⟩, .slice none 0 0]) ∧ Below w.heap.size w w' := by
  have kg := get_y a n c zs w hT hb hc hm ⟨T, e, q, k, l⟩ hs
  have HL := hid h
  obtain ⟨m, Hm⟩ : ∃ m, Hid (l.length = m) := ⟨_, rfl⟩
  simp only [Hm.out] at kg
  have z1 : (e != (ep : Int)) = true := by rw [bne_iff_ne]; exact hx
  clear h hb hs hx
  go_enter Tryz.func80, Tryz.ntmps80
  go_wp2_with fail
  refine kg.mono ?_
  rintro x1 w1 ⟨g', rfl, hg, r1, g1⟩
  simp only
  have m1 := Sm.new w1 T e q k (.slice (some ⟨g', 0, none⟩) m m)
  have B1 : Below w.heap.size w (w1.alloc (.cells #[.string T, .int .i64 e, .int .i64 q, .int .i64 k, .slice (some ⟨g', 0, none⟩) m m] 31)) := g1.alloc g1.size _
  have L1 := HL.out.below B1
  have d0 := m1.c0
  have d1 := m1.c1
  have d2 := m1.c2
  have d3 := m1.c3
  have d4 := m1.c4
  have c2 := L1.c2
  have c3 := L1.c3
  have BB := hid B1
  clear kg g1 r1 m1 L1 B1 HL
  go_wp2_with fail
  generalize w1.alloc (.cells #[.string T, .int .i64 e, .int .i64 q, .int .i64 k, .slice (some ⟨g', 0, none⟩) m m] 31) = W at *
  go_quiet (fail)
  go_wp2_with fail
  go_ret2
  exact ⟨rfl, bel_drawn BB.out _⟩
set_option maxHeartbeats 4000000 in
theorem wright_2 (h : Wm w g d mi ep nx pl se re) (hT : Tab w) (a : Option Addr) (n c p : Nat) (zs : List Int) (hb : Bs w a n zs) (hc : n ≤ c) (hm : c ≤ maxLen) (T : ByteArray) (q k : Int) (l : List Int) (hs : gs zs = some ⟨T, ep, q, k, l⟩) (hx : q ≠ nx) :
    Calls Tryz.prog 80 #[.pointer (some ⟨g, 0, none⟩), .slice a n c, .int .i64 p] w fun en w' => en = .returned (.tuple #[.string ⟨#[]⟩, .slice none 0 0]) ∧ Below w.heap.size w w' := by
  have kg := get_y a n c zs w hT hb hc hm ⟨T, ep, q, k, l⟩ hs
  have HL := hid h
  obtain ⟨m, Hm⟩ : ∃ m, Hid (l.length = m) := ⟨_, rfl⟩
  simp only [Hm.out] at kg
  have z1 : ((ep : Int) != (ep : Int)) = false := by simp
  have z2 : (q != (nx : Int)) = true := by rw [bne_iff_ne]; exact hx
  clear h hb hs hx
  go_enter Tryz.func80, Tryz.ntmps80
  go_wp2_with fail
  refine kg.mono ?_
  rintro x1 w1 ⟨g', rfl, hg, r1, g1⟩
  simp only
  have m1 := Sm.new w1 T ep q k (.slice (some ⟨g', 0, none⟩) m m)
  have B1 : Below w.heap.size w (w1.alloc (.cells #[.string T, .int .i64 ep, .int .i64 q, .int .i64 k, .slice (some ⟨g', 0, none⟩) m m] 31)) := g1.alloc g1.size _
  have L1 := HL.out.below B1
  have d0 := m1.c0
  have d1 := m1.c1
  have d2 := m1.c2
  have d3 := m1.c3
  have d4 := m1.c4
  have c2 := L1.c2
  have c3 := L1.c3
  have BB := hid B1
  clear kg g1 r1 m1 L1 B1 HL
  go_wp2_with fail
  generalize w1.alloc (.cells #[.string T, .int .i64 ep, .int .i64 q, .int .i64 k, .slice (some ⟨g', 0, none⟩) m m] 31) = W at *
  go_quiet (fail)
  go_wp2_with fail
  go_ret2
  exact ⟨rfl, bel_drawn BB.out _⟩
set_option maxHeartbeats 4000000 in
theorem wright_3 (h : Wm w g d mi ep nx pl se re) (hT : Tab w) (a : Option Addr) (n c p : Nat) (zs : List Int) (hb : Bs w a n zs) (hc : n ≤ c) (hm : c ≤ maxLen) (T : ByteArray) (k : Int) (l : List Int) (hs : gs zs = some ⟨T, ep, nx, k, l⟩) (hx : k ≠ p) :
    Calls Tryz.prog 80 #[.pointer (some ⟨g, 0, none⟩), .slice a n c, .int .i64 p] w fun en w' => en = .returned (.tuple #[.string ⟨#[]⟩, .slice none 0 0]) ∧ Below w.heap.size w w' := by
  have kg := get_y a n c zs w hT hb hc hm ⟨T, ep, nx, k, l⟩ hs
  have HL := hid h
  obtain ⟨m, Hm⟩ : ∃ m, Hid (l.length = m) := ⟨_, rfl⟩
  simp only [Hm.out] at kg
  have z1 : ((ep : Int) != (ep : Int)) = false := by simp
  have z2 : ((nx : Int) != (nx : Int)) = false := by simp
  have z3 : (k != (p : Int)) = true := by rw [bne_iff_ne]; exact hx
  clear h hb hs hx
  go_enter Tryz.func80, Tryz.ntmps80
  go_wp2_with fail
  refine kg.mono ?_
  rintro x1 w1 ⟨g', rfl, hg, r1, g1⟩
  simp only
  have m1 := Sm.new w1 T ep nx k (.slice (some ⟨g', 0, none⟩) m m)
  have B1 : Below w.heap.size w (w1.alloc (.cells #[.string T, .int .i64 ep, .int .i64 nx, .int .i64 k, .slice (some ⟨g', 0, none⟩) m m] 31)) := g1.alloc g1.size _
  have L1 := HL.out.below B1
  have d0 := m1.c0
  have d1 := m1.c1
  have d2 := m1.c2
  have d3 := m1.c3
  have d4 := m1.c4
  have c2 := L1.c2
  have c3 := L1.c3
  have BB := hid B1
  clear kg g1 r1 m1 L1 B1 HL
  go_wp2_with fail
  generalize w1.alloc (.cells #[.string T, .int .i64 ep, .int .i64 nx, .int .i64 k, .slice (some ⟨g', 0, none⟩) m m] 31) = W at *
  go_quiet (fail)
  go_wp2_with fail
  go_ret2
  exact ⟨rfl, bel_drawn BB.out _⟩
/-- What stands at a place, if it is right there. -/
def rgt (zs : List Int) (ep nx p : Nat) : Option (ByteArray × List Int) :=
  match gs zs with
  | some x => if x.e = ep ∧ x.q = nx ∧ x.p = p then some (x.T, x.l) else none
  | none => none
theorem wright_n (h : Wm w g d mi ep nx pl se re) (hT : Tab w) (a : Option Addr) (n c p : Nat) (zs : List Int) (hb : Bs w a n zs) (hc : n ≤ c) (hm : c ≤ maxLen) (hs : rgt zs ep nx p = none) :
    Calls Tryz.prog 80 #[.pointer (some ⟨g, 0, none⟩), .slice a n c, .int .i64 p] w fun en w' => en = .returned (.tuple #[.string ⟨#[]⟩, .slice none 0 0]) ∧ Below w.heap.size w w' := by
  unfold rgt at hs
  cases hg : gs zs with
  | none => exact wright_0 h hT a n c p zs hb hc hm hg
  | some x =>
    rw [hg] at hs
    obtain ⟨T, e, q, k, l⟩ := x
    simp only at hs
    by_cases h1 : e = ep
    · subst h1
      by_cases h2 : q = nx
      · subst h2
        by_cases h3 : k = p
        · rw [if_pos ⟨rfl, rfl, h3⟩] at hs
          cases hs
        · exact wright_3 h hT a n c p zs hb hc hm T k l hg h3
      · exact wright_2 h hT a n c p zs hb hc hm T q k l hg h2
    · exact wright_1 h hT a n c p zs hb hc hm T e q k l hg h1
theorem rgt_some {zs : List Int} {ep nx p : Nat} {T : ByteArray} {l : List Int} (h : rgt zs ep nx p = some (T, l)) : gs zs = some ⟨T, ep, nx, p, l⟩ := by
  unfold rgt at h
  cases hg : gs zs with
  | none => rw [hg] at h; cases h
  | some x =>
    rw [hg] at h
    obtain ⟨T', e, q, k, l'⟩ := x
    simp only at h
    split at h
    · rename_i hh
      obtain ⟨rfl, rfl, rfl⟩ := hh
      simp only [Option.some.injEq, Prod.mk.injEq] at h
      obtain ⟨rfl, rfl⟩ := h
      rfl
    · cases h
end
end Go.Proofs.YtblcpdffiafgnaaGreatDoor
namespace Go.Proofs.YtblcpdffiafgnaaGreatDoor
set_option linter.unusedSimpArgs false
set_option maxRecDepth 100000
open Go.RowKit Go.Shelf
set_option linter.unusedVariables false

/-- A row of sectors in the reading. -/
def Ym (w : World) (r k : Nat) (v : Value) (b : Bool) : Prop := w.heap[r]? = some (.cells #[.int .i64 k, v, .bool b] 123 (0, 0))
section
variable {w w' : World} {r k : Nat} {v : Value} {b : Bool}
theorem Ym.lt (h : Ym w r k v b) : r < w.heap.size := (Array.getElem?_eq_some_iff.1 h).1
theorem Ym.c0 (h : Ym w r k v b) : w.cell? ⟨r, 0, none⟩ = some (.int .i64 k) := (cell_of_row w r 0 _ _ (0, 0) h).trans rfl
theorem Ym.c1 (h : Ym w r k v b) : w.cell? ⟨r, 1, none⟩ = some v := (cell_of_row w r 1 _ _ (0, 0) h).trans rfl
theorem Ym.c2 (h : Ym w r k v b) : w.cell? ⟨r, 2, none⟩ = some (.bool b) := (cell_of_row w r 2 _ _ (0, 0) h).trans rfl
theorem Ym.fz (h : Ym w r k v b) (i : Nat) : w.frozen? ⟨r, i, none⟩ = false := by unfold Ym at h; simp [World.frozen?, h]
theorem Ym.at (h : Ym w r k v b) (e : w'.heap[r]? = w.heap[r]?) : Ym w' r k v b := e.trans h
theorem Ym.below (h : Ym w r k v b) (hb : Below w.heap.size w w') : Ym w' r k v b := h.at (hb.block r h.lt)
theorem Ym.new (w : World) : Ym (w.alloc (.cells #[.int .i64 0, .slice none 0 0, .bool false] 123)) w.heap.size 0 (.slice none 0 0) false := heap_alloc_new w _
theorem Ym.s0 (h : Ym w r k v b) (x : Nat) : Ym (w.setCell ⟨r, 0, none⟩ (.int .i64 x)) r x v b := by
  unfold Ym at *
  simp [World.setCell, Array.getElem?_modify, h]
theorem Ym.s1 (h : Ym w r k v b) (x : Value) : Ym (w.setCell ⟨r, 1, none⟩ x) r k x b := by
  unfold Ym at *
  simp [World.setCell, Array.getElem?_modify, h]
theorem Ym.s2 (h : Ym w r k v b) (x : Bool) : Ym (w.setCell ⟨r, 2, none⟩ (.bool x)) r k v x := by
  unfold Ym at *
  simp [World.setCell, Array.getElem?_modify, h]
end
/-- May a piece of m bytes stand behind k pieces of n bytes? -/
def tkp (k n m : Nat) : Bool := if k = 0 then decide (m = 480) else decide (n = k * 480) && (decide (n < 4800) && decide (0 < m))
set_option maxHeartbeats 4000000 in
theorem takes_ (r k : Nat) (a : Option Addr) (n c : Nat) (b : Bool) (a2 : Option Addr) (m c2 : Nat) (w : World) (h : Ym w r k (.slice a n c) b) (hk : k ≤ 100) (hn : n ≤ 1000000) (hm : m ≤ 1000000) :
    Calls Tryz.prog 106 #[.pointer (some ⟨r, 0, none⟩), .slice a2 m c2] w fun en w' => en = .returned (.bool (tkp k n m)) ∧ Drawn w w' := by
  have c0 := h.c0
  have c1 := h.c1
  unfold tkp
  clear h
  by_cases h0 : k = 0
  · subst h0
    rw [if_pos rfl]
    have e1 : ((m : Int) == 480) = decide (m = 480) := by
      by_cases q : m = 480
      · subst q; rfl
      · rw [decide_eq_false q]; simp; omega
    go_enter Tryz.func106, Tryz.ntmps106
    go_wp2_with fail
    go_ret
    exact ⟨by first | rfl | (rw [e1]) , ⟨rfl, rfl, rfl, rfl⟩⟩
  · rw [if_neg h0]
    have hkb : ((k : Int) == 0) = false := by simp; omega
    obtain ⟨M, HM⟩ : ∃ M, Hid (k * 480 = M) := ⟨_, rfl⟩
    have hM : (k : Int) * 480 = (M : Int) := by have := HM.out; omega
    have hMw : IntKind.i64.wrap ((k : Int) * 480) = (M : Int) := by rw [IntKind.wrap_i64]; have := HM.out; omega
    rw [HM.out]
    by_cases hf : n = M
    · have f1 : ((n : Int) == (M : Int)) = true := by simp; omega
      rw [decide_eq_true hf, Bool.true_and]
      by_cases hl : n < 4800
      · have f2 : (n : Int) < 4800 := by omega
        have f3 : decide ((n : Int) < 4800) = true := decide_eq_true f2
        rw [decide_eq_true hl, Bool.true_and]
        clear hf hl
        go_enter Tryz.func106, Tryz.ntmps106
        go_wp2_with fail
        go_quiet (fail)
        go_wp2_with fail
        go_ret
        exact ⟨rfl, drawnN w _⟩
      · have f2 : ¬ (n : Int) < 4800 := by omega
        have f3 : decide ((n : Int) < 4800) = false := decide_eq_false f2
        rw [decide_eq_false hl, Bool.false_and]
        clear hf hl
        go_enter Tryz.func106, Tryz.ntmps106
        go_wp2_with fail
        go_quiet (fail)
        go_wp2_with fail
        go_ret
        exact ⟨rfl, drawnN w _⟩
    · have f1 : ((n : Int) == (M : Int)) = false := by simp; omega
      rw [decide_eq_false hf, Bool.false_and]
      clear hf
      go_enter Tryz.func106, Tryz.ntmps106
      go_wp2_with fail
      go_quiet (fail)
      go_wp2_with fail
      go_ret
      exact ⟨rfl, drawnN w _⟩
end Go.Proofs.YtblcpdffiafgnaaGreatDoor
namespace Go.Proofs.YtblcpdffiafgnaaGreatDoor
set_option linter.unusedSimpArgs false
set_option maxRecDepth 100000
open Go.RowKit Go.Shelf
set_option linter.unusedVariables false

theorem bel_set {B b i : Nat} {w0 w : World} (h : Below B w0 w) (hb : B ≤ b) (v : Value) : Below B w0 (w.setCell ⟨b, i, none⟩ v) := h.setCell (p := ⟨b, i, none⟩) hb v
theorem own_set {w : World} {B n r i sz : Nat} {t : TypeId} {v x : Value} {xs : List Value} (h : w.ownsRow B t sz v n xs) (hr : ∀ g, v.ownBlock = some g → g ≠ r) : (w.setCell ⟨r, i, none⟩ x).ownsRow B t sz v n xs := own_at' h (fun g e => Below.heap_setCell _ _ _ _ (fun q => hr g e q))
theorem own_bel12 {w w' : World} {B n sz : Nat} {t : TypeId} {v : Value} {xs : List Value} (h : w.ownsRow B t sz v n xs) (hb : Below w.heap.size w w') : w'.ownsRow B t sz v n xs := own_at' h (fun g e => hb.block g (h.lt g e).2)
/-- A block of a row is no block of bytes. -/
theorem Ym.own {w : World} {r k n B : Nat} {v x : Value} {b : Bool} {xs : List Value} (h : Ym w r k v b) (ho : w.ownsRow B 5 1 x n xs) : ∀ g, x.ownBlock = some g → g ≠ r := fun g e q => by
  obtain ⟨cur, hc⟩ := own_ty ho e
  subst q
  unfold Ym at h
  rw [h] at hc
  simp at hc
section
variable {w : World} {r k B n : Nat} {a : Option Addr} {c : Nat} {b : Bool} {tx : List Int}
set_option maxHeartbeats 4000000 in
theorem add_none (h : Ym w r k (.slice a n c) b) (ho : w.ownsRow B 5 1 (.slice a n c) n (cells tx)) (hB : B ≤ r) (hk : k ≤ 100) (T : ByteArray) (hT : T ≠ t4 ∧ T ≠ t2 ∧ T ≠ t3) (v : Value) :
    Calls Tryz.prog 79 #[.pointer (some ⟨r, 0, none⟩), .string T, v] w fun en w' => en = .returned (.bool false) ∧ Below B w w' := by
  have q4 : (T.toList == [67, 86, 79, 49]) = false := tl_no (t := t4) rfl hT.1
  have q2 : (T.toList == [67, 86, 68, 49]) = false := tl_no (t := t2) rfl hT.2.1
  have q3 : (T.toList == [67, 86, 67, 49]) = false := tl_no (t := t3) rfl hT.2.2
  have c0 := h.c0
  have f0 := h.fz 0
  have HB := hid (bel_set (Below.refl B w) hB (i := 0) (.int .i64 ((k : Int) + 1)))
  clear h ho hT
  go_enter Tryz.func79, Tryz.ntmps79
  go_wp2_with fail
  go_ret
  exact ⟨rfl, HB.out⟩
set_option maxHeartbeats 4000000 in
theorem add_one (h : Ym w r k (.slice a n c) b) (hB : B ≤ r) (hk : k ≤ 100) (ab : Option Addr) (m cb : Nat) (l : List Int) (hb : w.ownsRow B 5 1 (.slice ab m cb) m (cells l)) :
    Calls Tryz.prog 79 #[.pointer (some ⟨r, 0, none⟩), .string t4, .slice ab m cb] w fun en w' => en = .returned (.bool (decide (k = 0) && decide (0 < m))) ∧ Ym w' r (k + 1) (.slice ab m cb) true ∧ w'.ownsRow B 5 1 (.slice ab m cb) m (cells l) ∧ Below B w w' := by
  have q4 : ((t4).toList == [67, 86, 79, 49]) = true := tl_yes rfl
  have hne := h.own hb
  have c0 := h.c0
  have c1 := h.c1
  have f1 := h.fz 1
  have h1 := h.s1 (.slice ab m cb)
  have c2 := h1.c2
  have f2 := h1.fz 2
  have h2 := h1.s2 true
  have d0 := h2.c0
  have f0 := h2.fz 0
  obtain ⟨K1, HK1⟩ : ∃ K1, Hid (k + 1 = K1) := ⟨_, rfl⟩
  have e1 : (k : Int) + 1 = (K1 : Int) := by have := HK1.out; omega
  have H3 := hid (h2.s0 K1)
  have HO := hid (own_set (i := 0) (x := .int .i64 K1) (own_set (i := 2) (x := .bool true) (own_set (i := 1) (x := .slice ab m cb) hb hne) hne) hne)
  have HB := hid (bel_set (i := 0) (bel_set (i := 2) (bel_set (i := 1) (Below.refl B w) hB (.slice ab m cb)) hB (.bool true)) hB (.int .i64 K1))
  rw [HK1.out]
  clear h h1 h2 hb hne
  generalize t4 = T at *
  by_cases hk0 : k = 0
  · have hkb : ((k : Int) == 0) = true := by simp; omega
    rw [decide_eq_true hk0, Bool.true_and]
    clear hk0
    go_enter Tryz.func79, Tryz.ntmps79
    go_wp2_with fail
    go_ret
    exact ⟨rfl, H3.out, HO.out, HB.out⟩
  · have hkb : ((k : Int) == 0) = false := by simp; omega
    rw [decide_eq_false hk0, Bool.false_and]
    go_enter Tryz.func79, Tryz.ntmps79
    go_wp2_with fail
    go_ret
    exact ⟨rfl, H3.out, HO.out, HB.out⟩
set_option maxHeartbeats 4000000 in
theorem add_piece (h : Ym w r k (.slice a n c) b) (ho : w.ownsRow B 5 1 (.slice a n c) n (cells tx)) (hB : B ≤ r) (hBw : B ≤ w.heap.size) (hk : k ≤ 100) (hn : n ≤ 100000) (ad : Addr) (m cb : Nat) (l : List Int) (hb : Bs w (some ad) m l) (hm : m ≤ 100000) :
    Calls Tryz.prog 79 #[.pointer (some ⟨r, 0, none⟩), .string t2, .slice (some ad) m cb] w fun en w' => en = .returned (.bool (tkp k n m)) ∧ ∃ a' c', Ym w' r (k + 1) (.slice a' (n + m) c') b ∧ w'.ownsRow B 5 1 (.slice a' (n + m) c') (n + m) (cells (tx ++ l)) ∧ Below B w w' := by
  obtain ⟨i5, hi5, hz0, hz1, hz2⟩ := info_parts info5
  have q4 : ((t2).toList == [67, 86, 79, 49]) = false := tl_no (t := t4) rfl (by decide)
  have q2 : ((t2).toList == [67, 86, 68, 49]) = true := tl_yes rfl
  have kt := takes_ r k a n c b (some ad) m cb w h hk (by omega) (by omega)
  obtain ⟨t, Ht⟩ : ∃ t, Hid (tkp k n m = t) := ⟨_, rfl⟩
  rw [Ht.out] at kt ⊢
  obtain ⟨K1, HK1⟩ : ∃ K1, Hid (k + 1 = K1) := ⟨_, rfl⟩
  have e1 : (k : Int) + 1 = (K1 : Int) := by have := HK1.out; omega
  rw [HK1.out]
  have HY := hid h
  have HO := hid ho
  have HBB := hid hb
  clear h ho hb
  generalize t2 = T at *
  go_enter Tryz.func79, Tryz.ntmps79
  go_wp2_with fail
  refine kt.mono ?_
  rintro en w1 ⟨rfl, d1⟩
  have Y1 := HY.out.below d1.below
  have O1 : w1.ownsRow B 5 1 (.slice a n c) n (cells tx) := own_at' HO.out (fun g e => by rw [d1.heap])
  have b1 := HBB.out.below d1.below
  have hs1 : w1.heap.size = w.heap.size := by rw [d1.heap]
  have c1 := Y1.c1
  have HD1 : Hid (Below B w w1) := ⟨d1.os, d1.tape, d1.output, by omega, fun k _ => by rw [d1.heap]⟩
  have HY1 := hid Y1
  have HO1 := hid O1
  have HB1 := hid b1
  clear kt d1 Y1 O1 b1
  go_wp2_with (at_builtin; refine wpList_append_own _ rfl _ _ 27 rfl B 5 i5 (.int .u8 0) 1 1 Tryz.underlying27 hi5 hz0 hz1 hz2 rfl (by decide) (.slice a n c) n (cells tx) rfl (by exact HO1.out) ad m cb (cells l) rfl (by rw [cells_length, HB1.out.1, Nat.mul_one]) ?c1 (cells_one l) (by unfold maxLen; omega) (by omega) (by omega) ?_)
  case c1 =>
    rcases HB1.out.2.2 with q | ⟨bb, off, q, hc⟩
    · intro j u hj
      rw [List.eq_nil_of_length_eq_zero (l := l) (by rw [HB1.out.1]; exact q)] at hj
      simp [cells] at hj
    · obtain rfl := Option.some.inj q
      intro j u hj
      have hjl : j < (cells l).length := (List.getElem?_eq_some_iff.1 hj).1
      rw [cells_length, HB1.out.1] at hjl
      have := hc j hjl
      rw [Addr.add_lit, this]
      unfold cells at hj
      rw [List.getElem?_map] at hj
      have hl1 : j < l.length := by rw [HB1.out.1]; exact hjl
      rw [List.getElem?_eq_getElem hl1] at hj
      simp only [Option.map] at hj
      rw [← hj]
      simp [List.getD, hl1]
  intro v' w2 hown hg hv
  obtain ⟨a7, c7, rfl, _, _, _⟩ := own_slice hown
  clear hv
  have hne := HY1.out.own HO1.out
  have Y2 := HY1.out.at (hg.block r HY1.out.lt (fun q => hne r q.symm rfl))
  have f1 := Y2.fz 1
  have c1 := Y2.c1
  have Y3 := Y2.s1 (.slice a7 (n + m) c7)
  have d0 := Y3.c0
  have f0 := Y3.fz 0
  have HY4 := hid (Y3.s0 K1)
  have hown' : w2.ownsRow B 5 1 (.slice a7 (n + m) c7) (n + m) (cells (tx ++ l)) := by
    have : cells (tx ++ l) = cells tx ++ cells l := by simp [cells]
    rw [this]
    exact hown
  have hne2 := Y2.own hown'
  have HO4 := hid (own_set (i := 0) (x := .int .i64 K1) (own_set (i := 1) (x := .slice a7 (n + m) c7) hown' hne2) hne2)
  have HB4 := hid (bel_set (i := 0) (bel_set (i := 1) (HD1.out.grown hg (by omega) (fun j e => (HO1.out.lt j e).1)) hB (.slice a7 (n + m) c7)) hB (.int .i64 K1))
  clear hg hown hown' hne hne2 Y2 Y3 HY1 HO1
  go_wp2_with fail
  go_ret
  exact ⟨rfl, a7, c7, HY4.out, HO4.out, HB4.out⟩
set_option maxHeartbeats 4000000 in
theorem add_end (h : Ym w r k (.slice a n c) b) (ho : w.ownsRow B 5 1 (.slice a n c) n (cells tx)) (hy : By tx) (hTb : Tab w) (hB : B ≤ r) (hBw : B ≤ w.heap.size) (hk : k ≤ 100) (hn : n ≤ 100000) (ab : Option Addr) (m cb : Nat) (l : List Int) (hb : Bs w ab m l) :
    Calls Tryz.prog 79 #[.pointer (some ⟨r, 0, none⟩), .string t3, .slice ab m cb] w fun en w' => en = .returned (.bool (decide (1 < k) && sameB l (edb tx))) ∧ Ym w' r (k + 1) (.slice a n c) true ∧ w'.ownsRow B 5 1 (.slice a n c) n (cells tx) ∧ Below B w w' := by
  have q4 : ((t3).toList == [67, 86, 79, 49]) = false := tl_no (t := t4) rfl (by decide)
  have q2 : ((t3).toList == [67, 86, 68, 49]) = false := tl_no (t := t2) rfl (by decide)
  have q3 : ((t3).toList == [67, 86, 67, 49]) = true := tl_yes rfl
  have hne := h.own ho
  have c0 := h.c0
  obtain ⟨K1, HK1⟩ : ∃ K1, Hid (k + 1 = K1) := ⟨_, rfl⟩
  have e1 : (k : Int) + 1 = (K1 : Int) := by have := HK1.out; omega
  rw [HK1.out]
  obtain ⟨a', c', e', bx, _⟩ := own_form ho hy
  obtain ⟨rfl, -, rfl⟩ : a = a' ∧ True ∧ c = c' := by simpa using e'
  clear e'
  have fin : ∀ wx, Below w.heap.size w wx → Hid (Ym ((wx.setCell ⟨r, 2, none⟩ (.bool true)).setCell ⟨r, 0, none⟩ (.int .i64 K1)) r K1 (.slice a n c) true ∧ ((wx.setCell ⟨r, 2, none⟩ (.bool true)).setCell ⟨r, 0, none⟩ (.int .i64 K1)).ownsRow B 5 1 (.slice a n c) n (cells tx) ∧ Below B w ((wx.setCell ⟨r, 2, none⟩ (.bool true)).setCell ⟨r, 0, none⟩ (.int .i64 K1))) := fun wx hx =>
    ⟨((h.below hx).s2 true).s0 K1, own_set (own_set (own_bel12 ho hx) hne) hne, bel_set (bel_set ⟨hx.os, hx.tape, hx.output, hx.size, fun k hk => hx.block k (by omega)⟩ hB _) hB _⟩
  by_cases hk1 : 1 < k
  · have hkI : (1 : Int) < (k : Int) := by omega
    have hkB : decide ((1 : Int) < (k : Int)) = true := decide_eq_true hkI
    rw [decide_eq_true hk1, Bool.true_and]
    have c1 := h.c1
    have ke := endOf_ a n c tx w hTb bx (by omega)
    have HY := hid h
    have HBB := hid hb
    obtain ⟨t, Ht⟩ : ∃ t, Hid (sameB l (edb tx) = t) := ⟨_, rfl⟩
    rw [Ht.out]
    clear h ho hb bx hk1
    generalize t3 = T at *
    go_enter Tryz.func79, Tryz.ntmps79
    go_wp2_with fail
    refine ke.mono ?_
    rintro en w1 ⟨g4, rfl, hg4, r4, B4⟩
    have kq := equal_ ab (some ⟨g4, 0, none⟩) m cb 10 10 l (edb tx) w1 (HBB.out.below B4) (r4.bs12 (edb_length tx) (edb_by tx))
    rw [Ht.out] at kq
    have Y1 := HY.out.below B4
    have c2 := Y1.c2
    have f2 := Y1.fz 2
    have Y2 := Y1.s2 true
    have d0 := Y2.c0
    have f0 := Y2.fz 0
    have HF := fin w1 B4
    clear ke B4 r4 Y1 Y2 fin
    go_wp2_with fail
    refine kq.mono ?_
    rintro en w2 ⟨rfl, hw⟩
    obtain rfl := hw.symm
    clear hw kq
    go_wp2_with fail
    go_ret
    exact ⟨rfl, HF.out⟩
  · have hkI : ¬ (1 : Int) < (k : Int) := by omega
    have hkB : decide ((1 : Int) < (k : Int)) = false := decide_eq_false hkI
    rw [decide_eq_false hk1, Bool.false_and]
    have c2 := h.c2
    have f2 := h.fz 2
    have Y2 := h.s2 true
    have d0 := Y2.c0
    have f0 := Y2.fz 0
    have HF := fin w (Below.refl _ _)
    clear h ho hb bx hk1 Y2 fin
    generalize t3 = T at *
    go_enter Tryz.func79, Tryz.ntmps79
    go_wp2_with fail
    go_ret
    exact ⟨rfl, HF.out⟩
end
end Go.Proofs.YtblcpdffiafgnaaGreatDoor
namespace Go.Proofs.YtblcpdffiafgnaaGreatDoor
set_option linter.unusedSimpArgs false
set_option maxRecDepth 100000
open Go.RowKit Go.Shelf
set_option linter.unusedVariables false

/-- A reader: what is left, or broken. -/
def Rs (w : World) (r g k : Nat) (z : Option (List Int)) : Prop :=
  match z with
  | some zs => ∃ p : Int, 0 ≤ p ∧ p ≤ k ∧ zs.length ≤ 1000 ∧ RdB w r g zs p
  | none => ∃ p e, Rb w r p e
def vz (z : Option (List Int)) : Int :=
  match z with
  | some zs => if 4 ≤ zs.length then val (zs.take 4) else 0
  | none => 0
def nz (z : Option (List Int)) : Option (List Int) :=
  match z with
  | some zs => if 4 ≤ zs.length then some (zs.drop 4) else none
  | none => none
theorem vz_bd {z : Option (List Int)} (h : ∀ zs, z = some zs → By zs) : 0 ≤ vz z ∧ vz z < 4294967296 := by
  unfold vz
  cases z with
  | none => exact ⟨by simp, by simp⟩
  | some zs =>
    simp only
    split
    · rename_i h4
      have := val_w (zs := zs) (W := 4) h4 (fun z hz => h zs rfl z (List.mem_of_mem_take hz))
      exact ⟨this.1, by have := this.2; omega⟩
    · exact ⟨by omega, by omega⟩
theorem nz_by {z : Option (List Int)} (h : ∀ zs, z = some zs → By zs) : ∀ zs, nz z = some zs → By zs := fun zs hz => by
  unfold nz at hz
  cases z with
  | none => cases hz
  | some ys =>
    simp only at hz
    split at hz
    · obtain rfl := Option.some.inj hz
      exact (h ys rfl).drop 4
    · cases hz
/-- The next number, whatever the reader is. -/
theorem getR_ (r g k : Nat) (z : Option (List Int)) (w : World) (h : Rs w r g k z) (hk : k ≤ 1000) :
    Calls Tryz.prog 122 #[.pointer (some ⟨r, 0, none⟩)] w fun en w' => en = .returned (.int .u32 (vz z)) ∧ Rs w' r g (k + 4) (nz z) ∧ Only r w w' := by
  cases z with
  | none =>
    obtain ⟨p, e, hb⟩ := h
    refine (get32_broken r p e w hb).mono ?_
    rintro en w' ⟨rfl, rfl⟩
    exact ⟨rfl, ⟨p, e, hb⟩, Only.refl _ _⟩
  | some zs =>
    obtain ⟨p, p0, p1, hl, hb⟩ := h
    by_cases h4 : 4 ≤ zs.length
    · refine (get32_whole r g zs p w hb h4 (by omega) p0 (by omega)).mono ?_
      rintro en w' ⟨rfl, h1, h2⟩
      refine ⟨by unfold vz; simp only; rw [if_pos h4], ?_, h2⟩
      unfold nz
      simp only
      rw [if_pos h4]
      exact ⟨p + 4, by omega, by omega, by simp; omega, h1⟩
    · refine (get32_short r g zs p w hb (by omega)).mono ?_
      rintro en w' ⟨rfl, h1, h2⟩
      refine ⟨by unfold vz; simp only; rw [if_neg h4], ?_, h2⟩
      unfold nz
      simp only
      rw [if_neg h4]
      exact ⟨p, 10, h1⟩
theorem Only.bel {r : Nat} {x y : World} {B : Nat} (h : Only r x y) (hB : B ≤ r) : Below B x y := h.below hB
theorem leftR_ (r g k : Nat) (z : Option (List Int)) (w : World) (h : Rs w r g k z) :
    Calls Tryz.prog 124 #[.pointer (some ⟨r, 0, none⟩)] w fun en w' => en = .returned (.int .i64 ((match z with | some zs => zs.length | none => 0 : Nat) : Int)) ∧ w' = w := by
  have key : ∀ a n c p e, Rdr w r a n c p e → Calls Tryz.prog 124 #[.pointer (some ⟨r, 0, none⟩)] w fun en w' => en = .returned (.int .i64 n) ∧ w' = w := fun a n c p e h => by
    have h0 := h.c0
    clear h
    go_enter Tryz.func124, Tryz.ntmps124
    go_wp2
    go_ret
    exact ⟨rfl, rfl⟩
  cases z with
  | none =>
    obtain ⟨p, e, hb⟩ := h
    exact key none 0 0 p e hb.1
  | some zs =>
    obtain ⟨p, _, _, _, hb⟩ := h
    obtain ⟨_, a, n, c, h1, h2⟩ := hb
    have := key a n c p 0 h1
    rw [show n = zs.length from h2.1.symm] at this
    exact this
theorem errR_ (r g k : Nat) (z : Option (List Int)) (w : World) (h : Rs w r g k z) :
    Calls Tryz.prog 123 #[.pointer (some ⟨r, 0, none⟩)] w fun en w' => ∃ e p, en = .returned (.tuple #[.int .i64 e, .int .i64 p]) ∧ (e != 0) = z.isNone ∧ Drawn w w' := by
  cases z with
  | none =>
    obtain ⟨p, e, hb⟩ := h
    refine (err_broken r p e w hb).mono ?_
    rintro en w' ⟨rfl, n, rfl⟩
    exact ⟨e, p, rfl, hb.2, drawnN w n⟩
  | some zs =>
    obtain ⟨p, _, _, _, hb⟩ := h
    refine (err_whole r g zs p w hb).mono ?_
    rintro en w' ⟨rfl, n, rfl⟩
    exact ⟨0, p, rfl, rfl, drawnN w n⟩
theorem Rs.at {w w' : World} {r g k : Nat} {z : Option (List Int)} (h : Rs w r g k z) (hr : w'.heap[r]? = w.heap[r]?) (hg : g < w.heap.size → w'.heap[g]? = w.heap[g]?) : Rs w' r g k z := by
  cases z with
  | none =>
    obtain ⟨p, e, hb⟩ := h
    exact ⟨p, e, hb.kept hr⟩
  | some zs =>
    obtain ⟨p, h1, h2, h3, hb⟩ := h
    exact ⟨p, h1, h2, h3, hb.kept hr hg⟩
theorem Rs.lt {w : World} {r g k : Nat} {z : Option (List Int)} (h : Rs w r g k z) : r < w.heap.size := by
  cases z with
  | none => obtain ⟨p, e, hb⟩ := h; exact hb.lt
  | some zs => obtain ⟨p, h1, h2, h3, hb⟩ := h; exact hb.lt
theorem Rs.below {w w' : World} {r g k : Nat} {z : Option (List Int)} (h : Rs w r g k z) (hb : Below w.heap.size w w') : Rs w' r g k z := h.at (hb.block r h.lt) (fun q => hb.block g q)
/-- What four numbers of a body are. -/
theorem nz4 (l : List Int) : nz (nz (nz (nz (some l)))) = if 16 ≤ l.length then some (l.drop 16) else none := by
  unfold nz
  by_cases h1 : 4 ≤ l.length
  · simp only [if_pos h1, List.length_drop]
    by_cases h2 : 4 ≤ l.length - 4
    · simp only [if_pos h2, List.length_drop]
      by_cases h3 : 4 ≤ l.length - 4 - 4
      · simp only [if_pos h3, List.length_drop]
        by_cases h4 : 4 ≤ l.length - 4 - 4 - 4
        · simp only [if_pos h4]
          rw [if_pos (by omega)]
          simp
        · simp only [if_neg h4]
          rw [if_neg (by omega)]
      · simp only [if_neg h3]
        rw [if_neg (by omega)]
    · simp only [if_neg h2]
      rw [if_neg (by omega)]
  · simp only [if_neg h1]
    rw [if_neg (by omega)]
theorem vz4 {l : List Int} (h : l.length = 16) : vz (some l) = val (sl l 0 4) ∧ vz (nz (some l)) = val (sl l 4 4) ∧ vz (nz (nz (some l))) = val (sl l 8 4) ∧ vz (nz (nz (nz (some l)))) = val (sl l 12 4) := by
  have e1 : nz (some l) = some (l.drop 4) := by unfold nz; simp only; rw [if_pos (by omega)]
  have e2 : nz (some (l.drop 4)) = some ((l.drop 4).drop 4) := by unfold nz; simp only; rw [if_pos (by simp; omega)]
  have e3 : nz (some ((l.drop 4).drop 4)) = some (((l.drop 4).drop 4).drop 4) := by unfold nz; simp only; rw [if_pos (by simp; omega)]
  rw [e1, e2, e3]
  unfold vz sl
  simp only [List.drop_drop, List.length_drop]
  refine ⟨?_, ?_, ?_, ?_⟩
  · rw [if_pos (by omega)]; rfl
  · rw [if_pos (by omega)]
  · rw [if_pos (by omega)]
  · rw [if_pos (by omega)]
end Go.Proofs.YtblcpdffiafgnaaGreatDoor
