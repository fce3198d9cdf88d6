import Derived.Test.YtjajcbjodokfnaaGreatDoorS6
namespace Go.Proofs.YtjajcbjodokfnaaGreatDoor
set_option maxRecDepth 100000
open Go.RowKit
set_option linter.unusedVariables false

/-- What Right tells. -/
def rt (b : List Int) (T : ByteArray) (e q p : Int) : Option (List Int) :=
  match gs b with
  | some s => if s.T = T ∧ s.e = e ∧ s.q = q ∧ s.p = p then some s.l else none
  | none => none
theorem rt_some {b : List Int} {T : ByteArray} {e q p : Int} {l : List Int} (h : rt b T e q p = some l) : gs b = some ⟨T, e, q, p, l⟩ := by
  unfold rt at h
  cases hg : gs b with
  | none => rw [hg] at h; cases h
  | some s =>
    rw [hg] at h
    simp only at h
    split at h
    · rename_i k
      obtain ⟨rfl, rfl, rfl, rfl⟩ := k
      obtain rfl := Option.some.inj h
      rfl
    · cases h
theorem tne_yes {S T : ByteArray} (h : S ≠ T) : (S.toList != T.toList) = true := by rw [bne_iff_ne]; exact fun k => h (toList_inj k)
theorem tne_no (T : ByteArray) : (T.toList != T.toList) = false := by simp
set_option maxHeartbeats 4000000 in
theorem right_y (T0 : ByteArray) (e0 q0 p0 : Int) (l : List Int) (a : Option Addr) (n0 c : Nat) (zs : List Int) (w : World) (hT : Tab w) (hb : Bs w a n0 zs) (hc : n0 ≤ c) (hm : c ≤ maxLen) (hs : gs zs = some ⟨T0, e0, q0, p0, l⟩) :
    Calls Tryz.prog 156 #[.slice a n0 c, .string T0, .int .i64 e0, .int .i64 q0, .int .i64 p0] w fun en w' => ∃ g, en = .returned (.tuple #[.slice (some ⟨g, 0, none⟩) l.length l.length, .bool true]) ∧ w.heap.size ≤ g ∧ Row w' g l ∧ Below w.heap.size w w' := by
  have HB := hid hb
  clear hb
  go_enter Tryz.func156, Tryz.ntmps156
  go_wp2_with fail
  refine (get_y a n0 c zs w hT HB.out hc hm ⟨T0, e0, q0, p0, l⟩ hs).mono ?_
  rintro x1 w1 ⟨g, rfl, hg, r1, g1⟩
  simp only
  generalize hln : l.length = n at *
  have m1 := Sm.new w1 T0 e0 q0 p0 (.slice (some ⟨g, 0, none⟩) n n)
  have B1 : Below w.heap.size w (w1.alloc (.cells #[.string T0, .int .i64 e0, .int .i64 q0, .int .i64 p0, .slice (some ⟨g, 0, none⟩) n n] 40)) := g1.alloc g1.size _
  have r2 : Row (w1.alloc (.cells #[.string T0, .int .i64 e0, .int .i64 q0, .int .i64 p0, .slice (some ⟨g, 0, none⟩) n n] 40)) g l := r1.kept (r := none) (World.grownBy_alloc w1 _ _) (by simp)
  have R2 := hid r2
  have BB := hid B1
  have d0 := m1.c0
  have d1 := m1.c1
  have d2 := m1.c2
  have d3 := m1.c3
  have d4 := m1.c4
  clear m1 B1 r2 r1 g1 hs
  have x0 := tne_no T0
  have x1 : (e0 != e0) = false := by simp
  have x2 : (q0 != q0) = false := by simp
  have x3 : (p0 != p0) = false := by simp
  go_wp2
  go_ret2
  exact ⟨g, by rw [hln]; rfl, hg, R2.out, BB.out⟩
set_option maxHeartbeats 4000000 in
theorem right_0 (T : ByteArray) (e q p : Int) (a : Option Addr) (n0 c : Nat) (zs : List Int) (w : World) (hT : Tab w) (hb : Bs w a n0 zs) (hc : n0 ≤ c) (hm : c ≤ maxLen) (hs : gs zs = none) :
    Calls Tryz.prog 156 #[.slice a n0 c, .string T, .int .i64 e, .int .i64 q, .int .i64 p] w fun en w' => en = .returned (.tuple #[.slice none 0 0, .bool false]) ∧ Below w.heap.size w w' := by
  have HB := hid hb
  clear hb
  go_enter Tryz.func156, Tryz.ntmps156
  go_wp2_with fail
  refine (get_n a n0 c zs w hT HB.out hc hm hs).mono ?_
  rintro x1 w1 ⟨rfl, g1⟩
  have B1 : Below w.heap.size w (w1.alloc (.cells #[.string ⟨#[]⟩, .int .i64 0, .int .i64 0, .int .i64 0, .slice none 0 0] 40)) := g1.alloc g1.size _
  go_wp2
  go_ret2
  exact ⟨rfl, B1⟩
set_option maxHeartbeats 4000000 in
theorem right_1 (T0 : ByteArray) (e0 q0 p0 : Int) (l : List Int) (T : ByteArray) (e : Int) (q : Int) (p : Int) (a : Option Addr) (n0 c : Nat) (zs : List Int) (w : World) (hT : Tab w) (hb : Bs w a n0 zs) (hc : n0 ≤ c) (hm : c ≤ maxLen) (hs : gs zs = some ⟨T0, e0, q0, p0, l⟩) (hne : T0 ≠ T) :
    Calls Tryz.prog 156 #[.slice a n0 c, .string T, .int .i64 e, .int .i64 q, .int .i64 p] w fun en w' => en = .returned (.tuple #[.slice none 0 0, .bool false]) ∧ Below w.heap.size w w' := by
  have HB := hid hb
  clear hb
  go_enter Tryz.func156, Tryz.ntmps156
  go_wp2_with fail
  refine (get_y a n0 c zs w hT HB.out hc hm ⟨T0, e0, q0, p0, l⟩ hs).mono ?_
  rintro x1 w1 ⟨g, rfl, hg, r1, g1⟩
  simp only
  generalize hln : l.length = n at *
  have m1 := Sm.new w1 T0 e0 q0 p0 (.slice (some ⟨g, 0, none⟩) n n)
  have B1 : Below w.heap.size w (w1.alloc (.cells #[.string T0, .int .i64 e0, .int .i64 q0, .int .i64 p0, .slice (some ⟨g, 0, none⟩) n n] 40)) := g1.alloc g1.size _
  have r2 : Row (w1.alloc (.cells #[.string T0, .int .i64 e0, .int .i64 q0, .int .i64 p0, .slice (some ⟨g, 0, none⟩) n n] 40)) g l := r1.kept (r := none) (World.grownBy_alloc w1 _ _) (by simp)
  have R2 := hid r2
  have BB := hid B1
  have d0 := m1.c0
  have d1 := m1.c1
  have d2 := m1.c2
  have d3 := m1.c3
  have d4 := m1.c4
  clear m1 B1 r2 r1 g1 hs
  have x0 : ¬ T0.toList = T.toList := fun k => hne (toList_inj k)
  go_wp2
  go_ret2
  exact ⟨rfl, BB.out⟩
set_option maxHeartbeats 4000000 in
theorem right_2 (T0 : ByteArray) (e0 q0 p0 : Int) (l : List Int) (e : Int) (q : Int) (p : Int) (a : Option Addr) (n0 c : Nat) (zs : List Int) (w : World) (hT : Tab w) (hb : Bs w a n0 zs) (hc : n0 ≤ c) (hm : c ≤ maxLen) (hs : gs zs = some ⟨T0, e0, q0, p0, l⟩) (hne : e0 ≠ e) :
    Calls Tryz.prog 156 #[.slice a n0 c, .string T0, .int .i64 e, .int .i64 q, .int .i64 p] w fun en w' => en = .returned (.tuple #[.slice none 0 0, .bool false]) ∧ Below w.heap.size w w' := by
  have HB := hid hb
  clear hb
  go_enter Tryz.func156, Tryz.ntmps156
  go_wp2_with fail
  refine (get_y a n0 c zs w hT HB.out hc hm ⟨T0, e0, q0, p0, l⟩ hs).mono ?_
  rintro x1 w1 ⟨g, rfl, hg, r1, g1⟩
  simp only
  generalize hln : l.length = n at *
  have m1 := Sm.new w1 T0 e0 q0 p0 (.slice (some ⟨g, 0, none⟩) n n)
  have B1 : Below w.heap.size w (w1.alloc (.cells #[.string T0, .int .i64 e0, .int .i64 q0, .int .i64 p0, .slice (some ⟨g, 0, none⟩) n n] 40)) := g1.alloc g1.size _
  have r2 : Row (w1.alloc (.cells #[.string T0, .int .i64 e0, .int .i64 q0, .int .i64 p0, .slice (some ⟨g, 0, none⟩) n n] 40)) g l := r1.kept (r := none) (World.grownBy_alloc w1 _ _) (by simp)
  have R2 := hid r2
  have BB := hid B1
  have d0 := m1.c0
  have d1 := m1.c1
  have d2 := m1.c2
  have d3 := m1.c3
  have d4 := m1.c4
  clear m1 B1 r2 r1 g1 hs
  have x0 := tne_no T0
  have x1 : (e0 != e) = true := by rw [bne_iff_ne]; exact hne
  go_wp2
  go_ret2
  exact ⟨rfl, BB.out⟩
set_option maxHeartbeats 4000000 in
theorem right_3 (T0 : ByteArray) (e0 q0 p0 : Int) (l : List Int) (q : Int) (p : Int) (a : Option Addr) (n0 c : Nat) (zs : List Int) (w : World) (hT : Tab w) (hb : Bs w a n0 zs) (hc : n0 ≤ c) (hm : c ≤ maxLen) (hs : gs zs = some ⟨T0, e0, q0, p0, l⟩) (hne : q0 ≠ q) :
    Calls Tryz.prog 156 #[.slice a n0 c, .string T0, .int .i64 e0, .int .i64 q, .int .i64 p] w fun en w' => en = .returned (.tuple #[.slice none 0 0, .bool false]) ∧ Below w.heap.size w w' := by
  have HB := hid hb
  clear hb
  go_enter Tryz.func156, Tryz.ntmps156
  go_wp2_with fail
  refine (get_y a n0 c zs w hT HB.out hc hm ⟨T0, e0, q0, p0, l⟩ hs).mono ?_
  rintro x1 w1 ⟨g, rfl, hg, r1, g1⟩
  simp only
  generalize hln : l.length = n at *
  have m1 := Sm.new w1 T0 e0 q0 p0 (.slice (some ⟨g, 0, none⟩) n n)
  have B1 : Below w.heap.size w (w1.alloc (.cells #[.string T0, .int .i64 e0, .int .i64 q0, .int .i64 p0, .slice (some ⟨g, 0, none⟩) n n] 40)) := g1.alloc g1.size _
  have r2 : Row (w1.alloc (.cells #[.string T0, .int .i64 e0, .int .i64 q0, .int .i64 p0, .slice (some ⟨g, 0, none⟩) n n] 40)) g l := r1.kept (r := none) (World.grownBy_alloc w1 _ _) (by simp)
  have R2 := hid r2
  have BB := hid B1
  have d0 := m1.c0
  have d1 := m1.c1
  have d2 := m1.c2
  have d3 := m1.c3
  have d4 := m1.c4
  clear m1 B1 r2 r1 g1 hs
  have x0 := tne_no T0
  have x1 : (e0 != e0) = false := by simp
  have x2 : (q0 != q) = true := by rw [bne_iff_ne]; exact hne
  go_wp2
  go_ret2
  exact ⟨rfl, BB.out⟩
set_option maxHeartbeats 4000000 in
theorem right_4 (T0 : ByteArray) (e0 q0 p0 : Int) (l : List Int) (p : Int) (a : Option Addr) (n0 c : Nat) (zs : List Int) (w : World) (hT : Tab w) (hb : Bs w a n0 zs) (hc : n0 ≤ c) (hm : c ≤ maxLen) (hs : gs zs = some ⟨T0, e0, q0, p0, l⟩) (hne : p0 ≠ p) :
    Calls Tryz.prog 156 #[.slice a n0 c, .string T0, .int .i64 e0, .int .i64 q0, .int .i64 p] w fun en w' => en = .returned (.tuple #[.slice none 0 0, .bool false]) ∧ Below w.heap.size w w' := by
  have HB := hid hb
  clear hb
  go_enter Tryz.func156, Tryz.ntmps156
  go_wp2_with fail
  refine (get_y a n0 c zs w hT HB.out hc hm ⟨T0, e0, q0, p0, l⟩ hs).mono ?_
  rintro x1 w1 ⟨g, rfl, hg, r1, g1⟩
  simp only
  generalize hln : l.length = n at *
  have m1 := Sm.new w1 T0 e0 q0 p0 (.slice (some ⟨g, 0, none⟩) n n)
  have B1 : Below w.heap.size w (w1.alloc (.cells #[.string T0, .int .i64 e0, .int .i64 q0, .int .i64 p0, .slice (some ⟨g, 0, none⟩) n n] 40)) := g1.alloc g1.size _
  have r2 : Row (w1.alloc (.cells #[.string T0, .int .i64 e0, .int .i64 q0, .int .i64 p0, .slice (some ⟨g, 0, none⟩) n n] 40)) g l := r1.kept (r := none) (World.grownBy_alloc w1 _ _) (by simp)
  have R2 := hid r2
  have BB := hid B1
  have d0 := m1.c0
  have d1 := m1.c1
  have d2 := m1.c2
  have d3 := m1.c3
  have d4 := m1.c4
  clear m1 B1 r2 r1 g1 hs
  have x0 := tne_no T0
  have x1 : (e0 != e0) = false := by simp
  have x2 : (q0 != q0) = false := by simp
  have x3 : (p0 != p) = true := by rw [bne_iff_ne]; exact hne
  go_wp2
  go_ret2
  exact ⟨rfl, BB.out⟩
/-- Right where it does not tell. -/
theorem right_n (T : ByteArray) (e q p : Int) (a : Option Addr) (n0 c : Nat) (zs : List Int) (w : World) (hT : Tab w) (hb : Bs w a n0 zs) (hc : n0 ≤ c) (hm : c ≤ maxLen) (hs : rt zs T e q p = none) :
    Calls Tryz.prog 156 #[.slice a n0 c, .string T, .int .i64 e, .int .i64 q, .int .i64 p] w fun en w' => en = .returned (.tuple #[.slice none 0 0, .bool false]) ∧ Below w.heap.size w w' := by
  cases hg : gs zs with
  | none => exact right_0 T e q p a n0 c zs w hT hb hc hm hg
  | some s =>
    obtain ⟨T0, e0, q0, p0, l⟩ := s
    unfold rt at hs
    rw [hg] at hs
    simp only at hs
    by_cases h1 : T0 = T
    · subst h1
      by_cases h2 : e0 = e
      · subst h2
        by_cases h3 : q0 = q
        · subst h3
          by_cases h4 : p0 = p
          · subst h4
            rw [if_pos ⟨rfl, rfl, rfl, rfl⟩] at hs
            cases hs
          · exact right_4 T0 e0 q0 p0 l p a n0 c zs w hT hb hc hm hg h4
        · exact right_3 T0 e0 q0 p0 l q p a n0 c zs w hT hb hc hm hg h3
      · exact right_2 T0 e0 q0 p0 l e q p a n0 c zs w hT hb hc hm hg h2
    · exact right_1 T0 e0 q0 p0 l T e q p a n0 c zs w hT hb hc hm hg h1
end Go.Proofs.YtjajcbjodokfnaaGreatDoor
