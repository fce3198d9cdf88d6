import Derived.Test.YtblcpdffiafgnaaGreatDoorCTab
import Derived.Test.YtblcpdffiafgnaaGreatDoorCTake
import Derived.Test.YtblcpdffiafgnaaGreatDoorSP
import Derived.Laws.CopyRow
import Derived.Laws.IdiomStrings
namespace Go.Proofs.YtblcpdffiafgnaaGreatDoor
set_option maxRecDepth 100000
open Go.RowKit
set_option linter.unusedVariables false

theorem size_data (bs : ByteArray) : bs.data.toList.length = bs.size := Array.length_toList
theorem loop_data (bs : ByteArray) : ∀ (k i : Nat) (r : List UInt8), bs.size - i = k → ByteArray.toList.loop bs i r = r.reverse ++ bs.data.toList.drop i := by
  intro k
  induction k with
  | zero =>
    intro i r h
    rw [ByteArray.toList.loop]
    rw [if_neg (by omega)]
    have : bs.data.toList.drop i = [] := List.drop_eq_nil_of_le (by rw [size_data]; omega)
    rw [this, List.append_nil]
  | succ k ih =>
    intro i r h
    rw [ByteArray.toList.loop]
    rw [if_pos (by omega), ih (i + 1) _ (by omega)]
    have hi : i < bs.data.toList.length := by rw [size_data]; omega
    rw [List.drop_eq_getElem_cons hi, List.reverse_cons, List.append_assoc]
    have : bs.get! i = bs.data.toList[i] := by
      show bs.data[i]! = _
      rw [getElem!_pos bs.data i (by rw [← Array.length_toList]; exact hi)]
      simp
    rw [this]
    rfl
theorem toList_data (bs : ByteArray) : bs.toList = bs.data.toList := by
  unfold ByteArray.toList
  rw [loop_data bs _ 0 [] rfl]
  simp
theorem toList_inj {a b : ByteArray} (h : a.toList = b.toList) : a = b := by
  rw [toList_data, toList_data] at h
  exact Go.WideShapes.bytes_inj h
theorem tl_no {T t : ByteArray} {l : List UInt8} (e : t.data.toList = l) (h : T ≠ t) : (T.toList == l) = false := by
  rw [beq_eq_false_iff_ne, ← e, ← toList_data]
  exact fun k => h (toList_inj k)
theorem tl_yes {t : ByteArray} {l : List UInt8} (e : t.data.toList = l) : (t.toList == l) = true := by
  rw [toList_data, e]; exact beq_self_eq_true l
theorem tl_val {t : ByteArray} {l : List UInt8} (e : t.data.toList = l) : t.toList = l := by rw [toList_data, e]

theorem isTag_y {T : ByteArray} (w : World) (h : isT T) : Calls Tryz.prog 128 #[.string T] w fun e w' => e = .returned (.bool true) ∧ w' = w := by
  rcases h with rfl | rfl | rfl | rfl
  · have h0 : ((t1).toList == [67, 86, 83, 49]) = true := tl_yes rfl
    generalize t1 = T at *
    go_enter Tryz.func128, Tryz.ntmps128
    go_wp2
    go_ret
    exact ⟨rfl, rfl⟩
  · have h1 : ((t2).toList == [67, 86, 68, 49]) = true := tl_yes rfl
    have h0 : ((t2).toList == [67, 86, 83, 49]) = false := tl_no (t := t1) rfl (by decide)
    generalize t2 = T at *
    go_enter Tryz.func128, Tryz.ntmps128
    go_wp2
    go_ret
    exact ⟨rfl, rfl⟩
  · have h2 : ((t3).toList == [67, 86, 67, 49]) = true := tl_yes rfl
    have h0 : ((t3).toList == [67, 86, 83, 49]) = false := tl_no (t := t1) rfl (by decide)
    have h1 : ((t3).toList == [67, 86, 68, 49]) = false := tl_no (t := t2) rfl (by decide)
    generalize t3 = T at *
    go_enter Tryz.func128, Tryz.ntmps128
    go_wp2
    go_ret
    exact ⟨rfl, rfl⟩
  · have h3 : ((t4).toList == [67, 86, 79, 49]) = true := tl_yes rfl
    have h0 : ((t4).toList == [67, 86, 83, 49]) = false := tl_no (t := t1) rfl (by decide)
    have h1 : ((t4).toList == [67, 86, 68, 49]) = false := tl_no (t := t2) rfl (by decide)
    have h2 : ((t4).toList == [67, 86, 67, 49]) = false := tl_no (t := t3) rfl (by decide)
    generalize t4 = T at *
    go_enter Tryz.func128, Tryz.ntmps128
    go_wp2
    go_ret
    exact ⟨rfl, rfl⟩
theorem isTag_n {T : ByteArray} (w : World) (h : ¬ isT T) : Calls Tryz.prog 128 #[.string T] w fun e w' => e = .returned (.bool false) ∧ w' = w := by
  have h0 : (T.toList == [67, 86, 83, 49]) = false := tl_no (t := t1) rfl fun e => h (by unfold isT; simp [e])
  have h1 : (T.toList == [67, 86, 68, 49]) = false := tl_no (t := t2) rfl fun e => h (by unfold isT; simp [e])
  have h2 : (T.toList == [67, 86, 67, 49]) = false := tl_no (t := t3) rfl fun e => h (by unfold isT; simp [e])
  have h3 : (T.toList == [67, 86, 79, 49]) = false := tl_no (t := t4) rfl fun e => h (by unfold isT; simp [e])
  clear h
  go_enter Tryz.func128, Tryz.ntmps128
  go_wp2
  go_ret
  exact ⟨rfl, rfl⟩
def sq (x : Int) : Prop := 1 ≤ x ∧ x ≤ 4611686018427387904
theorem isSeq_y {x : Int} (w : World) (h : sq x) : Calls Tryz.prog 129 #[.int .i64 x] w fun e w' => e = .returned (.bool true) ∧ w' = w := by
  obtain ⟨h1, h2⟩ := h
  go_enter Tryz.func129, Tryz.ntmps129
  go_wp2
  go_ret
  exact ⟨rfl, rfl⟩
theorem isSeq_n {x : Int} (w : World) (h : ¬ sq x) : Calls Tryz.prog 129 #[.int .i64 x] w fun e w' => e = .returned (.bool false) ∧ w' = w := by
  by_cases h1 : 1 ≤ x
  · have h2 : ¬ x ≤ 4611686018427387904 := fun k => h ⟨h1, k⟩
    clear h
    go_enter Tryz.func129, Tryz.ntmps129
    go_wp2
    go_ret
    exact ⟨rfl, rfl⟩
  · clear h
    go_enter Tryz.func129, Tryz.ntmps129
    go_wp2
    go_ret
    exact ⟨rfl, rfl⟩
/-- May there be such a sector, with a body of n bytes? -/
def MayN (T : ByteArray) (e q p : Int) (n : Nat) : Prop := isT T ∧ sq e ∧ sq q ∧ (0 ≤ p ∧ p ≤ 8191) ∧ n ≤ 480
theorem may_n {s : Sec} {n : Nat} (h : s.l.length = n) : May s ↔ MayN s.T s.e s.q s.p n := by subst h; rfl
/-- The value of a sector. -/
def sv (T : ByteArray) (e q p : Int) (v : Value) : Array Value := #[.string T, .int .i64 e, .int .i64 q, .int .i64 p, v]
/-- A sector in a variable. -/
def Sm (w : World) (g : Nat) (T : ByteArray) (e q p : Int) (v : Value) : Prop := w.heap[g]? = some (.cells #[.string T, .int .i64 e, .int .i64 q, .int .i64 p, v] 31 (0, 0))
section
variable {w w' : World} {g : Nat} {T : ByteArray} {e q p : Int} {v : Value}
theorem Sm.lt (h : Sm w g T e q p v) : g < w.heap.size := (Array.getElem?_eq_some_iff.1 h).1
theorem Sm.c0 (h : Sm w g T e q p v) : w.cell? ⟨g, 0, none⟩ = some (.string T) := (cell_of_row w g 0 _ _ (0, 0) h).trans rfl
theorem Sm.c1 (h : Sm w g T e q p v) : w.cell? ⟨g, 1, none⟩ = some (.int .i64 e) := (cell_of_row w g 1 _ _ (0, 0) h).trans rfl
theorem Sm.c2 (h : Sm w g T e q p v) : w.cell? ⟨g, 2, none⟩ = some (.int .i64 q) := (cell_of_row w g 2 _ _ (0, 0) h).trans rfl
theorem Sm.c3 (h : Sm w g T e q p v) : w.cell? ⟨g, 3, none⟩ = some (.int .i64 p) := (cell_of_row w g 3 _ _ (0, 0) h).trans rfl
theorem Sm.c4 (h : Sm w g T e q p v) : w.cell? ⟨g, 4, none⟩ = some v := (cell_of_row w g 4 _ _ (0, 0) h).trans rfl
theorem Sm.fz (h : Sm w g T e q p v) (i : Nat) : w.frozen? ⟨g, i, none⟩ = false := by unfold Sm at h; simp [World.frozen?, h]
theorem Sm.at (h : Sm w g T e q p v) (k : w'.heap[g]? = w.heap[g]?) : Sm w' g T e q p v := by unfold Sm at *; rw [k]; exact h
theorem Sm.kept (h : Sm w g T e q p v) (hb : Below w.heap.size w w') : Sm w' g T e q p v := h.at (hb.block g h.lt)
theorem Sm.new (w : World) (T : ByteArray) (e q p : Int) (v : Value) : Sm (w.alloc (.cells #[.string T, .int .i64 e, .int .i64 q, .int .i64 p, v] 31)) w.heap.size T e q p v := heap_alloc_new w _
theorem Sm.alloc (h : Sm w g T e q p v) (o : Obj) : Sm (w.alloc o) g T e q p v := h.at (Below.heap_alloc _ _ _ h.lt)
theorem Sm.row (h : Sm w g T e q p v) (T' : ByteArray) (e' q' p' : Int) (v' : Value) : Sm (w.setRow g #[.string T', .int .i64 e', .int .i64 q', .int .i64 p', v']) g T' e' q' p' v' := setRow_heap w g _ _ _ _ h
end
theorem snew (w : World) (T : ByteArray) (e q p : Int) (v : Value) : Below w.heap.size w (w.alloc (.cells #[.string T, .int .i64 e, .int .i64 q, .int .i64 p, v] 31)) := (Below.refl _ _).alloc (Nat.le_refl _) _
theorem sizeS : (Tryz.prog.info? 31).map (·.size) = some 5 := by kernel_rfl

set_option maxHeartbeats 8000000 in
theorem mayBe_y (T : ByteArray) (e q p : Int) (a : Option Addr) (n c : Nat) (w : World) (h : MayN T e q p n) :
    Calls Tryz.prog 109 #[.agg #[.string T, .int .i64 e, .int .i64 q, .int .i64 p, .slice a n c]] w fun en w' => en = .returned (.bool true) ∧ Below w.heap.size w w' := by
  have m0 := Sm.new w T e q p (.slice a n c)
  have B0 := snew w T e q p (.slice a n c)
  have d0 := m0.c0
  have d1 := m0.c1
  have d2 := m0.c2
  have d3 := m0.c3
  have d4 := m0.c4
  clear m0
  obtain ⟨h1, h2, h3, ⟨h4, h5⟩, h6⟩ := h
  have h5' : p < 8192 := by omega
  have h6' : (n : Int) ≤ 480 := by omega
  go_enter Tryz.func109, Tryz.ntmps109
  go_wp2_with (first | (go_at_call 128; refine (isTag_y _ h1).mono ?_; rintro e1 w1 ⟨rfl, hw⟩; obtain rfl := hw.symm) | (go_at_call 129; refine (isSeq_y (x := e) _ h2).mono ?_; rintro e1 w1 ⟨rfl, hw⟩; obtain rfl := hw.symm) | (go_at_call 129; refine (isSeq_y (x := q) _ h3).mono ?_; rintro e1 w1 ⟨rfl, hw⟩; obtain rfl := hw.symm))
  go_ret
  exact ⟨rfl, B0⟩
set_option maxHeartbeats 8000000 in
theorem mayBe_n (T : ByteArray) (e q p : Int) (a : Option Addr) (n c : Nat) (w : World) (h : ¬ MayN T e q p n) :
    Calls Tryz.prog 109 #[.agg #[.string T, .int .i64 e, .int .i64 q, .int .i64 p, .slice a n c]] w fun en w' => en = .returned (.bool false) ∧ Below w.heap.size w w' := by
  have m0 := Sm.new w T e q p (.slice a n c)
  have B0 := snew w T e q p (.slice a n c)
  have d0 := m0.c0
  have d1 := m0.c1
  have d2 := m0.c2
  have d3 := m0.c3
  have d4 := m0.c4
  clear m0
  by_cases h1 : isT T
  · by_cases h2 : sq e
    · by_cases h3 : sq q
      · by_cases h4 : 0 ≤ p
        · by_cases h5 : p < 8192
          · have h6 : ¬ (n : Int) ≤ 480 := fun k => h ⟨h1, h2, h3, ⟨h4, by omega⟩, by omega⟩
            have x6 : decide ((n : Int) ≤ 480) = false := decide_eq_false h6
            clear h
            go_enter Tryz.func109, Tryz.ntmps109
            go_wp2_with (first | (go_at_call 128; refine (isTag_y _ h1).mono ?_; rintro e1 w1 ⟨rfl, hw⟩; obtain rfl := hw.symm) | (go_at_call 129; refine (isSeq_y (x := e) _ h2).mono ?_; rintro e1 w1 ⟨rfl, hw⟩; obtain rfl := hw.symm) | (go_at_call 129; refine (isSeq_y (x := q) _ h3).mono ?_; rintro e1 w1 ⟨rfl, hw⟩; obtain rfl := hw.symm))
            go_ret
            exact ⟨rfl, B0⟩
          · have x5 : decide (p < 8192) = false := decide_eq_false h5
            clear h
            go_enter Tryz.func109, Tryz.ntmps109
            go_wp2_with (first | (go_at_call 128; refine (isTag_y _ h1).mono ?_; rintro e1 w1 ⟨rfl, hw⟩; obtain rfl := hw.symm) | (go_at_call 129; refine (isSeq_y (x := e) _ h2).mono ?_; rintro e1 w1 ⟨rfl, hw⟩; obtain rfl := hw.symm) | (go_at_call 129; refine (isSeq_y (x := q) _ h3).mono ?_; rintro e1 w1 ⟨rfl, hw⟩; obtain rfl := hw.symm))
            go_ret
            exact ⟨rfl, B0⟩
        · have x4 : decide (0 ≤ p) = false := decide_eq_false h4
          clear h
          go_enter Tryz.func109, Tryz.ntmps109
          go_wp2_with (first | (go_at_call 128; refine (isTag_y _ h1).mono ?_; rintro e1 w1 ⟨rfl, hw⟩; obtain rfl := hw.symm) | (go_at_call 129; refine (isSeq_y (x := e) _ h2).mono ?_; rintro e1 w1 ⟨rfl, hw⟩; obtain rfl := hw.symm) | (go_at_call 129; refine (isSeq_y (x := q) _ h3).mono ?_; rintro e1 w1 ⟨rfl, hw⟩; obtain rfl := hw.symm))
          go_ret
          exact ⟨rfl, B0⟩
      · clear h
        go_enter Tryz.func109, Tryz.ntmps109
        go_wp2_with (first | (go_at_call 128; refine (isTag_y _ h1).mono ?_; rintro e1 w1 ⟨rfl, hw⟩; obtain rfl := hw.symm) | (go_at_call 129; refine (isSeq_y (x := e) _ h2).mono ?_; rintro e1 w1 ⟨rfl, hw⟩; obtain rfl := hw.symm) | (go_at_call 129; refine (isSeq_n (x := q) _ h3).mono ?_; rintro e1 w1 ⟨rfl, hw⟩; obtain rfl := hw.symm))
        go_ret
        exact ⟨rfl, B0⟩
    · clear h
      go_enter Tryz.func109, Tryz.ntmps109
      go_wp2_with (first | (go_at_call 128; refine (isTag_y _ h1).mono ?_; rintro e1 w1 ⟨rfl, hw⟩; obtain rfl := hw.symm) | (go_at_call 129; refine (isSeq_n (x := e) _ h2).mono ?_; rintro e1 w1 ⟨rfl, hw⟩; obtain rfl := hw.symm))
      go_ret
      exact ⟨rfl, B0⟩
  · clear h
    go_enter Tryz.func109, Tryz.ntmps109
    go_wp2_with (first | (go_at_call 128; refine (isTag_n _ h1).mono ?_; rintro e1 w1 ⟨rfl, hw⟩; obtain rfl := hw.symm))
    go_ret
    exact ⟨rfl, B0⟩
end Go.Proofs.YtblcpdffiafgnaaGreatDoor
