import Derived.Test.YtlepbncaicpmjaaSMath
import Derived.Test.YtlepbncaicpmjaaABytes
import Derived.Laws.ResultCell
import Derived.Laws.Tables
namespace Go.Proofs.Ytlepbncaicpmjaa
set_option maxRecDepth 100000
open Go.RowKit
set_option linter.unusedVariables false

theorem snew1 (w : World) (s n : Int) : Below w.heap.size w (w.alloc (.cells #[.int .i64 s, .int .i64 n] 46)) := (Below.refl _ _).alloc (Nat.le_refl _) _
theorem snew2 (w : World) (s n s' n' : Int) : Below w.heap.size w ((w.alloc (.cells #[.int .i64 s, .int .i64 n] 46)).alloc (.cells #[.int .i64 s', .int .i64 n'] 46)) := (snew1 w s n).alloc (by simp) _
/-- Are the two one? -/
def sme (s n s' n' : Int) : Bool := decide (s = s' ∧ n = n')
set_option maxHeartbeats 400000 in
theorem sameStamp_ (s n s' n' : Int) (w : World) :
    Calls Try.prog 29 #[.agg #[.int .i64 s, .int .i64 n], .agg #[.int .i64 s', .int .i64 n']] w fun e w' => e = .returned (.bool (sme s n s' n')) ∧ Below w.heap.size w w' := by
  go_enter Try.func29, Try.ntmps29
  go_wp2_with fail
  all_goals
    go_ret
    refine ⟨ret_bool ?_, snew2 w _ _ _ _⟩
    unfold sme
    first
      | exact (decide_eq_true (by omega)).symm
      | exact (decide_eq_false (by omega)).symm
      | exact decide_eq_decide.2 (by omega)
      | (rw [← Bool.decide_eq_true (_ == _)]; exact decide_eq_decide.2 (by rw [beq_iff_eq]; omega))
/-- The stamp next above. -/
def nok (s n : Int) : Bool := vld s n && !big s n
def ns (s n : Int) : Int := if nok s n then (if n = 999999999 then s + 1 else s) else 0
def nn (s n : Int) : Int := if nok s n then (if n = 999999999 then 0 else n + 1) else 0
theorem results_st {fn : Func} {p u : Tmp} (h : fn.results = #[.cell p 46, .tmp u]) (tmps : Array Value) (w : World) (g : Nat) (s n : Int) (v : Value)
    (hp : tmps.getD p undef = .pointer (some ⟨g, 0, none⟩)) (hv : tmps.getD u undef = v) (h0 : w.cell? ⟨g, 0, none⟩ = some (.int .i64 s)) (h1 : w.cell? ⟨g, 1, none⟩ = some (.int .i64 n)) :
    (results fn tmps).run Try.prog w = .ok (.tuple #[.agg #[.int .i64 s, .int .i64 n], v]) w := by
  rw [results_cell_tmp h, hp, hv]
  go_simp
/-- A stamp in a variable. -/
def Sm (w : World) (g : Nat) (s n : Int) : Prop := w.heap[g]? = some (.cells #[.int .i64 s, .int .i64 n] 46 (0, 0))
theorem Sm.lt {w : World} {g : Nat} {s n : Int} (h : Sm w g s n) : g < w.heap.size := (Array.getElem?_eq_some_iff.1 h).1
theorem Sm.c0 {w : World} {g : Nat} {s n : Int} (h : Sm w g s n) : w.cell? ⟨g, 0, none⟩ = some (.int .i64 s) := (cell_of_row w g 0 _ _ (0, 0) h).trans rfl
theorem Sm.c1 {w : World} {g : Nat} {s n : Int} (h : Sm w g s n) : w.cell? ⟨g, 1, none⟩ = some (.int .i64 n) := (cell_of_row w g 1 _ _ (0, 0) h).trans rfl
theorem Sm.fz {w : World} {g : Nat} {s n : Int} (h : Sm w g s n) (i : Nat) : w.frozen? ⟨g, i, none⟩ = false := by unfold Sm at h; simp [World.frozen?, h]
theorem Sm.kept {w w' : World} {g : Nat} {s n : Int} (h : Sm w g s n) (hb : Below w.heap.size w w') : Sm w' g s n := by
  have := h.lt
  unfold Sm at *; rw [hb.block g this]; exact h
theorem Sm.new (w : World) (s n : Int) : Sm (w.alloc (.cells #[.int .i64 s, .int .i64 n] 46)) w.heap.size s n := heap_alloc_new w _
theorem Sm.alloc {w : World} {g : Nat} {s n : Int} (h : Sm w g s n) (o : Obj) : Sm (w.alloc o) g s n := by
  have := h.lt
  unfold Sm at *; rw [Below.heap_alloc _ _ _ this]; exact h
theorem Sm.row {w : World} {g : Nat} {s n : Int} (h : Sm w g s n) (s' n' : Int) : Sm (w.setRow g #[.int .i64 s', .int .i64 n']) g s' n' := setRow_heap w g _ _ _ _ h
theorem sizest : (Try.prog.info? 46).map (·.size) = some 2 := by kernel_rfl
theorem wpList_sst {ops : Array Oper} {rest : List Oper} {o : Oper} {a : Act} {w : World} {Q : Exit → Act → World → Prop} (hgd : o.guard = none) (hdst : o.dst = none) (x y : Operand) (ho : o.op = .store 46 x y)
    (g : Nat) (s n : Int) (hx : a.eval x = .pointer (some ⟨g, 0, none⟩)) (hy : a.eval y = .agg #[.int .i64 s, .int .i64 n]) (s0 n0 : Int) (hg : Sm w g s0 n0)
    (h : wpList Try.prog ops Q rest a (w.setRow g #[.int .i64 s, .int .i64 n])) : wpList Try.prog ops Q (o :: rest) a w := by
  refine wpList_store_row hgd _ x y ho g #[.int .i64 s, .int .i64 n] hx hy _ _ hg sizest rfl (by simp [Value.oneCell']) ?_
  rw [hdst]
  exact h
theorem snew3 (w : World) (s n s' n' : Int) : Sm ((w.alloc (.cells #[.int .i64 s, .int .i64 n] 46)).alloc (.cells #[.int .i64 s', .int .i64 n'] 46)) w.heap.size s n ∧ Sm ((w.alloc (.cells #[.int .i64 s, .int .i64 n] 46)).alloc (.cells #[.int .i64 s', .int .i64 n'] 46)) (w.heap.size + 1) s' n' := by
  refine ⟨(Sm.new w s n).alloc _, ?_⟩
  have := Sm.new (w.alloc (.cells #[.int .i64 s, .int .i64 n] 46)) s' n'
  simpa using this
theorem ret_st {a b a' b' : Int} {c c' : Bool} (h1 : a = a') (h2 : b = b') (h3 : c = c') : Ending.returned (.tuple #[.agg #[.int .i64 a, .int .i64 b], .bool c]) = .returned (.tuple #[.agg #[.int .i64 a', .int .i64 b'], .bool c']) := by rw [h1, h2, h3]
end Go.Proofs.Ytlepbncaicpmjaa
namespace Go.Proofs.Ytlepbncaicpmjaa
set_option maxRecDepth 100000
open Go.RowKit
set_option linter.unusedVariables false

theorem be_get (k : Nat) (x : Int) : ∀ j, j < k → (be k x).getD j 0 = x / 256 ^ (k - 1 - j) % 256 := by
  induction k with
  | zero => intro j h; omega
  | succ k ih =>
    intro j hj
    rw [be]
    cases j with
    | zero => simp
    | succ j => rw [List.getD_cons_succ, ih j (by omega), show k + 1 - 1 - (j + 1) = k - 1 - j from by omega]
theorem Sm.at {w w' : World} {g : Nat} {s n : Int} (h : Sm w g s n) (e : w'.heap[g]? = w.heap[g]?) : Sm w' g s n := by unfold Sm at *; rw [e]; exact h
theorem own_le {w : World} {B B' e s n : Nat} {v : Value} {xs : List Value} (h : w.ownsRow B e s v n xs) (hB : B' ≤ B) : w.ownsRow B' e s v n xs := by
  obtain ⟨h1, h2⟩ := h
  refine ⟨h1, ?_⟩
  rcases h2 with h2 | ⟨g, cap, cur, e1, hb, r⟩
  · exact .inl h2
  · exact .inr ⟨g, cap, cur, e1, Nat.le_trans hB hb, r⟩
theorem pow_256 (m : Nat) : (256 : Int) ^ m = 2 ^ (8 * m) := by rw [Int.pow_mul]; rfl
end Go.Proofs.Ytlepbncaicpmjaa
namespace Go.Proofs.Ytlepbncaicpmjaa
set_option maxRecDepth 100000
open Go.RowKit
set_option linter.unusedVariables false

theorem val_take (l : List Int) (j : Nat) (h : j < l.length) : val (l.take (j + 1)) = val (l.take j) * 256 + l.getD j 0 := by
  rw [List.take_succ_eq_append_getElem h, val_snoc]
  simp [List.getD, h]
theorem getD_byte6 {zs : List Int} (h : ∀ z ∈ zs, 0 ≤ z ∧ z ≤ 255) (i : Nat) : 0 ≤ zs.getD i 0 ∧ zs.getD i 0 ≤ 255 := by
  simp only [List.getD]
  cases e : zs[i]? with
  | none => simp
  | some z => exact h z (List.mem_of_getElem? e)
theorem val_up (l : List Int) (hb : ∀ z ∈ l, 0 ≤ z ∧ z ≤ 255) (k : Nat) : ∀ j, j ≤ k → val (l.take j) ≤ val (l.take k) := by
  induction k with
  | zero => intro j hj; rw [show j = 0 from by omega]; exact Int.le_refl _
  | succ k ih =>
    intro j hj
    by_cases e : j = k + 1
    · rw [e]; exact Int.le_refl _
    · have h1 := ih j (by omega)
      have h2 := (val_bound (l.take k) (fun z hz => hb z (List.mem_of_mem_take hz))).1
      by_cases hk : k < l.length
      · rw [val_take l k hk]
        have := getD_byte6 hb k
        omega
      · rw [List.take_of_length_le (show l.length ≤ k + 1 by omega)]
        rw [List.take_of_length_le (show l.length ≤ k by omega)] at h1
        exact h1
theorem gs_first (l : List Int) (hb : ∀ z ∈ l, 0 ≤ z ∧ z ≤ 255) (hl : l.length = 12) : gs l ≤ 9223372036854775807 ↔ l.getD 0 0 ≤ 127 := by
  match l, hl with
  | a :: r, hl =>
    have ha := hb a (by simp)
    have hr := val_bound (r.take 7) (fun z hz => hb z (by simp [List.mem_of_mem_take hz]))
    have e : gs (a :: r) = a * 256 ^ (r.take 7).length + val (r.take 7) := by
      unfold gs
      rw [List.take_succ_cons, val_cons]
    have hl7 : (r.take 7).length = 7 := by simp at hl; simp; omega
    rw [hl7] at e hr
    rw [e]
    show _ ↔ a ≤ 127
    have : (256 : Int) ^ 7 = 72057594037927936 := by decide
    omega
theorem ret_g {a b a' b' c c' : Int} (h1 : a = a') (h2 : b = b') (h3 : c = c') : Ending.returned (.tuple #[.agg #[.int .i64 a, .int .i64 b], .int .i64 c]) = .returned (.tuple #[.agg #[.int .i64 a', .int .i64 b'], .int .i64 c']) := by rw [h1, h2, h3]
def qs (l : List Int) : Int := if gok l then gs l else 0
def qn (l : List Int) : Int := if gok l then gn l else 0
def qe (l : List Int) : Int := if gok l then 0 else 60
theorem q_bad {l : List Int} (h : gok l = false) : 0 = qs l ∧ 0 = qn l ∧ 60 = qe l := by unfold qs qn qe; rw [h]; exact ⟨rfl, rfl, rfl⟩
theorem q_good {l : List Int} (h : gok l = true) : gs l = qs l ∧ gn l = qn l ∧ 0 = qe l := by unfold qs qn qe; rw [h]; exact ⟨rfl, rfl, rfl⟩
end Go.Proofs.Ytlepbncaicpmjaa
