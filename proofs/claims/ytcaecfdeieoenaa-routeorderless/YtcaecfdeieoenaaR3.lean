import Derived.Test.YtcaecfdeieoenaaR2
import Derived.Laws.AppendOwn
namespace Go.Proofs.Ytcaecfdeieoenaa
open Go.RowKit
set_option linter.unusedVariables false

/-- A way's cells. -/
def wc (x : Wy) : List Value := [.int .i64 x.F, .int .u64 x.H, .int .u64 x.L, .int .i64 x.B, .int .i64 x.K]
def wcs (l : List Wy) : List Value := l.flatMap wc
def Wy.px (x : Wy) : Value := .agg #[.int .i64 x.F, .int .u64 x.H, .int .u64 x.L, .int .i64 x.B]
theorem wcs_length (l : List Wy) : (wcs l).length = l.length * 5 := by
  induction l with
  | nil => rfl
  | cons x r ih =>
    show (wc x ++ wcs r).length = _
    rw [List.length_append, ih, List.length_cons]
    show 5 + _ = _
    omega
theorem wcs_append (l m : List Wy) : wcs l ++ wcs m = wcs (l ++ m) := by unfold wcs; rw [List.flatMap_append]
theorem wcs_get : ∀ (l : List Wy) (i : Nat) (x : Wy), l[i]? = some x → (wcs l)[i * 5]? = some (.int .i64 x.F) ∧ (wcs l)[i * 5 + 1]? = some (.int .u64 x.H) ∧ (wcs l)[i * 5 + 2]? = some (.int .u64 x.L) ∧ (wcs l)[i * 5 + 3]? = some (.int .i64 x.B) ∧ (wcs l)[i * 5 + 4]? = some (.int .i64 x.K)
  | [], i, x, h => by simp at h
  | y :: r, 0, x, h => by
    obtain rfl : y = x := by simpa using h
    exact ⟨rfl, rfl, rfl, rfl, rfl⟩
  | y :: r, i + 1, x, h => by
    have := wcs_get r i x (by simpa using h)
    have e : ∀ j, (wcs (y :: r))[(i + 1) * 5 + j]? = (wcs r)[i * 5 + j]? := fun j => by
      show (wc y ++ wcs r)[_]? = _
      rw [List.getElem?_append_right (by show 5 ≤ _; omega)]
      congr 1
      show _ - 5 = _
      omega
    have e0 := e 0
    rw [Nat.add_zero, Nat.add_zero] at e0
    rw [e0, e, e, e, e]
    exact this
theorem wcs_one (l : List Wy) : ∀ v ∈ wcs l, v.oneCell' = true := by
  intro v hv
  unfold wcs at hv
  rw [List.mem_flatMap] at hv
  obtain ⟨x, _, hv⟩ := hv
  simp only [wc, List.mem_cons, List.not_mem_nil, or_false] at hv
  rcases hv with rfl | rfl | rfl | rfl | rfl <;> rfl
/-- A slice reads these ways. -/
def Ws (w : World) (a : Option Addr) (l : List Wy) : Prop :=
  (∀ x ∈ l, x.In) ∧ (l = [] ∨ ∃ q off, a = some ⟨q, off, none⟩ ∧ ∀ i x, l[i]? = some x → (w.cell? ⟨q, off + i * 5, none⟩ = some (.int .i64 x.F) ∧ w.cell? ⟨q, off + i * 5 + 1, none⟩ = some (.int .u64 x.H) ∧ w.cell? ⟨q, off + i * 5 + 2, none⟩ = some (.int .u64 x.L) ∧ w.cell? ⟨q, off + i * 5 + 3, none⟩ = some (.int .i64 x.B) ∧ w.cell? ⟨q, off + i * 5 + 4, none⟩ = some (.int .i64 x.K)))
theorem Ws.kept {w w' : World} {a : Option Addr} {l : List Wy} (h : Ws w a l) (hb : Below w.heap.size w w') : Ws w' a l := by
  refine ⟨h.1, ?_⟩
  rcases h.2 with h | ⟨q, off, e, h⟩
  · exact .inl h
  · refine .inr ⟨q, off, e, fun i x hx => ?_⟩
    obtain ⟨c0, c1, c2, c3, c4⟩ := h i x hx
    have hq : q < w.heap.size := World.block_lt_of_cell? w _ c0
    exact ⟨(hb.cell (p := ⟨q, _, none⟩) hq).trans c0, (hb.cell (p := ⟨q, _, none⟩) hq).trans c1, (hb.cell (p := ⟨q, _, none⟩) hq).trans c2, (hb.cell (p := ⟨q, _, none⟩) hq).trans c3, (hb.cell (p := ⟨q, _, none⟩) hq).trans c4⟩
/-- A row of one's own holds these ways. -/
def Wo (w : World) (base : Nat) (v : Value) (l : List Wy) : Prop := w.ownsRow base 54 5 v l.length (wcs l) ∧ ∀ x ∈ l, x.In
theorem Wo.read {w : World} {base : Nat} {v : Value} {l : List Wy} (h : Wo w base v l) : ∃ a c, v = .slice a l.length c ∧ l.length ≤ c ∧ c ≤ maxLen ∧ Ws w a l := by
  rcases h.1.2 with ⟨e, h0⟩ | ⟨g, cap, cur, e, _, hg, h1, h2, h3, h4⟩
  · refine ⟨none, 0, by rw [e, h0], by omega, by unfold maxLen; omega, h.2, .inl (List.eq_nil_of_length_eq_zero h0)⟩
  · refine ⟨some ⟨g, 0, none⟩, cap, e, h1, h2, h.2, .inr ⟨g, 0, rfl, fun i x hx => ?_⟩⟩
    have key : ∀ j u, (wcs l)[j]? = some u → w.cell? ⟨g, 0 + j, none⟩ = some u := fun j u hu => by
      rw [Nat.zero_add, cell_of_row w g j cur _ (0, 0) hg]
      rw [← h4, List.getElem?_take] at hu
      split at hu
      · simpa using hu
      · cases hu
    obtain ⟨c0, c1, c2, c3, c4⟩ := wcs_get l i x hx
    exact ⟨key _ _ c0, key _ _ c1, key _ _ c2, key _ _ c3, key _ _ c4⟩
theorem Wo.kept {w w' : World} {base : Nat} {v : Value} {l : List Wy} (h : Wo w base v l) (hb : Below w.heap.size w w') : Wo w' base v l :=
  ⟨h.1.kept (grown_of_below hb) (by cases v.ownBlock <;> simp), h.2⟩
theorem Wo.mono {w : World} {base base' : Nat} {v : Value} {l : List Wy} (h : Wo w base v l) (hb : base' ≤ base) : Wo w base' v l := by
  refine ⟨⟨h.1.1, ?_⟩, h.2⟩
  rcases h.1.2 with h | ⟨g, cap, cur, h1, h2, h3⟩
  · exact .inl h
  · exact .inr ⟨g, cap, cur, h1, by omega, h3⟩
theorem Wo.nil (w : World) (base : Nat) : Wo w base (.slice none 0 0) [] := ⟨w.ownsRow_nil base _ 5, fun x hx => by cases hx⟩
/-- The document's table has these ways. -/
def Rt (w : World) (v : Value) (l : List Wy) : Prop := ∃ k s, v = .pointer (some ⟨k, 0, none⟩) ∧ w.heap[k]? = some (.cells #[s] 58 (0, 0)) ∧ Wo w 0 s l
theorem Rt.kept {w w' : World} {v : Value} {l : List Wy} (h : Rt w v l) (hb : Below w.heap.size w w') : Rt w' v l := by
  obtain ⟨k, s, e, h1, h2⟩ := h
  exact ⟨k, s, e, (hb.block k (Array.getElem?_eq_some_iff.1 h1).1).trans h1, h2.kept hb⟩
theorem Rt.cell {w : World} {k : Nat} {s : Value} (h : w.heap[k]? = some (.cells #[s] 58 (0, 0))) : w.cell? ⟨k, 0, none⟩ = some s := (cell_of_row _ _ 0 _ _ (0, 0) h).trans rfl
/-- Where a prefix stands. -/
def ixo (l : List Wy) (p : Wy) : Int := match l.findIdx? (fun x => x.sm p) with
  | some i => i
  | none => -1
end Go.Proofs.Ytcaecfdeieoenaa
