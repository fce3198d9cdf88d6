import Derived.Test.YtnjfckijpbgagaaRefG
import Derived.Test.YtnjfckijpbgagaaMul
import Derived.Deep.MidRow
import Derived.Laws.CopyOwn
import Derived.Test.YtnjfckijpbgagaaPTxt
namespace Go.Proofs.Ytnjfckijpbgagaa
set_option maxRecDepth 100000
open Go.RowKit
set_option linter.unusedVariables false

/-! Rows of bytes of any length, by parts. -/
theorem rw8_one (n : Nat) (f : Nat → Nat) : (rw8 n f).all (·.oneCell') = true := by simp [rw8, Value.oneCell']
theorem rw8_ext {n : Nat} {f g : Nat → Nat} (h : ∀ i, i < n → f i = g i) : rw8 n f = rw8 n g := by
  unfold rw8
  rw [List.map_congr_left]
  intro i hi
  rw [h i (by simpa using hi)]
theorem rw8_len (n : Nat) (f : Nat → Nat) : (rw8 n f).toList.length = n := by simp [rw8]
theorem Rw.ext {w : World} {g t n : Nat} {f f' : Nat → Nat} (h : Rw w g t n f) (e : ∀ i, i < n → f i = f' i) : Rw w g t n f' := by
  unfold Rw at *; rw [← rw8_ext e]; exact h
/-- The bytes from o on. -/
def from8 (o : Nat) (f : Nat → Nat) : Nat → Nat := fun i => f (o + i)
/-- m bytes of h laid over f from o on. -/
def put8 (o m : Nat) (h f : Nat → Nat) : Nat → Nat := fun j => if o ≤ j ∧ j < o + m then h (j - o) else f j
theorem Rw.range {w : World} {g t n : Nat} {f : Nat → Nat} (h : Rw w g t n f) (o m : Nat) (hm : o + m ≤ n) : w.rangeAt g o (rw8 m (from8 o f)).toList := fun j v hv => by
  have hj : j < m := by have := (List.getElem?_eq_some_iff.1 hv).1; rwa [rw8_len] at this
  rw [h.byte (o + j) (by omega)]
  rw [Array.getElem?_toList, rw8_get _ _ j hj] at hv
  exact hv
theorem Rw.there {w : World} {g t n : Nat} {f : Nat → Nat} (h : Rw w g t n f) (o m : Nat) (hm : o + m ≤ n) : w.there g o m := fun j hj => ⟨by rw [h.byte (o + j) (by omega)]; rfl, h.fz _⟩
theorem Rw.setv {w : World} {g t n : Nat} {f : Nat → Nat} (h : Rw w g t n f) (i x : Nat) : Rw (w.setCell ⟨g, i, none⟩ (.int .u8 (x : Nat))) g t n (put8 i 1 (fun _ => x) f) :=
  (h.set i x).ext fun j _ => by
    unfold put8
    by_cases e : j = i
    · rw [if_pos e, if_pos (by omega)]
    · rw [if_neg e, if_neg (by omega)]
theorem Rw.cells {g t n m : Nat} {h : Nat → Nat} : ∀ (k : Nat) (o : Nat) (w : World) (f : Nat → Nat), Rw w g t n f → Rw (w.setCells g o ((List.range k).map fun i => Value.int .u8 (h (m + i) : Nat))) g t n (put8 o k (from8 m h) f)
  | 0, o, w, f, hr => hr.ext fun j _ => by unfold put8; rw [if_neg (by omega)]
  | k + 1, o, w, f, hr => by
    rw [List.range_succ_eq_map, List.map_cons, List.map_map, World.setCells]
    have h1 := Rw.cells (h := h) (m := m + 1) k (o + 1) _ _ (hr.set o (h (m + 0)))
    have e : ((List.range k).map ((fun i => Value.int .u8 (h (m + i) : Nat)) ∘ Nat.succ)) = (List.range k).map fun i => Value.int .u8 (h (m + 1 + i) : Nat) := by
      apply List.map_congr_left
      intro i _
      show Value.int .u8 (h (m + (i + 1)) : Nat) = _
      rw [show m + (i + 1) = m + 1 + i from by omega]
    rw [e]
    refine h1.ext fun j _ => ?_
    unfold put8 from8
    dsimp only
    by_cases h0 : j = o
    · rw [if_neg (by omega), if_pos h0, if_pos (by omega), h0]; congr 1; omega
    · by_cases h1 : o + 1 ≤ j ∧ j < o + 1 + k
      · rw [if_pos h1, if_pos (by omega)]; congr 1; omega
      · rw [if_neg h1, if_neg h0, if_neg (by omega)]
theorem Rw.mid {w : World} {g t n : Nat} {f : Nat → Nat} (hr : Rw w g t n f) (o m : Nat) (h : Nat → Nat) : Rw (w.setCells g o (rw8 m h).toList) g t n (put8 o m h f) := by
  have := Rw.cells (h := h) (m := 0) m o w f hr
  have e : ((List.range m).map fun i => Value.int .u8 (h (0 + i) : Nat)) = (rw8 m h).toList := by
    show _ = ((List.range m).map fun i => Value.int .u8 (h i : Nat))
    apply List.map_congr_left
    intro i _
    rw [Nat.zero_add]
  rw [e] at this
  exact this.ext fun j _ => by unfold put8 from8; congr 1; rw [Nat.zero_add]
theorem heap_setCells_other (b k : Nat) (hn : k ≠ b) : ∀ (vs : List Value) (o : Nat) (w : World), (w.setCells b o vs).heap[k]? = w.heap[k]?
  | [], _, _ => rfl
  | v :: r, o, w => by rw [World.setCells, heap_setCells_other b k hn r, heap_setCell_other _ _ _ _ (by exact hn)]
theorem size_setCells (b : Nat) : ∀ (vs : List Value) (o : Nat) (w : World), (w.setCells b o vs).heap.size = w.heap.size
  | [], _, _ => rfl
  | v :: r, o, w => by rw [World.setCells, size_setCells b r]; simp [World.setCell]
theorem bel_cells {B g : Nat} {w : World} (hg : B ≤ g) : ∀ (vs : List Value) (o : Nat) (w' : World), Below B w w' → Below B w (w'.setCells g o vs)
  | [], _, _, h => h
  | v :: r, o, w', h => by rw [World.setCells]; exact bel_cells hg r (o + 1) _ (h.setCell hg _)
theorem Rw.omid {w : World} {g g' t n : Nat} {f : Nat → Nat} (h : Rw w g t n f) (hn : g ≠ g') (o : Nat) (vs : List Value) : Rw (w.setCells g' o vs) g t n f := by
  unfold Rw at *; rw [heap_setCells_other g' g hn]; exact h
theorem Ar.omid {w : World} {g g' : Nat} {cs : Array Value} (h : Ar w g cs) (hn : g ≠ g') (o : Nat) (vs : List Value) : Ar (w.setCells g' o vs) g cs := by
  unfold Ar at *; rw [heap_setCells_other g' g hn]; exact h
theorem Rw.row {w : World} {g t n : Nat} {f : Nat → Nat} (h : Rw w g t n f) (f' : Nat → Nat) : Rw (w.setRow g (rw8 n f')) g t n f' := setRow_heap w g _ _ _ _ h
theorem Rw.orow {w : World} {g g' t n : Nat} {f : Nat → Nat} (h : Rw w g t n f) (hn : g ≠ g') (ds : Array Value) : Rw (w.setRow g' ds) g t n f := by
  unfold Rw at *; rw [setRow_other w g' g ds (by omega)]; exact h
theorem Rw.drawn {w : World} {g t n : Nat} {f : Nat → Nat} (h : Rw w g t n f) (k : Nat) : Rw (w.drewN k) g t n f := h
theorem Ar.rw {w : World} {g : Nat} {f : Nat → Nat} (h : Ar w g (av f)) : Rw w g 96 16 f := h
theorem Rw.ar {w : World} {g : Nat} {f : Nat → Nat} (h : Rw w g 96 16 f) : Ar w g (av f) := h
theorem from8_zero (f : Nat → Nat) : from8 0 f = f := funext fun i => by unfold from8; rw [Nat.zero_add]

/-! Whole rows and parts of them, by value. -/
theorem wpList_ldm {ops : Array Oper} {rest : List Oper} {o : Oper} {a : Act} {w : World} {Q : Exit → Act → World → Prop} (hgd : o.guard = none) (ty : TypeId) (x : Operand) (ho : o.op = .load ty x)
    (g off : Nat) (hx : a.eval x = .pointer (some ⟨g, off, none⟩)) (t n m : Nat) (f : Nat → Nat) (hr : Rw w g t n f) (hm : off + m ≤ n) (d : TypeDesc) (hu : Try.prog.underlying ty = some d) (hd : d.isRow = true) (hi : (Try.prog.info? ty).map (·.size) = some m)
    (h : wpList Try.prog ops Q rest (a.put o.dst (.agg (rw8 m (from8 off f)))) w) : wpList Try.prog ops Q (o :: rest) a w := by
  have e : (rw8 m (from8 off f)).toList.toArray = rw8 m (from8 off f) := by simp
  refine wpList_load_mid hgd ty x ho g off hx (rw8 m (from8 off f)).toList d (hr.range off m hm) hu hd (by rw [rw8_len]; exact hi) ?_
  rw [e]
  exact h
theorem wpList_ldw {ops : Array Oper} {rest : List Oper} {o : Oper} {a : Act} {w : World} {Q : Exit → Act → World → Prop} (hgd : o.guard = none) (ty : TypeId) (x : Operand) (ho : o.op = .load ty x)
    (g : Nat) (hx : a.eval x = .pointer (some ⟨g, 0, none⟩)) (t n m : Nat) (f : Nat → Nat) (hr : Rw w g t n f) (hm : m ≤ n) (d : TypeDesc) (hu : Try.prog.underlying ty = some d) (hd : d.isRow = true) (hi : (Try.prog.info? ty).map (·.size) = some m)
    (h : wpList Try.prog ops Q rest (a.put o.dst (.agg (rw8 m f))) w) : wpList Try.prog ops Q (o :: rest) a w :=
  wpList_ldm hgd ty x ho g 0 hx t n m f hr (by omega) d hu hd hi (by rw [from8_zero]; exact h)
theorem wpList_stm {ops : Array Oper} {rest : List Oper} {o : Oper} {a : Act} {w : World} {Q : Exit → Act → World → Prop} (hgd : o.guard = none) (hdst : o.dst = none) (ty : TypeId) (x y : Operand) (ho : o.op = .store ty x y)
    (g off : Nat) (hx : a.eval x = .pointer (some ⟨g, off, none⟩)) (m : Nat) (v : Nat → Nat) (hy : a.eval y = .agg (rw8 m v)) (t n : Nat) (f : Nat → Nat) (hr : Rw w g t n f) (hm : off + m ≤ n) (hi : (Try.prog.info? ty).map (·.size) = some m)
    (h : wpList Try.prog ops Q rest a (w.setCells g off (rw8 m v).toList)) : wpList Try.prog ops Q (o :: rest) a w := by
  refine wpList_store_mid hgd ty x y ho g off (rw8 m v) hx hy (by rw [rw8_size]; exact hr.there off m hm) (by rw [rw8_size]; exact hi) (rw8_one m v) ?_
  rw [hdst]
  exact h
theorem run_al {o : Oper} {a : Act} {w : World} (t : TypeId) (ho : o.op = .alloc t) (n : Nat) (hz : (Try.prog.info? t).map (·.zero) = some (some (.agg (rw8 n fun _ => 0)))) :
    (execOp a.eval o).run Try.prog w = .ok (.value (.pointer (some ⟨w.heap.size, 0, none⟩))) (w.alloc (.cells (rw8 n fun _ => 0) t)) := by
  obtain ⟨i, hi, hs⟩ := Option.map_eq_some_iff.1 hz
  have hz' : (zeroValue t).run Try.prog w = .ok (.agg (rw8 n fun _ => 0)) w := by simp [zeroValue, typeInfo, hi, hs]
  unfold execOp
  simp only [ho, Instr.alloc, hz', Sem.run_bind, Sem.run_pure, Result.andThen_ok, newVar, newRow, run_newObj_alloc, Value.cells]
theorem wpList_al {ops : Array Oper} {rest : List Oper} {o : Oper} {a : Act} {w : World} {Q : Exit → Act → World → Prop} (hgd : o.guard = none) (t : TypeId) (ho : o.op = .alloc t) (n : Nat) (hz : (Try.prog.info? t).map (·.zero) = some (some (.agg (rw8 n fun _ => 0))))
    (h : wpList Try.prog ops Q rest (a.put o.dst (.pointer (some ⟨w.heap.size, 0, none⟩))) (w.alloc (.cells (rw8 n fun _ => 0) t))) : wpList Try.prog ops Q (o :: rest) a w :=
  wpList_plain hgd fun K hK => by
    unfold Oper.wp
    rw [run_al t ho n hz]
    exact hK _ _ h
theorem results_rw {fn : Func} {p : Tmp} {ty : TypeId} (h : fn.results = #[.cell p ty]) (tmps : Array Value) (w : World) (g n : Nat) (f : Nat → Nat) (d : TypeDesc) (hp : tmps.getD p undef = .pointer (some ⟨g, 0, none⟩)) (hr : Rw w g ty n f) (hu : Try.prog.underlying ty = some d) (hd : d.isRow = true) (hi : (Try.prog.info? ty).map (·.size) = some n) :
    (results fn tmps).run Try.prog w = .ok (.agg (rw8 n f)) w :=
  results_cell_row h tmps w g ty (rw8 n f) (0, 0) d hp hr hu (by cases d <;> first | rfl | exact absurd hd (by simp)) (by rw [rw8_size]; exact hi)
theorem rnew1 (w : World) (t n : Nat) (f : Nat → Nat) : Rw (w.alloc (.cells (rw8 n f) t)) w.heap.size t n f ∧ Below w.heap.size w (w.alloc (.cells (rw8 n f) t)) := ⟨Rw.new w t n f, (Below.refl _ _).alloc (Nat.le_refl _) _⟩
theorem rnew2 (w : World) (t n : Nat) (f : Nat → Nat) (t' n' : Nat) (f' : Nat → Nat) : Rw ((w.alloc (.cells (rw8 n f) t)).alloc (.cells (rw8 n' f') t')) w.heap.size t n f ∧ Rw ((w.alloc (.cells (rw8 n f) t)).alloc (.cells (rw8 n' f') t')) (w.heap.size + 1) t' n' f' ∧ Below w.heap.size w ((w.alloc (.cells (rw8 n f) t)).alloc (.cells (rw8 n' f') t')) := by
  refine ⟨(Rw.new w t n f).alloc _, ?_, ((Below.refl _ _).alloc (Nat.le_refl _) _).alloc (by simp) _⟩
  have := Rw.new (w.alloc (.cells (rw8 n f) t)) t' n' f'
  simpa using this
theorem rnew3 (w : World) (t n : Nat) (f : Nat → Nat) (t' n' : Nat) (f' : Nat → Nat) (t'' n'' : Nat) (f'' : Nat → Nat) :
    Rw (((w.alloc (.cells (rw8 n f) t)).alloc (.cells (rw8 n' f') t')).alloc (.cells (rw8 n'' f'') t'')) w.heap.size t n f ∧ Rw (((w.alloc (.cells (rw8 n f) t)).alloc (.cells (rw8 n' f') t')).alloc (.cells (rw8 n'' f'') t'')) (w.heap.size + 1) t' n' f' ∧ Rw (((w.alloc (.cells (rw8 n f) t)).alloc (.cells (rw8 n' f') t')).alloc (.cells (rw8 n'' f'') t'')) (w.heap.size + 1 + 1) t'' n'' f'' ∧ Below w.heap.size w (((w.alloc (.cells (rw8 n f) t)).alloc (.cells (rw8 n' f') t')).alloc (.cells (rw8 n'' f'') t'')) := by
  obtain ⟨h1, h2, hb⟩ := rnew2 w t n f t' n' f'
  have hs : ((w.alloc (.cells (rw8 n f) t)).alloc (.cells (rw8 n' f') t')).heap.size = w.heap.size + 1 + 1 := by simp
  refine ⟨h1.alloc _, h2.alloc _, ?_, hb.alloc (by omega) _⟩
  have := Rw.new ((w.alloc (.cells (rw8 n f) t)).alloc (.cells (rw8 n' f') t')) t'' n'' f''
  rw [hs] at this
  exact this
/-! Rows that are filled from the front. -/
theorem mix0 (f g : Nat → Nat) : mix 0 f g = g := funext fun i => by simp [mix]
theorem Rw.full {w : World} {g t n : Nat} {f f' : Nat → Nat} (h : Rw w g t n (mix n f f')) : Rw w g t n f := h.ext fun i hi => by simp [mix, hi]
theorem Rw.step {w : World} {g t n : Nat} {f f' : Nat → Nat} {j : Nat} (h : Rw w g t n (mix j f f')) : Rw (w.setCell ⟨g, j, none⟩ (.int .u8 (f j : Nat))) g t n (mix (j + 1) f f') :=
  (h.set j (f j)).ext fun i _ => by
    unfold mix
    by_cases e : i = j
    · rw [if_pos e, if_pos (by omega), e]
    · rw [if_neg e]; congr 1; exact propext ⟨fun _ => by omega, fun _ => by omega⟩
theorem Rw.stepm {w : World} {g t n : Nat} {f f' : Nat → Nat} {m j : Nat} (h : Rw w g t n (mix (m * j) f f')) : Rw (w.setCells g (m * j) (rw8 m (from8 (m * j) f)).toList) g t n (mix (m * (j + 1)) f f') :=
  (h.mid (m * j) m (from8 (m * j) f)).ext fun i _ => by
    unfold put8 mix from8
    have e : m * (j + 1) = m * j + m := by rw [Nat.mul_add, Nat.mul_one]
    rw [e]
    by_cases h1 : m * j ≤ i ∧ i < m * j + m
    · rw [if_pos h1, if_pos h1.2]; congr 1; omega
    · rw [if_neg h1]
      by_cases h2 : i < m * j
      · rw [if_pos h2, if_pos (by omega)]
      · rw [if_neg h2, if_neg (by omega)]

theorem Rw.whole {w : World} {g t n : Nat} {f : Nat → Nat} (h : Rw w g t n f) (v : Nat → Nat) : Rw (w.setCells g 0 (rw8 n v).toList) g t n v :=
  (h.mid 0 n v).ext fun i hi => by unfold put8; rw [if_pos (by omega), Nat.sub_zero]
/-- The substitutions, at the head of a block. -/
structure Bx (w : World) (g : Nat) : Prop where
  lt : g < w.heap.size
  box : ∀ x, x < 256 → w.cell? ⟨g, x, none⟩ = some (.int .u8 (sbx x : Nat))
theorem Bx.keep {w w' : World} {g B : Nat} (h : Bx w g) (hb : Below B w w') (hB : g < B) : Bx w' g := ⟨Nat.lt_of_lt_of_le h.lt hb.size, fun x hx => (hb.cell hB).trans (h.box x hx)⟩
/-! a[i] of a value. -/
theorem run_idx8 (t n : Nat) (f : Nat → Nat) (j : Nat) (w : World) (hu : Try.prog.underlying t = some (.array n 5)) (hj : j < n) :
    (Instr.index t (.agg (rw8 n f)) (.int .i64 j)).run Try.prog w = .ok (.int .u8 (f j : Nat)) w := by
  have h1 : (0 : Int) ≤ (j : Int) ∧ (j : Int) < (n : Int) := by omega
  have hc := rw8_get n f j hj
  simp [Instr.index, run_underlying hu, asIntOf, h1, part, isAgg, run_underlying under8, hc, go_sem]
  exact fun h => by omega
theorem rw8_extract (n m o : Nat) (f : Nat → Nat) (h : o + m ≤ n) : (rw8 n f).extract o (o + m) = rw8 m (from8 o f) := by
  apply Array.ext_getElem?
  intro i
  rw [Array.getElem?_extract]
  by_cases hi : i < m
  · rw [rw8_get m _ i hi, if_pos (by rw [rw8_size]; omega), rw8_get n f _ (by omega)]; rfl
  · rw [if_neg (by rw [rw8_size]; omega)]
    exact (Array.getElem?_eq_none (by rw [rw8_size]; omega)).symm
/-- The same of a row of rows. -/
theorem run_idxm (t n e m d : Nat) (f : Nat → Nat) (j : Nat) (w : World) (hu : Try.prog.underlying t = some (.array n e)) (hn : m * n = d) (q k : Nat) (he : Try.prog.underlying e = some (.array q k)) (hs : (Try.prog.info? e).map (·.size) = some m) (hj : j < n) :
    (Instr.index t (.agg (rw8 d f)) (.int .i64 j)).run Try.prog w = .ok (.agg (rw8 m (from8 (m * j) f))) w := by
  have h1 : (0 : Int) ≤ (j : Int) ∧ (j : Int) < (n : Int) := by omega
  have hm : m * j + m ≤ d := by rw [← hn]; calc m * j + m = m * (j + 1) := by rw [Nat.mul_add, Nat.mul_one]
    _ ≤ m * n := Nat.mul_le_mul_left _ hj
  have hx := rw8_extract d m (m * j) f hm
  rw [Nat.mul_comm m j] at hx
  rw [Nat.mul_comm m j]
  obtain ⟨i, hi, hz⟩ := Option.map_eq_some_iff.1 hs
  have hz' : ∀ w, (sizeOf e).run Try.prog w = .ok m w := fun w => by simp [sizeOf, typeInfo, hi, hz]
  simp [Instr.index, run_underlying hu, asIntOf, h1, hz', part, isAgg, run_underlying he, hx, go_sem]
  exact fun h => by omega
/-! x[4*j : 4*j+4], x[4*j:], x[:] of a variable. -/
theorem run_sizeOf {e m : Nat} (hs : (Try.prog.info? e).map (·.size) = some m) (w : World) : (sizeOf e).run Try.prog w = .ok m w := by
  obtain ⟨i, hi, hz⟩ := Option.map_eq_some_iff.1 hs
  simp [sizeOf, typeInfo, hi, hz]
theorem run_cut4 (t n e s : Nat) (hu : Try.prog.underlying t = some (.array n e)) (hs : (Try.prog.info? e).map (·.size) = some s) (g j o : Nat) (hj : 4 * j + 4 ≤ n) (ho : 4 * j * s = o) (w : World) :
    (Instr.sliceAt t (.pointer (some ⟨g, 0, none⟩)) (some (.int .i64 (4 * (j : Int)))) (some (.int .i64 (4 * (j : Int) + 4))) none).run Try.prog w = .ok (.slice (some ⟨g, o, none⟩) 4 (n - 4 * j)) w := by
  have h1 : (0 : Int) ≤ 4 * (j : Int) ∧ 4 * (j : Int) ≤ ((4 * j + 4 : Nat) : Int) := by omega
  have h2 : (0 : Int) ≤ 4 * (j : Int) + 4 ∧ 4 * (j : Int) + 4 ≤ (n : Int) := by omega
  have e1 : (4 * (j : Int)).toNat = 4 * j := by omega
  have e2 : (4 * (j : Int) + 4).toNat = 4 * j + 4 := by omega
  have e3 : ¬ n = 4 * j := by omega
  have e4 : 4 * j + 4 - 4 * j = 4 := by omega
  subst ho
  simp only [Instr.sliceAt, Sem.run_bind, run_underlying hu, Result.andThen_ok, Instr.sureAddr, Sem.run_pure, Instr.sliceBounds, Instr.sliceBound, asIntOf, if_pos h2, e2, if_pos h1, e1, run_sizeOf hs, if_neg e3, e4, Addr.add_mid, Nat.zero_add]
theorem run_cutl (t n e : Nat) (hu : Try.prog.underlying t = some (.array n e)) (hs : (Try.prog.info? e).map (·.size) = some 1) (g j : Nat) (hj : 4 * j < n) (w : World) :
    (Instr.sliceAt t (.pointer (some ⟨g, 0, none⟩)) (some (.int .i64 (4 * (j : Int)))) none none).run Try.prog w = .ok (.slice (some ⟨g, 4 * j, none⟩) (n - 4 * j) (n - 4 * j)) w := by
  have h1 : (0 : Int) ≤ 4 * (j : Int) ∧ 4 * (j : Int) ≤ (n : Int) := by omega
  have e1 : (4 * (j : Int)).toNat = 4 * j := by omega
  have e3 : ¬ n = 4 * j := by omega
  simp only [Instr.sliceAt, Sem.run_bind, run_underlying hu, Result.andThen_ok, Instr.sureAddr, Sem.run_pure, Instr.sliceBounds, Instr.sliceBound, asIntOf, if_pos h1, e1, run_sizeOf hs, if_neg e3, Addr.add_mid, Nat.zero_add, Nat.mul_one]
theorem size1 : (Try.prog.info? 5).map (·.size) = some 1 := by kernel_rfl
theorem run_arr (t n e : Nat) (hu : Try.prog.underlying t = some (.array n e)) (a : Option Addr) (cap : Nat) (w : World) : (Instr.arrayAt t (.slice a n cap)).run Try.prog w = .ok (.pointer a) w := by
  simp [Instr.arrayAt, run_underlying hu]
/-- copy of a whole row into another. -/
theorem step_cp {ops : Array Oper} {o : Oper} {a : Act} {w : World} {K : Act → World → Prop} {Q : Exit → Act → World → Prop} {E : Prop} (hgd : o.guard = none) (d s : Operand) (dT sT : TypeId)
    (ho : o.op = .call { callee := .builtin .copy, args := #[d, s], argTypes := #[dT, sT] }) (elem : TypeId) (hu : Try.prog.underlying dT = some (.slice elem)) (hsz : (Try.prog.info? elem).map (·.size) = some 1)
    (g off dLen dCap gs m sCap : Nat) (hd : a.eval d = .slice (some ⟨g, off, none⟩) dLen dCap) (hs : a.eval s = .slice (some ⟨gs, 0, none⟩) m sCap) (hl : m ≤ dLen)
    (t n : Nat) (f : Nat → Nat) (hr : Rw w g t n f) (hm : off + m ≤ n) (ts : Nat) (v : Nat → Nat) (hv : Rw w gs ts m v)
    (h : K (a.put o.dst (goInt m)) (w.setCells g off (rw8 m v).toList)) :
    if Region.wanted o (yielded ops a.tmps) = true then Oper.wp Try.prog o a w K Q else E := by
  have hw : Region.wanted o (yielded ops a.tmps) = true := by simp [Region.wanted, hgd]
  rw [if_pos hw]
  have hn : (rw8 m v).toList.length = Nat.min m dLen := by rw [rw8_len]; exact (Nat.min_eq_left hl).symm
  have hsrc : ∀ j u, (rw8 m v).toList[j]? = some u → w.cell? ((⟨gs, 0, none⟩ : Addr).add j) = some u := fun j u hu => by
    rw [Addr.add_mid]
    have := hv.range 0 m (by omega) j u
    rw [from8_zero] at this
    exact this hu
  have ht := hr.there off m hm
  have hrun := run_copy_cells (P := Try.prog) w dT sT o.type elem g off dLen dCap ⟨gs, 0, none⟩ m sCap (rw8 m v).toList hu hsz hn hsrc (by rw [rw8_len]; exact fun j hj => (ht j hj).1) (by rw [rw8_len]; exact fun j hj => (ht j hj).2) (fun u hu => (Array.all_eq_true_iff_forall_mem.1 (rw8_one m v)) u (by simpa using hu))
  rw [rw8_len] at hrun
  unfold Oper.wp
  simp [execOp, ho, resolve, invoke, builtin, hd, hs, hrun, Result.andThen]
  exact h
end Go.Proofs.Ytnjfckijpbgagaa
namespace Go.Proofs.Ytnjfckijpbgagaa
set_option maxRecDepth 100000
open Go.RowKit
set_option linter.unusedVariables false

/-! copy of what a slice of bytes reads into a row of bytes. -/
theorem run_cpb (w : World) (dT sT ty elem : TypeId) (hu : Try.prog.underlying dT = some (.slice elem)) (hsz : (Try.prog.info? elem).map (·.size) = some 1) (g off dLen dCap : Nat) (sa : Option Addr) (sLen sCap : Nat) (t n : Nat) (f : Nat → Nat) (hr : Rw w g t n f)
    (m : Nat) (hm : m = Nat.min sLen dLen) (hfit : off + m ≤ n) (zs : List Int) (hb : Bs w sa sLen zs) (z : Nat → Nat) (hz : ∀ i, i < m → zs.getD i 0 = ((z i : Nat) : Int)) :
    (Builtin.copy_ #[dT, sT] ty #[.slice (some ⟨g, off, none⟩) dLen dCap, .slice sa sLen sCap]).run Try.prog w = .ok (goInt m) (w.setCells g off (rw8 m z).toList) := by
  by_cases h0 : m = 0
  · have e : rw8 m z = #[] := by rw [h0]; rfl
    rw [run_copy_none w dT sT ty elem _ _ dLen dCap sLen sCap hu hsz (by omega), e, h0]
    rfl
  · rcases hb.2.2 with hs0 | ⟨b, o, rfl, hc⟩
    · exfalso
      have : Nat.min sLen dLen ≤ sLen := Nat.min_le_left _ _
      omega
    · have hle : m ≤ sLen := by rw [hm]; exact Nat.min_le_left _ _
      have ht := hr.there off m hfit
      have hsrc : ∀ j u, (rw8 m z).toList[j]? = some u → w.cell? ((⟨b, o, none⟩ : Addr).add j) = some u := fun j u hu => by
        have hj : j < m := by have := (List.getElem?_eq_some_iff.1 hu).1; rwa [rw8_len] at this
        rw [Array.getElem?_toList, rw8_get _ _ j hj] at hu
        rw [Addr.add_mid, hc j (by omega), hz j hj]
        exact hu
      have := run_copy_cells (P := Try.prog) w dT sT ty elem g off dLen dCap ⟨b, o, none⟩ sLen sCap (rw8 m z).toList hu hsz (by rw [rw8_len]; exact hm) hsrc (by rw [rw8_len]; exact fun j hj => (ht j hj).1) (by rw [rw8_len]; exact fun j hj => (ht j hj).2) (fun u hu => (Array.all_eq_true_iff_forall_mem.1 (rw8_one m z)) u (by simpa using hu))
      rw [rw8_len] at this
      exact this
theorem wpList_cpb {ops : Array Oper} {rest : List Oper} {o : Oper} {a : Act} {w : World} {Q : Exit → Act → World → Prop} (hgd : o.guard = none) (d s : Operand) (dT sT : TypeId)
    (ho : o.op = .call { callee := .builtin .copy, args := #[d, s], argTypes := #[dT, sT] }) (elem : TypeId) (hu : Try.prog.underlying dT = some (.slice elem)) (hsz : (Try.prog.info? elem).map (·.size) = some 1)
    (g off dLen dCap : Nat) (sa : Option Addr) (sLen sCap : Nat) (hd : a.eval d = .slice (some ⟨g, off, none⟩) dLen dCap) (hs : a.eval s = .slice sa sLen sCap) (t n : Nat) (f : Nat → Nat) (hr : Rw w g t n f)
    (m : Nat) (hm : m = Nat.min sLen dLen) (hfit : off + m ≤ n) (zs : List Int) (hb : Bs w sa sLen zs) (z : Nat → Nat) (hz : ∀ i, i < m → zs.getD i 0 = ((z i : Nat) : Int))
    (h : wpList Try.prog ops Q rest (a.put o.dst (goInt m)) (w.setCells g off (rw8 m z).toList)) : wpList Try.prog ops Q (o :: rest) a w :=
  wpList_plain hgd fun K hK => by
    have hrun := run_cpb w dT sT o.type elem hu hsz g off dLen dCap sa sLen sCap t n f hr m hm hfit zs hb z hz
    unfold Oper.wp
    simp [execOp, ho, resolve, invoke, builtin, hd, hs, hrun, Result.andThen]
    exact hK _ _ h
theorem step_cpb {ops : Array Oper} {o : Oper} {a : Act} {w : World} {K : Act → World → Prop} {Q : Exit → Act → World → Prop} {E : Prop} (hgd : o.guard = none) (d s : Operand) (dT sT : TypeId)
    (ho : o.op = .call { callee := .builtin .copy, args := #[d, s], argTypes := #[dT, sT] }) (elem : TypeId) (hu : Try.prog.underlying dT = some (.slice elem)) (hsz : (Try.prog.info? elem).map (·.size) = some 1)
    (g off dLen dCap : Nat) (sa : Option Addr) (sLen sCap : Nat) (hd : a.eval d = .slice (some ⟨g, off, none⟩) dLen dCap) (hs : a.eval s = .slice sa sLen sCap) (t n : Nat) (f : Nat → Nat) (hr : Rw w g t n f)
    (m : Nat) (hm : m = Nat.min sLen dLen) (hfit : off + m ≤ n) (zs : List Int) (hb : Bs w sa sLen zs) (z : Nat → Nat) (hz : ∀ i, i < m → zs.getD i 0 = ((z i : Nat) : Int))
    (h : K (a.put o.dst (goInt m)) (w.setCells g off (rw8 m z).toList)) : if Region.wanted o (yielded ops a.tmps) = true then Oper.wp Try.prog o a w K Q else E := by
  have hw : Region.wanted o (yielded ops a.tmps) = true := by simp [Region.wanted, hgd]
  rw [if_pos hw]
  have hrun := run_cpb w dT sT o.type elem hu hsz g off dLen dCap sa sLen sCap t n f hr m hm hfit zs hb z hz
  unfold Oper.wp
  simp [execOp, ho, resolve, invoke, builtin, hd, hs, hrun, Result.andThen]
  exact h
end Go.Proofs.Ytnjfckijpbgagaa
