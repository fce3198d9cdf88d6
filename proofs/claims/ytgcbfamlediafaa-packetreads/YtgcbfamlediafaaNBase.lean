import Derived.Test.YtgcbfamlediafaaBase
import Derived.Test.YtgcbfamlediafaaAes
import Derived.BigRegion
namespace Go.Proofs.Ytgcbfamlediafaa
set_option maxRecDepth 100000
open Go.RowKit
set_option linter.unusedVariables false

theorem zeros16a : #[Value.int IntKind.u8 0, Value.int IntKind.u8 0, Value.int IntKind.u8 0, Value.int IntKind.u8 0, Value.int IntKind.u8 0, Value.int IntKind.u8 0, Value.int IntKind.u8 0, Value.int IntKind.u8 0, Value.int IntKind.u8 0, Value.int IntKind.u8 0, Value.int IntKind.u8 0, Value.int IntKind.u8 0, Value.int IntKind.u8 0, Value.int IntKind.u8 0, Value.int IntKind.u8 0, Value.int IntKind.u8 0] = av fun _ => 0 := rfl
theorem wpList_lda {ops : Array Oper} {rest : List Oper} {o : Oper} {a : Act} {w : World} {Q : Exit → Act → World → Prop} (hgd : o.guard = none) (x : Operand) (ho : o.op = .load 98 x)
    (g : Nat) (hx : a.eval x = .pointer (some ⟨g, 0, none⟩)) (f : Nat → Nat) (hg : Ar w g (av f))
    (h : wpList Try.prog ops Q rest (a.put o.dst (.agg (av f))) w) : wpList Try.prog ops Q (o :: rest) a w := wpList_ld hgd x ho g hx (av f) hg (av_size f) h
theorem wpList_sta {ops : Array Oper} {rest : List Oper} {o : Oper} {a : Act} {w : World} {Q : Exit → Act → World → Prop} (hgd : o.guard = none) (hd : o.dst = none) (x y : Operand) (ho : o.op = .store 98 x y)
    (g : Nat) (f : Nat → Nat) (hx : a.eval x = .pointer (some ⟨g, 0, none⟩)) (hy : a.eval y = .agg (av f)) (old : Nat → Nat) (hg : Ar w g (av old))
    (h : wpList Try.prog ops Q rest a (w.setRow g (av f))) : wpList Try.prog ops Q (o :: rest) a w := by
  refine wpList_store_row hgd 98 x y ho g (av f) hx hy 98 (av old) hg (by rw [av_size]; exact size16) (by rw [av_size, av_size]) (av_one f) ?_
  rw [hd]
  exact h
theorem wpList_stna {ops : Array Oper} {rest : List Oper} {o : Oper} {a : Act} {w : World} {Q : Exit → Act → World → Prop} (hgd : o.guard = none) (hd : o.dst = none) (x y : Operand) (ho : o.op = .store 98 x y)
    (old : Array Value) (g : Nat) (f : Nat → Nat) (hx : a.eval x = .pointer (some ⟨g, 0, none⟩)) (hy : a.eval y = .agg (av f)) (hg : w.heap.size = g) (hs : old.size = 16)
    (h : wpList Try.prog ops Q rest a (w.alloc (.cells (av f) 98))) : wpList Try.prog ops Q (o :: rest) a (w.alloc (.cells old 98)) := by
  subst hg
  refine wpList_store_row hgd 98 x y ho w.heap.size (av f) hx hy 98 old (Ar.new w old) (by rw [av_size]; exact size16) (by rw [hs, av_size]) (av_one f) ?_
  rw [hd, World.setRow_alloc_new]
  exact h
theorem results_av {fn : Func} {p : Tmp} (h : fn.results = #[.cell p 98]) (tmps : Array Value) (w : World) (g : Nat) (f : Nat → Nat) (hp : tmps.getD p undef = .pointer (some ⟨g, 0, none⟩)) (hg : Ar w g (av f)) :
    (results fn tmps).run Try.prog w = .ok (.agg (av f)) w :=
  results_cell_row h tmps w g 98 (av f) (0, 0) _ hp hg under16 rfl (by rw [av_size]; exact size16)
theorem ret_av {f g : Nat → Nat} (h : ∀ i, i < 16 → f i = g i) : Ending.returned (.agg (av f)) = .returned (.agg (av g)) := by rw [av_ext h]
theorem new1 (w : World) (x : Array Value) : Ar (w.alloc (.cells x 98)) w.heap.size x ∧ Below w.heap.size w (w.alloc (.cells x 98)) := ⟨Ar.new w x, (Below.refl _ _).alloc (Nat.le_refl _) _⟩
theorem new2 (w : World) (x y : Array Value) : Ar ((w.alloc (.cells x 98)).alloc (.cells y 98)) w.heap.size x ∧ Ar ((w.alloc (.cells x 98)).alloc (.cells y 98)) (w.heap.size + 1) y ∧ Below w.heap.size w ((w.alloc (.cells x 98)).alloc (.cells y 98)) := by
  refine ⟨(Ar.new w x).alloc _, ?_, ((Below.refl _ _).alloc (Nat.le_refl _) _).alloc (by simp) _⟩
  have := Ar.new (w.alloc (.cells x 98)) y
  simpa using this
theorem new3 (w : World) (x y z : Array Value) : Ar (((w.alloc (.cells x 98)).alloc (.cells y 98)).alloc (.cells z 98)) w.heap.size x ∧ Ar (((w.alloc (.cells x 98)).alloc (.cells y 98)).alloc (.cells z 98)) (w.heap.size + 1) y ∧ Ar (((w.alloc (.cells x 98)).alloc (.cells y 98)).alloc (.cells z 98)) (w.heap.size + 1 + 1) z ∧ Below w.heap.size w (((w.alloc (.cells x 98)).alloc (.cells y 98)).alloc (.cells z 98)) := by
  refine ⟨((Ar.new w x).alloc _).alloc _, ?_, ?_, (((Below.refl _ _).alloc (Nat.le_refl _) _).alloc (by simp) _).alloc (by simp; omega) _⟩
  · have := (Ar.new (w.alloc (.cells x 98)) y).alloc (.cells z 98)
    simpa using this
  · have := Ar.new ((w.alloc (.cells x 98)).alloc (.cells y 98)) z
    simpa using this
theorem u8x {a b : Nat} (ha : a < 256) (hb : b < 256) : bits .xor .u8 (a : Int) (b : Int) = ((a ^^^ b : Nat) : Int) := u8_xor_nat a b ha hb
/-- '==' of two arrays. -/
theorem run_eqav (f g : Nat → Nat) (w : World) : (Op.equalIn 10000 98 (.agg (av f)) (.agg (av g))).run Try.prog w = .ok ((List.range 16).all fun i => f i == g i) w := by
  obtain ⟨i, hi⟩ := info_of_underlying under8
  rw [run_equalIn_array w 9999 _ _ under16 hi, cells8, run_eqItems_bytes w 9998 under8 (av f) (av g) f g _ (fun i hi => ⟨av_get f i (by simpa using hi), av_get g i (by simpa using hi)⟩)]
theorem all16 {f g : Nat → Nat} (h : ∀ i, i < 16 → f i = g i) : ((List.range 16).all fun i => f i == g i) = true := by
  rw [List.all_eq_true]
  intro i hi
  rw [h i (by simpa using hi)]
  simp
theorem all16_iff (f g : Nat → Nat) : ((List.range 16).all fun i => f i == g i) = true ↔ ∀ i, i < 16 → f i = g i := by
  rw [List.all_eq_true]
  exact ⟨fun h i hi => by simpa using h i (by simpa using hi), fun h i hi => by simpa using h i (by simpa using hi)⟩
theorem run_eqyes {f g : Nat → Nat} (h : ∀ i, i < 16 → f i = g i) (w : World) : (Op.equalIn 10000 98 (.agg (av f)) (.agg (av g))).run Try.prog w = .ok true w := by
  rw [run_eqav, all16 h]
/-- The same behind a guard that holds. -/
theorem wpList_ldga {ops : Array Oper} {rest : List Oper} {o : Oper} {a : Act} {w : World} {Q : Exit → Act → World → Prop} (hgd : Region.wanted o (yielded ops a.tmps) = true) (x : Operand) (ho : o.op = .load 98 x)
    (g : Nat) (hx : a.eval x = .pointer (some ⟨g, 0, none⟩)) (f : Nat → Nat) (hg : Ar w g (av f))
    (h : wpList Try.prog ops Q rest (a.put o.dst (.agg (av f))) w) : wpList Try.prog ops Q (o :: rest) a w := wpList_ldg hgd x ho g hx (av f) hg (av_size f) h
/-- An array that the text writes out. -/
theorem wpList_blda {ops : Array Oper} {rest : List Oper} {o : Oper} {a : Act} {w : World} {Q : Exit → Act → World → Prop} (hgd : Region.wanted o (yielded ops a.tmps) = true) (parts : Array (Nat × Operand)) (ho : o.op = .build 98 parts)
    (ps : List (Nat × Value)) (hp : (parts.map fun (i, x) => (i, a.eval x)).toList = ps) (f : Nat → Nat) (hb : Try.prog.built 98 ps = some (av f))
    (h : wpList Try.prog ops Q rest (a.put o.dst (.agg (av f))) w) : wpList Try.prog ops Q (o :: rest) a w :=
  wpList_step fun K hK => by
    simp only [hgd, if_true]
    exact wp_build 98 parts ho (by rw [hp, hb]; rfl) (by rw [hp, hb]; exact hK _ _ h)
theorem guard16 : Try.prog.eqGuardType Try.prog.depth 98 = false := by kernel_rfl
/-- '==' of two arrays, by its answer. -/
theorem wpList_eqa {ops : Array Oper} {rest : List Oper} {o : Oper} {a : Act} {w : World} {Q : Exit → Act → World → Prop} (hgd : Region.wanted o (yielded ops a.tmps) = true) (x y : Operand) (t : TypeId) (ho : o.op = .binOp .eql 98 x y t)
    (xs ys : Array Value) (hx : a.eval x = .agg xs) (hy : a.eval y = .agg ys) (r : Bool) (hr : ∀ w, (Op.equalIn 10000 98 (.agg xs) (.agg ys)).run Try.prog w = .ok r w)
    (h : wpList Try.prog ops Q rest (a.put o.dst (.bool r)) w) : wpList Try.prog ops Q (o :: rest) a w :=
  wpList_step fun K hK => by
    simp only [hgd, if_true]
    unfold Oper.wp execOp
    simp only [ho, hx, hy, Sem.run_bind, Sem.run_pure, run_eqGuard_agg w .eql _ x y _ _ guard16, Result.andThen_ok, run_eql_struct, hr]
    exact hK _ _ h
/-! In a region that draws and only reads. -/
theorem quiet_lda {C : World → Prop} {K : Act → Prop} {o : Oper} {a : Act} (x : Operand) (ho : o.op = .load 98 x) (g : Nat) (f : Nat → Nat) (hx : a.eval x = .pointer (some ⟨g, 0, none⟩)) (hC : ∀ w, C w → Ar w g (av f)) (hk : K (a.put o.dst (.agg (av f)))) : o.quiet Try.prog a C K :=
  ⟨_, fun w h => by
    unfold Oper.quietAt execOp
    simp only [ho, hx, Instr.loadAt, Instr.sureAddr, Sem.run_bind, Sem.run_pure, Result.andThen_ok, run_loadVar_row w g 98 98 (av f) (0, 0) _ (hC w h) under16 rfl (by rw [av_size]; exact size16)]
    exact ⟨rfl, rfl⟩, hk⟩
theorem quiet_eqa {C : World → Prop} {K : Act → Prop} {o : Oper} {a : Act} (x y : Operand) (t : TypeId) (ho : o.op = .binOp .eql 98 x y t) (xs ys : Array Value) (hx : a.eval x = .agg xs) (hy : a.eval y = .agg ys) (r : Bool)
    (hr : ∀ w, (Op.equalIn 10000 98 (.agg xs) (.agg ys)).run Try.prog w = .ok r w) (hk : K (a.put o.dst (.bool r))) : o.quiet Try.prog a C K :=
  ⟨.bool r, fun w h => by
    unfold Oper.quietAt execOp
    simp only [ho, hx, hy, Sem.run_bind, Sem.run_pure, run_eqGuard_agg w .eql _ x y _ _ guard16, Result.andThen_ok, run_eql_struct, hr]
    exact ⟨rfl, rfl⟩, hk⟩
theorem Ar.ofDrawn {w : World} {g : Nat} {cs : Array Value} (h : Ar w g cs) : ∀ w', (∃ n, w' = w.drewN n) → Ar w' g cs := by
  rintro _ ⟨n, rfl⟩
  exact h.drawn n
end Go.Proofs.Ytgcbfamlediafaa
namespace Go.Proofs.Ytgcbfamlediafaa
set_option maxRecDepth 100000
open Go.RowKit
set_option linter.unusedVariables false

/-- n bytes as cells. -/
def rw8 (n : Nat) (f : Nat → Nat) : Array Value := ((List.range n).map fun i => Value.int .u8 (f i : Nat)).toArray
theorem rw8_size (n : Nat) (f : Nat → Nat) : (rw8 n f).size = n := by simp [rw8]
theorem rw8_get (n : Nat) (f : Nat → Nat) (i : Nat) (h : i < n) : (rw8 n f)[i]? = some (.int .u8 (f i : Nat)) := by simp [rw8, h]
theorem rw8_set (n : Nat) (f : Nat → Nat) (i x : Nat) : (rw8 n f).setIfInBounds i (.int .u8 (x : Nat)) = rw8 n fun j => if j = i then x else f j := by
  apply Array.ext_getElem?
  intro j
  rw [Array.getElem?_setIfInBounds, rw8_size]
  by_cases hj : j < n
  · rw [rw8_get _ _ j hj, rw8_get _ _ j hj]
    by_cases h : i = j
    · subst h; simp [hj]
    · rw [if_neg h, if_neg (fun e => h e.symm)]
  · have e1 : ∀ f, (rw8 n f)[j]? = none := fun f => Array.getElem?_eq_none (by rw [rw8_size]; omega)
    rw [e1, e1]
    split
    · rw [if_neg (by omega)]
    · rfl
def Rw (w : World) (g : Nat) (t : TypeId) (n : Nat) (f : Nat → Nat) : Prop := w.heap[g]? = some (.cells (rw8 n f) t (0, 0))
theorem Rw.lt {w : World} {g t n : Nat} {f : Nat → Nat} (h : Rw w g t n f) : g < w.heap.size := (Array.getElem?_eq_some_iff.1 h).1
theorem Rw.fz {w : World} {g t n : Nat} {f : Nat → Nat} (h : Rw w g t n f) (i : Nat) : w.frozen? ⟨g, i, none⟩ = false := by unfold Rw at h; simp [World.frozen?, h]
theorem Rw.byte {w : World} {g t n : Nat} {f : Nat → Nat} (h : Rw w g t n f) (i : Nat) (hi : i < n) : w.cell? ⟨g, i, none⟩ = some (.int .u8 (f i : Nat)) := (cell_of_row w g i _ t (0, 0) h).trans (rw8_get n f i hi)
theorem Rw.set {w : World} {g t n : Nat} {f : Nat → Nat} (h : Rw w g t n f) (i x : Nat) : Rw (w.setCell ⟨g, i, none⟩ (.int .u8 (x : Nat))) g t n fun j => if j = i then x else f j := by
  unfold Rw at *; rw [← rw8_set]; simp [World.setCell, Array.getElem?_modify, h]
theorem Rw.other {w : World} {g g' t n : Nat} {f : Nat → Nat} (h : Rw w g t n f) (hn : g ≠ g') (i : Nat) (v : Value) : Rw (w.setCell ⟨g', i, none⟩ v) g t n f := by
  unfold Rw at *; rw [Below.heap_setCell _ _ _ _ hn]; exact h
theorem Rw.kept {w w' : World} {g t n : Nat} {f : Nat → Nat} (h : Rw w g t n f) (hb : Below w.heap.size w w') : Rw w' g t n f := by
  have := h.lt
  unfold Rw at *; rw [hb.block g this]; exact h
theorem Rw.new (w : World) (t n : Nat) (f : Nat → Nat) : Rw (w.alloc (.cells (rw8 n f) t)) w.heap.size t n f := heap_alloc_new w _
theorem Rw.alloc {w : World} {g t n : Nat} {f : Nat → Nat} (h : Rw w g t n f) (o : Obj) : Rw (w.alloc o) g t n f := by
  have := h.lt
  unfold Rw at *; rw [Below.heap_alloc _ _ _ this]; exact h
theorem Rw.drew {w : World} {g t n : Nat} {f : Nat → Nat} (h : Rw w g t n f) : Rw w.drew g t n f := h

/-- The document's cipher while it is made: c substitutions and doubles stand, the round words begin with l. -/
def NS (w : World) (g c : Nat) (l : List Nat) : Prop :=
  ∃ f, Rw w g 134 752 f ∧ (∀ y, y < c → f y = sbx y) ∧ (∀ y, y < c → f (256 + y) = mul8 2 y) ∧ ∀ j, j < 240 → f (512 + j) = l.getD j 0
theorem NS.lt {w : World} {g c : Nat} {l : List Nat} (h : NS w g c l) : g < w.heap.size := by obtain ⟨f, r, _⟩ := h; exact r.lt
theorem NS.fz {w : World} {g c : Nat} {l : List Nat} (h : NS w g c l) (i : Nat) : w.frozen? ⟨g, i, none⟩ = false := by obtain ⟨f, r, _⟩ := h; exact r.fz i
theorem NS.some {w : World} {g c : Nat} {l : List Nat} (h : NS w g c l) (i : Nat) (hi : i < 752) : ∃ o : Nat, w.cell? ⟨g, i, none⟩ = some (.int .u8 (o : Nat)) := by obtain ⟨f, r, _⟩ := h; exact ⟨_, r.byte i hi⟩
theorem NS.key {w : World} {g c : Nat} {l : List Nat} (h : NS w g c l) (j : Nat) (hj : j < 240) : w.cell? ⟨g, 512 + j, none⟩ = .some (.int .u8 (l.getD j 0 : Nat)) := by
  obtain ⟨f, r, _, _, hk⟩ := h
  rw [r.byte _ (by omega), hk j hj]
theorem NS.box {w : World} {g c : Nat} {l : List Nat} (h : NS w g c l) (y : Nat) (hy : y < c) (hc : c ≤ 256) : w.cell? ⟨g, y, none⟩ = .some (.int .u8 (sbx y : Nat)) := by
  obtain ⟨f, r, hb, _, _⟩ := h
  rw [r.byte _ (by omega), hb y hy]
theorem NS.dbl {w : World} {g c : Nat} {l : List Nat} (h : NS w g c l) (y : Nat) (hy : y < c) (hc : c ≤ 256) : w.cell? ⟨g, 256 + y, none⟩ = .some (.int .u8 (mul8 2 y : Nat)) := by
  obtain ⟨f, r, _, hb, _⟩ := h
  rw [r.byte _ (by omega), hb y hy]
theorem NS.kept {w w' : World} {g c : Nat} {l : List Nat} (h : NS w g c l) (hb : Below w.heap.size w w') : NS w' g c l := by obtain ⟨f, r, x⟩ := h; exact ⟨f, r.kept hb, x⟩
theorem NS.other {w : World} {g g' c : Nat} {l : List Nat} (h : NS w g c l) (hn : g ≠ g') (i : Nat) (v : Value) : NS (w.setCell ⟨g', i, none⟩ v) g c l := by obtain ⟨f, r, x⟩ := h; exact ⟨f, r.other hn i v, x⟩
theorem NS.alloc {w : World} {g c : Nat} {l : List Nat} (h : NS w g c l) (o : Obj) : NS (w.alloc o) g c l := by obtain ⟨f, r, x⟩ := h; exact ⟨f, r.alloc o, x⟩
theorem NS.drew {w : World} {g c : Nat} {l : List Nat} (h : NS w g c l) : NS w.drew g c l := by obtain ⟨f, r, x⟩ := h; exact ⟨f, r.drew, x⟩
theorem NS.setBoth {w w' : World} {g c : Nat} {l : List Nat} (h : NS w g c l) (hc : c < 256) (hw : ∀ f, Rw w g 134 752 f → Rw w' g 134 752 fun j => if j = 256 + c then mul8 2 c else if j = c then sbx c else f j) : NS w' g (c + 1) l := by
  obtain ⟨f, r, h1, h2, h3⟩ := h
  refine ⟨_, hw f r, fun y hy => ?_, fun y hy => ?_, fun j hj => ?_⟩
  · rw [if_neg (by omega)]
    by_cases e : y = c
    · rw [if_pos e, e]
    · rw [if_neg e, h1 y (by omega)]
  · by_cases e : y = c
    · rw [if_pos (by omega), e]
    · rw [if_neg (by omega), if_neg (by omega), h2 y (by omega)]
  · rw [if_neg (by omega), if_neg (by omega), h3 j hj]
theorem NS.setKey {w : World} {g c : Nat} {l l' : List Nat} (h : NS w g c l) (hc : c ≤ 256) (j x : Nat) (hj : j < 240) (hl : ∀ i, i < 240 → l'.getD i 0 = if i = j then x else l.getD i 0) : NS (w.setCell ⟨g, 512 + j, none⟩ (.int .u8 (x : Nat))) g c l' := by
  obtain ⟨f, r, h1, h2, h3⟩ := h
  refine ⟨_, r.set (512 + j) x, fun y hy => ?_, fun y hy => ?_, fun i hi => ?_⟩
  · rw [if_neg (by omega), h1 y hy]
  · rw [if_neg (by omega), h2 y hy]
  · rw [hl i hi]
    by_cases e : i = j
    · rw [if_pos e, if_pos (by omega)]
    · rw [if_neg e, if_neg (by omega), h3 i hi]
theorem getD_app (l m : List Nat) (j : Nat) : (l ++ m).getD j 0 = if j < l.length then l.getD j 0 else m.getD (j - l.length) 0 := by
  by_cases h : j < l.length
  · rw [if_pos h]; simp only [List.getD, List.getElem?_append_left h]
  · rw [if_neg h]; simp [List.getD, List.getElem?_append_right (Nat.not_lt.1 h)]
/-- One byte more. -/
theorem getD_more (l m : List Nat) (n k : Nat) (hl : l.length = n) (hk : k < m.length) (i : Nat) : (l ++ m.take (k + 1)).getD i 0 = if i = n + k then m.getD k 0 else (l ++ m.take k).getD i 0 := by
  rw [getD_app, getD_app, hl]
  by_cases h : i < n
  · rw [if_pos h, if_pos h, if_neg (by omega)]
  · rw [if_neg h, if_neg h]
    simp only [List.getD, List.getElem?_take]
    by_cases e : i = n + k
    · rw [if_pos e, e, show n + k - n = k from by omega, if_pos (by omega)]
    · rw [if_neg e]
      by_cases h2 : i - n < k
      · rw [if_pos (by omega), if_pos h2]
      · rw [if_neg (by omega), if_neg h2]
end Go.Proofs.Ytgcbfamlediafaa
