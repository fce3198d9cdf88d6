import Derived.Test.YtgjamfnhkeoedaaBase
import Derived.Test.YtgjamfnhkeoedaaAes
import Derived.BigRegion
namespace Go.Proofs.Ytgjamfnhkeoedaa
open Go.RowKit
set_option linter.unusedVariables false

theorem zeros16a : #[Value.int IntKind.u8 0, Value.int IntKind.u8 0, Value.int IntKind.u8 0, Value.int IntKind.u8 0, Value.int IntKind.u8 0, Value.int IntKind.u8 0, Value.int IntKind.u8 0, Value.int IntKind.u8 0, Value.int IntKind.u8 0, Value.int IntKind.u8 0, Value.int IntKind.u8 0, Value.int IntKind.u8 0, Value.int IntKind.u8 0, Value.int IntKind.u8 0, Value.int IntKind.u8 0, Value.int IntKind.u8 0] = av fun _ => 0 := rfl
theorem wpList_lda {ops : Array Oper} {rest : List Oper} {o : Oper} {a : Act} {w : World} {Q : Exit → Act → World → Prop} (hgd : o.guard = none) (x : Operand) (ho : o.op = .load 44 x)
    (g : Nat) (hx : a.eval x = .pointer (some ⟨g, 0, none⟩)) (f : Nat → Nat) (hg : Ar w g (av f))
    (h : wpList Try.prog ops Q rest (a.put o.dst (.agg (av f))) w) : wpList Try.prog ops Q (o :: rest) a w := wpList_ld hgd x ho g hx (av f) hg (av_size f) h
theorem wpList_sta {ops : Array Oper} {rest : List Oper} {o : Oper} {a : Act} {w : World} {Q : Exit → Act → World → Prop} (hgd : o.guard = none) (hd : o.dst = none) (x y : Operand) (ho : o.op = .store 44 x y)
    (g : Nat) (f : Nat → Nat) (hx : a.eval x = .pointer (some ⟨g, 0, none⟩)) (hy : a.eval y = .agg (av f)) (old : Nat → Nat) (hg : Ar w g (av old))
    (h : wpList Try.prog ops Q rest a (w.setRow g (av f))) : wpList Try.prog ops Q (o :: rest) a w := by
  refine wpList_store_row hgd 44 x y ho g (av f) hx hy 44 (av old) hg (by rw [av_size]; exact size16) (by rw [av_size, av_size]) (av_one f) ?_
  rw [hd]
  exact h
theorem wpList_stna {ops : Array Oper} {rest : List Oper} {o : Oper} {a : Act} {w : World} {Q : Exit → Act → World → Prop} (hgd : o.guard = none) (hd : o.dst = none) (x y : Operand) (ho : o.op = .store 44 x y)
    (old : Array Value) (g : Nat) (f : Nat → Nat) (hx : a.eval x = .pointer (some ⟨g, 0, none⟩)) (hy : a.eval y = .agg (av f)) (hg : w.heap.size = g) (hs : old.size = 16)
    (h : wpList Try.prog ops Q rest a (w.alloc (.cells (av f) 44))) : wpList Try.prog ops Q (o :: rest) a (w.alloc (.cells old 44)) := by
  subst hg
  refine wpList_store_row hgd 44 x y ho w.heap.size (av f) hx hy 44 old (Ar.new w old) (by rw [av_size]; exact size16) (by rw [hs, av_size]) (av_one f) ?_
  rw [hd, World.setRow_alloc_new]
  exact h
theorem results_av {fn : Func} {p : Tmp} (h : fn.results = #[.cell p 44]) (tmps : Array Value) (w : World) (g : Nat) (f : Nat → Nat) (hp : tmps.getD p undef = .pointer (some ⟨g, 0, none⟩)) (hg : Ar w g (av f)) :
    (results fn tmps).run Try.prog w = .ok (.agg (av f)) w :=
  results_cell_row h tmps w g 44 (av f) (0, 0) _ hp hg under16 rfl (by rw [av_size]; exact size16)
theorem ret_av {f g : Nat → Nat} (h : ∀ i, i < 16 → f i = g i) : Ending.returned (.agg (av f)) = .returned (.agg (av g)) := by rw [av_ext h]
theorem new1 (w : World) (x : Array Value) : Ar (w.alloc (.cells x 44)) w.heap.size x ∧ Below w.heap.size w (w.alloc (.cells x 44)) := ⟨Ar.new w x, (Below.refl _ _).alloc (Nat.le_refl _) _⟩
theorem new2 (w : World) (x y : Array Value) : Ar ((w.alloc (.cells x 44)).alloc (.cells y 44)) w.heap.size x ∧ Ar ((w.alloc (.cells x 44)).alloc (.cells y 44)) (w.heap.size + 1) y ∧ Below w.heap.size w ((w.alloc (.cells x 44)).alloc (.cells y 44)) := by
  refine ⟨(Ar.new w x).alloc _, ?_, ((Below.refl _ _).alloc (Nat.le_refl _) _).alloc (by simp) _⟩
  have := Ar.new (w.alloc (.cells x 44)) y
  simpa using this
theorem new3 (w : World) (x y z : Array Value) : Ar (((w.alloc (.cells x 44)).alloc (.cells y 44)).alloc (.cells z 44)) w.heap.size x ∧ Ar (((w.alloc (.cells x 44)).alloc (.cells y 44)).alloc (.cells z 44)) (w.heap.size + 1) y ∧ Ar (((w.alloc (.cells x 44)).alloc (.cells y 44)).alloc (.cells z 44)) (w.heap.size + 1 + 1) z ∧ Below w.heap.size w (((w.alloc (.cells x 44)).alloc (.cells y 44)).alloc (.cells z 44)) := by
  refine ⟨((Ar.new w x).alloc _).alloc _, ?_, ?_, (((Below.refl _ _).alloc (Nat.le_refl _) _).alloc (by simp) _).alloc (by simp; omega) _⟩
  · have := (Ar.new (w.alloc (.cells x 44)) y).alloc (.cells z 44)
    simpa using this
  · have := Ar.new ((w.alloc (.cells x 44)).alloc (.cells y 44)) z
    simpa using this
theorem u8x {a b : Nat} (ha : a < 256) (hb : b < 256) : bits .xor .u8 (a : Int) (b : Int) = ((a ^^^ b : Nat) : Int) := u8_xor_nat a b ha hb
/-- '==' of two arrays. -/
theorem run_eqav (f g : Nat → Nat) (w : World) : (Op.equalIn 10000 44 (.agg (av f)) (.agg (av g))).run Try.prog w = .ok ((List.range 16).all fun i => f i == g i) w := by
  obtain ⟨i, hi⟩ := info_of_underlying under8
  rw [run_equalIn_array w 9999 _ _ under16 hi, cells8, run_eqItems_bytes w 9998 under8 (av f) (av g) f g _ (fun i hi => ⟨av_get f i (by simpa using hi), av_get g i (by simpa using hi)⟩)]
theorem all16 {f g : Nat → Nat} (h : ∀ i, i < 16 → f i = g i) : ((List.range 16).all fun i => f i == g i) = true := by
  rw [List.all_eq_true]
  intro i hi
  rw [h i (by simpa using hi)]
  simp
theorem all16_iff (f g : Nat → Nat) : ((List.range 16).all fun i => f i == g i) = true ↔ ∀ i, i < 16 → f i = g i := by
  rw [List.all_eq_true]
  exact ⟨fun h i hi => by simpa using h i (by simpa using hi), fun h i hi => by simpa using h i (by simpa using hi)⟩
theorem run_eqyes {f g : Nat → Nat} (h : ∀ i, i < 16 → f i = g i) (w : World) : (Op.equalIn 10000 44 (.agg (av f)) (.agg (av g))).run Try.prog w = .ok true w := by
  rw [run_eqav, all16 h]
/-- The same behind a guard that holds. -/
theorem wpList_ldga {ops : Array Oper} {rest : List Oper} {o : Oper} {a : Act} {w : World} {Q : Exit → Act → World → Prop} (hgd : Region.wanted o (yielded ops a.tmps) = true) (x : Operand) (ho : o.op = .load 44 x)
    (g : Nat) (hx : a.eval x = .pointer (some ⟨g, 0, none⟩)) (f : Nat → Nat) (hg : Ar w g (av f))
    (h : wpList Try.prog ops Q rest (a.put o.dst (.agg (av f))) w) : wpList Try.prog ops Q (o :: rest) a w := wpList_ldg hgd x ho g hx (av f) hg (av_size f) h
/-- An array that the text writes out. -/
theorem wpList_blda {ops : Array Oper} {rest : List Oper} {o : Oper} {a : Act} {w : World} {Q : Exit → Act → World → Prop} (hgd : Region.wanted o (yielded ops a.tmps) = true) (parts : Array (Nat × Operand)) (ho : o.op = .build 44 parts)
    (ps : List (Nat × Value)) (hp : (parts.map fun (i, x) => (i, a.eval x)).toList = ps) (f : Nat → Nat) (hb : Try.prog.built 44 ps = some (av f))
    (h : wpList Try.prog ops Q rest (a.put o.dst (.agg (av f))) w) : wpList Try.prog ops Q (o :: rest) a w :=
  wpList_step fun K hK => by
    simp only [hgd, if_true]
    exact wp_build 44 parts ho (by rw [hp, hb]; rfl) (by rw [hp, hb]; exact hK _ _ h)
theorem guard16 : Try.prog.eqGuardType Try.prog.depth 44 = false := by kernel_rfl
/-- '==' of two arrays, by its answer. -/
theorem wpList_eqa {ops : Array Oper} {rest : List Oper} {o : Oper} {a : Act} {w : World} {Q : Exit → Act → World → Prop} (hgd : Region.wanted o (yielded ops a.tmps) = true) (x y : Operand) (t : TypeId) (ho : o.op = .binOp .eql 44 x y t)
    (xs ys : Array Value) (hx : a.eval x = .agg xs) (hy : a.eval y = .agg ys) (r : Bool) (hr : ∀ w, (Op.equalIn 10000 44 (.agg xs) (.agg ys)).run Try.prog w = .ok r w)
    (h : wpList Try.prog ops Q rest (a.put o.dst (.bool r)) w) : wpList Try.prog ops Q (o :: rest) a w :=
  wpList_step fun K hK => by
    simp only [hgd, if_true]
    unfold Oper.wp execOp
    simp only [ho, hx, hy, Sem.run_bind, Sem.run_pure, run_eqGuard_agg w .eql _ x y _ _ guard16, Result.andThen_ok, run_eql_struct, hr]
    exact hK _ _ h
/-! In a region that draws and only reads. -/
theorem quiet_lda {C : World → Prop} {K : Act → Prop} {o : Oper} {a : Act} (x : Operand) (ho : o.op = .load 44 x) (g : Nat) (f : Nat → Nat) (hx : a.eval x = .pointer (some ⟨g, 0, none⟩)) (hC : ∀ w, C w → Ar w g (av f)) (hk : K (a.put o.dst (.agg (av f)))) : o.quiet Try.prog a C K :=
  ⟨_, fun w h => by
    unfold Oper.quietAt execOp
    simp only [ho, hx, Instr.loadAt, Instr.sureAddr, Sem.run_bind, Sem.run_pure, Result.andThen_ok, run_loadVar_row w g 44 44 (av f) (0, 0) _ (hC w h) under16 rfl (by rw [av_size]; exact size16)]
    exact ⟨rfl, rfl⟩, hk⟩
theorem quiet_eqa {C : World → Prop} {K : Act → Prop} {o : Oper} {a : Act} (x y : Operand) (t : TypeId) (ho : o.op = .binOp .eql 44 x y t) (xs ys : Array Value) (hx : a.eval x = .agg xs) (hy : a.eval y = .agg ys) (r : Bool)
    (hr : ∀ w, (Op.equalIn 10000 44 (.agg xs) (.agg ys)).run Try.prog w = .ok r w) (hk : K (a.put o.dst (.bool r))) : o.quiet Try.prog a C K :=
  ⟨.bool r, fun w h => by
    unfold Oper.quietAt execOp
    simp only [ho, hx, hy, Sem.run_bind, Sem.run_pure, run_eqGuard_agg w .eql _ x y _ _ guard16, Result.andThen_ok, run_eql_struct, hr]
    exact ⟨rfl, rfl⟩, hk⟩
theorem Ar.ofDrawn {w : World} {g : Nat} {cs : Array Value} (h : Ar w g cs) : ∀ w', (∃ n, w' = w.drewN n) → Ar w' g cs := by
  rintro _ ⟨n, rfl⟩
  exact h.drawn n
end Go.Proofs.Ytgjamfnhkeoedaa
