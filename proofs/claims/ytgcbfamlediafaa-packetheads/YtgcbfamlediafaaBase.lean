import Derived.Test.YtgcbfamlediafaaRows
import Derived.Test.YtgcbfamlediafaaBlk
import Derived.WalkKit
import Derived.WalkSpells
import Derived.WalkSmall
import Derived.WalkLawsBesides
import Derived.Deep.QuietTactic
import Derived.BigQuiet
import Derived.Deep.WholeRow
import Derived.ChangeKeysEq
namespace Go.Proofs.Ytgcbfamlediafaa
set_option maxRecDepth 100000
open Go.RowKit
set_option linter.unusedVariables false

theorem hid {p : Prop} (h : p) : Hid p := h
theorem grown_of_below {w w1 : World} (hg : Below w.heap.size w w1) : w.grownBy w1 none := ⟨hg.os, hg.tape, hg.output, hg.size, fun k hk _ => hg.block k hk⟩
/-- The frame over one more call. -/
theorem bel_bel {B : Nat} {a b c : World} (h : Below B a b) (hB : B ≤ b.heap.size) (hg : Below b.heap.size b c) : Below B a c :=
  h.trans ⟨hg.os, hg.tape, hg.output, hg.size, fun k hk => hg.block k (by omega)⟩
theorem bel_row {B g : Nat} {w w' : World} (h : Below B w w') (hg : B ≤ g) (ds : Array Value) : Below B w (w'.setRow g ds) :=
  h.trans ⟨rfl, rfl, rfl, by simp, fun k hk => setRow_other w' g k ds (by omega)⟩
theorem bel_drawn {B : Nat} {a b : World} (h : Below B a b) (n : Nat) : Below B a (b.drewN n) := h.trans ⟨rfl, rfl, rfl, Nat.le_refl _, fun _ _ => rfl⟩
theorem ret_u8 {a b : Nat} (h : a = b) : Ending.returned (.int .u8 (a : Int)) = .returned (.int .u8 b) := by rw [h]
theorem ret_agg {a b : Nat} (h : a = b) : Ending.returned (.agg (bv a)) = .returned (.agg (bv b)) := by rw [h]

/-- Sixteen bytes as Go's array. -/
def av (f : Nat → Nat) : Array Value := ((List.range 16).map fun i => Value.int .u8 (f i : Nat)).toArray
theorem av_bv (B : Nat) : av (dg B) = bv B := rfl
theorem av_size (f : Nat → Nat) : (av f).size = 16 := by simp [av]
theorem av_get (f : Nat → Nat) (i : Nat) (h : i < 16) : (av f)[i]? = some (.int .u8 (f i : Nat)) := by simp [av, h]
theorem av_one (f : Nat → Nat) : (av f).all (·.oneCell') = true := by simp [av, Value.oneCell']
theorem av_ext {f g : Nat → Nat} (h : ∀ i, i < 16 → f i = g i) : av f = av g := by
  unfold av
  rw [List.map_congr_left]
  intro i hi
  rw [h i (by simpa using hi)]
theorem av_set (f : Nat → Nat) (i x : Nat) : (av f).setIfInBounds i (.int .u8 (x : Nat)) = av fun j => if j = i then x else f j := by
  apply Array.ext_getElem?
  intro j
  rw [Array.getElem?_setIfInBounds, av_size]
  by_cases hj : j < 16
  · rw [av_get _ j hj, av_get _ j hj]
    by_cases h : i = j
    · subst h; simp [hj]
    · rw [if_neg h, if_neg (fun e => h e.symm)]
  · have e1 : ∀ f, (av f)[j]? = none := fun f => Array.getElem?_eq_none (by rw [av_size]; omega)
    rw [e1, e1]
    split
    · rw [if_neg (by omega)]
    · rfl
/-- The first i bytes of f, the others of g. -/
def mix (i : Nat) (f g : Nat → Nat) : Nat → Nat := fun j => if j < i then f j else g j
theorem mix_zero (f g : Nat → Nat) : av (mix 0 f g) = av g := av_ext fun i _ => by simp [mix]
theorem mix_all (f g : Nat → Nat) : av (mix 16 f g) = av f := av_ext fun i h => by simp [mix, h]
theorem mix_at (i : Nat) (f g : Nat → Nat) : mix i f g i = g i := by simp [mix]
theorem mix_set (i : Nat) (f g : Nat → Nat) : (av (mix i f g)).setIfInBounds i (.int .u8 (f i : Nat)) = av (mix (i + 1) f g) := by
  rw [av_set]
  refine av_ext fun j _ => ?_
  unfold mix
  by_cases h : j = i
  · subst h; simp
  · rw [if_neg h]; congr 1; exact propext ⟨fun _ => by omega, fun _ => by omega⟩
theorem mix_down (i : Nat) (f g : Nat → Nat) : (av (mix (i + 1) f g)).setIfInBounds i (.int .u8 (g i : Nat)) = av (mix i f g) := by
  rw [av_set]
  refine av_ext fun j _ => ?_
  unfold mix
  by_cases h : j = i
  · subst h; simp
  · rw [if_neg h]; congr 1; exact propext ⟨fun _ => by omega, fun _ => by omega⟩

/-- An array of 16 bytes in a block of its own. -/
def Ar (w : World) (g : Nat) (cs : Array Value) : Prop := w.heap[g]? = some (.cells cs 98 (0, 0))
theorem Ar.lt {w : World} {g : Nat} {cs : Array Value} (h : Ar w g cs) : g < w.heap.size := (Array.getElem?_eq_some_iff.1 h).1
theorem Ar.fz {w : World} {g : Nat} {cs : Array Value} (h : Ar w g cs) (i : Nat) : w.frozen? ⟨g, i, none⟩ = false := by unfold Ar at h; simp [World.frozen?, h]
theorem Ar.cell {w : World} {g : Nat} {cs : Array Value} (h : Ar w g cs) (i : Nat) : w.cell? ⟨g, i, none⟩ = cs[i]? := cell_of_row w g i cs 98 (0, 0) h
theorem Ar.byte {w : World} {g : Nat} {f : Nat → Nat} (h : Ar w g (av f)) (i : Nat) (hi : i < 16) : w.cell? ⟨g, i, none⟩ = some (.int .u8 (f i : Nat)) := (h.cell i).trans (av_get f i hi)
theorem Ar.set {w : World} {g : Nat} {cs : Array Value} (h : Ar w g cs) (i : Nat) (v : Value) : Ar (w.setCell ⟨g, i, none⟩ v) g (cs.setIfInBounds i v) := by
  unfold Ar at *; simp [World.setCell, Array.getElem?_modify, h]
theorem Ar.other {w : World} {g g' : Nat} {cs : Array Value} (h : Ar w g cs) (hn : g ≠ g') (i : Nat) (v : Value) : Ar (w.setCell ⟨g', i, none⟩ v) g cs := by
  unfold Ar at *; rw [Below.heap_setCell _ _ _ _ hn]; exact h
theorem Ar.kept {w w' : World} {g : Nat} {cs : Array Value} (h : Ar w g cs) (hb : Below w.heap.size w w') : Ar w' g cs := by
  have := h.lt
  unfold Ar at *; rw [hb.block g this]; exact h
theorem Ar.row {w : World} {g : Nat} {cs : Array Value} (h : Ar w g cs) (ds : Array Value) : Ar (w.setRow g ds) g ds := setRow_heap w g cs ds _ _ h
theorem Ar.orow {w : World} {g g' : Nat} {cs : Array Value} (h : Ar w g cs) (hn : g ≠ g') (ds : Array Value) : Ar (w.setRow g' ds) g cs := by
  unfold Ar at *; rw [setRow_other w g' g ds (by omega)]; exact h
theorem Ar.new (w : World) (cs : Array Value) : Ar (w.alloc (.cells cs 98)) w.heap.size cs := heap_alloc_new w _
theorem Ar.new1 (w : World) (cs : Array Value) {g : Nat} (h : w.heap.size = g) : Ar (w.alloc (.cells cs 98)) g cs := h ▸ Ar.new w cs
theorem Ar.alloc {w : World} {g : Nat} {cs : Array Value} (h : Ar w g cs) (o : Obj) : Ar (w.alloc o) g cs := by
  have := h.lt
  unfold Ar at *; rw [Below.heap_alloc _ _ _ this]; exact h
theorem Ar.drawn {w : World} {g : Nat} {cs : Array Value} (h : Ar w g cs) (n : Nat) : Ar (w.drewN n) g cs := h

theorem under16 : Try.prog.underlying 98 = some (.array 16 5) := by kernel_rfl
theorem under8 : Try.prog.underlying 5 = some (.int .u8) := by kernel_rfl
theorem size16 : (Try.prog.info? 98).map (·.size) = some 16 := by kernel_rfl
theorem size8 (w : World) : (sizeOf 5).run Try.prog w = .ok 1 w := by
  obtain ⟨i, hi, hs⟩ : ∃ i, Try.prog.info? 5 = some i ∧ i.size = 1 := by
    have := show (Try.prog.info? 5).map (·.size) = some 1 by kernel_rfl
    simpa using Option.map_eq_some_iff.1 this
  simp [sizeOf, typeInfo, hi, hs]
theorem zeros16 : #[Value.int IntKind.u8 0, Value.int IntKind.u8 0, Value.int IntKind.u8 0, Value.int IntKind.u8 0, Value.int IntKind.u8 0, Value.int IntKind.u8 0, Value.int IntKind.u8 0, Value.int IntKind.u8 0, Value.int IntKind.u8 0, Value.int IntKind.u8 0, Value.int IntKind.u8 0, Value.int IntKind.u8 0, Value.int IntKind.u8 0, Value.int IntKind.u8 0, Value.int IntKind.u8 0, Value.int IntKind.u8 0] = bv 0 := by kernel_rfl

/-- A whole array is read. -/
theorem wpList_ld {ops : Array Oper} {rest : List Oper} {o : Oper} {a : Act} {w : World} {Q : Exit → Act → World → Prop} (hgd : o.guard = none) (x : Operand) (ho : o.op = .load 98 x)
    (g : Nat) (hx : a.eval x = .pointer (some ⟨g, 0, none⟩)) (cs : Array Value) (hg : Ar w g cs) (hs : cs.size = 16)
    (h : wpList Try.prog ops Q rest (a.put o.dst (.agg cs)) w) : wpList Try.prog ops Q (o :: rest) a w :=
  wpList_load_row hgd 98 x ho g hx 98 cs (0, 0) _ hg under16 rfl (by rw [hs]; exact size16) h
/-- The same behind a guard that holds. -/
theorem wpList_ldg {ops : Array Oper} {rest : List Oper} {o : Oper} {a : Act} {w : World} {Q : Exit → Act → World → Prop} (hgd : Region.wanted o (yielded ops a.tmps) = true) (x : Operand) (ho : o.op = .load 98 x)
    (g : Nat) (hx : a.eval x = .pointer (some ⟨g, 0, none⟩)) (cs : Array Value) (hg : Ar w g cs) (hs : cs.size = 16)
    (h : wpList Try.prog ops Q rest (a.put o.dst (.agg cs)) w) : wpList Try.prog ops Q (o :: rest) a w :=
  wpList_step fun K hK => by
    simp only [hgd, if_true]
    exact wp_load_row 98 x ho g hx 98 cs (0, 0) _ hg under16 rfl (by rw [hs]; exact size16) (hK _ _ h)
/-- An array that the text writes out. -/
theorem wpList_bld {ops : Array Oper} {rest : List Oper} {o : Oper} {a : Act} {w : World} {Q : Exit → Act → World → Prop} (hgd : Region.wanted o (yielded ops a.tmps) = true) (parts : Array (Nat × Operand)) (ho : o.op = .build 98 parts)
    (ps : List (Nat × Value)) (hp : (parts.map fun (i, x) => (i, a.eval x)).toList = ps) (B : Nat) (hb : Try.prog.built 98 ps = some (bv B))
    (h : wpList Try.prog ops Q rest (a.put o.dst (.agg (bv B))) w) : wpList Try.prog ops Q (o :: rest) a w :=
  wpList_step fun K hK => by
    simp only [hgd, if_true]
    exact wp_build 98 parts ho (by rw [hp, hb]; rfl) (by rw [hp, hb]; exact hK _ _ h)
/-- A whole array goes into its variable. -/
theorem wpList_st {ops : Array Oper} {rest : List Oper} {o : Oper} {a : Act} {w : World} {Q : Exit → Act → World → Prop} (hgd : o.guard = none) (hd : o.dst = none) (x y : Operand) (ho : o.op = .store 98 x y)
    (g B : Nat) (hx : a.eval x = .pointer (some ⟨g, 0, none⟩)) (hy : a.eval y = .agg (bv B)) (old : Array Value) (hg : Ar w g old) (hs : old.size = 16)
    (h : wpList Try.prog ops Q rest a (w.setRow g (bv B))) : wpList Try.prog ops Q (o :: rest) a w := by
  refine wpList_store_row hgd 98 x y ho g (bv B) hx hy 98 old hg (by rw [bv_size]; exact size16) (by rw [hs, bv_size]) (bv_one B) ?_
  rw [hd]
  exact h
/-- The same behind its birth. -/
theorem wpList_stn {ops : Array Oper} {rest : List Oper} {o : Oper} {a : Act} {w : World} {Q : Exit → Act → World → Prop} (hgd : o.guard = none) (hd : o.dst = none) (x y : Operand) (ho : o.op = .store 98 x y)
    (old : Array Value) (g B : Nat) (hx : a.eval x = .pointer (some ⟨g, 0, none⟩)) (hy : a.eval y = .agg (bv B)) (hg : w.heap.size = g) (hs : old.size = 16)
    (h : wpList Try.prog ops Q rest a (w.alloc (.cells (bv B) 98))) : wpList Try.prog ops Q (o :: rest) a (w.alloc (.cells old 98)) := by
  subst hg
  refine wpList_st hgd hd x y ho w.heap.size B hx hy old (Ar.new w old) hs ?_
  rw [World.setRow_alloc_new]
  exact h
theorem results_bv {fn : Func} {p : Tmp} (h : fn.results = #[.cell p 98]) (tmps : Array Value) (w : World) (g B : Nat) (hp : tmps.getD p undef = .pointer (some ⟨g, 0, none⟩)) (hg : Ar w g (bv B)) :
    (results fn tmps).run Try.prog w = .ok (.agg (bv B)) w :=
  results_cell_row h tmps w g 98 (bv B) (0, 0) _ hp hg under16 rfl (by rw [bv_size]; exact size16)

/-! '==' of two arrays. -/
theorem run_eqItems_bytes {P : Program} (w : World) (d : Nat) {e : TypeId} (he : P.underlying e = some (.int .u8)) (xs ys : Array Value) (f g : Nat → Nat) : ∀ (is : List Nat), (∀ i ∈ is, xs[i]? = some (.int .u8 (f i : Nat)) ∧ ys[i]? = some (.int .u8 (g i : Nat))) →
    (Op.eqItems (d + 1) e 1 xs ys is).run P w = .ok (is.all fun i => f i == g i) w
  | [], _ => by simp [Op.eqItems]
  | i :: is, h => by
    obtain ⟨h1, h2⟩ := h i (by simp)
    have ih := run_eqItems_bytes w d he xs ys f g is fun j hj => h j (by simp [hj])
    have hp : ∀ (zs : Array Value) (v : Value), zs[i]? = some v → (part e zs (i * 1)).run P w = .ok v w := fun zs v hv => by
      rw [Nat.mul_one]; simp [part, isAgg, run_underlying he, hv]
    simp only [Op.eqItems, Sem.run_bind, hp _ _ h1, hp _ _ h2, Result.andThen_ok, run_equalIn_int w d e .u8 .u8 _ _ he, Sem.run_ite, ih]
    have hc : (((f i : Nat) : Int) == ((g i : Nat) : Int)) = (f i == g i) := by
      rw [Bool.eq_iff_iff, beq_iff_eq, beq_iff_eq]; exact Int.ofNat_inj
    rw [hc, List.all_cons]
    cases f i == g i <;> simp [go_sem]
theorem cells8 : Try.prog.cellsOf 5 = 1 := by kernel_rfl
theorem eq16 {A B : Nat} (hA : A < 2 ^ 128) (hB : B < 2 ^ 128) : ((List.range 16).all fun i => dg A i == dg B i) = decide (A = B) := by
  rw [Bool.eq_iff_iff, List.all_eq_true, decide_eq_true_iff]
  refine ⟨fun h => dg_inj hA hB fun i hi => ?_, fun h i _ => by rw [h]; simp⟩
  simpa using h i (by simpa using hi)
theorem run_eq16 {A B : Nat} (d : Nat) (w : World) (hA : A < 2 ^ 128) (hB : B < 2 ^ 128) : (Op.equalIn (d + 2) 98 (.agg (bv A)) (.agg (bv B))).run Try.prog w = .ok (decide (A = B)) w := by
  obtain ⟨i, hi⟩ := info_of_underlying under8
  rw [run_equalIn_array w (d + 1) _ _ under16 hi, cells8, run_eqItems_bytes w d under8 (bv A) (bv B) (dg A) (dg B) _ (fun i hi => ⟨bv_get A i (by simpa using hi), bv_get B i (by simpa using hi)⟩), eq16 hA hB]
end Go.Proofs.Ytgcbfamlediafaa
