import Derived.Test.YtgjamfnhkeoedaaCodeJ
import Derived.Deep.RegionHeld
namespace Go.Proofs.Ytgjamfnhkeoedaa
open Go.RowKit
set_option linter.unusedVariables false

/-- The code's cipher at block g, with these round keys. -/
def Cp (w : World) (g : Nat) (k : Nat → Nat) : Prop := ∃ F, Rw w g 75 496 F ∧ (∀ x, x < 256 → F x = sbx x) ∧ ∀ j, j < 240 → F (256 + j) = k j
theorem Cp.lt {w : World} {g : Nat} {k : Nat → Nat} (h : Cp w g k) : g < w.heap.size := by obtain ⟨F, h, _⟩ := h; exact h.lt
theorem Cp.same {w w' : World} {g : Nat} {k : Nat → Nat} (h : Cp w g k) (he : w'.heap[g]? = w.heap[g]?) : Cp w' g k := by
  obtain ⟨F, h, r⟩ := h
  refine ⟨F, ?_, r⟩
  unfold Rw at *
  rw [he]; exact h
theorem Cp.keep {w w' : World} {g B : Nat} {k : Nat → Nat} (h : Cp w g k) (hb : Below B w w') (hB : g < B) : Cp w' g k := h.same (hb.block g hB)
theorem Cp.bx {w : World} {g : Nat} {k : Nat → Nat} (h : Cp w g k) : Bx w g := by
  refine ⟨h.lt, fun x hx => ?_⟩
  obtain ⟨F, h, hb, _⟩ := h
  rw [h.byte x (by omega), hb x hx]
theorem Cp.range {w : World} {g : Nat} {k : Nat → Nat} (h : Cp w g k) (o : Nat) (ho : o + 16 ≤ 240) : w.rangeAt g (256 + o) (rw8 16 (from8 o k)).toList := by
  obtain ⟨F, h, _, hk⟩ := h
  have := h.range (256 + o) 16 (by omega)
  rw [rw8_ext (g := from8 o k) (fun i hi => by unfold from8; rw [Nat.add_assoc]; exact hk _ (by omega))] at this
  exact this
theorem yields_rng {ops : Array Oper} {S : World → Prop} {o : Oper} {a : Act} (hw : Region.wanted o (yielded ops a.tmps) = true) (ty : TypeId) (x : Operand) (ho : o.op = .load ty x) (g off m : Nat) (v : Nat → Nat) (hx : a.eval x = .pointer (some ⟨g, off, none⟩))
    (hS : ∀ w, S w → w.rangeAt g off (rw8 m v).toList) (d : TypeDesc) (hu : Try.prog.underlying ty = some d) (hd : d.isRow = true) (hi : (Try.prog.info? ty).map (·.size) = some m) : YieldsIf Try.prog ops S o (.agg (rw8 m v)) a := by
  have := yieldsIf_load_mid (P := Try.prog) (ops := ops) (S := S) hw ty x ho g off hx (rw8 m v).toList d hS hu hd (by rw [rw8_len]; exact hi)
  have e : (rw8 m v).toList.toArray = rw8 m v := by simp
  rw [e] at this
  exact this
theorem Rw.rng0 {w : World} {g t n : Nat} {f : Nat → Nat} (h : Rw w g t n f) : w.rangeAt g 0 (rw8 n f).toList := by
  have := h.range 0 n (by omega)
  rw [from8_zero] at this
  exact this
/-- What yields its value in every world that meets S may be taken first. -/
theorem take_to {ops : Array Oper} {Q : Exit → Act → World → Prop} {md : Region.Mode} {S : World → Prop} {oi : Oper} {fuel : Nat} {listed : Array Bool} {a : Act} {w : World} (i d : Nat) (v : Value) (hi : ops[i]? = some oi) (hd : oi.dst = some d)
    (hs : Region.noSelect ops = true) (hf : Region.free md ops listed i = true) (hr : (Region.ready md ops listed).contains i = true)
    (hQ : ∀ c a w, Q (.panic c) (a.put oi.dst v) w → Q (.panic c) a w) (hy : YieldsIf Try.prog ops S oi v a) (hS : S w)
    (h : wpAnyH Try.prog md ops Q S fuel (listed.setIfInBounds i true) ⟨a.tmps.setIfInBounds d v, a.defers⟩ w) : wpAnyH Try.prog md ops Q S (fuel + 1) listed a w :=
  wpAnyH_take hi hs hf hr hQ hy hS (by rw [hd]; exact h)
theorem wp_ldw {o : Oper} {a : Act} {w : World} {K : Act → World → Prop} {Q : Exit → Act → World → Prop} (dst : Option Tmp) (hdst : o.dst = dst) (ty : TypeId) (x : Operand) (ho : o.op = .load ty x) (g : Nat) (hx : a.eval x = .pointer (some ⟨g, 0, none⟩)) (t n : Nat) (f : Nat → Nat) (hr : Rw w g t n f) (d : TypeDesc)
    (hu : Try.prog.underlying ty = some d) (hd : d.isRow = true) (hi : (Try.prog.info? ty).map (·.size) = some n) (h : K (a.put dst (.agg (rw8 n f))) w) : o.wp Try.prog a w K Q := by
  subst hdst
  have e : (rw8 n (from8 0 f)).toList.toArray = rw8 n f := by rw [from8_zero]
  refine wp_load_mid ty x ho g 0 hx (rw8 n (from8 0 f)).toList d (hr.range 0 n (by omega)) hu hd (by rw [rw8_len]; exact hi) ?_
  rw [e]
  exact h
theorem wp_stm {o : Oper} {a : Act} {w : World} {K : Act → World → Prop} {Q : Exit → Act → World → Prop} (hdst : o.dst = none) (ty : TypeId) (x y : Operand) (ho : o.op = .store ty x y) (g off : Nat) (hx : a.eval x = .pointer (some ⟨g, off, none⟩)) (m : Nat) (v : Nat → Nat) (hy : a.eval y = .agg (rw8 m v))
    (t n : Nat) (f : Nat → Nat) (hr : Rw w g t n f) (hm : off + m ≤ n) (hi : (Try.prog.info? ty).map (·.size) = some m) (h : K a (w.setCells g off (rw8 m v).toList)) : o.wp Try.prog a w K Q := by
  refine wp_store_mid ty x y ho g off (rw8 m v) hx hy (by rw [rw8_size]; exact hr.there off m hm) (by rw [rw8_size]; exact hi) (rw8_one m v) ?_
  rw [hdst]
  exact h
theorem wp_al {o : Oper} {a : Act} {w : World} {K : Act → World → Prop} {Q : Exit → Act → World → Prop} (dst : Option Tmp) (hdst : o.dst = dst) (t : TypeId) (ho : o.op = .alloc t) (n : Nat) (hz : (Try.prog.info? t).map (·.zero) = some (some (.agg (rw8 n fun _ => 0))))
    (h : K (a.put dst (.pointer (some ⟨w.heap.size, 0, none⟩))) (w.alloc (.cells (rw8 n fun _ => 0) t))) : o.wp Try.prog a w K Q := by
  subst hdst
  unfold Oper.wp
  rw [run_al t ho n hz]
  exact h
theorem bel_drew1 {B : Nat} {a b : World} (h : Below B a b) : Below B a b.drew := h.trans ⟨rfl, rfl, rfl, Nat.le_refl _, fun _ _ => rfl⟩
theorem Cp.drew {w : World} {g : Nat} {k : Nat → Nat} (h : Cp w g k) : Cp w.drew g k := h
theorem Cp.kept {w w' : World} {g : Nat} {k : Nat → Nat} (h : Cp w g k) (hb : Below w.heap.size w w') : Cp w' g k := h.keep hb h.lt
theorem Cp.omid {w : World} {g g' : Nat} {k : Nat → Nat} (h : Cp w g k) (hn : g ≠ g') (o : Nat) (vs : List Value) : Cp (w.setCells g' o vs) g k := h.same (heap_setCells_other g' g hn _ _ _)
theorem Cp.alloc {w : World} {g : Nat} {k : Nat → Nat} (h : Cp w g k) (o : Obj) : Cp (w.alloc o) g k := h.same (Below.heap_alloc _ _ _ h.lt)
theorem underk : Try.prog.underlying 73 = some (.array 15 44) := by kernel_rfl
theorem sizek : (Try.prog.info? 73).map (·.size) = some 240 := by kernel_rfl
/-- Which of the round keys. -/
theorem run_key (g r : Nat) (hr : r < 15) (x : Int) (hx : x = r) (w : World) : (Instr.indexAt 73 (.pointer (some ⟨g, 256, none⟩)) (.int .i64 x)).run Try.prog w = .ok (.pointer (some ⟨g, 256 + 16 * r, none⟩)) w := by
  subst hx
  have h1 : (0 : Int) ≤ (r : Int) ∧ (r : Int) < ((15 : Nat) : Int) := by omega
  simp only [Instr.indexAt, Sem.run_bind, asIntOf, Sem.run_pure, run_underlying underk, Result.andThen_ok, Instr.sureAddr, if_pos h1, run_sizeOf size16, Addr.add_mid, Int.toNat_natCast]
  rw [Nat.mul_comm r 16]
end Go.Proofs.Ytgjamfnhkeoedaa
