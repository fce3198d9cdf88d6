import Derived.Test.YtlepbncaicpmjaaP3
import Derived.Deep.RegionHeld
namespace Go.Proofs.Ytlepbncaicpmjaa
set_option maxRecDepth 100000
open Go.RowKit
set_option linter.unusedVariables false

/-- What yields its value in every world that meets S may be taken first. -/
theorem take_to {ops : Array Oper} {Q : Exit → Act → World → Prop} {md : Region.Mode} {S : World → Prop} {oi : Oper} {fuel : Nat} {listed : Array Bool} {a : Act} {w : World} (i d : Nat) (v : Value) (hi : ops[i]? = some oi) (hd : oi.dst = some d)
    (hs : Region.noSelect ops = true) (hf : Region.free md ops listed i = true) (hr : (Region.ready md ops listed).contains i = true)
    (hQ : ∀ c a w, Q (.panic c) (a.put oi.dst v) w → Q (.panic c) a w) (hy : YieldsIf Try.prog ops S oi v a) (hS : S w)
    (h : wpAnyH Try.prog md ops Q S fuel (listed.setIfInBounds i true) ⟨a.tmps.setIfInBounds d v, a.defers⟩ w) : wpAnyH Try.prog md ops Q S (fuel + 1) listed a w :=
  wpAnyH_take hi hs hf hr hQ hy hS (by rw [hd]; exact h)
theorem bel_drew1 {B : Nat} {a b : World} (h : Below B a b) : Below B a b.drew := h.trans ⟨rfl, rfl, rfl, Nat.le_refl _, fun _ _ => rfl⟩
theorem Pm.drew {w : World} {g : Nat} {F H L B : Int} (h : Pm w g F H L B) : Pm w.drew g F H L B := h
theorem Am.drew {w : World} {g : Nat} {F H L : Int} (h : Am w g F H L) : Am w.drew g F H L := h
theorem od_zero (a b : Int) : od a b = 0 ↔ a = b := by
  unfold od
  split
  · constructor <;> intro h <;> omega
  · split <;> constructor <;> intro h <;> omega
def x4 (x0 x1 x2 x3 : Int) (j : Nat) : Int := if j = 0 then x0 else if j = 1 then x1 else if j = 2 then x2 else x3
theorem x4_first {x0 x1 x2 x3 : Int} (j : Nat) (hj : j < 4) (h0 : ∀ q, q < j → x4 x0 x1 x2 x3 q = 0) (h : x4 x0 x1 x2 x3 j ≠ 0) : (if x0 ≠ 0 then x0 else if x1 ≠ 0 then x1 else if x2 ≠ 0 then x2 else x3) = x4 x0 x1 x2 x3 j := by
  have : j = 0 ∨ j = 1 ∨ j = 2 ∨ j = 3 := by omega
  rcases this with rfl | rfl | rfl | rfl
  · have h : x0 ≠ 0 := h
    rw [if_pos h]; rfl
  · have a0 : x0 = 0 := h0 0 (by omega)
    have h : x1 ≠ 0 := h
    rw [if_neg (not_not_intro a0), if_pos h]; rfl
  · have a0 : x0 = 0 := h0 0 (by omega)
    have a1 : x1 = 0 := h0 1 (by omega)
    have h : x2 ≠ 0 := h
    rw [if_neg (not_not_intro a0), if_neg (not_not_intro a1), if_pos h]; rfl
  · have a0 : x0 = 0 := h0 0 (by omega)
    have a1 : x1 = 0 := h0 1 (by omega)
    have a2 : x2 = 0 := h0 2 (by omega)
    rw [if_neg (not_not_intro a0), if_neg (not_not_intro a1), if_neg (not_not_intro a2)]; rfl
theorem x4_none {x0 x1 x2 x3 : Int} (h0 : ∀ q, q < 4 → x4 x0 x1 x2 x3 q = 0) : (if x0 ≠ 0 then x0 else if x1 ≠ 0 then x1 else if x2 ≠ 0 then x2 else x3) = 0 := by
  have a0 : x0 = 0 := h0 0 (by omega)
  have a1 : x1 = 0 := h0 1 (by omega)
  have a2 : x2 = 0 := h0 2 (by omega)
  have a3 : x3 = 0 := h0 3 (by omega)
  rw [if_neg (not_not_intro a0), if_neg (not_not_intro a1), if_neg (not_not_intro a2), a3]
theorem ppnew (w : World) (F H L B F' H' L' B' : Int) : Below w.heap.size w ((w.alloc (.cells #[.int .i64 F, .int .u64 H, .int .u64 L, .int .i64 B] 86)).alloc (.cells #[.int .i64 F', .int .u64 H', .int .u64 L', .int .i64 B'] 86)) ∧ Pm ((w.alloc (.cells #[.int .i64 F, .int .u64 H, .int .u64 L, .int .i64 B] 86)).alloc (.cells #[.int .i64 F', .int .u64 H', .int .u64 L', .int .i64 B'] 86)) w.heap.size F H L B ∧ Pm ((w.alloc (.cells #[.int .i64 F, .int .u64 H, .int .u64 L, .int .i64 B] 86)).alloc (.cells #[.int .i64 F', .int .u64 H', .int .u64 L', .int .i64 B'] 86)) (w.heap.size + 1) F' H' L' B' := by
  refine ⟨(pnew w F H L B).alloc (by simp) _, (Pm.new w F H L B).alloc _, ?_⟩
  have := Pm.new (w.alloc (.cells #[.int .i64 F, .int .u64 H, .int .u64 L, .int .i64 B] 86)) F' H' L' B'
  simpa using this
end Go.Proofs.Ytlepbncaicpmjaa
