import Derived.Test.YtbdkmjjjafbaoaaV7
namespace Go.Proofs.Ytbdkmjjjafbaoaa
open Go.RowKit
set_option linter.unusedVariables false
set_option maxRecDepth 100000

/-! Two windows beside one another. -/
structure P2 (w0 w : World) (p g : Nat) (F : Int) (m : Nat) (T : List Int) (p' g' : Nat) (F' : Int) (m' : Nat) (U : List Int) : Prop where
  a : Hw w0 w p g F m T
  b : Hw w0 w p' g' F' m' U
  s1 : p ≠ p'
  s2 : p ≠ g'
  s3 : g ≠ p'
  s4 : g ≠ g'
section
variable {w0 w w' : World} {p g : Nat} {F : Int} {m : Nat} {T : List Int} {p' g' : Nat} {F' : Int} {m' : Nat} {U : List Int}
theorem P2.swap (h : P2 w0 w p g F m T p' g' F' m' U) : P2 w0 w p' g' F' m' U p g F m T := ⟨h.b, h.a, h.s1.symm, h.s3.symm, h.s2.symm, h.s4.symm⟩
theorem P2.of (h : Hw w0 w p g F m T) (k : Hw w0 w' p' g' F' m' U) (hb : Below w.heap.size w w') (h1 : w.heap.size ≤ p') (h2 : w.heap.size ≤ g') : P2 w0 w' p g F m T p' g' F' m' U := by
  have := h.wn.lt
  exact ⟨h.on hb, k, by omega, by omega, by omega, by omega⟩
theorem P2.drawn (h : P2 w0 w p g F m T p' g' F' m' U) (nq : Nat) : P2 w0 (w.drewN nq) p g F m T p' g' F' m' U := ⟨h.a.drawn nq, h.b.drawn nq, h.s1, h.s2, h.s3, h.s4⟩
theorem P2.on (h : P2 w0 w p g F m T p' g' F' m' U) (hb : Below w.heap.size w w') : P2 w0 w' p g F m T p' g' F' m' U := ⟨h.a.on hb, h.b.on hb, h.s1, h.s2, h.s3, h.s4⟩
theorem P2.takesA (h : P2 w0 w p g F m T p' g' F' m' U) {c : Int} (hc : u64r c) {q : Bool} (hq : tkB F (64 * (m : Int)) T c = q) :
    Calls Try.prog 14 #[.pointer (some ⟨p, 0, none⟩), .int .u64 c] w fun e w' => e = .returned (.bool q) ∧ P2 w0 w' p g F m T p' g' F' m' U := by
  subst hq
  refine (takes_ p g F m T c w h.a.wn hc).mono ?_
  rintro e w1 ⟨rfl, nq, rfl⟩
  exact ⟨rfl, h.drawn nq⟩
theorem P2.markA (h : P2 w0 w p g F m T p' g' F' m' U) {c : Int} (hc : u64r c) {q : Bool} (hq : tkB F (64 * (m : Int)) T c = q) {T' : List Int} (hT : mkT F (64 * (m : Int)) T c = T') :
    Calls Try.prog 17 #[.pointer (some ⟨p, 0, none⟩), .int .u64 c] w fun e w' => e = .returned (.bool q) ∧ P2 w0 w' p g F m T' p' g' F' m' U := by
  subst hq
  subst hT
  refine (mark_ p g F m T c w h.a.wn hc).mono ?_
  rintro e w1 ⟨rfl, h1, h2⟩
  exact ⟨rfl, h.a.mark h1 h2, h.b.fx h2 (by rintro (e | e); exact h.s1 e.symm; exact h.s3 e.symm) (by rintro (e | e); exact h.s2 e.symm; exact h.s4 e.symm) (fun k e => by rcases e with rfl | rfl; exact h.a.p0; exact h.a.g0), h.s1, h.s2, h.s3, h.s4⟩
theorem P2.topA (h : P2 w0 w p g F m T p' g' F' m' U) {t : Int} (ht : topI T = t) {q : Bool} (hq : decide (T ≠ []) = q) :
    Calls Try.prog 13 #[.pointer (some ⟨p, 0, none⟩)] w fun e w' => e = .returned (.tuple #[.int .u64 t, .bool q]) ∧ P2 w0 w' p g F m T p' g' F' m' U := by
  subst ht
  subst hq
  refine (top_ p _ _ _ _ _ _ w h.a.wn.blk).mono ?_
  rintro e w1 ⟨rfl, nq, rfl⟩
  exact ⟨rfl, h.drawn nq⟩
theorem P2.takesB (h : P2 w0 w p g F m T p' g' F' m' U) {c : Int} (hc : u64r c) {q : Bool} (hq : tkB F' (64 * (m' : Int)) U c = q) :
    Calls Try.prog 14 #[.pointer (some ⟨p', 0, none⟩), .int .u64 c] w fun e w' => e = .returned (.bool q) ∧ P2 w0 w' p g F m T p' g' F' m' U := (h.swap.takesA hc hq).mono fun _ _ ⟨h1, h2⟩ => ⟨h1, h2.swap⟩
theorem P2.markB (h : P2 w0 w p g F m T p' g' F' m' U) {c : Int} (hc : u64r c) {q : Bool} (hq : tkB F' (64 * (m' : Int)) U c = q) {U' : List Int} (hT : mkT F' (64 * (m' : Int)) U c = U') :
    Calls Try.prog 17 #[.pointer (some ⟨p', 0, none⟩), .int .u64 c] w fun e w' => e = .returned (.bool q) ∧ P2 w0 w' p g F m T p' g' F' m' U' := (h.swap.markA hc hq hT).mono fun _ _ ⟨h1, h2⟩ => ⟨h1, h2.swap⟩
theorem P2.topB (h : P2 w0 w p g F m T p' g' F' m' U) {t : Int} (ht : topI U = t) {q : Bool} (hq : decide (U ≠ []) = q) :
    Calls Try.prog 13 #[.pointer (some ⟨p', 0, none⟩)] w fun e w' => e = .returned (.tuple #[.int .u64 t, .bool q]) ∧ P2 w0 w' p g F m T p' g' F' m' U := (h.swap.topA ht hq).mono fun _ _ ⟨h1, h2⟩ => ⟨h1, h2.swap⟩
end
end Go.Proofs.Ytbdkmjjjafbaoaa
