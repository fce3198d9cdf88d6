import Derived.Test.YtbdkmjjjafbaoaaV5
namespace Go.Proofs.Ytbdkmjjjafbaoaa
open Go.RowKit
set_option linter.unusedVariables false
set_option maxRecDepth 100000

/-- A window that a call has made since w0. -/
structure Hw (w0 w : World) (p g : Nat) (F : Int) (m : Nat) (T : List Int) : Prop where
  wn : Wn w p g F m T
  p0 : w0.heap.size ≤ p
  g0 : w0.heap.size ≤ g
  bel : Below w0.heap.size w0 w
section
variable {w0 w w' : World} {p g : Nat} {F : Int} {m : Nat} {T T' : List Int}
theorem Hw.drawn (h : Hw w0 w p g F m T) (nq : Nat) : Hw w0 (w.drewN nq) p g F m T := ⟨h.wn.drawn (drawnN _ _), h.p0, h.g0, bel_drawn h.bel nq⟩
theorem Hw.on (h : Hw w0 w p g F m T) (hb : Below w.heap.size w w') : Hw w0 w' p g F m T := ⟨h.wn.on hb, h.p0, h.g0, bel_bel h.bel h.bel.size hb⟩
theorem Hw.mark (h : Hw w0 w p g F m T) (k : Wn w' p g F m T') (hf : Fx (X2 p g) w w') : Hw w0 w' p g F m T' :=
  ⟨k, h.p0, h.g0, hf.below h.bel h.bel.size fun k e => by rcases e with rfl | rfl; exact h.p0; exact h.g0⟩
theorem Hw.fx {X : Nat → Prop} (h : Hw w0 w p g F m T) (hf : Fx X w w') (h1 : ¬ X p) (h2 : ¬ X g) (hX : ∀ k, X k → w0.heap.size ≤ k) : Hw w0 w' p g F m T :=
  ⟨h.wn.fx hf h1 h2, h.p0, h.g0, hf.below h.bel h.bel.size hX⟩
theorem takesH (h : Hw w0 w p g F m T) {c : Int} (hc : u64r c) {q : Bool} (hq : tkB F (64 * (m : Int)) T c = q) :
    Calls Try.prog 14 #[.pointer (some ⟨p, 0, none⟩), .int .u64 c] w fun e w' => e = .returned (.bool q) ∧ Hw w0 w' p g F m T := by
  subst hq
  refine (takes_ p g F m T c w h.wn hc).mono ?_
  rintro e w1 ⟨rfl, nq, rfl⟩
  exact ⟨rfl, h.drawn nq⟩
theorem markH (h : Hw w0 w p g F m T) {c : Int} (hc : u64r c) {q : Bool} (hq : tkB F (64 * (m : Int)) T c = q) {T' : List Int} (hT : mkT F (64 * (m : Int)) T c = T') :
    Calls Try.prog 17 #[.pointer (some ⟨p, 0, none⟩), .int .u64 c] w fun e w' => e = .returned (.bool q) ∧ Hw w0 w' p g F m T' := by
  subst hq
  subst hT
  refine (mark_ p g F m T c w h.wn hc).mono ?_
  rintro e w1 ⟨rfl, h1, h2⟩
  exact ⟨rfl, h.mark h1 h2⟩
theorem topH (h : Hw w0 w p g F m T) {t : Int} (ht : topI T = t) {q : Bool} (hq : decide (T ≠ []) = q) :
    Calls Try.prog 13 #[.pointer (some ⟨p, 0, none⟩)] w fun e w' => e = .returned (.tuple #[.int .u64 t, .bool q]) ∧ Hw w0 w' p g F m T := by
  subst ht
  subst hq
  refine (top_ p _ _ _ _ _ _ w h.wn.blk).mono ?_
  rintro e w1 ⟨rfl, nq, rfl⟩
  exact ⟨rfl, h.drawn nq⟩
theorem floorH (h : Hw w0 w p g F m T) :
    Calls Try.prog 15 #[.pointer (some ⟨p, 0, none⟩)] w fun e w' => e = .returned (.int .u64 F) ∧ w' = w := floor_ p _ _ _ _ _ _ w h.wn.blk
theorem newH (hF : u64r F) (h1 : 1 ≤ m) (h2 : m ≤ 16) (hb : Below w0.heap.size w0 w) :
    Calls Try.prog 12 #[.int .u64 F, .int .i64 (64 * (m : Int))] w fun e w' => ∃ p g, e = .returned (.pointer (some ⟨p, 0, none⟩)) ∧ Hw w0 w' p g F m [] ∧ Below w.heap.size w w' ∧ w.heap.size ≤ p ∧ w.heap.size ≤ g := by
  refine (new_yes F m w hF h1 h2).mono ?_
  rintro e w1 ⟨p, g, rfl, h3, h4, h5, h6⟩
  have := hb.size
  exact ⟨p, g, rfl, ⟨h3, by omega, by omega, bel_bel hb hb.size h6⟩, h6, h4, h5⟩
end
theorem fit_of {width : Int} (h : fitP width) : ∃ m : Nat, width = 64 * (m : Int) ∧ 1 ≤ m ∧ m ≤ 16 := by
  unfold fitP at h
  exact ⟨(width / 64).toNat, by omega, by omega, by omega⟩
theorem fit_at {m : Nat} (h1 : 1 ≤ m) (h2 : m ≤ 16) : fitP (64 * (m : Int)) := by unfold fitP; omega
set_option maxHeartbeats 1000000 in
theorem fits_ (width : Int) (w : World) (hw : i64r width) {q : Bool} (hq : decide (64 ≤ width ∧ width ≤ 1024 ∧ width % 64 = 0) = q) :
    Calls Try.prog 16 #[.int .i64 width] w fun e w' => e = .returned (.bool q) ∧ w' = w := by
  unfold i64r at hw
  subst hq
  by_cases h1 : 64 ≤ width
  · by_cases h2 : width ≤ 1024
    · by_cases h3 : width % 64 = 0
      · rw [decide_eq_true ⟨h1, h2, h3⟩]
        have h3b : (width % 64 == 0) = true := by simpa using h3
        go_enter Try.func16, Try.ntmps16
        go_wp2_with fail
        go_ret
        exact ⟨rfl, rfl⟩
      · rw [decide_eq_false (fun h => h3 h.2.2)]
        have h3b : (width % 64 == 0) = false := by simpa using h3
        go_enter Try.func16, Try.ntmps16
        go_wp2_with fail
        go_ret
        exact ⟨by first | rfl | simp_all, rfl⟩
    · rw [decide_eq_false (fun h => h2 h.2.1)]
      go_enter Try.func16, Try.ntmps16
      go_wp2_with fail
      go_ret
      exact ⟨by first | rfl | simp_all, rfl⟩
  · rw [decide_eq_false (fun h => h1 h.1)]
    go_enter Try.func16, Try.ntmps16
    go_wp2_with fail
    go_ret
    exact ⟨by first | rfl | simp_all, rfl⟩
theorem u64c (n : Nat) (h : n < 18446744073709551616) : u64r (n : Int) := ⟨by omega, by omega⟩
set_option maxHeartbeats 2000000 in
/-- The law's known. -/
theorem known_ (w : World) : Calls Try.prog 9 #[] w fun e w' => e = .returned (.bool true) ∧ Below w.heap.size w w' := by
  have k0 := newH (w0 := w) (w := w) (F := 5) (m := 1) (u64c 5 (by decide)) (by decide) (by decide) (Below.refl _ _)
  go_enter Try.func9, Try.ntmps9
  go_wp2_with fail
  refine k0.mono ?_
  rintro e w1 ⟨p, g, rfl, h, -⟩
  have k1 := takesH h (c := 4) (q := false) (u64c 4 (by decide)) (by decide)
  clear k0 h
  go_wp2_with fail
  refine k1.mono ?_
  rintro e w2 ⟨rfl, h⟩
  have k2 := markH h (c := 5) (q := true) (T' := [5]) (u64c 5 (by decide)) (by decide) (by decide)
  clear k1 h
  go_wp2_with fail
  refine k2.mono ?_
  rintro e w3 ⟨rfl, h⟩
  have k3 := markH h (c := 5) (q := false) (T' := [5]) (u64c 5 (by decide)) (by decide) (by decide)
  clear k2 h
  go_wp2_with fail
  refine k3.mono ?_
  rintro e w4 ⟨rfl, h⟩
  have k4 := markH h (c := 70) (q := true) (T' := [5, 70]) (u64c 70 (by decide)) (by decide) (by decide)
  clear k3 h
  go_wp2_with fail
  refine k4.mono ?_
  rintro e w5 ⟨rfl, h⟩
  have k5 := takesH h (c := 6) (q := false) (u64c 6 (by decide)) (by decide)
  clear k4 h
  go_wp2_with fail
  refine k5.mono ?_
  rintro e w6 ⟨rfl, h⟩
  have k6 := takesH h (c := 7) (q := true) (u64c 7 (by decide)) (by decide)
  clear k5 h
  go_wp2_with fail
  refine k6.mono ?_
  rintro e w7 ⟨rfl, h⟩
  have k7 := topH h (t := 70) (q := true) (by decide) (by decide)
  clear k6 h
  go_wp2_with fail
  refine k7.mono ?_
  rintro e w8 ⟨rfl, h⟩
  have k8 := floorH h
  have HB := hid h.bel
  clear k7 h
  go_wp2_with fail
  refine k8.mono ?_
  rintro e w9 ⟨rfl, rfl⟩
  go_wp2_with fail
  go_ret
  exact ⟨rfl, HB.out⟩
end Go.Proofs.Ytbdkmjjjafbaoaa
