import Derived.Test.YtjaecokhocbdlaaStepMore
import Derived.Test.YtjaecokhocbdlaaLawPuts
namespace Go.Proofs.Ytjaecokhocbdlaa
open Go.RowKit
set_option linter.unusedVariables false

theorem step_ (r g d : Nat) (P : Nat → Prop) (hA : Apart r g d P) (k N : Int) (s : Bool) (bs : List Int) (w : World) (h : Pair w r g d P bs) (hl : bs.length ≤ 1000000) :
    Calls Try.prog 14 #[.agg #[.int .i64 k, .int .i64 N, .bool s], .pointer (some ⟨r, 0, none⟩), .pointer (some ⟨d, 0, none⟩)] w fun en w' => en = .returned (.bool true) ∧ Pair w' r g d P bs ∧ Fr (Blk r g d) w w' := by
  by_cases k1 : k = 1
  · subst k1; exact step8 r g d P hA N s bs w h hl
  by_cases k2 : k = 2
  · subst k2; exact step16 r g d P hA N s bs w h hl
  by_cases k3 : k = 3
  · subst k3; exact step32 r g d P hA N s bs w h hl
  by_cases k4 : k = 4
  · subst k4; exact step64 r g d P hA N s bs w h hl
  by_cases k5 : k = 5
  · subst k5; exact stepBytes r g d P hA N s bs w h hl
  by_cases k6 : k = 6
  · subst k6; exact stepZeros r g d P hA N s bs w h hl
  by_cases k7 : k = 7
  · subst k7; exact stepLeft r g d P hA N s bs w h hl
  by_cases k8 : k = 8
  · subst k8; exact stepErr r g d P hA N s bs w h hl
  by_cases k9 : k = 9
  · subst k9; exact stepWord r g d P hA N s bs w h hl
  exact stepOther r g d P hA k N ⟨k1, k2, k3, k4, k5, k6, k7, k8, k9⟩ s bs w h hl

theorem Pair.fr {p P : Nat → Prop} {w w' : World} {r g d : Nat} {bs : List Int} (h : Pair w r g d P bs) (hf : Fr p w w') (hp : ∀ k, p k → P k) (hr : ¬ p r) (hg : ¬ p g) (hd : ¬ p d) : Pair w' r g d P bs := by
  rcases h with ⟨q, hq, hRd, hRf⟩ | ⟨q, e, hRb, hRf⟩
  · exact .inl ⟨q, hq, hRd.fr hf hr hg, hRf.fr hf hp hd⟩
  · exact .inr ⟨q, e, hRb.fr hf hr, hRf.fr hf hp hd⟩
theorem bel_fr {B : Nat} {p : Nat → Prop} {a b c : World} (h : Below B a b) (hB : B ≤ b.heap.size) (hf : Fr p b c) (hp : ∀ k, p k → B ≤ k) : Below B a c :=
  h.trans ⟨hf.os, hf.tape, hf.output, hf.size, fun k hk => hf.block k (by omega) fun hk' => by have := hp k hk'; omega⟩
theorem Head.fr {p : Nat → Prop} {w w' : World} {g cap : Nat} {ys : List Int} (h : Head w g cap ys) (hf : Fr p w w') (hg : ¬ p g) : Head w' g cap ys := by
  have hlt := h.lt
  obtain ⟨cur, h1, h2⟩ := h
  exact ⟨cur, by rw [hf.block g hlt hg]; exact h1, h2⟩

set_option maxHeartbeats 400000 in
theorem refNew_raw (a : Option Addr) (n c : Nat) (zs : List Int) (w : World) (hb : Bs w a n zs) (hn : n ≤ 1000000) :
    Calls Try.prog 13 #[.slice a n c] w fun en w' => ∃ a1 c1 w1, en = .returned (.pointer (some ⟨w1.heap.size, 0, none⟩)) ∧ w1.ownsRow w.heap.size 5 1 (.slice a1 n c1) n (cells zs) ∧ Bs w1 a1 n zs ∧ n ≤ c1 ∧ c1 ≤ maxLen ∧ Below w.heap.size w w1 ∧
      w' = w1.alloc (.cells #[.slice a1 n c1, .int .i64 0, .int .i64 0] 68) := by
  go_enter Try.func13, Try.ntmps13
  go_wp2_with (go_at_call 26; refine (refBytes a n c zs _ hb hn).mono ?_; rintro e w1 ⟨v, rfl, hown, hbl⟩; obtain ⟨a1, c1, rfl, b1, h3, h4, h5⟩ := own_form hown hb.2.1; clear h5)
  go_ret
  exact ⟨a1, c1, w1, rfl, hown, b1, h3, h4, hbl, rfl⟩

theorem refNew (a : Option Addr) (n c : Nat) (zs : List Int) (w : World) (hb : Bs w a n zs) (hn : n ≤ 1000000) :
    Calls Try.prog 13 #[.slice a n c] w fun en w' => ∃ d, en = .returned (.pointer (some ⟨d, 0, none⟩)) ∧ w.heap.size ≤ d ∧ d < w'.heap.size ∧ Below w.heap.size w w' ∧ ∀ P : Nat → Prop, (∀ k, w.heap.size ≤ k → k < w'.heap.size → k ≠ d → ¬ P k) → Rf w' d P zs 0 0 := by
  refine (refNew_raw a n c zs w hb hn).mono ?_
  rintro en w' ⟨a1, c1, w1, rfl, hown, b1, h3, h4, hbl, rfl⟩
  have hs := hbl.size
  refine ⟨w1.heap.size, rfl, hs, by simp, hbl.alloc hs _, fun P hP => ⟨a1, n, c1, heap_alloc_new w1 _, b1.kept (World.grownBy_alloc w1 _ none) (Off.none _ _), h3, h4, ?_⟩⟩
  rcases hown.2 with ⟨e, e2⟩ | ⟨g, cap, cur, e, hg, hgg, _⟩
  · exact .inl e2
  · simp at e
    obtain ⟨rfl, _⟩ := e
    have hlt := (Array.getElem?_eq_some_iff.1 hgg).1
    refine .inr fun x hx => ?_
    obtain rfl := Option.some.inj hx
    exact hP g hg (by simp; omega) (by omega)

/-- The six blocks. -/
def Six (r1 g1 d1 r2 g2 d2 : Nat) : Nat → Prop := fun k => Blk r1 g1 d1 k ∨ Blk r2 g2 d2 k
end Go.Proofs.Ytjaecokhocbdlaa
