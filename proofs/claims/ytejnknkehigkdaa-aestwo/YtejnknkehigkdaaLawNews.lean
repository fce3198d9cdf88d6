import Derived.Test.YtejnknkehigkdaaFirst
import Derived.Test.YtejnknkehigkdaaRefN
namespace Go.Proofs.Ytejnknkehigkdaa
open Go.RowKit
set_option linter.unusedVariables false

set_option maxHeartbeats 1000000 in
theorem refNew_bad (a : Option Addr) (n cap : Nat) (w : World) (hn : n ≠ 32) (hm : n ≤ maxLen) :
    Calls Try.prog 14 #[.slice a n cap] w fun e w' => e = .returned (.tuple #[.pointer none, .int .i64 40]) ∧ w' = w := by
  unfold maxLen at hm
  have e1 : ¬ (n : Int) = 32 := by omega
  have e2 : ((n : Int) == 32) = false := by simpa using e1
  go_enter Try.func14, Try.ntmps14
  go_wp2_with fail
  go_ret2
  exact ⟨rfl, rfl⟩

set_option maxHeartbeats 2000000 in
theorem aesNews_ (a : Option Addr) (n cap : Nat) (zs : List Int) (w : World) (hb : Bs w a n zs) (hn : n ≤ 140737488351232) :
    Calls Try.prog 4 #[.slice a n cap] w fun e w' => e = .returned (.bool true) ∧ Below w.heap.size w w' := by
  go_enter Try.func4, Try.ntmps4
  go_wp2_with fail
  refine (first_ w).mono ?_
  rintro e w1 ⟨rfl, B0⟩
  have b1 := hb.below B0
  have S0 := B0.size
  go_wp2_with fail
  refine (refBytes a n cap zs w1 b1 hn).mono ?_
  rintro e w2 ⟨v, rfl, ho, g⟩
  have b2 := b1.below g
  have B0 := bel_bel B0 S0 g
  have S0 := B0.size
  obtain ⟨ka, kc, rfl, kb, _⟩ := own_form ho hb.2.1
  clear g ho b1 hb
  by_cases h : n = 32
  · have kn := fun w hb => new_ ka n kc zs w hb h
    have kr := fun w hb => refNew_ a n cap zs w hb h
    clear h
    go_wp2_with fail
    refine (kn _ kb).mono ?_
    rintro e w3 ⟨gc, rfl, _, _, g⟩
    have b3 := b2.below g
    have B0 := bel_bel B0 S0 g
    have S0 := B0.size
    clear g kb b2 kn
    go_wp2_with fail
    refine (kr _ b3).mono ?_
    rintro e w4 ⟨gd, rfl, _, _, g⟩
    have B0 := bel_bel B0 S0 g
    clear g b3 kr S0
    go_wp2_with fail
    refine (num_ 0 _).mono ?_
    rintro e w5 ⟨rfl, rfl⟩
    go_wp2_with fail
    go_ret
    exact ⟨rfl, B0⟩
  · have kn := fun w => new_bad ka n kc w h (by unfold maxLen; omega)
    have kr := fun w => refNew_bad a n cap w h (by unfold maxLen; omega)
    clear h
    go_wp2_with fail
    refine (kn _).mono ?_
    rintro e w3 ⟨rfl, g⟩
    have B0 := bel_bel B0 S0 g
    clear g kb b2 kn S0
    go_wp2_with fail
    refine (kr _).mono ?_
    rintro e w4 ⟨rfl, rfl⟩
    clear kr
    go_wp2_with fail
    refine (num_ 40 _).mono ?_
    rintro e w5 ⟨rfl, rfl⟩
    go_wp2_with fail
    go_ret
    exact ⟨rfl, B0⟩
end Go.Proofs.Ytejnknkehigkdaa
