import Derived.Test.YtnjfckijpbgagaaN5
import Derived.Test.YtnjfckijpbgagaaNP
namespace Go.Proofs.Ytnjfckijpbgagaa
set_option maxRecDepth 100000
open Go.RowKit
set_option linter.unusedVariables false

theorem nB_two (S G C : Int) : (nOk S G C = true ∧ nB S G C = nRow S G C) ∨ (nOk S G C = false ∧ nB S G C = []) := by
  unfold nB
  cases nOk S G C with
  | true => exact .inl ⟨rfl, rfl⟩
  | false => exact .inr ⟨rfl, rfl⟩
set_option maxHeartbeats 4000000 in
theorem packetApart_ (S G C S' G' C' : Int) (w : World) (hC : InU C) (hC' : InU C') :
    Calls Try.prog 8 #[.int .i64 S, .int .i64 G, .int .u64 C, .int .i64 S', .int .i64 G', .int .u64 C'] w fun e w' => e = .returned (.bool true) ∧ Below w.heap.size w w' := by
  have k1 := fun w => nonce_ S G C w hC
  have k2 := fun w => nonce_ S' G' C' w hC'
  have HC0 := hid hC.1
  have HC1 := hid hC'.1
  go_enter Try.func8, Try.ntmps8
  go_wp2_with fail
  refine (first_ _).mono ?_
  rintro e w1 ⟨rfl, g1⟩
  go_wp2_with fail
  refine (k1 _).mono ?_
  rintro e w2 ⟨v2, rfl, o2, g2⟩
  obtain ⟨a2, c2, rfl, y2, _⟩ := own_form o2 (nB_byte S G C)
  have b2 := bel_bel g1 g1.size g2
  clear o2 k1 g1 g2
  go_wp2_with fail
  refine (k2 _).mono ?_
  rintro e w3 ⟨v3, rfl, o3, g3⟩
  obtain ⟨a3, c3, rfl, y3, _⟩ := own_form o3 (nB_byte S' G' C')
  replace y2 := y2.below g3
  have b3 := bel_bel b2 b2.size g3
  clear o3 k2 g3 b2
  rcases nB_two S G C with ⟨h1, e1⟩ | ⟨h1, e1⟩
  · rcases nB_two S' G' C' with ⟨h2, e2⟩ | ⟨h2, e2⟩
    · rw [e1, nRow_length] at y2 ⊢
      rw [e2, nRow_length] at y3 ⊢
      have HI := hid (nRow_inj h1 h2 HC0.out HC1.out)
      clear e1 e2 h1 h2
      go_wp2_with fail
      refine (same_d a2 a3 12 c2 12 c3 (nRow S G C) (nRow S' G' C') w3 y2 y3 (by decide) (by decide)).mono ?_
      rintro e w4 ⟨rfl, d4⟩
      have b4 := bel_bel b3 b3.size d4.below
      clear y2 y3 d4 b3
      by_cases hS : S = S'
      · by_cases hG : G = G'
        · by_cases hCC : C = C'
          · subst hS hG hCC
            rw [sameB_self]
            clear HI
            go_wp2_with fail
            go_ret
            exact ⟨rfl, b4⟩
          · have e0 : sameB (nRow S G C) (nRow S' G' C') = false := decide_eq_false (fun h => hCC (HI.out h).2.2)
            have q1 : (S == S') = true := by simpa using hS
            have q2 : (G == G') = true := by simpa using hG
            have q3 : (C == C') = false := by simpa using hCC
            rw [e0]
            clear e0 hS hG hCC HI
            go_wp2_with fail
            go_ret
            exact ⟨rfl, b4⟩
        · have e0 : sameB (nRow S G C) (nRow S' G' C') = false := decide_eq_false (fun h => hG (HI.out h).2.1)
          have q1 : (S == S') = true := by simpa using hS
          have q2 : (G == G') = false := by simpa using hG
          rw [e0]
          clear e0 hS hG HI
          go_wp2_with fail
          go_ret
          exact ⟨rfl, b4⟩
      · have e0 : sameB (nRow S G C) (nRow S' G' C') = false := decide_eq_false (fun h => hS (HI.out h).1)
        have q1 : (S == S') = false := by simpa using hS
        rw [e0]
        clear e0 hS HI
        go_wp2_with fail
        go_ret
        exact ⟨rfl, b4⟩
    · rw [e1, nRow_length] at y2 ⊢
      rw [e2]
      clear e1 e2 h1 h2 y2 y3
      go_wp2_with fail
      go_ret
      exact ⟨rfl, b3⟩
  · rw [e1]
    clear e1 h1 y2
    rcases nB_two S' G' C' with ⟨h2, e2⟩ | ⟨h2, e2⟩
    · rw [e2, nRow_length]
      clear e2 h2 y3
      go_wp2_with fail
      go_ret
      exact ⟨rfl, b3⟩
    · rw [e2]
      clear e2 h2 y3
      go_wp2_with fail
      go_ret
      exact ⟨rfl, b3⟩
end Go.Proofs.Ytnjfckijpbgagaa
