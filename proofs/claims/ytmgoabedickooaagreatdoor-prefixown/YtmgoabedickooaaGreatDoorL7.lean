import Derived.Test.YtmgoabedickooaaGreatDoorL6
import Derived.Shelf.RegionOpenPlain
namespace Go.Proofs.YtmgoabedickooaaGreatDoor
set_option maxRecDepth 100000
open Go.RowKit
set_option linter.unusedVariables false

/-- Where the first c lies; the length where there is none. -/
def ix (c : Nat) : List Nat → Nat
  | [] => 0
  | x :: r => if x = c then 0 else ix c r + 1
theorem ix_le (c : Nat) (l : List Nat) : ix c l ≤ l.length := by
  induction l with
  | nil => exact Nat.le_refl _
  | cons x r ih => rw [ix]; split <;> simp <;> omega
theorem ofNat_inj {x c : Nat} (hx : x < 256) (hc : c < 256) : UInt8.ofNat x = UInt8.ofNat c ↔ x = c := by
  constructor
  · intro h
    have := congrArg UInt8.toNat h
    simp at this
    omega
  · intro h; rw [h]
theorem index_ix (c : Nat) (hc : c < 256) (l : List Nat) (hy : ∀ x ∈ l, x < 256) : Lib.indexByte (l.map UInt8.ofNat) (UInt8.ofNat c) = if ix c l < l.length then (ix c l : Int) else -1 := by
  induction l with
  | nil => rfl
  | cons x r ih =>
    have ih := ih (fun z hz => hy z (by simp [hz]))
    have hx := ofNat_inj (hy x (by simp)) hc
    rw [List.map_cons, Lib.indexByte, ix]
    by_cases e : x = c
    · subst e
      simp
    · have e2 : ¬ UInt8.ofNat x = UInt8.ofNat c := fun h => e (hx.1 h)
      have e3 : ¬ c = x := fun h => e h.symm
      rw [ih, if_neg e]
      by_cases h : ix c r < r.length
      · simp [e2, h]
        try omega
      · simp [e2, h]
        try omega
theorem sb_data (l : List Nat) : (sb l).data.toList = l.map UInt8.ofNat := by simp [sb]
set_option maxHeartbeats 1000000 in
theorem cutL_ (c : Nat) (l : List Nat) (w : World) (hc : c < 256) (hy : ∀ x ∈ l, x < 256) (hl : l.length ≤ maxLen) :
    Calls Tryz.prog 127 #[.string (sb l), .string ⟨#[UInt8.ofNat c]⟩] w fun e w' => e = .returned (.tuple #[.string (sb (l.take (ix c l))), .string (sb (l.drop (ix c l + 1))), .bool (decide (ix c l < l.length))]) ∧ ∃ nq, w' = w.drewN nq := by
  have hI := fun w => Tryz.stringslite_Index_one (sb l) (UInt8.ofNat c) w
  rw [sb_data, index_ix c hc l hy] at hI
  have hle := ix_le c l
  have hs := sb_size l
  have HX := hid (fun a b => sb_cut l a b)
  by_cases hf : ix c l < l.length
  · rw [if_pos hf] at hI
    rw [decide_eq_true hf]
    have H1 : Hid ((sb l).extract 0 (ix c l) = sb (l.take (ix c l))) := by show _ = _; rw [HX.out, List.drop_zero]
    have H2 : Hid ((sb l).extract (ix c l + 1) l.length = sb (l.drop (ix c l + 1))) := by show _ = _; rw [HX.out, List.take_of_length_le (Nat.le_refl _)]
    generalize sb (l.take (ix c l)) = A at *
    generalize sb (l.drop (ix c l + 1)) = D at *
    generalize ix c l = i at *
    generalize sb l = S at *
    generalize l.length = n at *
    unfold maxLen at hl
    have c1 : (0 : Int) ≤ ↑i := by omega
    have c2 : (↑i : Int) ≤ ↑S.size := by omega
    have c3 : (0 : Int) ≤ ↑i + 1 := by omega
    have c4 : (↑i + 1 : Int) ≤ ↑S.size := by omega
    generalize UInt8.ofNat c = c8 at *
    go_enter Tryz.func127, Tryz.ntmps127
    go_wp2_with (go_at_call 178; refine (hI _).mono ?_; rintro e w' ⟨rfl, rfl⟩)
    go_region
    go_wp2_with fail
    go_ret3
    refine ⟨?_, 1, rfl⟩
    rw [← H1.out, ← H2.out]
    rw [← hs]
    rfl
  · rw [if_neg hf] at hI
    rw [decide_eq_false hf]
    have hi : ix c l = l.length := by omega
    rw [hi, List.take_of_length_le (Nat.le_refl _), List.drop_of_length_le (by omega)]
    generalize sb l = S at *
    generalize UInt8.ofNat c = c8 at *
    go_enter Tryz.func127, Tryz.ntmps127
    go_wp2_with (go_at_call 178; refine (hI _).mono ?_; rintro e w' ⟨rfl, rfl⟩)
    go_ret3
    exact ⟨rfl, 0, rfl⟩
set_option maxHeartbeats 400000 in
theorem cut_ (c : Nat) (l : List Nat) (w : World) (hc : c < 256) (hy : ∀ x ∈ l, x < 256) (hl : l.length ≤ maxLen) :
    Calls Tryz.prog 54 #[.string (sb l), .string ⟨#[UInt8.ofNat c]⟩] w fun e w' => e = .returned (.tuple #[.string (sb (l.take (ix c l))), .string (sb (l.drop (ix c l + 1))), .bool (decide (ix c l < l.length))]) ∧ ∃ nq, w' = w.drewN nq := by
  have k := fun w => cutL_ c l w hc hy hl
  go_enter Tryz.func54, Tryz.ntmps54
  go_wp2_with (go_at_call 127; refine (k _).mono ?_; rintro e w1 ⟨rfl, nq, rfl⟩)
  go_ret3
  exact ⟨rfl, nq, rfl⟩
end Go.Proofs.YtmgoabedickooaaGreatDoor
