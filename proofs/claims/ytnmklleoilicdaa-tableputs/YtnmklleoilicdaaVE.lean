import Derived.Test.YtnmklleoilicdaaUJ
namespace Go.Proofs.Ytnmklleoilicdaa
set_option maxRecDepth 100000
open Go.RowKit Go.Shelf Go.Maps
set_option linter.unusedVariables false

/-- Few and short enough to be laid anew. -/
def shortX (s : Sx) : Bool := decide (s.k.length ≤ 2000) && decide (s.v.length ≤ 2000)
def shortS (l : List Sx) : Bool := decide (l.length ≤ 2000) && l.all shortX
theorem shortS_no {l : List Sx} {k : Nat} (hk : k < l.length) (h : shortX (l.getD k default) = false) : shortS l = false := by
  have e : l.getD k default = l[k] := by simp [List.getD, hk]
  rw [e] at h
  cases hs : shortS l with
  | false => rfl
  | true =>
    unfold shortS at hs
    rw [Bool.and_eq_true] at hs
    have := (List.all_eq_true.1 hs.2) l[k] (List.getElem_mem hk)
    rw [h] at this
    cases this
theorem short_take {l : List Sx} {k : Nat} (hk : k < l.length) (h : (l.take k).all shortX = true) (hs : shortX (l.getD k default) = true) : (l.take (k + 1)).all shortX = true := by
  have e : l.getD k default = l[k] := by simp [List.getD, hk]
  rw [e] at hs
  rw [List.take_succ_eq_append_getElem hk, List.all_append, h]
  simp [hs]
set_option maxHeartbeats 2000000 in
theorem short_ (U : Nat → Prop) (a : Option Addr) (n c : Nat) (l : List Sx) (w : World) (hl : Sl w U a n l) (hn : n ≤ 140737488355328) :
    Calls Try.prog 7 #[.slice a n c] w fun e w' => e = .returned (.bool (shortS l)) ∧ Below w.heap.size w w' := by
  have HL := hid hl
  have HLN : Hid (l.length = n) := hl.len
  clear hl
  by_cases hb : 2000 < n
  · have hI : (n : Int) > 2000 := by omega
    have HX : Hid (shortS l = false) := by
      show _ = _
      unfold shortS
      rw [HLN.out, decide_eq_false (by omega)]
      rfl
    go_enter Try.func7, Try.ntmps7
    go_wp2_with fail
    go_ret
    rw [HX.out]
    exact ⟨rfl, Below.refl _ _⟩
  have hI0 : ¬ (n : Int) > 2000 := by omega
  go_enter Try.func7, Try.ntmps7
  go_wp2_with fail
  go_loopw [3] (fun i wr => ∃ k : Nat, k ≤ n ∧ i = .int .i64 k ∧ Hid ((l.take k).all shortX = true) ∧ Hid (Below w.heap.size w wr)) (fun i _ => n - (intOf i).toNat)
  case atStart => exact ⟨0, Nat.zero_le _, rfl, rfl, Below.refl _ _⟩
  case round =>
    obtain ⟨k, hk, rfl, HA, HB⟩ := hrel
    by_cases hlt : k < n
    · have hI : (k : Int) < n := by omega
      have hkL : k < l.length := by rw [HLN.out]; exact hlt
      obtain ⟨bl, off, ka, kc, va, vc, kn, vn, rfl, hkn, hvn, c0, c1, c2, v1, v2⟩ := (HL.out.below HB.out).at hlt
      have hno := fun h => shortS_no (l := l) hkL h
      have hyes := fun h => short_take hkL HA.out h
      obtain ⟨s, HS⟩ : ∃ s, Hid (l.getD k default = s) := ⟨_, rfl⟩
      rw [HS.out] at hkn hvn hno hyes
      have hs : shortX s = (decide (kn ≤ 2000) && decide (vn ≤ 2000)) := by unfold shortX; rw [hkn, hvn]
      have l1 : kn ≤ 9223372036854775807 := Nat.le_trans v1.nc v1.cm
      have l2 : vn ≤ 9223372036854775807 := Nat.le_trans v2.nc v2.cm
      clear hkn hvn v1 v2 c2 hlt hkL HS
      by_cases h1 : 2000 < kn
      · have e1 : (kn : Int) > 2000 := by omega
        have HX := hid (hno (by rw [hs, decide_eq_false (by omega)]; rfl))
        clear hno hyes hs
        go_wp2_with fail
        go_ret
        rw [HX.out]
        exact ⟨rfl, HB.out⟩
      · have e1 : ¬ (kn : Int) > 2000 := by omega
        by_cases h2 : 2000 < vn
        · have e2 : (vn : Int) > 2000 := by omega
          have HX := hid (hno (by rw [hs, decide_eq_false (show ¬ vn ≤ 2000 by omega)]; simp))
          clear hno hyes hs
          go_wp2_with fail
          go_ret
          rw [HX.out]
          exact ⟨rfl, HB.out⟩
        · have e2 : ¬ (vn : Int) > 2000 := by omega
          have HX := hid (hyes (by rw [hs, decide_eq_true (show kn ≤ 2000 by omega), decide_eq_true (show vn ≤ 2000 by omega)]; rfl))
          clear hno hyes hs
          go_wp2_with fail
          go_roundw
          case rel => exact ⟨k + 1, by omega, by go_num, HX, HB⟩
          case measure => simp [intOf]; omega
    · have hI : ¬ (k : Int) < n := by omega
      have HX : Hid (shortS l = true) := by
        have h := HA.out
        rw [List.take_of_length_le (by rw [HLN.out]; omega)] at h
        show _ = _
        unfold shortS
        rw [h, decide_eq_true (by rw [HLN.out]; omega)]
        rfl
      clear hlt
      go_wp2_with fail
      go_ret
      rw [HX.out]
      exact ⟨rfl, HB.out⟩
end Go.Proofs.Ytnmklleoilicdaa
