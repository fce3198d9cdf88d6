import Derived.Test.YtajjilheellfeaaDoorS4
import Derived.Laws.Concat
namespace Go.Proofs.YtajjilheellfeaaDoor
open Go.RowKit
set_option linter.unusedVariables false

theorem sb_append (a b : List Nat) : sb a ++ sb b = sb (a ++ b) := by
  apply ByteArray.ext
  simp [sb]
theorem sb_size (a : List Nat) : (sb a).size = a.length := by
  show (sb a).data.size = _
  simp [sb]
theorem sb_point : (⟨#[46]⟩ : ByteArray) = sb [46] := rfl
theorem dgs_length (n least : Nat) (hn : n ≤ 9223372036854775807) (hl : least ≤ 20) : (dgs n least).length ≤ 20 := by
  unfold dgs
  rw [dl_length]
  have := (cnt_lt 19 n).2 (by have : (10 : Nat) ^ 19 = 10000000000000000000 := by decide
                              omega)
  unfold dn
  rw [Nat.max_def]
  split <;> omega
set_option maxHeartbeats 1000000 in
theorem refPrint_ (s n : Int) (w : World) (hs : -9223372036854775808 ≤ s ∧ s ≤ 9223372036854775807) :
    Calls Tryd.prog 20 #[.agg #[.int .i64 s, .int .i64 n]] w fun e w' => e = .returned (.string (sb (pr s n))) ∧ Below w.heap.size w w' := by
  have B0 := snew1 w s n
  have m0 := Sm.new w s n
  go_enter Tryd.func20, Tryd.ntmps20
  go_wp2_with fail
  refine (refValid_ s n _).mono ?_
  rintro e w1 ⟨rfl, g2⟩
  replace m0 := m0.kept g2
  replace B0 := bel_bel B0 B0.size g2
  clear g2
  cases hv : vld s n with
  | false =>
    go_wp2_with fail
    go_ret
    exact ⟨by unfold pr; rw [hv]; rfl, B0⟩
  | true =>
    obtain ⟨p1, p2, p3⟩ := of_decide_eq_true (show decide _ = true from hv)
    have HP : Hid (pr s n = dgs s.toNat 1 ++ 46 :: dgs n.toNat 9) := by show _ = _; unfold pr; rw [hv]; rfl
    obtain ⟨S, rfl⟩ : ∃ S : Nat, s = S := ⟨s.toNat, by omega⟩
    obtain ⟨N, rfl⟩ : ∃ N : Nat, n = N := ⟨n.toNat, by omega⟩
    have c0 := m0.c0
    have k1 := fun w => refDigits_ S 1 w (by omega) (by omega) (by omega)
    have k2 := fun w => refDigits_ N 9 w (by omega) (by omega) (by omega)
    rw [show ((1 : Nat) : Int) = 1 from rfl] at k1
    rw [show ((9 : Nat) : Int) = 9 from rfl] at k2
    have l1 := dgs_length S 1 (by omega) (by omega)
    have l2 := dgs_length N 9 (by omega) (by omega)
    rw [Int.toNat_natCast, Int.toNat_natCast] at HP
    have HA : Hid (sb (dgs S 1) ++ ⟨#[46]⟩ ++ sb (dgs N 9) = sb (pr S N)) := by show _ = _; rw [sb_point, sb_append, sb_append, HP.out, List.append_assoc]; rfl
    have hq := sb_size (dgs S 1)
    have hq2 := sb_size (dgs N 9)
    obtain ⟨P, HPP⟩ : ∃ P, Hid (pr S N = P) := ⟨_, rfl⟩
    rw [HPP.out] at HA
    generalize sb (dgs S 1) = D1 at *
    generalize sb (dgs N 9) = D2 at *
    have a1 := fun w => run_string_add_sum (P := Tryd.prog) w D1 ⟨#[46]⟩ (by show D1.size + 1 ≤ _; omega)
    have a2 := fun w => run_string_add_sum (P := Tryd.prog) w (D1 ++ ⟨#[46]⟩) D2 (by rw [ByteArray.size_append]; show D1.size + 1 + D2.size ≤ _; omega)
    clear hv hq hq2 l1 l2
    go_wp2_with fail
    refine (k1 _).mono ?_
    rintro e w2 ⟨rfl, g2⟩
    replace m0 := m0.kept g2
    replace B0 := bel_bel B0 B0.size g2
    have c1 := m0.c1
    clear g2 c0
    go_wp2_with fail
    refine (k2 _).mono ?_
    rintro e w3 ⟨rfl, g2⟩
    replace B0 := bel_bel B0 B0.size g2
    clear g2 c1 m0
    go_wp2_with fail
    go_ret
    exact ⟨by rw [HPP.out, ← HA.out]; rfl, B0⟩
end Go.Proofs.YtajjilheellfeaaDoor
