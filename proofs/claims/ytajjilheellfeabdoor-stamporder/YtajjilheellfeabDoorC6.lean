import Derived.Test.YtajjilheellfeabDoorC5
namespace Go.Proofs.YtajjilheellfeabDoor
open Go.RowKit
set_option linter.unusedVariables false

set_option maxHeartbeats 1000000 in
theorem print_ (s n : Int) (w : World) (hs : InI s) (hn : InI n) (hT : Tb w) :
    Calls Tryd.prog 17 #[.agg #[.int .i64 s, .int .i64 n]] w fun e w' => e = .returned (.string (sb (pr s n))) ∧ Below w.heap.size w w' := by
  have B0 := snew1 w s n
  have m0 := Sm.new w s n
  replace hT := hT.alloc (.cells #[.int .i64 s, .int .i64 n] 23)
  go_enter Tryd.func17, Tryd.ntmps17
  go_wp2_with fail
  refine (valid_ s n _ hs hn).mono ?_
  rintro e w1 ⟨rfl, g2⟩
  replace m0 := m0.kept g2
  replace hT := hT.kept g2
  replace B0 := bel_bel B0 B0.size g2
  clear g2
  cases hv : vld s n with
  | false =>
    go_wp2_with fail
    go_ret
    exact ⟨by unfold pr; rw [hv]; rfl, B0⟩
  | true =>
    obtain ⟨p1, p2, p3⟩ := of_decide_eq_true (show decide _ = true from hv)
    have HP : Hid (pr s n = dgs s.toNat 1 ++ 46 :: dgs n.toNat 9) := by show _ = _; unfold pr; rw [hv]; rfl
    have hs2 := hs.2
    obtain ⟨S, rfl⟩ : ∃ S : Nat, s = S := ⟨s.toNat, by omega⟩
    obtain ⟨N, rfl⟩ : ∃ N : Nat, n = N := ⟨n.toNat, by omega⟩
    have c1 := m0.c1
    have k1 := fun w => itoa_ N w (by omega)
    have k3 := fun w => itoa_ S w (by omega)
    obtain ⟨q1, q2, q3⟩ := dgs_nine N (by omega)
    have l1 := dgs_length S 1 (by omega) (by omega)
    rw [Int.toNat_natCast, Int.toNat_natCast, q3] at HP
    have HA : Hid (sb (dgs S 1) ++ ⟨#[46]⟩ ++ sb (List.replicate (9 - (dgs N 1).length) 48) ++ sb (dgs N 1) = sb (pr S N)) := by
      show _ = _
      rw [sb_point, sb_append, sb_append, sb_append, HP.out]
      simp
    have hq := sb_size (dgs S 1)
    have hq2 := sb_size (dgs N 1)
    have hq3 := sb_size (List.replicate (9 - (dgs N 1).length) 48)
    rw [List.length_replicate] at hq3
    have k2 := fun w => repeat_ (9 - (dgs N 1).length) w (by omega)
    obtain ⟨P, HPP⟩ : ∃ P, Hid (pr S N = P) := ⟨_, rfl⟩
    rw [HPP.out] at HA
    generalize (dgs N 1).length = L at *
    rw [show ((9 - L : Nat) : Int) = 9 - (L : Int) from by omega] at k2
    generalize sb (dgs S 1) = D1 at *
    generalize sb (dgs N 1) = D2 at *
    generalize sb (List.replicate (9 - L) 48) = D3 at *
    have a1 := fun w => run_string_add_sum (P := Tryd.prog) w D1 ⟨#[46]⟩ (by show D1.size + 1 ≤ _; omega)
    have a2 := fun w => run_string_add_sum (P := Tryd.prog) w (D1 ++ ⟨#[46]⟩) D3 (by rw [ByteArray.size_append]; show D1.size + 1 + D3.size ≤ _; omega)
    have a3 := fun w => run_string_add_sum (P := Tryd.prog) w (D1 ++ ⟨#[46]⟩ ++ D3) D2 (by rw [ByteArray.size_append, ByteArray.size_append]; show D1.size + 1 + D3.size + D2.size ≤ _; omega)
    clear hv hq hq3 l1 q3 hs hn
    go_wp2_with fail
    refine (k1 _ hT).mono ?_
    rintro e w2 ⟨rfl, g2⟩
    replace m0 := m0.kept g2
    replace hT := hT.kept g2
    replace B0 := bel_bel B0 B0.size g2
    clear g2 c1
    go_wp2_with fail
    refine (k2 _).mono ?_
    rintro e w3 ⟨rfl, g2⟩
    replace m0 := m0.kept g2
    replace hT := hT.kept g2
    replace B0 := bel_bel B0 B0.size g2
    have c0 := m0.c0
    clear g2
    go_wp2_with fail
    refine (k3 _ hT).mono ?_
    rintro e w4 ⟨rfl, g2⟩
    replace B0 := bel_bel B0 B0.size g2
    clear g2 c0 m0
    go_wp2_with fail
    go_ret
    exact ⟨by rw [HPP.out, ← HA.out]; rfl, B0⟩
end Go.Proofs.YtajjilheellfeabDoor
