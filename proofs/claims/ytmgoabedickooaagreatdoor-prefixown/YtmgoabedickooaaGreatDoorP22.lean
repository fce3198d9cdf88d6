import Derived.Test.YtmgoabedickooaaGreatDoorCode7
namespace Go.Proofs.YtmgoabedickooaaGreatDoor
set_option maxRecDepth 100000
open Go.RowKit
set_option linter.unusedVariables false

theorem num7_ (x : Int) (w : World) : Calls Tryz.prog 19 #[.int .i64 x] w fun e w' => e = .returned (.int .i64 x) ∧ w' = w := by
  go_enter Tryz.func19, Tryz.ntmps19
  go_wp2
  go_ret
  exact ⟨rfl, rfl⟩
/-! The chapter's prefix 10.1.0.0/16. -/
def fb : List Int := [4, 16, 10, 1, 0, 0]
def ft : List Nat := [49, 48, 46, 49, 46, 48, 46, 48, 47, 49, 54]
theorem fb_byte : ∀ z ∈ fb, 0 ≤ z ∧ z ≤ 255 := by decide
theorem ft_lt : ∀ x ∈ ft, x < 256 := by decide
theorem first_vp : vp 4 0 167837696 16 = true := by decide
theorem first_pp : pp 4 0 167837696 16 = fb := by
  unfold pp
  rw [first_vp]
  decide
theorem first_ho : ho 4 0 167837696 16 4 0 167902979 = true := by
  unfold ho
  rw [first_vp]
  decide
theorem dgs_0 : dgs 0 1 = [48] := by
  unfold dgs dn
  rw [show cnt 0 = 0 from by rw [cnt, dif_pos (by decide)]]
  decide
theorem dgs_1 : dgs 1 1 = [49] := by
  unfold dgs dn
  rw [show cnt 1 = 1 from by rw [cnt, dif_neg (by decide), cnt, dif_pos (by decide)]]
  decide
theorem dgs_10 : dgs 10 1 = [49, 48] := by
  unfold dgs dn
  rw [show cnt 10 = 2 from by rw [cnt, dif_neg (by decide), cnt, dif_neg (by decide), cnt, dif_pos (by decide)]]
  decide
theorem dgs_16 : dgs 16 1 = [49, 54] := by
  unfold dgs dn
  rw [show cnt 16 = 2 from by rw [cnt, dif_neg (by decide), cnt, dif_neg (by decide), cnt, dif_pos (by decide)]]
  decide
theorem first_tp : tp 4 0 167837696 16 = ft := by
  unfold tp
  rw [first_vp, if_pos rfl]
  unfold ta
  rw [show nl (pa 4 0 167837696) = [10, 1, 0, 0] from by decide, tx4, show (16 : Int).toNat = 16 from rfl, dgs_0, dgs_1, dgs_10, dgs_16]
  rfl
theorem first_r : rF ft = 4 ∧ rH ft = 0 ∧ rL ft = 167837696 ∧ rB ft = 16 ∧ rE ft = 0 := by
  have h := pk_tp first_vp (by unfold InU; omega) (by unfold InU; omega)
  rw [first_tp] at h
  exact h.2
end Go.Proofs.YtmgoabedickooaaGreatDoor
