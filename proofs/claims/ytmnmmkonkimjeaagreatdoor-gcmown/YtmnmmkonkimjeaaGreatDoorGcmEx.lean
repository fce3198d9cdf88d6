import Derived.Test.YtmnmmkonkimjeaaGreatDoorGcm
namespace Go.Proofs.YtmnmmkonkimjeaaGreatDoor
set_option linter.unusedVariables false
set_option maxRecDepth 100000

/-! The chapter's first example. -/
def kyK : List Nat := [3, 10, 17, 24, 31, 38, 45, 52, 59, 66, 73, 80, 87, 94, 101, 108, 115, 122, 129, 136, 143, 150, 157, 164, 171, 178, 185, 192, 199, 206, 213, 220]
def kyN : List Nat := [200, 199, 198, 197, 196, 195, 194, 193, 192, 191, 190, 189]
def eyK : List Nat := [3, 10, 17, 24, 31, 38, 45, 52, 59, 66, 73, 80, 87, 94, 101, 108, 115, 122, 129, 136, 143, 150, 157, 164, 171, 178, 185, 192, 199, 206, 213, 220, 137, 9, 151, 222, 150, 47, 186, 234, 173, 109, 243, 186, 250, 51, 150, 214, 94, 185, 17, 126, 209, 47, 140, 218, 122, 157, 53, 26, 189, 83, 224, 198, 102, 232, 35, 164, 240, 199, 153, 78, 93, 170, 106, 244, 167, 153, 252, 34, 2, 87, 161, 237, 211, 120, 45, 55, 169, 229, 24, 45, 20, 182, 248, 235, 44, 169, 202, 94, 220, 110, 83, 16, 129, 196, 57, 228, 38, 93, 197, 198, 245, 27, 7, 89, 38, 99, 42, 110, 143, 134, 50, 67, 155, 48, 202, 168, 32, 221, 8, 74, 252, 179, 91, 90, 125, 119, 98, 190, 91, 42, 167, 120, 204, 254, 91, 229, 234, 157, 113, 139, 101, 27, 67, 200, 254, 43, 137, 96, 193, 122, 216, 241, 61, 201, 131, 171, 64, 190, 225, 21, 27, 148, 70, 109, 99, 220, 1, 217, 137, 65, 112, 82, 236, 90, 51, 154, 18, 113, 186, 250, 66, 142, 245, 56, 127, 71, 118, 147, 63, 249, 151, 134, 36, 109, 209, 235, 85, 224, 63, 48, 220, 161, 79, 98, 48, 251, 124, 248, 34, 138, 198, 2, 124, 58, 130, 171, 3, 125, 244, 56, 60, 132, 99, 190, 24, 233, 178, 85]
def eyV : List (List Nat) := [[203, 205, 215, 221, 219, 229, 239, 245, 251, 253, 247, 237, 87, 94, 101, 109], [105, 72, 211, 96, 150, 145, 178, 244, 181, 249, 195, 80, 39, 219, 105, 249], [79, 2, 3, 72, 52, 86, 49, 154, 21, 196, 137, 100, 235, 81, 147, 90], [156, 8, 168, 152, 75, 34, 221, 150, 99, 72, 152, 48, 105, 69, 46, 208], [89, 177, 114, 232, 12, 197, 208, 111, 80, 64, 203, 117, 219, 92, 160, 203], [126, 245, 211, 44, 84, 52, 183, 234, 57, 74, 98, 153, 211, 137, 213, 162], [105, 181, 32, 150, 143, 141, 48, 71, 182, 174, 210, 6, 156, 226, 37, 228], [39, 245, 105, 115, 88, 18, 104, 27, 183, 129, 106, 229, 51, 60, 120, 222], [252, 131, 46, 244, 15, 145, 212, 81, 68, 172, 35, 9, 107, 40, 120, 44], [120, 76, 181, 107, 173, 178, 47, 89, 239, 234, 102, 89, 102, 78, 137, 71], [104, 93, 206, 113, 70, 196, 69, 209, 138, 144, 230, 24, 216, 1, 48, 137], [228, 143, 173, 209, 58, 116, 188, 133, 33, 100, 126, 147, 199, 151, 167, 58], [78, 86, 104, 249, 195, 155, 79, 107, 95, 60, 113, 178, 159, 62, 209, 15], [226, 111, 195, 26, 1, 153, 70, 236, 66, 251, 10, 187, 244, 136, 230, 47], [228, 212, 229, 190, 127, 114, 122, 154, 16, 64, 77, 112, 167, 65, 232, 191]]
def eyW : List Nat := [228, 212, 229, 190, 127, 114, 122, 154, 16, 64, 77, 112, 167, 65, 232, 191]
set_option maxRecDepth 100000 in
theorem ey_step : ∀ n, n < 52 → nw (eyK.take (32 + 4 * n)) (n + 8) = (eyK.drop (32 + 4 * n)).take 4 := by decide +kernel
theorem ey_kx : ∀ n, n ≤ 52 → kx kyK n = eyK.take (32 + 4 * n)
  | 0, _ => by decide +kernel
  | n + 1, h => by
    rw [kx, ey_kx n (by omega), ey_step n (by omega), show 32 + 4 * (n + 1) = (32 + 4 * n) + 4 from by omega]
    exact (List.take_add).symm
theorem ey_kf (j : Nat) : kf kyK j = eyK.getD j 0 := by
  unfold kf
  rw [ey_kx 52 (by omega), show 32 + 4 * 52 = eyK.length from by decide +kernel, List.take_length]
set_option maxRecDepth 100000 in
theorem ey_first : ∀ i, i < 16 → xk (eyK.getD · 0) 0 (cb kyN 1) i = (eyV.getD 0 []).getD i 0 := by decide +kernel
set_option maxRecDepth 100000 in
theorem ey_round : ∀ r, r < 14 → ∀ i, i < 16 → rd (eyK.getD · 0) (r + 1) (fun i => (eyV.getD r []).getD i 0) i = (eyV.getD (r + 1) []).getD i 0 := by decide +kernel
theorem ey_bl : ∀ r, r ≤ 14 → ∀ i, i < 16 → bl (kf kyK) (cb kyN 1) r i = (eyV.getD r []).getD i 0
  | 0, _ => fun i hi => by
    rw [← ey_first i hi]
    unfold bl xk
    rw [ey_kf]
  | r + 1, h => fun i hi => by
    rw [← ey_round r (by omega) i hi, bl, rd_congr (ey_bl r (by omega)) (r + 1) i hi]
    unfold rd xk
    rw [ey_kf]
theorem ky_lt : ∀ x ∈ kyK, x < 256 := by decide
theorem kn_lt : ∀ x ∈ kyN, x < 256 := by decide
/-- A fold of nothing but zeros. -/
theorem gm_zero (h z : Nat → Nat) (hz : ∀ i, i < 16 → z i = 0) : ∀ i, i < 16 → gm z h i = 0 := fun i _ => by
  have e : pk z = 0 := by
    have h1 : (List.range 16).map (fun j => z (15 - j)) = List.replicate 16 0 := by
      rw [List.map_congr_left (g := fun _ => 0) (fun j hj => hz _ (by omega))]
      decide
    unfold pk
    rw [h1]
    decide
  unfold gm
  rw [e, zero_mul]
  unfold dg
  simp
theorem rep_get : ∀ k, k < 16 → (List.replicate 16 (0 : Nat)).getD k 0 = 0 := by decide
theorem ey_tag : ∀ i, i < 16 → tg (kf kyK) kyN [] [] i = eyW.getD i 0 := fun i hi => by
  unfold tg
  have e1 : ∀ h : Nat → Nat, fo h [] (fun _ => 0) = fun _ => 0 := fun h => rfl
  rw [e1, e1, ey_bl 14 (by omega) i hi]
  have e2 : ∀ h : Nat → Nat, fo h (e8 (8 * ([] : List Nat).length) ++ e8 (8 * ([] : List Nat).length)) (fun _ => 0) i = 0 := fun h => by
    have e3 : e8 (8 * ([] : List Nat).length) ++ e8 (8 * ([] : List Nat).length) = List.replicate 16 0 := by decide +kernel
    rw [e3]
    show gm (zx (fun _ => 0) (List.replicate 16 0) 0) h i = 0
    refine gm_zero h _ (fun k hk => ?_) i hi
    unfold zx
    split
    · rw [Nat.mul_zero, Nat.zero_add, rep_get k hk, Nat.xor_zero]
    · rfl
  rw [e2, Nat.zero_xor]
  rfl
theorem ey_seal : sl (kf kyK) kyN [] [] = eyW := by
  have e : st (kf kyK) kyN [] = [] := rfl
  unfold sl
  rw [e, List.nil_append]
  refine list_ext (by rw [tl_length]; rfl) fun i hi => ?_
  rw [tl_length] at hi
  rw [tl_get _ _ _ _ i hi, ey_tag i hi]
end Go.Proofs.YtmnmmkonkimjeaaGreatDoor
