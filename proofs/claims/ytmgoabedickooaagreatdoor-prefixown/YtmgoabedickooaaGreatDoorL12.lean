import Derived.Test.YtmgoabedickooaaGreatDoorL11
namespace Go.Proofs.YtmgoabedickooaaGreatDoor
set_option maxRecDepth 100000
open Go.RowKit
set_option linter.unusedVariables false

theorem cnt_one (a : Nat) (h : a < 10) (h0 : 0 < a) : cnt a = 1 := by
  rw [cnt, dif_neg (by omega), cnt, dif_pos (by omega)]
theorem cnt_step (a : Nat) (h : 10 ≤ a) : cnt a = cnt (a / 10) + 1 := by
  conv => lhs; rw [cnt]
  rw [dif_neg (by omega)]
theorem dgs1 (a : Nat) (h : a < 10) : dgs a 1 = [48 + a] := by
  have hc := (cnt_lt 1 a).2 (by omega)
  have : dn a 1 = 1 := by unfold dn; rw [Nat.max_def]; split <;> omega
  unfold dgs
  rw [this, dl, dl, List.nil_append, Nat.mod_eq_of_lt h]
theorem dgs_step (a : Nat) (h : 10 ≤ a) : dgs a 1 = dgs (a / 10) 1 ++ [48 + a % 10] := by
  have hc := cnt_step a h
  have hp := cnt_pos (a / 10) (by omega)
  have e1 : dn a 1 = cnt (a / 10) + 1 := by unfold dn; rw [hc, Nat.max_def]; split <;> omega
  have e2 : dn (a / 10) 1 = cnt (a / 10) := by unfold dn; rw [Nat.max_def]; split <;> omega
  unfold dgs
  rw [e1, e2, dl]
theorem q10_dgs (a : Nat) (h : a < 256) : q10 (dgs a 1) = some a := by
  by_cases h1 : a < 10
  · rw [dgs1 a h1]
    have : ∀ a, a < 10 → q10 [48 + a] = some a := by decide
    exact this a h1
  · rw [dgs_step a (by omega)]
    by_cases h2 : a < 100
    · rw [dgs1 (a / 10) (by omega)]
      have : ∀ x, x < 10 → ∀ y, y < 10 → q10 ([48 + x] ++ [48 + y]) = some (x * 10 + y) := by decide
      rw [this (a / 10) (by omega) (a % 10) (by omega)]
      congr 1
      omega
    · rw [dgs_step (a / 10) (by omega), dgs1 (a / 10 / 10) (by omega)]
      have : ∀ x, x < 3 → ∀ y, y < 10 → ∀ z, z < 10 → x * 100 + y * 10 + z < 256 → q10 ([48 + x] ++ [48 + y] ++ [48 + z]) = some (x * 100 + y * 10 + z) := by decide
      rw [this (a / 10 / 10) (by omega) (a / 10 % 10) (by omega) (a % 10) (by omega) (by omega)]
      congr 1
      omega
theorem hv_hd : ∀ y, y < 16 → hv (hd y) = some y := by decide
theorem q16_hx (a b : Nat) (ha : a < 256) (hb : b < 256) : q16 (hx a ++ hx b) = some (a * 256 + b) := by
  unfold q16 hx
  rw [if_neg (by simp)]
  show ph 0 [hd (a / 16), hd (a % 16), hd (b / 16), hd (b % 16)] = _
  simp only [ph, hv_hd (a / 16) (by omega), hv_hd (a % 16) (by omega), hv_hd (b / 16) (by omega), hv_hd (b % 16) (by omega)]
  rw [if_neg (by omega), if_neg (by omega), if_neg (by omega), if_neg (by omega)]
  congr 1
  omega
theorem fv_mod (p : Int) (vs : List Nat) : ∀ A : Int, vs.foldl (fun (A : Int) (v : Nat) => (A * p + (v : Int)) % 340282366920938463463374607431768211456) (A % 340282366920938463463374607431768211456) = vs.foldl (fun (A : Int) (v : Nat) => A * p + (v : Int)) A % 340282366920938463463374607431768211456 := by
  induction vs with
  | nil => intro A; rfl
  | cons v r ih =>
    intro A
    rw [List.foldl_cons, List.foldl_cons, ← ih]
    congr 1
    rw [Int.add_emod, Int.mul_emod, Int.emod_emod, ← Int.mul_emod, ← Int.add_emod]
theorem fv_eq (p : Int) (vs : List Nat) : fv p vs = vs.foldl (fun (A : Int) (v : Nat) => A * p + (v : Int)) 0 % 340282366920938463463374607431768211456 := by
  have := fv_mod p vs 0
  rwa [Int.zero_emod] at this
theorem ix_none (c : Nat) (l : List Nat) (h : ∀ z ∈ l, z ≠ c) : ¬ ix c l < l.length := by
  induction l with
  | nil => simp
  | cons x r ih =>
    have := ih (fun z hz => h z (by simp [hz]))
    rw [ix, if_neg (h x (by simp)), List.length_cons]
    omega
theorem ix_some (c : Nat) (x l : List Nat) : ix c (x ++ c :: l) < (x ++ c :: l).length := by
  induction x with
  | nil => simp [ix]
  | cons y r ih =>
    rw [List.cons_append, ix]
    split
    · simp
    · rw [List.length_cons]
      omega
/-- What gather finds in an address's text. -/
theorem gat4 (p : List Nat) (hp : ∀ x ∈ p, x < 256) (hl : p.length = 4) : ¬ ix 58 (tx p) < (tx p).length ∧ (cu 46 (tx p)).map q10 = p.map some ∧ fv 256 p = val (ic p) := by
  match p, hl with
  | [a, b, c, d], _ =>
    have ha := hp a (by simp)
    have hb := hp b (by simp)
    have hc := hp c (by simp)
    have hd := hp d (by simp)
    rw [tx4]
    refine ⟨?_, ?_, ?_⟩
    · refine ix_none 58 _ ?_
      have hn : ∀ a, ∀ z ∈ dgs a 1, z ≠ 58 := fun a z hz => by
        have := dl_digit _ _ z hz
        omega
      exact not_cons 58 46 _ _ (by decide) (hn a) (not_cons 58 46 _ _ (by decide) (hn b) (not_cons 58 46 _ _ (by decide) (hn c) (hn d)))
    · rw [cu_cons 46 _ _ (dgs_not a 46 (by decide)), cu_cons 46 _ _ (dgs_not b 46 (by decide)), cu_cons 46 _ _ (dgs_not c 46 (by decide)), cu_one 46 _ (dgs_not d 46 (by decide))]
      simp only [List.map_cons, List.map_nil]
      rw [q10_dgs a ha, q10_dgs b hb, q10_dgs c hc, q10_dgs d hd]
    · rw [fv_eq]
      have e : val (ic [a, b, c, d]) = (((0 * 256 + (a : Int)) * 256 + b) * 256 + c) * 256 + d := rfl
      have e2 : ([a, b, c, d] : List Nat).foldl (fun (A : Int) (v : Nat) => A * 256 + (v : Int)) 0 = (((0 * 256 + (a : Int)) * 256 + b) * 256 + c) * 256 + d := rfl
      rw [e, e2]
      omega
theorem gat16 (p : List Nat) (hp : ∀ x ∈ p, x < 256) (hl : p.length = 16) : ix 58 (tx p) < (tx p).length ∧ ∃ vs : List Nat, (cu 58 (tx p)).map q16 = vs.map some ∧ fv 65536 vs = val (ic p) := by
  match p, hl with
  | [a0, a1, a2, a3, a4, a5, a6, a7, a8, a9, a10, a11, a12, a13, a14, a15], _ =>
    have h0 := hp a0 (by simp)
    have h1 := hp a1 (by simp)
    have h2 := hp a2 (by simp)
    have h3 := hp a3 (by simp)
    have h4 := hp a4 (by simp)
    have h5 := hp a5 (by simp)
    have h6 := hp a6 (by simp)
    have h7 := hp a7 (by simp)
    have h8 := hp a8 (by simp)
    have h9 := hp a9 (by simp)
    have h10 := hp a10 (by simp)
    have h11 := hp a11 (by simp)
    have h12 := hp a12 (by simp)
    have h13 := hp a13 (by simp)
    have h14 := hp a14 (by simp)
    have h15 := hp a15 (by simp)
    rw [tx16]
    refine ⟨ix_some 58 _ _, [a0 * 256 + a1, a2 * 256 + a3, a4 * 256 + a5, a6 * 256 + a7, a8 * 256 + a9, a10 * 256 + a11, a12 * 256 + a13, a14 * 256 + a15], ?_, ?_⟩
    · rw [cu_cons 58 _ _ (hx2_not a0 a1 58 h0 h1 (.inr rfl)), cu_cons 58 _ _ (hx2_not a2 a3 58 h2 h3 (.inr rfl)), cu_cons 58 _ _ (hx2_not a4 a5 58 h4 h5 (.inr rfl)), cu_cons 58 _ _ (hx2_not a6 a7 58 h6 h7 (.inr rfl)), cu_cons 58 _ _ (hx2_not a8 a9 58 h8 h9 (.inr rfl)), cu_cons 58 _ _ (hx2_not a10 a11 58 h10 h11 (.inr rfl)), cu_cons 58 _ _ (hx2_not a12 a13 58 h12 h13 (.inr rfl)), cu_one 58 _ (hx2_not a14 a15 58 h14 h15 (.inr rfl))]
      simp only [List.map_cons, List.map_nil]
      rw [q16_hx a0 a1 h0 h1, q16_hx a2 a3 h2 h3, q16_hx a4 a5 h4 h5, q16_hx a6 a7 h6 h7, q16_hx a8 a9 h8 h9, q16_hx a10 a11 h10 h11, q16_hx a12 a13 h12 h13, q16_hx a14 a15 h14 h15]
    · rw [fv_eq]
      have hb := val_bound (ic [a0, a1, a2, a3, a4, a5, a6, a7, a8, a9, a10, a11, a12, a13, a14, a15]) (fun z hz => by
        obtain ⟨y, hy, rfl⟩ := List.mem_map.1 hz
        have := hp y hy
        omega)
      have e3 : (256 : Int) ^ (ic [a0, a1, a2, a3, a4, a5, a6, a7, a8, a9, a10, a11, a12, a13, a14, a15]).length = 340282366920938463463374607431768211456 := by
        show (256 : Int) ^ 16 = _
        decide
      rw [e3] at hb
      have e4 : ([a0 * 256 + a1, a2 * 256 + a3, a4 * 256 + a5, a6 * 256 + a7, a8 * 256 + a9, a10 * 256 + a11, a12 * 256 + a13, a14 * 256 + a15] : List Nat).foldl (fun (A : Int) (v : Nat) => A * 65536 + (v : Int)) 0 = val (ic [a0, a1, a2, a3, a4, a5, a6, a7, a8, a9, a10, a11, a12, a13, a14, a15]) := by
        simp only [val, ic, List.map_cons, List.map_nil, List.foldl_cons, List.foldl_nil]
        omega
      rw [e4, Int.emod_eq_of_lt hb.1 hb.2]
end Go.Proofs.YtmgoabedickooaaGreatDoor
