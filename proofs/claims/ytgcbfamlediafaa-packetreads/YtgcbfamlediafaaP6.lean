import Derived.Test.YtgcbfamlediafaaP4
namespace Go.Proofs.Ytgcbfamlediafaa
set_option maxRecDepth 100000
open Go.RowKit
set_option linter.unusedVariables false

theorem mod_two_step (A : Int) (m k : Nat) : A / 2 ^ m % 2 ^ (k + 1) = 2 * (A / 2 ^ (m + 1) % 2 ^ k) + A / 2 ^ m % 2 := by
  have e : A / 2 ^ (m + 1) = A / 2 ^ m / 2 := by rw [Int.pow_succ, Int.ediv_ediv_of_nonneg (Int.le_of_lt (pow_pos2 m))]
  rw [e]
  generalize A / 2 ^ m = y
  have hp := pow_pos2 k
  have h1 := Int.mul_ediv_add_emod y 2
  have h2 := Int.mul_ediv_add_emod (y / 2) (2 ^ k)
  have r0 := Int.emod_nonneg (y / 2) (show (2 : Int) ^ k ≠ 0 by omega)
  have r1 := Int.emod_lt_of_pos (y / 2) hp
  rw [Int.pow_succ]
  generalize (2 : Int) ^ k = p at *
  generalize y / 2 / p = u at *
  generalize y / 2 % p = v at *
  have e2 : y = (2 * v + y % 2) + (p * 2) * u := by
    have : p * 2 * u = 2 * (p * u) := by rw [Int.mul_comm p 2, Int.mul_assoc]
    omega
  have b : 0 ≤ 2 * v + y % 2 ∧ 2 * v + y % 2 < p * 2 := by omega
  conv => lhs; rw [e2]
  rw [Int.add_mul_emod_self_left, Int.emod_eq_of_lt b.1 b.2]
theorem be_at {n q : Nat} (A : Int) (hn : n = 32 ∨ n = 128) (hq : q < n / 8) : (be (n / 8) A).getD q 0 = A / 2 ^ (n - 8 * q - 8) % 2 ^ 8 := by
  have e : ∀ (k : Nat) (x : Int) (j : Nat), j < k → (be k x).getD j 0 = x / 256 ^ (k - 1 - j) % 256 := by
    intro k
    induction k with
    | zero => intro x j h; omega
    | succ k ih =>
      intro x j hj
      rw [be]
      cases j with
      | zero => simp
      | succ j => rw [List.getD_cons_succ, ih x j (by omega), show k + 1 - 1 - (j + 1) = k - 1 - j from by omega]
  rw [e _ _ _ hq]
  have : (256 : Int) ^ (n / 8 - 1 - q) = 2 ^ (n - 8 * q - 8) := by
    rw [show (256 : Int) = 2 ^ 8 from rfl, ← Int.pow_mul, show 8 * (n / 8 - 1 - q) = n - 8 * q - 8 from by omega]
  rw [this]
  rfl
theorem Am.at' {w w' : World} {g : Nat} {F H L : Int} (h : Am w g F H L) (e : w'.heap[g]? = w.heap[g]?) : Am w' g F H L := h.at e
theorem own_le7 {w : World} {B B' e s n : Nat} {v : Value} {xs : List Value} (h : w.ownsRow B e s v n xs) (hB : B' ≤ B) : w.ownsRow B' e s v n xs := by
  obtain ⟨h1, h2⟩ := h
  refine ⟨h1, ?_⟩
  rcases h2 with h2 | ⟨g, cap, cur, e1, hb, r⟩
  · exact .inl h2
  · exact .inr ⟨g, cap, cur, e1, Nat.le_trans hB hb, r⟩
theorem own_bel7 {w w' : World} {B e s n : Nat} {v : Value} {xs : List Value} (h : w.ownsRow B e s v n xs) (hb : Below w.heap.size w w') : w'.ownsRow B e s v n xs := by
  obtain ⟨h1, h2⟩ := h
  refine ⟨h1, ?_⟩
  rcases h2 with h2 | ⟨g, cap, cur, e1, hB, hg, r⟩
  · exact .inl h2
  · exact .inr ⟨g, cap, cur, e1, hB, by rw [hb.block g (Array.getElem?_eq_some_iff.1 hg).1]; exact hg, r⟩
set_option maxHeartbeats 2000000 in
theorem refPutAddr_ (F H L : Int) (w : World) (hH : InU H) (hL : InU L) :
    Calls Try.prog 47 #[.agg #[.int .i64 F, .int .u64 H, .int .u64 L]] w fun e w' => ∃ v, e = .returned v ∧ w'.ownsRow w.heap.size 5 1 v (pa F H L).length (cells (pa F H L)) ∧ Below w.heap.size w w' := by
  obtain ⟨i5, hi, hz0, hz1, hz2⟩ := info_parts info5
  have B0 := anew w F H L
  have m0 := Am.new w F H L
  have k1 := fun w => refValidAddr_ F H L w hL
  have k2 := fun w => refBits_ F w
  go_enter Try.func47, Try.ntmps47
  go_wp2_with fail
  refine (k1 _).mono ?_
  rintro e w1 ⟨rfl, g2⟩
  replace m0 := m0.kept g2
  replace B0 := bel_bel B0 B0.size g2
  clear g2 k1
  cases hv : va F H L with
  | false =>
    go_wp2_with fail
    go_ret
    have e : pa F H L = [] := by unfold pa; rw [hv]; rfl
    rw [e]
    exact ⟨_, rfl, World.ownsRow_nil _ _ _ _, B0⟩
  | true =>
    have HE : Hid (pa F H L = be (nb F / 8) (ad H L)) := by show _ = _; unfold pa; rw [hv]; rfl
    obtain ⟨hn, hA⟩ := va_in hv hH hL
    have k3 := fun i hi w => refBit_ F H L i w hL hH hn hi
    have HT := hid (fun q hq => be_at (n := nb F) (q := q) (ad H L) hn hq)
    have HTL : Hid ((be (nb F / 8) (ad H L)).length = nb F / 8) := be_length _ _
    have HBT : Hid (∀ i, bt (nb F) (ad H L) i = decide (ad H L / 2 ^ (nb F - 1 - i) % 2 = 1)) := fun _ => rfl
    have hn8 : nb F % 8 = 0 := by omega
    have hn128 := nb_le F
    clear hn hv
    generalize nb F = n at *
    generalize ad H L = A at *
    generalize be (n / 8) A = T at *
    go_wp2_with fail
    go_loopw [4, 5] (fun v i wr => ∃ q : Nat, 8 * q ≤ n ∧ i = .int .i64 ((8 * q : Nat) : Int) ∧ wr.ownsRow (w.heap.size + 1) 5 1 v q (cells (T.take q)) ∧ Am wr w.heap.size F H L ∧ Below w.heap.size w wr) (fun _ i _ => n - (intOf i).toNat)
    case atStart => exact ⟨0, by omega, rfl, World.ownsRow_nil _ _ _ _, m0, B0⟩
    case round =>
      clear m0 B0
      obtain ⟨q, hq, rfl, hown, m0, B0⟩ := hrel
      have c0 := m0.c0
      go_wp2_with fail
      refine (k2 _).mono ?_
      rintro e wq ⟨rfl, rfl⟩
      by_cases hlt : 8 * q < n
      · have d1 : decide (8 * q < n) = true := decide_eq_true hlt
        have d2 : decide (8 * (q : Int) < (n : Int)) = true := decide_eq_true (by omega)
        have HLT := hid hlt
        clear c0 hlt
        obtain ⟨wo, rfl⟩ : ∃ wo, wo = wq := ⟨_, rfl⟩
        go_wp2_with fail
        go_loopw [6, 7] (fun x i wr => ∃ k : Nat, k ≤ 8 ∧ i = .int .i64 k ∧ x = .int .i64 (A / 2 ^ (n - 8 * q - k) % 2 ^ k) ∧ Am wr w.heap.size F H L ∧ Below wo.heap.size wo wr) (fun _ i _ => 8 - (intOf i).toNat)
        case atStart => exact ⟨0, by omega, rfl, by rw [show (2 : Int) ^ 0 = 1 from rfl, Int.emod_one], m0, Below.refl _ _⟩
        case round =>
          have hlt := HLT.out
          obtain ⟨k, hk, rfl, rfl, m1, B1⟩ := hrel
          have hk2 : (0 : Int) ≤ A / 2 ^ (n - 8 * q - k) % 2 ^ k ∧ A / 2 ^ (n - 8 * q - k) % 2 ^ k < 256 := by
            have hp := pow_pos2 k
            have h1 := Int.emod_nonneg (A / 2 ^ (n - 8 * q - k)) (show (2 : Int) ^ k ≠ 0 by omega)
            have h2 := Int.emod_lt_of_pos (A / 2 ^ (n - 8 * q - k)) hp
            have h3 : (2 : Int) ^ k ≤ 256 := by
              have : k = 0 ∨ k = 1 ∨ k = 2 ∨ k = 3 ∨ k = 4 ∨ k = 5 ∨ k = 6 ∨ k = 7 ∨ k = 8 := by omega
              rcases this with rfl | rfl | rfl | rfl | rfl | rfl | rfl | rfl | rfl <;> decide
            omega
          by_cases hlk : k < 8
          · have hIk : (k : Int) < 8 := by omega
            have HS := hid (mod_two_step A (n - 8 * q - (k + 1)) k)
            have hbt := HBT.out (8 * q + k)
            rw [show n - 1 - (8 * q + k) = n - 8 * q - (k + 1) from by omega] at hbt
            rw [show n - 8 * q - (k + 1) + 1 = n - 8 * q - k from by omega] at HS
            have k4 := k3 (8 * q + k) (by omega)
            rw [hbt] at k4
            have k5 : ∀ w, Calls Try.prog 68 #[.agg #[.int .i64 F, .int .u64 H, .int .u64 L], .int .i64 (8 * (q : Int) + (k : Int))] w fun e w' => e = .returned (.bool (decide (A / 2 ^ (n - 8 * q - (k + 1)) % 2 = 1))) ∧ Below w.heap.size w w' := fun w => by
              have := k4 w
              rwa [show ((8 * q + k : Nat) : Int) = 8 * (q : Int) + (k : Int) from by omega] at this
            clear k4 hbt
            have hq01 : A / 2 ^ (n - 8 * q - (k + 1)) % 2 = 0 ∨ A / 2 ^ (n - 8 * q - (k + 1)) % 2 = 1 := by omega
            obtain ⟨X, HX⟩ : ∃ X, Hid (A / 2 ^ (n - 8 * q - k) % 2 ^ k = X) := ⟨_, rfl⟩
            rw [HX.out] at hk2 HS ⊢
            obtain ⟨Y, HY⟩ : ∃ Y, Hid (A / 2 ^ (n - 8 * q - (k + 1)) % 2 = Y) := ⟨_, rfl⟩
            simp only [HY.out] at k5
            rw [HY.out] at hq01 HS
            have c0 := m1.c0
            have c1 := m1.c1
            have c2 := m1.c2
            go_wp2_with fail
            refine (k5 _).mono ?_
            rintro e w5 ⟨rfl, g2⟩
            replace m1 := m1.kept g2
            replace B1 := bel_bel B1 B1.size g2
            clear g2 c0 c1 c2 k5
            rcases hq01 with rfl | rfl
            · have d : decide ((0 : Int) = 1) = false := by decide
              rw [d]
              clear d
              go_wp2_with fail
              go_roundw
              case rel => exact ⟨k + 1, by omega, by go_num, by rw [HS.out]; congr 1; omega, m1, B1⟩
              case measure => simp [intOf]; omega
            · have d : decide ((1 : Int) = 1) = true := by decide
              rw [d]
              clear d
              go_wp2_with fail
              go_roundw
              case rel => exact ⟨k + 1, by omega, by go_num, by rw [HS.out], m1, B1⟩
              case measure => simp [intOf]; omega
          · have hIk : ¬ (k : Int) < 8 := by omega
            obtain rfl : k = 8 := by omega
            have HV := hid (HT.out q (by omega))
            rw [show n - 8 * q - 8 = n - 8 * q - 8 from rfl] at HV
            have HSS : Hid (cells (T.take q) ++ [.int .u8 (A / 2 ^ (n - 8 * q - 8) % 2 ^ 8)] = cells (T.take (q + 1))) := by
              show _ = _
              rw [← HV.out]
              exact cells_take_succ T q (by rw [HTL.out]; omega)
            obtain ⟨X, HX⟩ : ∃ X, Hid (A / 2 ^ (n - 8 * q - 8) % 2 ^ 8 = X) := ⟨_, hid rfl⟩
            rw [HX.out] at hk2 HSS ⊢
            have hown1 := own_bel7 hown B1
            have HO := hid hown1
            have B2 := bel_bel B0 B0.size B1
            have hs2 := B2.size
            have hml := m1.lt
            clear hown
            go_wp2_with (at_builtin; refine wpList_append_own _ rfl _ _ 25 rfl (w.heap.size + 1) 5 i5 (.int .u8 0) 1 1 Try.underlying25 hi hz0 hz1 hz2 rfl (by decide) _ _ _ rfl (hown1.alloc _) ⟨wr.heap.size, 0, none⟩ 1 1 [.int .u8 X] rfl rfl ?c1 ?c2 ?c3 ?c4 ?c5 ?_)
            case c2 => rfl
            case c3 => unfold maxLen; omega
            case c4 => omega
            intro v' w6 hown' hgrow _
            have hown2 : w6.ownsRow (w.heap.size + 1) 5 1 v' (q + 1) (cells (T.take (q + 1))) := by rw [← HSS.out]; exact hown'
            have B3 : Below w.heap.size w w6 := (B2.alloc (by omega) _).grown hgrow (by simp; omega) fun p hp => by have := (HO.out.lt p hp).1; omega
            have m2 : Am w6 w.heap.size F H L := (m1.alloc (.cells #[.int .u8 X] 5)).at (hgrow.block _ (by simp; omega) (fun e => by have := (HO.out.lt w.heap.size e.symm).1; omega))
            clear hown' hgrow HO HSS m1 B1 B2 hown1
            go_wp2_with fail
            go_roundw
            case rel => exact ⟨q + 1, by omega, by congr 1, hown2, m2, B3⟩
            case measure => simp [intOf]; omega
      · have hI : ¬ ((8 * q : Nat) : Int) < (n : Int) := by omega
        have d1 : decide (8 * q < n) = false := decide_eq_false hlt
        have d2 : decide (8 * (q : Int) < (n : Int)) = false := decide_eq_false (by omega)
        rw [show q = n / 8 from by omega, List.take_of_length_le (by rw [HTL.out]; exact Nat.le_refl _)] at hown
        clear c0 hlt
        go_wp2_with fail
        go_ret
        exact ⟨_, rfl, by rw [HE.out, HTL.out]; exact own_le7 hown (Nat.le_succ _), B0⟩
end Go.Proofs.Ytgcbfamlediafaa
namespace Go.Proofs.Ytgcbfamlediafaa
set_option maxRecDepth 100000
open Go.RowKit
set_option linter.unusedVariables false

/-- Are the two one? -/
def sa (F H L F' H' L' : Int) : Bool := decide (F = F' ∧ H = H' ∧ L = L')
def spx (F H L B F' H' L' B' : Int) : Bool := decide ((F = F' ∧ H = H' ∧ L = L') ∧ B = B')
theorem aanew (w : World) (F H L F' H' L' : Int) : Below w.heap.size w ((w.alloc (.cells #[.int .i64 F, .int .u64 H, .int .u64 L] 52)).alloc (.cells #[.int .i64 F', .int .u64 H', .int .u64 L'] 52)) := (anew w F H L).alloc (by simp) _
set_option maxHeartbeats 400000 in
theorem sameAddr_ (F H L F' H' L' : Int) (w : World) :
    Calls Try.prog 53 #[.agg #[.int .i64 F, .int .u64 H, .int .u64 L], .agg #[.int .i64 F', .int .u64 H', .int .u64 L']] w fun e w' => e = .returned (.bool (sa F H L F' H' L')) ∧ Below w.heap.size w w' := by
  go_enter Try.func53, Try.ntmps53
  go_wp2_with fail
  all_goals
    go_ret
    refine ⟨ret_bool ?_, aanew w _ _ _ _ _ _⟩
    unfold sa
    first
      | exact (decide_eq_true (by simp_all)).symm
      | exact (decide_eq_false (by simp_all)).symm
      | exact decide_eq_decide.2 (by simp_all)
      | (rw [Bool.beq_eq_decide_eq]; exact decide_eq_decide.2 (by simp_all))
theorem own_two (w : World) (a b : Int) : (w.alloc (.cells #[.int .u8 a, .int .u8 b] 5)).ownsRow w.heap.size 5 1 (.slice (some ⟨w.heap.size, 0, none⟩) 2 2) 2 (cells [a, b]) :=
  ⟨rfl, .inr ⟨w.heap.size, 2, _, rfl, Nat.le_refl _, heap_alloc_new w _, Nat.le_refl _, by unfold maxLen; omega, rfl, rfl⟩⟩
theorem cells_len7 (l : List Int) : (cells l).length = l.length := by simp [cells]
theorem cells_one7 (l : List Int) : ∀ v ∈ cells l, v.oneCell' = true := by
  intro v hv
  obtain ⟨z, _, rfl⟩ := List.mem_map.1 hv
  rfl
theorem head_src {w : World} {g cap : Nat} {L : List Int} (h : Head w g cap L) (j : Nat) (v : Value) (hv : (cells L)[j]? = some v) : w.cell? ((⟨g, 0, none⟩ : Addr).add j) = some v := by
  have hj : j < L.length := by
    have := (List.getElem?_eq_some_iff.1 hv).1
    rwa [cells_len7] at this
  rw [Addr.add_lit, Nat.zero_add, h.cell j hj, ← hv]
  simp [cells, List.getD, hj]
end Go.Proofs.Ytgcbfamlediafaa
