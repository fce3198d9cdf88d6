import Derived.Test.YtcbmgpmjnehjdaaGreatP4
namespace Go.Proofs.YtcbmgpmjnehjdaaGreat
set_option maxRecDepth 100000
open Go.RowKit
set_option linter.unusedVariables false

theorem mod_two_step (A : Int) (m k : Nat) : A / 2 ^ m % 2 ^ (k + 1) = 2 * (A / 2 ^ (m + 1) % 2 ^ k) + A / 2 ^ m % 2 := by
  have e : A / 2 ^ (m + 1) = A / 2 ^ m / 2 := by rw [Int.pow_succ, Int.ediv_ediv_of_nonneg (Int.le_of_lt (pow_pos2 m))]
  rw [e]
  generalize A / 2 ^ m = y
  have hp := pow_pos2 k
  have h1 := Int.mul_ediv_add_emod y 2
  have h2 := Int.mul_ediv_add_emod (y / 2) (2 ^ k)
  have r0 := Int.emod_nonneg (y / 2) (show (2 : Int) ^ k ≠ 0 by omega)
  have r1 := Int.emod_lt_of_pos (y / 2) hp
  rw [Int.pow_succ]
  generalize (2 : Int) ^ k = p at *
  generalize y / 2 / p = u at *
  generalize y / 2 % p = v at *
  have e2 : y = (2 * v + y % 2) + (p * 2) * u := by
    have : p * 2 * u = 2 * (p * u) := by rw [Int.mul_comm p 2, Int.mul_assoc]
    omega
  have b : 0 ≤ 2 * v + y % 2 ∧ 2 * v + y % 2 < p * 2 := by omega
  conv => lhs; rw [e2]
  rw [Int.add_mul_emod_self_left, Int.emod_eq_of_lt b.1 b.2]
theorem be_at {n q : Nat} (A : Int) (hn : n = 32 ∨ n = 128) (hq : q < n / 8) : (be (n / 8) A).getD q 0 = A / 2 ^ (n - 8 * q - 8) % 2 ^ 8 := by
  have e : ∀ (k : Nat) (x : Int) (j : Nat), j < k → (be k x).getD j 0 = x / 256 ^ (k - 1 - j) % 256 := by
    intro k
    induction k with
    | zero => intro x j h; omega
    | succ k ih =>
      intro x j hj
      rw [be]
      cases j with
      | zero => simp
      | succ j => rw [List.getD_cons_succ, ih x j (by omega), show k + 1 - 1 - (j + 1) = k - 1 - j from by omega]
  rw [e _ _ _ hq]
  have : (256 : Int) ^ (n / 8 - 1 - q) = 2 ^ (n - 8 * q - 8) := by
    rw [show (256 : Int) = 2 ^ 8 from rfl, ← Int.pow_mul, show 8 * (n / 8 - 1 - q) = n - 8 * q - 8 from by omega]
  rw [this]
  rfl
theorem Am.at' {w w' : World} {g : Nat} {F H L : Int} (h : Am w g F H L) (e : w'.heap[g]? = w.heap[g]?) : Am w' g F H L := h.at e
theorem own_le7 {w : World} {B B' e s n : Nat} {v : Value} {xs : List Value} (h : w.ownsRow B e s v n xs) (hB : B' ≤ B) : w.ownsRow B' e s v n xs := by
  obtain ⟨h1, h2⟩ := h
  refine ⟨h1, ?_⟩
  rcases h2 with h2 | ⟨g, cap, cur, e1, hb, r⟩
  · exact .inl h2
  · exact .inr ⟨g, cap, cur, e1, Nat.le_trans hB hb, r⟩
theorem own_bel7 {w w' : World} {B e s n : Nat} {v : Value} {xs : List Value} (h : w.ownsRow B e s v n xs) (hb : Below w.heap.size w w') : w'.ownsRow B e s v n xs := by
  obtain ⟨h1, h2⟩ := h
  refine ⟨h1, ?_⟩
  rcases h2 with h2 | ⟨g, cap, cur, e1, hB, hg, r⟩
  · exact .inl h2
  · exact .inr ⟨g, cap, cur, e1, hB, by rw [hb.block g (Array.getElem?_eq_some_iff.1 hg).1]; exact hg, r⟩
set_option maxHeartbeats 2000000 in
theorem refPutAddr_ (F H L : Int) (w : World) (hH : InU H) (hL : InU L) :
    Calls Tryz.prog 144 #[.agg #[.int .i64 F, .int .u64 H, .int .u64 L]] w fun e w' => ∃ v, e = .returned v ∧ w'.ownsRow w.heap.size 5 1 v (pa F H L).length (cells (pa F H L)) ∧ Below w.heap.size w w' := by
  obtain ⟨i5, hi, hz0, hz1, hz2⟩ := info_parts info5
  have B0 := anew w F H L
  have m0 := Am.new w F H L
  have k1 := fun w => refValidAddr_ F H L w hL
  have k2 := fun w => refBits_ F w
  go_enter Tryz.func144, Tryz.ntmps144
  go_wp2_with fail
  refine (k1 _).mono ?_
  rintro e w1 ⟨rfl, g2⟩
  replace m0 := m0.kept g2
  replace B0 := bel_bel B0 B0.size g2
  clear g2 k1
  cases hv : va F H L with
  | false =>
    go_wp2_with fail
    go_ret
    have e : pa F H L = [] := by unfold pa; rw [hv]; rfl
    rw [e]
    exact ⟨_, rfl, World.ownsRow_nil _ _ _ _, B0⟩
  | true =>
    have HE : Hid (pa F H L = be (nb F / 8) (ad H L)) := by show _ = _; unfold pa; rw [hv]; rfl
    obtain ⟨hn, hA⟩ := va_in hv hH hL
    have k3 := fun i hi w => refBit_ F H L i w hL hH hn hi
    have HT := hid (fun q hq => be_at (n := nb F) (q := q) (ad H L) hn hq)
    have HTL : Hid ((be (nb F / 8) (ad H L)).length = nb F / 8) := be_length _ _
    have HBT : Hid (∀ i, bt (nb F) (ad H L) i = decide (ad H L / 2 ^ (nb F - 1 - i) % 2 = 1)) := fun _ => rfl
    have hn8 : nb F % 8 = 0 := by omega
    have hn128 := nb_le F
    clear hn hv
    generalize nb F = n at *
    generalize ad H L = A at *
    generalize be (n / 8) A = T at *
    go_wp2_with fail
    go_loopw [4, 5] (fun v i wr => ∃ q : Nat, 8 * q ≤ n ∧ i = .int .i64 ((8 * q : Nat) : Int) ∧ wr.ownsRow (w.heap.size + 1) 5 1 v q (cells (T.take q)) ∧ Am wr w.heap.size F H L ∧ Below w.heap.size w wr) (fun _ i _ => n - (intOf i).toNat)
    case atStart => exact ⟨0, by omega, rfl, World.ownsRow_nil _ _ _ _, m0, B0⟩
    case round =>
      clear m0 B0
      obtain ⟨q, hq, rfl, hown, m0, B0⟩ := hrel
      have c0 := m0.c0
      go_wp2_with fail
      refine (k2 _).mono ?_
      rintro e wq ⟨rfl, rfl⟩
      by_cases hlt : 8 * q < n
      · have d1 : decide (8 * q < n) = true := decide_eq_true hlt
        have d2 : decide (8 * (q : Int) < (n : Int)) = true := decide_eq_true (by omega)
        have HLT := hid hlt
        clear c0 hlt
        obtain ⟨wo, rfl⟩ : ∃ wo, wo = wq := ⟨_, rfl⟩
        go_wp2_with fail
        go_loopw [6, 7] (fun x i wr => ∃ k : Nat, k ≤ 8 ∧ i = .int .i64 k ∧ x = .int .i64 (A / 2 ^ (n - 8 * q - k) % 2 ^ k) ∧ Am wr w.heap.size F H L ∧ Below wo.heap.size wo wr) (fun _ i _ => 8 - (intOf i).toNat)
        case atStart => exact ⟨0, by omega, rfl, by rw [show (2 : Int) ^ 0 = 1 from rfl, Int.emod_one], m0, Below.refl _ _⟩
        case round =>
          have hlt := HLT.out
          obtain ⟨k, hk, rfl, rfl, m1, B1⟩ := hrel
          have hk2 : (0 : Int) ≤ A / 2 ^ (n - 8 * q - k) % 2 ^ k ∧ A / 2 ^ (n - 8 * q - k) % 2 ^ k < 256 := by
            have hp := pow_pos2 k
            have h1 := Int.emod_nonneg (A / 2 ^ (n - 8 * q - k)) (show (2 : Int) ^ k ≠ 0 by omega)
            have h2 := Int.emod_lt_of_pos (A / 2 ^ (n - 8 * q - k)) hp
            have h3 : (2 : Int) ^ k ≤ 256 := by
              have : k = 0 ∨ k = 1 ∨ k = 2 ∨ k = 3 ∨ k = 4 ∨ k = 5 ∨ k = 6 ∨ k = 7 ∨ k = 8 := by omega
              rcases this with rfl | rfl | rfl | rfl | rfl | rfl | rfl | rfl | rfl <;> decide
            omega
          by_cases hlk : k < 8
          · have hIk : (k : Int) < 8 := by omega
            have HS := hid (mod_two_step A (n - 8 * q - (k + 1)) k)
            have hbt := HBT.out (8 * q + k)
            rw [show n - 1 - (8 * q + k) = n - 8 * q - (k + 1) from by omega] at hbt
            rw [show n - 8 * q - (k + 1) + 1 = n - 8 * q - k from by omega] at HS
            have k4 := k3 (8 * q + k) (by omega)
            rw [hbt] at k4
            have k5 : ∀ w, Calls Tryz.prog 142 #[.agg #[.int .i64 F, .int .u64 H, .int .u64 L], .int .i64 (8 * (q : Int) + (k : Int))] w fun e w' => e = .returned (.bool (decide (A / 2 ^ (n - 8 * q - (k + 1)) % 2 = 1))) ∧ Below w.heap.size w w' := fun w => by
              have := k4 w
              rwa [show ((8 * q + k : Nat) : Int) = 8 * (q : Int) + (k : Int) from by omega] at this
            clear k4 hbt
            have hq01 : A / 2 ^ (n - 8 * q - (k + 1)) % 2 = 0 ∨ A / 2 ^ (n - 8 * q - (k + 1)) % 2 = 1 := by omega
            obtain ⟨X, HX⟩ : ∃ X, Hid (A / 2 ^ (n - 8 * q - k) % 2 ^ k = X) := ⟨_, rfl⟩
            rw [HX.out] at hk2 HS ⊢
            obtain ⟨Y, HY⟩ : ∃ Y, Hid (A / 2 ^ (n - 8 * q - (k + 1)) % 2 = Y) := ⟨_, rfl⟩
            simp only [HY.out] at k5
            rw [HY.out] at hq01 HS
            have c0 := m1.c0
            have c1 := m1.c1
            have c2 := m1.c2
            go_wp2_with fail
            refine (k5 _).mono ?_
            rintro e w5 ⟨rfl, g2⟩
            replace m1 := m1.kept g2
            replace B1 := bel_bel B1 B1.size g2
            clear g2 c0 c1 c2 k5
            rcases hq01 with rfl | rfl
            · have d : decide ((0 : Int) = 1) = false := by decide
              rw [d]
              clear d
              go_wp2_with fail
              go_roundw
              case rel => exact ⟨k + 1, by omega, by go_num, by rw [HS.out]; congr 1; omega, m1, B1⟩
              case measure => simp [intOf]; omega
            · have d : decide ((1 : Int) = 1) = true := by decide
              rw [d]
              clear d
              go_wp2_with fail
              go_roundw
              case rel => exact ⟨k + 1, by omega, by go_num, by rw [HS.out], m1, B1⟩
              case measure => simp [intOf]; omega
          · have hIk : ¬ (k : Int) < 8 := by omega
            obtain rfl : k = 8 := by omega
            have HV := hid (HT.out q (by omega))
            rw [show n - 8 * q - 8 = n - 8 * q - 8 from rfl] at HV
            have HSS : Hid (cells (T.take q) ++ [.int .u8 (A / 2 ^ (n - 8 * q - 8) % 2 ^ 8)] = cells (T.take (q + 1))) := by
              show _ = _
              rw [← HV.out]
              exact cells_take_succ T q (by rw [HTL.out]; omega)
            obtain ⟨X, HX⟩ : ∃ X, Hid (A / 2 ^ (n - 8 * q - 8) % 2 ^ 8 = X) := ⟨_, hid rfl⟩
            rw [HX.out] at hk2 HSS ⊢
            have hown1 := own_bel7 hown B1
            have HO := hid hown1
            have B2 := bel_bel B0 B0.size B1
            have hs2 := B2.size
            have hml := m1.lt
            clear hown
            go_wp2_with (at_builtin; refine wpList_append_own _ rfl _ _ 52 rfl (w.heap.size + 1) 5 i5 (.int .u8 0) 1 1 Tryz.underlying52 hi hz0 hz1 hz2 rfl (by decide) _ _ _ rfl (hown1.alloc _) ⟨wr.heap.size, 0, none⟩ 1 1 [.int .u8 X] rfl rfl ?c1 ?c2 ?c3 ?c4 ?c5 ?_)
            case c2 => rfl
            case c3 => unfold maxLen; omega
            case c4 => omega
            intro v' w6 hown' hgrow _
            have hown2 : w6.ownsRow (w.heap.size + 1) 5 1 v' (q + 1) (cells (T.take (q + 1))) := by rw [← HSS.out]; exact hown'
            have B3 : Below w.heap.size w w6 := (B2.alloc (by omega) _).grown hgrow (by simp; omega) fun p hp => by have := (HO.out.lt p hp).1; omega
            have m2 : Am w6 w.heap.size F H L := (m1.alloc (.cells #[.int .u8 X] 5)).at (hgrow.block _ (by simp; omega) (fun e => by have := (HO.out.lt w.heap.size e.symm).1; omega))
            clear hown' hgrow HO HSS m1 B1 B2 hown1
            go_wp2_with fail
            go_roundw
            case rel => exact ⟨q + 1, by omega, by congr 1, hown2, m2, B3⟩
            case measure => simp [intOf]; omega
      · have hI : ¬ ((8 * q : Nat) : Int) < (n : Int) := by omega
        have d1 : decide (8 * q < n) = false := decide_eq_false hlt
        have d2 : decide (8 * (q : Int) < (n : Int)) = false := decide_eq_false (by omega)
        rw [show q = n / 8 from by omega, List.take_of_length_le (by rw [HTL.out]; exact Nat.le_refl _)] at hown
        clear c0 hlt
        go_wp2_with fail
        go_ret
        exact ⟨_, rfl, by rw [HE.out, HTL.out]; exact own_le7 hown (Nat.le_succ _), B0⟩
end Go.Proofs.YtcbmgpmjnehjdaaGreat
namespace Go.Proofs.YtcbmgpmjnehjdaaGreat
set_option maxRecDepth 100000
open Go.RowKit
set_option linter.unusedVariables false

/-- Are the two one? -/
def sa (F H L F' H' L' : Int) : Bool := decide (F = F' ∧ H = H' ∧ L = L')
def spx (F H L B F' H' L' B' : Int) : Bool := decide ((F = F' ∧ H = H' ∧ L = L') ∧ B = B')
theorem aanew (w : World) (F H L F' H' L' : Int) : Below w.heap.size w ((w.alloc (.cells #[.int .i64 F, .int .u64 H, .int .u64 L] 119)).alloc (.cells #[.int .i64 F', .int .u64 H', .int .u64 L'] 119)) := (anew w F H L).alloc (by simp) _
set_option maxHeartbeats 400000 in
theorem sameAddr_ (F H L F' H' L' : Int) (w : World) :
    Calls Tryz.prog 146 #[.agg #[.int .i64 F, .int .u64 H, .int .u64 L], .agg #[.int .i64 F', .int .u64 H', .int .u64 L']] w fun e w' => e = .returned (.bool (sa F H L F' H' L')) ∧ Below w.heap.size w w' := by
  go_enter Tryz.func146, Tryz.ntmps146
  go_wp2_with fail
  all_goals
    go_ret
    refine ⟨ret_bool ?_, aanew w _ _ _ _ _ _⟩
    unfold sa
    first
      | exact (decide_eq_true (by simp_all)).symm
      | exact (decide_eq_false (by simp_all)).symm
      | exact decide_eq_decide.2 (by simp_all)
      | (rw [Bool.beq_eq_decide_eq]; exact decide_eq_decide.2 (by simp_all))
set_option maxHeartbeats 400000 in
theorem samePrefix_ (F H L B F' H' L' B' : Int) (w : World) :
    Calls Tryz.prog 113 #[.agg #[.int .i64 F, .int .u64 H, .int .u64 L, .int .i64 B], .agg #[.int .i64 F', .int .u64 H', .int .u64 L', .int .i64 B']] w fun e w' => e = .returned (.bool (spx F H L B F' H' L' B')) ∧ Below w.heap.size w w' := by
  obtain ⟨B0, m0, m1⟩ := ppnew w F H L B F' H' L' B'
  have k1 := fun w => sameAddr_ F H L F' H' L' w
  have HS : Hid (spx F H L B F' H' L' B' = (sa F H L F' H' L' && decide (B = B'))) := by
    show _ = _
    unfold spx sa
    rw [Bool.decide_and]
  go_enter Tryz.func113, Tryz.ntmps113
  go_wp2_with fail
  refine (k1 _).mono ?_
  rintro e w1 ⟨rfl, g2⟩
  replace m0 := m0.kept g2
  replace m1 := m1.kept g2
  replace B0 := bel_bel B0 B0.size g2
  clear g2 k1
  have c3 := m0.c3
  have d3 := m1.c3
  cases hs : sa F H L F' H' L' with
  | false =>
    go_wp2_with fail
    go_ret
    exact ⟨ret_bool (by rw [HS.out, hs]; rfl), B0⟩
  | true =>
    have HSS := hid hs
    clear hs
    go_wp2_with fail
    go_ret
    exact ⟨ret_bool (by rw [HS.out, HSS.out, Bool.true_and, Bool.beq_eq_decide_eq]), B0⟩
theorem own_two (w : World) (a b : Int) : (w.alloc (.cells #[.int .u8 a, .int .u8 b] 5)).ownsRow w.heap.size 5 1 (.slice (some ⟨w.heap.size, 0, none⟩) 2 2) 2 (cells [a, b]) :=
  ⟨rfl, .inr ⟨w.heap.size, 2, _, rfl, Nat.le_refl _, heap_alloc_new w _, Nat.le_refl _, by unfold maxLen; omega, rfl, rfl⟩⟩
theorem cells_len7 (l : List Int) : (cells l).length = l.length := by simp [cells]
theorem cells_one7 (l : List Int) : ∀ v ∈ cells l, v.oneCell' = true := by
  intro v hv
  obtain ⟨z, _, rfl⟩ := List.mem_map.1 hv
  rfl
theorem head_src {w : World} {g cap : Nat} {L : List Int} (h : Head w g cap L) (j : Nat) (v : Value) (hv : (cells L)[j]? = some v) : w.cell? ((⟨g, 0, none⟩ : Addr).add j) = some v := by
  have hj : j < L.length := by
    have := (List.getElem?_eq_some_iff.1 hv).1
    rwa [cells_len7] at this
  rw [Addr.add_lit, Nat.zero_add, h.cell j hj, ← hv]
  simp [cells, List.getD, hj]
set_option maxHeartbeats 1000000 in
theorem rf7Put_ (F H L B : Int) (w : World) (hH : InU H) (hL : InU L) (hB : InI B) :
    Calls Tryz.prog 110 #[.agg #[.int .i64 F, .int .u64 H, .int .u64 L, .int .i64 B]] w fun e w' => ∃ v, e = .returned v ∧ w'.ownsRow w.heap.size 5 1 v (pp F H L B).length (cells (pp F H L B)) ∧ Below w.heap.size w w' := by
  obtain ⟨i5, hi, hz0, hz1, hz2⟩ := info_parts info5
  have B0 := pnew w F H L B
  have m0 := Pm.new w F H L B
  have k1 := fun w => rf7Valid_ F H L B w hH hL hB
  have k2 := fun w => refPutAddr_ F H L w hH hL
  have c0 := m0.c0
  have c1 := m0.c1
  have c2 := m0.c2
  have c3 := m0.c3
  go_enter Tryz.func110, Tryz.ntmps110
  go_wp2_with fail
  clear c0 c1 c2 c3
  refine (k1 _).mono ?_
  rintro e w1 ⟨rfl, g2⟩
  replace m0 := m0.kept g2
  replace B0 := bel_bel B0 B0.size g2
  clear g2 k1
  cases hv : vp F H L B with
  | false =>
    go_wp2_with fail
    go_ret
    have e : pp F H L B = [] := by unfold pp; rw [hv]; rfl
    rw [e]
    exact ⟨_, rfl, World.ownsRow_nil _ _ _ _, B0⟩
  | true =>
    have HE : Hid (pp F H L B = F :: B :: pa F H L) := by show _ = _; unfold pp; rw [hv]; rfl
    obtain ⟨h1, h2, h3, _⟩ := vp_in hv
    have hn128 := nb_le F
    have hF := of_decide_eq_true (show decide _ = true from h1)
    have hF2 : 0 ≤ F ∧ F ≤ 255 := by omega
    have hB2 : 0 ≤ B ∧ B ≤ 255 := by omega
    have hPL : (pa F H L).length = nb F / 8 := by rw [pa_length, h1]; rfl
    obtain ⟨hn, _⟩ := va_in h1 hH hL
    have hP0 : 0 < (pa F H L).length ∧ (pa F H L).length ≤ 16 := by omega
    clear hF h1 h2 h3 hn hn128 hPL hv hB
    generalize pa F H L = P at *
    have c0 := m0.c0
    have c1 := m0.c1
    have c2 := m0.c2
    have c3 := m0.c3
    go_wp2_with fail
    clear c0 c1 c2 c3
    refine (k2 _).mono ?_
    rintro e w2 ⟨v, rfl, ho', g2⟩
    obtain ⟨ga, ca, rfl, _, _, hgb, hh, _⟩ := own_head ho' hP0.1
    replace m0 := m0.kept g2
    replace B0 := bel_bel B0 B0.size g2
    clear g2 ho' k2
    have c0 := m0.c0
    have c3 := m0.c3
    have hso := own_two w2 F B
    have hhl := hh.lt
    have hs := B0.size
    have HH := hid (hh.below ((Below.refl _ _).alloc (Nat.le_refl _) (.cells #[.int .u8 F, .int .u8 B] 5)))
    have HB0 := hid B0
    go_wp2_with (at_builtin; refine wpList_append_own _ rfl _ _ 52 rfl w2.heap.size 5 i5 (.int .u8 0) 1 1 Tryz.underlying52 hi hz0 hz1 hz2 rfl (by decide) _ _ _ rfl hso ⟨ga, 0, none⟩ P.length ca (cells P) rfl (by rw [cells_len7, Nat.mul_one]) (fun j u hj => head_src HH.out j u hj) (cells_one7 P) ?c3 ?c4 ?c5 ?_)
    case c3 => unfold maxLen; omega
    case c4 => omega
    case c5 => simp
    intro v' w3 hown hgrow _
    have e : cells [F, B] ++ cells P = cells (F :: B :: P) := by simp [cells]
    rw [e] at hown
    have B3 : Below w.heap.size w w3 := (HB0.out.alloc HB0.out.size _).grown hgrow (by simp; omega) fun p hp => by
      simp [Value.ownBlock] at hp
      omega
    clear hgrow hso HH
    go_wp2_with fail
    go_ret
    exact ⟨_, rfl, by rw [HE.out, show (F :: B :: P).length = 2 + P.length from by simp; omega]; exact own_le7 hown (by omega), B3⟩
end Go.Proofs.YtcbmgpmjnehjdaaGreat
namespace Go.Proofs.YtcbmgpmjnehjdaaGreat
set_option maxRecDepth 100000
open Go.RowKit
set_option linter.unusedVariables false

theorem val_take7 (l : List Int) (j : Nat) (h : j < l.length) : val (l.take (j + 1)) = val (l.take j) * 256 + l.getD j 0 := by
  rw [List.take_succ_eq_append_getElem h, val_snoc]
  simp [List.getD, h]
theorem setCell_other7 (w : World) (g i j : Nat) (v : Value) (h : j ≠ g) : (w.setCell ⟨g, i, none⟩ v).heap[j]? = w.heap[j]? := by
  simp [World.setCell, Array.getElem?_modify, Ne.symm h]
section
variable {w w' : World} {g : Nat} {F H L B : Int}
theorem Am.s0 (h : Am w g F H L) (x : Int) : Am (w.setCell ⟨g, 0, none⟩ (.int .i64 x)) g x H L := by
  unfold Am at *
  simp [World.setCell, Array.getElem?_modify, h]
theorem Am.s1 (h : Am w g F H L) (x : Int) : Am (w.setCell ⟨g, 1, none⟩ (.int .u64 x)) g F x L := by
  unfold Am at *
  simp [World.setCell, Array.getElem?_modify, h]
theorem Am.s2 (h : Am w g F H L) (x : Int) : Am (w.setCell ⟨g, 2, none⟩ (.int .u64 x)) g F H x := by
  unfold Am at *
  simp [World.setCell, Array.getElem?_modify, h]
theorem Am.fz (h : Am w g F H L) (i : Nat) : w.frozen? ⟨g, i, none⟩ = false := by unfold Am at h; simp [World.frozen?, h]
end
theorem sizea : (Tryz.prog.info? 119).map (·.size) = some 3 := by kernel_rfl
theorem Am.row {w : World} {g : Nat} {F H L : Int} (h : Am w g F H L) (F' H' L' : Int) : Am (w.setRow g #[.int .i64 F', .int .u64 H', .int .u64 L']) g F' H' L' := setRow_heap w g _ _ _ _ h
theorem wpList_sa {ops : Array Oper} {rest : List Oper} {o : Oper} {a : Act} {w : World} {Q : Exit → Act → World → Prop} (hgd : o.guard = none) (hdst : o.dst = none) (x y : Operand) (ho : o.op = .store 119 x y)
    (g : Nat) (F H L : Int) (hx : a.eval x = .pointer (some ⟨g, 0, none⟩)) (hy : a.eval y = .agg #[.int .i64 F, .int .u64 H, .int .u64 L]) (F0 H0 L0 : Int) (hg : Am w g F0 H0 L0)
    (h : wpList Tryz.prog ops Q rest a (w.setRow g #[.int .i64 F, .int .u64 H, .int .u64 L])) : wpList Tryz.prog ops Q (o :: rest) a w := by
  refine wpList_store_row hgd _ x y ho g #[.int .i64 F, .int .u64 H, .int .u64 L] hx hy _ _ hg sizea rfl (by simp [Value.oneCell']) ?_
  rw [hdst]
  exact h
theorem results_a {fn : Func} {p : Tmp} (h : fn.results = #[.cell p 119]) (tmps : Array Value) (w : World) (g : Nat) (F H L : Int)
    (hp : tmps.getD p undef = .pointer (some ⟨g, 0, none⟩)) (hg : Am w g F H L) : (results fn tmps).run Tryz.prog w = .ok (.agg #[.int .i64 F, .int .u64 H, .int .u64 L]) w :=
  results_cell_row h tmps w g 119 #[.int .i64 F, .int .u64 H, .int .u64 L] (0, 0) _ hp hg Tryz.underlying119 rfl sizea
theorem getD_byte7 {zs : List Int} (h : ∀ z ∈ zs, 0 ≤ z ∧ z ≤ 255) (i : Nat) : 0 ≤ zs.getD i 0 ∧ zs.getD i 0 ≤ 255 := getD_byte6 h i
theorem pow256_15 (j : Nat) (h : j ≤ 15) : (256 : Int) ^ j ≤ 1329227995784915872903807060280344576 := by
  have : j = 0 ∨ j = 1 ∨ j = 2 ∨ j = 3 ∨ j = 4 ∨ j = 5 ∨ j = 6 ∨ j = 7 ∨ j = 8 ∨ j = 9 ∨ j = 10 ∨ j = 11 ∨ j = 12 ∨ j = 13 ∨ j = 14 ∨ j = 15 := by omega
  rcases this with rfl | rfl | rfl | rfl | rfl | rfl | rfl | rfl | rfl | rfl | rfl | rfl | rfl | rfl | rfl | rfl <;> decide
/-- The address that these bytes are. -/
def af (m : Nat) : Int := if m = 4 then 4 else 6
def ah (l : List Int) : Int := val l / 18446744073709551616
def al (l : List Int) : Int := val l % 18446744073709551616
set_option maxHeartbeats 1000000 in
theorem refAddr_ (b off m c : Nat) (zs : List Int) (w : World) (hl : zs.length = m) (hm : m = 4 ∨ m = 16) (hby : ∀ z ∈ zs, 0 ≤ z ∧ z ≤ 255) (hc : ∀ i, i < m → w.cell? ⟨b, off + i, none⟩ = some (.int .u8 (zs.getD i 0))) :
    Calls Tryz.prog 106 #[.slice (some ⟨b, off, none⟩) m c] w fun e w' => e = .returned (.agg #[.int .i64 (af m), .int .u64 (ah zs), .int .u64 (al zs)]) ∧ Below w.heap.size w w' := by
  have HC := hid hc
  have HB := hid hby
  have HL := hid hl
  have HLB : Hid (b < w.heap.size) := World.block_lt_of_cell? w _ (hc 0 (by omega))
  clear hc hby hl
  rcases hm with rfl | rfl
  · have B0 := aanew w 0 0 0 4 0 0
    have m0 := (Am.new w 0 0 0).alloc (.cells #[.int .i64 4, .int .u64 0, .int .u64 0] 119)
    have m1 := Am.new (w.alloc (.cells #[.int .i64 0, .int .u64 0, .int .u64 0] 119)) 4 0 0
    rw [World.size_alloc] at m1
    go_enter Tryz.func106, Tryz.ntmps106
    go_wp2_with fail
    generalize (w.alloc (.cells #[.int .i64 0, .int .u64 0, .int .u64 0] 119)).alloc (.cells #[.int .i64 4, .int .u64 0, .int .u64 0] 119) = w1 at *
    go_loopw [4] (fun i wr => ∃ j : Nat, j ≤ 4 ∧ i = .int .i64 j ∧ Am wr w.heap.size 0 0 0 ∧ Am wr (w.heap.size + 1) 4 (ah (zs.take j)) (al (zs.take j)) ∧ Below w.heap.size w wr) (fun i _ => 4 - (intOf i).toNat)
    case atStart => exact ⟨0, by omega, rfl, m0, m1, B0⟩
    case round =>
      clear m0 m1 B0
      obtain ⟨j, hj, rfl, m0, m1, B0⟩ := hrel
      by_cases hlt : j < 4
      · have hI : (j : Int) < 4 := by omega
        have cb := (B0.cell HLB.out).trans (HC.out j hlt)
        have HCB := hid (HC.out j hlt)
        have HV := hid (val_take7 zs j (by rw [HL.out]; exact hlt))
        have hV := val_bound (zs.take j) (fun z hz => HB.out z (List.mem_of_mem_take hz))
        have hlen : (zs.take j).length = j := by rw [List.length_take, HL.out]; omega
        rw [hlen] at hV
        have hp := pow256_15 j (by omega)
        have hy := getD_byte7 HB.out j
        have HU : Hid (ah (zs.take (j + 1)) = ah (zs.take j) * 256 + al (zs.take j) / 72057594037927936 ∧ al (zs.take (j + 1)) = al (zs.take j) % 72057594037927936 * 256 + zs.getD j 0) := by
          show _ ∧ _
          unfold ah al
          rw [HV.out]
          generalize val (zs.take j) = V at *
          generalize zs.getD j 0 = y at *
          omega
        have hh : 0 ≤ ah (zs.take j) ∧ ah (zs.take j) < 72057594037927936 := by
          unfold ah
          generalize val (zs.take j) = V at *
          omega
        have hl : 0 ≤ al (zs.take j) ∧ al (zs.take j) ≤ 18446744073709551615 := by
          unfold al
          generalize val (zs.take j) = V at *
          omega
        clear hV hp hlen HV
        obtain ⟨X, HX⟩ : ∃ X, Hid (ah (zs.take j) = X) := ⟨_, rfl⟩
        obtain ⟨Y, HY⟩ : ∃ Y, Hid (al (zs.take j) = Y) := ⟨_, rfl⟩
        rw [HX.out] at hh
        rw [HY.out] at hl
        rw [HX.out, HY.out] at m1 HU
        generalize zs.getD j 0 = y at *
        obtain ⟨Z, HZ⟩ : ∃ Z, Hid (Y / 72057594037927936 = Z) := ⟨_, rfl⟩
        have hZ : 0 ≤ Z ∧ Z ≤ 255 := by have := HZ.out; omega
        have ho1 := or8 X Z hh.1 hh.2 hZ.1 hZ.2
        obtain ⟨Q, HQ⟩ : ∃ Q, Hid (Y % 72057594037927936 = Q) := ⟨_, rfl⟩
        have hQ : 0 ≤ Q ∧ Q < 72057594037927936 := by have := HQ.out; omega
        have ho2 := or8 Q y hQ.1 hQ.2 hy.1 hy.2
        have hw1 : Y * 256 % 18446744073709551616 = Q * 256 := by have := HQ.out; omega
        have HW : Hid (bits BinOp.or .u64 (IntKind.u64.wrap (Y * 256)) y = Q * 256 + y) := by show _ = _; rw [IntKind.wrap_u64, hw1, ho2]
        clear hw1 ho2
        have e56 : (2 : Int) ^ 56 = 72057594037927936 := by decide
        have hz1 : Y / 2 ^ 56 = Z := by rw [e56]; exact HZ.out
        clear e56
        have hz2 := HZ.out
        rw [HZ.out, HQ.out] at HU
        have c1 := m1.c1
        have c2 := m1.c2
        have f1 := m1.fz 1
        have f2 := m1.fz 2
        go_wp2_with fail
        clear c1 c2 f1 f2 cb ho1
        replace m0 := m0.at (setCell_other7 wr (w.heap.size + 1) 1 w.heap.size (.int .u64 (X * 256 + Z)) (by omega))
        replace m1 := m1.s1 (X * 256 + Z)
        replace B0 := B0.setCell (p := ⟨w.heap.size + 1, 1, none⟩) (Nat.le_succ _) (.int .u64 (X * 256 + Z))
        generalize wr.setCell ⟨w.heap.size + 1, 1, none⟩ (.int .u64 (X * 256 + Z)) = w2 at *
        have c2 := m1.c2
        have f2 := m1.fz 2
        have cb := (B0.cell HLB.out).trans HCB.out
        have m2 : Am w2.drew w.heap.size 0 0 0 := m0
        have m3 : Am w2.drew (w.heap.size + 1) 4 (X * 256 + Z) Y := m1
        replace m2 := m2.at (setCell_other7 w2.drew (w.heap.size + 1) 2 w.heap.size (.int .u64 (Q * 256 + y)) (by omega))
        replace m3 := m3.s2 (Q * 256 + y)
        have B3 := (bel_drew1 B0).setCell (p := ⟨w.heap.size + 1, 2, none⟩) (Nat.le_succ _) (.int .u64 (Q * 256 + y))
        clear m0 m1 B0
        go_wp2_with fail
        go_region
        go_wp2_with fail
        go_roundw
        case rel => exact ⟨j + 1, by omega, by go_num, by rw [HW.out]; exact m2, by rw [HW.out, HU.out.1, HU.out.2]; exact m3, by rw [HW.out]; exact B3⟩
        case measure => simp [intOf]; omega
      · have hI : ¬ (j : Int) < 4 := by omega
        obtain rfl : j = 4 := by omega
        rw [List.take_of_length_le (by rw [HL.out]; exact Nat.le_refl _)] at m1
        have c0 := m1.c0
        have c1 := m1.c1
        have c2 := m1.c2
        go_wp2_with (refine wpList_sa rfl rfl _ _ rfl w.heap.size 4 (ah zs) (al zs) rfl rfl 0 0 0 (by with_reducible exact m0) ?_)
        refine bodyPost_ret (results_a rfl _ _ w.heap.size 4 (ah zs) (al zs) rfl (m0.row _ _ _)) rfl ⟨rfl, bel_row B0 (Nat.le_refl _) _⟩
  · have B0 := aanew w 0 0 0 6 0 0
    have m0 := (Am.new w 0 0 0).alloc (.cells #[.int .i64 6, .int .u64 0, .int .u64 0] 119)
    have m1 := Am.new (w.alloc (.cells #[.int .i64 0, .int .u64 0, .int .u64 0] 119)) 6 0 0
    rw [World.size_alloc] at m1
    go_enter Tryz.func106, Tryz.ntmps106
    go_wp2_with fail
    generalize (w.alloc (.cells #[.int .i64 0, .int .u64 0, .int .u64 0] 119)).alloc (.cells #[.int .i64 6, .int .u64 0, .int .u64 0] 119) = w1 at *
    go_loopw [4] (fun i wr => ∃ j : Nat, j ≤ 16 ∧ i = .int .i64 j ∧ Am wr w.heap.size 0 0 0 ∧ Am wr (w.heap.size + 1) 6 (ah (zs.take j)) (al (zs.take j)) ∧ Below w.heap.size w wr) (fun i _ => 16 - (intOf i).toNat)
    case atStart => exact ⟨0, by omega, rfl, m0, m1, B0⟩
    case round =>
      clear m0 m1 B0
      obtain ⟨j, hj, rfl, m0, m1, B0⟩ := hrel
      by_cases hlt : j < 16
      · have hI : (j : Int) < 16 := by omega
        have cb := (B0.cell HLB.out).trans (HC.out j hlt)
        have HCB := hid (HC.out j hlt)
        have HV := hid (val_take7 zs j (by rw [HL.out]; exact hlt))
        have hV := val_bound (zs.take j) (fun z hz => HB.out z (List.mem_of_mem_take hz))
        have hlen : (zs.take j).length = j := by rw [List.length_take, HL.out]; omega
        rw [hlen] at hV
        have hp := pow256_15 j (by omega)
        have hy := getD_byte7 HB.out j
        have HU : Hid (ah (zs.take (j + 1)) = ah (zs.take j) * 256 + al (zs.take j) / 72057594037927936 ∧ al (zs.take (j + 1)) = al (zs.take j) % 72057594037927936 * 256 + zs.getD j 0) := by
          show _ ∧ _
          unfold ah al
          rw [HV.out]
          generalize val (zs.take j) = V at *
          generalize zs.getD j 0 = y at *
          omega
        have hh : 0 ≤ ah (zs.take j) ∧ ah (zs.take j) < 72057594037927936 := by
          unfold ah
          generalize val (zs.take j) = V at *
          omega
        have hl : 0 ≤ al (zs.take j) ∧ al (zs.take j) ≤ 18446744073709551615 := by
          unfold al
          generalize val (zs.take j) = V at *
          omega
        clear hV hp hlen HV
        obtain ⟨X, HX⟩ : ∃ X, Hid (ah (zs.take j) = X) := ⟨_, rfl⟩
        obtain ⟨Y, HY⟩ : ∃ Y, Hid (al (zs.take j) = Y) := ⟨_, rfl⟩
        rw [HX.out] at hh
        rw [HY.out] at hl
        rw [HX.out, HY.out] at m1 HU
        generalize zs.getD j 0 = y at *
        obtain ⟨Z, HZ⟩ : ∃ Z, Hid (Y / 72057594037927936 = Z) := ⟨_, rfl⟩
        have hZ : 0 ≤ Z ∧ Z ≤ 255 := by have := HZ.out; omega
        have ho1 := or8 X Z hh.1 hh.2 hZ.1 hZ.2
        obtain ⟨Q, HQ⟩ : ∃ Q, Hid (Y % 72057594037927936 = Q) := ⟨_, rfl⟩
        have hQ : 0 ≤ Q ∧ Q < 72057594037927936 := by have := HQ.out; omega
        have ho2 := or8 Q y hQ.1 hQ.2 hy.1 hy.2
        have hw1 : Y * 256 % 18446744073709551616 = Q * 256 := by have := HQ.out; omega
        have HW : Hid (bits BinOp.or .u64 (IntKind.u64.wrap (Y * 256)) y = Q * 256 + y) := by show _ = _; rw [IntKind.wrap_u64, hw1, ho2]
        clear hw1 ho2
        have e56 : (2 : Int) ^ 56 = 72057594037927936 := by decide
        have hz1 : Y / 2 ^ 56 = Z := by rw [e56]; exact HZ.out
        clear e56
        have hz2 := HZ.out
        rw [HZ.out, HQ.out] at HU
        have c1 := m1.c1
        have c2 := m1.c2
        have f1 := m1.fz 1
        have f2 := m1.fz 2
        go_wp2_with fail
        clear c1 c2 f1 f2 cb ho1
        replace m0 := m0.at (setCell_other7 wr (w.heap.size + 1) 1 w.heap.size (.int .u64 (X * 256 + Z)) (by omega))
        replace m1 := m1.s1 (X * 256 + Z)
        replace B0 := B0.setCell (p := ⟨w.heap.size + 1, 1, none⟩) (Nat.le_succ _) (.int .u64 (X * 256 + Z))
        generalize wr.setCell ⟨w.heap.size + 1, 1, none⟩ (.int .u64 (X * 256 + Z)) = w2 at *
        have c2 := m1.c2
        have f2 := m1.fz 2
        have cb := (B0.cell HLB.out).trans HCB.out
        have m2 : Am w2.drew w.heap.size 0 0 0 := m0
        have m3 : Am w2.drew (w.heap.size + 1) 6 (X * 256 + Z) Y := m1
        replace m2 := m2.at (setCell_other7 w2.drew (w.heap.size + 1) 2 w.heap.size (.int .u64 (Q * 256 + y)) (by omega))
        replace m3 := m3.s2 (Q * 256 + y)
        have B3 := (bel_drew1 B0).setCell (p := ⟨w.heap.size + 1, 2, none⟩) (Nat.le_succ _) (.int .u64 (Q * 256 + y))
        clear m0 m1 B0
        go_wp2_with fail
        go_region
        go_wp2_with fail
        go_roundw
        case rel => exact ⟨j + 1, by omega, by go_num, by rw [HW.out]; exact m2, by rw [HW.out, HU.out.1, HU.out.2]; exact m3, by rw [HW.out]; exact B3⟩
        case measure => simp [intOf]; omega
      · have hI : ¬ (j : Int) < 16 := by omega
        obtain rfl : j = 16 := by omega
        rw [List.take_of_length_le (by rw [HL.out]; exact Nat.le_refl _)] at m1
        have c0 := m1.c0
        have c1 := m1.c1
        have c2 := m1.c2
        go_wp2_with (refine wpList_sa rfl rfl _ _ rfl w.heap.size 6 (ah zs) (al zs) rfl rfl 0 0 0 (by with_reducible exact m0) ?_)
        refine bodyPost_ret (results_a rfl _ _ w.heap.size 6 (ah zs) (al zs) rfl (m0.row _ _ _)) rfl ⟨rfl, bel_row B0 (Nat.le_refl _) _⟩
end Go.Proofs.YtcbmgpmjnehjdaaGreat
