import Derived.Test.YtmgoabedickooaaGreatDoorP5
namespace Go.Proofs.YtmgoabedickooaaGreatDoor
set_option maxRecDepth 100000
open Go.RowKit
set_option linter.unusedVariables false

/-- Are the two one? -/
def sa (F H L F' H' L' : Int) : Bool := decide (F = F' ∧ H = H' ∧ L = L')
def spx (F H L B F' H' L' B' : Int) : Bool := decide ((F = F' ∧ H = H' ∧ L = L') ∧ B = B')
theorem aanew (w : World) (F H L F' H' L' : Int) : Below w.heap.size w ((w.alloc (.cells #[.int .i64 F, .int .u64 H, .int .u64 L] 48)).alloc (.cells #[.int .i64 F', .int .u64 H', .int .u64 L'] 48)) := (anew w F H L).alloc (by simp) _
set_option maxHeartbeats 400000 in
theorem sameAddr_ (F H L F' H' L' : Int) (w : World) :
    Calls Tryz.prog 30 #[.agg #[.int .i64 F, .int .u64 H, .int .u64 L], .agg #[.int .i64 F', .int .u64 H', .int .u64 L']] w fun e w' => e = .returned (.bool (sa F H L F' H' L')) ∧ Below w.heap.size w w' := by
  go_enter Tryz.func30, Tryz.ntmps30
  go_wp2_with fail
  all_goals
    go_ret
    refine ⟨ret_bool ?_, aanew w _ _ _ _ _ _⟩
    unfold sa
    first
      | exact (decide_eq_true (by simp_all)).symm
      | exact (decide_eq_false (by simp_all)).symm
      | exact decide_eq_decide.2 (by simp_all)
      | (rw [Bool.beq_eq_decide_eq]; exact decide_eq_decide.2 (by simp_all))
set_option maxHeartbeats 400000 in
theorem samePrefix_ (F H L B F' H' L' B' : Int) (w : World) :
    Calls Tryz.prog 10 #[.agg #[.int .i64 F, .int .u64 H, .int .u64 L, .int .i64 B], .agg #[.int .i64 F', .int .u64 H', .int .u64 L', .int .i64 B']] w fun e w' => e = .returned (.bool (spx F H L B F' H' L' B')) ∧ Below w.heap.size w w' := by
  obtain ⟨B0, m0, m1⟩ := ppnew w F H L B F' H' L' B'
  have k1 := fun w => sameAddr_ F H L F' H' L' w
  have HS : Hid (spx F H L B F' H' L' B' = (sa F H L F' H' L' && decide (B = B'))) := by
    show _ = _
    unfold spx sa
    rw [Bool.decide_and]
  go_enter Tryz.func10, Tryz.ntmps10
  go_wp2_with fail
  refine (k1 _).mono ?_
  rintro e w1 ⟨rfl, g2⟩
  replace m0 := m0.kept g2
  replace m1 := m1.kept g2
  replace B0 := bel_bel B0 B0.size g2
  clear g2 k1
  have c3 := m0.c3
  have d3 := m1.c3
  cases hs : sa F H L F' H' L' with
  | false =>
    go_wp2_with fail
    go_ret
    exact ⟨ret_bool (by rw [HS.out, hs]; rfl), B0⟩
  | true =>
    have HSS := hid hs
    clear hs
    go_wp2_with fail
    go_ret
    exact ⟨ret_bool (by rw [HS.out, HSS.out, Bool.true_and, Bool.beq_eq_decide_eq]), B0⟩
theorem own_two (w : World) (a b : Int) : (w.alloc (.cells #[.int .u8 a, .int .u8 b] 5)).ownsRow w.heap.size 5 1 (.slice (some ⟨w.heap.size, 0, none⟩) 2 2) 2 (cells [a, b]) :=
  ⟨rfl, .inr ⟨w.heap.size, 2, _, rfl, Nat.le_refl _, heap_alloc_new w _, Nat.le_refl _, by unfold maxLen; omega, rfl, rfl⟩⟩
theorem cells_len7 (l : List Int) : (cells l).length = l.length := by simp [cells]
theorem cells_one7 (l : List Int) : ∀ v ∈ cells l, v.oneCell' = true := by
  intro v hv
  obtain ⟨z, _, rfl⟩ := List.mem_map.1 hv
  rfl
theorem head_src {w : World} {g cap : Nat} {L : List Int} (h : Head w g cap L) (j : Nat) (v : Value) (hv : (cells L)[j]? = some v) : w.cell? ((⟨g, 0, none⟩ : Addr).add j) = some v := by
  have hj : j < L.length := by
    have := (List.getElem?_eq_some_iff.1 hv).1
    rwa [cells_len7] at this
  rw [Addr.add_lit, Nat.zero_add, h.cell j hj, ← hv]
  simp [cells, List.getD, hj]
set_option maxHeartbeats 1000000 in
theorem refPut_ (F H L B : Int) (w : World) (hH : InU H) (hL : InU L) (hB : InI B) :
    Calls Tryz.prog 7 #[.agg #[.int .i64 F, .int .u64 H, .int .u64 L, .int .i64 B]] w fun e w' => ∃ v, e = .returned v ∧ w'.ownsRow w.heap.size 5 1 v (pp F H L B).length (cells (pp F H L B)) ∧ Below w.heap.size w w' := by
  obtain ⟨i5, hi, hz0, hz1, hz2⟩ := info_parts info5
  have B0 := pnew w F H L B
  have m0 := Pm.new w F H L B
  have k1 := fun w => refValid_ F H L B w hH hL hB
  have k2 := fun w => refPutAddr_ F H L w hH hL
  have c0 := m0.c0
  have c1 := m0.c1
  have c2 := m0.c2
  have c3 := m0.c3
  go_enter Tryz.func7, Tryz.ntmps7
  go_wp2_with fail
  clear c0 c1 c2 c3
  refine (k1 _).mono ?_
  rintro e w1 ⟨rfl, g2⟩
  replace m0 := m0.kept g2
  replace B0 := bel_bel B0 B0.size g2
  clear g2 k1
  cases hv : vp F H L B with
  | false =>
    go_wp2_with fail
    go_ret
    have e : pp F H L B = [] := by unfold pp; rw [hv]; rfl
    rw [e]
    exact ⟨_, rfl, World.ownsRow_nil _ _ _ _, B0⟩
  | true =>
    have HE : Hid (pp F H L B = F :: B :: pa F H L) := by show _ = _; unfold pp; rw [hv]; rfl
    obtain ⟨h1, h2, h3, _⟩ := vp_in hv
    have hn128 := nb_le F
    have hF := of_decide_eq_true (show decide _ = true from h1)
    have hF2 : 0 ≤ F ∧ F ≤ 255 := by omega
    have hB2 : 0 ≤ B ∧ B ≤ 255 := by omega
    have hPL : (pa F H L).length = nb F / 8 := by rw [pa_length, h1]; rfl
    obtain ⟨hn, _⟩ := va_in h1 hH hL
    have hP0 : 0 < (pa F H L).length ∧ (pa F H L).length ≤ 16 := by omega
    clear hF h1 h2 h3 hn hn128 hPL hv hB
    generalize pa F H L = P at *
    have c0 := m0.c0
    have c1 := m0.c1
    have c2 := m0.c2
    have c3 := m0.c3
    go_wp2_with fail
    clear c0 c1 c2 c3
    refine (k2 _).mono ?_
    rintro e w2 ⟨v, rfl, ho', g2⟩
    obtain ⟨ga, ca, rfl, _, _, hgb, hh, _⟩ := own_head ho' hP0.1
    replace m0 := m0.kept g2
    replace B0 := bel_bel B0 B0.size g2
    clear g2 ho' k2
    have c0 := m0.c0
    have c3 := m0.c3
    have hso := own_two w2 F B
    have hhl := hh.lt
    have hs := B0.size
    have HH := hid (hh.below ((Below.refl _ _).alloc (Nat.le_refl _) (.cells #[.int .u8 F, .int .u8 B] 5)))
    have HB0 := hid B0
    go_wp2_with (at_builtin; refine wpList_append_own _ rfl _ _ 44 rfl w2.heap.size 5 i5 (.int .u8 0) 1 1 Tryz.underlying44 hi hz0 hz1 hz2 rfl (by decide) _ _ _ rfl hso ⟨ga, 0, none⟩ P.length ca (cells P) rfl (by rw [cells_len7, Nat.mul_one]) (fun j u hj => head_src HH.out j u hj) (cells_one7 P) ?c3 ?c4 ?c5 ?_)
    case c3 => unfold maxLen; omega
    case c4 => omega
    case c5 => simp
    intro v' w3 hown hgrow _
    have e : cells [F, B] ++ cells P = cells (F :: B :: P) := by simp [cells]
    rw [e] at hown
    have B3 : Below w.heap.size w w3 := (HB0.out.alloc HB0.out.size _).grown hgrow (by simp; omega) fun p hp => by
      simp [Value.ownBlock] at hp
      omega
    clear hgrow hso HH
    go_wp2_with fail
    go_ret
    exact ⟨_, rfl, by rw [HE.out, show (F :: B :: P).length = 2 + P.length from by simp; omega]; exact own_le7 hown (by omega), B3⟩
end Go.Proofs.YtmgoabedickooaaGreatDoor
