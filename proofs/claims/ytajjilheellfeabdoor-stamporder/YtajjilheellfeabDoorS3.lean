import Derived.Test.YtajjilheellfeabDoorS2
namespace Go.Proofs.YtajjilheellfeabDoor
open Go.RowKit
set_option linter.unusedVariables false

theorem val_take (l : List Int) (j : Nat) (h : j < l.length) : val (l.take (j + 1)) = val (l.take j) * 256 + l.getD j 0 := by
  rw [List.take_succ_eq_append_getElem h, val_snoc]
  simp [List.getD, h]
theorem getD_byte6 {zs : List Int} (h : ∀ z ∈ zs, 0 ≤ z ∧ z ≤ 255) (i : Nat) : 0 ≤ zs.getD i 0 ∧ zs.getD i 0 ≤ 255 := by
  simp only [List.getD]
  cases e : zs[i]? with
  | none => simp
  | some z => exact h z (List.mem_of_getElem? e)
theorem val_up (l : List Int) (hb : ∀ z ∈ l, 0 ≤ z ∧ z ≤ 255) (k : Nat) : ∀ j, j ≤ k → val (l.take j) ≤ val (l.take k) := by
  induction k with
  | zero => intro j hj; rw [show j = 0 from by omega]; exact Int.le_refl _
  | succ k ih =>
    intro j hj
    by_cases e : j = k + 1
    · rw [e]; exact Int.le_refl _
    · have h1 := ih j (by omega)
      have h2 := (val_bound (l.take k) (fun z hz => hb z (List.mem_of_mem_take hz))).1
      by_cases hk : k < l.length
      · rw [val_take l k hk]
        have := getD_byte6 hb k
        omega
      · rw [List.take_of_length_le (show l.length ≤ k + 1 by omega)]
        rw [List.take_of_length_le (show l.length ≤ k by omega)] at h1
        exact h1
theorem gs_first (l : List Int) (hb : ∀ z ∈ l, 0 ≤ z ∧ z ≤ 255) (hl : l.length = 12) : gs l ≤ 9223372036854775807 ↔ l.getD 0 0 ≤ 127 := by
  match l, hl with
  | a :: r, hl =>
    have ha := hb a (by simp)
    have hr := val_bound (r.take 7) (fun z hz => hb z (by simp [List.mem_of_mem_take hz]))
    have e : gs (a :: r) = a * 256 ^ (r.take 7).length + val (r.take 7) := by
      unfold gs
      rw [List.take_succ_cons, val_cons]
    have hl7 : (r.take 7).length = 7 := by simp at hl; simp; omega
    rw [hl7] at e hr
    rw [e]
    show _ ↔ a ≤ 127
    have : (256 : Int) ^ 7 = 72057594037927936 := by decide
    omega
theorem ret_g {a b a' b' c c' : Int} (h1 : a = a') (h2 : b = b') (h3 : c = c') : Ending.returned (.tuple #[.agg #[.int .i64 a, .int .i64 b], .int .i64 c]) = .returned (.tuple #[.agg #[.int .i64 a', .int .i64 b'], .int .i64 c']) := by rw [h1, h2, h3]
def qs (l : List Int) : Int := if gok l then gs l else 0
def qn (l : List Int) : Int := if gok l then gn l else 0
def qe (l : List Int) : Int := if gok l then 0 else 60
theorem q_bad {l : List Int} (h : gok l = false) : 0 = qs l ∧ 0 = qn l ∧ 60 = qe l := by unfold qs qn qe; rw [h]; exact ⟨rfl, rfl, rfl⟩
theorem q_good {l : List Int} (h : gok l = true) : gs l = qs l ∧ gn l = qn l ∧ 0 = qe l := by unfold qs qn qe; rw [h]; exact ⟨rfl, rfl, rfl⟩
set_option maxHeartbeats 1000000 in
theorem refGet_ (a : Option Addr) (n c : Nat) (zs : List Int) (w : World) (hb : Bs w a n zs) (hn : n ≤ maxLen) :
    Calls Tryd.prog 21 #[.slice a n c] w fun e w' => e = .returned (.tuple #[.agg #[.int .i64 (qs zs), .int .i64 (qn zs)], .int .i64 (qe zs)]) ∧ Below w.heap.size w w' := by
  have B0 := snew1 w 0 0
  have m0 := Sm.new w 0 0
  unfold maxLen at hn
  by_cases h12 : n = 12
  · subst h12
    obtain ⟨hl, hby, hcs⟩ := hb
    obtain ⟨b, off, rfl, hc⟩ : ∃ b off, a = some ⟨b, off, none⟩ ∧ ∀ i, i < 12 → w.cell? ⟨b, off + i, none⟩ = some (.int .u8 (zs.getD i 0)) := by
      rcases hcs with h | h
      · omega
      · exact h
    have HC := hid hc
    have HLB : Hid (b < w.heap.size) := World.block_lt_of_cell? w _ (hc 0 (by omega))
    have z0 := (B0.cell HLB.out).trans (hc 0 (by omega))
    rw [Nat.add_zero] at z0
    have HB := hid hby
    have HL := hid hl
    clear hc hcs hl hby
    have HF := hid (gs_first zs HB.out HL.out)
    by_cases h1 : zs.getD 0 0 ≤ 127
    · have HG : Hid (gs zs ≤ 9223372036854775807) := HF.out.2 h1
      have h1' : ¬ (127 : Int) < zs.getD 0 0 := by omega
      have HU : Hid (∀ j, j ≤ 8 → val (zs.take j) ≤ 9223372036854775807) := fun j hj => Int.le_trans (val_up zs HB.out 8 j hj) HG.out
      generalize zs.getD 0 0 = y0 at *
      go_enter Tryd.func21, Tryd.ntmps21
      go_wp2_with fail
      clear z0 h1 h1'
      generalize w.alloc (.cells #[.int .i64 0, .int .i64 0] 23) = w1 at *
      go_loop [4, 5] (fun v i => ∃ j : Nat, j ≤ 8 ∧ i = .int .i64 j ∧ v = .int .i64 (val (zs.take j))) (fun _ i => 8 - (intOf i).toNat)
      case atStart => exact ⟨0, by omega, rfl, rfl⟩
      case round =>
        obtain ⟨j, hj, rfl, rfl⟩ := hrel
        by_cases hlt : j < 8
        · have hjI : (j : Int) < 8 := by omega
          have cc := (B0.cell HLB.out).trans (HC.out j (by omega))
          have HV := hid (val_take zs j (by rw [HL.out]; omega))
          have u1 := HU.out (j + 1) (by omega)
          have u0 := (val_bound (zs.take j) (fun z hz => HB.out z (List.mem_of_mem_take hz))).1
          have ub := getD_byte6 HB.out j
          rw [HV.out] at u1
          obtain ⟨V, HV2⟩ : ∃ V, Hid (val (zs.take j) = V) := ⟨_, rfl⟩
          rw [HV2.out] at u0 u1 ⊢
          generalize zs.getD j 0 = y at *
          go_wp2_with fail
          go_round
          case rel => exact ⟨j + 1, by omega, by go_num, by rw [HV.out, HV2.out]⟩
          case measure => simp [intOf]; omega
        · have hge : ¬ (j : Int) < 8 := by omega
          have e8 : val (zs.take j) = gs zs := by unfold gs; rw [show j = 8 from by omega]
          rw [e8]
          clear e8
          have HGV : Hid (0 ≤ gs zs) := (val_bound (zs.take 8) (fun z hz => HB.out z (List.mem_of_mem_take hz))).1
          obtain ⟨V, HV2⟩ : ∃ V, Hid (gs zs = V) := ⟨_, rfl⟩
          rw [HV2.out]
          have HBD : Hid (∀ z ∈ zs.drop 8, 0 ≤ z ∧ z ≤ 255) := fun z hz => HB.out z (List.mem_of_mem_drop hz)
          have HLD : Hid ((zs.drop 8).length = 4) := by show _ = _; rw [List.length_drop, HL.out]
          go_wp2_with fail
          go_loop [6, 7] (fun v i => ∃ m : Nat, m ≤ 4 ∧ i = .int .i64 ((8 : Int) + m) ∧ v = .int .i64 (val ((zs.drop 8).take m))) (fun _ i => 12 - (intOf i).toNat)
          case atStart => exact ⟨0, by omega, rfl, rfl⟩
          case round =>
            obtain ⟨m, hm, rfl, rfl⟩ := hrel
            by_cases hlt : m < 4
            · have hjI : (8 : Int) + (m : Int) < 12 := by omega
              have cc := (B0.cell HLB.out).trans (HC.out (8 + m) (by omega))
              rw [show zs.getD (8 + m) 0 = (zs.drop 8).getD m 0 from by simp only [List.getD, List.getElem?_drop]] at cc
              have HV := hid (val_take (zs.drop 8) m (by rw [HLD.out]; omega))
              have u0 := val_bound ((zs.drop 8).take m) (fun z hz => HBD.out z (List.mem_of_mem_take hz))
              have ul : ((zs.drop 8).take m).length = m := by rw [List.length_take, HLD.out]; omega
              rw [ul] at u0
              have up : (256 : Int) ^ m ≤ 16777216 := by
                have : m = 0 ∨ m = 1 ∨ m = 2 ∨ m = 3 := by omega
                rcases this with rfl | rfl | rfl | rfl <;> decide
              have ub := getD_byte6 HBD.out m
              obtain ⟨U, HU2⟩ : ∃ U, Hid (val ((zs.drop 8).take m) = U) := ⟨_, rfl⟩
              rw [HU2.out] at u0 ⊢
              have u1 : 0 ≤ U ∧ U < 16777216 := by omega
              generalize (zs.drop 8).getD m 0 = y at *
              clear u0 up ul
              go_wp2_with fail
              go_round
              case rel => exact ⟨m + 1, by omega, by go_num, by rw [HV.out, HU2.out]⟩
              case measure => simp [intOf]; omega
            · have hge : ¬ (8 : Int) + (m : Int) < 12 := by omega
              have e4 : val ((zs.drop 8).take m) = gn zs := by unfold gn; rw [List.take_of_length_le (by rw [HLD.out]; omega)]
              rw [e4]
              clear e4
              by_cases hbig : 999999999 < gn zs
              · have HE : Hid (gok zs = false) := decide_eq_false fun h => by have := h.2.2; omega
                obtain ⟨U, HU2⟩ : ∃ U, Hid (gn zs = U) := ⟨_, rfl⟩
                rw [HU2.out] at hbig ⊢
                go_wp2_with (refine wpList_sst rfl rfl _ _ rfl w.heap.size 0 0 rfl rfl 0 0 (by with_reducible exact m0) ?_)
                refine bodyPost_ret (v := .tuple #[.agg #[.int .i64 0, .int .i64 0], .int .i64 60]) ?_ rfl ⟨ret_g (q_bad HE.out).1 (q_bad HE.out).2.1 (q_bad HE.out).2.2, bel_row B0 (Nat.le_refl _) _⟩
                exact results_st rfl _ _ w.heap.size 0 0 _ rfl rfl (m0.row 0 0).c0 (m0.row 0 0).c1
              · have HE : Hid (gok zs = true) := decide_eq_true ⟨HL.out, HG.out, by omega⟩
                obtain ⟨U, HU2⟩ : ∃ U, Hid (gn zs = U) := ⟨_, rfl⟩
                rw [HU2.out] at hbig ⊢
                go_wp2_with (refine wpList_sst rfl rfl _ _ rfl w.heap.size V U rfl rfl 0 0 (by with_reducible exact m0) ?_)
                refine bodyPost_ret (v := .tuple #[.agg #[.int .i64 V, .int .i64 U], .int .i64 0]) ?_ rfl ⟨ret_g (HV2.out.symm.trans (q_good HE.out).1) (HU2.out.symm.trans (q_good HE.out).2.1) (q_good HE.out).2.2, bel_row B0 (Nat.le_refl _) _⟩
                exact results_st rfl _ _ w.heap.size V U _ rfl rfl (m0.row _ _).c0 (m0.row _ _).c1
    · have HE : Hid (gok zs = false) := decide_eq_false fun h => h1 (HF.out.1 h.2.1)
      have h1' : (127 : Int) < zs.getD 0 0 := by omega
      generalize zs.getD 0 0 = y0 at *
      go_enter Tryd.func21, Tryd.ntmps21
      go_wp2_with (refine wpList_sst rfl rfl _ _ rfl w.heap.size 0 0 rfl rfl 0 0 (by with_reducible exact m0) ?_)
      refine bodyPost_ret (v := .tuple #[.agg #[.int .i64 0, .int .i64 0], .int .i64 60]) ?_ rfl ⟨ret_g (q_bad HE.out).1 (q_bad HE.out).2.1 (q_bad HE.out).2.2, bel_row B0 (Nat.le_refl _) _⟩
      exact results_st rfl _ _ w.heap.size 0 0 _ rfl rfl (m0.row 0 0).c0 (m0.row 0 0).c1
  · have HE : Hid (gok zs = false) := decide_eq_false fun h => h12 (by rw [← hb.1]; exact h.1)
    have e1 : ((n : Int) != 12) = true := by simpa using fun h => h12 (by omega)
    clear h12
    go_enter Tryd.func21, Tryd.ntmps21
    go_wp2_with (refine wpList_sst rfl rfl _ _ rfl w.heap.size 0 0 rfl rfl 0 0 (by with_reducible exact m0) ?_)
    refine bodyPost_ret (v := .tuple #[.agg #[.int .i64 0, .int .i64 0], .int .i64 60]) ?_ rfl ⟨ret_g (q_bad HE.out).1 (q_bad HE.out).2.1 (q_bad HE.out).2.2, bel_row B0 (Nat.le_refl _) _⟩
    exact results_st rfl _ _ w.heap.size 0 0 _ rfl rfl (m0.row 0 0).c0 (m0.row 0 0).c1
end Go.Proofs.YtajjilheellfeabDoor
