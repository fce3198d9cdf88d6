import Derived.Test.YtmgoabedickooaaGreatDoorL12
namespace Go.Proofs.YtmgoabedickooaaGreatDoor
set_option maxRecDepth 100000
open Go.RowKit
set_option linter.unusedVariables false

theorem val_pa2 {F H L : Int} (hv : va F H L = true) (hH : InU H) (hL : InU L) : val (pa F H L) = ad H L := by
  obtain ⟨hn, hA⟩ := va_in hv hH hL
  unfold pa
  rw [hv, if_pos rfl, val_be]
  apply Int.emod_eq_of_lt hA.1
  rcases hn with h | h <;> rw [h] at hA ⊢ <;> exact hA.2
/-- What gathered answers of a text. -/
def Gd (l : List Nat) (F H L : Int) (ok : Bool) : Prop :=
  (ok = true ∧ InU H ∧ InU L ∧ ((F = 6 ∧ ix 58 l < l.length ∧ ∃ vs : List Nat, (cu 58 l).map q16 = vs.map some ∧ ad H L = fv 65536 vs) ∨ (F = 4 ∧ ¬ ix 58 l < l.length ∧ ∃ vs : List Nat, (cu 46 l).map q10 = vs.map some ∧ ad H L = fv 256 vs))) ∨
  (ok = false ∧ InU H ∧ InU L ∧ ((F = 6 ∧ ix 58 l < l.length ∧ ∃ x ∈ cu 58 l, q16 x = none) ∨ (F = 4 ∧ ¬ ix 58 l < l.length ∧ ∃ x ∈ cu 46 l, q10 x = none)))
theorem map_some_inj {vs us : List Nat} (h : vs.map some = us.map some) : vs = us := by
  induction vs generalizing us with
  | nil => cases us with
    | nil => rfl
    | cons u r => cases h
  | cons v r ih => cases us with
    | nil => cases h
    | cons u s =>
      rw [List.map_cons, List.map_cons] at h
      obtain ⟨h1, h2⟩ := List.cons.inj h
      rw [Option.some.inj h1, ih h2]
/-- An address's own text is gathered as that address. -/
theorem Gd.of_ta {F' H' L' : Int} (hv : va F' H' L' = true) (hH' : InU H') (hL' : InU L') {F H L : Int} {ok : Bool} (h : Gd (ta F' H' L') F H L ok) : ok = true ∧ F = F' ∧ H = H' ∧ L = L' := by
  have hF := of_decide_eq_true (show decide _ = true from hv)
  have hl : (pa F' H' L').length = nb F' / 8 := by rw [pa_length, hv]; rfl
  have hlt := nl_lt (pa_byte F' H' L')
  have hvv := val_pa2 hv hH' hL'
  have hic := ic_nl (pa_byte F' H' L')
  have noNone : ∀ (q : List Nat → Option Nat) (ls : List (List Nat)) (vs : List Nat), ls.map q = vs.map some → (∃ x ∈ ls, q x = none) → False := fun q ls vs h1 h2 => by
    obtain ⟨x, hx, hq⟩ := h2
    have : q x ∈ ls.map q := List.mem_map.2 ⟨x, hx, rfl⟩
    rw [h1, hq] at this
    obtain ⟨v, _, hv⟩ := List.mem_map.1 this
    cases hv
  rcases hF with rfl | ⟨rfl, _⟩
  · obtain ⟨g1, vs, g2, g3⟩ := gat16 (nl (pa 6 H' L')) hlt (by rw [nl_length]; exact hl)
    rw [hic, hvv] at g3
    have g1' : ix 58 (ta 6 H' L') < (ta 6 H' L').length := g1
    have g2' : (cu 58 (ta 6 H' L')).map q16 = vs.map some := g2
    rcases h with ⟨hok, iH, iL, h⟩ | ⟨hok, iH, iL, h⟩
    · rcases h with ⟨rfl, _, us, h2, h3⟩ | ⟨_, h1, _⟩
      · rw [g2'] at h2
        obtain rfl := map_some_inj h2
        rw [g3] at h3
        exact ⟨hok, rfl, ad_inj iL hL' h3⟩
      · exact absurd g1' h1
    · rcases h with ⟨rfl, _, h2⟩ | ⟨_, h1, _⟩
      · exact (noNone _ _ _ g2' h2).elim
      · exact absurd g1' h1
  · obtain ⟨g1, g2, g3⟩ := gat4 (nl (pa 4 H' L')) hlt (by rw [nl_length]; exact hl)
    rw [hic, hvv] at g3
    have g1' : ¬ ix 58 (ta 4 H' L') < (ta 4 H' L').length := g1
    have g2' : (cu 46 (ta 4 H' L')).map q10 = (nl (pa 4 H' L')).map some := g2
    rcases h with ⟨hok, iH, iL, h⟩ | ⟨hok, iH, iL, h⟩
    · rcases h with ⟨_, h1, _⟩ | ⟨rfl, _, us, h2, h3⟩
      · exact absurd h1 g1'
      · rw [g2'] at h2
        have h2 := map_some_inj h2
        rw [← h2, g3] at h3
        exact ⟨hok, rfl, ad_inj iL hL' h3⟩
    · rcases h with ⟨_, h1, _⟩ | ⟨rfl, _, h2⟩
      · exact absurd h1 g1'
      · exact (noNone _ _ _ g2' h2).elim
theorem Gd.ne {l : List Nat} {F H L : Int} (h : Gd l F H L true) : l ≠ [] ∧ InU H ∧ InU L ∧ InI F := by
  rcases h with ⟨_, iH, iL, h⟩ | ⟨h, _⟩
  · rcases h with ⟨rfl, h1, _⟩ | ⟨rfl, h1, vs, h2, _⟩
    · refine ⟨fun e => ?_, iH, iL, by unfold InI; omega⟩
      rw [e] at h1
      simp at h1
    · refine ⟨fun e => ?_, iH, iL, by unfold InI; omega⟩
      rw [e] at h2
      have e1 : cu 46 ([] : List Nat) = [[]] := rfl
      have e2 : q10 [] = none := by decide
      rw [e1] at h2
      simp only [List.map_cons, List.map_nil, e2] at h2
      cases vs with
      | nil => cases h2
      | cons v r => cases h2
  · cases h
theorem Gd.in {l : List Nat} {F H L : Int} {ok : Bool} (h : Gd l F H L ok) : InI F ∧ InU H ∧ InU L := by
  rcases h with ⟨_, iH, iL, h⟩ | ⟨_, iH, iL, h⟩
  · exact ⟨by unfold InI; rcases h with ⟨rfl, _⟩ | ⟨rfl, _⟩ <;> omega, iH, iL⟩
  · exact ⟨by unfold InI; rcases h with ⟨rfl, _⟩ | ⟨rfl, _⟩ <;> omega, iH, iL⟩
theorem contains_ (c : Nat) (l : List Nat) (w : World) (hc : c < 256) (hy : ∀ x ∈ l, x < 256) : Calls Tryz.prog 179 #[.string (sb l), .string ⟨#[UInt8.ofNat c]⟩] w fun e w' => e = .returned (.bool (decide (ix c l < l.length))) ∧ w' = w := by
  refine (Tryz.strings_Contains_one (sb l) (UInt8.ofNat c) w).mono ?_
  rintro e w' ⟨rfl, rfl⟩
  refine ⟨?_, rfl⟩
  rw [sb_data, index_ix c hc l hy]
  by_cases h : ix c l < l.length
  · rw [if_pos h, decide_eq_true h, decide_eq_true (by omega)]
  · rw [if_neg h, decide_eq_false h, decide_eq_false (by omega)]
set_option maxHeartbeats 1000000 in
theorem gathered_ (l : List Nat) (w : World) (hy : ∀ x ∈ l, x < 256) (hl : l.length ≤ 140737488355328) (hT : Tb w) :
    Calls Tryz.prog 128 #[.string (sb l)] w fun e w' => ∃ F H L ok, Gd l F H L ok ∧ e = .returned (.tuple #[.agg #[.int .i64 F, .int .u64 H, .int .u64 L], .bool ok]) ∧ Below w.heap.size w w' := by
  have k1 := fun w => contains_ 58 l w (by decide) hy
  obtain ⟨xs6, hx6⟩ := cu_pts 58 l.length l (Nat.le_refl _) hy hl
  obtain ⟨xs4, hx4⟩ := cu_pts 46 l.length l (Nat.le_refl _) hy hl
  have k6 := fun bt bs w hT h1 h2 h3 h4 => gather16_ bt bs 58 (by decide) l hy hl xs6 hx6 w hT h1 h2 h3 h4
  have k4 := fun bt bs w hT h1 h2 h3 h4 => gather8_ bt bs 46 (by decide) l hy hl xs4 hx4 w hT h1 h2 h3 h4
  have B0 := anew w 0 0 0
  have m0 := Am.new w 0 0 0
  have kp := fun D w => parts_ (sb l) D w
  have k1' : ∀ w, Calls Tryz.prog 179 #[.string (sb l), .string ⟨#[58]⟩] w fun e w' => e = .returned (.bool (decide (ix 58 l < l.length))) ∧ w' = w := k1
  clear k1 hx6 hx4
  obtain ⟨S, HS⟩ : ∃ S, Hid (sb l = S) := ⟨_, rfl⟩
  simp only [HS.out] at k1' k6 k4 kp
  rw [HS.out]
  go_enter Tryz.func128, Tryz.ntmps128
  go_wp2_with fail
  refine (k1' _).mono ?_
  rintro e w1 ⟨rfl, rfl⟩
  generalize w.alloc (.cells #[.int .i64 0, .int .u64 0, .int .u64 0] 48) = w1 at *
  by_cases hf : ix 58 l < l.length
  · rw [decide_eq_true hf]
    have HF := hid hf
    clear hf k1'
    go_wp2_with fail
    refine (kp _ _).mono ?_
    rintro e w2 ⟨rfl, rfl⟩
    have hb2 : Below w1.heap.size w1 ((w1.alloc (.cells #[.string S] 9)).alloc (.cells #[.string ⟨#[58]⟩] 9)) := ((Below.refl _ w1).alloc (Nat.le_refl _) _).alloc (by simp) _
    have c1 := cell_al (o := .cells #[.string ⟨#[58]⟩] 9) (cell_new1 w1 (.string S) 9).1
    have c2 := (cell_new1 (w1.alloc (.cells #[.string S] 9)) (.string ⟨#[58]⟩) 9).1
    rw [World.size_alloc] at c2
    have kk := k6 w1.heap.size (w1.heap.size + 1) _ (hT.kept (bel_bel B0 B0.size hb2)) (by simp; omega) (by simp) c1 c2
    replace m0 := m0.kept hb2
    replace B0 := bel_bel B0 B0.size hb2
    clear c1 c2 hb2 k6 k4 kp
    generalize (w1.alloc (.cells #[.string S] 9)).alloc (.cells #[.string ⟨#[58]⟩] 9) = w2 at *
    generalize w1.heap.size = g1 at *
    go_wp2_with fail
    refine kk.mono ?_
    rintro e w3 ⟨hR, g3⟩
    replace m0 := m0.kept g3
    replace B0 := bel_bel B0 B0.size g3
    clear kk g3
    rcases hR with ⟨H, L, vs, iH, iL, hm, ha, rfl⟩ | ⟨hn, rfl⟩
    · have HG : Hid (Gd l 6 H L true) := .inl ⟨rfl, iH, iL, .inl ⟨rfl, HF.out, vs, hm, ha⟩⟩
      clear hm ha
      go_wp2_with (refine wpList_sa rfl rfl _ _ rfl w.heap.size 6 H L rfl rfl _ _ _ m0 ?_)
      refine bodyPost_ret (v := .tuple #[.agg #[.int .i64 6, .int .u64 H, .int .u64 L], .bool true]) ?_ rfl ⟨6, H, L, true, HG.out, rfl, bel_row B0 (Nat.le_refl _) _⟩
      exact results_a2 rfl _ _ w.heap.size 6 H L _ rfl rfl (m0.row _ _ _)
    · have HG : Hid (Gd l 6 0 0 false) := .inr ⟨rfl, by unfold InU; omega, by unfold InU; omega, .inl ⟨rfl, HF.out, hn⟩⟩
      clear hn
      go_wp2_with (refine wpList_sa rfl rfl _ _ rfl w.heap.size 6 0 0 rfl rfl _ _ _ m0 ?_)
      refine bodyPost_ret (v := .tuple #[.agg #[.int .i64 6, .int .u64 0, .int .u64 0], .bool false]) ?_ rfl ⟨6, 0, 0, false, HG.out, rfl, bel_row B0 (Nat.le_refl _) _⟩
      exact results_a2 rfl _ _ w.heap.size 6 0 0 _ rfl rfl (m0.row _ _ _)
  · rw [decide_eq_false hf]
    have HF := hid hf
    clear hf k1'
    go_wp2_with fail
    refine (kp _ _).mono ?_
    rintro e w2 ⟨rfl, rfl⟩
    have hb2 : Below w1.heap.size w1 ((w1.alloc (.cells #[.string S] 9)).alloc (.cells #[.string ⟨#[46]⟩] 9)) := ((Below.refl _ w1).alloc (Nat.le_refl _) _).alloc (by simp) _
    have c1 := cell_al (o := .cells #[.string ⟨#[46]⟩] 9) (cell_new1 w1 (.string S) 9).1
    have c2 := (cell_new1 (w1.alloc (.cells #[.string S] 9)) (.string ⟨#[46]⟩) 9).1
    rw [World.size_alloc] at c2
    have kk := k4 w1.heap.size (w1.heap.size + 1) _ (hT.kept (bel_bel B0 B0.size hb2)) (by simp; omega) (by simp) c1 c2
    replace m0 := m0.kept hb2
    replace B0 := bel_bel B0 B0.size hb2
    clear c1 c2 hb2 k6 k4 kp
    generalize (w1.alloc (.cells #[.string S] 9)).alloc (.cells #[.string ⟨#[46]⟩] 9) = w2 at *
    generalize w1.heap.size = g1 at *
    go_wp2_with fail
    refine kk.mono ?_
    rintro e w3 ⟨hR, g3⟩
    replace m0 := m0.kept g3
    replace B0 := bel_bel B0 B0.size g3
    clear kk g3
    rcases hR with ⟨H, L, vs, iH, iL, hm, ha, rfl⟩ | ⟨hn, rfl⟩
    · have HG : Hid (Gd l 4 H L true) := .inl ⟨rfl, iH, iL, .inr ⟨rfl, HF.out, vs, hm, ha⟩⟩
      clear hm ha
      go_wp2_with (refine wpList_sa rfl rfl _ _ rfl w.heap.size 4 H L rfl rfl _ _ _ m0 ?_)
      refine bodyPost_ret (v := .tuple #[.agg #[.int .i64 4, .int .u64 H, .int .u64 L], .bool true]) ?_ rfl ⟨4, H, L, true, HG.out, rfl, bel_row B0 (Nat.le_refl _) _⟩
      exact results_a2 rfl _ _ w.heap.size 4 H L _ rfl rfl (m0.row _ _ _)
    · have HG : Hid (Gd l 4 0 0 false) := .inr ⟨rfl, by unfold InU; omega, by unfold InU; omega, .inr ⟨rfl, HF.out, hn⟩⟩
      clear hn
      go_wp2_with (refine wpList_sa rfl rfl _ _ rfl w.heap.size 4 0 0 rfl rfl _ _ _ m0 ?_)
      refine bodyPost_ret (v := .tuple #[.agg #[.int .i64 4, .int .u64 0, .int .u64 0], .bool false]) ?_ rfl ⟨4, 0, 0, false, HG.out, rfl, bel_row B0 (Nat.le_refl _) _⟩
      exact results_a2 rfl _ _ w.heap.size 4 0 0 _ rfl rfl (m0.row _ _ _)
end Go.Proofs.YtmgoabedickooaaGreatDoor
