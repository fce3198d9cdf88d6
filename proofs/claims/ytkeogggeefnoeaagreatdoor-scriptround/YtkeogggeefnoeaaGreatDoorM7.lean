import Derived.Test.YtkeogggeefnoeaaGreatDoorL11
import Derived.Test.YtkeogggeefnoeaaGreatDoorLR
import Derived.BigQuiet
namespace Go.Proofs.YtkeogggeefnoeaaGreatDoor
set_option linter.unusedSimpArgs false
set_option maxRecDepth 100000
open Go.RowKit
set_option linter.unusedVariables false

theorem cnt_one (a : Nat) (h : a < 10) (h0 : 0 < a) : cnt a = 1 := by
  rw [cnt, dif_neg (by omega), cnt, dif_pos (by omega)]
theorem cnt_step (a : Nat) (h : 10 ≤ a) : cnt a = cnt (a / 10) + 1 := by
  conv => lhs; rw [cnt]
  rw [dif_neg (by omega)]
theorem dgs1 (a : Nat) (h : a < 10) : dgs a 1 = [48 + a] := by
  have hc := (cnt_lt 1 a).2 (by omega)
  have : dn a 1 = 1 := by unfold dn; rw [Nat.max_def]; split <;> omega
  unfold dgs
  rw [this, dl, dl, List.nil_append, Nat.mod_eq_of_lt h]
theorem dgs_step (a : Nat) (h : 10 ≤ a) : dgs a 1 = dgs (a / 10) 1 ++ [48 + a % 10] := by
  have hc := cnt_step a h
  have hp := cnt_pos (a / 10) (by omega)
  have e1 : dn a 1 = cnt (a / 10) + 1 := by unfold dn; rw [hc, Nat.max_def]; split <;> omega
  have e2 : dn (a / 10) 1 = cnt (a / 10) := by unfold dn; rw [Nat.max_def]; split <;> omega
  unfold dgs
  rw [e1, e2, dl]
theorem q10_dgs (a : Nat) (h : a < 256) : q10 (dgs a 1) = some a := by
  by_cases h1 : a < 10
  · rw [dgs1 a h1]
    have : ∀ a, a < 10 → q10 [48 + a] = some a := by decide
    exact this a h1
  · rw [dgs_step a (by omega)]
    by_cases h2 : a < 100
    · rw [dgs1 (a / 10) (by omega)]
      have : ∀ x, x < 10 → ∀ y, y < 10 → q10 ([48 + x] ++ [48 + y]) = some (x * 10 + y) := by decide
      rw [this (a / 10) (by omega) (a % 10) (by omega)]
      congr 1
      omega
    · rw [dgs_step (a / 10) (by omega), dgs1 (a / 10 / 10) (by omega)]
      have : ∀ x, x < 3 → ∀ y, y < 10 → ∀ z, z < 10 → x * 100 + y * 10 + z < 256 → q10 ([48 + x] ++ [48 + y] ++ [48 + z]) = some (x * 100 + y * 10 + z) := by decide
      rw [this (a / 10 / 10) (by omega) (a / 10 % 10) (by omega) (a % 10) (by omega) (by omega)]
      congr 1
      omega
theorem hv_hd : ∀ y, y < 16 → hv (hd y) = some y := by decide
theorem q16_hx (a b : Nat) (ha : a < 256) (hb : b < 256) : q16 (hx a ++ hx b) = some (a * 256 + b) := by
  unfold q16 hx
  rw [if_neg (by simp)]
  show ph 0 [hd (a / 16), hd (a % 16), hd (b / 16), hd (b % 16)] = _
  simp only [ph, hv_hd (a / 16) (by omega), hv_hd (a % 16) (by omega), hv_hd (b / 16) (by omega), hv_hd (b % 16) (by omega)]
  rw [if_neg (by omega), if_neg (by omega), if_neg (by omega), if_neg (by omega)]
  congr 1
  omega
theorem fv_mod (p : Int) (vs : List Nat) : ∀ A : Int, vs.foldl (fun (A : Int) (v : Nat) => (A * p + (v : Int)) % 340282366920938463463374607431768211456) (A % 340282366920938463463374607431768211456) = vs.foldl (fun (A : Int) (v : Nat) => A * p + (v : Int)) A % 340282366920938463463374607431768211456 := by
  induction vs with
  | nil => intro A; rfl
  | cons v r ih =>
    intro A
    rw [List.foldl_cons, List.foldl_cons, ← ih]
    congr 1
    rw [Int.add_emod, Int.mul_emod, Int.emod_emod, ← Int.mul_emod, ← Int.add_emod]
theorem fv_eq (p : Int) (vs : List Nat) : fv p vs = vs.foldl (fun (A : Int) (v : Nat) => A * p + (v : Int)) 0 % 340282366920938463463374607431768211456 := by
  have := fv_mod p vs 0
  rwa [Int.zero_emod] at this
theorem ix_none (c : Nat) (l : List Nat) (h : ∀ z ∈ l, z ≠ c) : ¬ ix c l < l.length := by
  induction l with
  | nil => simp
  | cons x r ih =>
    have := ih (fun z hz => h z (by simp [hz]))
    rw [ix, if_neg (h x (by simp)), List.length_cons]
    omega
theorem ix_some (c : Nat) (x l : List Nat) : ix c (x ++ c :: l) < (x ++ c :: l).length := by
  induction x with
  | nil => simp [ix]
  | cons y r ih =>
    rw [List.cons_append, ix]
    split
    · simp
    · rw [List.length_cons]
      omega
/-- What gather finds in an address's text. -/
theorem gat4 (p : List Nat) (hp : ∀ x ∈ p, x < 256) (hl : p.length = 4) : ¬ ix 58 (tx p) < (tx p).length ∧ (cu 46 (tx p)).map q10 = p.map some ∧ fv 256 p = val (ic p) := by
  match p, hl with
  | [a, b, c, d], _ =>
    have ha := hp a (by simp)
    have hb := hp b (by simp)
    have hc := hp c (by simp)
    have hd := hp d (by simp)
    rw [tx4]
    refine ⟨?_, ?_, ?_⟩
    · refine ix_none 58 _ ?_
      have hn : ∀ a, ∀ z ∈ dgs a 1, z ≠ 58 := fun a z hz => by
        have := dl_digit _ _ z hz
        omega
      exact not_cons 58 46 _ _ (by decide) (hn a) (not_cons 58 46 _ _ (by decide) (hn b) (not_cons 58 46 _ _ (by decide) (hn c) (hn d)))
    · rw [cu_cons 46 _ _ (dgs_not a 46 (by decide)), cu_cons 46 _ _ (dgs_not b 46 (by decide)), cu_cons 46 _ _ (dgs_not c 46 (by decide)), cu_one 46 _ (dgs_not d 46 (by decide))]
      simp only [List.map_cons, List.map_nil]
      rw [q10_dgs a ha, q10_dgs b hb, q10_dgs c hc, q10_dgs d hd]
    · rw [fv_eq]
      have e : val (ic [a, b, c, d]) = (((0 * 256 + (a : Int)) * 256 + b) * 256 + c) * 256 + d := rfl
      have e2 : ([a, b, c, d] : List Nat).foldl (fun (A : Int) (v : Nat) => A * 256 + (v : Int)) 0 = (((0 * 256 + (a : Int)) * 256 + b) * 256 + c) * 256 + d := rfl
      rw [e, e2]
      omega
theorem gat16 (p : List Nat) (hp : ∀ x ∈ p, x < 256) (hl : p.length = 16) : ix 58 (tx p) < (tx p).length ∧ ∃ vs : List Nat, (cu 58 (tx p)).map q16 = vs.map some ∧ fv 65536 vs = val (ic p) := by
  match p, hl with
  | [a0, a1, a2, a3, a4, a5, a6, a7, a8, a9, a10, a11, a12, a13, a14, a15], _ =>
    have h0 := hp a0 (by simp)
    have h1 := hp a1 (by simp)
    have h2 := hp a2 (by simp)
    have h3 := hp a3 (by simp)
    have h4 := hp a4 (by simp)
    have h5 := hp a5 (by simp)
    have h6 := hp a6 (by simp)
    have h7 := hp a7 (by simp)
    have h8 := hp a8 (by simp)
    have h9 := hp a9 (by simp)
    have h10 := hp a10 (by simp)
    have h11 := hp a11 (by simp)
    have h12 := hp a12 (by simp)
    have h13 := hp a13 (by simp)
    have h14 := hp a14 (by simp)
    have h15 := hp a15 (by simp)
    rw [tx16]
    refine ⟨ix_some 58 _ _, [a0 * 256 + a1, a2 * 256 + a3, a4 * 256 + a5, a6 * 256 + a7, a8 * 256 + a9, a10 * 256 + a11, a12 * 256 + a13, a14 * 256 + a15], ?_, ?_⟩
    · rw [cu_cons 58 _ _ (hx2_not a0 a1 58 h0 h1 (.inr rfl)), cu_cons 58 _ _ (hx2_not a2 a3 58 h2 h3 (.inr rfl)), cu_cons 58 _ _ (hx2_not a4 a5 58 h4 h5 (.inr rfl)), cu_cons 58 _ _ (hx2_not a6 a7 58 h6 h7 (.inr rfl)), cu_cons 58 _ _ (hx2_not a8 a9 58 h8 h9 (.inr rfl)), cu_cons 58 _ _ (hx2_not a10 a11 58 h10 h11 (.inr rfl)), cu_cons 58 _ _ (hx2_not a12 a13 58 h12 h13 (.inr rfl)), cu_one 58 _ (hx2_not a14 a15 58 h14 h15 (.inr rfl))]
      simp only [List.map_cons, List.map_nil]
      rw [q16_hx a0 a1 h0 h1, q16_hx a2 a3 h2 h3, q16_hx a4 a5 h4 h5, q16_hx a6 a7 h6 h7, q16_hx a8 a9 h8 h9, q16_hx a10 a11 h10 h11, q16_hx a12 a13 h12 h13, q16_hx a14 a15 h14 h15]
    · rw [fv_eq]
      have hb := val_bound (ic [a0, a1, a2, a3, a4, a5, a6, a7, a8, a9, a10, a11, a12, a13, a14, a15]) (fun z hz => by
        obtain ⟨y, hy, rfl⟩ := List.mem_map.1 hz
        have := hp y hy
        omega)
      have e3 : (256 : Int) ^ (ic [a0, a1, a2, a3, a4, a5, a6, a7, a8, a9, a10, a11, a12, a13, a14, a15]).length = 340282366920938463463374607431768211456 := by
        show (256 : Int) ^ 16 = _
        decide
      rw [e3] at hb
      have e4 : ([a0 * 256 + a1, a2 * 256 + a3, a4 * 256 + a5, a6 * 256 + a7, a8 * 256 + a9, a10 * 256 + a11, a12 * 256 + a13, a14 * 256 + a15] : List Nat).foldl (fun (A : Int) (v : Nat) => A * 65536 + (v : Int)) 0 = val (ic [a0, a1, a2, a3, a4, a5, a6, a7, a8, a9, a10, a11, a12, a13, a14, a15]) := by
        simp only [val, ic, List.map_cons, List.map_nil, List.foldl_cons, List.foldl_nil]
        omega
      rw [e4, Int.emod_eq_of_lt hb.1 hb.2]
end Go.Proofs.YtkeogggeefnoeaaGreatDoor
namespace Go.Proofs.YtkeogggeefnoeaaGreatDoor
set_option linter.unusedSimpArgs false
set_option maxRecDepth 100000
open Go.RowKit
set_option linter.unusedVariables false

theorem val_pa2 {F H L : Int} (hv : va F H L = true) (hH : InU H) (hL : InU L) : val (pa F H L) = ad H L := by
  obtain ⟨hn, hA⟩ := va_in hv hH hL
  unfold pa
  rw [hv, if_pos rfl, val_be]
  apply Int.emod_eq_of_lt hA.1
  rcases hn with h | h <;> rw [h] at hA ⊢ <;> exact hA.2
/-- What gathered answers of a text. -/
def Gd (l : List Nat) (F H L : Int) (ok : Bool) : Prop :=
  (ok = true ∧ InU H ∧ InU L ∧ ((F = 6 ∧ ix 58 l < l.length ∧ ∃ vs : List Nat, (cu 58 l).map q16 = vs.map some ∧ ad H L = fv 65536 vs) ∨ (F = 4 ∧ ¬ ix 58 l < l.length ∧ ∃ vs : List Nat, (cu 46 l).map q10 = vs.map some ∧ ad H L = fv 256 vs))) ∨
  (ok = false ∧ InU H ∧ InU L ∧ ((F = 6 ∧ ix 58 l < l.length ∧ ∃ x ∈ cu 58 l, q16 x = none) ∨ (F = 4 ∧ ¬ ix 58 l < l.length ∧ ∃ x ∈ cu 46 l, q10 x = none)))
theorem map_some_inj {vs us : List Nat} (h : vs.map some = us.map some) : vs = us := by
  induction vs generalizing us with
  | nil => cases us with
    | nil => rfl
    | cons u r => cases h
  | cons v r ih => cases us with
    | nil => cases h
    | cons u s =>
      rw [List.map_cons, List.map_cons] at h
      obtain ⟨h1, h2⟩ := List.cons.inj h
      rw [Option.some.inj h1, ih h2]
/-- An address's own text is gathered as that address. -/
theorem Gd.of_ta {F' H' L' : Int} (hv : va F' H' L' = true) (hH' : InU H') (hL' : InU L') {F H L : Int} {ok : Bool} (h : Gd (ta F' H' L') F H L ok) : ok = true ∧ F = F' ∧ H = H' ∧ L = L' := by
  have hF := of_decide_eq_true (show decide _ = true from hv)
  have hl : (pa F' H' L').length = nb F' / 8 := by rw [pa_length, hv]; rfl
  have hlt := nl_lt (pa_byte F' H' L')
  have hvv := val_pa2 hv hH' hL'
  have hic := ic_nl (pa_byte F' H' L')
  have noNone : ∀ (q : List Nat → Option Nat) (ls : List (List Nat)) (vs : List Nat), ls.map q = vs.map some → (∃ x ∈ ls, q x = none) → False := fun q ls vs h1 h2 => by
    obtain ⟨x, hx, hq⟩ := h2
    have : q x ∈ ls.map q := List.mem_map.2 ⟨x, hx, rfl⟩
    rw [h1, hq] at this
    obtain ⟨v, _, hv⟩ := List.mem_map.1 this
    cases hv
  rcases hF with rfl | ⟨rfl, _⟩
  · obtain ⟨g1, vs, g2, g3⟩ := gat16 (nl (pa 6 H' L')) hlt (by rw [nl_length]; exact hl)
    rw [hic, hvv] at g3
    have g1' : ix 58 (ta 6 H' L') < (ta 6 H' L').length := g1
    have g2' : (cu 58 (ta 6 H' L')).map q16 = vs.map some := g2
    rcases h with ⟨hok, iH, iL, h⟩ | ⟨hok, iH, iL, h⟩
    · rcases h with ⟨rfl, _, us, h2, h3⟩ | ⟨_, h1, _⟩
      · rw [g2'] at h2
        obtain rfl := map_some_inj h2
        rw [g3] at h3
        exact ⟨hok, rfl, ad_inj iL hL' h3⟩
      · exact absurd g1' h1
    · rcases h with ⟨rfl, _, h2⟩ | ⟨_, h1, _⟩
      · exact (noNone _ _ _ g2' h2).elim
      · exact absurd g1' h1
  · obtain ⟨g1, g2, g3⟩ := gat4 (nl (pa 4 H' L')) hlt (by rw [nl_length]; exact hl)
    rw [hic, hvv] at g3
    have g1' : ¬ ix 58 (ta 4 H' L') < (ta 4 H' L').length := g1
    have g2' : (cu 46 (ta 4 H' L')).map q10 = (nl (pa 4 H' L')).map some := g2
    rcases h with ⟨hok, iH, iL, h⟩ | ⟨hok, iH, iL, h⟩
    · rcases h with ⟨_, h1, _⟩ | ⟨rfl, _, us, h2, h3⟩
      · exact absurd h1 g1'
      · rw [g2'] at h2
        have h2 := map_some_inj h2
        rw [← h2, g3] at h3
        exact ⟨hok, rfl, ad_inj iL hL' h3⟩
    · rcases h with ⟨_, h1, _⟩ | ⟨rfl, _, h2⟩
      · exact absurd h1 g1'
      · exact (noNone _ _ _ g2' h2).elim
theorem Gd.ne {l : List Nat} {F H L : Int} (h : Gd l F H L true) : l ≠ [] ∧ InU H ∧ InU L ∧ InI F := by
  rcases h with ⟨_, iH, iL, h⟩ | ⟨h, _⟩
  · rcases h with ⟨rfl, h1, _⟩ | ⟨rfl, h1, vs, h2, _⟩
    · refine ⟨fun e => ?_, iH, iL, by unfold InI; omega⟩
      rw [e] at h1
      simp at h1
    · refine ⟨fun e => ?_, iH, iL, by unfold InI; omega⟩
      rw [e] at h2
      have e1 : cu 46 ([] : List Nat) = [[]] := rfl
      have e2 : q10 [] = none := by decide
      rw [e1] at h2
      simp only [List.map_cons, List.map_nil, e2] at h2
      cases vs with
      | nil => cases h2
      | cons v r => cases h2
  · cases h
theorem Gd.in {l : List Nat} {F H L : Int} {ok : Bool} (h : Gd l F H L ok) : InI F ∧ InU H ∧ InU L := by
  rcases h with ⟨_, iH, iL, h⟩ | ⟨_, iH, iL, h⟩
  · exact ⟨by unfold InI; rcases h with ⟨rfl, _⟩ | ⟨rfl, _⟩ <;> omega, iH, iL⟩
  · exact ⟨by unfold InI; rcases h with ⟨rfl, _⟩ | ⟨rfl, _⟩ <;> omega, iH, iL⟩
theorem contains_ (c : Nat) (l : List Nat) (w : World) (hc : c < 256) (hy : ∀ x ∈ l, x < 256) : Calls Tryz.prog 167 #[.string (sb l), .string ⟨#[UInt8.ofNat c]⟩] w fun e w' => e = .returned (.bool (decide (ix c l < l.length))) ∧ w' = w := by
  refine (Tryz.strings_Contains_one (sb l) (UInt8.ofNat c) w).mono ?_
  rintro e w' ⟨rfl, rfl⟩
  refine ⟨?_, rfl⟩
  rw [sb_data, index_ix c hc l hy]
  by_cases h : ix c l < l.length
  · rw [if_pos h, decide_eq_true h, decide_eq_true (by omega)]
  · rw [if_neg h, decide_eq_false h, decide_eq_false (by omega)]
set_option maxHeartbeats 1000000 in
theorem gathered_ (l : List Nat) (w : World) (hy : ∀ x ∈ l, x < 256) (hl : l.length ≤ 140737488355328) (hT : Tb w) :
    Calls Tryz.prog 159 #[.string (sb l)] w fun e w' => ∃ F H L ok, Gd l F H L ok ∧ e = .returned (.tuple #[.agg #[.int .i64 F, .int .u64 H, .int .u64 L], .bool ok]) ∧ Below w.heap.size w w' := by
  have k1 := fun w => contains_ 58 l w (by decide) hy
  obtain ⟨xs6, hx6⟩ := cu_pts 58 l.length l (Nat.le_refl _) hy hl
  obtain ⟨xs4, hx4⟩ := cu_pts 46 l.length l (Nat.le_refl _) hy hl
  have k6 := fun bt bs w hT h1 h2 h3 h4 => gather16_ bt bs 58 (by decide) l hy hl xs6 hx6 w hT h1 h2 h3 h4
  have k4 := fun bt bs w hT h1 h2 h3 h4 => gather8_ bt bs 46 (by decide) l hy hl xs4 hx4 w hT h1 h2 h3 h4
  have B0 := anew w 0 0 0
  have m0 := Am.new w 0 0 0
  have kp := fun D w => parts_ (sb l) D w
  have k1' : ∀ w, Calls Tryz.prog 167 #[.string (sb l), .string ⟨#[58]⟩] w fun e w' => e = .returned (.bool (decide (ix 58 l < l.length))) ∧ w' = w := k1
  clear k1 hx6 hx4
  obtain ⟨S, HS⟩ : ∃ S, Hid (sb l = S) := ⟨_, rfl⟩
  simp only [HS.out] at k1' k6 k4 kp
  rw [HS.out]
  go_enter Tryz.func159, Tryz.ntmps159
  go_wp2_with fail
  refine (k1' _).mono ?_
  rintro e w1 ⟨rfl, rfl⟩
  generalize w.alloc (.cells #[.int .i64 0, .int .u64 0, .int .u64 0] 66) = w1 at *
  by_cases hf : ix 58 l < l.length
  · rw [decide_eq_true hf]
    have HF := hid hf
    clear hf k1'
    go_wp2_with fail
    refine (kp _ _).mono ?_
    rintro e w2 ⟨rfl, rfl⟩
    have hb2 : Below w1.heap.size w1 ((w1.alloc (.cells #[.string S] 9)).alloc (.cells #[.string ⟨#[58]⟩] 9)) := ((Below.refl _ w1).alloc (Nat.le_refl _) _).alloc (by simp) _
    have c1 := cell_al (o := .cells #[.string ⟨#[58]⟩] 9) (cell_new1 w1 (.string S) 9).1
    have c2 := (cell_new1 (w1.alloc (.cells #[.string S] 9)) (.string ⟨#[58]⟩) 9).1
    rw [World.size_alloc] at c2
    have kk := k6 w1.heap.size (w1.heap.size + 1) _ (hT.kept (bel_bel B0 B0.size hb2)) (by simp; omega) (by simp) c1 c2
    replace m0 := m0.kept hb2
    replace B0 := bel_bel B0 B0.size hb2
    clear c1 c2 hb2 k6 k4 kp
    generalize (w1.alloc (.cells #[.string S] 9)).alloc (.cells #[.string ⟨#[58]⟩] 9) = w2 at *
    generalize w1.heap.size = g1 at *
    go_wp2_with fail
    refine kk.mono ?_
    rintro e w3 ⟨hR, g3⟩
    replace m0 := m0.kept g3
    replace B0 := bel_bel B0 B0.size g3
    clear kk g3
    rcases hR with ⟨H, L, vs, iH, iL, hm, ha, rfl⟩ | ⟨hn, rfl⟩
    · have HG : Hid (Gd l 6 H L true) := .inl ⟨rfl, iH, iL, .inl ⟨rfl, HF.out, vs, hm, ha⟩⟩
      clear hm ha
      go_wp2_with (refine wpList_sa rfl rfl _ _ rfl w.heap.size 6 H L rfl rfl _ _ _ m0 ?_)
      refine bodyPost_ret (v := .tuple #[.agg #[.int .i64 6, .int .u64 H, .int .u64 L], .bool true]) ?_ rfl ⟨6, H, L, true, HG.out, rfl, bel_row B0 (Nat.le_refl _) _⟩
      exact results_a2 rfl _ _ w.heap.size 6 H L _ rfl rfl (m0.row _ _ _)
    · have HG : Hid (Gd l 6 0 0 false) := .inr ⟨rfl, by unfold InU; omega, by unfold InU; omega, .inl ⟨rfl, HF.out, hn⟩⟩
      clear hn
      go_wp2_with (refine wpList_sa rfl rfl _ _ rfl w.heap.size 6 0 0 rfl rfl _ _ _ m0 ?_)
      refine bodyPost_ret (v := .tuple #[.agg #[.int .i64 6, .int .u64 0, .int .u64 0], .bool false]) ?_ rfl ⟨6, 0, 0, false, HG.out, rfl, bel_row B0 (Nat.le_refl _) _⟩
      exact results_a2 rfl _ _ w.heap.size 6 0 0 _ rfl rfl (m0.row _ _ _)
  · rw [decide_eq_false hf]
    have HF := hid hf
    clear hf k1'
    go_wp2_with fail
    refine (kp _ _).mono ?_
    rintro e w2 ⟨rfl, rfl⟩
    have hb2 : Below w1.heap.size w1 ((w1.alloc (.cells #[.string S] 9)).alloc (.cells #[.string ⟨#[46]⟩] 9)) := ((Below.refl _ w1).alloc (Nat.le_refl _) _).alloc (by simp) _
    have c1 := cell_al (o := .cells #[.string ⟨#[46]⟩] 9) (cell_new1 w1 (.string S) 9).1
    have c2 := (cell_new1 (w1.alloc (.cells #[.string S] 9)) (.string ⟨#[46]⟩) 9).1
    rw [World.size_alloc] at c2
    have kk := k4 w1.heap.size (w1.heap.size + 1) _ (hT.kept (bel_bel B0 B0.size hb2)) (by simp; omega) (by simp) c1 c2
    replace m0 := m0.kept hb2
    replace B0 := bel_bel B0 B0.size hb2
    clear c1 c2 hb2 k6 k4 kp
    generalize (w1.alloc (.cells #[.string S] 9)).alloc (.cells #[.string ⟨#[46]⟩] 9) = w2 at *
    generalize w1.heap.size = g1 at *
    go_wp2_with fail
    refine kk.mono ?_
    rintro e w3 ⟨hR, g3⟩
    replace m0 := m0.kept g3
    replace B0 := bel_bel B0 B0.size g3
    clear kk g3
    rcases hR with ⟨H, L, vs, iH, iL, hm, ha, rfl⟩ | ⟨hn, rfl⟩
    · have HG : Hid (Gd l 4 H L true) := .inl ⟨rfl, iH, iL, .inr ⟨rfl, HF.out, vs, hm, ha⟩⟩
      clear hm ha
      go_wp2_with (refine wpList_sa rfl rfl _ _ rfl w.heap.size 4 H L rfl rfl _ _ _ m0 ?_)
      refine bodyPost_ret (v := .tuple #[.agg #[.int .i64 4, .int .u64 H, .int .u64 L], .bool true]) ?_ rfl ⟨4, H, L, true, HG.out, rfl, bel_row B0 (Nat.le_refl _) _⟩
      exact results_a2 rfl _ _ w.heap.size 4 H L _ rfl rfl (m0.row _ _ _)
    · have HG : Hid (Gd l 4 0 0 false) := .inr ⟨rfl, by unfold InU; omega, by unfold InU; omega, .inr ⟨rfl, HF.out, hn⟩⟩
      clear hn
      go_wp2_with (refine wpList_sa rfl rfl _ _ rfl w.heap.size 4 0 0 rfl rfl _ _ _ m0 ?_)
      refine bodyPost_ret (v := .tuple #[.agg #[.int .i64 4, .int .u64 0, .int .u64 0], .bool false]) ?_ rfl ⟨4, 0, 0, false, HG.out, rfl, bel_row B0 (Nat.le_refl _) _⟩
      exact results_a2 rfl _ _ w.heap.size 4 0 0 _ rfl rfl (m0.row _ _ _)
end Go.Proofs.YtkeogggeefnoeaaGreatDoor
namespace Go.Proofs.YtkeogggeefnoeaaGreatDoor
set_option linter.unusedSimpArgs false
set_option maxRecDepth 100000
open Go.RowKit
set_option linter.unusedVariables false

theorem ta_va {F H L : Int} (h : ta F H L ≠ []) : va F H L = true := by
  cases hv : va F H L with
  | true => rfl
  | false =>
    exfalso
    apply h
    unfold ta pa
    rw [hv]
    rfl
theorem ak_va {l : List Nat} (h : ak l = true) : va (aF l) (aH l) (aL l) = true ∧ InU (aH l) ∧ InU (aL l) := by
  have h1 := ta_ak h
  have h2 := of_decide_eq_true (show decide _ = true from h)
  refine ⟨ta_va (by rw [h1]; exact h2.2.1), ?_, ?_⟩
  · rw [← (a_good h).2.1]; exact (g_in l).1
  · rw [← (a_good h).2.2.1]; exact (g_in l).2
theorem Gd.bad {l : List Nat} {F H L : Int} (h : Gd l F H L false) : ak l = false := by
  cases hk : ak l with
  | false => rfl
  | true =>
    obtain ⟨h1, h2, h3⟩ := ak_va hk
    rw [← ta_ak hk] at h
    exact absurd (h.of_ta h1 h2 h3).1 (by decide)
theorem Gd.miss {l : List Nat} {F H L : Int} (h : Gd l F H L true) (hn : ta F H L ≠ l) : ak l = false := by
  cases hk : ak l with
  | false => rfl
  | true =>
    obtain ⟨h1, h2, h3⟩ := ak_va hk
    have e := ta_ak hk
    rw [← e] at h
    obtain ⟨_, rfl, rfl, rfl⟩ := h.of_ta h1 h2 h3
    exact absurd e hn
theorem Gd.hit {l : List Nat} {F H L : Int} (h : Gd l F H L true) (hn : ta F H L = l) : F = aF l ∧ H = aH l ∧ L = aL l ∧ 0 = aE l := by
  obtain ⟨h1, h2, h3, _⟩ := h.ne
  have := ak_ta (ta_va (by rw [hn]; exact h1)) h2 h3
  rw [hn] at this
  exact ⟨this.2.1.symm, this.2.2.1.symm, this.2.2.2.1.symm, this.2.2.2.2.symm⟩
set_option maxHeartbeats 1000000 in
theorem parseAddr_ (l : List Nat) (w : World) (hy : ∀ x ∈ l, x < 256) (hl : l.length ≤ 140737488355328) (hT : Tb w) :
    Calls Tryz.prog 149 #[.string (sb l)] w fun e w' => e = .returned (.tuple #[.agg #[.int .i64 (aF l), .int .u64 (aH l), .int .u64 (aL l)], .int .i64 (aE l)]) ∧ Below w.heap.size w w' := by
  have k1 := fun w hT => gathered_ l w hy hl hT
  have B0 := anew w 0 0 0
  have m0 := Am.new w 0 0 0
  have HI := hid (fun F H L (h : sb (ta F H L) = sb l) => sb_inj (ta_lt F H L) hy h)
  have HB := hid (fun h => a_bad (l := l) h)
  obtain ⟨S, HS⟩ : ∃ S, Hid (sb l = S) := ⟨_, rfl⟩
  simp only [HS.out] at k1 HI
  rw [HS.out]
  have hT0 := hT.kept B0
  go_enter Tryz.func149, Tryz.ntmps149
  go_wp2_with fail
  refine (k1 _ hT0).mono ?_
  rintro e w1 ⟨F, H, L, ok, hG, rfl, g2⟩
  replace m0 := m0.kept g2
  replace B0 := bel_bel B0 B0.size g2
  have hs1 := m0.lt
  clear g2 k1 hT0
  obtain ⟨iF, iH, iL⟩ := hG.in
  have m1 := Am.new w1 F H L
  replace m0 := m0.alloc (.cells #[.int .i64 F, .int .u64 H, .int .u64 L] 66)
  replace B0 := B0.alloc B0.size (.cells #[.int .i64 F, .int .u64 H, .int .u64 L] 66)
  have HG := hid hG
  clear hG
  cases ok with
  | false =>
    have HE := hid (HB.out HG.out.bad)
    clear HB HI HG
    go_wp2_with (refine wpList_sa rfl rfl _ _ rfl w.heap.size 0 0 0 rfl rfl _ _ _ m0 ?_)
    refine bodyPost_ret (v := .tuple #[.agg #[.int .i64 0, .int .u64 0, .int .u64 0], .int .i64 70]) ?_ rfl ⟨ret_a HE.out, bel_row B0 (Nat.le_refl _) _⟩
    exact results_a2 rfl _ _ w.heap.size 0 0 0 _ rfl rfl (m0.row _ _ _)
  | true =>
    have k2 := fun w hT => printAddr_ F H L w iF iH iL hT
    have c0 := m1.c0
    have c1 := m1.c1
    have c2 := m1.c2
    have hTq := hT.kept B0
    go_wp2_with fail
    generalize w1.alloc (.cells #[.int .i64 F, .int .u64 H, .int .u64 L] 66) = w2 at *
    generalize w1.heap.size = g1 at *
    clear c0 c1 c2
    refine (k2 _ hTq).mono ?_
    rintro e w3 ⟨rfl, g3⟩
    replace m0 := m0.kept g3
    replace m1 := m1.kept g3
    replace B0 := bel_bel B0 B0.size g3
    clear g3 k2 hTq
    have c0 := m1.c0
    have c1 := m1.c1
    have c2 := m1.c2
    have HII := hid (HI.out F H L)
    clear HI
    obtain ⟨P, HP⟩ : ∃ P, Hid (sb (ta F H L) = P) := ⟨_, rfl⟩
    rw [HP.out] at HII ⊢
    by_cases hps : P = S
    · have HE := hid (HG.out.hit (HII.out hps))
      have d8 : (P.toList == S.toList) = true := by rw [hps]; exact beq_self_eq_true _
      have d8' : (P.toList != S.toList) = false := by unfold bne; rw [d8]; rfl
      clear hps HB HG HII HP
      go_wp2_with (refine wpList_sa rfl rfl _ _ rfl w.heap.size F H L rfl rfl _ _ _ m0 ?_)
      refine bodyPost_ret (v := .tuple #[.agg #[.int .i64 F, .int .u64 H, .int .u64 L], .int .i64 0]) ?_ rfl ⟨ret_a HE.out, bel_row B0 (Nat.le_refl _) _⟩
      exact results_a2 rfl _ _ w.heap.size F H L _ rfl rfl (m0.row _ _ _)
    · have HE := hid (HB.out (HG.out.miss (fun h => hps (by rw [← HP.out, h, HS.out]))))
      have d8 : (P.toList == S.toList) = false := beq_eq_false_iff_ne.2 fun h => hps (toList_inj h)
      have d8' : (P.toList != S.toList) = true := by unfold bne; rw [d8]; rfl
      clear hps HB HG HII HP
      go_wp2_with (refine wpList_sa rfl rfl _ _ rfl w.heap.size 0 0 0 rfl rfl _ _ _ m0 ?_)
      refine bodyPost_ret (v := .tuple #[.agg #[.int .i64 0, .int .u64 0, .int .u64 0], .int .i64 70]) ?_ rfl ⟨ret_a HE.out, bel_row B0 (Nat.le_refl _) _⟩
      exact results_a2 rfl _ _ w.heap.size 0 0 0 _ rfl rfl (m0.row _ _ _)
end Go.Proofs.YtkeogggeefnoeaaGreatDoor
namespace Go.Proofs.YtkeogggeefnoeaaGreatDoor
set_option linter.unusedSimpArgs false
set_option maxRecDepth 100000
open Go.RowKit
set_option linter.unusedVariables false

theorem qA_dgs (a : Nat) (h : a ≤ 128) : qA (dgs a 1) = some (a : Int) := by
  by_cases h1 : a < 10
  · rw [dgs1 a h1]
    have : ∀ a : Nat, a < 10 → qA [48 + a] = some (a : Int) := by decide
    exact this a h1
  · rw [dgs_step a (by omega)]
    by_cases h2 : a < 100
    · rw [dgs1 (a / 10) (by omega)]
      have : ∀ x : Nat, x < 10 → ∀ y : Nat, y < 10 → qA ([48 + x] ++ [48 + y]) = some ((x * 10 + y : Nat) : Int) := by decide
      rw [this (a / 10) (by omega) (a % 10) (by omega)]
      congr 1
      omega
    · rw [dgs_step (a / 10) (by omega), dgs1 (a / 10 / 10) (by omega)]
      have : ∀ x : Nat, x < 2 → ∀ y : Nat, y < 3 → ∀ z : Nat, z < 10 → qA ([48 + x] ++ [48 + y] ++ [48 + z]) = some ((x * 100 + y * 10 + z : Nat) : Int) := by decide
      rw [this (a / 10 / 10) (by omega) (a / 10 % 10) (by omega) (a % 10) (by omega)]
      congr 1
      omega
theorem ix_at (c : Nat) (x l : List Nat) (h : ∀ z ∈ x, z ≠ c) : ix c (x ++ c :: l) = x.length := by
  induction x with
  | nil => simp [ix]
  | cons y r ih =>
    rw [List.cons_append, ix, if_neg (h y (by simp)), ih (fun z hz => h z (by simp [hz]))]
    rfl
/-- The two halves of a text. -/
def xa (l : List Nat) : List Nat := l.take (ix 47 l)
def xb (l : List Nat) : List Nat := l.drop (ix 47 l + 1)
theorem tp_vp {F H L B : Int} (h : tp F H L B ≠ []) : vp F H L B = true := by
  cases hv : vp F H L B with
  | true => rfl
  | false =>
    exfalso
    apply h
    unfold tp
    rw [hv]
    rfl
theorem halves {F H L B : Int} (hv : vp F H L B = true) (hH : InU H) (hL : InU L) : xa (tp F H L B) = ta F H L ∧ xb (tp F H L B) = dgs B.toNat 1 := by
  obtain ⟨h1, _⟩ := vp_in hv
  have e : tp F H L B = ta F H L ++ 47 :: dgs B.toNat 1 := by unfold tp; rw [hv]; rfl
  have hi := ix_at 47 (ta F H L) (dgs B.toNat 1) (ta_shape h1 hH hL).2.2
  unfold xa xb
  rw [e, hi]
  constructor
  · simp
  · simp
theorem qA_in {l : List Nat} {v : Int} (h : qA l = some v) : InI v := by
  unfold qA at h
  cases hq : Lib.atoiAll (l.map UInt8.ofNat) with
  | ok u =>
    rw [hq] at h
    have h : some u = some v := h
    obtain rfl := Option.some.inj h
    exact Lib.atoiAll_bounds hq
  | «syntax» => rw [hq] at h; cases h
  | range => rw [hq] at h; cases h
theorem a7_in (l : List Nat) : InI (aF l) ∧ InU (aH l) ∧ InU (aL l) := by
  cases h : ak l with
  | true =>
    obtain ⟨e1, e2, e3, _⟩ := a_good h
    rw [← e1, ← e2, ← e3]
    refine ⟨?_, (g_in l).1, (g_in l).2⟩
    unfold InI gF af
    split
    · omega
    · split <;> omega
  | false =>
    obtain ⟨e1, e2, e3, _⟩ := a_bad h
    rw [← e1, ← e2, ← e3]
    unfold InI InU
    omega
theorem pk_ne {l : List Nat} (h : pk l = true) : l ≠ [] := by
  intro e
  subst e
  have := of_decide_eq_true (show decide _ = true from h)
  exact absurd this.2.1 (by decide)
theorem r_in {l : List Nat} (h : pk l = true) : InU (rH l) ∧ InU (rL l) := by
  obtain ⟨_, e2, e3, _⟩ := r_good h
  rw [← e2, ← e3]
  exact ⟨(a7_in _).2.1, (a7_in _).2.2⟩
theorem acc_of_pk {l : List Nat} (h : pk l = true) : aE (xa l) = 0 ∧ qA (xb l) = some (rB l) ∧ tp (aF (xa l)) (aH (xa l)) (aL (xa l)) (rB l) = l := by
  have e := tp_pk h
  obtain ⟨hH, hL⟩ := r_in h
  have hv : vp (rF l) (rH l) (rL l) (rB l) = true := tp_vp (by rw [e]; exact pk_ne h)
  obtain ⟨h1, h2, h3, _⟩ := vp_in hv
  have hn := nb_le (rF l)
  obtain ⟨e1, e2⟩ := halves hv hH hL
  rw [e] at e1 e2
  obtain ⟨_, b1, b2, b3, b4⟩ := ak_ta h1 hH hL
  rw [e1, e2, b1, b2, b3, b4, qA_dgs _ (by omega)]
  refine ⟨rfl, ?_, e⟩
  congr 1
  omega
theorem pk_of_acc {l : List Nat} {v : Int} (h0 : aE (xa l) = 0) (h : tp (aF (xa l)) (aH (xa l)) (aL (xa l)) v = l) : aF (xa l) = rF l ∧ aH (xa l) = rH l ∧ aL (xa l) = rL l ∧ v = rB l ∧ 0 = rE l := by
  have hne : l ≠ [] := by
    intro e
    have e1 : xa l = [] := by rw [e]; rfl
    rw [e1] at h0
    have hk : ak [] = false := decide_eq_false (fun h => h.2.1 rfl)
    rw [← (a_bad hk).2.2.2] at h0
    omega
  obtain ⟨_, iH, iL⟩ := a7_in (xa l)
  have := pk_tp (tp_vp (by rw [h]; exact hne)) iH iL
  rw [h] at this
  exact ⟨this.2.1.symm, this.2.2.1.symm, this.2.2.2.1.symm, this.2.2.2.2.1.symm, this.2.2.2.2.2.symm⟩
theorem tp_lt7 (F H L B : Int) : ∀ x ∈ tp F H L B, x < 256 := by
  intro x hx
  unfold tp at hx
  split at hx
  · rcases List.mem_append.1 hx with h | h
    · exact ta_lt _ _ _ x h
    · rcases List.mem_cons.1 h with rfl | h
      · decide
      · have := dl_digit _ _ x h
        omega
  · cases hx
set_option maxHeartbeats 1000000 in
theorem parse_ (l : List Nat) (w : World) (hy : ∀ x ∈ l, x < 256) (hl : l.length ≤ 140737488355328) (hT : Tb w) :
    Calls Tryz.prog 144 #[.string (sb l)] w fun e w' => e = .returned (.tuple #[.agg #[.int .i64 (rF l), .int .u64 (rH l), .int .u64 (rL l), .int .i64 (rB l)], .int .i64 (rE l)]) ∧ Below w.heap.size w w' := by
  have k1 : ∀ w, Calls Tryz.prog 31 #[.string (sb l), .string ⟨#[47]⟩] w fun e w' => e = .returned (.tuple #[.string (sb (xa l)), .string (sb (xb l)), .bool (decide (ix 47 l < l.length))]) ∧ ∃ nq, w' = w.drewN nq := fun w => cut_ 47 l w (by decide) hy (by unfold maxLen; omega)
  have hxa : xa l = l.take (ix 47 l) := rfl
  have hxb : xb l = l.drop (ix 47 l + 1) := rfl
  have k2 := fun w hT => parseAddr_ (xa l) w (by rw [hxa]; exact fun z hz => hy z (List.mem_of_mem_take hz)) (by rw [hxa, List.length_take]; omega) hT
  have k3 := fun w hT => atoi_ (xb l) w (by rw [hxb, List.length_drop]; omega) hT
  obtain ⟨iF, iH, iL⟩ := a7_in (xa l)
  have HB := hid (fun h => r_bad (l := l) h)
  have HK := hid (fun (h : pk l = true) => acc_of_pk h)
  have HA := hid (fun v h0 h => pk_of_acc (l := l) (v := v) h0 h)
  have HI := hid (fun F H L B (h : sb (tp F H L B) = sb l) => sb_inj (tp_lt7 F H L B) hy h)
  have HV := hid (fun v h => qA_in (l := xb l) (v := v) h)
  have B0 := pnew w 0 0 0 0
  have m0 := Pm.new w 0 0 0 0
  clear hxa hxb
  generalize sb (xa l) = SA at *
  generalize sb (xb l) = SB at *
  generalize aF (xa l) = F at *
  generalize aH (xa l) = H at *
  generalize aL (xa l) = L at *
  generalize aE (xa l) = E at *
  generalize qA (xb l) = Q at *
  obtain ⟨S, HS⟩ : ∃ S, Hid (sb l = S) := ⟨_, rfl⟩
  simp only [HS.out] at k1 HI
  rw [HS.out]
  go_enter Tryz.func144, Tryz.ntmps144
  go_wp2_with fail
  refine (k1 _).mono ?_
  rintro e w1 ⟨rfl, nq, rfl⟩
  replace m0 : Pm ((w.alloc (.cells #[.int .i64 0, .int .u64 0, .int .u64 0, .int .i64 0] 68)).drewN nq) w.heap.size 0 0 0 0 := m0
  replace B0 := bel_drawn B0 nq
  generalize (w.alloc (.cells #[.int .i64 0, .int .u64 0, .int .u64 0, .int .i64 0] 68)).drewN nq = w1 at *
  clear k1
  go_wp2_with fail
  refine (k2 _ (hT.kept B0)).mono ?_
  rintro e w2 ⟨rfl, g2⟩
  replace m0 := m0.kept g2
  replace B0 := bel_bel B0 B0.size g2
  clear g2 k2
  have m1 := Am.new w2 F H L
  have c0 := m1.c0
  have c1 := m1.c1
  have c2 := m1.c2
  replace m0 := m0.alloc (.cells #[.int .i64 F, .int .u64 H, .int .u64 L] 66)
  replace B0 := B0.alloc B0.size (.cells #[.int .i64 F, .int .u64 H, .int .u64 L] 66)
  have hTq := hT.kept B0
  go_wp2_with fail
  generalize w2.alloc (.cells #[.int .i64 F, .int .u64 H, .int .u64 L] 66) = w3 at *
  generalize w2.heap.size = g2 at *
  clear c0 c1 c2
  refine (k3 _ hTq).mono ?_
  rintro e w4 ⟨hA, g3⟩
  replace m0 := m0.kept g3
  replace m1 := m1.kept g3
  replace B0 := bel_bel B0 B0.size g3
  clear g3 k3 hTq
  have c0 := m1.c0
  have c1 := m1.c1
  have c2 := m1.c2
  cases Q with
  | none =>
    obtain ⟨v, tt, pp', rfl⟩ : ∃ (v : Int) (t : TypeId) (p : Value), e = .returned (.tuple #[.int .i64 v, .iface t p]) := hA
    have HE := hid (HB.out (by
      cases hk : pk l with
      | false => rfl
      | true => exact absurd (HK.out hk).2.1 (by simp)))
    replace m0 := m0.alloc (.cells #[.int .i64 F, .int .u64 H, .int .u64 L, .int .i64 v] 68)
    replace B0 := B0.alloc B0.size (.cells #[.int .i64 F, .int .u64 H, .int .u64 L, .int .i64 v] 68)
    clear HB HK HA HI HV
    by_cases hE0 : E = 0
    · subst hE0
      go_wp2_with (refine wpList_spx rfl rfl _ _ rfl w.heap.size 0 0 0 0 rfl rfl _ _ _ _ m0 ?_)
      refine bodyPost_ret (v := .tuple #[.agg #[.int .i64 0, .int .u64 0, .int .u64 0, .int .i64 0], .int .i64 70]) ?_ rfl ⟨ret_r HE.out, bel_row B0 (Nat.le_refl _) _⟩
      exact results_p2 rfl _ _ w.heap.size 0 0 0 0 _ rfl rfl (m0.row _ _ _ _)
    · have hEb : (E != 0) = true := bne_iff_ne.2 hE0
      clear hE0
      go_wp2_with (refine wpList_spx rfl rfl _ _ rfl w.heap.size 0 0 0 0 rfl rfl _ _ _ _ m0 ?_)
      refine bodyPost_ret (v := .tuple #[.agg #[.int .i64 0, .int .u64 0, .int .u64 0, .int .i64 0], .int .i64 70]) ?_ rfl ⟨ret_r HE.out, bel_row B0 (Nat.le_refl _) _⟩
      exact results_p2 rfl _ _ w.heap.size 0 0 0 0 _ rfl rfl (m0.row _ _ _ _)
  | some v =>
    obtain rfl : e = .returned (.tuple #[.int .i64 v, .nilIface]) := hA
    have m2 := Pm.new w4 F H L v
    replace m0 := m0.alloc (.cells #[.int .i64 F, .int .u64 H, .int .u64 L, .int .i64 v] 68)
    replace B0 := B0.alloc B0.size (.cells #[.int .i64 F, .int .u64 H, .int .u64 L, .int .i64 v] 68)
    by_cases hE0 : E = 0
    · subst hE0
      have k4 := fun w hT => print_ F H L v w iF iH iL (HV.out v rfl) hT
      have hTq := hT.kept B0
      have d0 := m2.c0
      have d1 := m2.c1
      have d2 := m2.c2
      have d3 := m2.c3
      go_wp2_with fail
      generalize w4.alloc (.cells #[.int .i64 F, .int .u64 H, .int .u64 L, .int .i64 v] 68) = w5 at *
      generalize w4.heap.size = g4 at *
      clear d0 d1 d2 d3 c0 c1 c2
      refine (k4 _ hTq).mono ?_
      rintro e w6 ⟨rfl, g3⟩
      replace m0 := m0.kept g3
      replace m2 := m2.kept g3
      replace B0 := bel_bel B0 B0.size g3
      clear g3 k4 hTq m1
      have d0 := m2.c0
      have d1 := m2.c1
      have d2 := m2.c2
      have d3 := m2.c3
      have HII := hid (HI.out F H L v)
      obtain ⟨P, HP⟩ : ∃ P, Hid (sb (tp F H L v) = P) := ⟨_, rfl⟩
      rw [HP.out] at HII ⊢
      by_cases hps : P = S
      · have HE := hid (HA.out v trivial (HII.out hps))
        have d8 : (P.toList == S.toList) = true := by rw [hps]; exact beq_self_eq_true _
        have d8' : (P.toList != S.toList) = false := by unfold bne; rw [d8]; rfl
        clear hps HB HK HA HI HV HII HP
        go_wp2_with (refine wpList_spx rfl rfl _ _ rfl w.heap.size F H L v rfl rfl _ _ _ _ m0 ?_)
        refine bodyPost_ret (v := .tuple #[.agg #[.int .i64 F, .int .u64 H, .int .u64 L, .int .i64 v], .int .i64 0]) ?_ rfl ⟨ret_r HE.out, bel_row B0 (Nat.le_refl _) _⟩
        exact results_p2 rfl _ _ w.heap.size F H L v _ rfl rfl (m0.row _ _ _ _)
      · have HE := hid (HB.out (by
          cases hk : pk l with
          | false => rfl
          | true =>
            obtain ⟨_, h2, h3⟩ := HK.out hk
            obtain rfl := Option.some.inj h2
            exact absurd (by rw [← HP.out, h3, HS.out]) hps))
        have d8 : (P.toList == S.toList) = false := beq_eq_false_iff_ne.2 fun h => hps (toList_inj h)
        have d8' : (P.toList != S.toList) = true := by unfold bne; rw [d8]; rfl
        clear hps HB HK HA HI HV HII HP
        go_wp2_with (refine wpList_spx rfl rfl _ _ rfl w.heap.size 0 0 0 0 rfl rfl _ _ _ _ m0 ?_)
        refine bodyPost_ret (v := .tuple #[.agg #[.int .i64 0, .int .u64 0, .int .u64 0, .int .i64 0], .int .i64 70]) ?_ rfl ⟨ret_r HE.out, bel_row B0 (Nat.le_refl _) _⟩
        exact results_p2 rfl _ _ w.heap.size 0 0 0 0 _ rfl rfl (m0.row _ _ _ _)
    · have hEb : (E != 0) = true := bne_iff_ne.2 hE0
      have HE := hid (HB.out (by
        cases hk : pk l with
        | false => rfl
        | true => exact absurd (HK.out hk).1 hE0))
      clear HB HK HA HI HV hE0 m2
      go_wp2_with (refine wpList_spx rfl rfl _ _ rfl w.heap.size 0 0 0 0 rfl rfl _ _ _ _ m0 ?_)
      refine bodyPost_ret (v := .tuple #[.agg #[.int .i64 0, .int .u64 0, .int .u64 0, .int .i64 0], .int .i64 70]) ?_ rfl ⟨ret_r HE.out, bel_row B0 (Nat.le_refl _) _⟩
      exact results_p2 rfl _ _ w.heap.size 0 0 0 0 _ rfl rfl (m0.row _ _ _ _)
end Go.Proofs.YtkeogggeefnoeaaGreatDoor
namespace Go.Proofs.YtkeogggeefnoeaaGreatDoor
set_option linter.unusedSimpArgs false
open Go.RowKit
set_option linter.unusedVariables false
set_option maxRecDepth 100000

/-! Writing: what is spare; a change. -/
theorem ix_mem (c : Nat) : ∀ l : List Nat, (ix c l < l.length) ↔ c ∈ l
  | [] => by simp [ix]
  | x :: l => by
    have ih := ix_mem c l
    unfold ix
    by_cases h : x = c
    · rw [if_pos h]; simp [h]
    · rw [if_neg h, List.length_cons, List.mem_cons]
      constructor
      · intro e; exact .inr (ih.1 (by omega))
      · intro e
        rcases e with e | e
        · exact absurd e.symm h
        · have := ih.2 e; omega
theorem containsRune_ (l : List Nat) (hl : ∀ x ∈ l, x < 256) (f : Nat) (hf : f < 128) (w : World) : Calls Tryz.prog 37 #[.string (sb l), .int .i32 (f : Int)] w fun e w' => e = .returned (.bool (l.contains f)) ∧ w' = w := by
  refine (Tryz.strings_ContainsRune_ascii (sb l) (f : Int) w (by omega) (by omega)).mono ?_
  rintro e w' ⟨rfl, hw⟩
  refine ⟨?_, hw⟩
  rw [sb_data, Int.toNat_natCast, show f.toUInt8 = UInt8.ofNat f from rfl, index_ix f (by omega) l hl]
  congr 2
  by_cases h : f ∈ l
  · rw [if_pos ((ix_mem f l).2 h), decide_eq_true (by omega)]
    simp [h]
  · rw [if_neg (fun e => h ((ix_mem f l).1 e)), decide_eq_false (by omega)]
    simp [h]
def spr1 (c : Chg) (fs : List Nat) (f : Nat) : Bool := !fs.contains f && cHas c f
theorem cSpr_eq (c : Chg) (fs : List Nat) : cSpr c fs = cAll.any (spr1 c fs) := rfl
theorem any_take {p : Nat → Bool} (l : List Nat) (j : Nat) (h : j < l.length) : (l.take (j + 1)).any p = ((l.take j).any p || p (l.getD j 0)) := by
  rw [List.take_succ_eq_append_getElem h, List.any_append]
  simp [List.getD, h]
theorem any_hit {p : Nat → Bool} (l : List Nat) (j : Nat) (h : j < l.length) (e : p (l.getD j 0) = true) : l.any p = true := by
  rw [List.any_eq_true]
  exact ⟨l[j], List.getElem_mem h, by simpa [List.getD, h] using e⟩
set_option maxHeartbeats 4000000 in
theorem changeSpare_ (x : CD) (fs : List Nat) (hfs : ∀ y ∈ fs, y < 256) (w : World) : Calls Tryz.prog 104 #[cdv x, .string (sb fs)] w fun e w' => e = .returned (.bool (cSpr x.c fs)) ∧ Below w.heap.size w w' := by
  rw [cSpr_eq]
  obtain ⟨p, HPP⟩ : ∃ z, Hid (spr1 x.c fs = z) := ⟨_, rfl⟩
  rw [HPP.out]
  have HNL := hid (next_low cAll (by decide))
  have HNE := hid (next_end cAll)
  have HK1 := hid fun f hf wx => containsRune_ fs hfs f hf wx
  have HK2 := hid fun f hf wx => changeHas_ x f hf wx
  obtain ⟨FS, HFS⟩ : ∃ z, Hid (sb fs = z) := ⟨_, rfl⟩
  rw [HFS.out] at HK1 ⊢
  have HC := hid (Cv.new w x)
  have HB := hid ((Below.refl w.heap.size w).alloc (Nat.le_refl _) (.cells #[.int .i64 x.c.kd, .int .i64 x.c.lk, .int .i64 x.c.sd, .slice x.a x.c.key.length x.p, .int .i64 x.c.f, .int .u64 x.c.h, .int .u64 x.c.l, .int .i64 x.c.b] 70))
  obtain ⟨w1, HW1⟩ : ∃ z, Hid (w.alloc (.cells #[.int .i64 x.c.kd, .int .i64 x.c.lk, .int .i64 x.c.sd, .slice x.a x.c.key.length x.p, .int .i64 x.c.f, .int .u64 x.c.h, .int .u64 x.c.l, .int .i64 x.c.b] 70) = z) := ⟨_, rfl⟩
  obtain ⟨cg, HCG⟩ : ∃ z, Hid (w.heap.size = z) := ⟨_, rfl⟩
  have HSZ : Hid (w1.heap.size = cg + 1) := by show _ = _; rw [← HW1.out, ← HCG.out]; simp
  rw [HW1.out] at HC HB
  rw [HCG.out] at HC
  unfold cdv at HK2 ⊢
  clear hfs
  go_enter Tryz.func104, Tryz.ntmps104
  go_upto_region 1 with fail
  rw [HW1.out, HCG.out]
  go_wp2_with fail
  have HI0 : Hid (It (w1.alloc (.stringIter ⟨#[108, 115, 75, 80]⟩ 0)) w1.heap.size (sb cAll) 0) := heap_alloc_new w1 _
  have HB2 : Hid (Below w.heap.size w (w1.alloc (.stringIter ⟨#[108, 115, 75, 80]⟩ 0))) := HB.out.alloc HB.out.size _
  have HC2 := hid (HC.out.on ((Below.refl w1.heap.size w1).alloc (Nat.le_refl _) (.stringIter ⟨#[108, 115, 75, 80]⟩ 0)))
  obtain ⟨S, HS⟩ : ∃ z, Hid (sb cAll = z) := ⟨_, rfl⟩
  rw [HS.out] at HNL HNE HI0
  rw [HSZ.out] at HI0 ⊢
  go_loopw [6] (fun u wr => ∃ j : Nat, j ≤ 4 ∧ Hid ((cAll.take j).any p = false) ∧ Hid (It wr (cg + 1) S j) ∧ Hid (Cv wr cg x) ∧ Hid (Below w.heap.size w wr)) (fun u wr => 4 - wr.iterPos (cg + 1))
  case atStart => exact ⟨0, by omega, rfl, HI0, HC2, HB2⟩
  case round =>
    obtain ⟨j, hj, HA, HI, HV, HBW⟩ := hrel
    by_cases hlt : j < 4
    · obtain ⟨f, HF⟩ : ∃ z, Hid (cAll.getD j 0 = z) := ⟨_, rfl⟩
      have HFL : Hid (cLet f ∧ f < 128) := by
        rw [← HF.out]
        rcases (show j = 0 ∨ j = 1 ∨ j = 2 ∨ j = 3 by omega) with rfl | rfl | rfl | rfl <;> exact ⟨by simp [cLet, cAll], by decide⟩
      have hnx := HNL.out j hlt wr _ HI.out (by rw [HF.out]; exact HFL.out.2)
      rw [HF.out] at hnx
      have hit2 : It (wr.iterAt (cg + 1) S (j + 1)) (cg + 1) S (j + 1) := Lib.iterAt_heap wr _ S j (j + 1) HI.out
      have HB3 : Hid (Below w.heap.size w (wr.iterAt (cg + 1) S (j + 1))) := Lib.below_iterAt HBW.out (k := cg + 1) (by have := HCG.out; omega) S (j + 1)
      have HV3 : Hid (Cv (wr.iterAt (cg + 1) S (j + 1)) cg x) := (Lib.iterAt_other wr (cg + 1) cg S (j + 1) (by omega)).trans HV.out
      have HP1 := hid HI.out.pos
      have HI2 := hid hit2
      generalize wr.iterAt (cg + 1) S (j + 1) = w2 at *
      have k1 := HK1.out f HFL.out.2 w2
      have k2 := HK2.out f HFL.out.1 w2
      have hpf : spr1 x.c fs f = p f := by rw [HPP.out]
      have HTK := hid (any_take (p := p) cAll j hlt)
      rw [HF.out] at HTK
      have HIT := hid (any_hit (p := p) cAll j hlt)
      rw [HF.out] at HIT
      have v0 := HV3.out.c 0
      have v1 := HV3.out.c 1
      have v2 := HV3.out.c 2
      have v3 := HV3.out.c 3
      have v4 := HV3.out.c 4
      have v5 := HV3.out.c 5
      have v6 := HV3.out.c 6
      have v7 := HV3.out.c 7
      simp only [cdc, List.getElem?_cons_succ, List.getElem?_cons_zero] at v0 v1 v2 v3 v4 v5 v6 v7
      clear hit2 HI HV HBW
      cases hc : fs.contains f
      · rw [hc] at k1
        unfold spr1 at hpf
        rw [hc] at hpf
        cases hh : cHas x.c f
        · rw [hh] at k2
          have HPF : Hid (p f = false) := by rw [hh] at hpf; exact hpf.symm
          clear hpf hc hh
          go_wp2_with fail
          refine k1.mono ?_
          rintro e w3 ⟨rfl, hw⟩
          obtain rfl := hw.symm
          clear k1
          go_wp2_with fail
          refine k2.mono ?_
          rintro e w4 ⟨rfl, g4⟩
          have HB4 := hid (bel_bel HB3.out HB3.out.size g4)
          have HV4 := hid (HV3.out.on g4)
          have HI4 : Hid (It w4 (cg + 1) S (j + 1)) := (g4.block (cg + 1) (Array.getElem?_eq_some_iff.1 HI2.out).1).trans HI2.out
          clear k2 g4 v0 v1 v2 v3 v4 v5 v6 v7
          go_wp2_with fail
          go_roundw
          case rel => exact ⟨j + 1, by omega, by show _ = _; rw [HTK.out, HA.out, HPF.out]; rfl, HI4, HV4, HB4⟩
          case measure => rw [HI4.out.pos, HP1.out]; omega
        · rw [hh] at k2
          have HPF : Hid (p f = true) := by rw [hh] at hpf; exact hpf.symm
          clear hpf hc hh
          go_wp2_with fail
          refine k1.mono ?_
          rintro e w3 ⟨rfl, hw⟩
          obtain rfl := hw.symm
          clear k1
          go_wp2_with fail
          refine k2.mono ?_
          rintro e w4 ⟨rfl, g4⟩
          have HB4 := hid (bel_bel HB3.out HB3.out.size g4)
          clear k2 g4 v0 v1 v2 v3 v4 v5 v6 v7
          go_wp2_with fail
          go_ret
          exact ⟨by rw [HIT.out HPF.out]; rfl, HB4.out⟩
      · rw [hc] at k1
        unfold spr1 at hpf
        rw [hc] at hpf
        have HPF : Hid (p f = false) := by rw [← hpf]; rfl
        clear hpf hc k2
        go_wp2_with fail
        refine k1.mono ?_
        rintro e w3 ⟨rfl, hw⟩
        obtain rfl := hw.symm
        clear k1 v0 v1 v2 v3 v4 v5 v6 v7
        go_wp2_with fail
        go_roundw
        case rel => exact ⟨j + 1, by omega, by show _ = _; rw [HTK.out, HA.out, HPF.out]; rfl, HI2, HV3, HB3⟩
        case measure => rw [HI2.out.pos, HP1.out]; omega
    · obtain rfl : j = 4 := by omega
      have hnx := HNE.out wr _ HI.out
      have HR : Hid (cAll.any p = false) := HA.out
      clear HA HI
      go_wp2_with fail
      go_ret
      exact ⟨by rw [HR.out]; rfl, HBW.out⟩
end Go.Proofs.YtkeogggeefnoeaaGreatDoor
