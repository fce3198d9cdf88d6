import Derived.Test.YtohfdkhlpghbcaaSI
import Derived.Test.YtohfdkhlpghbcaaRP
namespace Go.Proofs.Ytohfdkhlpghbcaa
set_option maxRecDepth 100000
open Go.RowKit
set_option linter.unusedVariables false

/-! What a row says of a peer. -/
def gx (l : List Int) : Px := ⟨qF l, qH l, qL l, qB l⟩
/-- What is left behind j prefixes. -/
def crs (l : List Int) : Nat → List Int
  | 0 => l
  | j + 1 => (crs l j).drop (qN (crs l j)).toNat
def cpl (l : List Int) (j : Nat) : List Px := (List.range j).map fun i => gx (crs l i)
def cat (l : List Int) : Nat → Nat
  | 0 => 0
  | j + 1 => cat l j + (qN (crs l j)).toNat
theorem crs_drop (l : List Int) : ∀ j, crs l j = l.drop (cat l j)
  | 0 => rfl
  | j + 1 => by rw [crs, cat, crs_drop l j, List.drop_drop]
theorem cpl_succ (l : List Int) (j : Nat) : cpl l (j + 1) = cpl l j ++ [gx (crs l j)] := by simp [cpl, List.range_succ]
theorem cpl_length (l : List Int) (j : Nat) : (cpl l j).length = j := by simp [cpl]
theorem cpl_at (l : List Int) {i j : Nat} (h : i < j) : (cpl l j).getD i px0 = gx (crs l i) := by simp [cpl, List.getD, h]
theorem qN_in (l : List Int) : 0 ≤ qN l ∧ qN l ≤ l.length ∧ qN l ≤ 18 := by
  cases h : gk l with
  | false => rw [(q7_bad h).2.2.2.2.1]; omega
  | true =>
    rw [(q7_good h).2.2.2.2.1]
    unfold gk at h
    have := of_decide_eq_true (Bool.and_eq_true_iff.1 h).1
    have h18 : gm l ≤ 16 := by
      unfold gm nb
      split
      · omega
      · split <;> omega
    omega
theorem crs_byte {l : List Int} (hb : Okb l) (j : Nat) : Okb (crs l j) := by
  rw [crs_drop]
  exact fun z hz => hb z (List.mem_of_mem_drop hz)
theorem crs_len (l : List Int) (j : Nat) : (crs l j).length ≤ l.length := by rw [crs_drop, List.length_drop]; omega
theorem cat_le (l : List Int) : ∀ j, cat l j ≤ l.length
  | 0 => by rw [cat]; omega
  | j + 1 => by
    rw [cat]
    have h := qN_in (crs l j)
    have h2 := cat_le l j
    rw [crs_drop, List.length_drop] at h
    have h3 : (qN (l.drop (cat l j))).toNat ≤ l.length - cat l j := by omega
    rw [crs_drop]
    omega
theorem gx_ok {l : List Int} (hb : Okb l) : (gx l).ok := by
  cases h : gk l with
  | false =>
    obtain ⟨h1, h2, h3, h4, -⟩ := q7_bad h
    unfold gx
    rw [h1, h2, h3, h4]
    exact ⟨by unfold InI; simp, by unfold InU; simp, by unfold InU; simp, by unfold InI; simp⟩
  | true =>
    obtain ⟨h1, h2, h3, h4, -⟩ := q7_good h
    have hb0 := getD_byte6 hb 0
    have hb1 := getD_byte6 hb 1
    have hbs : ∀ z ∈ gs7 l, 0 ≤ z ∧ z ≤ 255 := fun z hz => hb z (List.mem_of_mem_drop (List.mem_of_mem_take hz))
    have hl : (gs7 l).length ≤ 16 := by
      unfold gs7
      rw [List.length_take]
      have : gm l ≤ 16 := by
        unfold gm nb
        split
        · omega
        · split <;> omega
      omega
    obtain ⟨u1, u2⟩ := aval_in hbs rfl hl
    unfold gx
    rw [h1, h2, h3, h4]
    exact ⟨by show InI (g0 l); unfold InI g0; omega, u1, u2, by show InI (l.getD 1 0); unfold InI; omega⟩
theorem cpl_ok {l : List Int} (hb : Okb l) (j : Nat) : ∀ x ∈ cpl l j, x.ok := by
  intro x hx
  obtain ⟨i, _, rfl⟩ := List.mem_map.1 hx
  exact gx_ok (crs_byte hb i)
theorem vp_zero : vp 0 0 0 0 = false := by decide
/-- Prefixes that stand in order were all there. -/
theorem Pg_all {l : List Int} {n : Nat} (h : Pg (cpl l n) n) {j : Nat} (hj : j < n) : gk (crs l j) = true := by
  cases hg : gk (crs l j) with
  | true => rfl
  | false =>
    exfalso
    have := (h j hj).1
    rw [cpl_at l hj] at this
    obtain ⟨h1, h2, h3, h4, -⟩ := q7_bad hg
    unfold gx at this
    simp only [h1, h2, h3, h4] at this
    rw [vp_zero] at this
    cases this
/-- The row is a peer's: its link, its key, its prefixes. -/
def xK (k : List Int) : Int := rdN k 1 4
def xn (v : List Int) : Nat := (v.getD 32 0).toNat
def xP (v : List Int) : List Px := cpl (v.drop 33) (xn v)
def Gp (k v : List Int) : Prop := k.length = 5 ∧ 33 ≤ v.length ∧ Pk (xK k) 32 (xP v) ∧ peK (xK k) = k ∧ peV (v.take 32) (xP v) = v
/-! What readPeer reads. -/
def wK (k : List Int) : Int := gv 4 (gl 1 k 0) (ge 1 k 0)
def wk (v : List Int) : List Int := bz 32 v 0
def wn (v : List Int) : Int := gv 1 (gl 32 v 0) (ge 32 v 0)
def wl (v : List Int) : List Int := gl 1 (gl 32 v 0) (ge 32 v 0)
def we (v : List Int) : Int := ge 1 (gl 32 v 0) (ge 32 v 0)
def wR (v : List Int) : List Int := bz (ln (wl v) (we v)) (wl v) (we v)
def wP (v : List Int) : List Px := cpl (wR v) (wn v).toNat
theorem w_whole {k v : List Int} (hk : k.length = 5) (hv : 33 ≤ v.length) : wK k = xK k ∧ wk v = v.take 32 ∧ wn v = v.getD 32 0 ∧ wR v = v.drop 33 := by
  obtain ⟨a1, a2, -, a4⟩ := g_yes (W := 1) (l := k) (p := 0) (by omega)
  obtain ⟨b1, b2, -, b4⟩ := g_yes (W := 4) (l := k.drop 1) (p := 0) (by rw [List.length_drop]; omega)
  obtain ⟨c1, c2, -, c4⟩ := g_yes (W := 32) (l := v) (p := 0) (by omega)
  obtain ⟨d1, d2, -, d4⟩ := g_yes (W := 1) (l := v.drop 32) (p := 0) (by rw [List.length_drop]; omega)
  refine ⟨?_, ?_, ?_, ?_⟩
  · unfold wK xK rdN
    rw [a2, a4, b1, if_pos (by omega)]
  · unfold wk bz
    rw [if_pos ⟨rfl, by omega⟩]
  · unfold wn
    rw [c2, c4, d1]
    have hlt : 32 < v.length := by omega
    have e : (v.drop 32).take 1 = [v[32]] := by
      rw [List.drop_eq_getElem_cons hlt]
      rfl
    rw [e]
    simp [val, List.getD, hlt]
  · unfold wR bz ln wl we
    rw [c2, c4, d2, d4, if_pos rfl, if_pos ⟨rfl, Nat.le_refl _⟩, List.take_of_length_le (Nat.le_refl _), List.drop_drop]
theorem peK_length (K : Int) : (peK K).length = 5 := by unfold peK; rw [List.length_append, be_length]; rfl
theorem peV_length (k : List Int) (ps : List Px) : k.length + 1 ≤ (peV k ps).length := by
  unfold peV
  rw [List.length_append, List.length_append]
  simp
/-- The code takes a row where the document does. -/
theorem gp_code {k v : List Int} : (Pk (wK k) (wk v).length (wP v) ∧ peK (wK k) = k ∧ peV (wk v) (wP v) = v) ↔ Gp k v := by
  constructor
  · rintro ⟨h1, h2, h3⟩
    have hk : k.length = 5 := by rw [← h2, peK_length]
    have h32 : (wk v).length = 32 := h1.2.2.1
    have hv : 33 ≤ v.length := by
      have := peV_length (wk v) (wP v)
      rw [h3, h32] at this
      omega
    obtain ⟨e1, e2, e3, e4⟩ := w_whole hk hv
    have eP : wP v = xP v := by unfold wP xP xn; rw [e3, e4]
    rw [h32] at h1
    rw [e1, eP] at h1
    rw [e1] at h2
    rw [e2, eP] at h3
    exact ⟨hk, hv, h1, h2, h3⟩
  · rintro ⟨hk, hv, h1, h2, h3⟩
    obtain ⟨e1, e2, e3, e4⟩ := w_whole hk hv
    have eP : wP v = xP v := by unfold wP xP xn; rw [e3, e4]
    rw [e1, e2, eP]
    exact ⟨by rw [List.length_take, Nat.min_eq_left (by omega)]; exact h1, h2, h3⟩
/-! Get of what Put answered. -/
theorem val_pa {F H L : Int} (hv : va F H L = true) (hH : InU H) (hL : InU L) : ah (pa F H L) = H ∧ al (pa F H L) = L := by
  obtain ⟨-, h2⟩ := va_in hv hH hL
  unfold ah al pa
  rw [hv, if_pos rfl, val_be]
  have hb : 0 ≤ ad H L ∧ ad H L < 256 ^ (nb F / 8) := by
    have h := of_decide_eq_true (show decide _ = true from hv)
    unfold ad nb InU at *
    rcases h with rfl | ⟨rfl, rfl, h⟩
    · refine ⟨by omega, ?_⟩
      show _ < (256 : Int) ^ 16
      omega
    · refine ⟨by omega, ?_⟩
      show _ < (256 : Int) ^ 4
      omega
  rw [Int.emod_eq_of_lt hb.1 hb.2]
  unfold ad InU at *
  omega
theorem gk_pp {F H L B : Int} (t : List Int) (hv : vp F H L B = true) (hH : InU H) (hL : InU L) : gk (pp F H L B ++ t) = true ∧ qF (pp F H L B ++ t) = F ∧ qH (pp F H L B ++ t) = H ∧ qL (pp F H L B ++ t) = L ∧ qB (pp F H L B ++ t) = B ∧ qN (pp F H L B ++ t) = ((pp F H L B).length : Nat) ∧ qE (pp F H L B ++ t) = 0 := by
  obtain ⟨ha, _⟩ := vp_in hv
  obtain ⟨hn, _⟩ := va_in ha hH hL
  have hl : (pa F H L).length = nb F / 8 := by rw [pa_length, ha]; rfl
  have e : pp F H L B ++ t = F :: B :: (pa F H L ++ t) := by unfold pp; rw [hv]; rfl
  have el : (pp F H L B).length = 2 + nb F / 8 := by
    unfold pp
    rw [hv, if_pos rfl, List.length_cons, List.length_cons, hl]
    omega
  have e0 : g0 (pp F H L B ++ t) = F := by rw [e]; rfl
  have e1 : (pp F H L B ++ t).getD 1 0 = B := by rw [e]; rfl
  have em : gm (pp F H L B ++ t) = nb F / 8 := by unfold gm; rw [e0]
  have es : gs7 (pp F H L B ++ t) = pa F H L := by
    unfold gs7
    rw [em, e]
    show (pa F H L ++ t).take (nb F / 8) = _
    rw [← hl, List.take_left]
  obtain ⟨v1, v2⟩ := val_pa ha hH hL
  have hk : gk (pp F H L B ++ t) = true := by
    unfold gk
    rw [em, e0, es, v1, v2, e1, hv, Bool.and_true, List.length_append, el]
    exact decide_eq_true ⟨by omega, by omega, by omega⟩
  obtain ⟨q1, q2, q3, q4, q5, q6⟩ := q7_good hk
  rw [e0] at q1
  rw [es, v1] at q2
  rw [es, v2] at q3
  rw [e1] at q4
  rw [em] at q5
  exact ⟨hk, q1, q2, q3, q4, by rw [q5, el], q6⟩
end Go.Proofs.Ytohfdkhlpghbcaa
