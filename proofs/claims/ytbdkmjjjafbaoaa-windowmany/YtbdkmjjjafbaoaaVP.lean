import Derived.Test.YtbdkmjjjafbaoaaBase
import Derived.Laws.BitsAllLaws
import Derived.Laws.ShiftsVarLaws
namespace Go.Proofs.Ytbdkmjjjafbaoaa
set_option maxRecDepth 100000
set_option linter.unusedVariables false

/-! Chapter 18 without code: what a window has taken, and the ring that tells it. -/
def u64r (x : Int) : Prop := 0 ≤ x ∧ x < 18446744073709551616
def i64r (x : Int) : Prop := -9223372036854775808 ≤ x ∧ x < 9223372036854775808
/-- The greatest of what was taken; 0, if there is none. -/
def topI (T : List Int) : Int := T.foldl max 0
/-- Takes. -/
def tkB (F W : Int) (T : List Int) (c : Int) : Bool := decide (F ≤ c) && T.all fun t => decide (t ≠ c ∧ t < c + W)
/-- Mark. -/
def mkT (F W : Int) (T : List Int) (c : Int) : List Int := if tkB F W T c then T ++ [c] else T
theorem foldl_max (T : List Int) : ∀ a : Int, (∀ t ∈ T, t ≤ T.foldl max a) ∧ a ≤ T.foldl max a ∧ (T.foldl max a = a ∨ T.foldl max a ∈ T) := by
  induction T with
  | nil => intro a; simp
  | cons x r ih =>
    intro a
    obtain ⟨h1, h2, h3⟩ := ih (max a x)
    simp only [List.foldl_cons]
    refine ⟨?_, by omega, ?_⟩
    · intro t ht
      rcases List.mem_cons.1 ht with rfl | ht
      · omega
      · exact h1 t ht
    · rcases h3 with h3 | h3
      · rw [h3]
        rcases Int.le_total a x with h | h
        · exact .inr (by rw [Int.max_eq_right h]; exact List.mem_cons_self)
        · exact .inl (Int.max_eq_left h)
      · exact .inr (List.mem_cons_of_mem _ h3)
theorem top_ge {T : List Int} {t : Int} (h : t ∈ T) : t ≤ topI T := (foldl_max T 0).1 t h
theorem top_nn (T : List Int) : 0 ≤ topI T := (foldl_max T 0).2.1
theorem top_mem {T : List Int} (h : T ≠ []) (h0 : ∀ t ∈ T, 0 ≤ t) : topI T ∈ T := by
  rcases (foldl_max T 0).2.2 with h1 | h1
  · obtain ⟨x, r, rfl⟩ := List.exists_cons_of_ne_nil h
    have hx := h0 x List.mem_cons_self
    have hg : x ≤ topI (x :: r) := top_ge List.mem_cons_self
    have e : topI (x :: r) = 0 := h1
    rw [show topI (x :: r) = x by omega]
    exact List.mem_cons_self
  · exact h1
theorem top_app (T : List Int) (c : Int) : topI (T ++ [c]) = max (topI T) c := by simp [topI, List.foldl_append]
theorem top_nil : topI [] = 0 := rfl
theorem tk_iff {F W : Int} {T : List Int} {c : Int} : tkB F W T c = true ↔ F ≤ c ∧ ∀ t ∈ T, t ≠ c ∧ t < c + W := by
  simp [tkB]
theorem tk_false {F W : Int} {T : List Int} {c : Int} : tkB F W T c = false ↔ ¬ (F ≤ c ∧ ∀ t ∈ T, t ≠ c ∧ t < c + W) := by
  rw [← tk_iff]; simp
/-- What the code asks: below the floor; above the top; out of reach; the bit. -/
theorem tk_low {F W : Int} {T : List Int} {c : Int} (h : c < F) : tkB F W T c = false := tk_false.2 fun q => by omega
theorem tk_rise {F W : Int} {T : List Int} {c : Int} (hW : 0 < W) (h : F ≤ c) (h2 : T = [] ∨ topI T < c) : tkB F W T c = true := tk_iff.2 ⟨h, fun t ht => by
  rcases h2 with rfl | h2
  · cases ht
  · have := top_ge ht; omega⟩
theorem tk_far {F W : Int} {T : List Int} {c : Int} (h : T ≠ []) (h0 : ∀ t ∈ T, 0 ≤ t) (h2 : W ≤ topI T - c) : tkB F W T c = false := tk_false.2 fun q => by
  have := (q.2 _ (top_mem h h0)).2; omega
theorem tk_in {F W : Int} {T : List Int} {c : Int} (h : F ≤ c) (h2 : topI T - c < W) : tkB F W T c = decide (c ∉ T) := by
  by_cases hc : c ∈ T
  · rw [decide_eq_false (by simpa using hc)]
    exact tk_false.2 fun q => (q.2 c hc).1 rfl
  · rw [decide_eq_true hc]
    exact tk_iff.2 ⟨h, fun t ht => ⟨fun e => hc (e ▸ ht), by have := top_ge ht; omega⟩⟩

/-! The ring. -/
def wix (m : Nat) (q : Int) : Nat := (q % (m + 1 : Nat)).toNat
def bitI (x c : Int) : Bool := x.toNat.testBit (c % 64).toNat
theorem wix_lt (m : Nat) (q : Int) : wix m q < m + 1 := by
  have h1 := Int.emod_lt_of_pos q (show (0 : Int) < (m + 1 : Nat) by omega)
  have h0 := Int.emod_nonneg q (show ((m + 1 : Nat) : Int) ≠ 0 by omega)
  unfold wix; omega
theorem wix_ne {m : Nat} {q r : Int} (h : q ≠ r) (h1 : q - r ≤ m) (h2 : r - q ≤ m) : wix m q ≠ wix m r := by
  intro e
  have a1 := Int.emod_nonneg q (show ((m + 1 : Nat) : Int) ≠ 0 by omega)
  have a2 := Int.emod_nonneg r (show ((m + 1 : Nat) : Int) ≠ 0 by omega)
  have e2 : q % (m + 1 : Nat) = r % (m + 1 : Nat) := by unfold wix at e; omega
  have e3 : (q - r) % (m + 1 : Nat) = 0 := Int.emod_eq_emod_iff_emod_sub_eq_zero.1 e2
  have e4 := Int.emod_add_mul_ediv (q - r) (m + 1 : Nat)
  rw [e3] at e4
  generalize hd : (q - r) / ((m + 1 : Nat) : Int) = d at e4
  rcases Int.lt_trichotomy d 0 with hl | hl | hl
  · have := Int.mul_le_mul_of_nonneg_left (show d ≤ -1 by omega) (show (0 : Int) ≤ (m + 1 : Nat) by omega)
    omega
  · subst hl; omega
  · have := Int.mul_le_mul_of_nonneg_left (show 1 ≤ d by omega) (show (0 : Int) ≤ (m + 1 : Nat) by omega)
    omega
structure Ri (m : Nat) (T R : List Int) : Prop where
  len : R.length = m + 1
  wd : ∀ i, u64r (R.getD i 0)
  ok : ∀ t ∈ T, u64r t
  zero : T = [] → ∀ i, R.getD i 0 = 0
  bit : T ≠ [] → ∀ c : Int, 0 ≤ c → c / 64 ≤ topI T / 64 → topI T / 64 - c / 64 ≤ m → (bitI (R.getD (wix m (c / 64)) 0) c = true ↔ c ∈ T)
theorem getD_set (R : List Int) (i k : Nat) (x : Int) (h : i < R.length) : (R.set i x).getD k 0 = if k = i then x else R.getD k 0 := by
  simp only [List.getD, List.getElem?_set]
  by_cases e : i = k
  · subst e; simp [h]
  · simp [e, Ne.symm e]
theorem Ri.top {m : Nat} {T R : List Int} (h : Ri m T R) : u64r (topI T) := by
  by_cases e : T = []
  · subst e; exact ⟨by decide, by decide⟩
  · exact h.ok _ (top_mem e fun t ht => (h.ok t ht).1)
theorem Ri.new (m : Nat) : Ri m [] (List.replicate (m + 1) 0) := by
  have hz : ∀ i, (List.replicate (m + 1) (0 : Int)).getD i 0 = 0 := fun i => by
    simp only [List.getD, List.getElem?_replicate]; split <;> rfl
  exact ⟨by simp, fun i => by rw [hz]; exact ⟨by decide, by decide⟩, by simp, fun _ => hz, fun h => absurd rfl h⟩
/-- The words behind one are cleared, so many. -/
def clr (m : Nat) (R : List Int) (f : Int) : Nat → List Int
  | 0 => R
  | n + 1 => (clr m R f n).set (wix m (f + 1 + n)) 0
theorem clr_len (m : Nat) (R : List Int) (f : Int) (n : Nat) : (clr m R f n).length = R.length := by
  induction n with
  | zero => rfl
  | succ n ih => simp [clr, ih]
theorem clr_kept {m : Nat} {R : List Int} {f : Int} (hR : R.length = m + 1) {n k : Nat} (h : ∀ i : Nat, i < n → wix m (f + 1 + i) ≠ k) : (clr m R f n).getD k 0 = R.getD k 0 := by
  induction n with
  | zero => rfl
  | succ n ih =>
    rw [clr, getD_set _ _ _ _ (by rw [clr_len, hR]; exact wix_lt m _), if_neg (Ne.symm (h n (by omega)))]
    exact ih fun i hi => h i (by omega)
theorem clr_zero {m : Nat} {R : List Int} {f : Int} (hR : R.length = m + 1) {n k : Nat} (h : R.getD k 0 = 0 ∨ ∃ i : Nat, i < n ∧ wix m (f + 1 + i) = k) : (clr m R f n).getD k 0 = 0 := by
  induction n with
  | zero => rcases h with h | ⟨i, hi, _⟩; exact h; omega
  | succ n ih =>
    rw [clr, getD_set _ _ _ _ (by rw [clr_len, hR]; exact wix_lt m _)]
    split
    · rfl
    · rename_i e
      apply ih
      rcases h with h | ⟨i, hi, he⟩
      · exact .inl h
      · by_cases hin : i = n
        · subst hin; exact absurd he.symm e
        · exact .inr ⟨i, by omega, he⟩
theorem clr_wd {m : Nat} {R : List Int} {f : Int} (hR : R.length = m + 1) (hw : ∀ i, u64r (R.getD i 0)) (n k : Nat) : u64r ((clr m R f n).getD k 0) := by
  by_cases h : ∃ i : Nat, i < n ∧ wix m (f + 1 + i) = k
  · rw [clr_zero hR (.inr h)]; exact ⟨by decide, by decide⟩
  · rw [clr_kept hR fun i hi e => h ⟨i, hi, e⟩]; exact hw k
/-- The ring that has room for a number above the top: nothing stands in its words that was not taken. -/
structure Rm (m : Nat) (T R : List Int) (c : Int) : Prop where
  len : R.length = m + 1
  wd : ∀ i, u64r (R.getD i 0)
  bit : ∀ x : Int, 0 ≤ x → x / 64 ≤ c / 64 → c / 64 - x / 64 ≤ m → (bitI (R.getD (wix m (x / 64)) 0) x = true ↔ x ∈ T)
theorem bit_zero (x : Int) : bitI 0 x = false := by simp [bitI]
theorem Ri.room_all {m : Nat} {T R : List Int} (h : Ri m T R) {c : Int} (hc : (m + 1 : Nat) ≤ c / 64 - topI T / 64) : Rm m T (List.replicate (m + 1) 0) c := by
  have hn := Ri.new m
  refine ⟨hn.len, hn.wd, fun x h0 h1 h2 => ?_⟩
  rw [hn.zero rfl, bit_zero]
  refine ⟨fun q => by simp at q, fun q => ?_⟩
  have := top_ge q
  have : x / 64 ≤ topI T / 64 := Int.ediv_le_ediv (by decide) this
  omega
theorem Ri.room {m : Nat} {T R : List Int} (h : Ri m T R) {c : Int} (hT : T = [] ∨ topI T < c) (n : Nat) (hn : c / 64 - topI T / 64 = n) (hm : n < m + 1) : Rm m T (clr m R (topI T / 64) n) c := by
  refine ⟨by rw [clr_len, h.len], clr_wd h.len h.wd n, fun x h0 h1 h2 => ?_⟩
  by_cases e : T = []
  · rw [clr_zero h.len (.inl (h.zero e _)), bit_zero, e]; simp
  by_cases hx : x / 64 ≤ topI T / 64
  · rw [clr_kept h.len fun i hi => wix_ne (by omega) (by omega) (by omega)]
    exact h.bit e x h0 hx (by omega)
  · rw [clr_zero h.len (.inr ⟨(x / 64 - topI T / 64 - 1).toNat, by omega, by congr 1; omega⟩), bit_zero]
    refine ⟨fun q => by simp at q, fun q => ?_⟩
    have := top_ge q
    have : x / 64 ≤ topI T / 64 := Int.ediv_le_ediv (by decide) this
    omega
theorem or_wd {x c : Int} (h : u64r x) : u64r (((x.toNat ||| 2 ^ (c % 64).toNat : Nat)) : Int) := by
  have h1 : x.toNat < 2 ^ 64 := by have := h.1; have := h.2; omega
  have h2 : 2 ^ (c % 64).toNat < 2 ^ 64 := Nat.pow_lt_pow_right (by decide) (by omega)
  have := Nat.or_lt_two_pow h1 h2
  exact ⟨by omega, by omega⟩
theorem bit_or {x c y : Int} : bitI (((x.toNat ||| 2 ^ (c % 64).toNat : Nat)) : Int) y = (bitI x y || decide (c % 64 = y % 64)) := by
  unfold bitI
  rw [Int.toNat_natCast, Nat.testBit_or, Nat.testBit_two_pow]
  congr 1
  have h1 := Int.emod_nonneg c (show (64 : Int) ≠ 0 by decide)
  have h2 := Int.emod_nonneg y (show (64 : Int) ≠ 0 by decide)
  simp only [decide_eq_decide]
  omega
/-- A number above the top is put in. -/
theorem Rm.put {m : Nat} {T R : List Int} {c : Int} (h : Rm m T R c) (hok : ∀ t ∈ T, u64r t) (hc : u64r c) (hT : T = [] ∨ topI T < c) : Ri m (T ++ [c]) (R.set (wix m (c / 64)) (((R.getD (wix m (c / 64)) 0).toNat ||| 2 ^ (c % 64).toNat : Nat) : Int)) := by
  have hl : wix m (c / 64) < R.length := by rw [h.len]; exact wix_lt m _
  have ht : topI (T ++ [c]) = c := by
    rw [top_app]
    rcases hT with rfl | hT
    · rw [top_nil]; have := hc.1; omega
    · omega
  refine ⟨by simp [h.len], fun i => ?_, fun t ht => ?_, fun e => by simp at e, fun _ x h0 h1 h2 => ?_⟩
  · rw [getD_set _ _ _ _ hl]
    split
    · exact or_wd (h.wd _)
    · exact h.wd i
  · rcases List.mem_append.1 ht with q | q
    · exact hok t q
    · rw [List.mem_singleton.1 q]; exact hc
  · rw [ht] at h1 h2
    rw [getD_set _ _ _ _ hl]
    by_cases e : x / 64 = c / 64
    · rw [e, if_pos rfl, bit_or]
      have hb := h.bit x h0 h1 h2
      rw [e] at hb
      simp only [Bool.or_eq_true, decide_eq_true_eq, hb, List.mem_append, List.mem_singleton]
      constructor
      · rintro (q | q)
        · exact .inl q
        · exact .inr (by omega)
      · rintro (q | q)
        · exact .inl q
        · exact .inr (by omega)
    · rw [if_neg (wix_ne e (by omega) (by omega)), h.bit x h0 h1 h2]
      simp only [List.mem_append, List.mem_singleton]
      exact ⟨.inl, fun q => by rcases q with q | q; exact q; exact absurd (by rw [q]) e⟩
/-- A number below the top is put in. -/
theorem Ri.put {m : Nat} {T R : List Int} {c : Int} (h : Ri m T R) (hc : u64r c) (hT : T ≠ []) (h1 : c ≤ topI T) (h2 : topI T - c < 64 * (m : Int)) : Ri m (T ++ [c]) (R.set (wix m (c / 64)) (((R.getD (wix m (c / 64)) 0).toNat ||| 2 ^ (c % 64).toNat : Nat) : Int)) := by
  have hl : wix m (c / 64) < R.length := by rw [h.len]; exact wix_lt m _
  have ht : topI (T ++ [c]) = topI T := by rw [top_app]; omega
  have hc1 : c / 64 ≤ topI T / 64 := by omega
  have hc2 : topI T / 64 - c / 64 ≤ m := by omega
  refine ⟨by simp [h.len], fun i => ?_, fun t ht => ?_, fun e => by simp at e, fun _ x h0 h1 h2 => ?_⟩
  · rw [getD_set _ _ _ _ hl]
    split
    · exact or_wd (h.wd _)
    · exact h.wd i
  · rcases List.mem_append.1 ht with q | q
    · exact h.ok t q
    · rw [List.mem_singleton.1 q]; exact hc
  · rw [ht] at h1 h2
    rw [getD_set _ _ _ _ hl]
    by_cases e : x / 64 = c / 64
    · rw [e, if_pos rfl, bit_or]
      have hb := h.bit hT x h0 h1 h2
      rw [e] at hb
      simp only [Bool.or_eq_true, decide_eq_true_eq, hb, List.mem_append, List.mem_singleton]
      constructor
      · rintro (q | q)
        · exact .inl q
        · exact .inr (by omega)
      · rintro (q | q)
        · exact .inl q
        · exact .inr (by omega)
    · rw [if_neg (wix_ne e (by omega) (by omega)), h.bit hT x h0 h1 h2]
      simp only [List.mem_append, List.mem_singleton]
      exact ⟨.inl, fun q => by rcases q with q | q; exact q; exact absurd (by rw [q]) e⟩
/-- What Takes reads. -/
theorem Ri.told {m : Nat} {T R : List Int} {c F : Int} (h : Ri m T R) (hc : u64r c) (hF : F ≤ c) (hT : T ≠ []) (h1 : c ≤ topI T) (h2 : topI T - c < 64 * (m : Int)) : tkB F (64 * (m : Int)) T c = ! bitI (R.getD (wix m (c / 64)) 0) c := by
  rw [tk_in hF h2]
  have hb := h.bit hT c hc.1 (by omega) (by omega)
  cases e : bitI (R.getD (wix m (c / 64)) 0) c
  · rw [e] at hb; simpa using hb
  · rw [e] at hb; simpa using hb
end Go.Proofs.Ytbdkmjjjafbaoaa
