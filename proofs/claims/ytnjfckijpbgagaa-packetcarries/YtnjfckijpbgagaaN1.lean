import Derived.WalkKit
namespace Go.Proofs.Ytnjfckijpbgagaa
set_option maxRecDepth 100000
set_option linter.unusedVariables false

/-- The lowest j bytes of x, the highest first. -/
def be : Nat → Int → List Int
  | 0, _ => []
  | j + 1, x => (x / 256 ^ j % 256) :: be j x
theorem be_length (j : Nat) (x : Int) : (be j x).length = j := by induction j with
  | zero => rfl
  | succ j ih => simp [be, ih]
theorem be_byte (j : Nat) (x : Int) : ∀ z ∈ be j x, 0 ≤ z ∧ z ≤ 255 := by
  induction j with
  | zero => intro z hz; simp [be] at hz
  | succ j ih =>
    intro z hz
    rw [be] at hz
    rcases List.mem_cons.1 hz with rfl | hz
    · omega
    · exact ih z hz

/-- The number that these bytes are, the highest first. -/
def val (zs : List Int) : Int := zs.foldl (fun x b => x * 256 + b) 0
theorem val_snoc (l : List Int) (b : Int) : val (l ++ [b]) = val l * 256 + b := by simp [val]
theorem fold_bound (l : List Int) : ∀ (x : Int) (m : Nat), (∀ z ∈ l, 0 ≤ z ∧ z ≤ 255) → 0 ≤ x → x < 256 ^ m → 0 ≤ l.foldl (fun x b => x * 256 + b) x ∧ l.foldl (fun x b => x * 256 + b) x < 256 ^ (m + l.length) := by
  induction l with
  | nil => intro x m _ h0 h1; exact ⟨h0, h1⟩
  | cons b l ih =>
    intro x m h h0 h1
    have hb := h b (by simp)
    have := ih (x * 256 + b) (m + 1) (fun z hz => h z (by simp [hz])) (by omega) (by rw [Int.pow_succ]; omega)
    rw [show m + 1 + l.length = m + (b :: l).length from by simp; omega] at this
    exact this
theorem val_bound (l : List Int) (h : ∀ z ∈ l, 0 ≤ z ∧ z ≤ 255) : 0 ≤ val l ∧ val l < 256 ^ l.length := by
  have := fold_bound l 0 0 h (by omega) (by decide)
  rwa [Nat.zero_add] at this
theorem fold_val (l : List Int) : ∀ x : Int, l.foldl (fun x b => x * 256 + b) x = x * 256 ^ l.length + val l := by
  induction l with
  | nil => intro x; simp [val]
  | cons b l ih =>
    intro x
    have e : val (b :: l) = b * 256 ^ l.length + val l := by
      show List.foldl _ (0 * 256 + b) l = _
      rw [ih]; simp
    rw [List.foldl_cons, ih, e, List.length_cons, Int.pow_succ, Int.add_mul, Int.mul_assoc, Int.mul_comm 256, Int.add_assoc]
theorem val_cons (b : Int) (l : List Int) : val (b :: l) = b * 256 ^ l.length + val l := by
  show List.foldl _ (0 * 256 + b) l = _
  rw [fold_val]; simp
theorem emod_step (x m : Int) (hm : 0 < m) : x / m % 256 * m + x % m = x % (m * 256) := by
  have h1 := Int.mul_ediv_add_emod x m
  have h2 := Int.mul_ediv_add_emod (x / m) 256
  have r0 := Int.emod_nonneg x (show m ≠ 0 by omega)
  have r1 := Int.emod_lt_of_pos x hm
  have q0 := Int.emod_nonneg (x / m) (show (256 : Int) ≠ 0 by omega)
  have q1 := Int.emod_lt_of_pos (x / m) (show (0 : Int) < 256 by omega)
  generalize x / m = q at *
  generalize x % m = r at *
  generalize q / 256 = u at *
  generalize q % 256 = v at *
  have e : x = (v * m + r) + (m * 256) * u := by
    rw [← h1, ← h2, Int.mul_add, Int.mul_assoc, Int.mul_comm m v, ← Int.mul_assoc]; omega
  have b1 : v * m + r < m * 256 := by
    have : v * m ≤ 255 * m := Int.mul_le_mul_of_nonneg_right (by omega) (by omega)
    omega
  have b0 : 0 ≤ v * m + r := by have := Int.mul_nonneg q0 (Int.le_of_lt hm); omega
  rw [e, Int.add_mul_emod_self_left, Int.emod_eq_of_lt b0 b1]
theorem val_be (w : Nat) (x : Int) : val (be w x) = x % 256 ^ w := by
  induction w with
  | zero => simp [be, val]
  | succ w ih => rw [be, val_cons, be_length, ih, Int.pow_succ]; exact emod_step x _ (Int.pow_pos (by omega))

theorem be_congr (j : Nat) (x y : Int) (h : x % 256 ^ j = y % 256 ^ j) : be j x = be j y := by
  have e : ∀ (j : Nat) (x : Int), be j x = be j (x % 256 ^ j) := fun j => by
    induction j with
    | zero => intro x; rfl
    | succ j ih =>
      intro x
      have hp : (0 : Int) < 256 ^ j := Int.pow_pos (by omega)
      rw [be, be, ih x, ih (x % 256 ^ (j + 1))]
      have h1 : x % 256 ^ (j + 1) % 256 ^ j = x % 256 ^ j := Int.emod_emod_of_dvd x ⟨256, by rw [Int.pow_succ]⟩
      have h2 : x / 256 ^ j % 256 = x % 256 ^ (j + 1) / 256 ^ j % 256 := by
        have e1 := Int.mul_ediv_add_emod x (256 ^ (j + 1))
        have e2 : x / 256 ^ j = x % 256 ^ (j + 1) / 256 ^ j + 256 * (x / 256 ^ (j + 1)) := by
          conv => lhs; rw [← e1, Int.pow_succ, Int.mul_assoc, Int.add_comm, Int.add_mul_ediv_left _ _ (by omega)]
          rw [Int.pow_succ]
        rw [e2, Int.add_mul_emod_self_left]
      rw [h1, h2]
  rw [e j x, e j y, h]
theorem be_val (l : List Int) (h : ∀ z ∈ l, 0 ≤ z ∧ z ≤ 255) : be l.length (val l) = l := by
  induction l with
  | nil => rfl
  | cons b l ih =>
    have hb := h b (by simp)
    have hl : ∀ z ∈ l, 0 ≤ z ∧ z ≤ 255 := fun z hz => h z (by simp [hz])
    obtain ⟨v0, v1⟩ := val_bound l hl
    have hp : (0 : Int) < 256 ^ l.length := Int.pow_pos (by omega)
    rw [List.length_cons, be, val_cons]
    congr 1
    · rw [Int.add_comm, Int.add_mul_ediv_right _ _ (by omega), Int.ediv_eq_zero_of_lt v0 v1, Int.zero_add, Int.emod_eq_of_lt hb.1 (by omega)]
    · have e : be l.length (b * 256 ^ l.length + val l) = be l.length (val l) := be_congr _ _ _ (by rw [Int.add_comm, Int.add_mul_emod_self_right])
      rw [e, ih hl]

/-! Stamps. -/
def vld (s n : Int) : Bool := decide (0 ≤ s ∧ 0 ≤ n ∧ n ≤ 999999999)
def lss (s n s' n' : Int) : Bool := decide (s < s' ∨ (s = s' ∧ n < n'))
def big (s n : Int) : Bool := decide (s = 9223372036854775807 ∧ n = 999999999)
/-- A stamp's bytes. -/
def pt (s n : Int) : List Int := if vld s n then be 8 s ++ be 4 n else []
theorem pt_byte (s n : Int) : ∀ z ∈ pt s n, 0 ≤ z ∧ z ≤ 255 := by
  intro z hz
  unfold pt at hz
  split at hz
  · rcases List.mem_append.1 hz with h | h
    · exact be_byte _ _ z h
    · exact be_byte _ _ z h
  · simp at hz
theorem pt_length (s n : Int) : (pt s n).length = if vld s n then 12 else 0 := by
  unfold pt
  split
  · rw [List.length_append, be_length, be_length]
  · rfl
/-- What these bytes are. -/
def gs (l : List Int) : Int := val (l.take 8)
def gn (l : List Int) : Int := val (l.drop 8)
def gok (l : List Int) : Bool := decide (l.length = 12 ∧ gs l ≤ 9223372036854775807 ∧ gn l ≤ 999999999)
theorem gs_pt (s n : Int) (h : vld s n = true) (hs : s ≤ 9223372036854775807) : gs (pt s n) = s ∧ gn (pt s n) = n := by
  unfold vld at h
  obtain ⟨h1, h2, h3⟩ := of_decide_eq_true h
  have e : pt s n = be 8 s ++ be 4 n := by unfold pt vld; rw [if_pos h]
  unfold gs gn
  rw [e]
  have l8 : (be 8 s).length = 8 := be_length 8 s
  constructor
  · rw [List.take_left' l8, val_be, Int.emod_eq_of_lt h1 (by omega)]
  · rw [List.drop_left' l8, val_be, Int.emod_eq_of_lt h2 (by omega)]
theorem pt_gs (l : List Int) (hb : ∀ z ∈ l, 0 ≤ z ∧ z ≤ 255) (h : gok l = true) : vld (gs l) (gn l) = true ∧ pt (gs l) (gn l) = l := by
  unfold gok at h
  obtain ⟨h1, h2, h3⟩ := of_decide_eq_true h
  have b8 : ∀ z ∈ l.take 8, 0 ≤ z ∧ z ≤ 255 := fun z hz => hb z (List.mem_of_mem_take hz)
  have b4 : ∀ z ∈ l.drop 8, 0 ≤ z ∧ z ≤ 255 := fun z hz => hb z (List.mem_of_mem_drop hz)
  have hv : vld (gs l) (gn l) = true := decide_eq_true ⟨(val_bound _ b8).1, (val_bound _ b4).1, h3⟩
  refine ⟨hv, ?_⟩
  unfold pt
  rw [if_pos hv]
  have e8 : be 8 (gs l) = l.take 8 := by have := be_val _ b8; rwa [List.length_take, h1] at this
  have e4 : be 4 (gn l) = l.drop 8 := by have := be_val _ b4; rwa [List.length_drop, h1] at this
  rw [e8, e4, List.take_append_drop]

/-! Decimal digits. -/
/-- The k lowest digits of n, the highest first. -/
def dl (n : Nat) : Nat → List Nat
  | 0 => []
  | k + 1 => dl (n / 10) k ++ [48 + n % 10]
theorem dl_length (k : Nat) : ∀ n, (dl n k).length = k := by
  induction k with
  | zero => intro n; rfl
  | succ k ih => intro n; rw [dl, List.length_append, ih]; rfl
theorem dl_digit (k : Nat) : ∀ n, ∀ z ∈ dl n k, 48 ≤ z ∧ z ≤ 57 := by
  induction k with
  | zero => intro n z hz; simp [dl] at hz
  | succ k ih =>
    intro n z hz
    rw [dl] at hz
    rcases List.mem_append.1 hz with h | h
    · exact ih _ z h
    · simp at h; omega
/-- How many digits, so many at least. -/
def cnt (n : Nat) : Nat := if h : n = 0 then 0 else cnt (n / 10) + 1
  termination_by n
  decreasing_by omega
def dn (n least : Nat) : Nat := max least (cnt n)
def dgs (n least : Nat) : List Nat := dl n (dn n least)
/-- A number of decimal digits. -/
def dv (l : List Nat) : Nat := l.foldl (fun x z => x * 10 + (z - 48)) 0
theorem dv_snoc (l : List Nat) (z : Nat) : dv (l ++ [z]) = dv l * 10 + (z - 48) := by simp [dv]
theorem dv_dl (k : Nat) : ∀ n, dv (dl n k) = n % 10 ^ k := by
  induction k with
  | zero => intro n; simp [dl, dv, Nat.mod_one]
  | succ k ih =>
    intro n
    rw [dl, dv_snoc, ih, Nat.add_sub_cancel_left, Nat.pow_succ, Nat.mul_comm (10 ^ k) 10, Nat.mod_mul, Nat.mul_comm]
    omega
theorem cnt_lt (k : Nat) : ∀ n, cnt n ≤ k ↔ n < 10 ^ k := by
  induction k with
  | zero =>
    intro n
    rw [cnt]
    split
    · simp_all
    · simp; omega
  | succ k ih =>
    intro n
    rw [cnt]
    split
    · rename_i h; subst h; simp [Nat.pow_pos]
    · have := ih (n / 10)
      rw [Nat.pow_succ]
      omega
theorem dn_lt (n least : Nat) : n < 10 ^ dn n least := (cnt_lt _ n).1 (Nat.le_max_right _ _)
theorem dv_dgs (n least : Nat) : dv (dgs n least) = n := by
  unfold dgs
  rw [dv_dl, Nat.mod_eq_of_lt (dn_lt n least)]
/-- A stamp's text. -/
def pr (s n : Int) : List Nat := if vld s n then dgs s.toNat 1 ++ 46 :: dgs n.toNat 9 else []
end Go.Proofs.Ytnjfckijpbgagaa
namespace Go.Proofs.Ytnjfckijpbgagaa
set_option maxRecDepth 100000
set_option linter.unusedVariables false

/-! Addresses as numbers. -/
/-- How many bits an address of the family has. -/
def nb (F : Int) : Nat := if F = 4 then 32 else if F = 6 then 128 else 0
/-- The address as one number. -/
def ad (H L : Int) : Int := H * 18446744073709551616 + L
def va (F H L : Int) : Bool := decide (F = 6 ∨ (F = 4 ∧ H = 0 ∧ L < 4294967296))
/-- The numbers of a uint64. -/
def InU (x : Int) : Prop := 0 ≤ x ∧ x ≤ 18446744073709551615
theorem va_in {F H L : Int} (h : va F H L = true) (hH : InU H) (hL : InU L) : (nb F = 32 ∨ nb F = 128) ∧ 0 ≤ ad H L ∧ ad H L < 2 ^ nb F := by
  have h := of_decide_eq_true (show decide _ = true from h)
  unfold InU at *
  unfold nb ad
  rcases h with rfl | ⟨rfl, rfl, h2⟩
  · rw [if_neg (by decide), if_pos rfl]
    have : (2 : Int) ^ 128 = 340282366920938463463374607431768211456 := by decide
    omega
  · rw [if_pos rfl]
    have : (2 : Int) ^ 32 = 4294967296 := by decide
    omega
/-- The i-th bit of a number of n bits. -/
def bt (n : Nat) (A : Int) (i : Nat) : Bool := decide (A / 2 ^ (n - 1 - i) % 2 = 1)
theorem pow_pos2 (m : Nat) : (0 : Int) < 2 ^ m := Int.pow_pos (by omega)
theorem emod_two (A : Int) (m : Nat) : A % 2 ^ (m + 1) = A / 2 ^ m % 2 * 2 ^ m + A % 2 ^ m := by
  have hp := pow_pos2 m
  have h1 := Int.mul_ediv_add_emod A (2 ^ m)
  have h2 := Int.mul_ediv_add_emod (A / 2 ^ m) 2
  have r0 := Int.emod_nonneg A (show (2 : Int) ^ m ≠ 0 by omega)
  have r1 := Int.emod_lt_of_pos A hp
  have q0 := Int.emod_nonneg (A / 2 ^ m) (show (2 : Int) ≠ 0 by omega)
  have q1 := Int.emod_lt_of_pos (A / 2 ^ m) (show (0 : Int) < 2 by omega)
  rw [Int.pow_succ]
  generalize (2 : Int) ^ m = p at *
  generalize A / p = q at *
  generalize A % p = r at *
  generalize q / 2 = u at *
  generalize q % 2 = v at *
  have e : A = (v * p + r) + (p * 2) * u := by
    rw [← h1, ← h2, Int.mul_add, Int.mul_assoc, Int.mul_comm p v, ← Int.mul_assoc]; omega
  have b1 : v * p + r < p * 2 := by
    have : v * p ≤ 1 * p := Int.mul_le_mul_of_nonneg_right (by omega) (by omega)
    omega
  have b0 : 0 ≤ v * p + r := by have := Int.mul_nonneg q0 (Int.le_of_lt hp); omega
  rw [e, Int.add_mul_emod_self_left, Int.emod_eq_of_lt b0 b1]
theorem ediv_two (A : Int) (m : Nat) : A / 2 ^ m = A / 2 ^ (m + 1) * 2 + A / 2 ^ m % 2 := by
  have h2 := Int.mul_ediv_add_emod (A / 2 ^ m) 2
  have e : A / 2 ^ (m + 1) = A / 2 ^ m / 2 := by rw [Int.pow_succ, Int.ediv_ediv_of_nonneg (Int.le_of_lt (pow_pos2 m))]
  rw [e]
  omega
/-- No bit from b on. -/
theorem tail_zero (n : Nat) (A : Int) : ∀ (c b : Nat), n - b = c → b ≤ n → ((∀ i, b ≤ i → i < n → bt n A i = false) ↔ A % 2 ^ (n - b) = 0) := by
  intro c
  induction c with
  | zero =>
    intro b hc hb
    obtain rfl : b = n := by omega
    rw [hc]
    refine ⟨fun _ => by rw [show (2 : Int) ^ 0 = 1 from rfl]; exact Int.emod_one A, fun _ i h1 h2 => by omega⟩
  | succ c ih =>
    intro b hc hb
    have hn := ih (b + 1) (by omega) (by omega)
    rw [show n - (b + 1) = c from by omega] at hn
    rw [hc, emod_two]
    have hp := pow_pos2 c
    have r0 := Int.emod_nonneg A (show (2 : Int) ^ c ≠ 0 by omega)
    have q : A / 2 ^ c % 2 = 0 ∨ A / 2 ^ c % 2 = 1 := by omega
    have hbt : bt n A b = decide (A / 2 ^ c % 2 = 1) := by unfold bt; rw [show n - 1 - b = c from by omega]
    constructor
    · intro h
      have h0 := h b (Nat.le_refl _) (by omega)
      rw [hbt] at h0
      have h0 := of_decide_eq_false h0
      have h1 := hn.1 (fun i h1 h2 => h i (by omega) h2)
      rcases q with q | q
      · rw [q, h1]; omega
      · exact absurd q h0
    · intro h
      have hq : A / 2 ^ c % 2 = 0 := by
        rcases q with q | q
        · exact q
        · rw [q] at h; omega
      rw [hq] at h
      have h1 : A % 2 ^ c = 0 := by omega
      intro i h2 h3
      by_cases e : i = b
      · rw [e, hbt, hq]; decide
      · exact hn.2 h1 i (by omega) h3
/-- The first b bits of both alike. -/
theorem head_same (n : Nat) (A A' : Int) (hA : 0 ≤ A ∧ A < 2 ^ n) (hA' : 0 ≤ A' ∧ A' < 2 ^ n) : ∀ b, b ≤ n → ((∀ i, i < b → bt n A i = bt n A' i) ↔ A / 2 ^ (n - b) = A' / 2 ^ (n - b)) := by
  intro b
  induction b with
  | zero =>
    intro _
    rw [Nat.sub_zero, Int.ediv_eq_zero_of_lt hA.1 hA.2, Int.ediv_eq_zero_of_lt hA'.1 hA'.2]
    exact ⟨fun _ => rfl, fun _ i h => by omega⟩
  | succ b ih =>
    intro hb
    have h0 := ih (by omega)
    obtain ⟨c, hc⟩ : ∃ c, n - (b + 1) = c := ⟨_, rfl⟩
    rw [show n - b = c + 1 from by omega] at h0
    rw [hc, ediv_two A c, ediv_two A' c]
    have e1 : bt n A b = decide (A / 2 ^ c % 2 = 1) := by unfold bt; rw [show n - 1 - b = c from by omega]
    have e2 : bt n A' b = decide (A' / 2 ^ c % 2 = 1) := by unfold bt; rw [show n - 1 - b = c from by omega]
    have q1 : A / 2 ^ c % 2 = 0 ∨ A / 2 ^ c % 2 = 1 := by omega
    have q2 : A' / 2 ^ c % 2 = 0 ∨ A' / 2 ^ c % 2 = 1 := by omega
    constructor
    · intro h
      have h1 := h0.1 (fun i hi => h i (by omega))
      have h2 := h b (by omega)
      rw [e1, e2] at h2
      have h2 := decide_eq_decide.1 h2
      rw [h1]
      generalize A / 2 ^ c % 2 = x at *
      generalize A' / 2 ^ c % 2 = y at *
      omega
    · intro h i hi
      have hq : A / 2 ^ c % 2 = A' / 2 ^ c % 2 ∧ A / 2 ^ (c + 1) = A' / 2 ^ (c + 1) := by
        generalize A / 2 ^ c % 2 = x at *
        generalize A' / 2 ^ c % 2 = y at *
        generalize A / 2 ^ (c + 1) = u at *
        generalize A' / 2 ^ (c + 1) = v at *
        omega
      by_cases e : i = b
      · rw [e, e1, e2, hq.1]
      · exact h0.2 hq.2 i (by omega)
/-- A prefix. -/
def vp (F H L B : Int) : Bool := va F H L && decide (0 ≤ B ∧ B ≤ nb F ∧ ad H L % 2 ^ (nb F - B.toNat) = 0)
/-- Does it hold this address? -/
def ho (F H L B F' H' L' : Int) : Bool := vp F H L B && (va F' H' L' && decide (F = F' ∧ ad H L / 2 ^ (nb F - B.toNat) = ad H' L' / 2 ^ (nb F - B.toNat)))
def od (a b : Int) : Int := if a < b then -1 else if b < a then 1 else 0
def cp (F H L B F' H' L' B' : Int) : Int := if F ≠ F' then od F F' else if B ≠ B' then od B B' else if H ≠ H' then od H H' else od L L'
/-- An address's bytes, a prefix's bytes. -/
def pa (F H L : Int) : List Int := if va F H L then be (nb F / 8) (ad H L) else []
def pp (F H L B : Int) : List Int := if vp F H L B then F :: B :: pa F H L else []
theorem pa_byte (F H L : Int) : ∀ z ∈ pa F H L, 0 ≤ z ∧ z ≤ 255 := by
  intro z hz
  unfold pa at hz
  split at hz
  · exact be_byte _ _ z hz
  · simp at hz
theorem vp_in {F H L B : Int} (h : vp F H L B = true) : va F H L = true ∧ 0 ≤ B ∧ B ≤ nb F ∧ ad H L % 2 ^ (nb F - B.toNat) = 0 := by
  unfold vp at h
  rw [Bool.and_eq_true] at h
  exact ⟨h.1, of_decide_eq_true h.2⟩
theorem nb_le (F : Int) : nb F ≤ 128 := by
  unfold nb
  split
  · decide
  · split <;> decide
theorem pp_byte (F H L B : Int) : ∀ z ∈ pp F H L B, 0 ≤ z ∧ z ≤ 255 := by
  intro z hz
  unfold pp at hz
  split at hz
  · rename_i h
    obtain ⟨h1, h2, h3, _⟩ := vp_in h
    have hn := nb_le F
    have hF := of_decide_eq_true (show decide _ = true from h1)
    rcases List.mem_cons.1 hz with rfl | hz
    · omega
    · rcases List.mem_cons.1 hz with rfl | hz
      · omega
      · exact pa_byte _ _ _ z hz
  · simp at hz
theorem pa_length (F H L : Int) : (pa F H L).length = if va F H L then nb F / 8 else 0 := by
  unfold pa
  split
  · rw [be_length]
  · rfl
end Go.Proofs.Ytnjfckijpbgagaa
namespace Go.Proofs.Ytnjfckijpbgagaa
set_option maxRecDepth 100000
set_option linter.unusedVariables false

/-! Heads, nonces, payloads: their bytes, and what is read of bytes. -/
theorem be_get9 (k : Nat) (x : Int) : ∀ j, j < k → (be k x).getD j 0 = x / 256 ^ (k - 1 - j) % 256 := by
  induction k with
  | zero => intro j h; omega
  | succ k ih =>
    intro j hj
    rw [be]
    cases j with
    | zero => simp
    | succ j => rw [List.getD_cons_succ, ih j (by omega), show k + 1 - 1 - (j + 1) = k - 1 - j from by omega]
theorem pow256_9 (m : Nat) : (256 : Int) ^ m = 2 ^ (8 * m) := by rw [Int.pow_mul]; rfl
/-- A head: type, link, generation, counter. -/
def hOk (T K G C : Int) : Bool := decide (1 ≤ T ∧ T ≤ 3 ∧ 1 ≤ K ∧ K ≤ 4294967295 ∧ 1 ≤ G ∧ G ≤ 2147483647 ∧ C ≤ 18446744073709551614)
def hRow (T K G C : Int) : List Int := T :: 0 :: 0 :: 0 :: (be 4 K ++ (be 4 G ++ be 8 C))
def hB (T K G C : Int) : List Int := if hOk T K G C then hRow T K G C else []
def hE (T K G C : Int) : Int := if hOk T K G C then 0 else 90
theorem hRow_length (T K G C : Int) : (hRow T K G C).length = 20 := by simp [hRow, be_length]
theorem hOk_in {T K G C : Int} (h : hOk T K G C = true) : 1 ≤ T ∧ T ≤ 3 ∧ 1 ≤ K ∧ K ≤ 4294967295 ∧ 1 ≤ G ∧ G ≤ 2147483647 ∧ C ≤ 18446744073709551614 := of_decide_eq_true h
theorem hRow_byte {T K G C : Int} (h : hOk T K G C = true) : ∀ z ∈ hRow T K G C, 0 ≤ z ∧ z ≤ 255 := by
  have := hOk_in h
  intro z hz
  simp only [hRow, List.mem_cons, List.mem_append] at hz
  rcases hz with rfl | rfl | rfl | rfl | hz | hz | hz
  all_goals first | omega | exact be_byte _ _ z hz
theorem hB_byte (T K G C : Int) : ∀ z ∈ hB T K G C, 0 ≤ z ∧ z ≤ 255 := by
  intro z hz
  unfold hB at hz
  split at hz
  · rename_i h
    exact hRow_byte h z hz
  · simp at hz
theorem hB_length (T K G C : Int) : (hB T K G C).length = if hOk T K G C then 20 else 0 := by
  unfold hB
  split
  · exact hRow_length _ _ _ _
  · rfl
/-- May a text of the type have n bytes? -/
def fit (T n : Int) : Bool := if T = 3 then decide (9 ≤ n ∧ n ≤ 1280) else decide (n = 12)
/-- The head that bytes begin with. -/
def gT (zs : List Int) : Int := zs.getD 0 0
def gK (zs : List Int) : Int := val ((zs.drop 4).take 4)
def gG (zs : List Int) : Int := val ((zs.drop 8).take 4)
def gC (zs : List Int) : Int := val ((zs.drop 12).take 8)
def gOk (zs : List Int) : Bool := decide (36 ≤ zs.length) && (hOk (gT zs) (gK zs) (gG zs) (gC zs) && (decide (hRow (gT zs) (gK zs) (gG zs) (gC zs) = zs.take 20) && fit (gT zs) ((zs.length : Int) - 36)))
def gE (zs : List Int) : Int := if gOk zs then 0 else 90
/-- The number, where the bytes are a packet's. -/
def gZ (zs : List Int) (x : Int) : Int := if gOk zs then x else 0
theorem val4 {zs : List Int} (h : ∀ z ∈ zs, 0 ≤ z ∧ z ≤ 255) (a : Nat) (b : Nat) (hl : a + b ≤ zs.length) : 0 ≤ val ((zs.drop a).take b) ∧ val ((zs.drop a).take b) < 256 ^ b := by
  have := val_bound ((zs.drop a).take b) (fun z hz => h z (List.mem_of_mem_drop (List.mem_of_mem_take hz)))
  rwa [List.length_take, List.length_drop, Nat.min_eq_left (by omega)] at this
/-- A nonce. -/
def nOk (S G C : Int) : Bool := decide ((S = 0 ∨ S = 1) ∧ 1 ≤ G ∧ G ≤ 2147483647 ∧ C ≤ 18446744073709551614)
def nRow (S G C : Int) : List Int := be 4 (S * 2147483648 + G) ++ be 8 C
def nB (S G C : Int) : List Int := if nOk S G C then nRow S G C else []
theorem nRow_length (S G C : Int) : (nRow S G C).length = 12 := by simp [nRow, be_length]
theorem nRow_byte (S G C : Int) : ∀ z ∈ nRow S G C, 0 ≤ z ∧ z ≤ 255 := by
  intro z hz
  rcases List.mem_append.1 hz with hz | hz
  all_goals exact be_byte _ _ z hz
theorem nB_byte (S G C : Int) : ∀ z ∈ nB S G C, 0 ≤ z ∧ z ≤ 255 := by
  intro z hz
  unfold nB at hz
  split at hz
  · exact nRow_byte _ _ _ z hz
  · simp at hz
theorem nB_length (S G C : Int) : (nB S G C).length = if nOk S G C then 12 else 0 := by
  unfold nB
  split
  · exact nRow_length _ _ _
  · rfl
/-- Unlike triples make unlike nonces. -/
theorem be_inj {j : Nat} {x y : Int} (h0 : 0 ≤ x) (h1 : x < 256 ^ j) (h2 : 0 ≤ y) (h3 : y < 256 ^ j) (h : be j x = be j y) : x = y := by
  have e := congrArg val h
  rwa [val_be, val_be, Int.emod_eq_of_lt h0 h1, Int.emod_eq_of_lt h2 h3] at e
theorem nRow_inj {S G C S' G' C' : Int} (h : nOk S G C = true) (h' : nOk S' G' C' = true) (hC : 0 ≤ C) (hC' : 0 ≤ C') (e : nRow S G C = nRow S' G' C') : S = S' ∧ G = G' ∧ C = C' := by
  obtain ⟨a1, a2, a3, a4⟩ := of_decide_eq_true (show decide _ = true from h)
  obtain ⟨b1, b2, b3, b4⟩ := of_decide_eq_true (show decide _ = true from h')
  obtain ⟨e1, e2⟩ := List.append_inj e (by rw [be_length, be_length])
  have q1 := be_inj (by omega) (by omega) (by omega) (by omega) e1
  have q2 := be_inj hC (by omega) hC' (by omega) e2
  omega
/-- A payload. -/
def yOk (F H L F' H' L' : Int) (n : Int) : Bool := decide ((pa F H L).length ≠ 0 ∧ (pa F H L).length = (pa F' H' L').length ∧ n ≤ 1280 - 1 - 2 * ((pa F H L).length : Int))
def yRow (F H L F' H' L' : Int) (zs : List Int) : List Int := F :: (pa F H L ++ (pa F' H' L' ++ zs))
def yB (F H L F' H' L' : Int) (zs : List Int) : List Int := if yOk F H L F' H' L' zs.length then yRow F H L F' H' L' zs else []
def yE (F H L F' H' L' : Int) (zs : List Int) : Int := if yOk F H L F' H' L' zs.length then 0 else 90
/-- How many bytes an address has that begins so. -/
def yN (zs : List Int) : Nat := if zs.length = 0 then 0 else if zs.getD 0 0 = 4 then 4 else if zs.getD 0 0 = 6 then 16 else 0
def zOk (zs : List Int) : Bool := decide (yN zs ≠ 0 ∧ 1 + 2 * yN zs ≤ zs.length ∧ zs.length ≤ 1280)
end Go.Proofs.Ytnjfckijpbgagaa
