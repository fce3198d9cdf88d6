import Derived.WalkKit
namespace Go.Proofs.Ythflghjmpellpaa
set_option maxRecDepth 100000
set_option linter.unusedVariables false

/-- The lowest j bytes of x, the highest first. -/
def be : Nat → Int → List Int
  | 0, _ => []
  | j + 1, x => (x / 256 ^ j % 256) :: be j x
theorem be_length (j : Nat) (x : Int) : (be j x).length = j := by induction j with
  | zero => rfl
  | succ j ih => simp [be, ih]
theorem be_byte (j : Nat) (x : Int) : ∀ z ∈ be j x, 0 ≤ z ∧ z ≤ 255 := by
  induction j with
  | zero => intro z hz; simp [be] at hz
  | succ j ih =>
    intro z hz
    rw [be] at hz
    rcases List.mem_cons.1 hz with rfl | hz
    · omega
    · exact ih z hz

/-- The number that these bytes are, the highest first. -/
def val (zs : List Int) : Int := zs.foldl (fun x b => x * 256 + b) 0
theorem val_snoc (l : List Int) (b : Int) : val (l ++ [b]) = val l * 256 + b := by simp [val]
theorem fold_bound (l : List Int) : ∀ (x : Int) (m : Nat), (∀ z ∈ l, 0 ≤ z ∧ z ≤ 255) → 0 ≤ x → x < 256 ^ m → 0 ≤ l.foldl (fun x b => x * 256 + b) x ∧ l.foldl (fun x b => x * 256 + b) x < 256 ^ (m + l.length) := by
  induction l with
  | nil => intro x m _ h0 h1; exact ⟨h0, h1⟩
  | cons b l ih =>
    intro x m h h0 h1
    have hb := h b (by simp)
    have := ih (x * 256 + b) (m + 1) (fun z hz => h z (by simp [hz])) (by omega) (by rw [Int.pow_succ]; omega)
    rw [show m + 1 + l.length = m + (b :: l).length from by simp; omega] at this
    exact this
theorem val_bound (l : List Int) (h : ∀ z ∈ l, 0 ≤ z ∧ z ≤ 255) : 0 ≤ val l ∧ val l < 256 ^ l.length := by
  have := fold_bound l 0 0 h (by omega) (by decide)
  rwa [Nat.zero_add] at this
theorem fold_val (l : List Int) : ∀ x : Int, l.foldl (fun x b => x * 256 + b) x = x * 256 ^ l.length + val l := by
  induction l with
  | nil => intro x; simp [val]
  | cons b l ih =>
    intro x
    have e : val (b :: l) = b * 256 ^ l.length + val l := by
      show List.foldl _ (0 * 256 + b) l = _
      rw [ih]; simp
    rw [List.foldl_cons, ih, e, List.length_cons, Int.pow_succ, Int.add_mul, Int.mul_assoc, Int.mul_comm 256, Int.add_assoc]
theorem val_cons (b : Int) (l : List Int) : val (b :: l) = b * 256 ^ l.length + val l := by
  show List.foldl _ (0 * 256 + b) l = _
  rw [fold_val]; simp
theorem emod_step (x m : Int) (hm : 0 < m) : x / m % 256 * m + x % m = x % (m * 256) := by
  have h1 := Int.mul_ediv_add_emod x m
  have h2 := Int.mul_ediv_add_emod (x / m) 256
  have r0 := Int.emod_nonneg x (show m ≠ 0 by omega)
  have r1 := Int.emod_lt_of_pos x hm
  have q0 := Int.emod_nonneg (x / m) (show (256 : Int) ≠ 0 by omega)
  have q1 := Int.emod_lt_of_pos (x / m) (show (0 : Int) < 256 by omega)
  generalize x / m = q at *
  generalize x % m = r at *
  generalize q / 256 = u at *
  generalize q % 256 = v at *
  have e : x = (v * m + r) + (m * 256) * u := by
    rw [← h1, ← h2, Int.mul_add, Int.mul_assoc, Int.mul_comm m v, ← Int.mul_assoc]; omega
  have b1 : v * m + r < m * 256 := by
    have : v * m ≤ 255 * m := Int.mul_le_mul_of_nonneg_right (by omega) (by omega)
    omega
  have b0 : 0 ≤ v * m + r := by have := Int.mul_nonneg q0 (Int.le_of_lt hm); omega
  rw [e, Int.add_mul_emod_self_left, Int.emod_eq_of_lt b0 b1]
theorem val_be (w : Nat) (x : Int) : val (be w x) = x % 256 ^ w := by
  induction w with
  | zero => simp [be, val]
  | succ w ih => rw [be, val_cons, be_length, ih, Int.pow_succ]; exact emod_step x _ (Int.pow_pos (by omega))

theorem be_congr (j : Nat) (x y : Int) (h : x % 256 ^ j = y % 256 ^ j) : be j x = be j y := by
  have e : ∀ (j : Nat) (x : Int), be j x = be j (x % 256 ^ j) := fun j => by
    induction j with
    | zero => intro x; rfl
    | succ j ih =>
      intro x
      have hp : (0 : Int) < 256 ^ j := Int.pow_pos (by omega)
      rw [be, be, ih x, ih (x % 256 ^ (j + 1))]
      have h1 : x % 256 ^ (j + 1) % 256 ^ j = x % 256 ^ j := Int.emod_emod_of_dvd x ⟨256, by rw [Int.pow_succ]⟩
      have h2 : x / 256 ^ j % 256 = x % 256 ^ (j + 1) / 256 ^ j % 256 := by
        have e1 := Int.mul_ediv_add_emod x (256 ^ (j + 1))
        have e2 : x / 256 ^ j = x % 256 ^ (j + 1) / 256 ^ j + 256 * (x / 256 ^ (j + 1)) := by
          conv => lhs; rw [← e1, Int.pow_succ, Int.mul_assoc, Int.add_comm, Int.add_mul_ediv_left _ _ (by omega)]
          rw [Int.pow_succ]
        rw [e2, Int.add_mul_emod_self_left]
      rw [h1, h2]
  rw [e j x, e j y, h]
theorem be_val (l : List Int) (h : ∀ z ∈ l, 0 ≤ z ∧ z ≤ 255) : be l.length (val l) = l := by
  induction l with
  | nil => rfl
  | cons b l ih =>
    have hb := h b (by simp)
    have hl : ∀ z ∈ l, 0 ≤ z ∧ z ≤ 255 := fun z hz => h z (by simp [hz])
    obtain ⟨v0, v1⟩ := val_bound l hl
    have hp : (0 : Int) < 256 ^ l.length := Int.pow_pos (by omega)
    rw [List.length_cons, be, val_cons]
    congr 1
    · rw [Int.add_comm, Int.add_mul_ediv_right _ _ (by omega), Int.ediv_eq_zero_of_lt v0 v1, Int.zero_add, Int.emod_eq_of_lt hb.1 (by omega)]
    · have e : be l.length (b * 256 ^ l.length + val l) = be l.length (val l) := be_congr _ _ _ (by rw [Int.add_comm, Int.add_mul_emod_self_right])
      rw [e, ih hl]

/-! Stamps. -/
def vld (s n : Int) : Bool := decide (0 ≤ s ∧ 0 ≤ n ∧ n ≤ 999999999)
def lss (s n s' n' : Int) : Bool := decide (s < s' ∨ (s = s' ∧ n < n'))
def big (s n : Int) : Bool := decide (s = 9223372036854775807 ∧ n = 999999999)
/-- A stamp's bytes. -/
def pt (s n : Int) : List Int := if vld s n then be 8 s ++ be 4 n else []
theorem pt_byte (s n : Int) : ∀ z ∈ pt s n, 0 ≤ z ∧ z ≤ 255 := by
  intro z hz
  unfold pt at hz
  split at hz
  · rcases List.mem_append.1 hz with h | h
    · exact be_byte _ _ z h
    · exact be_byte _ _ z h
  · simp at hz
theorem pt_length (s n : Int) : (pt s n).length = if vld s n then 12 else 0 := by
  unfold pt
  split
  · rw [List.length_append, be_length, be_length]
  · rfl
/-- What these bytes are. -/
def gs (l : List Int) : Int := val (l.take 8)
def gn (l : List Int) : Int := val (l.drop 8)
def gok (l : List Int) : Bool := decide (l.length = 12 ∧ gs l ≤ 9223372036854775807 ∧ gn l ≤ 999999999)
theorem gs_pt (s n : Int) (h : vld s n = true) (hs : s ≤ 9223372036854775807) : gs (pt s n) = s ∧ gn (pt s n) = n := by
  unfold vld at h
  obtain ⟨h1, h2, h3⟩ := of_decide_eq_true h
  have e : pt s n = be 8 s ++ be 4 n := by unfold pt vld; rw [if_pos h]
  unfold gs gn
  rw [e]
  have l8 : (be 8 s).length = 8 := be_length 8 s
  constructor
  · rw [List.take_left' l8, val_be, Int.emod_eq_of_lt h1 (by omega)]
  · rw [List.drop_left' l8, val_be, Int.emod_eq_of_lt h2 (by omega)]
theorem pt_gs (l : List Int) (hb : ∀ z ∈ l, 0 ≤ z ∧ z ≤ 255) (h : gok l = true) : vld (gs l) (gn l) = true ∧ pt (gs l) (gn l) = l := by
  unfold gok at h
  obtain ⟨h1, h2, h3⟩ := of_decide_eq_true h
  have b8 : ∀ z ∈ l.take 8, 0 ≤ z ∧ z ≤ 255 := fun z hz => hb z (List.mem_of_mem_take hz)
  have b4 : ∀ z ∈ l.drop 8, 0 ≤ z ∧ z ≤ 255 := fun z hz => hb z (List.mem_of_mem_drop hz)
  have hv : vld (gs l) (gn l) = true := decide_eq_true ⟨(val_bound _ b8).1, (val_bound _ b4).1, h3⟩
  refine ⟨hv, ?_⟩
  unfold pt
  rw [if_pos hv]
  have e8 : be 8 (gs l) = l.take 8 := by have := be_val _ b8; rwa [List.length_take, h1] at this
  have e4 : be 4 (gn l) = l.drop 8 := by have := be_val _ b4; rwa [List.length_drop, h1] at this
  rw [e8, e4, List.take_append_drop]

/-! Decimal digits. -/
/-- The k lowest digits of n, the highest first. -/
def dl (n : Nat) : Nat → List Nat
  | 0 => []
  | k + 1 => dl (n / 10) k ++ [48 + n % 10]
theorem dl_length (k : Nat) : ∀ n, (dl n k).length = k := by
  induction k with
  | zero => intro n; rfl
  | succ k ih => intro n; rw [dl, List.length_append, ih]; rfl
theorem dl_digit (k : Nat) : ∀ n, ∀ z ∈ dl n k, 48 ≤ z ∧ z ≤ 57 := by
  induction k with
  | zero => intro n z hz; simp [dl] at hz
  | succ k ih =>
    intro n z hz
    rw [dl] at hz
    rcases List.mem_append.1 hz with h | h
    · exact ih _ z h
    · simp at h; omega
/-- How many digits, so many at least. -/
def cnt (n : Nat) : Nat := if h : n = 0 then 0 else cnt (n / 10) + 1
  termination_by n
  decreasing_by omega
def dn (n least : Nat) : Nat := max least (cnt n)
def dgs (n least : Nat) : List Nat := dl n (dn n least)
/-- A number of decimal digits. -/
def dv (l : List Nat) : Nat := l.foldl (fun x z => x * 10 + (z - 48)) 0
theorem dv_snoc (l : List Nat) (z : Nat) : dv (l ++ [z]) = dv l * 10 + (z - 48) := by simp [dv]
theorem dv_dl (k : Nat) : ∀ n, dv (dl n k) = n % 10 ^ k := by
  induction k with
  | zero => intro n; simp [dl, dv, Nat.mod_one]
  | succ k ih =>
    intro n
    rw [dl, dv_snoc, ih, Nat.add_sub_cancel_left, Nat.pow_succ, Nat.mul_comm (10 ^ k) 10, Nat.mod_mul, Nat.mul_comm]
    omega
theorem cnt_lt (k : Nat) : ∀ n, cnt n ≤ k ↔ n < 10 ^ k := by
  induction k with
  | zero =>
    intro n
    rw [cnt]
    split
    · simp_all
    · simp; omega
  | succ k ih =>
    intro n
    rw [cnt]
    split
    · rename_i h; subst h; simp [Nat.pow_pos]
    · have := ih (n / 10)
      rw [Nat.pow_succ]
      omega
theorem dn_lt (n least : Nat) : n < 10 ^ dn n least := (cnt_lt _ n).1 (Nat.le_max_right _ _)
theorem dv_dgs (n least : Nat) : dv (dgs n least) = n := by
  unfold dgs
  rw [dv_dl, Nat.mod_eq_of_lt (dn_lt n least)]
/-- A stamp's text. -/
def pr (s n : Int) : List Nat := if vld s n then dgs s.toNat 1 ++ 46 :: dgs n.toNat 9 else []
end Go.Proofs.Ythflghjmpellpaa
