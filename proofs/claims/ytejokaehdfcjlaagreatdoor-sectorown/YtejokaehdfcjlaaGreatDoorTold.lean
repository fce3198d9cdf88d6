import Derived.Test.YtejokaehdfcjlaaGreatDoorMath
namespace Go.Proofs.YtejokaehdfcjlaaGreatDoor
set_option maxRecDepth 100000

/-! What a sum tells. -/
/-- The bit at place k turned. -/
def flp (zs : List Int) (k : Nat) : List Int := zs.set (k / 8) (((zs.getD (k / 8) 0).toNat ^^^ 2 ^ (k % 8) : Nat) : Int)
theorem flp_length (zs : List Int) (k : Nat) : (flp zs k).length = zs.length := by simp [flp]
theorem byte_xor (z : Int) (k : Nat) (h : 0 ≤ z ∧ z ≤ 255) : 0 ≤ ((z.toNat ^^^ 2 ^ (k % 8) : Nat) : Int) ∧ ((z.toNat ^^^ 2 ^ (k % 8) : Nat) : Int) ≤ 255 := by
  have h8 : 2 ^ (k % 8) < 2 ^ 8 := Nat.pow_lt_pow_right (by omega) (Nat.mod_lt _ (by omega))
  have := Nat.xor_lt_two_pow (n := 8) (show z.toNat < 2 ^ 8 by omega) h8
  omega
theorem getD_byte {zs : List Int} (h : ∀ z ∈ zs, 0 ≤ z ∧ z ≤ 255) (k : Nat) : 0 ≤ zs.getD k 0 ∧ zs.getD k 0 ≤ 255 := by
  by_cases hk : k < zs.length
  · have e : zs.getD k 0 = zs[k] := by simp [List.getD, hk]
    rw [e]; exact h _ (List.getElem_mem hk)
  · have e : zs.getD k 0 = 0 := by simp [List.getD, hk]
    rw [e]; omega
theorem flp_byte {zs : List Int} (h : ∀ z ∈ zs, 0 ≤ z ∧ z ≤ 255) (k : Nat) : ∀ z ∈ flp zs k, 0 ≤ z ∧ z ≤ 255 := by
  intro z hz
  rcases List.mem_or_eq_of_mem_set hz with h1 | rfl
  · exact h z h1
  · exact byte_xor _ _ (getD_byte h _)
/-- One byte of a list xored. -/
theorem upd_set : ∀ (zs : List Int) (i : Nat) (e r : Nat), (∀ z ∈ zs, 0 ≤ z ∧ z ≤ 255) → i < zs.length →
    upd r (zs.set i (((zs.getD i 0).toNat ^^^ e : Nat) : Int)) = upd r zs ^^^ stps (8 * (zs.length - i)) e
  | [], _, _, _, _, h => by simp at h
  | z :: zs, 0, e, r, hz, _ => by
    rw [List.set_cons_zero, upd_cons, upd_cons]
    have h1 : tk r (((((z :: zs).getD 0 0)).toNat ^^^ e : Nat) : Int) = tk r z ^^^ stps 8 e := by
      unfold tk
      rw [Int.toNat_natCast, ← stps_xor, ← Nat.xor_assoc]
      rfl
    rw [h1, upd_reg zs _ _ fun z hm => hz z (List.mem_cons_of_mem _ hm), List.length_cons, Nat.sub_zero, show 8 * (zs.length + 1) = 8 + 8 * zs.length from by omega, stps_add]
  | z :: zs, i + 1, e, r, hz, h => by
    rw [List.set_cons_succ, upd_cons, upd_cons, List.length_cons, Nat.add_sub_add_right]
    exact upd_set zs i e (tk r z) (fun z hm => hz z (List.mem_cons_of_mem _ hm)) (by simpa using h)
/-- What a turned bit adds to the sum. -/
theorem sum_flp (zs : List Int) (k : Nat) (hz : ∀ z ∈ zs, 0 ≤ z ∧ z ≤ 255) (h : k < 8 * zs.length) : updc 0 (flp zs k) = updc 0 zs ^^^ stps (8 * zs.length - k) 1 := by
  have e : stps (8 * (zs.length - k / 8)) (2 ^ (k % 8)) = stps (8 * zs.length - k) 1 := by
    rw [show 8 * (zs.length - k / 8) = k % 8 + (8 * zs.length - k) from by omega, stps_add]
    have := stps_pow (k % 8) 1
    rw [Nat.mul_one] at this
    rw [this]
  have h1 := upd_set zs (k / 8) (2 ^ (k % 8)) (0 ^^^ 4294967295) hz (by omega)
  unfold updc flp
  rw [h1, e, Nat.xor_assoc, Nat.xor_comm (stps _ _), ← Nat.xor_assoc]

/-! An odd number of bits. -/
def par : Nat → Nat → Nat
  | 0, _ => 0
  | k + 1, r => (r % 2 + par k (r / 2)) % 2
theorem par_xor (k : Nat) : ∀ a b, par k (a ^^^ b) = (par k a + par k b) % 2 := by
  induction k with
  | zero => intro a b; rfl
  | succ k ih => intro a b; rw [par, par, par, xor_mod2, xor_div2, ih]; omega
theorem par_top (k : Nat) : ∀ r, r < 2 ^ k → par (k + 1) r = par k r := by
  induction k with
  | zero => intro r h; obtain rfl : r = 0 := (by simp at h; exact h); rfl
  | succ k ih => intro r h; rw [par, ih (r / 2) (by rw [Nat.pow_succ] at h; omega)]; rfl
theorem par_poly : par 32 2197175160 = 1 := by decide
theorem par_stp {r : Nat} (h : r < 4294967296) : par 32 (stp r) = par 32 r := by
  have h1 : par 32 (r / 2) = par 31 (r / 2) := par_top 31 (r / 2) (by omega)
  have h2 : par 32 r = (r % 2 + par 31 (r / 2)) % 2 := rfl
  have h3 : par 31 (r / 2) < 2 := Nat.mod_lt _ (by omega)
  unfold stp
  split
  · rw [par_xor, par_poly, h2, h1]; omega
  · rw [h2, h1]; omega
theorem par_stps (k : Nat) : ∀ {r : Nat}, r < 4294967296 → par 32 (stps k r) = par 32 r := by
  induction k with
  | zero => intro r _; rfl
  | succ k ih => intro r h; rw [stps, ih (stp_lt h), par_stp h]
theorem par_one (k : Nat) : par 32 (stps k 1) = 1 := by rw [par_stps k (by omega)]; decide
/-- Places one by one. -/
def flps (zs : List Int) : List Nat → List Int
  | [] => zs
  | k :: ks => flps (flp zs k) ks
theorem flps_append (ks js : List Nat) : ∀ zs, flps zs (ks ++ js) = flps (flps zs ks) js := by
  induction ks with
  | nil => intro zs; rfl
  | cons k ks ih => intro zs; exact ih _
theorem flps_length (ks : List Nat) : ∀ zs, (flps zs ks).length = zs.length := by
  induction ks with
  | nil => intro zs; rfl
  | cons k ks ih => intro zs; rw [flps, ih, flp_length]
theorem flps_byte (ks : List Nat) : ∀ {zs : List Int}, (∀ z ∈ zs, 0 ≤ z ∧ z ≤ 255) → ∀ z ∈ flps zs ks, 0 ≤ z ∧ z ≤ 255 := by
  induction ks with
  | nil => intro zs h; exact h
  | cons k ks ih => intro zs h; exact ih (flp_byte h k)
theorem par_flps (ks : List Nat) : ∀ zs, (∀ z ∈ zs, 0 ≤ z ∧ z ≤ 255) → (∀ k ∈ ks, k < 8 * zs.length) → par 32 (updc 0 (flps zs ks)) = (par 32 (updc 0 zs) + ks.length) % 2 := by
  induction ks with
  | nil => intro zs _ _; rw [flps]; have : par 32 (updc 0 zs) < 2 := Nat.mod_lt _ (by omega); simp; omega
  | cons k ks ih =>
    intro zs hz hk
    rw [flps, ih (flp zs k) (flp_byte hz k) (by rw [flp_length]; exact fun j hj => hk j (List.mem_cons_of_mem _ hj)), sum_flp zs k hz (hk k (by simp)), par_xor, par_one, List.length_cons]
    omega
theorem odd_told (zs : List Int) (ks : List Nat) (hz : ∀ z ∈ zs, 0 ≤ z ∧ z ≤ 255) (hk : ∀ k ∈ ks, k < 8 * zs.length) (ho : ks.length % 2 = 1) : updc 0 zs ≠ updc 0 (flps zs ks) := by
  intro h
  have := par_flps ks zs hz hk
  rw [← h] at this
  omega

/-! The order of one step. -/
/-- No divisor in d .. d + 2^k - 1. -/
def nodiv : Nat → Nat → Bool
  | 0, d => 2147483647 % d != 0
  | k + 1, d => nodiv k d && nodiv k (d + 2 ^ k)
theorem nodiv_at (k : Nat) : ∀ d x, nodiv k d = true → d ≤ x → x < d + 2 ^ k → 2147483647 % x ≠ 0 := by
  induction k with
  | zero => intro d x h h1 h2; obtain rfl : x = d := (by simp at h2; omega); simpa [nodiv] using h
  | succ k ih =>
    intro d x h h1 h2
    rw [nodiv, Bool.and_eq_true] at h
    rw [Nat.pow_succ] at h2
    by_cases hx : x < d + 2 ^ k
    · exact ih d x h.1 h1 hx
    · exact ih (d + 2 ^ k) x h.2 (by omega) (by omega)
set_option maxRecDepth 100000 in
theorem nodiv_all : nodiv 16 2 = true := by decide +kernel
theorem prime_le {g : Nat} (hg : g ∣ 2147483647) (h1 : 1 < g) : g = 2147483647 := by
  obtain ⟨q, hq⟩ := hg
  by_cases hs : g < 65538
  · exact absurd (show 2147483647 % g = 0 by rw [hq]; exact Nat.mul_mod_right g q) (nodiv_at 16 2 g nodiv_all h1 (by simpa using hs))
  · by_cases h2 : 1 < q
    · by_cases hq2 : q < 65538
      · exact absurd (show 2147483647 % q = 0 by rw [hq]; exact Nat.mul_mod_left g q) (nodiv_at 16 2 q nodiv_all h2 (by simpa using hq2))
      · have : 65538 * 65538 ≤ g * q := Nat.mul_le_mul (by omega) (by omega)
        omega
    · obtain rfl | rfl : q = 0 ∨ q = 1 := by omega
      · omega
      · omega
/-- The turns of a register are closed under the greatest divisor. -/
theorem stps_mul {d r : Nat} (h : stps d r = r) (t : Nat) : stps (t * d) r = r := by
  induction t with
  | zero => rw [Nat.zero_mul]; rfl
  | succ t ih => rw [Nat.succ_mul, stps_add, ih, h]
theorem stps_gcd (r a : Nat) : ∀ b, stps a r = r → stps b r = r → stps (Nat.gcd a b) r = r := by
  induction a using Nat.strongRecOn with
  | _ a ih =>
    intro b ha hb
    by_cases h0 : a = 0
    · subst h0; rwa [Nat.gcd_zero_left]
    · rw [Nat.gcd_rec]
      refine ih (b % a) (Nat.mod_lt _ (by omega)) a ?_ ha
      have e := Nat.div_add_mod b a
      rw [← e, Nat.mul_comm, stps_add, stps_mul ha] at hb
      exact hb
theorem one_turns {d : Nat} (h0 : 0 < d) (h1 : d < 2147483647) : stps d 1 ≠ 1 := by
  intro h
  have hg := stps_gcd 1 d 2147483647 h (round (by omega))
  by_cases h2 : 1 < Nat.gcd d 2147483647
  · have := prime_le (Nat.gcd_dvd_right d 2147483647) h2
    have := Nat.gcd_le_left 2147483647 h0
    omega
  · have : 0 < Nat.gcd d 2147483647 := Nat.gcd_pos_of_pos_left _ h0
    rw [show Nat.gcd d 2147483647 = 1 from by omega] at hg
    exact absurd hg (by decide)
theorem one_inj {a b : Nat} (h : stps a 1 = stps b 1) (hab : a ≤ b) (hb : b < a + 2147483647) : a = b := by
  by_cases he : a = b
  · exact he
  · exfalso
    have e : b = (b - a) + a := by omega
    rw [e, stps_add] at h
    exact one_turns (by omega) (by omega) (stps_inj a (by omega) (stps_lt _ (by omega)) h).symm
theorem two_told (zs : List Int) (i k : Nat) (hz : ∀ z ∈ zs, 0 ≤ z ∧ z ≤ 255) (hi : i < 8 * zs.length) (hk : k < 8 * zs.length) (hl : zs.length ≤ 65536) : (updc 0 zs ≠ updc 0 (flp (flp zs i) k)) ↔ i ≠ k := by
  rw [sum_flp (flp zs i) k (flp_byte hz i) (by rw [flp_length]; exact hk), sum_flp zs i hz hi, flp_length]
  constructor
  · rintro h rfl
    rw [Nat.xor_assoc, Nat.xor_self, Nat.xor_zero] at h
    exact h rfl
  · intro h e
    have e1 := congrArg (updc 0 zs ^^^ ·) e
    simp only [Nat.xor_self, Nat.xor_assoc, xor_cancel] at e1
    have e2 := xor_eq0 e1.symm
    by_cases hik : i ≤ k
    · have := one_inj e2.symm (by omega) (by omega); omega
    · have := one_inj e2 (by omega) (by omega); omega

/-! A burst. -/
/-- The bits of a pattern from place m on, i places. -/
def bur (zs : List Int) (m pat : Nat) : Nat → List Int
  | 0 => zs
  | i + 1 => if pat / 2 ^ i % 2 = 1 ∧ m + i < 8 * zs.length then flp (bur zs m pat i) (m + i) else bur zs m pat i
theorem bur_length (zs : List Int) (m pat : Nat) : ∀ i, (bur zs m pat i).length = zs.length
  | 0 => rfl
  | i + 1 => by unfold bur; split; rw [flp_length, bur_length zs m pat i]; exact bur_length zs m pat i
theorem bur_byte {zs : List Int} (hz : ∀ z ∈ zs, 0 ≤ z ∧ z ≤ 255) (m pat : Nat) : ∀ i, ∀ z ∈ bur zs m pat i, 0 ≤ z ∧ z ≤ 255
  | 0 => hz
  | i + 1 => by unfold bur; split; exact flp_byte (bur_byte hz m pat i) _; exact bur_byte hz m pat i
/-- What of the pattern lies within. -/
def inn (n m pat : Nat) : Nat → Nat
  | 0 => 0
  | i + 1 => if pat / 2 ^ i % 2 = 1 ∧ m + i < n then inn n m pat i ^^^ 2 ^ i else inn n m pat i
theorem inn_lt (n m pat : Nat) : ∀ i, inn n m pat i < 2 ^ i
  | 0 => by simp [inn]
  | i + 1 => by
    have h := inn_lt n m pat i
    have h1 : inn n m pat i < 2 ^ (i + 1) := by rw [Nat.pow_succ]; omega
    unfold inn; split
    · exact Nat.xor_lt_two_pow h1 (Nat.pow_lt_pow_right (by omega) (by omega))
    · exact h1
theorem bur_sum (zs : List Int) (m pat : Nat) (hz : ∀ z ∈ zs, 0 ≤ z ∧ z ≤ 255) (hm : m < 8 * zs.length) : ∀ i, updc 0 (bur zs m pat i) = updc 0 zs ^^^ stps (8 * zs.length - m) (inn (8 * zs.length) m pat i)
  | 0 => by simp [bur, inn, stps0]
  | i + 1 => by
    have ih := bur_sum zs m pat hz hm i
    unfold bur inn
    split
    · rename_i h
      rw [sum_flp _ _ (bur_byte hz m pat i) (by rw [bur_length]; exact h.2), ih, bur_length, stps_xor, Nat.xor_assoc]
      congr 2
      rw [show 8 * zs.length - m = i + (8 * zs.length - (m + i)) from by omega, stps_add i]
      have := stps_pow i 1
      rw [Nat.mul_one] at this
      rw [this]
    · exact ih
/-- Was a bit turned? -/
def trn (n m pat : Nat) : Nat → Bool
  | 0 => false
  | i + 1 => if pat / 2 ^ i % 2 = 1 ∧ m + i < n then true else trn n m pat i
theorem trn_inn (n m pat : Nat) : ∀ i, trn n m pat i = true ↔ inn n m pat i ≠ 0
  | 0 => by simp [trn, inn]
  | i + 1 => by
    unfold trn inn
    split
    · refine iff_of_true rfl fun h => ?_
      have := xor_eq0 h
      have := inn_lt n m pat i
      omega
    · exact trn_inn n m pat i
theorem burst_told (zs : List Int) (m pat : Nat) (hz : ∀ z ∈ zs, 0 ≤ z ∧ z ≤ 255) (hm : m < 8 * zs.length) : (updc 0 zs ≠ updc 0 (bur zs m pat 32)) ↔ trn (8 * zs.length) m pat 32 = true := by
  rw [trn_inn, bur_sum zs m pat hz hm 32]
  constructor
  · intro h e
    rw [e, stps0, Nat.xor_zero] at h
    exact h rfl
  · intro h e
    have e1 := congrArg (updc 0 zs ^^^ ·) e
    simp only [Nat.xor_self, xor_cancel] at e1
    exact h (stps_nz _ (inn_lt _ _ _ 32) e1.symm)

/-! A sum behind its bytes. -/
theorem tk_byte (r c : Nat) : tk (r ^^^ c) 0 = tk r ((c % 256 : Nat) : Int) ^^^ c / 256 := by
  have h := split_pow 8 c
  have h8 := stps_pow 8 (c / 2 ^ 8)
  rw [show (2 : Nat) ^ 8 = 256 from rfl] at h h8
  unfold tk
  rw [Int.toNat_natCast, Int.toNat_zero, Nat.xor_zero]
  have e : stps 8 (r ^^^ c) = stps 8 (r ^^^ (256 * (c / 256) ^^^ c % 256)) := by rw [← h]
  rw [e, stps_xor, stps_xor, h8, stps_xor, Nat.xor_assoc, Nat.xor_comm (c / 256)]
theorem upd_le4 (r c : Nat) (h : c < 4294967296) : upd r [((c % 256 : Nat) : Int), ((c / 256 % 256 : Nat) : Int), ((c / 65536 % 256 : Nat) : Int), ((c / 16777216 % 256 : Nat) : Int)] = stps 32 (r ^^^ c) := by
  have st : ∀ r c : Nat, stps 8 (r ^^^ c) = tk r ((c % 256 : Nat) : Int) ^^^ c / 256 := fun r c => by rw [← tk_byte]; simp [tk]
  rw [show 32 = 8 + (8 + (8 + 8)) from rfl, stps_add, stps_add, stps_add, st, st, st, st, Nat.div_div_eq_div_mul, Nat.div_div_eq_div_mul, Nat.div_div_eq_div_mul, Nat.div_eq_of_lt (show c < 256 * 256 * 256 * 256 from h), Nat.xor_zero]
  rfl
theorem const32 : stps 32 4294967295 ^^^ 4294967295 = 1214729159 := by decide
theorem behind (zs : List Int) (hz : ∀ z ∈ zs, 0 ≤ z ∧ z ≤ 255) (c : Nat) (hc : c = updc 0 zs) : updc 0 (zs ++ [((c % 256 : Nat) : Int), ((c / 256 % 256 : Nat) : Int), ((c / 65536 % 256 : Nat) : Int), ((c / 16777216 % 256 : Nat) : Int)]) = 1214729159 := by
  have hlt : c < 4294967296 := by rw [hc]; exact updc_lt (by omega) hz
  unfold updc
  rw [upd_append, upd_le4 _ _ hlt, hc]
  unfold updc
  rw [xor_cancel, const32]

/-- Three lists of one length. -/
theorem linear3 (xs ys zs : List Int) (h1 : xs.length = ys.length) (h2 : xs.length = zs.length) : updc 0 (xorL (xorL xs ys) zs) = updc 0 xs ^^^ updc 0 ys ^^^ updc 0 zs := by
  have hl : ∀ xs ys : List Int, xs.length = ys.length → (xorL xs ys).length = xs.length := by
    intro xs
    induction xs with
    | nil => intro ys h; cases ys with
      | nil => rfl
      | cons => simp at h
    | cons x xs ih => intro ys h; cases ys with
      | nil => simp at h
      | cons y ys => rw [xorL, List.length_cons, ih ys (by simpa using h), List.length_cons]
  have a := upd_xor (xorL xs ys) zs (4294967295 ^^^ 4294967295) 4294967295 (by rw [hl xs ys h1]; exact h2)
  rw [upd_xor xs ys _ _ h1] at a
  unfold updc
  rw [Nat.zero_xor]
  rw [Nat.xor_self, Nat.zero_xor] at a
  rw [a]
  generalize upd 4294967295 xs = x
  generalize upd 4294967295 ys = y
  generalize upd 4294967295 zs = z
  rw [Nat.xor_comm x 4294967295, Nat.xor_comm y 4294967295, Nat.xor_assoc, Nat.xor_assoc, Nat.xor_assoc, Nat.xor_assoc, Nat.xor_assoc]
  rw [xor_lc 4294967295 x, xor_cancel]
end Go.Proofs.YtejokaehdfcjlaaGreatDoor
