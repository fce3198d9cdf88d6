import Derived.WalkKit
import Derived.Test.YtblcpdffiafgnaaGreatDoorSMath
namespace Go.Proofs.YtblcpdffiafgnaaGreatDoor
set_option maxRecDepth 100000

/-- One step of a register. -/
def stp (r : Nat) : Nat := if r % 2 = 1 then r / 2 ^^^ 2197175160 else r / 2
/-- So many steps. -/
def stps : Nat → Nat → Nat
  | 0, r => r
  | k + 1, r => stps k (stp r)

theorem xor_mod2 (a b : Nat) : (a ^^^ b) % 2 = (a % 2 + b % 2) % 2 := by
  have h := Nat.testBit_xor a b 0
  simp only [Nat.testBit_zero] at h
  have ha : a % 2 = 0 ∨ a % 2 = 1 := by omega
  have hb : b % 2 = 0 ∨ b % 2 = 1 := by omega
  have hc : (a ^^^ b) % 2 = 0 ∨ (a ^^^ b) % 2 = 1 := by omega
  rcases ha with ha | ha <;> rcases hb with hb | hb <;> rcases hc with hc | hc <;> simp [ha, hb, hc] at h ⊢
theorem xor_div2 (a b : Nat) : (a ^^^ b) / 2 = a / 2 ^^^ b / 2 := by
  apply Nat.eq_of_testBit_eq
  intro i
  rw [Nat.testBit_xor, ← Nat.testBit_succ, ← Nat.testBit_succ, ← Nat.testBit_succ, Nat.testBit_xor]
theorem xor_lc (a b c : Nat) : a ^^^ (b ^^^ c) = b ^^^ (a ^^^ c) := by rw [← Nat.xor_assoc, ← Nat.xor_assoc, Nat.xor_comm a b]
theorem xor_cancel (a b : Nat) : a ^^^ (a ^^^ b) = b := by rw [← Nat.xor_assoc, Nat.xor_self, Nat.zero_xor]
theorem xor_eq0 {a b : Nat} (h : a ^^^ b = 0) : a = b := by
  have := congrArg (a ^^^ ·) h
  simp only [xor_cancel, Nat.xor_zero] at this
  exact this.symm
theorem stp_xor (a b : Nat) : stp (a ^^^ b) = stp a ^^^ stp b := by
  unfold stp
  rw [xor_mod2, xor_div2]
  have ha : a % 2 = 0 ∨ a % 2 = 1 := by omega
  have hb : b % 2 = 0 ∨ b % 2 = 1 := by omega
  rcases ha with ha | ha <;> rcases hb with hb | hb <;> simp only [ha, hb] <;> simp
  · rw [Nat.xor_assoc]
  · rw [Nat.xor_assoc, Nat.xor_assoc, Nat.xor_comm (b / 2)]
  · generalize a / 2 = x; generalize b / 2 = y
    rw [Nat.xor_assoc, xor_lc 2197175160 y, Nat.xor_self, Nat.xor_zero]
theorem stps_xor (k : Nat) : ∀ a b, stps k (a ^^^ b) = stps k a ^^^ stps k b := by
  induction k with
  | zero => intro a b; rfl
  | succ k ih => intro a b; rw [stps, stp_xor, ih]; rfl
theorem stp0 : stp 0 = 0 := rfl
theorem stps0 (k : Nat) : stps k 0 = 0 := by
  induction k with
  | zero => rfl
  | succ k ih => rw [stps, stp0, ih]
theorem stps_add (j k : Nat) : ∀ r, stps (j + k) r = stps k (stps j r) := by
  induction j with
  | zero => intro r; rw [Nat.zero_add]; rfl
  | succ j ih => intro r; rw [Nat.add_right_comm, stps, ih]; rfl
theorem stp_lt {r : Nat} (h : r < 4294967296) : stp r < 4294967296 := by
  unfold stp
  split
  · exact Nat.xor_lt_two_pow (n := 32) (by omega) (by omega)
  · omega
theorem stps_lt (k : Nat) : ∀ {r : Nat}, r < 4294967296 → stps k r < 4294967296 := by
  induction k with
  | zero => intro r h; exact h
  | succ k ih => intro r h; exact ih (stp_lt h)
theorem stp_nz {r : Nat} (h : r < 4294967296) (h0 : stp r = 0) : r = 0 := by
  unfold stp at h0
  split at h0
  · have := xor_eq0 h0; omega
  · omega
theorem stps_nz (k : Nat) : ∀ {r : Nat}, r < 4294967296 → stps k r = 0 → r = 0 := by
  induction k with
  | zero => intro r _ h; exact h
  | succ k ih => intro r h h0; exact stp_nz h (ih (stp_lt h) h0)
theorem xor_lt32 {a b : Nat} (ha : a < 4294967296) (hb : b < 4294967296) : a ^^^ b < 4294967296 := Nat.xor_lt_two_pow (n := 32) ha hb
theorem stps_inj (k : Nat) {a b : Nat} (ha : a < 4294967296) (hb : b < 4294967296) (h : stps k a = stps k b) : a = b :=
  xor_eq0 (stps_nz k (xor_lt32 ha hb) (by rw [stps_xor, h, Nat.xor_self]))
theorem stp_even (m : Nat) : stp (2 * m) = m := by unfold stp; rw [if_neg (by omega)]; omega
theorem stps_pow (k : Nat) : ∀ m, stps k (2 ^ k * m) = m := by
  induction k with
  | zero => intro m; simp [stps]
  | succ k ih => intro m; rw [stps, Nat.pow_succ, show 2 ^ k * 2 * m = 2 * (2 ^ k * m) from by rw [Nat.mul_comm (2 ^ k) 2, Nat.mul_assoc], stp_even, ih]
/-- The parts of a number, low and high. -/
theorem split_pow (k r : Nat) : r = 2 ^ k * (r / 2 ^ k) ^^^ r % 2 ^ k := by
  have hp : 0 < 2 ^ k := Nat.pow_pos (by omega)
  have hlt : r % 2 ^ k < 2 ^ k := Nat.mod_lt _ hp
  apply Nat.eq_of_testBit_eq
  intro i
  rw [Nat.testBit_xor, Nat.testBit_mod_two_pow, Nat.testBit_two_pow_mul, Nat.testBit_div_two_pow]
  by_cases h : i < k
  · simp [h, show ¬ k ≤ i from by omega]
  · simp [h, show k ≤ i from by omega]
def tab : List Int := [0, 274646895, 549293790, 820201905, 1098587580, 1361435347, 1640403810, 1905808397, 2197175160, 2460548119, 2722870694, 2987750089, 3280807620, 3553878443, 3811616794, 4084100981]
theorem tab_ok : ∀ s, s < 16 → (stps 4 s : Int) = tab.getD s 0 := by decide
/-- Four steps by the table. -/
theorem stps4 (r : Nat) : stps 4 r = r / 16 ^^^ (tab.getD (r % 16) 0).toNat := by
  rw [← tab_ok _ (Nat.mod_lt _ (by omega)), Int.toNat_natCast]
  have h := split_pow 4 r
  rw [show (2 : Nat) ^ 4 = 16 from rfl] at h
  have h4 := stps_pow 4 (r / 16)
  rw [show (2 : Nat) ^ 4 = 16 from rfl] at h4
  have e : stps 4 r = stps 4 (16 * (r / 16) ^^^ r % 16) := by rw [← h]
  rw [e, stps_xor, h4]

/-- A byte is taken in. -/
def tk (r : Nat) (x : Int) : Nat := stps 8 (r ^^^ x.toNat)
/-- Bytes are taken in. -/
def upd (r : Nat) : List Int → Nat
  | [] => r
  | x :: xs => upd (tk r x) xs
theorem upd_nil (r : Nat) : upd r [] = r := rfl
theorem upd_cons (r : Nat) (x : Int) (xs : List Int) : upd r (x :: xs) = upd (tk r x) xs := rfl
def updc (c : Nat) (zs : List Int) : Nat := upd (c ^^^ 4294967295) zs ^^^ 4294967295
theorem upd_append (xs ys : List Int) : ∀ r, upd r (xs ++ ys) = upd (upd r xs) ys := by
  induction xs with
  | nil => intro r; rfl
  | cons x xs ih => intro r; exact ih _
theorem tk_lt {r : Nat} {x : Int} (h : r < 4294967296) (hx : x ≤ 255) : tk r x < 4294967296 := stps_lt 8 (xor_lt32 h (by omega))
theorem upd_lt : ∀ (zs : List Int) {r : Nat}, r < 4294967296 → (∀ z ∈ zs, 0 ≤ z ∧ z ≤ 255) → upd r zs < 4294967296
  | [], _, h, _ => h
  | x :: xs, _, h, hz => upd_lt xs (tk_lt h (hz x (by simp)).2) fun z hm => hz z (List.mem_cons_of_mem _ hm)
theorem updc_lt {c : Nat} {zs : List Int} (h : c < 4294967296) (hz : ∀ z ∈ zs, 0 ≤ z ∧ z ≤ 255) : updc c zs < 4294967296 := xor_lt32 (upd_lt zs (xor_lt32 h (by omega)) hz) (by omega)
theorem updc_append (c : Nat) (xs ys : List Int) : updc c (xs ++ ys) = updc (updc c xs) ys := by
  show upd (c ^^^ 4294967295) (xs ++ ys) ^^^ 4294967295 = upd (updc c xs ^^^ 4294967295) ys ^^^ 4294967295
  have e : updc c xs ^^^ 4294967295 = upd (c ^^^ 4294967295) xs := by unfold updc; generalize upd (c ^^^ 4294967295) xs = r; rw [Nat.xor_assoc, Nat.xor_self, Nat.xor_zero]
  rw [e, upd_append]
theorem upd_take (r : Nat) (zs : List Int) (k : Nat) (h : k < zs.length) : upd r (zs.take (k + 1)) = tk (upd r (zs.take k)) (zs.getD k 0) := by
  have hg : zs.getD k 0 = zs[k] := by simp [List.getD, h]
  rw [hg, List.take_succ_eq_append_getElem h, upd_append, upd_cons, upd_nil]

/-- Two lists xored, place by place. -/
def xorL : List Int → List Int → List Int
  | x :: xs, y :: ys => ((x.toNat ^^^ y.toNat : Nat) : Int) :: xorL xs ys
  | _, _ => []
theorem upd_xor : ∀ (xs ys : List Int) (r s : Nat), xs.length = ys.length → upd (r ^^^ s) (xorL xs ys) = upd r xs ^^^ upd s ys
  | [], [], _, _, _ => rfl
  | x :: xs, y :: ys, r, s, h => by
    rw [xorL, upd_cons, upd_cons, upd_cons, ← upd_xor xs ys _ _ (by simpa using h)]
    congr 1
    unfold tk
    rw [← stps_xor, Int.toNat_natCast]
    congr 1
    rw [Nat.xor_assoc, Nat.xor_assoc, xor_lc s]
  | [], _ :: _, _, _, h => by simp at h
  | _ :: _, [], _, _, h => by simp at h
/-- Zeros alone. -/
theorem upd_zeros (n : Nat) : ∀ r, upd r (List.replicate n 0) = stps (8 * n) r := by
  induction n with
  | zero => intro r; rfl
  | succ n ih => intro r; rw [List.replicate_succ, upd_cons, ih, show 8 * (n + 1) = 8 + 8 * n from by omega, stps_add]; simp [tk]
theorem xorL_zeros : ∀ (zs : List Int), (∀ z ∈ zs, 0 ≤ z ∧ z ≤ 255) → xorL zs (List.replicate zs.length 0) = zs
  | [], _ => rfl
  | z :: zs, h => by
    rw [List.length_cons, List.replicate_succ, xorL, xorL_zeros zs fun z hm => h z (List.mem_cons_of_mem _ hm)]
    have := h z (by simp)
    simp [Int.toNat_of_nonneg this.1]
/-- Another register: what it adds takes the steps. -/
theorem upd_reg (zs : List Int) (r s : Nat) (hz : ∀ z ∈ zs, 0 ≤ z ∧ z ≤ 255) : upd (r ^^^ s) zs = upd r zs ^^^ stps (8 * zs.length) s := by
  have h := upd_xor zs (List.replicate zs.length 0) r s (by simp)
  rwa [xorL_zeros zs hz, upd_zeros] at h
/-- P2.3 of sums. -/
theorem join_sums (a : Nat) (ys : List Int) (hz : ∀ z ∈ ys, 0 ≤ z ∧ z ≤ 255) : stps (8 * ys.length) a ^^^ updc 0 ys = updc a ys := by
  unfold updc
  rw [Nat.zero_xor, Nat.xor_comm a, upd_reg ys _ _ hz, ← Nat.xor_assoc, Nat.xor_comm (stps _ _)]

/-- The bits of a number up to place i, one more. -/
theorem mod_succ (r i : Nat) : r % 2 ^ (i + 1) = r % 2 ^ i ^^^ (if r / 2 ^ i % 2 = 1 then 2 ^ i else 0) := by
  apply Nat.eq_of_testBit_eq
  intro j
  rw [Nat.testBit_xor, Nat.testBit_mod_two_pow, Nat.testBit_mod_two_pow]
  have hb : r.testBit i = decide (r / 2 ^ i % 2 = 1) := by
    rw [Nat.testBit_eq_decide_div_mod_eq]
  by_cases h : r / 2 ^ i % 2 = 1
  · rw [if_pos h, Nat.testBit_two_pow]
    by_cases h1 : j < i
    · simp [h1, show j < i + 1 from by omega, show ¬ i = j from by omega]
    · by_cases h2 : i = j
      · subst h2; simp [hb, h]
      · simp [h1, h2, show ¬ j < i + 1 from by omega]
  · rw [if_neg h, Nat.zero_testBit]
    by_cases h1 : j < i
    · simp [h1, show j < i + 1 from by omega]
    · by_cases h2 : i = j
      · subst h2; simp [hb, h]
      · simp [h1, show ¬ j < i + 1 from by omega]
theorem stps_bit (k r i : Nat) : stps k (r % 2 ^ (i + 1)) = if r / 2 ^ i % 2 = 1 then stps k (r % 2 ^ i) ^^^ stps k (2 ^ i) else stps k (r % 2 ^ i) := by
  rw [mod_succ, stps_xor]
  split
  · rfl
  · rw [stps0, Nat.xor_zero]

/-- What so many steps make of each bit. -/
def mp (k : Nat) : List Nat := (List.range 32).map fun i => stps k (2 ^ i)
def img (m : List Nat) (r : Nat) : Nat := go m r 0 where
  go : List Nat → Nat → Nat → Nat
    | [], _, s => s
    | x :: xs, r, s => go xs (r / 2) (if r % 2 = 1 then s ^^^ x else s)
theorem img_go (k r : Nat) : ∀ (n i : Nat), i + n = 32 → img.go ((List.range' i n).map fun i => stps k (2 ^ i)) (r / 2 ^ i) (stps k (r % 2 ^ i)) = stps k (r % 2 ^ 32)
  | 0, i, h => by obtain rfl : i = 32 := (by omega); rfl
  | n + 1, i, h => by
    rw [List.range'_succ, List.map_cons, img.go, ← stps_bit, Nat.div_div_eq_div_mul, ← Nat.pow_succ]
    exact img_go k r n (i + 1) (by omega)
theorem img_mp (k r : Nat) (h : r < 4294967296) : img (mp k) r = stps k r := by
  have := img_go k r 32 0 rfl
  rw [Nat.pow_zero, Nat.div_one, Nat.mod_one, stps0, Nat.mod_eq_of_lt (show r < 2 ^ 32 from h)] at this
  rw [← this]
  unfold img mp
  rw [List.range_eq_range']
theorem mp_get (k i : Nat) (h : i < 32) : (mp k).getD i 0 = stps k (2 ^ i) := by simp [mp, List.getD, h]
theorem pow_lt32 {i : Nat} (h : i < 32) : 2 ^ i < 4294967296 := Nat.pow_lt_pow_right (a := 2) (by omega) h
theorem mp_next (k : Nat) : mp (2 * k + 1) = (mp k).map fun x => stp (img (mp k) x) := by
  unfold mp
  rw [List.map_map]
  apply List.map_congr_left
  intro i hi
  have hi : i < 32 := by simpa using hi
  show _ = stp (img (mp k) (stps k (2 ^ i)))
  rw [img_mp k _ (stps_lt k (pow_lt32 hi)), show 2 * k + 1 = k + (k + 1) from by omega, stps_add, stps_add]
  rfl
def nxt (m : List Nat) : List Nat := m.map fun x => stp (img m x)
def nxts : Nat → List Nat → List Nat
  | 0, m => m
  | n + 1, m => nxts n (nxt m)
theorem nxts_mp (n : Nat) : ∀ k, nxts n (mp k) = mp (2 ^ n * (k + 1) - 1) := by
  induction n with
  | zero => intro k; simp [nxts]
  | succ n ih =>
    intro k
    rw [nxts, nxt, ← mp_next, ih]
    congr 2
    rw [Nat.pow_succ, Nat.mul_assoc]
    congr 1
set_option maxRecDepth 100000 in
theorem round_map : nxts 30 (mp 1) = mp 0 := by decide +kernel
/-- Behind 2^31 - 1 steps every register is what it was. -/
theorem round {r : Nat} (h : r < 4294967296) : stps 2147483647 r = r := by
  have e := nxts_mp 30 1
  rw [round_map, show 2 ^ 30 * (1 + 1) - 1 = 2147483647 from rfl] at e
  rw [← img_mp _ _ h, ← e, img_mp 0 _ h]
  rfl
theorem round_mul (t : Nat) {r : Nat} (h : r < 4294967296) : stps (t * 2147483647) r = r := by
  induction t with
  | zero => rw [Nat.zero_mul]; rfl
  | succ t ih => rw [Nat.succ_mul, stps_add, ih, round h]
theorem stps_mod (n : Nat) {r : Nat} (h : r < 4294967296) : stps (n % 2147483647) r = stps n r := by
  have := Nat.div_add_mod n 2147483647
  rw [← this, Nat.mul_comm, stps_add, round_mul _ h]
  rw [Nat.mul_comm, this]
end Go.Proofs.YtblcpdffiafgnaaGreatDoor
namespace Go.Proofs.YtblcpdffiafgnaaGreatDoor
set_option maxRecDepth 100000

/-! What a sum tells. -/
/-- The bit at place k turned. -/
def flp (zs : List Int) (k : Nat) : List Int := zs.set (k / 8) (((zs.getD (k / 8) 0).toNat ^^^ 2 ^ (k % 8) : Nat) : Int)
theorem flp_length (zs : List Int) (k : Nat) : (flp zs k).length = zs.length := by simp [flp]
theorem byte_xor (z : Int) (k : Nat) (h : 0 ≤ z ∧ z ≤ 255) : 0 ≤ ((z.toNat ^^^ 2 ^ (k % 8) : Nat) : Int) ∧ ((z.toNat ^^^ 2 ^ (k % 8) : Nat) : Int) ≤ 255 := by
  have h8 : 2 ^ (k % 8) < 2 ^ 8 := Nat.pow_lt_pow_right (by omega) (Nat.mod_lt _ (by omega))
  have := Nat.xor_lt_two_pow (n := 8) (show z.toNat < 2 ^ 8 by omega) h8
  omega
theorem getD_byte {zs : List Int} (h : ∀ z ∈ zs, 0 ≤ z ∧ z ≤ 255) (k : Nat) : 0 ≤ zs.getD k 0 ∧ zs.getD k 0 ≤ 255 := by
  by_cases hk : k < zs.length
  · have e : zs.getD k 0 = zs[k] := by simp [List.getD, hk]
    rw [e]; exact h _ (List.getElem_mem hk)
  · have e : zs.getD k 0 = 0 := by simp [List.getD, hk]
    rw [e]; omega
theorem flp_byte {zs : List Int} (h : ∀ z ∈ zs, 0 ≤ z ∧ z ≤ 255) (k : Nat) : ∀ z ∈ flp zs k, 0 ≤ z ∧ z ≤ 255 := by
  intro z hz
  rcases List.mem_or_eq_of_mem_set hz with h1 | rfl
  · exact h z h1
  · exact byte_xor _ _ (getD_byte h _)
/-- One byte of a list xored. -/
theorem upd_set : ∀ (zs : List Int) (i : Nat) (e r : Nat), (∀ z ∈ zs, 0 ≤ z ∧ z ≤ 255) → i < zs.length →
    upd r (zs.set i (((zs.getD i 0).toNat ^^^ e : Nat) : Int)) = upd r zs ^^^ stps (8 * (zs.length - i)) e
  | [], _, _, _, _, h => by simp at h
  | z :: zs, 0, e, r, hz, _ => by
    rw [List.set_cons_zero, upd_cons, upd_cons]
    have h1 : tk r (((((z :: zs).getD 0 0)).toNat ^^^ e : Nat) : Int) = tk r z ^^^ stps 8 e := by
      unfold tk
      rw [Int.toNat_natCast, ← stps_xor, ← Nat.xor_assoc]
      rfl
    rw [h1, upd_reg zs _ _ fun z hm => hz z (List.mem_cons_of_mem _ hm), List.length_cons, Nat.sub_zero, show 8 * (zs.length + 1) = 8 + 8 * zs.length from by omega, stps_add]
  | z :: zs, i + 1, e, r, hz, h => by
    rw [List.set_cons_succ, upd_cons, upd_cons, List.length_cons, Nat.add_sub_add_right]
    exact upd_set zs i e (tk r z) (fun z hm => hz z (List.mem_cons_of_mem _ hm)) (by simpa using h)
/-- What a turned bit adds to the sum. -/
theorem sum_flp (zs : List Int) (k : Nat) (hz : ∀ z ∈ zs, 0 ≤ z ∧ z ≤ 255) (h : k < 8 * zs.length) : updc 0 (flp zs k) = updc 0 zs ^^^ stps (8 * zs.length - k) 1 := by
  have e : stps (8 * (zs.length - k / 8)) (2 ^ (k % 8)) = stps (8 * zs.length - k) 1 := by
    rw [show 8 * (zs.length - k / 8) = k % 8 + (8 * zs.length - k) from by omega, stps_add]
    have := stps_pow (k % 8) 1
    rw [Nat.mul_one] at this
    rw [this]
  have h1 := upd_set zs (k / 8) (2 ^ (k % 8)) (0 ^^^ 4294967295) hz (by omega)
  unfold updc flp
  rw [h1, e, Nat.xor_assoc, Nat.xor_comm (stps _ _), ← Nat.xor_assoc]

/-! An odd number of bits. -/
def par : Nat → Nat → Nat
  | 0, _ => 0
  | k + 1, r => (r % 2 + par k (r / 2)) % 2
theorem par_xor (k : Nat) : ∀ a b, par k (a ^^^ b) = (par k a + par k b) % 2 := by
  induction k with
  | zero => intro a b; rfl
  | succ k ih => intro a b; rw [par, par, par, xor_mod2, xor_div2, ih]; omega
theorem par_top (k : Nat) : ∀ r, r < 2 ^ k → par (k + 1) r = par k r := by
  induction k with
  | zero => intro r h; obtain rfl : r = 0 := (by simp at h; exact h); rfl
  | succ k ih => intro r h; rw [par, ih (r / 2) (by rw [Nat.pow_succ] at h; omega)]; rfl
theorem par_poly : par 32 2197175160 = 1 := by decide
theorem par_stp {r : Nat} (h : r < 4294967296) : par 32 (stp r) = par 32 r := by
  have h1 : par 32 (r / 2) = par 31 (r / 2) := par_top 31 (r / 2) (by omega)
  have h2 : par 32 r = (r % 2 + par 31 (r / 2)) % 2 := rfl
  have h3 : par 31 (r / 2) < 2 := Nat.mod_lt _ (by omega)
  unfold stp
  split
  · rw [par_xor, par_poly, h2, h1]; omega
  · rw [h2, h1]; omega
theorem par_stps (k : Nat) : ∀ {r : Nat}, r < 4294967296 → par 32 (stps k r) = par 32 r := by
  induction k with
  | zero => intro r _; rfl
  | succ k ih => intro r h; rw [stps, ih (stp_lt h), par_stp h]
theorem par_one (k : Nat) : par 32 (stps k 1) = 1 := by rw [par_stps k (by omega)]; decide
/-- Places one by one. -/
def flps (zs : List Int) : List Nat → List Int
  | [] => zs
  | k :: ks => flps (flp zs k) ks
theorem flps_append (ks js : List Nat) : ∀ zs, flps zs (ks ++ js) = flps (flps zs ks) js := by
  induction ks with
  | nil => intro zs; rfl
  | cons k ks ih => intro zs; exact ih _
theorem flps_length (ks : List Nat) : ∀ zs, (flps zs ks).length = zs.length := by
  induction ks with
  | nil => intro zs; rfl
  | cons k ks ih => intro zs; rw [flps, ih, flp_length]
theorem flps_byte (ks : List Nat) : ∀ {zs : List Int}, (∀ z ∈ zs, 0 ≤ z ∧ z ≤ 255) → ∀ z ∈ flps zs ks, 0 ≤ z ∧ z ≤ 255 := by
  induction ks with
  | nil => intro zs h; exact h
  | cons k ks ih => intro zs h; exact ih (flp_byte h k)
theorem par_flps (ks : List Nat) : ∀ zs, (∀ z ∈ zs, 0 ≤ z ∧ z ≤ 255) → (∀ k ∈ ks, k < 8 * zs.length) → par 32 (updc 0 (flps zs ks)) = (par 32 (updc 0 zs) + ks.length) % 2 := by
  induction ks with
  | nil => intro zs _ _; rw [flps]; have : par 32 (updc 0 zs) < 2 := Nat.mod_lt _ (by omega); simp; omega
  | cons k ks ih =>
    intro zs hz hk
    rw [flps, ih (flp zs k) (flp_byte hz k) (by rw [flp_length]; exact fun j hj => hk j (List.mem_cons_of_mem _ hj)), sum_flp zs k hz (hk k (by simp)), par_xor, par_one, List.length_cons]
    omega
theorem odd_told (zs : List Int) (ks : List Nat) (hz : ∀ z ∈ zs, 0 ≤ z ∧ z ≤ 255) (hk : ∀ k ∈ ks, k < 8 * zs.length) (ho : ks.length % 2 = 1) : updc 0 zs ≠ updc 0 (flps zs ks) := by
  intro h
  have := par_flps ks zs hz hk
  rw [← h] at this
  omega

/-! The order of one step. -/
/-- No divisor in d .. d + 2^k - 1. -/
def nodiv : Nat → Nat → Bool
  | 0, d => 2147483647 % d != 0
  | k + 1, d => nodiv k d && nodiv k (d + 2 ^ k)
theorem nodiv_at (k : Nat) : ∀ d x, nodiv k d = true → d ≤ x → x < d + 2 ^ k → 2147483647 % x ≠ 0 := by
  induction k with
  | zero => intro d x h h1 h2; obtain rfl : x = d := (by simp at h2; omega); simpa [nodiv] using h
  | succ k ih =>
    intro d x h h1 h2
    rw [nodiv, Bool.and_eq_true] at h
    rw [Nat.pow_succ] at h2
    by_cases hx : x < d + 2 ^ k
    · exact ih d x h.1 h1 hx
    · exact ih (d + 2 ^ k) x h.2 (by omega) (by omega)
set_option maxRecDepth 100000 in
theorem nodiv_all : nodiv 16 2 = true := by decide +kernel
theorem prime_le {g : Nat} (hg : g ∣ 2147483647) (h1 : 1 < g) : g = 2147483647 := by
  obtain ⟨q, hq⟩ := hg
  by_cases hs : g < 65538
  · exact absurd (show 2147483647 % g = 0 by rw [hq]; exact Nat.mul_mod_right g q) (nodiv_at 16 2 g nodiv_all h1 (by simpa using hs))
  · by_cases h2 : 1 < q
    · by_cases hq2 : q < 65538
      · exact absurd (show 2147483647 % q = 0 by rw [hq]; exact Nat.mul_mod_left g q) (nodiv_at 16 2 q nodiv_all h2 (by simpa using hq2))
      · have : 65538 * 65538 ≤ g * q := Nat.mul_le_mul (by omega) (by omega)
        omega
    · obtain rfl | rfl : q = 0 ∨ q = 1 := by omega
      · omega
      · omega
/-- The turns of a register are closed under the greatest divisor. -/
theorem stps_mul {d r : Nat} (h : stps d r = r) (t : Nat) : stps (t * d) r = r := by
  induction t with
  | zero => rw [Nat.zero_mul]; rfl
  | succ t ih => rw [Nat.succ_mul, stps_add, ih, h]
theorem stps_gcd (r a : Nat) : ∀ b, stps a r = r → stps b r = r → stps (Nat.gcd a b) r = r := by
  induction a using Nat.strongRecOn with
  | _ a ih =>
    intro b ha hb
    by_cases h0 : a = 0
    · subst h0; rwa [Nat.gcd_zero_left]
    · rw [Nat.gcd_rec]
      refine ih (b % a) (Nat.mod_lt _ (by omega)) a ?_ ha
      have e := Nat.div_add_mod b a
      rw [← e, Nat.mul_comm, stps_add, stps_mul ha] at hb
      exact hb
theorem one_turns {d : Nat} (h0 : 0 < d) (h1 : d < 2147483647) : stps d 1 ≠ 1 := by
  intro h
  have hg := stps_gcd 1 d 2147483647 h (round (by omega))
  by_cases h2 : 1 < Nat.gcd d 2147483647
  · have := prime_le (Nat.gcd_dvd_right d 2147483647) h2
    have := Nat.gcd_le_left 2147483647 h0
    omega
  · have : 0 < Nat.gcd d 2147483647 := Nat.gcd_pos_of_pos_left _ h0
    rw [show Nat.gcd d 2147483647 = 1 from by omega] at hg
    exact absurd hg (by decide)
theorem one_inj {a b : Nat} (h : stps a 1 = stps b 1) (hab : a ≤ b) (hb : b < a + 2147483647) : a = b := by
  by_cases he : a = b
  · exact he
  · exfalso
    have e : b = (b - a) + a := by omega
    rw [e, stps_add] at h
    exact one_turns (by omega) (by omega) (stps_inj a (by omega) (stps_lt _ (by omega)) h).symm
theorem two_told (zs : List Int) (i k : Nat) (hz : ∀ z ∈ zs, 0 ≤ z ∧ z ≤ 255) (hi : i < 8 * zs.length) (hk : k < 8 * zs.length) (hl : zs.length ≤ 65536) : (updc 0 zs ≠ updc 0 (flp (flp zs i) k)) ↔ i ≠ k := by
  rw [sum_flp (flp zs i) k (flp_byte hz i) (by rw [flp_length]; exact hk), sum_flp zs i hz hi, flp_length]
  constructor
  · rintro h rfl
    rw [Nat.xor_assoc, Nat.xor_self, Nat.xor_zero] at h
    exact h rfl
  · intro h e
    have e1 := congrArg (updc 0 zs ^^^ ·) e
    simp only [Nat.xor_self, Nat.xor_assoc, xor_cancel] at e1
    have e2 := xor_eq0 e1.symm
    by_cases hik : i ≤ k
    · have := one_inj e2.symm (by omega) (by omega); omega
    · have := one_inj e2 (by omega) (by omega); omega

/-! A burst. -/
/-- The bits of a pattern from place m on, i places. -/
def bur (zs : List Int) (m pat : Nat) : Nat → List Int
  | 0 => zs
  | i + 1 => if pat / 2 ^ i % 2 = 1 ∧ m + i < 8 * zs.length then flp (bur zs m pat i) (m + i) else bur zs m pat i
theorem bur_length (zs : List Int) (m pat : Nat) : ∀ i, (bur zs m pat i).length = zs.length
  | 0 => rfl
  | i + 1 => by unfold bur; split; rw [flp_length, bur_length zs m pat i]; exact bur_length zs m pat i
theorem bur_byte {zs : List Int} (hz : ∀ z ∈ zs, 0 ≤ z ∧ z ≤ 255) (m pat : Nat) : ∀ i, ∀ z ∈ bur zs m pat i, 0 ≤ z ∧ z ≤ 255
  | 0 => hz
  | i + 1 => by unfold bur; split; exact flp_byte (bur_byte hz m pat i) _; exact bur_byte hz m pat i
/-- What of the pattern lies within. -/
def inn (n m pat : Nat) : Nat → Nat
  | 0 => 0
  | i + 1 => if pat / 2 ^ i % 2 = 1 ∧ m + i < n then inn n m pat i ^^^ 2 ^ i else inn n m pat i
theorem inn_lt (n m pat : Nat) : ∀ i, inn n m pat i < 2 ^ i
  | 0 => by simp [inn]
  | i + 1 => by
    have h := inn_lt n m pat i
    have h1 : inn n m pat i < 2 ^ (i + 1) := by rw [Nat.pow_succ]; omega
    unfold inn; split
    · exact Nat.xor_lt_two_pow h1 (Nat.pow_lt_pow_right (by omega) (by omega))
    · exact h1
theorem bur_sum (zs : List Int) (m pat : Nat) (hz : ∀ z ∈ zs, 0 ≤ z ∧ z ≤ 255) (hm : m < 8 * zs.length) : ∀ i, updc 0 (bur zs m pat i) = updc 0 zs ^^^ stps (8 * zs.length - m) (inn (8 * zs.length) m pat i)
  | 0 => by simp [bur, inn, stps0]
  | i + 1 => by
    have ih := bur_sum zs m pat hz hm i
    unfold bur inn
    split
    · rename_i h
      rw [sum_flp _ _ (bur_byte hz m pat i) (by rw [bur_length]; exact h.2), ih, bur_length, stps_xor, Nat.xor_assoc]
      congr 2
      rw [show 8 * zs.length - m = i + (8 * zs.length - (m + i)) from by omega, stps_add i]
      have := stps_pow i 1
      rw [Nat.mul_one] at this
      rw [this]
    · exact ih
/-- Was a bit turned? -/
def trn (n m pat : Nat) : Nat → Bool
  | 0 => false
  | i + 1 => if pat / 2 ^ i % 2 = 1 ∧ m + i < n then true else trn n m pat i
theorem trn_inn (n m pat : Nat) : ∀ i, trn n m pat i = true ↔ inn n m pat i ≠ 0
  | 0 => by simp [trn, inn]
  | i + 1 => by
    unfold trn inn
    split
    · refine iff_of_true rfl fun h => ?_
      have := xor_eq0 h
      have := inn_lt n m pat i
      omega
    · exact trn_inn n m pat i
theorem burst_told (zs : List Int) (m pat : Nat) (hz : ∀ z ∈ zs, 0 ≤ z ∧ z ≤ 255) (hm : m < 8 * zs.length) : (updc 0 zs ≠ updc 0 (bur zs m pat 32)) ↔ trn (8 * zs.length) m pat 32 = true := by
  rw [trn_inn, bur_sum zs m pat hz hm 32]
  constructor
  · intro h e
    rw [e, stps0, Nat.xor_zero] at h
    exact h rfl
  · intro h e
    have e1 := congrArg (updc 0 zs ^^^ ·) e
    simp only [Nat.xor_self, xor_cancel] at e1
    exact h (stps_nz _ (inn_lt _ _ _ 32) e1.symm)

/-! A sum behind its bytes. -/
theorem tk_byte (r c : Nat) : tk (r ^^^ c) 0 = tk r ((c % 256 : Nat) : Int) ^^^ c / 256 := by
  have h := split_pow 8 c
  have h8 := stps_pow 8 (c / 2 ^ 8)
  rw [show (2 : Nat) ^ 8 = 256 from rfl] at h h8
  unfold tk
  rw [Int.toNat_natCast, Int.toNat_zero, Nat.xor_zero]
  have e : stps 8 (r ^^^ c) = stps 8 (r ^^^ (256 * (c / 256) ^^^ c % 256)) := by rw [← h]
  rw [e, stps_xor, stps_xor, h8, stps_xor, Nat.xor_assoc, Nat.xor_comm (c / 256)]
theorem upd_le4 (r c : Nat) (h : c < 4294967296) : upd r [((c % 256 : Nat) : Int), ((c / 256 % 256 : Nat) : Int), ((c / 65536 % 256 : Nat) : Int), ((c / 16777216 % 256 : Nat) : Int)] = stps 32 (r ^^^ c) := by
  have st : ∀ r c : Nat, stps 8 (r ^^^ c) = tk r ((c % 256 : Nat) : Int) ^^^ c / 256 := fun r c => by rw [← tk_byte]; simp [tk]
  rw [show 32 = 8 + (8 + (8 + 8)) from rfl, stps_add, stps_add, stps_add, st, st, st, st, Nat.div_div_eq_div_mul, Nat.div_div_eq_div_mul, Nat.div_div_eq_div_mul, Nat.div_eq_of_lt (show c < 256 * 256 * 256 * 256 from h), Nat.xor_zero]
  rfl
theorem const32 : stps 32 4294967295 ^^^ 4294967295 = 1214729159 := by decide
theorem behind (zs : List Int) (hz : ∀ z ∈ zs, 0 ≤ z ∧ z ≤ 255) (c : Nat) (hc : c = updc 0 zs) : updc 0 (zs ++ [((c % 256 : Nat) : Int), ((c / 256 % 256 : Nat) : Int), ((c / 65536 % 256 : Nat) : Int), ((c / 16777216 % 256 : Nat) : Int)]) = 1214729159 := by
  have hlt : c < 4294967296 := by rw [hc]; exact updc_lt (by omega) hz
  unfold updc
  rw [upd_append, upd_le4 _ _ hlt, hc]
  unfold updc
  rw [xor_cancel, const32]

/-- Three lists of one length. -/
theorem linear3 (xs ys zs : List Int) (h1 : xs.length = ys.length) (h2 : xs.length = zs.length) : updc 0 (xorL (xorL xs ys) zs) = updc 0 xs ^^^ updc 0 ys ^^^ updc 0 zs := by
  have hl : ∀ xs ys : List Int, xs.length = ys.length → (xorL xs ys).length = xs.length := by
    intro xs
    induction xs with
    | nil => intro ys h; cases ys with
      | nil => rfl
      | cons => simp at h
    | cons x xs ih => intro ys h; cases ys with
      | nil => simp at h
      | cons y ys => rw [xorL, List.length_cons, ih ys (by simpa using h), List.length_cons]
  have a := upd_xor (xorL xs ys) zs (4294967295 ^^^ 4294967295) 4294967295 (by rw [hl xs ys h1]; exact h2)
  rw [upd_xor xs ys _ _ h1] at a
  unfold updc
  rw [Nat.zero_xor]
  rw [Nat.xor_self, Nat.zero_xor] at a
  rw [a]
  generalize upd 4294967295 xs = x
  generalize upd 4294967295 ys = y
  generalize upd 4294967295 zs = z
  rw [Nat.xor_comm x 4294967295, Nat.xor_comm y 4294967295, Nat.xor_assoc, Nat.xor_assoc, Nat.xor_assoc, Nat.xor_assoc, Nat.xor_assoc]
  rw [xor_lc 4294967295 x, xor_cancel]
end Go.Proofs.YtblcpdffiafgnaaGreatDoor
namespace Go.Proofs.YtblcpdffiafgnaaGreatDoor
set_option maxRecDepth 100000
set_option linter.unusedVariables false

/-- The bytes of a text, and the text of bytes. -/
def tb (S : ByteArray) : List Int := S.data.toList.map fun x => (x.toNat : Int)
def bt (l : List Int) : ByteArray := ⟨(l.map fun z => UInt8.ofNat z.toNat).toArray⟩
theorem tb_length (S : ByteArray) : (tb S).length = S.size := by show _ = S.data.size; simp [tb]
theorem tb_byte (S : ByteArray) : ∀ z ∈ tb S, 0 ≤ z ∧ z ≤ 255 := by
  intro z hz
  obtain ⟨x, _, rfl⟩ := List.mem_map.1 hz
  have : x.toNat < 256 := x.toNat_lt
  omega
theorem bt_tb (S : ByteArray) : bt (tb S) = S := by
  apply ByteArray.ext
  apply Array.ext'
  simp [bt, tb]
  rw [show ((fun z : Int => UInt8.ofNat z.toNat) ∘ fun x : UInt8 => (x.toNat : Int)) = id from by funext x; simp]
  simp
theorem tb_bt (l : List Int) (h : ∀ z ∈ l, 0 ≤ z ∧ z ≤ 255) : tb (bt l) = l := by
  simp only [tb, bt, List.map_map]
  conv => rhs; rw [← List.map_id l]
  apply List.map_congr_left
  intro z hz
  have := h z hz
  simp
  omega

/-- A sector. -/
structure Sec where
  T : ByteArray
  e : Int
  q : Int
  p : Int
  l : List Int

def t1 : ByteArray := ⟨#[67, 86, 83, 49]⟩
def t2 : ByteArray := ⟨#[67, 86, 68, 49]⟩
def t3 : ByteArray := ⟨#[67, 86, 67, 49]⟩
def t4 : ByteArray := ⟨#[67, 86, 79, 49]⟩
/-- One of the four tags. -/
def isT (T : ByteArray) : Prop := T = t1 ∨ T = t2 ∨ T = t3 ∨ T = t4
instance (T : ByteArray) : Decidable (isT T) := by unfold isT; infer_instance
theorem isT_size {T : ByteArray} (h : isT T) : T.size = 4 := by rcases h with rfl | rfl | rfl | rfl <;> rfl
/-- May there be such a sector? -/
def May (s : Sec) : Prop := isT s.T ∧ (1 ≤ s.e ∧ s.e ≤ 4611686018427387904) ∧ (1 ≤ s.q ∧ s.q ≤ 4611686018427387904) ∧ (0 ≤ s.p ∧ s.p ≤ 8191) ∧ s.l.length ≤ 480
instance (s : Sec) : Decidable (May s) := by unfold May; infer_instance
def By (l : List Int) : Prop := ∀ z ∈ l, 0 ≤ z ∧ z ≤ 255
theorem By.app {a b : List Int} (h : By a) (k : By b) : By (a ++ b) := fun z hz => by rcases List.mem_append.1 hz with h1 | h1; exact h z h1; exact k z h1
theorem By.zeros (n : Nat) : By (List.replicate n 0) := fun z hz => by rw [List.eq_of_mem_replicate hz]; omega
theorem By.take {a : List Int} (h : By a) (n : Nat) : By (a.take n) := fun z hz => h z (List.mem_of_mem_take hz)
theorem By.drop {a : List Int} (h : By a) (n : Nat) : By (a.drop n) := fun z hz => h z (List.mem_of_mem_drop hz)
/-- The bytes ahead of the sum. -/
def hd (s : Sec) : List Int := tb s.T ++ (be 8 s.e ++ (be 8 s.q ++ (be 4 s.p ++ (be 2 s.l.length ++ ([0, 0] ++ (s.l ++ List.replicate (480 - s.l.length) 0))))))
/-- All of them. -/
def ps (s : Sec) : List Int := hd s ++ be 4 (updc 0 (hd s))
theorem hd_by {s : Sec} (h : By s.l) : By (hd s) :=
  By.app (tb_byte _) (By.app (be_byte _ _) (By.app (be_byte _ _) (By.app (be_byte _ _) (By.app (be_byte _ _) (By.app (By.zeros 2) (By.app h (By.zeros _)))))))
theorem ps_by {s : Sec} (h : By s.l) : By (ps s) := By.app (hd_by h) (be_byte _ _)
theorem hd_length {s : Sec} (h : May s) : (hd s).length = 508 := by
  have h1 := isT_size h.1
  have h2 := h.2.2.2.2
  simp only [hd, List.length_append, tb_length, be_length, List.length_replicate, List.length_cons, List.length_nil]
  omega
theorem ps_length {s : Sec} (h : May s) : (ps s).length = 512 := by
  rw [ps, List.length_append, hd_length h, be_length]
theorem sum_lt {s : Sec} (h : By s.l) : updc 0 (hd s) < 4294967296 := updc_lt (by omega) (hd_by h)

/-- The stretch of a list from i on, n of it. -/
def sl (b : List Int) (i n : Nat) : List Int := (b.drop i).take n
theorem sl_by {b : List Int} (h : By b) (i n : Nat) : By (sl b i n) := (h.drop i).take n
theorem sl_length {b : List Int} {i n : Nat} (h : i + n ≤ b.length) : (sl b i n).length = n := by simp [sl]; omega
theorem sl_mid {A B C : List Int} {i n : Nat} (hi : A.length = i) (hn : B.length = n) : sl (A ++ (B ++ C)) i n = B := by
  subst hi hn
  simp [sl]
/-- What the fields tell. -/
def us (b : List Int) : Nat := (val (sl b 24 2)).toNat
def rs (b : List Int) : Sec := ⟨bt (sl b 0 4), val (sl b 4 8), val (sl b 12 8), val (sl b 20 4), sl b 28 (us b)⟩
def gs (b : List Int) : Option Sec := if b.length = 512 ∧ May (rs b) ∧ ps (rs b) = b then some (rs b) else none

theorem val_bd {b : List Int} (h : By b) {i n : Nat} (hl : i + n ≤ b.length) : 0 ≤ val (sl b i n) ∧ val (sl b i n) < 256 ^ n := by
  have := val_bound (sl b i n) (sl_by h i n)
  rwa [sl_length hl] at this

theorem rs_ps {s : Sec} (h : May s) (hb : By s.l) : rs (ps s) = s := by
  obtain ⟨h1, ⟨e0, e1⟩, ⟨q0, q1⟩, ⟨p0, p1⟩, h5⟩ := h
  have hT : (tb s.T).length = 4 := by rw [tb_length]; exact isT_size h1
  have E : ps s = tb s.T ++ (be 8 s.e ++ (be 8 s.q ++ (be 4 s.p ++ (be 2 s.l.length ++ ([0, 0] ++ (s.l ++ (List.replicate (480 - s.l.length) 0 ++ be 4 (updc 0 (hd s))))))))) := by
    simp only [ps, hd, List.append_assoc]
  have L := fun j x => be_length j x
  have a0 : sl (ps s) 0 4 = tb s.T := by rw [E]; exact sl_mid (A := []) rfl hT
  have a1 : sl (ps s) 4 8 = be 8 s.e := by rw [E]; exact sl_mid hT (L _ _)
  have a2 : sl (ps s) 12 8 = be 8 s.q := by
    rw [E, ← List.append_assoc]; exact sl_mid (by rw [List.length_append, hT, L]) (L _ _)
  have a3 : sl (ps s) 20 4 = be 4 s.p := by
    rw [E, ← List.append_assoc, ← List.append_assoc]; exact sl_mid (by simp only [List.length_append, hT, L]) (L _ _)
  have a4 : sl (ps s) 24 2 = be 2 s.l.length := by
    rw [E, ← List.append_assoc, ← List.append_assoc, ← List.append_assoc]; exact sl_mid (by simp only [List.length_append, hT, L]) (L _ _)
  have a5 : sl (ps s) 28 s.l.length = s.l := by
    rw [E, ← List.append_assoc, ← List.append_assoc, ← List.append_assoc, ← List.append_assoc, ← List.append_assoc]
    exact sl_mid (by simp only [List.length_append, hT, L, List.length_cons, List.length_nil]) rfl
  have u : us (ps s) = s.l.length := by
    unfold us; rw [a4, val_be, Int.emod_eq_of_lt (by omega) (by omega)]; omega
  unfold rs
  rw [a0, a1, a2, a3, u, a5, bt_tb, val_be, val_be, val_be, Int.emod_eq_of_lt (by omega) (by omega), Int.emod_eq_of_lt (by omega) (by omega), Int.emod_eq_of_lt (by omega) (by omega)]
theorem gs_ps {s : Sec} (h : May s) (hb : By s.l) : gs (ps s) = some s := by
  unfold gs
  rw [if_pos ⟨ps_length h, by rw [rs_ps h hb]; exact h, by rw [rs_ps h hb]⟩, rs_ps h hb]
theorem gs_some {b : List Int} {s : Sec} (h : gs b = some s) : b.length = 512 ∧ May s ∧ ps s = b ∧ s = rs b := by
  unfold gs at h
  split at h
  · rename_i k
    obtain rfl := Option.some.inj h
    exact ⟨k.1, k.2.1, k.2.2, rfl⟩
  · cases h
theorem ps_inj {s t : Sec} (hs : May s) (ht : May t) (bs : By s.l) (bt : By t.l) (h : ps s = ps t) : s = t := by
  rw [← rs_ps hs bs, h, rs_ps ht bt]

/-- What a sum tells of a sector. -/
theorem be4_inj {a b : Nat} (ha : a < 4294967296) (hb : b < 4294967296) (h : be 4 (a : Int) = be 4 (b : Int)) : a = b := by
  have e := congrArg val h
  rw [val_be, val_be, Int.emod_eq_of_lt (by omega) (by omega), Int.emod_eq_of_lt (by omega) (by omega)] at e
  omega
theorem ps_parts {s t : Sec} (hs : May s) (ht : May t) {H : List Int} {S : List Int} (hH : H.length = 508) (e : ps t = H ++ S) : hd t = H ∧ be 4 (updc 0 (hd t)) = S :=
  List.append_inj e (by rw [hd_length ht, hH])
theorem turned_head {s : Sec} (hs : May s) (bs : By s.l) {i x : Nat} (hi : i < 508) (hx : 0 < x) (hx1 : x < 256) :
    gs ((ps s).set i ((((ps s).getD i 0).toNat ^^^ x : Nat) : Int)) = none := by
  cases hg : gs ((ps s).set i ((((ps s).getD i 0).toNat ^^^ x : Nat) : Int)) with
  | none => rfl
  | some t =>
    exfalso
    obtain ⟨_, ht, hp, _⟩ := gs_some hg
    have hl := hd_length hs
    have e1 : (ps s).getD i 0 = (hd s).getD i 0 := by
      simp only [ps, List.getD]; rw [List.getElem?_append_left (by omega)]
    rw [e1, show (ps s).set i ((((hd s).getD i 0).toNat ^^^ x : Nat) : Int) = (hd s).set i ((((hd s).getD i 0).toNat ^^^ x : Nat) : Int) ++ be 4 (updc 0 (hd s)) from by rw [ps, List.set_append_left _ _ (by omega)]] at hp
    obtain ⟨p1, p2⟩ := ps_parts hs ht (by simp [hl]) hp
    have hb : By (hd t) := by
      rw [p1]
      intro z hz
      rcases List.mem_or_eq_of_mem_set hz with h | rfl
      · exact hd_by bs z h
      · have := getD_byte (hd_by bs) i
        have h8 := Nat.xor_lt_two_pow (n := 8) (show ((hd s).getD i 0).toNat < 2 ^ 8 by omega) (show x < 2 ^ 8 by omega)
        omega
    have q := be4_inj (updc_lt (by omega) hb) (sum_lt bs) p2
    rw [p1] at q
    have h1 := upd_set (hd s) i x (0 ^^^ 4294967295) (hd_by bs) (by omega)
    unfold updc at q
    rw [h1] at q
    have e2 := congrArg (· ^^^ 4294967295) q
    simp only [Nat.xor_assoc, Nat.xor_self, Nat.xor_zero] at e2
    have e3 := congrArg (upd (0 ^^^ 4294967295) (hd s) ^^^ ·) e2
    simp only [xor_cancel, Nat.xor_self] at e3
    have := stps_nz _ (by omega) e3
    omega
theorem set_ne {b : List Int} {i : Nat} {v : Int} (hi : i < b.length) (h : b.getD i 0 ≠ v) : b.set i v ≠ b := by
  intro e
  have := congrArg (fun l => l.getD i 0) e
  simp [List.getD, hi] at this
  apply h
  simp [List.getD, hi, this]
theorem xor_ne {a x : Nat} (h : 0 < x) : a ^^^ x ≠ a := by
  intro e
  have := congrArg (a ^^^ ·) e
  simp only [xor_cancel, Nat.xor_self] at this
  omega
theorem turned_sum {s : Sec} (hs : May s) (bs : By s.l) {i : Nat} {v : Int} (hi : 508 ≤ i) (hi1 : i < 512) (hv : (ps s).getD i 0 ≠ v) :
    gs ((ps s).set i v) = none := by
  cases hg : gs ((ps s).set i v) with
  | none => rfl
  | some t =>
    exfalso
    obtain ⟨_, ht, hp, _⟩ := gs_some hg
    have hl := hd_length hs
    have e0 : (ps s).set i v = hd s ++ (be 4 (updc 0 (hd s))).set (i - 508) v := by rw [ps, List.set_append_right _ _ (by omega), hl]
    obtain ⟨p1, p2⟩ := ps_parts hs ht hl (hp.trans e0)
    have : ps t = ps s := by rw [ps, p1, ps]
    rw [this] at hp
    exact set_ne (by rw [ps_length hs]; exact hi1) hv hp.symm
/-- One byte turned. -/
theorem turned {s : Sec} (hs : May s) (bs : By s.l) {i x : Nat} (hi : i < 512) (hx : 0 < x) (hx1 : x < 256) :
    gs ((ps s).set i ((((ps s).getD i 0).toNat ^^^ x : Nat) : Int)) = none := by
  by_cases h : i < 508
  · exact turned_head hs bs h hx hx1
  · refine turned_sum hs bs (by omega) hi fun e => ?_
    have hb := getD_byte (ps_by bs) i
    have : ((ps s).getD i 0).toNat = ((ps s).getD i 0).toNat ^^^ x := by
      generalize (ps s).getD i 0 = y at *
      omega
    exact xor_ne hx this.symm
/-- Bits turned within 32 neighbouring ones ahead of the sum. -/
theorem burst {s : Sec} (hs : May s) (bs : By s.l) {m pat : Nat} (hm : m < 4064) :
    gs (bur (hd s) m pat 32 ++ be 4 (updc 0 (hd s))) = if trn 4064 m pat 32 then none else some s := by
  have hl := hd_length hs
  have ht := burst_told (hd s) m pat (hd_by bs) (by omega)
  rw [show 8 * (hd s).length = 4064 from by omega] at ht
  by_cases htr : trn 4064 m pat 32 = true
  · rw [if_pos htr]
    cases hg : gs (bur (hd s) m pat 32 ++ be 4 (updc 0 (hd s))) with
    | none => rfl
    | some t =>
      exfalso
      obtain ⟨_, hmt, hp, _⟩ := gs_some hg
      obtain ⟨p1, p2⟩ := ps_parts hs hmt (by rw [bur_length]; exact hl) hp
      have hb : By (hd t) := by rw [p1]; exact bur_byte (hd_by bs) m pat 32
      have q := be4_inj (updc_lt (by omega) hb) (sum_lt bs) p2
      rw [p1] at q
      exact ht.2 htr q.symm
  · rw [if_neg htr]
    have hi : inn 4064 m pat 32 = 0 := by
      have := (trn_inn 4064 m pat 32)
      by_cases h0 : inn 4064 m pat 32 = 0
      · exact h0
      · exact absurd (this.2 h0) htr
    have hz : ∀ i, i ≤ 32 → trn 4064 m pat i = false := by
      intro i hi
      cases hti : trn 4064 m pat i with
      | false => rfl
      | true =>
        exfalso
        apply htr
        have up : ∀ k j, trn 4064 m pat j = true → trn 4064 m pat (j + k) = true := by
          intro k
          induction k with
          | zero => intro j h; exact h
          | succ k ih => intro j h; rw [← Nat.add_assoc, trn]; split; rfl; exact ih j h
        have := up (32 - i) i hti
        rwa [show i + (32 - i) = 32 from by omega] at this
    have hbz : ∀ i, i ≤ 32 → bur (hd s) m pat i = hd s := by
      intro i
      induction i with
      | zero => intro _; rfl
      | succ i ih =>
        intro h
        have := hz (i + 1) h
        rw [trn] at this
        rw [bur]
        by_cases c : pat / 2 ^ i % 2 = 1 ∧ m + i < 4064
        · rw [if_pos c] at this; cases this
        · rw [if_neg (by rw [show 8 * (hd s).length = 4064 from by omega]; exact c)]; exact ih (by omega)
    rw [hbz 32 (Nat.le_refl _)]
    exact gs_ps hs bs
end Go.Proofs.YtblcpdffiafgnaaGreatDoor
