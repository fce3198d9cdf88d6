import Derived.WalkKit
namespace Go.Proofs.YtejokaehdfcjlaaGreatDoor
set_option maxRecDepth 100000

/-- One step of a register. -/
def stp (r : Nat) : Nat := if r % 2 = 1 then r / 2 ^^^ 2197175160 else r / 2
/-- So many steps. -/
def stps : Nat → Nat → Nat
  | 0, r => r
  | k + 1, r => stps k (stp r)

theorem xor_mod2 (a b : Nat) : (a ^^^ b) % 2 = (a % 2 + b % 2) % 2 := by
  have h := Nat.testBit_xor a b 0
  simp only [Nat.testBit_zero] at h
  have ha : a % 2 = 0 ∨ a % 2 = 1 := by omega
  have hb : b % 2 = 0 ∨ b % 2 = 1 := by omega
  have hc : (a ^^^ b) % 2 = 0 ∨ (a ^^^ b) % 2 = 1 := by omega
  rcases ha with ha | ha <;> rcases hb with hb | hb <;> rcases hc with hc | hc <;> simp [ha, hb, hc] at h ⊢
theorem xor_div2 (a b : Nat) : (a ^^^ b) / 2 = a / 2 ^^^ b / 2 := by
  apply Nat.eq_of_testBit_eq
  intro i
  rw [Nat.testBit_xor, ← Nat.testBit_succ, ← Nat.testBit_succ, ← Nat.testBit_succ, Nat.testBit_xor]
theorem xor_lc (a b c : Nat) : a ^^^ (b ^^^ c) = b ^^^ (a ^^^ c) := by rw [← Nat.xor_assoc, ← Nat.xor_assoc, Nat.xor_comm a b]
theorem xor_cancel (a b : Nat) : a ^^^ (a ^^^ b) = b := by rw [← Nat.xor_assoc, Nat.xor_self, Nat.zero_xor]
theorem xor_eq0 {a b : Nat} (h : a ^^^ b = 0) : a = b := by
  have := congrArg (a ^^^ ·) h
  simp only [xor_cancel, Nat.xor_zero] at this
  exact this.symm
theorem stp_xor (a b : Nat) : stp (a ^^^ b) = stp a ^^^ stp b := by
  unfold stp
  rw [xor_mod2, xor_div2]
  have ha : a % 2 = 0 ∨ a % 2 = 1 := by omega
  have hb : b % 2 = 0 ∨ b % 2 = 1 := by omega
  rcases ha with ha | ha <;> rcases hb with hb | hb <;> simp only [ha, hb] <;> simp
  · rw [Nat.xor_assoc]
  · rw [Nat.xor_assoc, Nat.xor_assoc, Nat.xor_comm (b / 2)]
  · generalize a / 2 = x; generalize b / 2 = y
    rw [Nat.xor_assoc, xor_lc 2197175160 y, Nat.xor_self, Nat.xor_zero]
theorem stps_xor (k : Nat) : ∀ a b, stps k (a ^^^ b) = stps k a ^^^ stps k b := by
  induction k with
  | zero => intro a b; rfl
  | succ k ih => intro a b; rw [stps, stp_xor, ih]; rfl
theorem stp0 : stp 0 = 0 := rfl
theorem stps0 (k : Nat) : stps k 0 = 0 := by
  induction k with
  | zero => rfl
  | succ k ih => rw [stps, stp0, ih]
theorem stps_add (j k : Nat) : ∀ r, stps (j + k) r = stps k (stps j r) := by
  induction j with
  | zero => intro r; rw [Nat.zero_add]; rfl
  | succ j ih => intro r; rw [Nat.add_right_comm, stps, ih]; rfl
theorem stp_lt {r : Nat} (h : r < 4294967296) : stp r < 4294967296 := by
  unfold stp
  split
  · exact Nat.xor_lt_two_pow (n := 32) (by omega) (by omega)
  · omega
theorem stps_lt (k : Nat) : ∀ {r : Nat}, r < 4294967296 → stps k r < 4294967296 := by
  induction k with
  | zero => intro r h; exact h
  | succ k ih => intro r h; exact ih (stp_lt h)
theorem stp_nz {r : Nat} (h : r < 4294967296) (h0 : stp r = 0) : r = 0 := by
  unfold stp at h0
  split at h0
  · have := xor_eq0 h0; omega
  · omega
theorem stps_nz (k : Nat) : ∀ {r : Nat}, r < 4294967296 → stps k r = 0 → r = 0 := by
  induction k with
  | zero => intro r _ h; exact h
  | succ k ih => intro r h h0; exact stp_nz h (ih (stp_lt h) h0)
theorem xor_lt32 {a b : Nat} (ha : a < 4294967296) (hb : b < 4294967296) : a ^^^ b < 4294967296 := Nat.xor_lt_two_pow (n := 32) ha hb
theorem stps_inj (k : Nat) {a b : Nat} (ha : a < 4294967296) (hb : b < 4294967296) (h : stps k a = stps k b) : a = b :=
  xor_eq0 (stps_nz k (xor_lt32 ha hb) (by rw [stps_xor, h, Nat.xor_self]))
theorem stp_even (m : Nat) : stp (2 * m) = m := by unfold stp; rw [if_neg (by omega)]; omega
theorem stps_pow (k : Nat) : ∀ m, stps k (2 ^ k * m) = m := by
  induction k with
  | zero => intro m; simp [stps]
  | succ k ih => intro m; rw [stps, Nat.pow_succ, show 2 ^ k * 2 * m = 2 * (2 ^ k * m) from by rw [Nat.mul_comm (2 ^ k) 2, Nat.mul_assoc], stp_even, ih]
/-- The parts of a number, low and high. -/
theorem split_pow (k r : Nat) : r = 2 ^ k * (r / 2 ^ k) ^^^ r % 2 ^ k := by
  have hp : 0 < 2 ^ k := Nat.pow_pos (by omega)
  have hlt : r % 2 ^ k < 2 ^ k := Nat.mod_lt _ hp
  apply Nat.eq_of_testBit_eq
  intro i
  rw [Nat.testBit_xor, Nat.testBit_mod_two_pow, Nat.testBit_two_pow_mul, Nat.testBit_div_two_pow]
  by_cases h : i < k
  · simp [h, show ¬ k ≤ i from by omega]
  · simp [h, show k ≤ i from by omega]
def tab : List Int := [0, 274646895, 549293790, 820201905, 1098587580, 1361435347, 1640403810, 1905808397, 2197175160, 2460548119, 2722870694, 2987750089, 3280807620, 3553878443, 3811616794, 4084100981]
theorem tab_ok : ∀ s, s < 16 → (stps 4 s : Int) = tab.getD s 0 := by decide
/-- Four steps by the table. -/
theorem stps4 (r : Nat) : stps 4 r = r / 16 ^^^ (tab.getD (r % 16) 0).toNat := by
  rw [← tab_ok _ (Nat.mod_lt _ (by omega)), Int.toNat_natCast]
  have h := split_pow 4 r
  rw [show (2 : Nat) ^ 4 = 16 from rfl] at h
  have h4 := stps_pow 4 (r / 16)
  rw [show (2 : Nat) ^ 4 = 16 from rfl] at h4
  have e : stps 4 r = stps 4 (16 * (r / 16) ^^^ r % 16) := by rw [← h]
  rw [e, stps_xor, h4]

/-- A byte is taken in. -/
def tk (r : Nat) (x : Int) : Nat := stps 8 (r ^^^ x.toNat)
/-- Bytes are taken in. -/
def upd (r : Nat) : List Int → Nat
  | [] => r
  | x :: xs => upd (tk r x) xs
theorem upd_nil (r : Nat) : upd r [] = r := rfl
theorem upd_cons (r : Nat) (x : Int) (xs : List Int) : upd r (x :: xs) = upd (tk r x) xs := rfl
def updc (c : Nat) (zs : List Int) : Nat := upd (c ^^^ 4294967295) zs ^^^ 4294967295
theorem upd_append (xs ys : List Int) : ∀ r, upd r (xs ++ ys) = upd (upd r xs) ys := by
  induction xs with
  | nil => intro r; rfl
  | cons x xs ih => intro r; exact ih _
theorem tk_lt {r : Nat} {x : Int} (h : r < 4294967296) (hx : x ≤ 255) : tk r x < 4294967296 := stps_lt 8 (xor_lt32 h (by omega))
theorem upd_lt : ∀ (zs : List Int) {r : Nat}, r < 4294967296 → (∀ z ∈ zs, 0 ≤ z ∧ z ≤ 255) → upd r zs < 4294967296
  | [], _, h, _ => h
  | x :: xs, _, h, hz => upd_lt xs (tk_lt h (hz x (by simp)).2) fun z hm => hz z (List.mem_cons_of_mem _ hm)
theorem updc_lt {c : Nat} {zs : List Int} (h : c < 4294967296) (hz : ∀ z ∈ zs, 0 ≤ z ∧ z ≤ 255) : updc c zs < 4294967296 := xor_lt32 (upd_lt zs (xor_lt32 h (by omega)) hz) (by omega)
theorem updc_append (c : Nat) (xs ys : List Int) : updc c (xs ++ ys) = updc (updc c xs) ys := by
  show upd (c ^^^ 4294967295) (xs ++ ys) ^^^ 4294967295 = upd (updc c xs ^^^ 4294967295) ys ^^^ 4294967295
  have e : updc c xs ^^^ 4294967295 = upd (c ^^^ 4294967295) xs := by unfold updc; generalize upd (c ^^^ 4294967295) xs = r; rw [Nat.xor_assoc, Nat.xor_self, Nat.xor_zero]
  rw [e, upd_append]
theorem upd_take (r : Nat) (zs : List Int) (k : Nat) (h : k < zs.length) : upd r (zs.take (k + 1)) = tk (upd r (zs.take k)) (zs.getD k 0) := by
  have hg : zs.getD k 0 = zs[k] := by simp [List.getD, h]
  rw [hg, List.take_succ_eq_append_getElem h, upd_append, upd_cons, upd_nil]

/-- Two lists xored, place by place. -/
def xorL : List Int → List Int → List Int
  | x :: xs, y :: ys => ((x.toNat ^^^ y.toNat : Nat) : Int) :: xorL xs ys
  | _, _ => []
theorem upd_xor : ∀ (xs ys : List Int) (r s : Nat), xs.length = ys.length → upd (r ^^^ s) (xorL xs ys) = upd r xs ^^^ upd s ys
  | [], [], _, _, _ => rfl
  | x :: xs, y :: ys, r, s, h => by
    rw [xorL, upd_cons, upd_cons, upd_cons, ← upd_xor xs ys _ _ (by simpa using h)]
    congr 1
    unfold tk
    rw [← stps_xor, Int.toNat_natCast]
    congr 1
    rw [Nat.xor_assoc, Nat.xor_assoc, xor_lc s]
  | [], _ :: _, _, _, h => by simp at h
  | _ :: _, [], _, _, h => by simp at h
/-- Zeros alone. -/
theorem upd_zeros (n : Nat) : ∀ r, upd r (List.replicate n 0) = stps (8 * n) r := by
  induction n with
  | zero => intro r; rfl
  | succ n ih => intro r; rw [List.replicate_succ, upd_cons, ih, show 8 * (n + 1) = 8 + 8 * n from by omega, stps_add]; simp [tk]
theorem xorL_zeros : ∀ (zs : List Int), (∀ z ∈ zs, 0 ≤ z ∧ z ≤ 255) → xorL zs (List.replicate zs.length 0) = zs
  | [], _ => rfl
  | z :: zs, h => by
    rw [List.length_cons, List.replicate_succ, xorL, xorL_zeros zs fun z hm => h z (List.mem_cons_of_mem _ hm)]
    have := h z (by simp)
    simp [Int.toNat_of_nonneg this.1]
/-- Another register: what it adds takes the steps. -/
theorem upd_reg (zs : List Int) (r s : Nat) (hz : ∀ z ∈ zs, 0 ≤ z ∧ z ≤ 255) : upd (r ^^^ s) zs = upd r zs ^^^ stps (8 * zs.length) s := by
  have h := upd_xor zs (List.replicate zs.length 0) r s (by simp)
  rwa [xorL_zeros zs hz, upd_zeros] at h
/-- P2.3 of sums. -/
theorem join_sums (a : Nat) (ys : List Int) (hz : ∀ z ∈ ys, 0 ≤ z ∧ z ≤ 255) : stps (8 * ys.length) a ^^^ updc 0 ys = updc a ys := by
  unfold updc
  rw [Nat.zero_xor, Nat.xor_comm a, upd_reg ys _ _ hz, ← Nat.xor_assoc, Nat.xor_comm (stps _ _)]

/-- The bits of a number up to place i, one more. -/
theorem mod_succ (r i : Nat) : r % 2 ^ (i + 1) = r % 2 ^ i ^^^ (if r / 2 ^ i % 2 = 1 then 2 ^ i else 0) := by
  apply Nat.eq_of_testBit_eq
  intro j
  rw [Nat.testBit_xor, Nat.testBit_mod_two_pow, Nat.testBit_mod_two_pow]
  have hb : r.testBit i = decide (r / 2 ^ i % 2 = 1) := by
    rw [Nat.testBit_eq_decide_div_mod_eq]
  by_cases h : r / 2 ^ i % 2 = 1
  · rw [if_pos h, Nat.testBit_two_pow]
    by_cases h1 : j < i
    · simp [h1, show j < i + 1 from by omega, show ¬ i = j from by omega]
    · by_cases h2 : i = j
      · subst h2; simp [hb, h]
      · simp [h1, h2, show ¬ j < i + 1 from by omega]
  · rw [if_neg h, Nat.zero_testBit]
    by_cases h1 : j < i
    · simp [h1, show j < i + 1 from by omega]
    · by_cases h2 : i = j
      · subst h2; simp [hb, h]
      · simp [h1, show ¬ j < i + 1 from by omega]
theorem stps_bit (k r i : Nat) : stps k (r % 2 ^ (i + 1)) = if r / 2 ^ i % 2 = 1 then stps k (r % 2 ^ i) ^^^ stps k (2 ^ i) else stps k (r % 2 ^ i) := by
  rw [mod_succ, stps_xor]
  split
  · rfl
  · rw [stps0, Nat.xor_zero]

/-- What so many steps make of each bit. -/
def mp (k : Nat) : List Nat := (List.range 32).map fun i => stps k (2 ^ i)
def img (m : List Nat) (r : Nat) : Nat := go m r 0 where
  go : List Nat → Nat → Nat → Nat
    | [], _, s => s
    | x :: xs, r, s => go xs (r / 2) (if r % 2 = 1 then s ^^^ x else s)
theorem img_go (k r : Nat) : ∀ (n i : Nat), i + n = 32 → img.go ((List.range' i n).map fun i => stps k (2 ^ i)) (r / 2 ^ i) (stps k (r % 2 ^ i)) = stps k (r % 2 ^ 32)
  | 0, i, h => by obtain rfl : i = 32 := (by omega); rfl
  | n + 1, i, h => by
    rw [List.range'_succ, List.map_cons, img.go, ← stps_bit, Nat.div_div_eq_div_mul, ← Nat.pow_succ]
    exact img_go k r n (i + 1) (by omega)
theorem img_mp (k r : Nat) (h : r < 4294967296) : img (mp k) r = stps k r := by
  have := img_go k r 32 0 rfl
  rw [Nat.pow_zero, Nat.div_one, Nat.mod_one, stps0, Nat.mod_eq_of_lt (show r < 2 ^ 32 from h)] at this
  rw [← this]
  unfold img mp
  rw [List.range_eq_range']
theorem mp_get (k i : Nat) (h : i < 32) : (mp k).getD i 0 = stps k (2 ^ i) := by simp [mp, List.getD, h]
theorem pow_lt32 {i : Nat} (h : i < 32) : 2 ^ i < 4294967296 := Nat.pow_lt_pow_right (a := 2) (by omega) h
theorem mp_next (k : Nat) : mp (2 * k + 1) = (mp k).map fun x => stp (img (mp k) x) := by
  unfold mp
  rw [List.map_map]
  apply List.map_congr_left
  intro i hi
  have hi : i < 32 := by simpa using hi
  show _ = stp (img (mp k) (stps k (2 ^ i)))
  rw [img_mp k _ (stps_lt k (pow_lt32 hi)), show 2 * k + 1 = k + (k + 1) from by omega, stps_add, stps_add]
  rfl
def nxt (m : List Nat) : List Nat := m.map fun x => stp (img m x)
def nxts : Nat → List Nat → List Nat
  | 0, m => m
  | n + 1, m => nxts n (nxt m)
theorem nxts_mp (n : Nat) : ∀ k, nxts n (mp k) = mp (2 ^ n * (k + 1) - 1) := by
  induction n with
  | zero => intro k; simp [nxts]
  | succ n ih =>
    intro k
    rw [nxts, nxt, ← mp_next, ih]
    congr 2
    rw [Nat.pow_succ, Nat.mul_assoc]
    congr 1
set_option maxRecDepth 100000 in
theorem round_map : nxts 30 (mp 1) = mp 0 := by decide +kernel
/-- Behind 2^31 - 1 steps every register is what it was. -/
theorem round {r : Nat} (h : r < 4294967296) : stps 2147483647 r = r := by
  have e := nxts_mp 30 1
  rw [round_map, show 2 ^ 30 * (1 + 1) - 1 = 2147483647 from rfl] at e
  rw [← img_mp _ _ h, ← e, img_mp 0 _ h]
  rfl
theorem round_mul (t : Nat) {r : Nat} (h : r < 4294967296) : stps (t * 2147483647) r = r := by
  induction t with
  | zero => rw [Nat.zero_mul]; rfl
  | succ t ih => rw [Nat.succ_mul, stps_add, ih, round h]
theorem stps_mod (n : Nat) {r : Nat} (h : r < 4294967296) : stps (n % 2147483647) r = stps n r := by
  have := Nat.div_add_mod n 2147483647
  rw [← this, Nat.mul_comm, stps_add, round_mul _ h]
  rw [Nat.mul_comm, this]
end Go.Proofs.YtejokaehdfcjlaaGreatDoor
