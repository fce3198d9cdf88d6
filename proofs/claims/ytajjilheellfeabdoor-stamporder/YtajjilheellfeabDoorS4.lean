import Derived.Test.YtajjilheellfeabDoorS3
import Derived.Laws.IdiomStrings
namespace Go.Proofs.YtajjilheellfeabDoor
open Go.RowKit
set_option linter.unusedVariables false

/-- Numbers as a text. -/
def sb (l : List Nat) : ByteArray := ⟨(l.map UInt8.ofNat).toArray⟩
def ic (l : List Nat) : List Int := l.map fun x : Nat => (x : Int)
theorem ic_length (l : List Nat) : (ic l).length = l.length := by simp [ic]
theorem ic_get (l : List Nat) (i : Nat) : (ic l).getD i 0 = ((l.getD i 0 : Nat) : Int) := by
  simp only [ic, List.getD, List.getElem?_map]
  cases l[i]? <;> rfl
/-- The j lowest digits, the lowest first. -/
def dr (n j : Nat) : List Nat := (List.range j).map fun i => 48 + n / 10 ^ i % 10
theorem dr_length (n j : Nat) : (dr n j).length = j := by simp [dr]
theorem dr_get (n j i : Nat) (h : i < j) : (dr n j).getD i 0 = 48 + n / 10 ^ i % 10 := by simp [dr, List.getD, h]
theorem dr_more (n j : Nat) : cells (ic (dr n j)) ++ [.int .u8 ((48 + n / 10 ^ j % 10 : Nat) : Int)] = cells (ic (dr n (j + 1))) := by
  unfold dr
  rw [List.range_succ, List.map_append]
  simp [cells, ic]
theorem dl_get (k : Nat) : ∀ (n i : Nat), i < k → (dl n k).getD i 0 = 48 + n / 10 ^ (k - 1 - i) % 10 := by
  induction k with
  | zero => intro n i h; omega
  | succ k ih =>
    intro n i hi
    rw [dl]
    by_cases e : i < k
    · have h1 : (dl (n / 10) k ++ [48 + n % 10]).getD i 0 = (dl (n / 10) k).getD i 0 := by simp only [List.getD, List.getElem?_append_left (show i < (dl (n / 10) k).length by rw [dl_length]; exact e)]
      rw [h1, ih (n / 10) i e, Nat.div_div_eq_div_mul, show k + 1 - 1 - i = (k - 1 - i) + 1 from by omega, Nat.pow_succ, Nat.mul_comm 10]
    · have e' : i = k := by omega
      subst e'
      have h1 : (dl (n / 10) i ++ [48 + n % 10]).getD i 0 = 48 + n % 10 := by
        simp only [List.getD, List.getElem?_append_right (show (dl (n / 10) i).length ≤ i by rw [dl_length]; exact Nat.le_refl _), dl_length, Nat.sub_self]
        rfl
      rw [h1]
      simp
/-- The list with its first and last q places exchanged. -/
def rv (l : List Nat) (q : Nat) : List Nat := (List.range l.length).map fun i => if i < q ∨ l.length ≤ i + q then l.getD (l.length - 1 - i) 0 else l.getD i 0
theorem rv_length (l : List Nat) (q : Nat) : (rv l q).length = l.length := by simp [rv]
theorem rv_get (l : List Nat) (q i : Nat) (h : i < l.length) : (rv l q).getD i 0 = if i < q ∨ l.length ≤ i + q then l.getD (l.length - 1 - i) 0 else l.getD i 0 := by simp [rv, List.getD, h]
theorem list_ext6 {a b : List Nat} (hl : a.length = b.length) (h : ∀ i, i < a.length → a.getD i 0 = b.getD i 0) : a = b := by
  apply List.ext_getElem hl
  intro i h1 h2
  have := h i h1
  simpa [List.getD, h1, h2] using this
theorem rv_zero (l : List Nat) : rv l 0 = l := by
  refine list_ext6 (rv_length l 0) fun i hi => ?_
  rw [rv_length] at hi
  rw [rv_get l 0 i hi, if_neg (by omega)]
theorem rv_step (l : List Nat) (q : Nat) (h : 2 * q + 1 < l.length) : ((rv l q).set q (l.getD (l.length - 1 - q) 0)).set (l.length - 1 - q) (l.getD q 0) = rv l (q + 1) := by
  refine list_ext6 (by simp [rv_length]) fun i hi => ?_
  simp only [List.length_set, rv_length] at hi
  rw [rv_get l (q + 1) i hi]
  by_cases e1 : i = l.length - 1 - q
  · rw [if_pos (by omega)]
    have : (((rv l q).set q (l.getD (l.length - 1 - q) 0)).set (l.length - 1 - q) (l.getD q 0)).getD i 0 = l.getD q 0 := by
      rw [e1]
      simp only [List.getD, List.getElem?_set_self (show l.length - 1 - q < ((rv l q).set q (l[l.length - 1 - q]?.getD 0)).length by rw [List.length_set, rv_length]; omega), Option.getD_some]
    rw [this, show l.length - 1 - i = q from by omega]
  · have h2 : (((rv l q).set q (l.getD (l.length - 1 - q) 0)).set (l.length - 1 - q) (l.getD q 0)).getD i 0 = ((rv l q).set q (l.getD (l.length - 1 - q) 0)).getD i 0 := by
      simp only [List.getD, List.getElem?_set_ne (show l.length - 1 - q ≠ i by omega)]
    rw [h2]
    by_cases e2 : i = q
    · rw [if_pos (by omega), e2]
      simp only [List.getD, List.getElem?_set_self (show q < (rv l q).length by rw [rv_length]; omega), Option.getD_some]
    · have h3 : ((rv l q).set q (l.getD (l.length - 1 - q) 0)).getD i 0 = (rv l q).getD i 0 := by
        simp only [List.getD, List.getElem?_set_ne (show q ≠ i by omega)]
      rw [h3, rv_get l q i hi]
      by_cases e3 : i < q ∨ l.length ≤ i + q
      · rw [if_pos e3, if_pos (by omega)]
      · rw [if_neg e3, if_neg (by omega)]
theorem rv_all (n k q : Nat) (h : k ≤ 2 * q + 1) : rv (dr n k) q = dl n k := by
  refine list_ext6 (by rw [rv_length, dr_length, dl_length]) fun i hi => ?_
  rw [rv_length, dr_length] at hi
  rw [rv_get _ q i (by rw [dr_length]; exact hi), dr_length, dl_get k n i hi]
  by_cases e : i < q ∨ k ≤ i + q
  · rw [if_pos e, dr_get n k _ (by omega)]
  · rw [if_neg e, dr_get n k i hi, show k - 1 - i = i from by omega]
theorem dn_iff (n least j : Nat) : j < dn n least ↔ (0 < n / 10 ^ j ∨ j < least) := by
  unfold dn
  have h1 := cnt_lt j n
  have h2 : n / 10 ^ j = 0 ↔ n < 10 ^ j := by rw [Nat.div_eq_zero_iff]; have : 0 < 10 ^ j := Nat.pow_pos (by omega); omega
  generalize n / 10 ^ j = q at *
  generalize 10 ^ j = p at *
  generalize cnt n = c at *
  rw [Nat.max_def]
  split <;> omega
theorem ic_set6 (l : List Nat) (i z : Nat) : (ic l).set i (z : Int) = ic (l.set i z) := by simp [ic, List.map_set]
theorem Head.drew {w : World} {g cap : Nat} {ys : List Int} (h : Head w g cap ys) : Head w.drew g cap ys := h
/-- string(b) of such a list. -/
theorem run_text (w : World) (g cap k : Nat) (l : List Nat) (hk : l.length = k) (hy : ∀ x ∈ l, x < 256) (h : Head w g cap (ic l)) : (convert 30 9 (.slice (some ⟨g, 0, none⟩) k cap)).run Tryd.prog w = .ok (.string (sb l)) w := by
  have := run_convert_bytes_back (P := Tryd.prog) w 30 9 5 ⟨g, 0, none⟩ cap (l.map UInt8.ofNat) Tryd.underlying30 (by kernel_rfl) (by kernel_rfl) (fun j hj => by
    have hj' : j < l.length := by simpa using hj
    rw [Addr.add_lit, Nat.zero_add, h.cell j (by rw [ic_length]; exact hj'), ic_get]
    have e : (l.map UInt8.ofNat)[j].toNat = l.getD j 0 := by
      simp [List.getD, hj']
      have := hy l[j] (List.getElem_mem hj')
      omega
    rw [e])
  rw [List.length_map, hk] at this
  exact this
def lnv : Value → Nat
  | .slice _ k _ => k
  | _ => 0
theorem dr_byte (n j : Nat) : ∀ z ∈ ic (dr n j), 0 ≤ z ∧ z ≤ 255 := by
  intro z hz
  obtain ⟨x, hx, rfl⟩ := List.mem_map.1 hz
  obtain ⟨i, _, rfl⟩ := List.mem_map.1 hx
  omega
end Go.Proofs.YtajjilheellfeabDoor
