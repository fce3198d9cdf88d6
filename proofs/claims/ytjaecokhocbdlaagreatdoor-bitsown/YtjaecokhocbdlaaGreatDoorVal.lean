import Derived.Test.YtjaecokhocbdlaaGreatDoorBe
import Derived.Laws.Bits64b
namespace Go.Proofs.YtjaecokhocbdlaaGreatDoor
open Go.RowKit

theorem or8 (v z : Int) (v0 : 0 ≤ v) (v1 : v < 72057594037927936) (z0 : 0 ≤ z) (z1 : z ≤ 255) : bits BinOp.or IntKind.u64 (v * 256) z = v * 256 + z := by
  obtain ⟨a, rfl⟩ := Int.eq_ofNat_of_zero_le v0
  obtain ⟨b, rfl⟩ := Int.eq_ofNat_of_zero_le z0
  have h := bits_or_u64_nat (a * 256) b (by omega) (by omega)
  have e : a * 256 ||| b = a * 256 + b := by
    have := Nat.shiftLeft_add_eq_or_of_lt (a := a) (b := b) (i := 8) (by omega)
    rw [Nat.shiftLeft_eq] at this
    exact this.symm
  rw [e] at h
  rw [show ((a : Int) * 256) = ((a * 256 : Nat) : Int) from by omega, h]
  omega

/-- The number that these bytes are, the highest first. -/
def val (zs : List Int) : Int := zs.foldl (fun x b => x * 256 + b) 0
theorem val_snoc (l : List Int) (b : Int) : val (l ++ [b]) = val l * 256 + b := by simp [val]
theorem fold_bound (l : List Int) : ∀ (x : Int) (m : Nat), (∀ z ∈ l, 0 ≤ z ∧ z ≤ 255) → 0 ≤ x → x < 256 ^ m → 0 ≤ l.foldl (fun x b => x * 256 + b) x ∧ l.foldl (fun x b => x * 256 + b) x < 256 ^ (m + l.length) := by
  induction l with
  | nil => intro x m _ h0 h1; exact ⟨h0, h1⟩
  | cons b l ih =>
    intro x m h h0 h1
    have hb := h b (by simp)
    have := ih (x * 256 + b) (m + 1) (fun z hz => h z (by simp [hz])) (by omega) (by rw [Int.pow_succ]; omega)
    rw [show m + 1 + l.length = m + (b :: l).length from by simp; omega] at this
    exact this
theorem val_bound (l : List Int) (h : ∀ z ∈ l, 0 ≤ z ∧ z ≤ 255) : 0 ≤ val l ∧ val l < 256 ^ l.length := by
  have := fold_bound l 0 0 h (by omega) (by decide)
  rwa [Nat.zero_add] at this
/-- What Get holds behind k rounds. -/
def vk (zs : List Int) (W k : Nat) : Int := val ((zs.take W).take k)
theorem vk_zero (zs : List Int) (W : Nat) : vk zs W 0 = 0 := by simp [vk, val]
theorem vk_all (zs : List Int) (W : Nat) (h : W ≤ zs.length) : vk zs W W = val (zs.take W) := by
  unfold vk; rw [List.take_of_length_le (by simp; omega)]
theorem vk_step (zs : List Int) (W k : Nat) (h : k < (zs.take W).length) : vk zs W (k + 1) = vk zs W k * 256 + (zs.take W).getD k 0 := by
  unfold vk
  rw [List.take_succ_eq_append_getElem h, val_snoc]
  simp only [List.getD, List.getElem?_eq_getElem h, Option.getD_some]
theorem vk_bound (zs : List Int) (W k : Nat) (hk : k ≤ (zs.take W).length) (hb : ∀ z ∈ zs.take W, 0 ≤ z ∧ z ≤ 255) : 0 ≤ vk zs W k ∧ vk zs W k < 256 ^ k := by
  have := val_bound ((zs.take W).take k) fun z hz => hb z (List.mem_of_mem_take hz)
  rwa [List.length_take, Nat.min_eq_left hk] at this
theorem vk_small (zs : List Int) (W k : Nat) (hk : k < (zs.take W).length) (h8 : k < 8) (hb : ∀ z ∈ zs.take W, 0 ≤ z ∧ z ≤ 255) : 0 ≤ vk zs W k ∧ vk zs W k < 72057594037927936 := by
  have h := vk_bound zs W k (by omega) hb
  refine ⟨h.1, Int.lt_of_lt_of_le h.2 ?_⟩
  have e : k = 0 ∨ k = 1 ∨ k = 2 ∨ k = 3 ∨ k = 4 ∨ k = 5 ∨ k = 6 ∨ k = 7 := by omega
  rcases e with rfl | rfl | rfl | rfl | rfl | rfl | rfl | rfl <;> decide
theorem getD_byte (l : List Int) (k : Nat) (h : k < l.length) (hb : ∀ z ∈ l, 0 ≤ z ∧ z ≤ 255) : 0 ≤ l.getD k 0 ∧ l.getD k 0 ≤ 255 := by
  simp only [List.getD, List.getElem?_eq_getElem h, Option.getD_some]
  exact hb _ (List.getElem_mem h)
theorem val_w {zs : List Int} {W : Nat} (hW : W ≤ zs.length) (hb : ∀ z ∈ zs.take W, 0 ≤ z ∧ z ≤ 255) : 0 ≤ val (zs.take W) ∧ val (zs.take W) < 256 ^ W := by
  have := val_bound (zs.take W) hb
  rwa [List.length_take, Nat.min_eq_left hW] at this
end Go.Proofs.YtjaecokhocbdlaaGreatDoor
