import Derived.Test.YtghehfhkiknjhaaBAcc
import Derived.Laws.Bits64b
namespace Go.Proofs.Ytghehfhkiknjhaa
set_option maxRecDepth 100000
open Go.RowKit

/-- What Get holds behind k rounds. -/
def vk (zs : List Int) (W k : Nat) : Int := val ((zs.take W).take k)
theorem vk_zero (zs : List Int) (W : Nat) : vk zs W 0 = 0 := by simp [vk, val]
theorem vk_all (zs : List Int) (W : Nat) (h : W ≤ zs.length) : vk zs W W = val (zs.take W) := by
  unfold vk; rw [List.take_of_length_le (by simp; omega)]
theorem vk_step (zs : List Int) (W k : Nat) (h : k < (zs.take W).length) : vk zs W (k + 1) = vk zs W k * 256 + (zs.take W).getD k 0 := by
  unfold vk
  rw [List.take_succ_eq_append_getElem h, val_snoc]
  simp only [List.getD, List.getElem?_eq_getElem h, Option.getD_some]
theorem vk_bound (zs : List Int) (W k : Nat) (hk : k ≤ (zs.take W).length) (hb : ∀ z ∈ zs.take W, 0 ≤ z ∧ z ≤ 255) : 0 ≤ vk zs W k ∧ vk zs W k < 256 ^ k := by
  have := val_bound ((zs.take W).take k) fun z hz => hb z (List.mem_of_mem_take hz)
  rwa [List.length_take, Nat.min_eq_left hk] at this
theorem vk_small (zs : List Int) (W k : Nat) (hk : k < (zs.take W).length) (h8 : k < 8) (hb : ∀ z ∈ zs.take W, 0 ≤ z ∧ z ≤ 255) : 0 ≤ vk zs W k ∧ vk zs W k < 72057594037927936 := by
  have h := vk_bound zs W k (by omega) hb
  refine ⟨h.1, Int.lt_of_lt_of_le h.2 ?_⟩
  have e : k = 0 ∨ k = 1 ∨ k = 2 ∨ k = 3 ∨ k = 4 ∨ k = 5 ∨ k = 6 ∨ k = 7 := by omega
  rcases e with rfl | rfl | rfl | rfl | rfl | rfl | rfl | rfl <;> decide
theorem getD_byteP (l : List Int) (k : Nat) (h : k < l.length) (hb : ∀ z ∈ l, 0 ≤ z ∧ z ≤ 255) : 0 ≤ l.getD k 0 ∧ l.getD k 0 ≤ 255 := by
  simp only [List.getD, List.getElem?_eq_getElem h, Option.getD_some]
  exact hb _ (List.getElem_mem h)
theorem val_w {zs : List Int} {W : Nat} (hW : W ≤ zs.length) (hb : ∀ z ∈ zs.take W, 0 ≤ z ∧ z ≤ 255) : 0 ≤ val (zs.take W) ∧ val (zs.take W) < 256 ^ W := by
  have := val_bound (zs.take W) hb
  rwa [List.length_take, Nat.min_eq_left hW] at this

end Go.Proofs.Ytghehfhkiknjhaa
