import Derived.Test.YtmnmmkonkimjeaaGreatDoorAes
import Derived.Test.YtmnmmkonkimjeaaGreatDoorBase
namespace Go.Proofs.YtmnmmkonkimjeaaGreatDoor
open Go.RowKit
set_option linter.unusedVariables false
set_option maxRecDepth 100000

/-! GCM: blocks as functions of the places 0 to 15, lists of bytes as lists of numbers. -/
/-- Sixteen bytes as one number. -/
def pk (f : Nat → Nat) : Nat := lval ((List.range 16).map fun j => f (15 - j))
theorem pk_bytes {f : Nat → Nat} (h : ∀ i, i < 16 → f i < 256) : ∀ z ∈ (List.range 16).map fun j => f (15 - j), z < 256 := by
  intro z hz
  obtain ⟨j, _, rfl⟩ := List.mem_map.1 hz
  exact h _ (by omega)
theorem dg_pk {f : Nat → Nat} (h : ∀ i, i < 16 → f i < 256) : ∀ i, i < 16 → dg (pk f) i = f i := fun i hi => by
  unfold dg pk
  rw [lval_dig _ _ (pk_bytes h)]
  simp [List.getD, show 15 - i < 16 from by omega]
  rw [show 15 - (15 - i) = i from by omega]
theorem pk_lt {f : Nat → Nat} (h : ∀ i, i < 16 → f i < 256) : pk f < 2 ^ 128 := by
  have := lval_lt _ (pk_bytes h)
  simpa [pk] using this
theorem av_pk {f : Nat → Nat} (h : ∀ i, i < 16 → f i < 256) : av f = bv (pk f) := by
  rw [← av_bv]
  exact av_ext fun i hi => (dg_pk h i hi).symm
/-- The product of two blocks. -/
def gm (f h : Nat → Nat) : Nat → Nat := dg (mul (pk f) (pk h))
theorem gm_lt (f h : Nat → Nat) (i : Nat) : gm f h i < 256 := dg_lt _ i
/-- One round of the fold takes in the bytes from 16 r on. -/
def zx (z : Nat → Nat) (b : List Nat) (r : Nat) : Nat → Nat := fun k => if 16 * r + k < b.length then z k ^^^ b.getD (16 * r + k) 0 else z k
theorem zx_lt {z : Nat → Nat} {b : List Nat} (hz : ∀ i, i < 16 → z i < 256) (hb : ∀ x ∈ b, x < 256) (r : Nat) : ∀ i, i < 16 → zx z b r i < 256 := fun i hi => by
  unfold zx
  split
  · exact xor_lt8 (hz i hi) (getD_lt hb _)
  · exact hz i hi
def fd (h : Nat → Nat) (b : List Nat) (z : Nat → Nat) : Nat → Nat → Nat
  | 0 => z
  | r + 1 => gm (zx (fd h b z r) b r) h
theorem fd_lt {h z : Nat → Nat} {b : List Nat} (hz : ∀ i, i < 16 → z i < 256) : ∀ r i, i < 16 → fd h b z r i < 256
  | 0 => hz
  | r + 1 => fun i _ => gm_lt _ _ i
/-- The fold over a whole list. -/
def fo (h : Nat → Nat) (b : List Nat) (z : Nat → Nat) : Nat → Nat := fd h b z ((b.length + 15) / 16)
theorem fo_lt {h z : Nat → Nat} {b : List Nat} (hz : ∀ i, i < 16 → z i < 256) : ∀ i, i < 16 → fo h b z i < 256 := fd_lt hz _
/-- The counter block. -/
def cb (nz : List Nat) (n : Nat) : Nat → Nat := fun i => if i < 12 then nz.getD i 0 else n / 2 ^ (24 - 8 * (i - 12)) % 256
theorem cb_lt {nz : List Nat} (h : ∀ x ∈ nz, x < 256) (n : Nat) : ∀ i, i < 16 → cb nz n i < 256 := fun i _ => by
  unfold cb
  split
  · exact getD_lt h _
  · exact Nat.mod_lt _ (by omega)
/-- The stream. -/
def sx (k : Nat → Nat) (nz : List Nat) (i : Nat) : Nat := bl k (cb nz (2 + i / 16)) 14 (i % 16)
theorem sx_lt {k : Nat → Nat} {nz : List Nat} (hk : ∀ j, k j < 256) (h : ∀ x ∈ nz, x < 256) (i : Nat) : sx k nz i < 256 := bl_lt hk (cb_lt h _) 14 _ (by omega)
/-- A text xored with its stream. -/
def st (k : Nat → Nat) (nz t : List Nat) : List Nat := (List.range t.length).map fun i => t.getD i 0 ^^^ sx k nz i
theorem st_length (k : Nat → Nat) (nz t : List Nat) : (st k nz t).length = t.length := by simp [st]
theorem st_get (k : Nat → Nat) (nz t : List Nat) (i : Nat) (h : i < t.length) : (st k nz t).getD i 0 = t.getD i 0 ^^^ sx k nz i := by
  simp [st, List.getD, h]
theorem st_lt {k : Nat → Nat} {nz t : List Nat} (hk : ∀ j, k j < 256) (hn : ∀ x ∈ nz, x < 256) (ht : ∀ x ∈ t, x < 256) : ∀ x ∈ st k nz t, x < 256 := by
  intro x hx
  obtain ⟨i, _, rfl⟩ := List.mem_map.1 hx
  exact xor_lt8 (getD_lt ht _) (sx_lt hk hn i)
theorem list_ext {a b : List Nat} (hl : a.length = b.length) (h : ∀ i, i < a.length → a.getD i 0 = b.getD i 0) : a = b := by
  apply List.ext_getElem hl
  intro i h1 h2
  have := h i h1
  simpa [List.getD, h1, h2] using this
theorem st_st (k : Nat → Nat) (nz t : List Nat) : st k nz (st k nz t) = t := by
  refine list_ext (by rw [st_length, st_length]) fun i hi => ?_
  rw [st_length, st_length] at hi
  rw [st_get _ _ _ _ (by rw [st_length]; exact hi), st_get _ _ _ _ hi, Nat.xor_assoc, Nat.xor_self, Nat.xor_zero]
/-- A number as eight bytes, the highest first. -/
def e8 (n : Nat) : List Nat := (List.range 8).map fun i => n / 2 ^ (56 - 8 * i) % 256
theorem e8_length (n : Nat) : (e8 n).length = 8 := by simp [e8]
theorem e8_lt (n : Nat) : ∀ x ∈ e8 n, x < 256 := by
  intro x hx
  obtain ⟨i, _, rfl⟩ := List.mem_map.1 hx
  exact Nat.mod_lt _ (by omega)
/-- The tag. -/
def tg (k : Nat → Nat) (nz ad c : List Nat) : Nat → Nat :=
  fun i => fo (bl k (fun _ => 0) 14) (e8 (8 * ad.length) ++ e8 (8 * c.length)) (fo (bl k (fun _ => 0) 14) c (fo (bl k (fun _ => 0) 14) ad fun _ => 0)) i ^^^ bl k (cb nz 1) 14 i
theorem tg_lt {k : Nat → Nat} {nz : List Nat} (hk : ∀ j, k j < 256) (hn : ∀ x ∈ nz, x < 256) (ad c : List Nat) : ∀ i, i < 16 → tg k nz ad c i < 256 := fun i hi =>
  xor_lt8 (fo_lt (fo_lt (fo_lt fun _ _ => by omega)) i hi) (bl_lt hk (cb_lt hn 1) 14 i hi)
def tl (k : Nat → Nat) (nz ad c : List Nat) : List Nat := (List.range 16).map (tg k nz ad c)
theorem tl_length (k : Nat → Nat) (nz ad c : List Nat) : (tl k nz ad c).length = 16 := by simp [tl]
theorem tl_get (k : Nat → Nat) (nz ad c : List Nat) (i : Nat) (h : i < 16) : (tl k nz ad c).getD i 0 = tg k nz ad c i := by simp [tl, List.getD, h]
/-- What is sealed. -/
def sl (k : Nat → Nat) (nz ad t : List Nat) : List Nat := st k nz t ++ tl k nz ad (st k nz t)
theorem sl_length (k : Nat → Nat) (nz ad t : List Nat) : (sl k nz ad t).length = t.length + 16 := by rw [sl, List.length_append, st_length, tl_length]
theorem tl_lt {k : Nat → Nat} {nz : List Nat} (hk : ∀ j, k j < 256) (hn : ∀ x ∈ nz, x < 256) (ad c : List Nat) : ∀ x ∈ tl k nz ad c, x < 256 := by
  intro x hx
  obtain ⟨i, hi, rfl⟩ := List.mem_map.1 hx
  exact tg_lt hk hn ad c i (by simpa using hi)
theorem sl_lt {k : Nat → Nat} {nz ad t : List Nat} (hk : ∀ j, k j < 256) (hn : ∀ x ∈ nz, x < 256) (ht : ∀ x ∈ t, x < 256) : ∀ x ∈ sl k nz ad t, x < 256 := by
  intro x hx
  rcases List.mem_append.1 hx with h | h
  · exact st_lt hk hn ht x h
  · exact tl_lt hk hn _ _ x h
/-- What opens is just what would be sealed. -/
theorem sl_one (k : Nat → Nat) (nz ad s : List Nat) (n : Nat) (hn : s.length = n + 16) (h : s.drop n = tl k nz ad (s.take n)) : sl k nz ad (st k nz (s.take n)) = s := by
  unfold sl
  rw [st_st, ← h, List.take_append_drop]
end Go.Proofs.YtmnmmkonkimjeaaGreatDoor
