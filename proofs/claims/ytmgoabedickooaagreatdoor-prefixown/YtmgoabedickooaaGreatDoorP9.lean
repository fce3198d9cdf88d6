import Derived.Test.YtmgoabedickooaaGreatDoorP8
namespace Go.Proofs.YtmgoabedickooaaGreatDoor
set_option maxRecDepth 100000
open Go.RowKit
set_option linter.unusedVariables false

/-! Texts. -/
def hd (x : Nat) : Nat := if x < 10 then 48 + x else 87 + x
def hx (x : Nat) : List Nat := [hd (x / 16), hd (x % 16)]
theorem hd_lt (x : Nat) (h : x < 16) : (48 ≤ hd x ∧ hd x ≤ 57) ∨ (97 ≤ hd x ∧ hd x ≤ 102) := by
  unfold hd
  split <;> omega
/-- What the i-th of n bytes adds to the text. -/
def pc (n : Nat) (l : List Nat) (i : Nat) : List Nat :=
  if n = 4 then (if 0 < i then [46] else []) ++ dgs (l.getD i 0) 1 else (if n = 16 ∧ 0 < i ∧ i % 2 = 0 then [58] else []) ++ hx (l.getD i 0)
def txj (n : Nat) (l : List Nat) (j : Nat) : List Nat := (List.range j).flatMap (pc n l)
theorem txj_succ (n : Nat) (l : List Nat) (j : Nat) : txj n l (j + 1) = txj n l j ++ pc n l j := by
  unfold txj
  rw [List.range_succ, List.flatMap_append]
  simp
def tx (l : List Nat) : List Nat := txj l.length l l.length
theorem dgs_three (x : Nat) (h : x < 256) : (dgs x 1).length ≤ 3 := by
  have := (cnt_lt 3 x).2 (by omega)
  unfold dgs
  rw [dl_length]
  unfold dn
  rw [Nat.max_def]
  split <;> omega
theorem pc_le (n : Nat) (l : List Nat) (hl : ∀ x ∈ l, x < 256) (i : Nat) : (pc n l i).length ≤ 4 := by
  have hx' : l.getD i 0 < 256 := getD_lt6 hl i
  have := dgs_three _ hx'
  unfold pc hx
  split
  · rw [List.length_append]
    generalize l.getD i 0 = y at *
    split <;> simp only [List.length_cons, List.length_nil] <;> omega
  · rw [List.length_append]
    split <;> simp
theorem txj_le (n : Nat) (l : List Nat) (hl : ∀ x ∈ l, x < 256) (j : Nat) : (txj n l j).length ≤ 4 * j := by
  induction j with
  | zero => simp [txj]
  | succ j ih =>
    rw [txj_succ, List.length_append]
    have := pc_le n l hl j
    omega
/-- string(b) of such a list. -/
theorem run_text7 (w : World) (g cap k : Nat) (l : List Nat) (hk : l.length = k) (hy : ∀ x ∈ l, x < 256) (h : Head w g cap (ic l)) : (convert 44 9 (.slice (some ⟨g, 0, none⟩) k cap)).run Tryz.prog w = .ok (.string (sb l)) w := by
  have := run_convert_bytes_back (P := Tryz.prog) w 44 9 5 ⟨g, 0, none⟩ cap (l.map UInt8.ofNat) Tryz.underlying44 (by kernel_rfl) (by kernel_rfl) (fun j hj => by
    have hj' : j < l.length := by simpa using hj
    rw [Addr.add_lit, Nat.zero_add, h.cell j (by rw [ic_length]; exact hj'), ic_get]
    have e : (l.map UInt8.ofNat)[j].toNat = l.getD j 0 := by
      simp [List.getD, hj']
      have := hy l[j] (List.getElem_mem hj')
      omega
    rw [e])
  rw [List.length_map, hk] at this
  exact this
def hexd : ByteArray := sb [48, 49, 50, 51, 52, 53, 54, 55, 56, 57, 97, 98, 99, 100, 101, 102]
theorem hex_at (x : Nat) (h : x < 16) (w : World) : (Instr.index 9 (.string hexd) (.int .u8 (x : Int))).run Tryz.prog w = .ok (.int .u8 ((hd x : Nat) : Int)) w := by
  have hi : (0 : Int) ≤ (x : Int) ∧ (x : Int) < ((hexd).size : Int) := by
    have : hexd.size = 16 := rfl
    rw [this]
    omega
  rw [run_index_string w _ _ _ _ (by kernel_rfl), dif_pos hi]
  have e : ∀ x : Nat, (h : x < 16) → ((hexd)[(x : Int).toNat]'(by rw [Int.toNat_natCast]; exact h)).toNat = hd x := by decide
  rw [e x h]
end Go.Proofs.YtmgoabedickooaaGreatDoor
