import Derived.Test.YtknjokmoommdeaaGreatDoorP8
namespace Go.Proofs.YtknjokmoommdeaaGreatDoor
set_option maxRecDepth 100000
open Go.RowKit
set_option linter.unusedVariables false

/-! Texts. -/
def hd (x : Nat) : Nat := if x < 10 then 48 + x else 87 + x
def hx (x : Nat) : List Nat := [hd (x / 16), hd (x % 16)]
theorem hd_lt (x : Nat) (h : x < 16) : (48 ≤ hd x ∧ hd x ≤ 57) ∨ (97 ≤ hd x ∧ hd x ≤ 102) := by
  unfold hd
  split <;> omega
/-- What the i-th of n bytes adds to the text. -/
def pc (n : Nat) (l : List Nat) (i : Nat) : List Nat :=
  if n = 4 then (if 0 < i then [46] else []) ++ dgs (l.getD i 0) 1 else (if n = 16 ∧ 0 < i ∧ i % 2 = 0 then [58] else []) ++ hx (l.getD i 0)
def txj (n : Nat) (l : List Nat) (j : Nat) : List Nat := (List.range j).flatMap (pc n l)
theorem txj_succ (n : Nat) (l : List Nat) (j : Nat) : txj n l (j + 1) = txj n l j ++ pc n l j := by
  unfold txj
  rw [List.range_succ, List.flatMap_append]
  simp
def tx (l : List Nat) : List Nat := txj l.length l l.length
theorem dgs_three (x : Nat) (h : x < 256) : (dgs x 1).length ≤ 3 := by
  have := (cnt_lt 3 x).2 (by omega)
  unfold dgs
  rw [dl_length]
  unfold dn
  rw [Nat.max_def]
  split <;> omega
theorem pc_le (n : Nat) (l : List Nat) (hl : ∀ x ∈ l, x < 256) (i : Nat) : (pc n l i).length ≤ 4 := by
  have hx' : l.getD i 0 < 256 := getD_lt6 hl i
  have := dgs_three _ hx'
  unfold pc hx
  split
  · rw [List.length_append]
    generalize l.getD i 0 = y at *
    split <;> simp only [List.length_cons, List.length_nil] <;> omega
  · rw [List.length_append]
    split <;> simp
theorem txj_le (n : Nat) (l : List Nat) (hl : ∀ x ∈ l, x < 256) (j : Nat) : (txj n l j).length ≤ 4 * j := by
  induction j with
  | zero => simp [txj]
  | succ j ih =>
    rw [txj_succ, List.length_append]
    have := pc_le n l hl j
    omega
/-- string(b) of such a list. -/
theorem run_text7 (w : World) (g cap k : Nat) (l : List Nat) (hk : l.length = k) (hy : ∀ x ∈ l, x < 256) (h : Head w g cap (ic l)) : (convert 33 9 (.slice (some ⟨g, 0, none⟩) k cap)).run Tryz.prog w = .ok (.string (sb l)) w := by
  have := run_convert_bytes_back (P := Tryz.prog) w 33 9 5 ⟨g, 0, none⟩ cap (l.map UInt8.ofNat) Tryz.underlying33 (by kernel_rfl) (by kernel_rfl) (fun j hj => by
    have hj' : j < l.length := by simpa using hj
    rw [Addr.add_lit, Nat.zero_add, h.cell j (by rw [ic_length]; exact hj'), ic_get]
    have e : (l.map UInt8.ofNat)[j].toNat = l.getD j 0 := by
      simp [List.getD, hj']
      have := hy l[j] (List.getElem_mem hj')
      omega
    rw [e])
  rw [List.length_map, hk] at this
  exact this
def hexd : ByteArray := sb [48, 49, 50, 51, 52, 53, 54, 55, 56, 57, 97, 98, 99, 100, 101, 102]
theorem hex_at (x : Nat) (h : x < 16) (w : World) : (Instr.index 9 (.string hexd) (.int .u8 (x : Int))).run Tryz.prog w = .ok (.int .u8 ((hd x : Nat) : Int)) w := by
  have hi : (0 : Int) ≤ (x : Int) ∧ (x : Int) < ((hexd).size : Int) := by
    have : hexd.size = 16 := rfl
    rw [this]
    omega
  rw [run_index_string w _ _ _ _ (by kernel_rfl), dif_pos hi]
  have e : ∀ x : Nat, (h : x < 16) → ((hexd)[(x : Int).toNat]'(by rw [Int.toNat_natCast]; exact h)).toNat = hd x := by decide
  rw [e x h]
set_option maxHeartbeats 400000 in
theorem refHex_ (x : Nat) (w : World) (h : x < 256) :
    Calls Tryz.prog 55 #[.int .u8 x] w fun e w' => e = .returned (.string (sb (hx x))) ∧ Below w.heap.size w w' := by
  have q1 := fun w => hex_at (x / 16) (by omega) w
  have q2 := fun w => hex_at (x % 16) (by omega) w
  have e1 : ((x / 16 : Nat) : Int) = (x : Int) / 16 := by omega
  have e2 : ((x % 16 : Nat) : Int) = (x : Int) % 16 := by omega
  simp only [e1] at q1
  simp only [e2] at q2
  have HH : Hid (hexd = ⟨#[48, 49, 50, 51, 52, 53, 54, 55, 56, 57, 97, 98, 99, 100, 101, 102]⟩) := rfl
  simp only [HH.out] at q1 q2
  have HXX : Hid (hx x = [hd (x / 16), hd (x % 16)]) := rfl
  have b1 := hd_lt (x / 16) (by omega)
  have b2 := hd_lt (x % 16) (by omega)
  generalize hd (x / 16) = a at *
  generalize hd (x % 16) = b at *
  go_enter Tryz.func55, Tryz.ntmps55
  go_wp2_with fail
  refine wp_region_held_drew (S := fun _ => True) (by kernel_rfl) trivial (fun hHeld => ?_)
  have B0 := bel_drew1 (Below.refl w.heap.size w)
  generalize w.drew = wd at *
  refine take_to 0 4 (.string ⟨#[48, 49, 50, 51, 52, 53, 54, 55, 56, 57, 97, 98, 99, 100, 101, 102]⟩) rfl rfl (by kernel_rfl) (by kernel_rfl) (by kernel_rfl) (fun _ _ _ h => h) (Or.inl ⟨by rfl, fun w' h => ?_⟩) hHeld ?_
  · go_simp
  try simp only [List.setIfInBounds_toArray, List.set_cons_zero, List.set_cons_succ]
  refine take_to 1 5 (.int .u8 (x : Int)) rfl rfl (by kernel_rfl) (by kernel_rfl) (by kernel_rfl) (fun _ _ _ h => h) (Or.inl ⟨by rfl, fun w' h => ?_⟩) hHeld ?_
  · go_simp
  try simp only [List.setIfInBounds_toArray, List.set_cons_zero, List.set_cons_succ]
  refine take_to 2 6 (.int .u8 ((x : Int) / 16)) rfl rfl (by kernel_rfl) (by kernel_rfl) (by kernel_rfl) (fun _ _ _ h => h) (Or.inl ⟨by rfl, fun w' h => ?_⟩) hHeld ?_
  · go_simp
    rw [IntKind.wrap_u8]; omega
  try simp only [List.setIfInBounds_toArray, List.set_cons_zero, List.set_cons_succ]
  refine take_to 3 7 (.int .u8 (a : Int)) rfl rfl (by kernel_rfl) (by kernel_rfl) (by kernel_rfl) (fun _ _ _ h => h) (Or.inl ⟨by rfl, fun w' h => ?_⟩) hHeld ?_
  · go_simp
  try simp only [List.setIfInBounds_toArray, List.set_cons_zero, List.set_cons_succ]
  refine take_to 4 8 (.string ⟨#[48, 49, 50, 51, 52, 53, 54, 55, 56, 57, 97, 98, 99, 100, 101, 102]⟩) rfl rfl (by kernel_rfl) (by kernel_rfl) (by kernel_rfl) (fun _ _ _ h => h) (Or.inl ⟨by rfl, fun w' h => ?_⟩) hHeld ?_
  · go_simp
  try simp only [List.setIfInBounds_toArray, List.set_cons_zero, List.set_cons_succ]
  refine take_to 5 9 (.int .u8 (x : Int)) rfl rfl (by kernel_rfl) (by kernel_rfl) (by kernel_rfl) (fun _ _ _ h => h) (Or.inl ⟨by rfl, fun w' h => ?_⟩) hHeld ?_
  · go_simp
  try simp only [List.setIfInBounds_toArray, List.set_cons_zero, List.set_cons_succ]
  refine take_to 6 10 (.int .u8 ((x : Int) % 16)) rfl rfl (by kernel_rfl) (by kernel_rfl) (by kernel_rfl) (fun _ _ _ h => h) (Or.inl ⟨by rfl, fun w' h => ?_⟩) hHeld ?_
  · go_simp
    exact Int.tmod_eq_emod_of_nonneg (by omega)
  try simp only [List.setIfInBounds_toArray, List.set_cons_zero, List.set_cons_succ]
  refine take_to 7 11 (.int .u8 (b : Int)) rfl rfl (by kernel_rfl) (by kernel_rfl) (by kernel_rfl) (fun _ _ _ h => h) (Or.inl ⟨by rfl, fun w' h => ?_⟩) hHeld ?_
  · go_simp
  try simp only [List.setIfInBounds_toArray, List.set_cons_zero, List.set_cons_succ]
  refine wpAnyH_ready (rs := [8]) (by kernel_rfl) (by simp) ?_
  refine AllReadyH.cons rfl (fun K' hK' => ?_) AllReadyH.nil
  rw [if_pos (by rfl)]
  go_wp2_with fail
  have hrow : Head (wd.alloc (.cells #[.int .u8 (a : Int), .int .u8 (b : Int)] 5)) wd.heap.size 2 [(a : Int), (b : Int)] := ⟨#[.int .u8 (a : Int), .int .u8 (b : Int)], heap_alloc_new wd _, rfl, Nat.le_refl _, rfl⟩
  replace B0 := B0.alloc B0.size (.cells #[.int .u8 (a : Int), .int .u8 (b : Int)] 5)
  generalize wd.alloc (.cells #[.int .u8 (a : Int), .int .u8 (b : Int)] 5) = w2 at *
  generalize wd.heap.size = g at *
  clear hHeld
  refine hK'.out _ _ trivial (fun hHeld => ?_)
  clear hK' K'
  try simp only [Act.put, List.setIfInBounds_toArray, List.set_cons_zero, List.set_cons_succ]
  have hcv := run_text7 w2 g 2 2 [a, b] rfl (by intro z hz; simp at hz; omega) hrow
  refine wpAnyH_ready (rs := [9]) (by kernel_rfl) (by simp) ?_
  refine AllReadyH.cons rfl (fun K' hK' => ?_) AllReadyH.nil
  rw [if_pos (by rfl)]
  go_wp2_with fail
  clear hHeld hcv
  refine hK'.out _ _ trivial (fun hHeld => ?_)
  clear hK' K'
  try simp only [Act.put, List.setIfInBounds_toArray, List.set_cons_zero, List.set_cons_succ]
  refine take_to 10 2 (.string (sb [a, b])) rfl rfl (by kernel_rfl) (by kernel_rfl) (by kernel_rfl) (fun _ _ _ h => h) (Or.inl ⟨by rfl, fun w' h => ?_⟩) hHeld ?_
  · go_simp
  try simp only [List.setIfInBounds_toArray, List.set_cons_zero, List.set_cons_succ]
  refine wpAnyH_done (by kernel_rfl) ?_ _
  go_wp2_with fail
  go_ret
  exact ⟨by rw [HXX.out]; rfl, B0⟩
end Go.Proofs.YtknjokmoommdeaaGreatDoor
