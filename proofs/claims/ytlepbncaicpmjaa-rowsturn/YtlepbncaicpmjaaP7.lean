import Derived.Test.YtlepbncaicpmjaaP4
namespace Go.Proofs.Ytlepbncaicpmjaa
set_option maxRecDepth 100000
open Go.RowKit
set_option linter.unusedVariables false

theorem mod_two_step (A : Int) (m k : Nat) : A / 2 ^ m % 2 ^ (k + 1) = 2 * (A / 2 ^ (m + 1) % 2 ^ k) + A / 2 ^ m % 2 := by
  have e : A / 2 ^ (m + 1) = A / 2 ^ m / 2 := by rw [Int.pow_succ, Int.ediv_ediv_of_nonneg (Int.le_of_lt (pow_pos2 m))]
  rw [e]
  generalize A / 2 ^ m = y
  have hp := pow_pos2 k
  have h1 := Int.mul_ediv_add_emod y 2
  have h2 := Int.mul_ediv_add_emod (y / 2) (2 ^ k)
  have r0 := Int.emod_nonneg (y / 2) (show (2 : Int) ^ k ≠ 0 by omega)
  have r1 := Int.emod_lt_of_pos (y / 2) hp
  rw [Int.pow_succ]
  generalize (2 : Int) ^ k = p at *
  generalize y / 2 / p = u at *
  generalize y / 2 % p = v at *
  have e2 : y = (2 * v + y % 2) + (p * 2) * u := by
    have : p * 2 * u = 2 * (p * u) := by rw [Int.mul_comm p 2, Int.mul_assoc]
    omega
  have b : 0 ≤ 2 * v + y % 2 ∧ 2 * v + y % 2 < p * 2 := by omega
  conv => lhs; rw [e2]
  rw [Int.add_mul_emod_self_left, Int.emod_eq_of_lt b.1 b.2]
theorem be_at {n q : Nat} (A : Int) (hn : n = 32 ∨ n = 128) (hq : q < n / 8) : (be (n / 8) A).getD q 0 = A / 2 ^ (n - 8 * q - 8) % 2 ^ 8 := by
  have e : ∀ (k : Nat) (x : Int) (j : Nat), j < k → (be k x).getD j 0 = x / 256 ^ (k - 1 - j) % 256 := by
    intro k
    induction k with
    | zero => intro x j h; omega
    | succ k ih =>
      intro x j hj
      rw [be]
      cases j with
      | zero => simp
      | succ j => rw [List.getD_cons_succ, ih x j (by omega), show k + 1 - 1 - (j + 1) = k - 1 - j from by omega]
  rw [e _ _ _ hq]
  have : (256 : Int) ^ (n / 8 - 1 - q) = 2 ^ (n - 8 * q - 8) := by
    rw [show (256 : Int) = 2 ^ 8 from rfl, ← Int.pow_mul, show 8 * (n / 8 - 1 - q) = n - 8 * q - 8 from by omega]
  rw [this]
  rfl
theorem Am.at' {w w' : World} {g : Nat} {F H L : Int} (h : Am w g F H L) (e : w'.heap[g]? = w.heap[g]?) : Am w' g F H L := h.at e
theorem own_le7 {w : World} {B B' e s n : Nat} {v : Value} {xs : List Value} (h : w.ownsRow B e s v n xs) (hB : B' ≤ B) : w.ownsRow B' e s v n xs := by
  obtain ⟨h1, h2⟩ := h
  refine ⟨h1, ?_⟩
  rcases h2 with h2 | ⟨g, cap, cur, e1, hb, r⟩
  · exact .inl h2
  · exact .inr ⟨g, cap, cur, e1, Nat.le_trans hB hb, r⟩
theorem own_bel7 {w w' : World} {B e s n : Nat} {v : Value} {xs : List Value} (h : w.ownsRow B e s v n xs) (hb : Below w.heap.size w w') : w'.ownsRow B e s v n xs := by
  obtain ⟨h1, h2⟩ := h
  refine ⟨h1, ?_⟩
  rcases h2 with h2 | ⟨g, cap, cur, e1, hB, hg, r⟩
  · exact .inl h2
  · exact .inr ⟨g, cap, cur, e1, hB, by rw [hb.block g (Array.getElem?_eq_some_iff.1 hg).1]; exact hg, r⟩
end Go.Proofs.Ytlepbncaicpmjaa
namespace Go.Proofs.Ytlepbncaicpmjaa
set_option maxRecDepth 100000
open Go.RowKit
set_option linter.unusedVariables false

/-- Are the two one? -/
def sa (F H L F' H' L' : Int) : Bool := decide (F = F' ∧ H = H' ∧ L = L')
def spx (F H L B F' H' L' B' : Int) : Bool := decide ((F = F' ∧ H = H' ∧ L = L') ∧ B = B')
theorem aanew (w : World) (F H L F' H' L' : Int) : Below w.heap.size w ((w.alloc (.cells #[.int .i64 F, .int .u64 H, .int .u64 L] 84)).alloc (.cells #[.int .i64 F', .int .u64 H', .int .u64 L'] 84)) := (anew w F H L).alloc (by simp) _
theorem own_two (w : World) (a b : Int) : (w.alloc (.cells #[.int .u8 a, .int .u8 b] 5)).ownsRow w.heap.size 5 1 (.slice (some ⟨w.heap.size, 0, none⟩) 2 2) 2 (cells [a, b]) :=
  ⟨rfl, .inr ⟨w.heap.size, 2, _, rfl, Nat.le_refl _, heap_alloc_new w _, Nat.le_refl _, by unfold maxLen; omega, rfl, rfl⟩⟩
theorem cells_len7 (l : List Int) : (cells l).length = l.length := by simp [cells]
theorem cells_one7 (l : List Int) : ∀ v ∈ cells l, v.oneCell' = true := by
  intro v hv
  obtain ⟨z, _, rfl⟩ := List.mem_map.1 hv
  rfl
theorem head_src {w : World} {g cap : Nat} {L : List Int} (h : Head w g cap L) (j : Nat) (v : Value) (hv : (cells L)[j]? = some v) : w.cell? ((⟨g, 0, none⟩ : Addr).add j) = some v := by
  have hj : j < L.length := by
    have := (List.getElem?_eq_some_iff.1 hv).1
    rwa [cells_len7] at this
  rw [Addr.add_lit, Nat.zero_add, h.cell j hj, ← hv]
  simp [cells, List.getD, hj]
end Go.Proofs.Ytlepbncaicpmjaa
namespace Go.Proofs.Ytlepbncaicpmjaa
set_option maxRecDepth 100000
open Go.RowKit
set_option linter.unusedVariables false

theorem val_take7 (l : List Int) (j : Nat) (h : j < l.length) : val (l.take (j + 1)) = val (l.take j) * 256 + l.getD j 0 := by
  rw [List.take_succ_eq_append_getElem h, val_snoc]
  simp [List.getD, h]
theorem setCell_other7 (w : World) (g i j : Nat) (v : Value) (h : j ≠ g) : (w.setCell ⟨g, i, none⟩ v).heap[j]? = w.heap[j]? := by
  simp [World.setCell, Array.getElem?_modify, Ne.symm h]
section
variable {w w' : World} {g : Nat} {F H L B : Int}
theorem Am.s0 (h : Am w g F H L) (x : Int) : Am (w.setCell ⟨g, 0, none⟩ (.int .i64 x)) g x H L := by
  unfold Am at *
  simp [World.setCell, Array.getElem?_modify, h]
theorem Am.s1 (h : Am w g F H L) (x : Int) : Am (w.setCell ⟨g, 1, none⟩ (.int .u64 x)) g F x L := by
  unfold Am at *
  simp [World.setCell, Array.getElem?_modify, h]
theorem Am.s2 (h : Am w g F H L) (x : Int) : Am (w.setCell ⟨g, 2, none⟩ (.int .u64 x)) g F H x := by
  unfold Am at *
  simp [World.setCell, Array.getElem?_modify, h]
theorem Am.fz (h : Am w g F H L) (i : Nat) : w.frozen? ⟨g, i, none⟩ = false := by unfold Am at h; simp [World.frozen?, h]
end
theorem sizea : (Try.prog.info? 84).map (·.size) = some 3 := by kernel_rfl
theorem Am.row {w : World} {g : Nat} {F H L : Int} (h : Am w g F H L) (F' H' L' : Int) : Am (w.setRow g #[.int .i64 F', .int .u64 H', .int .u64 L']) g F' H' L' := setRow_heap w g _ _ _ _ h
theorem wpList_sa {ops : Array Oper} {rest : List Oper} {o : Oper} {a : Act} {w : World} {Q : Exit → Act → World → Prop} (hgd : o.guard = none) (hdst : o.dst = none) (x y : Operand) (ho : o.op = .store 84 x y)
    (g : Nat) (F H L : Int) (hx : a.eval x = .pointer (some ⟨g, 0, none⟩)) (hy : a.eval y = .agg #[.int .i64 F, .int .u64 H, .int .u64 L]) (F0 H0 L0 : Int) (hg : Am w g F0 H0 L0)
    (h : wpList Try.prog ops Q rest a (w.setRow g #[.int .i64 F, .int .u64 H, .int .u64 L])) : wpList Try.prog ops Q (o :: rest) a w := by
  refine wpList_store_row hgd _ x y ho g #[.int .i64 F, .int .u64 H, .int .u64 L] hx hy _ _ hg sizea rfl (by simp [Value.oneCell']) ?_
  rw [hdst]
  exact h
theorem results_a {fn : Func} {p : Tmp} (h : fn.results = #[.cell p 84]) (tmps : Array Value) (w : World) (g : Nat) (F H L : Int)
    (hp : tmps.getD p undef = .pointer (some ⟨g, 0, none⟩)) (hg : Am w g F H L) : (results fn tmps).run Try.prog w = .ok (.agg #[.int .i64 F, .int .u64 H, .int .u64 L]) w :=
  results_cell_row h tmps w g 84 #[.int .i64 F, .int .u64 H, .int .u64 L] (0, 0) _ hp hg Try.underlying84 rfl sizea
theorem getD_byte7 {zs : List Int} (h : ∀ z ∈ zs, 0 ≤ z ∧ z ≤ 255) (i : Nat) : 0 ≤ zs.getD i 0 ∧ zs.getD i 0 ≤ 255 := getD_byte6 h i
theorem pow256_15 (j : Nat) (h : j ≤ 15) : (256 : Int) ^ j ≤ 1329227995784915872903807060280344576 := by
  have : j = 0 ∨ j = 1 ∨ j = 2 ∨ j = 3 ∨ j = 4 ∨ j = 5 ∨ j = 6 ∨ j = 7 ∨ j = 8 ∨ j = 9 ∨ j = 10 ∨ j = 11 ∨ j = 12 ∨ j = 13 ∨ j = 14 ∨ j = 15 := by omega
  rcases this with rfl | rfl | rfl | rfl | rfl | rfl | rfl | rfl | rfl | rfl | rfl | rfl | rfl | rfl | rfl | rfl <;> decide
/-- The address that these bytes are. -/
def af (m : Nat) : Int := if m = 4 then 4 else 6
def ah (l : List Int) : Int := val l / 18446744073709551616
def al (l : List Int) : Int := val l % 18446744073709551616
end Go.Proofs.Ytlepbncaicpmjaa
