import Derived.Test.YtkeogggeefnoeaaGreatDoorP3
import Derived.Deep.RegionHeld
import Derived.Deep.Cut
namespace Go.Proofs.YtkeogggeefnoeaaGreatDoor
set_option linter.unusedSimpArgs false
set_option maxRecDepth 100000
open Go.RowKit
set_option linter.unusedVariables false

/-- What yields its value in every world that meets S may be taken first. -/
theorem take_to {ops : Array Oper} {Q : Exit → Act → World → Prop} {md : Region.Mode} {S : World → Prop} {oi : Oper} {fuel : Nat} {listed : Array Bool} {a : Act} {w : World} (i d : Nat) (v : Value) (hi : ops[i]? = some oi) (hd : oi.dst = some d)
    (hs : Region.noSelect ops = true) (hf : Region.free md ops listed i = true) (hr : (Region.ready md ops listed).contains i = true)
    (hQ : ∀ c a w, Q (.panic c) (a.put oi.dst v) w → Q (.panic c) a w) (hy : YieldsIf Tryz.prog ops S oi v a) (hS : S w)
    (h : wpAnyH Tryz.prog md ops Q S fuel (listed.setIfInBounds i true) ⟨a.tmps.setIfInBounds d v, a.defers⟩ w) : wpAnyH Tryz.prog md ops Q S (fuel + 1) listed a w :=
  wpAnyH_take hi hs hf hr hQ hy hS (by rw [hd]; exact h)
theorem bel_drew1 {B : Nat} {a b : World} (h : Below B a b) : Below B a b.drew := h.trans ⟨rfl, rfl, rfl, Nat.le_refl _, fun _ _ => rfl⟩
theorem Pm.drew {w : World} {g : Nat} {F H L B : Int} (h : Pm w g F H L B) : Pm w.drew g F H L B := h
theorem Am.drew {w : World} {g : Nat} {F H L : Int} (h : Am w g F H L) : Am w.drew g F H L := h
theorem od_zero (a b : Int) : od a b = 0 ↔ a = b := by
  unfold od
  split
  · constructor <;> intro h <;> omega
  · split <;> constructor <;> intro h <;> omega
def x4 (x0 x1 x2 x3 : Int) (j : Nat) : Int := if j = 0 then x0 else if j = 1 then x1 else if j = 2 then x2 else x3
theorem x4_first {x0 x1 x2 x3 : Int} (j : Nat) (hj : j < 4) (h0 : ∀ q, q < j → x4 x0 x1 x2 x3 q = 0) (h : x4 x0 x1 x2 x3 j ≠ 0) : (if x0 ≠ 0 then x0 else if x1 ≠ 0 then x1 else if x2 ≠ 0 then x2 else x3) = x4 x0 x1 x2 x3 j := by
  have : j = 0 ∨ j = 1 ∨ j = 2 ∨ j = 3 := by omega
  rcases this with rfl | rfl | rfl | rfl
  · have h : x0 ≠ 0 := h
    rw [if_pos h]; rfl
  · have a0 : x0 = 0 := h0 0 (by omega)
    have h : x1 ≠ 0 := h
    rw [if_neg (not_not_intro a0), if_pos h]; rfl
  · have a0 : x0 = 0 := h0 0 (by omega)
    have a1 : x1 = 0 := h0 1 (by omega)
    have h : x2 ≠ 0 := h
    rw [if_neg (not_not_intro a0), if_neg (not_not_intro a1), if_pos h]; rfl
  · have a0 : x0 = 0 := h0 0 (by omega)
    have a1 : x1 = 0 := h0 1 (by omega)
    have a2 : x2 = 0 := h0 2 (by omega)
    rw [if_neg (not_not_intro a0), if_neg (not_not_intro a1), if_neg (not_not_intro a2)]; rfl
theorem x4_none {x0 x1 x2 x3 : Int} (h0 : ∀ q, q < 4 → x4 x0 x1 x2 x3 q = 0) : (if x0 ≠ 0 then x0 else if x1 ≠ 0 then x1 else if x2 ≠ 0 then x2 else x3) = 0 := by
  have a0 : x0 = 0 := h0 0 (by omega)
  have a1 : x1 = 0 := h0 1 (by omega)
  have a2 : x2 = 0 := h0 2 (by omega)
  have a3 : x3 = 0 := h0 3 (by omega)
  rw [if_neg (not_not_intro a0), if_neg (not_not_intro a1), if_neg (not_not_intro a2), a3]
theorem ppnew (w : World) (F H L B F' H' L' B' : Int) : Below w.heap.size w ((w.alloc (.cells #[.int .i64 F, .int .u64 H, .int .u64 L, .int .i64 B] 68)).alloc (.cells #[.int .i64 F', .int .u64 H', .int .u64 L', .int .i64 B'] 68)) ∧ Pm ((w.alloc (.cells #[.int .i64 F, .int .u64 H, .int .u64 L, .int .i64 B] 68)).alloc (.cells #[.int .i64 F', .int .u64 H', .int .u64 L', .int .i64 B'] 68)) w.heap.size F H L B ∧ Pm ((w.alloc (.cells #[.int .i64 F, .int .u64 H, .int .u64 L, .int .i64 B] 68)).alloc (.cells #[.int .i64 F', .int .u64 H', .int .u64 L', .int .i64 B'] 68)) (w.heap.size + 1) F' H' L' B' := by
  refine ⟨(pnew w F H L B).alloc (by simp) _, (Pm.new w F H L B).alloc _, ?_⟩
  have := Pm.new (w.alloc (.cells #[.int .i64 F, .int .u64 H, .int .u64 L, .int .i64 B] 68)) F' H' L' B'
  simpa using this
end Go.Proofs.YtkeogggeefnoeaaGreatDoor
namespace Go.Proofs.YtkeogggeefnoeaaGreatDoor
set_option linter.unusedSimpArgs false
set_option maxRecDepth 100000
open Go.RowKit
set_option linter.unusedVariables false

theorem mod_two_step (A : Int) (m k : Nat) : A / 2 ^ m % 2 ^ (k + 1) = 2 * (A / 2 ^ (m + 1) % 2 ^ k) + A / 2 ^ m % 2 := by
  have e : A / 2 ^ (m + 1) = A / 2 ^ m / 2 := by rw [Int.pow_succ, Int.ediv_ediv_of_nonneg (Int.le_of_lt (pow_pos2 m))]
  rw [e]
  generalize A / 2 ^ m = y
  have hp := pow_pos2 k
  have h1 := Int.mul_ediv_add_emod y 2
  have h2 := Int.mul_ediv_add_emod (y / 2) (2 ^ k)
  have r0 := Int.emod_nonneg (y / 2) (show (2 : Int) ^ k ≠ 0 by omega)
  have r1 := Int.emod_lt_of_pos (y / 2) hp
  rw [Int.pow_succ]
  generalize (2 : Int) ^ k = p at *
  generalize y / 2 / p = u at *
  generalize y / 2 % p = v at *
  have e2 : y = (2 * v + y % 2) + (p * 2) * u := by
    have : p * 2 * u = 2 * (p * u) := by rw [Int.mul_comm p 2, Int.mul_assoc]
    omega
  have b : 0 ≤ 2 * v + y % 2 ∧ 2 * v + y % 2 < p * 2 := by omega
  conv => lhs; rw [e2]
  rw [Int.add_mul_emod_self_left, Int.emod_eq_of_lt b.1 b.2]
theorem be_at {n q : Nat} (A : Int) (hn : n = 32 ∨ n = 128) (hq : q < n / 8) : (be (n / 8) A).getD q 0 = A / 2 ^ (n - 8 * q - 8) % 2 ^ 8 := by
  have e : ∀ (k : Nat) (x : Int) (j : Nat), j < k → (be k x).getD j 0 = x / 256 ^ (k - 1 - j) % 256 := by
    intro k
    induction k with
    | zero => intro x j h; omega
    | succ k ih =>
      intro x j hj
      rw [be]
      cases j with
      | zero => simp
      | succ j => rw [List.getD_cons_succ, ih x j (by omega), show k + 1 - 1 - (j + 1) = k - 1 - j from by omega]
  rw [e _ _ _ hq]
  have : (256 : Int) ^ (n / 8 - 1 - q) = 2 ^ (n - 8 * q - 8) := by
    rw [show (256 : Int) = 2 ^ 8 from rfl, ← Int.pow_mul, show 8 * (n / 8 - 1 - q) = n - 8 * q - 8 from by omega]
  rw [this]
  rfl
theorem Am.at' {w w' : World} {g : Nat} {F H L : Int} (h : Am w g F H L) (e : w'.heap[g]? = w.heap[g]?) : Am w' g F H L := h.at e
theorem own_le7 {w : World} {B B' e s n : Nat} {v : Value} {xs : List Value} (h : w.ownsRow B e s v n xs) (hB : B' ≤ B) : w.ownsRow B' e s v n xs := by
  obtain ⟨h1, h2⟩ := h
  refine ⟨h1, ?_⟩
  rcases h2 with h2 | ⟨g, cap, cur, e1, hb, r⟩
  · exact .inl h2
  · exact .inr ⟨g, cap, cur, e1, Nat.le_trans hB hb, r⟩
theorem own_bel7 {w w' : World} {B e s n : Nat} {v : Value} {xs : List Value} (h : w.ownsRow B e s v n xs) (hb : Below w.heap.size w w') : w'.ownsRow B e s v n xs := by
  obtain ⟨h1, h2⟩ := h
  refine ⟨h1, ?_⟩
  rcases h2 with h2 | ⟨g, cap, cur, e1, hB, hg, r⟩
  · exact .inl h2
  · exact .inr ⟨g, cap, cur, e1, hB, by rw [hb.block g (Array.getElem?_eq_some_iff.1 hg).1]; exact hg, r⟩
end Go.Proofs.YtkeogggeefnoeaaGreatDoor
namespace Go.Proofs.YtkeogggeefnoeaaGreatDoor
set_option linter.unusedSimpArgs false
set_option maxRecDepth 100000
open Go.RowKit
set_option linter.unusedVariables false

/-- Are the two one? -/
def sa (F H L F' H' L' : Int) : Bool := decide (F = F' ∧ H = H' ∧ L = L')
def spx (F H L B F' H' L' B' : Int) : Bool := decide ((F = F' ∧ H = H' ∧ L = L') ∧ B = B')
theorem aanew (w : World) (F H L F' H' L' : Int) : Below w.heap.size w ((w.alloc (.cells #[.int .i64 F, .int .u64 H, .int .u64 L] 66)).alloc (.cells #[.int .i64 F', .int .u64 H', .int .u64 L'] 66)) := (anew w F H L).alloc (by simp) _
set_option maxHeartbeats 400000 in
theorem sameAddr_ (F H L F' H' L' : Int) (w : World) :
    Calls Tryz.prog 116 #[.agg #[.int .i64 F, .int .u64 H, .int .u64 L], .agg #[.int .i64 F', .int .u64 H', .int .u64 L']] w fun e w' => e = .returned (.bool (sa F H L F' H' L')) ∧ Below w.heap.size w w' := by
  go_enter Tryz.func116, Tryz.ntmps116
  go_wp2_with fail
  all_goals
    go_ret
    refine ⟨ret_bool ?_, aanew w _ _ _ _ _ _⟩
    unfold sa
    first
      | exact (decide_eq_true (by simp_all)).symm
      | exact (decide_eq_false (by simp_all)).symm
      | exact decide_eq_decide.2 (by simp_all)
      | (rw [Bool.beq_eq_decide_eq]; exact decide_eq_decide.2 (by simp_all))
set_option maxHeartbeats 400000 in
theorem samePrefix_ (F H L B F' H' L' B' : Int) (w : World) :
    Calls Tryz.prog 92 #[.agg #[.int .i64 F, .int .u64 H, .int .u64 L, .int .i64 B], .agg #[.int .i64 F', .int .u64 H', .int .u64 L', .int .i64 B']] w fun e w' => e = .returned (.bool (spx F H L B F' H' L' B')) ∧ Below w.heap.size w w' := by
  obtain ⟨B0, m0, m1⟩ := ppnew w F H L B F' H' L' B'
  have k1 := fun w => sameAddr_ F H L F' H' L' w
  have HS : Hid (spx F H L B F' H' L' B' = (sa F H L F' H' L' && decide (B = B'))) := by
    show _ = _
    unfold spx sa
    rw [Bool.decide_and]
  go_enter Tryz.func92, Tryz.ntmps92
  go_wp2_with fail
  refine (k1 _).mono ?_
  rintro e w1 ⟨rfl, g2⟩
  replace m0 := m0.kept g2
  replace m1 := m1.kept g2
  replace B0 := bel_bel B0 B0.size g2
  clear g2 k1
  have c3 := m0.c3
  have d3 := m1.c3
  cases hs : sa F H L F' H' L' with
  | false =>
    go_wp2_with fail
    go_ret
    exact ⟨ret_bool (by rw [HS.out, hs]; rfl), B0⟩
  | true =>
    have HSS := hid hs
    clear hs
    go_wp2_with fail
    go_ret
    exact ⟨ret_bool (by rw [HS.out, HSS.out, Bool.true_and, Bool.beq_eq_decide_eq]), B0⟩
theorem own_two (w : World) (a b : Int) : (w.alloc (.cells #[.int .u8 a, .int .u8 b] 5)).ownsRow w.heap.size 5 1 (.slice (some ⟨w.heap.size, 0, none⟩) 2 2) 2 (cells [a, b]) :=
  ⟨rfl, .inr ⟨w.heap.size, 2, _, rfl, Nat.le_refl _, heap_alloc_new w _, Nat.le_refl _, by unfold maxLen; omega, rfl, rfl⟩⟩
theorem cells_len7 (l : List Int) : (cells l).length = l.length := by simp [cells]
theorem cells_one7 (l : List Int) : ∀ v ∈ cells l, v.oneCell' = true := by
  intro v hv
  obtain ⟨z, _, rfl⟩ := List.mem_map.1 hv
  rfl
theorem head_src {w : World} {g cap : Nat} {L : List Int} (h : Head w g cap L) (j : Nat) (v : Value) (hv : (cells L)[j]? = some v) : w.cell? ((⟨g, 0, none⟩ : Addr).add j) = some v := by
  have hj : j < L.length := by
    have := (List.getElem?_eq_some_iff.1 hv).1
    rwa [cells_len7] at this
  rw [Addr.add_lit, Nat.zero_add, h.cell j hj, ← hv]
  simp [cells, List.getD, hj]
end Go.Proofs.YtkeogggeefnoeaaGreatDoor
namespace Go.Proofs.YtkeogggeefnoeaaGreatDoor
set_option linter.unusedSimpArgs false
set_option maxRecDepth 100000
open Go.RowKit
set_option linter.unusedVariables false

theorem val_take7 (l : List Int) (j : Nat) (h : j < l.length) : val (l.take (j + 1)) = val (l.take j) * 256 + l.getD j 0 := by
  rw [List.take_succ_eq_append_getElem h, val_snoc]
  simp [List.getD, h]
theorem setCell_other7 (w : World) (g i j : Nat) (v : Value) (h : j ≠ g) : (w.setCell ⟨g, i, none⟩ v).heap[j]? = w.heap[j]? := by
  simp [World.setCell, Array.getElem?_modify, Ne.symm h]
section
variable {w w' : World} {g : Nat} {F H L B : Int}
theorem Am.s0 (h : Am w g F H L) (x : Int) : Am (w.setCell ⟨g, 0, none⟩ (.int .i64 x)) g x H L := by
  unfold Am at *
  simp [World.setCell, Array.getElem?_modify, h]
theorem Am.s1 (h : Am w g F H L) (x : Int) : Am (w.setCell ⟨g, 1, none⟩ (.int .u64 x)) g F x L := by
  unfold Am at *
  simp [World.setCell, Array.getElem?_modify, h]
theorem Am.s2 (h : Am w g F H L) (x : Int) : Am (w.setCell ⟨g, 2, none⟩ (.int .u64 x)) g F H x := by
  unfold Am at *
  simp [World.setCell, Array.getElem?_modify, h]
theorem Am.fz (h : Am w g F H L) (i : Nat) : w.frozen? ⟨g, i, none⟩ = false := by unfold Am at h; simp [World.frozen?, h]
end
theorem sizea : (Tryz.prog.info? 66).map (·.size) = some 3 := by kernel_rfl
theorem Am.row {w : World} {g : Nat} {F H L : Int} (h : Am w g F H L) (F' H' L' : Int) : Am (w.setRow g #[.int .i64 F', .int .u64 H', .int .u64 L']) g F' H' L' := setRow_heap w g _ _ _ _ h
theorem wpList_sa {ops : Array Oper} {rest : List Oper} {o : Oper} {a : Act} {w : World} {Q : Exit → Act → World → Prop} (hgd : o.guard = none) (hdst : o.dst = none) (x y : Operand) (ho : o.op = .store 66 x y)
    (g : Nat) (F H L : Int) (hx : a.eval x = .pointer (some ⟨g, 0, none⟩)) (hy : a.eval y = .agg #[.int .i64 F, .int .u64 H, .int .u64 L]) (F0 H0 L0 : Int) (hg : Am w g F0 H0 L0)
    (h : wpList Tryz.prog ops Q rest a (w.setRow g #[.int .i64 F, .int .u64 H, .int .u64 L])) : wpList Tryz.prog ops Q (o :: rest) a w := by
  refine wpList_store_row hgd _ x y ho g #[.int .i64 F, .int .u64 H, .int .u64 L] hx hy _ _ hg sizea rfl (by simp [Value.oneCell']) ?_
  rw [hdst]
  exact h
theorem results_a {fn : Func} {p : Tmp} (h : fn.results = #[.cell p 66]) (tmps : Array Value) (w : World) (g : Nat) (F H L : Int)
    (hp : tmps.getD p undef = .pointer (some ⟨g, 0, none⟩)) (hg : Am w g F H L) : (results fn tmps).run Tryz.prog w = .ok (.agg #[.int .i64 F, .int .u64 H, .int .u64 L]) w :=
  results_cell_row h tmps w g 66 #[.int .i64 F, .int .u64 H, .int .u64 L] (0, 0) _ hp hg Tryz.underlying66 rfl sizea
theorem getD_byte7 {zs : List Int} (h : ∀ z ∈ zs, 0 ≤ z ∧ z ≤ 255) (i : Nat) : 0 ≤ zs.getD i 0 ∧ zs.getD i 0 ≤ 255 := getD_byte6 h i
theorem pow256_15 (j : Nat) (h : j ≤ 15) : (256 : Int) ^ j ≤ 1329227995784915872903807060280344576 := by
  have : j = 0 ∨ j = 1 ∨ j = 2 ∨ j = 3 ∨ j = 4 ∨ j = 5 ∨ j = 6 ∨ j = 7 ∨ j = 8 ∨ j = 9 ∨ j = 10 ∨ j = 11 ∨ j = 12 ∨ j = 13 ∨ j = 14 ∨ j = 15 := by omega
  rcases this with rfl | rfl | rfl | rfl | rfl | rfl | rfl | rfl | rfl | rfl | rfl | rfl | rfl | rfl | rfl | rfl <;> decide
/-- The address that these bytes are. -/
def af (m : Nat) : Int := if m = 4 then 4 else 6
def ah (l : List Int) : Int := val l / 18446744073709551616
def al (l : List Int) : Int := val l % 18446744073709551616
end Go.Proofs.YtkeogggeefnoeaaGreatDoor
namespace Go.Proofs.YtkeogggeefnoeaaGreatDoor
set_option linter.unusedSimpArgs false
set_option maxRecDepth 100000
open Go.RowKit
set_option linter.unusedVariables false

/-! What these bytes begin with. -/
def g0 (l : List Int) : Int := l.getD 0 0
def gm (l : List Int) : Nat := nb (g0 l) / 8
def gs7 (l : List Int) : List Int := (l.drop 2).take (gm l)
def gk (l : List Int) : Bool := decide (2 ≤ l.length ∧ 0 < gm l ∧ 2 + gm l ≤ l.length) && vp (g0 l) (ah (gs7 l)) (al (gs7 l)) (l.getD 1 0)
def qF (l : List Int) : Int := if gk l then g0 l else 0
def qH (l : List Int) : Int := if gk l then ah (gs7 l) else 0
def qL (l : List Int) : Int := if gk l then al (gs7 l) else 0
def qB (l : List Int) : Int := if gk l then l.getD 1 0 else 0
def qN (l : List Int) : Int := if gk l then ((2 + gm l : Nat) : Int) else 0
def qE (l : List Int) : Int := if gk l then 0 else 70
theorem q7_bad {l : List Int} (h : gk l = false) : qF l = 0 ∧ qH l = 0 ∧ qL l = 0 ∧ qB l = 0 ∧ qN l = 0 ∧ qE l = 70 := by unfold qF qH qL qB qN qE; rw [h]; exact ⟨rfl, rfl, rfl, rfl, rfl, rfl⟩
theorem q7_good {l : List Int} (h : gk l = true) : qF l = g0 l ∧ qH l = ah (gs7 l) ∧ qL l = al (gs7 l) ∧ qB l = l.getD 1 0 ∧ qN l = ((2 + gm l : Nat) : Int) ∧ qE l = 0 := by unfold qF qH qL qB qN qE; rw [h]; exact ⟨rfl, rfl, rfl, rfl, rfl, rfl⟩
theorem sizep : (Tryz.prog.info? 68).map (·.size) = some 4 := by kernel_rfl
theorem Pm.row {w : World} {g : Nat} {F H L B : Int} (h : Pm w g F H L B) (F' H' L' B' : Int) : Pm (w.setRow g #[.int .i64 F', .int .u64 H', .int .u64 L', .int .i64 B']) g F' H' L' B' := setRow_heap w g _ _ _ _ h
theorem wpList_spx {ops : Array Oper} {rest : List Oper} {o : Oper} {a : Act} {w : World} {Q : Exit → Act → World → Prop} (hgd : o.guard = none) (hdst : o.dst = none) (x y : Operand) (ho : o.op = .store 68 x y)
    (g : Nat) (F H L B : Int) (hx : a.eval x = .pointer (some ⟨g, 0, none⟩)) (hy : a.eval y = .agg #[.int .i64 F, .int .u64 H, .int .u64 L, .int .i64 B]) (F0 H0 L0 B0 : Int) (hg : Pm w g F0 H0 L0 B0)
    (h : wpList Tryz.prog ops Q rest a (w.setRow g #[.int .i64 F, .int .u64 H, .int .u64 L, .int .i64 B])) : wpList Tryz.prog ops Q (o :: rest) a w := by
  refine wpList_store_row hgd _ x y ho g #[.int .i64 F, .int .u64 H, .int .u64 L, .int .i64 B] hx hy _ _ hg sizep rfl (by simp [Value.oneCell']) ?_
  rw [hdst]
  exact h
theorem results_p3 {fn : Func} {p u v : Tmp} (h : fn.results = #[.cell p 68, .tmp u, .tmp v]) (tmps : Array Value) (w : World) (g : Nat) (F H L B : Int) (x y : Value)
    (hp : tmps.getD p undef = .pointer (some ⟨g, 0, none⟩)) (hu : tmps.getD u undef = x) (hv : tmps.getD v undef = y) (hg : Pm w g F H L B) :
    (results fn tmps).run Tryz.prog w = .ok (.tuple #[.agg #[.int .i64 F, .int .u64 H, .int .u64 L, .int .i64 B], x, y]) w := by
  have hl := run_loadVar_row (P := Tryz.prog) w g 68 68 #[.int .i64 F, .int .u64 H, .int .u64 L, .int .i64 B] (0, 0) _ hg Tryz.underlying68 rfl sizep
  have hp' : tmps[p]?.getD undef = .pointer (some ⟨g, 0, none⟩) := by simpa using hp
  have hu' : tmps[u]?.getD undef = x := by simpa using hu
  have hv' : tmps[v]?.getD undef = y := by simpa using hv
  simp [results, h, hp', hu', hv', asAddr, hl]
theorem aval_in {S : List Int} {m : Nat} (hb : ∀ z ∈ S, 0 ≤ z ∧ z ≤ 255) (hl : S.length = m) (hm : m ≤ 16) : InU (ah S) ∧ InU (al S) := by
  have hV := val_bound S hb
  have hp : (256 : Int) ^ S.length ≤ 340282366920938463463374607431768211456 := by
    rw [hl]
    by_cases e : m = 16
    · rw [e]; decide
    · exact Int.le_trans (pow256_15 m (by omega)) (by decide)
  unfold ah al InU
  generalize val S = V at *
  omega
end Go.Proofs.YtkeogggeefnoeaaGreatDoor
namespace Go.Proofs.YtkeogggeefnoeaaGreatDoor
set_option linter.unusedSimpArgs false
set_option maxRecDepth 100000
open Go.RowKit
set_option linter.unusedVariables false

/-! Texts. -/
def hd (x : Nat) : Nat := if x < 10 then 48 + x else 87 + x
def hx (x : Nat) : List Nat := [hd (x / 16), hd (x % 16)]
theorem hd_lt (x : Nat) (h : x < 16) : (48 ≤ hd x ∧ hd x ≤ 57) ∨ (97 ≤ hd x ∧ hd x ≤ 102) := by
  unfold hd
  split <;> omega
/-- What the i-th of n bytes adds to the text. -/
def pc (n : Nat) (l : List Nat) (i : Nat) : List Nat :=
  if n = 4 then (if 0 < i then [46] else []) ++ dgs (l.getD i 0) 1 else (if n = 16 ∧ 0 < i ∧ i % 2 = 0 then [58] else []) ++ hx (l.getD i 0)
def txj (n : Nat) (l : List Nat) (j : Nat) : List Nat := (List.range j).flatMap (pc n l)
theorem txj_succ (n : Nat) (l : List Nat) (j : Nat) : txj n l (j + 1) = txj n l j ++ pc n l j := by
  unfold txj
  rw [List.range_succ, List.flatMap_append]
  simp
def tx (l : List Nat) : List Nat := txj l.length l l.length
theorem dgs_three (x : Nat) (h : x < 256) : (dgs x 1).length ≤ 3 := by
  have := (cnt_lt 3 x).2 (by omega)
  unfold dgs
  rw [dl_length]
  unfold dn
  rw [Nat.max_def]
  split <;> omega
theorem pc_le (n : Nat) (l : List Nat) (hl : ∀ x ∈ l, x < 256) (i : Nat) : (pc n l i).length ≤ 4 := by
  have hx' : l.getD i 0 < 256 := getD_lt6 hl i
  have := dgs_three _ hx'
  unfold pc hx
  split
  · rw [List.length_append]
    generalize l.getD i 0 = y at *
    split <;> simp only [List.length_cons, List.length_nil] <;> omega
  · rw [List.length_append]
    split <;> simp
theorem txj_le (n : Nat) (l : List Nat) (hl : ∀ x ∈ l, x < 256) (j : Nat) : (txj n l j).length ≤ 4 * j := by
  induction j with
  | zero => simp [txj]
  | succ j ih =>
    rw [txj_succ, List.length_append]
    have := pc_le n l hl j
    omega
/-- string(b) of such a list. -/
theorem run_text7 (w : World) (g cap k : Nat) (l : List Nat) (hk : l.length = k) (hy : ∀ x ∈ l, x < 256) (h : Head w g cap (ic l)) : (convert 40 9 (.slice (some ⟨g, 0, none⟩) k cap)).run Tryz.prog w = .ok (.string (sb l)) w := by
  have := run_convert_bytes_back (P := Tryz.prog) w 40 9 5 ⟨g, 0, none⟩ cap (l.map UInt8.ofNat) Tryz.underlying40 (by kernel_rfl) (by kernel_rfl) (fun j hj => by
    have hj' : j < l.length := by simpa using hj
    rw [Addr.add_lit, Nat.zero_add, h.cell j (by rw [ic_length]; exact hj'), ic_get]
    have e : (l.map UInt8.ofNat)[j].toNat = l.getD j 0 := by
      simp [List.getD, hj']
      have := hy l[j] (List.getElem_mem hj')
      omega
    rw [e])
  rw [List.length_map, hk] at this
  exact this
def hexd : ByteArray := sb [48, 49, 50, 51, 52, 53, 54, 55, 56, 57, 97, 98, 99, 100, 101, 102]
theorem hex_at (x : Nat) (h : x < 16) (w : World) : (Instr.index 9 (.string hexd) (.int .u8 (x : Int))).run Tryz.prog w = .ok (.int .u8 ((hd x : Nat) : Int)) w := by
  have hi : (0 : Int) ≤ (x : Int) ∧ (x : Int) < ((hexd).size : Int) := by
    have : hexd.size = 16 := rfl
    rw [this]
    omega
  rw [run_index_string w _ _ _ _ (by kernel_rfl), dif_pos hi]
  have e : ∀ x : Nat, (h : x < 16) → ((hexd)[(x : Int).toNat]'(by rw [Int.toNat_natCast]; exact h)).toNat = hd x := by decide
  rw [e x h]
end Go.Proofs.YtkeogggeefnoeaaGreatDoor
namespace Go.Proofs.YtkeogggeefnoeaaGreatDoor
set_option linter.unusedSimpArgs false
set_option maxRecDepth 100000
open Go.RowKit
set_option linter.unusedVariables false

def nl (l : List Int) : List Nat := l.map Int.toNat
theorem nl_length (l : List Int) : (nl l).length = l.length := by simp [nl]
theorem nl_lt {l : List Int} (h : ∀ z ∈ l, 0 ≤ z ∧ z ≤ 255) : ∀ x ∈ nl l, x < 256 := by
  intro x hx
  obtain ⟨z, hz, rfl⟩ := List.mem_map.1 hx
  have := h z hz
  omega
theorem nl_get {l : List Int} (h : ∀ z ∈ l, 0 ≤ z ∧ z ≤ 255) (i : Nat) : l.getD i 0 = (((nl l).getD i 0 : Nat) : Int) := by
  have hb := getD_byte6 h i
  unfold nl
  simp only [List.getD, List.getElem?_map] at *
  cases e : l[i]? with
  | none => rfl
  | some z =>
    rw [e] at hb
    simp at hb ⊢
    omega
/-- An address's text. -/
def ta (F H L : Int) : List Nat := tx (nl (pa F H L))
def tp (F H L B : Int) : List Nat := if vp F H L B then ta F H L ++ 47 :: dgs B.toNat 1 else []
end Go.Proofs.YtkeogggeefnoeaaGreatDoor
namespace Go.Proofs.YtkeogggeefnoeaaGreatDoor
set_option linter.unusedSimpArgs false
set_option maxRecDepth 100000
open Go.RowKit
set_option linter.unusedVariables false

theorem ta_le (F H L : Int) : (ta F H L).length ≤ 64 := by
  have h1 := txj_le (nl (pa F H L)).length (nl (pa F H L)) (nl_lt (pa_byte F H L)) (nl (pa F H L)).length
  have h2 : (pa F H L).length ≤ 16 := by
    rw [pa_length]
    have := nb_le F
    split <;> omega
  rw [nl_length] at h1
  unfold ta tx
  rw [nl_length]
  omega
theorem sb_slash : (⟨#[47]⟩ : ByteArray) = sb [47] := rfl
end Go.Proofs.YtkeogggeefnoeaaGreatDoor
namespace Go.Proofs.YtkeogggeefnoeaaGreatDoor
set_option linter.unusedSimpArgs false
set_option maxRecDepth 100000
open Go.RowKit
set_option linter.unusedVariables false

/-! Digits and numbers of a text. -/
def dg (x : Nat) : Int := if 48 ≤ x ∧ x ≤ 57 then (x : Int) - 48 else if 97 ≤ x ∧ x ≤ 102 then (x : Int) - 87 else -1
theorem dg_in (x : Nat) : -1 ≤ dg x ∧ dg x ≤ 15 := by
  unfold dg
  split
  · omega
  · split <;> omega
/-- The number that digits say behind n, to the base b. -/
def nr (b : Nat) (n : Nat) : List Nat → Option Nat
  | [] => some n
  | x :: l => if 0 ≤ dg x ∧ dg x < b then nr b (n * b + (dg x).toNat) l else none
def nm (b : Nat) (l : List Nat) : Int :=
  if l.length = 0 ∨ 4 < l.length then -1 else match nr b 0 l with
  | some n => (n : Int)
  | none => -1
theorem nr_append (b : Nat) (l m : List Nat) : ∀ n, nr b n (l ++ m) = match nr b n l with
    | some k => nr b k m
    | none => none := by
  induction l with
  | nil => intro n; rfl
  | cons x l ih =>
    intro n
    simp only [List.cons_append, nr]
    split
    · exact ih _
    · rfl
theorem take_snoc7 (l : List Nat) (j : Nat) (h : j < l.length) : l.take (j + 1) = l.take j ++ [l.getD j 0] := by
  rw [List.take_succ_eq_append_getElem h]
  simp [List.getD, h]
theorem nr_take (b : Nat) (l : List Nat) (j n m : Nat) (hj : j < l.length) (h : nr b n (l.take j) = some m) (h0 : 0 ≤ dg (l.getD j 0) ∧ dg (l.getD j 0) < b) : nr b n (l.take (j + 1)) = some (m * b + (dg (l.getD j 0)).toNat) := by
  rw [take_snoc7 l j hj, nr_append, h]
  show nr b m [l.getD j 0] = _
  unfold nr
  rw [if_pos h0]
  rfl
theorem nr_stop (b : Nat) (l : List Nat) (j n m : Nat) (hj : j < l.length) (h : nr b n (l.take j) = some m) (h0 : ¬ (0 ≤ dg (l.getD j 0) ∧ dg (l.getD j 0) < b)) : nr b n l = none := by
  have e : l = l.take j ++ (l.getD j 0 :: l.drop (j + 1)) := by
    have : l.drop j = l.getD j 0 :: l.drop (j + 1) := by
      rw [List.drop_eq_getElem_cons hj]
      simp [List.getD, hj]
    rw [← this, List.take_append_drop]
  rw [e, nr_append, h]
  show nr b m (_ :: _) = none
  unfold nr
  rw [if_neg h0]
theorem nr_lt (b : Nat) (l : List Nat) : ∀ n m k, n < b ^ k → nr b n l = some m → m < b ^ (k + l.length) := by
  induction l with
  | nil =>
    intro n m k hn h
    injection h with h
    subst h
    exact hn
  | cons x l ih =>
    intro n m k hn h
    unfold nr at h
    split at h
    · rename_i h0
      have := ih _ _ (k + 1) (by
        rw [Nat.pow_succ]
        have h1 : (dg x).toNat < b := by omega
        have h2 : (n + 1) * b ≤ b ^ k * b := Nat.mul_le_mul_right b hn
        rw [Nat.add_mul] at h2
        omega) h
      rw [List.length_cons]
      rw [show k + (l.length + 1) = k + 1 + l.length by omega]
      exact this
    · cases h
end Go.Proofs.YtkeogggeefnoeaaGreatDoor
namespace Go.Proofs.YtkeogggeefnoeaaGreatDoor
set_option linter.unusedSimpArgs false
set_option maxRecDepth 100000
open Go.RowKit
set_option linter.unusedVariables false

theorem nm_in (b : Nat) (hb : b ≤ 16) (hb0 : 0 < b) (l : List Nat) : -1 ≤ nm b l ∧ nm b l ≤ 65535 := by
  unfold nm
  split
  · omega
  · rename_i h
    cases e : nr b 0 l with
    | none => simp
    | some n =>
      have h1 := nr_lt b l 0 n 0 (by simp) e
      have h2 : b ^ (0 + l.length) ≤ 16 ^ 4 := Nat.le_trans (Nat.pow_le_pow_left hb _) (Nat.pow_le_pow_right (by omega) (by omega))
      have : (16 : Nat) ^ 4 = 65536 := by decide
      show -1 ≤ (n : Int) ∧ (n : Int) ≤ 65535
      omega
end Go.Proofs.YtkeogggeefnoeaaGreatDoor
namespace Go.Proofs.YtkeogggeefnoeaaGreatDoor
set_option linter.unusedSimpArgs false
set_option maxRecDepth 100000
open Go.RowKit
set_option linter.unusedVariables false

/-! A text cut at a sign. -/
def cq (c : Nat) (cur : List Nat) : List Nat → List (List Nat)
  | [] => [cur]
  | x :: l => if x = c then cur :: cq c [] l else cq c (cur ++ [x]) l
def cu (c : Nat) (l : List Nat) : List (List Nat) := cq c [] l
def tv (l : List (List Nat)) : List Value := l.map fun x => Value.string (sb x)
theorem tv_length (l : List (List Nat)) : (tv l).length = l.length := by simp [tv]
theorem sb_cut (l : List Nat) (a b : Nat) : (sb l).extract a b = sb ((l.take b).drop a) := by
  apply ByteArray.ext
  unfold sb
  rw [ByteArray.data_extract]
  simp only [List.extract_toArray, List.extract_eq_take_drop, List.map_drop, List.map_take, List.drop_take]
theorem cq_len (c : Nat) (l : List Nat) : ∀ cur, (cq c cur l).length ≤ l.length + 1 := by
  induction l with
  | nil => intro cur; simp [cq]
  | cons x l ih =>
    intro cur
    unfold cq
    split
    · have := ih []
      simp only [List.length_cons]
      omega
    · have := ih (cur ++ [x])
      simp only [List.length_cons]
      omega
theorem cq_sign (c : Nat) (l : List Nat) (P : Nat → Prop) (hl : ∀ x ∈ l, P x) : ∀ cur, (∀ x ∈ cur, P x) → ∀ y ∈ cq c cur l, ∀ x ∈ y, P x := by
  induction l with
  | nil =>
    intro cur hc y hy
    simp [cq] at hy
    subst hy
    exact hc
  | cons a l ih =>
    intro cur hc y hy
    unfold cq at hy
    have hl' : ∀ x ∈ l, P x := fun x hx => hl x (List.mem_cons_of_mem _ hx)
    split at hy
    · rcases List.mem_cons.1 hy with rfl | hy
      · exact hc
      · exact ih hl' [] (fun x hx => by cases hx) y hy
    · refine ih hl' (cur ++ [a]) (fun x hx => ?_) y hy
      rcases List.mem_append.1 hx with h | h
      · exact hc x h
      · rw [List.mem_singleton.1 h]
        exact hl a (List.mem_cons_self ..)
theorem cq_short (c : Nat) (l : List Nat) : ∀ cur, ∀ y ∈ cq c cur l, y.length ≤ cur.length + l.length := by
  induction l with
  | nil =>
    intro cur y hy
    simp [cq] at hy
    subst hy
    simp
  | cons a l ih =>
    intro cur y hy
    unfold cq at hy
    split at hy
    · rcases List.mem_cons.1 hy with rfl | hy
      · simp
      · have := ih [] y hy
        simp only [List.length_cons, List.length_nil] at *
        omega
    · have := ih _ y hy
      simp only [List.length_cons, List.length_append, List.length_nil] at *
      omega
theorem drop_cons7 (l : List Nat) (j : Nat) (h : j < l.length) : l.drop j = l.getD j 0 :: l.drop (j + 1) := by
  rw [List.drop_eq_getElem_cons h]
  simp [List.getD, h]
theorem cq_hit (c : Nat) (l : List Nat) (j : Nat) (cur : List Nat) (h : j < l.length) (e : l.getD j 0 = c) : cq c cur (l.drop j) = cur :: cq c ((l.take (j + 1)).drop (j + 1)) (l.drop (j + 1)) := by
  have e0 : (l.take (j + 1)).drop (j + 1) = [] := List.drop_eq_nil_of_le (by rw [List.length_take]; omega)
  rw [drop_cons7 l j h, e0, cq, if_pos e]
theorem cq_miss (c : Nat) (l : List Nat) (j p : Nat) (hp : p ≤ j) (h : j < l.length) (e : l.getD j 0 ≠ c) : cq c ((l.take j).drop p) (l.drop j) = cq c ((l.take (j + 1)).drop p) (l.drop (j + 1)) := by
  rw [drop_cons7 l j h]
  rw [cq, if_neg e]
  rw [take_snoc7 l j h, List.drop_append_of_le_length (by rw [List.length_take]; omega)]
theorem one_src (w : World) (X : Value) (t : TypeId) : ∀ (j : Nat) (u : Value), [X][j]? = some u → (w.alloc (.cells #[X] t)).cell? ((⟨w.heap.size, 0, none⟩ : Addr).add j) = some u := by
  intro j u hu
  have hj : j = 0 := by
    have := (List.getElem?_eq_some_iff.1 hu).1
    simp at this
    exact this
  subst hj
  rw [Addr.add_lit, Nat.zero_add, cell_of_row _ w.heap.size 0 _ _ (0, 0) (heap_alloc_new w _)]
  exact hu
theorem info_s : (Tryz.prog.info? 9).map (fun i => (i.zero, i.size, i.bytes)) = some (some (.string ⟨#[]⟩), 1, 16) := by kernel_rfl
end Go.Proofs.YtkeogggeefnoeaaGreatDoor
namespace Go.Proofs.YtkeogggeefnoeaaGreatDoor
set_option linter.unusedSimpArgs false
set_option maxRecDepth 100000
open Go.RowKit
set_option linter.unusedVariables false

/-! The address that a text seems to say. -/
/-- A row of texts. -/
def Tx (w : World) (g : Nat) (ls : List (List Nat)) : Prop := ∃ o, w.heap[g]? = some o ∧ ∀ w' : World, w'.heap[g]? = some o → ∀ i, i < ls.length → w'.cell? ⟨g, i, none⟩ = some (.string (sb (ls.getD i [])))
theorem Tx.cell {w : World} {g : Nat} {ls : List (List Nat)} (h : Tx w g ls) (i : Nat) (hi : i < ls.length) : w.cell? ⟨g, i, none⟩ = some (.string (sb (ls.getD i []))) := by
  obtain ⟨o, h1, h2⟩ := h
  exact h2 w h1 i hi
theorem Tx.at {w w' : World} {g : Nat} {ls : List (List Nat)} (h : Tx w g ls) (e : w'.heap[g]? = w.heap[g]?) : Tx w' g ls := by
  obtain ⟨o, h1, h2⟩ := h
  exact ⟨o, e.trans h1, h2⟩
theorem Tx.lt {w : World} {g : Nat} {ls : List (List Nat)} (h : Tx w g ls) : g < w.heap.size := by
  obtain ⟨o, h1, _⟩ := h
  exact (Array.getElem?_eq_some_iff.1 h1).1
theorem Tx.kept {w w' : World} {g : Nat} {ls : List (List Nat)} (h : Tx w g ls) (hb : Below w.heap.size w w') : Tx w' g ls := h.at (hb.block g h.lt)
theorem own_texts {w : World} {base n : Nat} {v : Value} {ls : List (List Nat)} (h : w.ownsRow base 9 1 v n (tv ls)) (hn : 0 < n) : ∃ g cap, v = .slice (some ⟨g, 0, none⟩) n cap ∧ n ≤ cap ∧ cap ≤ maxLen ∧ base ≤ g ∧ Tx w g ls := by
  obtain ⟨h1, h2⟩ := h
  rw [tv_length, Nat.mul_one] at h1
  rcases h2 with ⟨_, h⟩ | ⟨g, cap, cur, rfl, hb, hg, hnc, hcm, hs, ht⟩
  · omega
  · refine ⟨g, cap, rfl, hnc, hcm, hb, _, hg, fun w' hw i hi => ?_⟩
    rw [cell_of_row w' g i _ _ _ hw]
    have hh : (tv ls)[i]? = some (.string (sb (ls.getD i []))) := by
      simp [tv, List.getD, hi]
    rw [← hh, ← ht, Nat.mul_one, List.getElem?_take_of_lt (by omega)]
    simp
/-- The bytes that a text's parts say. -/
def e1 (x : List Nat) : Int := nm 10 x % 256
def e2 (x : List Nat) : List Int := [Int.tdiv (nm 16 x) 256, nm 16 x % 256]
def gB (l : List Nat) : List Int := if (cu 46 l).length = 4 then (cu 46 l).map e1 else if 8 ≤ (cu 58 l).length then ((cu 58 l).take 8).flatMap e2 else []
def gF (l : List Nat) : Int := if (gB l).length = 0 then 0 else af (gB l).length
theorem e1_in (x : List Nat) : 0 ≤ e1 x ∧ e1 x ≤ 255 := by unfold e1; omega
theorem e2_in (x : List Nat) : ∀ z ∈ e2 x, 0 ≤ z ∧ z ≤ 255 := by
  have h := nm_in 16 (by decide) (by decide) x
  have h2 : 0 ≤ Int.tdiv (nm 16 x) 256 ∧ Int.tdiv (nm 16 x) 256 ≤ 255 := by
    by_cases h0 : 0 ≤ nm 16 x
    · rw [Int.tdiv_eq_ediv_of_nonneg h0]; omega
    · rw [show nm 16 x = -1 by omega]; decide
  intro z hz
  unfold e2 at hz
  simp at hz
  rcases hz with rfl | rfl
  · exact h2
  · omega
theorem e2_len (ls : List (List Nat)) : (ls.flatMap e2).length = 2 * ls.length := by
  induction ls with
  | nil => rfl
  | cons x l ih =>
    rw [List.flatMap_cons, List.length_append, ih]
    simp [e2]
    omega
theorem gB_len (l : List Nat) : (gB l).length = 0 ∨ (gB l).length = 4 ∨ (gB l).length = 16 := by
  unfold gB
  split
  · rename_i h
    rw [List.length_map, h]
    exact .inr (.inl rfl)
  · split
    · rw [e2_len, List.length_take]
      omega
    · exact .inl rfl
theorem gB_byte (l : List Nat) : ∀ z ∈ gB l, 0 ≤ z ∧ z ≤ 255 := by
  intro z hz
  unfold gB at hz
  split at hz
  · obtain ⟨x, _, rfl⟩ := List.mem_map.1 hz
    exact e1_in x
  · split at hz
    · obtain ⟨x, _, h⟩ := List.mem_flatMap.1 hz
      exact e2_in x z h
    · cases hz
theorem cu_pos (c : Nat) (l : List Nat) : 0 < (cu c l).length := by
  unfold cu
  generalize ([] : List Nat) = cur
  induction l generalizing cur with
  | nil => simp [cq]
  | cons x l ih =>
    unfold cq
    split
    · simp
    · exact ih _
theorem getD_out7 (ls : List (List Nat)) (i : Nat) (h : ls.length ≤ i) : ls.getD i [] = [] := by
  unfold List.getD
  rw [List.getElem?_eq_none h]
  rfl
theorem take_texts (ls : List (List Nat)) (j : Nat) (h : j < ls.length) : ls.take (j + 1) = ls.take j ++ [ls.getD j []] := by
  rw [List.take_succ_eq_append_getElem h]
  simp [List.getD, h]
theorem cu_lt (c : Nat) (l : List Nat) (hy : ∀ x ∈ l, x < 256) (i : Nat) : ∀ x ∈ (cu c l).getD i [], x < 256 := by
  intro x hx
  by_cases hi : i < (cu c l).length
  · have : (cu c l).getD i [] = (cu c l)[i] := by simp [List.getD, hi]
    rw [this] at hx
    exact cq_sign c l (· < 256) hy [] (fun x hx => by cases hx) _ (List.getElem_mem hi) x hx
  · rw [getD_out7 _ _ (by omega)] at hx
    cases hx
theorem cu_short (c : Nat) (l : List Nat) (i : Nat) : ((cu c l).getD i []).length ≤ l.length := by
  by_cases hi : i < (cu c l).length
  · have : (cu c l).getD i [] = (cu c l)[i] := by simp [List.getD, hi]
    rw [this]
    have := cq_short c l [] _ (List.getElem_mem hi)
    simpa using this
  · rw [getD_out7 _ _ (by omega)]
    simp
theorem two_src (w : World) (X Y : Value) (t : TypeId) : ∀ (j : Nat) (u : Value), [X, Y][j]? = some u → (w.alloc (.cells #[X, Y] t)).cell? ((⟨w.heap.size, 0, none⟩ : Addr).add j) = some u := by
  intro j u hu
  have hj : j = 0 ∨ j = 1 := by
    have := (List.getElem?_eq_some_iff.1 hu).1
    simp at this
    omega
  rw [Addr.add_lit, Nat.zero_add, cell_of_row _ w.heap.size j _ _ (0, 0) (heap_alloc_new w _)]
  rcases hj with rfl | rfl <;> exact hu
theorem cells_map_succ (ls : List (List Nat)) (j : Nat) (h : j < ls.length) : cells ((ls.take j).map e1) ++ [.int .u8 (e1 (ls.getD j []))] = cells ((ls.take (j + 1)).map e1) := by
  rw [take_texts ls j h, List.map_append]
  unfold cells
  rw [List.map_append]
  rfl
theorem cells_flat_succ (ls : List (List Nat)) (j : Nat) (h : j < ls.length) : cells ((ls.take j).flatMap e2) ++ [.int .u8 (Int.tdiv (nm 16 (ls.getD j [])) 256), .int .u8 (nm 16 (ls.getD j []) % 256)] = cells ((ls.take (j + 1)).flatMap e2) := by
  rw [take_texts ls j h, List.flatMap_append]
  unfold cells
  rw [List.map_append]
  rfl
end Go.Proofs.YtkeogggeefnoeaaGreatDoor
namespace Go.Proofs.YtkeogggeefnoeaaGreatDoor
set_option linter.unusedSimpArgs false
set_option maxRecDepth 100000
open Go.RowKit
set_option linter.unusedVariables false

/-! The guess of an address's text is that address. -/
theorem cq_skip (c : Nat) (x : List Nat) (hx : ∀ z ∈ x, z ≠ c) (l : List Nat) : ∀ cur, cq c cur (x ++ l) = cq c (cur ++ x) l := by
  induction x with
  | nil => intro cur; simp
  | cons a x ih =>
    intro cur
    rw [List.cons_append, cq, if_neg (hx a (List.mem_cons_self ..)), ih (fun z hz => hx z (List.mem_cons_of_mem _ hz))]
    simp
theorem cu_cons (c : Nat) (x l : List Nat) (hx : ∀ z ∈ x, z ≠ c) : cu c (x ++ c :: l) = x :: cu c l := by
  unfold cu
  rw [cq_skip c x hx, cq, if_pos rfl]
  rfl
theorem cu_one (c : Nat) (x : List Nat) (hx : ∀ z ∈ x, z ≠ c) : cu c x = [x] := by
  have := cq_skip c x hx [] []
  rw [List.append_nil] at this
  unfold cu
  rw [this]
  rfl
theorem nr_dec (l : List Nat) (hl : ∀ z ∈ l, 48 ≤ z ∧ z ≤ 57) : ∀ n, nr 10 n l = some (l.foldl (fun x z => x * 10 + (z - 48)) n) := by
  induction l with
  | nil => intro n; rfl
  | cons a l ih =>
    intro n
    have ha := hl a (List.mem_cons_self ..)
    have e : dg a = (a : Int) - 48 := by unfold dg; rw [if_pos ha]
    rw [nr, e, if_pos (by omega), ih (fun z hz => hl z (List.mem_cons_of_mem _ hz)), List.foldl_cons]
    rw [show ((a : Int) - 48).toNat = a - 48 by omega]
theorem nm_dgs (a : Nat) (h : a < 1000) : nm 10 (dgs a 1) = a := by
  have h1 : (dgs a 1).length ≤ 3 ∧ 0 < (dgs a 1).length := by
    have := (cnt_lt 3 a).2 (by omega)
    unfold dgs
    rw [dl_length]
    unfold dn
    rw [Nat.max_def]
    split <;> omega
  unfold nm
  rw [if_neg (by omega), nr_dec (dgs a 1) (dl_digit _ _)]
  have := dv_dgs a 1
  unfold dv at this
  rw [this]
theorem e1_dgs (a : Nat) (h : a < 256) : e1 (dgs a 1) = a := by
  unfold e1
  rw [nm_dgs a (by omega)]
  omega
theorem dgs_not (a c : Nat) (h : c < 48) : ∀ z ∈ dgs a 1, z ≠ c := fun z hz => by
  have := dl_digit _ _ z hz
  omega
theorem dg_hd : ∀ y, y < 16 → dg (hd y) = y := by decide
theorem e2_hx (a b : Nat) (ha : a < 256) (hb : b < 256) : e2 (hx a ++ hx b) = [(a : Int), (b : Int)] := by
  have q1 := dg_hd (a / 16) (by omega)
  have q2 := dg_hd (a % 16) (by omega)
  have q3 := dg_hd (b / 16) (by omega)
  have q4 := dg_hd (b % 16) (by omega)
  have e : nm 16 (hx a ++ hx b) = (a : Int) * 256 + b := by
    unfold hx
    show nm 16 [hd (a / 16), hd (a % 16), hd (b / 16), hd (b % 16)] = _
    generalize hd (a / 16) = w1 at *
    generalize hd (a % 16) = w2 at *
    generalize hd (b / 16) = w3 at *
    generalize hd (b % 16) = w4 at *
    unfold nm
    rw [if_neg (by simp)]
    unfold nr
    rw [q1, if_pos (by omega)]
    unfold nr
    rw [q2, if_pos (by omega)]
    unfold nr
    rw [q3, if_pos (by omega)]
    unfold nr
    rw [q4, if_pos (by omega)]
    unfold nr
    show ((_ : Nat) : Int) = _
    omega
  unfold e2
  rw [e, Int.tdiv_eq_ediv_of_nonneg (by omega)]
  rw [show ((a : Int) * 256 + b) / 256 = a by omega, show ((a : Int) * 256 + b) % 256 = b by omega]
theorem hx_not (a c : Nat) (h : a < 256) (hc : c < 48 ∨ c = 58) : ∀ z ∈ hx a, z ≠ c := fun z hz => by
  have b1 := hd_lt (a / 16) (by omega)
  have b2 := hd_lt (a % 16) (by omega)
  unfold hx at hz
  simp at hz
  rcases hz with rfl | rfl <;> omega
theorem hx2_not (a b c : Nat) (h : a < 256) (h' : b < 256) (hc : c < 48 ∨ c = 58) : ∀ z ∈ hx a ++ hx b, z ≠ c := fun z hz => by
  rcases List.mem_append.1 hz with q | q
  · exact hx_not a c h hc z q
  · exact hx_not b c h' hc z q
theorem not_cons (c d : Nat) (x l : List Nat) (hd : d ≠ c) (h1 : ∀ z ∈ x, z ≠ c) (h2 : ∀ z ∈ l, z ≠ c) : ∀ z ∈ x ++ d :: l, z ≠ c := fun z hz => by
  rcases List.mem_append.1 hz with q | q
  · exact h1 z q
  · rcases List.mem_cons.1 q with rfl | q
    · exact hd
    · exact h2 z q
theorem tx4 (a b c d : Nat) : tx [a, b, c, d] = dgs a 1 ++ 46 :: (dgs b 1 ++ 46 :: (dgs c 1 ++ 46 :: dgs d 1)) := by
  unfold tx txj
  show (List.range 4).flatMap (pc 4 [a, b, c, d]) = _
  rw [show List.range 4 = [0, 1, 2, 3] from rfl]
  simp [pc]
theorem tx16 (a0 a1 a2 a3 a4 a5 a6 a7 a8 a9 a10 a11 a12 a13 a14 a15 : Nat) : tx [a0, a1, a2, a3, a4, a5, a6, a7, a8, a9, a10, a11, a12, a13, a14, a15] = (hx a0 ++ hx a1) ++ 58 :: ((hx a2 ++ hx a3) ++ 58 :: ((hx a4 ++ hx a5) ++ 58 :: ((hx a6 ++ hx a7) ++ 58 :: ((hx a8 ++ hx a9) ++ 58 :: ((hx a10 ++ hx a11) ++ 58 :: ((hx a12 ++ hx a13) ++ 58 :: ((hx a14 ++ hx a15)))))))) := by
  unfold tx txj
  show (List.range 16).flatMap (pc 16 [a0, a1, a2, a3, a4, a5, a6, a7, a8, a9, a10, a11, a12, a13, a14, a15]) = _
  rw [show List.range 16 = [0, 1, 2, 3, 4, 5, 6, 7, 8, 9, 10, 11, 12, 13, 14, 15] from rfl]
  simp [pc]
theorem gB4 (a b c d : Nat) (ha : a < 256) (hb : b < 256) (hc : c < 256) (hd : d < 256) : gB (tx [a, b, c, d]) = [(a : Int), (b : Int), (c : Int), (d : Int)] := by
  have e : cu 46 (tx [a, b, c, d]) = [dgs a 1, dgs b 1, dgs c 1, dgs d 1] := by
    rw [tx4, cu_cons _ _ _ (dgs_not a 46 (by decide)), cu_cons _ _ _ (dgs_not b 46 (by decide)), cu_cons _ _ _ (dgs_not c 46 (by decide)), cu_one _ _ (dgs_not d 46 (by decide))]
  unfold gB
  rw [e, if_pos (by simp)]
  simp only [List.map_cons, List.map_nil, e1_dgs a ha, e1_dgs b hb, e1_dgs c hc, e1_dgs d hd]
theorem gB16 (a0 a1 a2 a3 a4 a5 a6 a7 a8 a9 a10 a11 a12 a13 a14 a15 : Nat) (h0 : a0 < 256) (h1 : a1 < 256) (h2 : a2 < 256) (h3 : a3 < 256) (h4 : a4 < 256) (h5 : a5 < 256) (h6 : a6 < 256) (h7 : a7 < 256) (h8 : a8 < 256) (h9 : a9 < 256) (h10 : a10 < 256) (h11 : a11 < 256) (h12 : a12 < 256) (h13 : a13 < 256) (h14 : a14 < 256) (h15 : a15 < 256) : gB (tx [a0, a1, a2, a3, a4, a5, a6, a7, a8, a9, a10, a11, a12, a13, a14, a15]) = [(a0 : Int), (a1 : Int), (a2 : Int), (a3 : Int), (a4 : Int), (a5 : Int), (a6 : Int), (a7 : Int), (a8 : Int), (a9 : Int), (a10 : Int), (a11 : Int), (a12 : Int), (a13 : Int), (a14 : Int), (a15 : Int)] := by
  have e : cu 58 (tx [a0, a1, a2, a3, a4, a5, a6, a7, a8, a9, a10, a11, a12, a13, a14, a15]) = [hx a0 ++ hx a1, hx a2 ++ hx a3, hx a4 ++ hx a5, hx a6 ++ hx a7, hx a8 ++ hx a9, hx a10 ++ hx a11, hx a12 ++ hx a13, hx a14 ++ hx a15] := by
    rw [tx16, cu_cons _ _ _ (hx2_not a0 a1 58 h0 h1 (.inr rfl)), cu_cons _ _ _ (hx2_not a2 a3 58 h2 h3 (.inr rfl)), cu_cons _ _ _ (hx2_not a4 a5 58 h4 h5 (.inr rfl)), cu_cons _ _ _ (hx2_not a6 a7 58 h6 h7 (.inr rfl)), cu_cons _ _ _ (hx2_not a8 a9 58 h8 h9 (.inr rfl)), cu_cons _ _ _ (hx2_not a10 a11 58 h10 h11 (.inr rfl)), cu_cons _ _ _ (hx2_not a12 a13 58 h12 h13 (.inr rfl)), cu_one _ _ (hx2_not a14 a15 58 h14 h15 (.inr rfl))]
  have e' : cu 46 (tx [a0, a1, a2, a3, a4, a5, a6, a7, a8, a9, a10, a11, a12, a13, a14, a15]) = [tx [a0, a1, a2, a3, a4, a5, a6, a7, a8, a9, a10, a11, a12, a13, a14, a15]] := by
    apply cu_one
    rw [tx16]
    exact not_cons 46 58 _ _ (by decide) (hx2_not a0 a1 46 h0 h1 (.inl (by decide))) <| not_cons 46 58 _ _ (by decide) (hx2_not a2 a3 46 h2 h3 (.inl (by decide))) <| not_cons 46 58 _ _ (by decide) (hx2_not a4 a5 46 h4 h5 (.inl (by decide))) <| not_cons 46 58 _ _ (by decide) (hx2_not a6 a7 46 h6 h7 (.inl (by decide))) <| not_cons 46 58 _ _ (by decide) (hx2_not a8 a9 46 h8 h9 (.inl (by decide))) <| not_cons 46 58 _ _ (by decide) (hx2_not a10 a11 46 h10 h11 (.inl (by decide))) <| not_cons 46 58 _ _ (by decide) (hx2_not a12 a13 46 h12 h13 (.inl (by decide))) <| hx2_not a14 a15 46 h14 h15 (.inl (by decide))
  unfold gB
  rw [e', if_neg (by simp), e, if_pos (by simp)]
  simp only [List.take_succ_cons, List.take_nil, List.flatMap_cons, List.flatMap_nil, e2_hx a0 a1 h0 h1, e2_hx a2 a3 h2 h3, e2_hx a4 a5 h4 h5, e2_hx a6 a7 h6 h7, e2_hx a8 a9 h8 h9, e2_hx a10 a11 h10 h11, e2_hx a12 a13 h12 h13, e2_hx a14 a15 h14 h15, List.cons_append, List.nil_append]
theorem ic_nl {l : List Int} (h : ∀ z ∈ l, 0 ≤ z ∧ z ≤ 255) : ic (nl l) = l := by
  unfold ic nl
  rw [List.map_map]
  induction l with
  | nil => rfl
  | cons a l ih =>
    rw [List.map_cons, ih (fun z hz => h z (List.mem_cons_of_mem _ hz))]
    have := h a (List.mem_cons_self ..)
    congr 1
    show ((a.toNat : Nat) : Int) = a
    omega
theorem gB_tx (p : List Nat) (hp : ∀ x ∈ p, x < 256) (hl : p.length = 4 ∨ p.length = 16) : gB (tx p) = ic p := by
  rcases hl with hl | hl
  · match p, hl, hp with
    | [a, b, c, d], _, hp => exact gB4 a b c d (hp a (by simp)) (hp b (by simp)) (hp c (by simp)) (hp d (by simp))
  · match p, hl, hp with
    | [a0, a1, a2, a3, a4, a5, a6, a7, a8, a9, a10, a11, a12, a13, a14, a15], _, hp => exact gB16 a0 a1 a2 a3 a4 a5 a6 a7 a8 a9 a10 a11 a12 a13 a14 a15 (hp a0 (by simp)) (hp a1 (by simp)) (hp a2 (by simp)) (hp a3 (by simp)) (hp a4 (by simp)) (hp a5 (by simp)) (hp a6 (by simp)) (hp a7 (by simp)) (hp a8 (by simp)) (hp a9 (by simp)) (hp a10 (by simp)) (hp a11 (by simp)) (hp a12 (by simp)) (hp a13 (by simp)) (hp a14 (by simp)) (hp a15 (by simp))
theorem guess_ta (F H L : Int) (hv : va F H L = true) (hH : InU H) (hL : InU L) : gB (ta F H L) = pa F H L ∧ gF (ta F H L) = F ∧ ah (gB (ta F H L)) = H ∧ al (gB (ta F H L)) = L := by
  obtain ⟨hn, hA⟩ := va_in hv hH hL
  have hl : (pa F H L).length = nb F / 8 := by rw [pa_length, hv]; rfl
  have e : gB (ta F H L) = pa F H L := by
    unfold ta
    rw [gB_tx _ (nl_lt (pa_byte F H L)) (by rw [nl_length, hl]; omega), ic_nl (pa_byte F H L)]
  have eF : gF (ta F H L) = F := by
    unfold gF
    rw [e, hl]
    have hF := of_decide_eq_true (show decide _ = true from hv)
    rcases hF with rfl | ⟨rfl, _⟩ <;> rfl
  have eV : val (pa F H L) = ad H L := by
    unfold pa
    rw [hv, if_pos rfl, val_be]
    apply Int.emod_eq_of_lt hA.1
    rcases hn with h | h <;> rw [h] at hA ⊢ <;> exact hA.2
  refine ⟨e, eF, ?_, ?_⟩
  · rw [e]; unfold ah; rw [eV]; unfold ad; unfold InU at *; omega
  · rw [e]; unfold al; rw [eV]; unfold ad; unfold InU at *; omega
end Go.Proofs.YtkeogggeefnoeaaGreatDoor
namespace Go.Proofs.YtkeogggeefnoeaaGreatDoor
set_option linter.unusedSimpArgs false
set_option maxRecDepth 100000
open Go.RowKit
set_option linter.unusedVariables false

theorem txj_lt (n : Nat) (l : List Nat) (hl : ∀ x ∈ l, x < 256) (j : Nat) : ∀ x ∈ txj n l j, x < 256 := by
  intro x hxx
  unfold txj at hxx
  obtain ⟨i, _, h⟩ := List.mem_flatMap.1 hxx
  have hb : l.getD i 0 < 256 := getD_lt6 hl i
  unfold pc at h
  split at h
  · rcases List.mem_append.1 h with h | h
    · split at h
      · rw [List.mem_singleton.1 h]; decide
      · cases h
    · have := dl_digit _ _ x h
      omega
  · rcases List.mem_append.1 h with h | h
    · split at h
      · rw [List.mem_singleton.1 h]; decide
      · cases h
    · have b1 := hd_lt (l.getD i 0 / 16) (by omega)
      have b2 := hd_lt (l.getD i 0 % 16) (by omega)
      unfold hx at h
      rcases List.mem_cons.1 h with h | h
      · omega
      · have := List.mem_singleton.1 h
        omega
theorem ta_lt (F H L : Int) : ∀ x ∈ ta F H L, x < 256 := txj_lt _ _ (nl_lt (pa_byte F H L)) _
/-- What ParseAddr answers. -/
def ak (l : List Nat) : Bool := decide (l.length ≤ 39 ∧ l ≠ [] ∧ ta (gF l) (ah (gB l)) (al (gB l)) = l)
def aF (l : List Nat) : Int := if ak l then gF l else 0
def aH (l : List Nat) : Int := if ak l then ah (gB l) else 0
def aL (l : List Nat) : Int := if ak l then al (gB l) else 0
def aE (l : List Nat) : Int := if ak l then 0 else 70
theorem a_bad {l : List Nat} (h : ak l = false) : 0 = aF l ∧ 0 = aH l ∧ 0 = aL l ∧ 70 = aE l := by unfold aF aH aL aE; rw [h]; exact ⟨rfl, rfl, rfl, rfl⟩
theorem a_good {l : List Nat} (h : ak l = true) : gF l = aF l ∧ ah (gB l) = aH l ∧ al (gB l) = aL l ∧ 0 = aE l := by unfold aF aH aL aE; rw [h]; exact ⟨rfl, rfl, rfl, rfl⟩
theorem ret_a {a b c d a' b' c' d' : Int} (h : a = a' ∧ b = b' ∧ c = c' ∧ d = d') : Ending.returned (.tuple #[.agg #[.int .i64 a, .int .u64 b, .int .u64 c], .int .i64 d]) = .returned (.tuple #[.agg #[.int .i64 a', .int .u64 b', .int .u64 c'], .int .i64 d']) := by rw [h.1, h.2.1, h.2.2.1, h.2.2.2]
theorem g_in (l : List Nat) : InU (ah (gB l)) ∧ InU (al (gB l)) := aval_in (gB_byte l) rfl (by have := gB_len l; omega)
theorem results_a2 {fn : Func} {p u : Tmp} (h : fn.results = #[.cell p 66, .tmp u]) (tmps : Array Value) (w : World) (g : Nat) (F H L : Int) (x : Value)
    (hp : tmps.getD p undef = .pointer (some ⟨g, 0, none⟩)) (hu : tmps.getD u undef = x) (hg : Am w g F H L) :
    (results fn tmps).run Tryz.prog w = .ok (.tuple #[.agg #[.int .i64 F, .int .u64 H, .int .u64 L], x]) w := by
  have hl := run_loadVar_row (P := Tryz.prog) w g 66 66 #[.int .i64 F, .int .u64 H, .int .u64 L] (0, 0) _ hg Tryz.underlying66 rfl sizea
  have hp' : tmps[p]?.getD undef = .pointer (some ⟨g, 0, none⟩) := by simpa using hp
  have hu' : tmps[u]?.getD undef = x := by simpa using hu
  simp [results, h, hp', hu', asAddr, hl]
end Go.Proofs.YtkeogggeefnoeaaGreatDoor
namespace Go.Proofs.YtkeogggeefnoeaaGreatDoor
set_option linter.unusedSimpArgs false
set_option maxRecDepth 100000
open Go.RowKit
set_option linter.unusedVariables false
set_option linter.unusedSimpArgs false

theorem tp_lt (F H L B : Int) : ∀ x ∈ tp F H L B, x < 256 := by
  intro x hx
  unfold tp at hx
  split at hx
  · rcases List.mem_append.1 hx with h | h
    · exact ta_lt _ _ _ x h
    · rcases List.mem_cons.1 h with rfl | h
      · decide
      · have := dl_digit _ _ x h
        omega
  · cases hx
/-- What Parse answers. -/
def x0 (l : List Nat) : List Nat := (cu 47 l).getD 0 []
def x1 (l : List Nat) : List Nat := (cu 47 l).getD 1 []
def rT (l : List Nat) : List Nat := tp (aF (x0 l)) (aH (x0 l)) (aL (x0 l)) (nm 10 (x1 l))
def pk (l : List Nat) : Bool := decide (l.length ≤ 43 ∧ (cu 47 l).length = 2 ∧ aE (x0 l) = 0 ∧ rT l = l)
def rF (l : List Nat) : Int := if pk l then aF (x0 l) else 0
def rH (l : List Nat) : Int := if pk l then aH (x0 l) else 0
def rL (l : List Nat) : Int := if pk l then aL (x0 l) else 0
def rB (l : List Nat) : Int := if pk l then nm 10 (x1 l) else 0
def rE (l : List Nat) : Int := if pk l then 0 else 70
theorem r_bad {l : List Nat} (h : pk l = false) : 0 = rF l ∧ 0 = rH l ∧ 0 = rL l ∧ 0 = rB l ∧ 70 = rE l := by unfold rF rH rL rB rE; rw [h]; exact ⟨rfl, rfl, rfl, rfl, rfl⟩
theorem r_good {l : List Nat} (h : pk l = true) : aF (x0 l) = rF l ∧ aH (x0 l) = rH l ∧ aL (x0 l) = rL l ∧ nm 10 (x1 l) = rB l ∧ 0 = rE l := by unfold rF rH rL rB rE; rw [h]; exact ⟨rfl, rfl, rfl, rfl, rfl⟩
theorem ret_r {a b c d e a' b' c' d' e' : Int} (h : a = a' ∧ b = b' ∧ c = c' ∧ d = d' ∧ e = e') : Ending.returned (.tuple #[.agg #[.int .i64 a, .int .u64 b, .int .u64 c, .int .i64 d], .int .i64 e]) = .returned (.tuple #[.agg #[.int .i64 a', .int .u64 b', .int .u64 c', .int .i64 d'], .int .i64 e']) := by rw [h.1, h.2.1, h.2.2.1, h.2.2.2.1, h.2.2.2.2]
theorem a_in (l : List Nat) : InU (aH l) ∧ InU (aL l) := by
  have h := g_in l
  have h0 : InU 0 := by unfold InU; omega
  unfold aH aL
  cases ak l
  · exact ⟨h0, h0⟩
  · exact h
theorem results_p2 {fn : Func} {p u : Tmp} (h : fn.results = #[.cell p 68, .tmp u]) (tmps : Array Value) (w : World) (g : Nat) (F H L B : Int) (x : Value)
    (hp : tmps.getD p undef = .pointer (some ⟨g, 0, none⟩)) (hu : tmps.getD u undef = x) (hg : Pm w g F H L B) :
    (results fn tmps).run Tryz.prog w = .ok (.tuple #[.agg #[.int .i64 F, .int .u64 H, .int .u64 L, .int .i64 B], x]) w := by
  have hl := run_loadVar_row (P := Tryz.prog) w g 68 68 #[.int .i64 F, .int .u64 H, .int .u64 L, .int .i64 B] (0, 0) _ hg Tryz.underlying68 rfl sizep
  have hp' : tmps[p]?.getD undef = .pointer (some ⟨g, 0, none⟩) := by simpa using hp
  have hu' : tmps[u]?.getD undef = x := by simpa using hu
  simp [results, h, hp', hu', asAddr, hl]
end Go.Proofs.YtkeogggeefnoeaaGreatDoor
