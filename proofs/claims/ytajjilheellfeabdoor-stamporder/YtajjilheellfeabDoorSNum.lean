import Derived.Test.YtajjilheellfeabDoorS7
namespace Go.Proofs.YtajjilheellfeabDoor
open Go.RowKit
set_option linter.unusedVariables false

/-! Two numbers read sign by sign: the digits ahead of the first point, and all digits behind it. -/
def lim (p : Bool) : Nat := if p then 999999999 else 9223372036854775807
def nv (q : Nat × Nat × Bool) : Nat := if q.2.2 then q.2.1 else q.1
def nup (q : Nat × Nat × Bool) (d : Nat) : Nat × Nat × Bool := if q.2.2 then (q.1, 10 * q.2.1 + d, true) else (10 * q.1 + d, q.2.1, false)
def nst (q : Nat × Nat × Bool) (x : Nat) : Option (Nat × Nat × Bool) :=
  if x = 46 then some (q.1, q.2.1, true) else if 48 ≤ x ∧ x ≤ 57 ∧ 10 * nv q + (x - 48) ≤ lim q.2.2 then some (nup q (x - 48)) else none
def nrun (q : Nat × Nat × Bool) : List Nat → Option (Nat × Nat × Bool)
  | [] => some q
  | x :: l => match nst q x with
    | some q' => nrun q' l
    | none => none
theorem nrun_append (a b : List Nat) : ∀ q, nrun q (a ++ b) = match nrun q a with
    | some q' => nrun q' b
    | none => none := by
  induction a with
  | nil => intro q; rfl
  | cons x a ih =>
    intro q
    rw [List.cons_append, nrun, nrun]
    cases nst q x with
    | none => rfl
    | some q' => exact ih q'
theorem nrun_snoc (a : List Nat) (x : Nat) (q q' : Nat × Nat × Bool) (h : nrun q a = some q') : nrun q (a ++ [x]) = nst q' x := by
  rw [nrun_append, h]
  show nrun q' [x] = _
  rw [nrun]
  cases nst q' x <;> rfl
theorem take_snoc6 (l : List Nat) (j : Nat) (h : j < l.length) : l.take (j + 1) = l.take j ++ [l.getD j 0] := by
  rw [List.take_succ_eq_append_getElem h]
  simp [List.getD, h]
theorem nrun_take (l : List Nat) (j : Nat) (q q' : Nat × Nat × Bool) (hj : j < l.length) (h : nrun q (l.take j) = some q') : nrun q (l.take (j + 1)) = nst q' (l.getD j 0) := by
  rw [take_snoc6 l j hj]
  exact nrun_snoc _ _ _ _ h
theorem nrun_stop (l : List Nat) (j : Nat) (q q' : Nat × Nat × Bool) (hj : j < l.length) (h : nrun q (l.take j) = some q') (hn : nst q' (l.getD j 0) = none) : nrun q l = none := by
  have e := nrun_take l j q q' hj h
  rw [hn] at e
  have : nrun q (l.take (j + 1) ++ l.drop (j + 1)) = none := by rw [nrun_append, e]
  rwa [List.take_append_drop] at this
theorem nrun_bound (l : List Nat) : ∀ q q', nrun q l = some q' → q.1 ≤ 9223372036854775807 → q.2.1 ≤ 999999999 → q'.1 ≤ 9223372036854775807 ∧ q'.2.1 ≤ 999999999 := by
  induction l with
  | nil => intro q q' h h1 h2; rw [nrun] at h; cases h; exact ⟨h1, h2⟩
  | cons x l ih =>
    intro q q' h h1 h2
    rw [nrun] at h
    cases e : nst q x with
    | none => rw [e] at h; cases h
    | some r =>
      rw [e] at h
      have hr : r.1 ≤ 9223372036854775807 ∧ r.2.1 ≤ 999999999 := by
        obtain ⟨s, n, p⟩ := q
        unfold nst nup nv lim at e
        by_cases hx : x = 46
        · rw [if_pos hx] at e; cases e; exact ⟨h1, h2⟩
        · rw [if_neg hx] at e
          cases p with
          | true =>
            simp only [if_true] at e
            by_cases hc : 48 ≤ x ∧ x ≤ 57 ∧ 10 * n + (x - 48) ≤ 999999999
            · rw [if_pos hc] at e; cases e; exact ⟨h1, hc.2.2⟩
            · rw [if_neg hc] at e; cases e
          | false =>
            simp only [Bool.false_eq_true, if_false] at e
            by_cases hc : 48 ≤ x ∧ x ≤ 57 ∧ 10 * s + (x - 48) ≤ 9223372036854775807
            · rw [if_pos hc] at e; cases e; exact ⟨hc.2.2, h2⟩
            · rw [if_neg hc] at e; cases e
      exact ih r q' h hr.1 hr.2
theorem nrun_sec (a : List Nat) (n : Nat) (hd : ∀ x ∈ a, 48 ≤ x ∧ x ≤ 57) (hb : dv a ≤ 9223372036854775807) : ∀ j, j ≤ a.length → nrun (0, n, false) (a.take j) = some (dv (a.take j), n, false) := by
  intro j
  induction j with
  | zero => intro _; rw [List.take_zero]; rfl
  | succ j ih =>
    intro hj
    have hj' : j < a.length := by omega
    have hx := hd _ (List.getElem_mem hj')
    rw [nrun_take a j _ _ hj' (ih (by omega)), dv_take a j hj']
    have e : a.getD j 0 = a[j] := by simp [List.getD, hj']
    have hu := dv_up a a.length (j + 1) (by omega)
    rw [List.take_length, dv_take a j hj'] at hu
    rw [e] at *
    generalize a[j] = x at *
    unfold nst nup nv lim
    rw [if_neg (by omega)]
    simp only [Bool.false_eq_true, if_false]
    rw [if_pos ⟨hx.1, hx.2, by omega⟩, Nat.mul_comm]
theorem nrun_nano (b : List Nat) (s : Nat) (hd : ∀ x ∈ b, 48 ≤ x ∧ x ≤ 57) (hb : dv b ≤ 999999999) : ∀ j, j ≤ b.length → nrun (s, 0, true) (b.take j) = some (s, dv (b.take j), true) := by
  intro j
  induction j with
  | zero => intro _; rw [List.take_zero]; rfl
  | succ j ih =>
    intro hj
    have hj' : j < b.length := by omega
    have hx := hd _ (List.getElem_mem hj')
    rw [nrun_take b j _ _ hj' (ih (by omega)), dv_take b j hj']
    have e : b.getD j 0 = b[j] := by simp [List.getD, hj']
    have hu := dv_up b b.length (j + 1) (by omega)
    rw [List.take_length, dv_take b j hj'] at hu
    rw [e] at *
    generalize b[j] = x at *
    unfold nst nup nv lim
    rw [if_neg (by omega)]
    simp only [if_true]
    rw [if_pos ⟨hx.1, hx.2, by omega⟩, Nat.mul_comm]
/-- A stamp's text is read as the stamp. -/
theorem nrun_pr (S N : Nat) (hS : S ≤ 9223372036854775807) (hN : N ≤ 999999999) : nrun (0, 0, false) (pr S N) = some (S, N, true) := by
  obtain ⟨a, b, e, ea, eb, hb9, ha1, ha2, da, db⟩ := pr_shape S N hS hN
  have vS : dv a = S := by rw [ea]; exact dv_dgs S 1
  have vN : dv b = N := by rw [eb]; exact dv_dgs N 9
  have h1 := nrun_sec a 0 da (by omega) a.length (Nat.le_refl _)
  have h2 := nrun_nano b S db (by omega) b.length (Nat.le_refl _)
  rw [List.take_length, vS] at h1
  rw [List.take_length, vN] at h2
  rw [e, nrun_append, h1]
  show nrun (S, 0, false) (46 :: b) = _
  rw [nrun]
  have e46 : nst (S, 0, false) 46 = some (S, 0, true) := rfl
  rw [e46]
  exact h2
theorem z_pr (S N : Nat) (hS : S ≤ 9223372036854775807) (hN : N ≤ 999999999) : zs (pr S N) = S ∧ zn (pr S N) = N := by
  obtain ⟨a, b, e, ea, eb, hb9, ha1, ha2, da, db⟩ := pr_shape S N hS hN
  have vS : dv a = S := by rw [ea]; exact dv_dgs S 1
  have vN : dv b = N := by rw [eb]; exact dv_dgs N 9
  have hl : (pr S N).length = a.length + 10 := by rw [e, List.length_append, List.length_cons, hb9]
  unfold zs zn
  rw [hl, show a.length + 10 - 10 = a.length from by omega, e]
  refine ⟨by rw [List.take_left, vS], ?_⟩
  have : (a ++ 46 :: b).drop (a.length + 1) = b := by
    rw [← List.drop_drop, List.drop_left]
    rfl
  rw [this, vN]
theorem vld_nat (S N : Nat) (hN : N ≤ 999999999) : vld S N = true := decide_eq_true ⟨by omega, by omega, by omega⟩
theorem pok_pr (S N : Nat) (hS : S ≤ 9223372036854775807) (hN : N ≤ 999999999) : pok (pr S N) = true := by
  obtain ⟨e1, e2⟩ := z_pr S N hS hN
  unfold pok
  rw [e1, e2]
  exact decide_eq_true ⟨hS, vld_nat S N hN, rfl⟩
theorem nrun_pok (l : List Nat) (h : pok l = true) : nrun (0, 0, false) l = some (zs l, zn l, true) := by
  obtain ⟨h1, h2, h3⟩ := of_decide_eq_true (show decide _ = true from h)
  obtain ⟨_, _, hN⟩ := of_decide_eq_true (show decide _ = true from h2)
  have := nrun_pr (zs l) (zn l) h1 (by omega)
  rwa [h3] at this
/-- What the reading answers. -/
def us (l : List Nat) : Int := match nrun (0, 0, false) l with
  | some q => (q.1 : Int)
  | none => 0
def un (l : List Nat) : Int := match nrun (0, 0, false) l with
  | some q => (q.2.1 : Int)
  | none => 0
def uo (l : List Nat) : Bool := (nrun (0, 0, false) l).isSome
theorem u_some {l : List Nat} {q : Nat × Nat × Bool} (h : nrun (0, 0, false) l = some q) : us l = (q.1 : Int) ∧ un l = (q.2.1 : Int) ∧ uo l = true := by unfold us un uo; rw [h]; exact ⟨rfl, rfl, rfl⟩
theorem u_none {l : List Nat} (h : nrun (0, 0, false) l = none) : us l = 0 ∧ un l = 0 ∧ uo l = false := by unfold us un uo; rw [h]; exact ⟨rfl, rfl, rfl⟩
/-- Taken just where the text is the one of what was read. -/
theorem u_good {l : List Nat} (ho : uo l = true) (hp : pr (us l) (un l) = l) : us l = xs l ∧ un l = xn l ∧ 0 = xe l := by
  cases e : nrun (0, 0, false) l with
  | none => rw [(u_none e).2.2] at ho; cases ho
  | some q =>
    obtain ⟨e1, e2, _⟩ := u_some e
    obtain ⟨b1, b2⟩ := nrun_bound l _ _ e (by show 0 ≤ _; omega) (by show 0 ≤ _; omega)
    rw [e1, e2] at hp
    have hk := pok_pr q.1 q.2.1 b1 b2
    obtain ⟨z1, z2⟩ := z_pr q.1 q.2.1 b1 b2
    rw [hp] at hk z1 z2
    obtain ⟨x1, x2, x3⟩ := x_good hk
    rw [e1, e2, ← x1, ← x2, z1, z2]
    exact ⟨rfl, rfl, x3⟩
theorem u_bad {l : List Nat} (h : uo l = false ∨ pr (us l) (un l) ≠ l) : 0 = xs l ∧ 0 = xn l ∧ 60 = xe l := by
  apply x_bad
  cases hk : pok l with
  | false => rfl
  | true =>
    have e := nrun_pok l hk
    obtain ⟨e1, e2, e3⟩ := u_some e
    obtain ⟨h1, h2, h3⟩ := of_decide_eq_true (show decide _ = true from hk)
    rcases h with h | h
    · rw [e3] at h; cases h
    · exact absurd (by rw [e1, e2]; exact h3) h
theorem u_in (l : List Nat) : (0 ≤ us l ∧ us l ≤ 9223372036854775807) ∧ 0 ≤ un l ∧ un l ≤ 999999999 := by
  cases e : nrun (0, 0, false) l with
  | none => obtain ⟨e1, e2, _⟩ := u_none e; rw [e1, e2]; omega
  | some q =>
    obtain ⟨e1, e2, _⟩ := u_some e
    obtain ⟨b1, b2⟩ := nrun_bound l _ _ e (by show 0 ≤ _; omega) (by show 0 ≤ _; omega)
    rw [e1, e2]
    omega
end Go.Proofs.YtajjilheellfeabDoor
