import Derived.Test.YthjfgdldclhbhaaABytes
namespace Go.Proofs.Ythjfgdldclhbhaa
set_option maxRecDepth 100000
open Go.RowKit
set_option linter.unusedVariables false

/-- How a device stands: its sectors, what lasts, what pends, what each number meets, the count, the power, the claim. -/
structure St where
  n : Nat
  S : Nat → List Int
  P : List (Nat × List Int)
  F : Int → Int
  c : Nat
  on : Bool
  k : Nat
/-- One write laid down. -/
def lay1 (S : Nat → List Int) (p : Nat × List Int) : Nat → List Int := fun j => if j = p.1 then p.2 else S j
/-- Writes laid down in their order. -/
def layA (S : Nat → List Int) (P : List (Nat × List Int)) : Nat → List Int := P.foldl lay1 S
theorem layA_nil (S : Nat → List Int) : layA S [] = S := rfl
theorem layA_snoc (S : Nat → List Int) (P : List (Nat × List Int)) (p : Nat × List Int) : layA S (P ++ [p]) = lay1 (layA S P) p := by simp [layA]
theorem layA_app (S : Nat → List Int) (P R : List (Nat × List Int)) : layA S (P ++ R) = layA (layA S P) R := by simp [layA]
theorem layA_none (S : Nat → List Int) (i : Nat) : ∀ R : List (Nat × List Int), (∀ p ∈ R, p.1 ≠ i) → layA S R i = S i := by
  intro R
  induction R generalizing S with
  | nil => intro _; rfl
  | cons p R ih =>
    intro h
    show layA (lay1 S p) R i = S i
    rw [ih _ (fun q hq => h q (List.mem_cons_of_mem _ hq))]
    unfold lay1
    rw [if_neg (fun e => h p List.mem_cons_self e.symm)]
/-- The latest write to a sector. -/
theorem layA_last (S : Nat → List Int) (i : Nat) (A R : List (Nat × List Int)) (p : Nat × List Int) (hp : p.1 = i) (h : ∀ q ∈ R, q.1 ≠ i) : layA S (A ++ [p] ++ R) i = p.2 := by
  rw [layA_app, layA_none _ i R h, layA_snoc]
  unfold lay1
  rw [if_pos hp.symm]
/-- The writes that a crash keeps. -/
def keepL : List (Nat × List Int) → List Bool → List (Nat × List Int)
  | p :: P, true :: ks => p :: keepL P ks
  | _ :: P, false :: ks => keepL P ks
  | _, _ => []
theorem keepL_nil (P : List (Nat × List Int)) : keepL P [] = [] := by cases P <;> rfl
theorem keepL_nil' (ks : List Bool) : keepL [] ks = [] := by cases ks <;> rfl
theorem keepL_snoc : ∀ (P : List (Nat × List Int)) (p : Nat × List Int) (ks : List Bool), keepL (P ++ [p]) ks = keepL P ks ++ if ks[P.length]? = some true then [p] else []
  | [], p, [] => by simp [keepL]
  | [], p, true :: ks => by simp [keepL]
  | [], p, false :: ks => by simp [keepL]
  | q :: P, p, [] => by simp [keepL]
  | q :: P, p, true :: ks => by simp [keepL, keepL_snoc P p ks]
  | q :: P, p, false :: ks => by simp [keepL, keepL_snoc P p ks]
theorem keepL_mem : ∀ (P : List (Nat × List Int)) (ks : List Bool) (p : Nat × List Int), p ∈ keepL P ks → p ∈ P
  | [], ks, p, h => by simp [keepL_nil'] at h
  | q :: P, [], p, h => by simp [keepL] at h
  | q :: P, true :: ks, p, h => by
    rcases List.mem_cons.1 (show p ∈ q :: keepL P ks from h) with rfl | h
    · exact List.mem_cons_self
    · exact List.mem_cons_of_mem _ (keepL_mem P ks p h)
  | q :: P, false :: ks, p, h => List.mem_cons_of_mem _ (keepL_mem P ks p h)
/-- A sector's bytes. -/
def Sec (z : List Int) : Prop := z.length = 512 ∧ ∀ x ∈ z, 0 ≤ x ∧ x ≤ 255
/-- What an operation answers, and how the device stands behind it. -/
def opE (s : St) : Int := if s.on then (if s.F ((s.c : Int) + 1) = 1 then 104 else if s.F ((s.c : Int) + 1) = 2 then 103 else 0) else 104
def opS (s : St) : St := if s.on then { s with c := s.c + 1, on := decide (s.F ((s.c : Int) + 1) ≠ 1) } else s
/-- Faults looked up. -/
def lookF : List (Int × Int) → Int → Int
  | [], _ => 0
  | f :: l, x => if f.1 = x then f.2 else lookF l x
/-- Faults that may be armed. -/
def okF (l : List (Int × Int)) : Prop := (∀ f ∈ l, 1 ≤ f.1 ∧ (f.2 = 1 ∨ f.2 = 2)) ∧ l.Pairwise (fun a b => a.1 ≠ b.1)
theorem lookF_none {l : List (Int × Int)} {x : Int} (h : ∀ f ∈ l, f.1 ≠ x) : lookF l x = 0 := by
  induction l with
  | nil => rfl
  | cons f l ih =>
    rw [lookF, if_neg (h f List.mem_cons_self)]
    exact ih (fun g hg => h g (List.mem_cons_of_mem _ hg))
theorem lookF_some {l : List (Int × Int)} (hd : l.Pairwise (fun a b => a.1 ≠ b.1)) {f : Int × Int} (h : f ∈ l) : lookF l f.1 = f.2 := by
  induction l with
  | nil => simp at h
  | cons g l ih =>
    rw [List.pairwise_cons] at hd
    rcases List.mem_cons.1 h with rfl | h'
    · rw [lookF, if_pos rfl]
    · rw [lookF, if_neg (hd.1 f h')]
      exact ih hd.2 h'
theorem ne_sym {l : List (Int × Int)} : ∀ {a b : Int × Int}, a.1 ≠ b.1 → b.1 ≠ a.1 := fun h e => h e.symm
theorem lookF_perm {l m : List (Int × Int)} (hp : l.Perm m) (hd : l.Pairwise (fun a b => a.1 ≠ b.1)) : lookF l = lookF m := by
  have hm : m.Pairwise (fun a b => a.1 ≠ b.1) := (hp.pairwise_iff (fun h e => h e.symm)).1 hd
  funext x
  by_cases h : ∃ f ∈ l, f.1 = x
  · obtain ⟨f, hf, rfl⟩ := h
    rw [lookF_some hd hf, lookF_some hm (hp.mem_iff.1 hf)]
  · have h' : ∀ f ∈ l, f.1 ≠ x := fun f hf e => h ⟨f, hf, e⟩
    rw [lookF_none h', lookF_none (fun f hf => h' f (hp.mem_iff.2 hf))]
theorem okF_perm {l m : List (Int × Int)} (hp : l.Perm m) : okF l ↔ okF m :=
  ⟨fun h => ⟨fun f hf => h.1 f (hp.mem_iff.2 hf), (hp.pairwise_iff (fun h e => h e.symm)).1 h.2⟩, fun h => ⟨fun f hf => h.1 f (hp.mem_iff.1 hf), (hp.pairwise_iff (fun h e => h e.symm)).2 h.2⟩⟩
/-- What lasts, all sectors one behind the other. -/
def flat (S : Nat → List Int) : Nat → List Int
  | 0 => []
  | n + 1 => flat S n ++ S n
theorem flat_length {S : Nat → List Int} : ∀ n, (∀ i, i < n → (S i).length = 512) → (flat S n).length = 512 * n
  | 0, _ => rfl
  | n + 1, h => by
    rw [flat, List.length_append, flat_length n (fun i hi => h i (by omega)), h n (by omega)]
    omega
theorem flat_byte {S : Nat → List Int} : ∀ n, (∀ i, i < n → Sec (S i)) → ∀ z ∈ flat S n, 0 ≤ z ∧ z ≤ 255
  | 0, _ => by simp [flat]
  | n + 1, h => by
    intro z hz
    rcases List.mem_append.1 hz with hz | hz
    · exact flat_byte n (fun i hi => h i (by omega)) z hz
    · exact (h n (by omega)).2 z hz
theorem flat_congr {S R : Nat → List Int} : ∀ n, (∀ i, i < n → S i = R i) → flat S n = flat R n
  | 0, _ => rfl
  | n + 1, h => by rw [flat, flat, flat_congr n (fun i hi => h i (by omega)), h n (by omega)]
theorem flat_get {S : Nat → List Int} : ∀ n, (∀ i, i < n → (S i).length = 512) → ∀ i, i < n → ∀ j, j < 512 → (flat S n).getD (512 * i + j) 0 = (S i).getD j 0
  | 0, _ => by omega
  | n + 1, h => by
    intro i hi j hj
    have hl := flat_length n (fun i hi => h i (by omega))
    rw [flat]
    simp only [List.getD]
    by_cases e : i = n
    · subst e
      rw [List.getElem?_append_right (by omega), hl, Nat.add_sub_cancel_left]
    · rw [List.getElem?_append_left (by omega)]
      exact flat_get n (fun i hi => h i (by omega)) i (by omega) j hj
theorem flat_cut {S : Nat → List Int} (n : Nat) (h : ∀ i, i < n → (S i).length = 512) (i : Nat) (hi : i < n) : ((flat S n).drop (512 * i)).take 512 = S i := by
  refine List.ext_getElem? (fun j => ?_)
  have hl := flat_length n h
  by_cases hj : j < 512
  · rw [List.getElem?_take, if_pos hj, List.getElem?_drop]
    have := flat_get n h i hi j hj
    simp only [List.getD] at this
    have h1 : 512 * i + j < (flat S n).length := by omega
    have h2 : j < (S i).length := by rw [h i hi]; exact hj
    rw [List.getElem?_eq_getElem h1, List.getElem?_eq_getElem h2] at *
    simpa using this
  · rw [List.getElem?_take, if_neg hj, List.getElem?_eq_none (by rw [h i hi]; omega)]
end Go.Proofs.Ythjfgdldclhbhaa
