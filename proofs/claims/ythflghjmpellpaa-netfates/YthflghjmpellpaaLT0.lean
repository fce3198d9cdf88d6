import Derived.Test.YthflghjmpellpaaLPa
namespace Go.Proofs.Ythflghjmpellpaa
open Go.RowKit
set_option linter.unusedVariables false
set_option maxRecDepth 100000

/-! The book of all that were ever under way: which of them are here. -/
def her : List Fl → List Bool → List Fl
  | f :: B, b :: H => if b then f :: her B H else her B H
  | _, _ => []
/-- The numbers rise by one. -/
def Nos (s : Int) : List Fl → Prop
  | [] => True
  | f :: B => f.no = s + 1 ∧ Nos (s + 1) B
theorem her_lo : ∀ (B : List Fl) (H : List Bool) (s : Int), Nos s B → ∀ x ∈ her B H, s < x.no
  | [], _, s, _, x, hx => by simp [her] at hx
  | f :: B, [], s, _, x, hx => by simp [her] at hx
  | f :: B, b :: H, s, h, x, hx => by
    have ih := her_lo B H (s + 1) h.2
    unfold her at hx
    split at hx
    · rcases List.mem_cons.1 hx with rfl | hx
      · have := h.1; omega
      · have := ih x hx; omega
    · have := ih x hx; omega
theorem fnd_lo {L : List Fl} {s k : Int} (h : ∀ x ∈ L, s < x.no) (hk : k ≤ s) : fnd L k = none := by
  unfold fnd
  rw [List.find?_eq_none]
  intro x hx
  have := h x hx
  simp
  omega
theorem fnd_her : ∀ (B : List Fl) (H : List Bool) (s : Int) (i : Nat), Nos s B → B.length = H.length → i < B.length → fnd (her B H) (s + 1 + i) = if H.getD i false then some (B.getD i fl0) else none
  | [], _, s, i, _, _, hi => by simp at hi
  | f :: B, [], s, i, _, hl, _ => by simp at hl
  | f :: B, b :: H, s, 0, h, hl, hi => by
    have lo := her_lo B H (s + 1) h.2
    show fnd (if b then f :: her B H else her B H) _ = if b then some f else none
    cases b
    · exact fnd_lo lo (by simp)
    · show fnd (f :: her B H) _ = some f
      unfold fnd
      rw [List.find?_cons_of_pos (by simp [h.1])]
  | f :: B, b :: H, s, i + 1, h, hl, hi => by
    have ih := fnd_her B H (s + 1) i h.2 (by simpa using hl) (by simpa using hi)
    have e : s + 1 + ((i + 1 : Nat) : Int) = s + 1 + 1 + (i : Int) := by omega
    show fnd (if b then f :: her B H else her B H) _ = if H.getD i false then some (B.getD i fl0) else none
    rw [e, ← ih]
    cases b
    · rfl
    · show fnd (f :: her B H) _ = _
      unfold fnd
      rw [List.find?_cons_of_neg (by have := h.1; simp; omega)]
theorem fnd_hi : ∀ (B : List Fl) (H : List Bool) (s k : Int), Nos s B → s + B.length < k → fnd (her B H) k = none
  | [], _, s, k, _, _ => by simp [her, fnd]
  | f :: B, [], s, k, _, _ => by simp [her, fnd]
  | f :: B, b :: H, s, k, h, hk => by
    have ih := fnd_hi B H (s + 1) k h.2 (by simp at hk; omega)
    show fnd (if b then f :: her B H else her B H) _ = none
    cases b
    · exact ih
    · show fnd (f :: her B H) _ = _
      unfold fnd at *
      rw [List.find?_cons_of_neg (by have := h.1; simp at hk ⊢; omega)]
      exact ih
theorem her_app : ∀ (B : List Fl) (H : List Bool) (f : Fl), B.length = H.length → her (B ++ [f]) (H ++ [true]) = her B H ++ [f]
  | [], [], f, _ => rfl
  | [], _ :: _, f, h => by simp at h
  | _ :: _, [], f, h => by simp at h
  | x :: B, b :: H, f, h => by
    have ih := her_app B H f (by simpa using h)
    show (if b then x :: her (B ++ [f]) (H ++ [true]) else her (B ++ [f]) (H ++ [true])) = (if b then x :: her B H else her B H) ++ [f]
    rw [ih]
    cases b <;> rfl
theorem her_len : ∀ (B : List Fl) (H : List Bool), (her B H).length ≤ B.length
  | [], _ => by simp [her]
  | _ :: _, [] => by simp [her]
  | x :: B, b :: H => by
    have ih := her_len B H
    unfold her
    split <;> simp <;> omega
theorem nos_app : ∀ (B : List Fl) (s : Int) (f : Fl), Nos s B → f.no = s + B.length + 1 → Nos s (B ++ [f])
  | [], s, f, _, h => ⟨by simpa using h, trivial⟩
  | x :: B, s, f, h, e => ⟨h.1, nos_app B (s + 1) f h.2 (by simp at e; omega)⟩
theorem outL_lo {L : List Fl} {s k : Int} (h : ∀ x ∈ L, s < x.no) (hk : k ≤ s) : outL L k = L := by
  unfold outL
  rw [List.filter_eq_self]
  intro x hx
  have := h x hx
  simp
  omega
theorem her_out : ∀ (B : List Fl) (H : List Bool) (s : Int) (i : Nat), Nos s B → B.length = H.length → i < B.length → outL (her B H) (s + 1 + i) = her B (H.set i false)
  | [], _, s, i, _, _, hi => by simp at hi
  | f :: B, [], s, i, _, hl, _ => by simp at hl
  | f :: B, b :: H, s, 0, h, hl, hi => by
    have lo := her_lo B H (s + 1) h.2
    have e := outL_lo lo (k := s + 1 + ((0 : Nat) : Int)) (by simp)
    show outL (if b then f :: her B H else her B H) _ = her B H
    cases b
    · exact e
    · show outL (f :: her B H) _ = _
      unfold outL at *
      rw [List.filter_cons_of_neg (by simp [h.1])]
      exact e
  | f :: B, b :: H, s, i + 1, h, hl, hi => by
    have ih := her_out B H (s + 1) i h.2 (by simpa using hl) (by simpa using hi)
    have e : s + 1 + ((i + 1 : Nat) : Int) = s + 1 + 1 + (i : Int) := by omega
    show outL (if b then f :: her B H else her B H) _ = if b then f :: her B (H.set i false) else her B (H.set i false)
    rw [e, ← ih]
    cases b
    · rfl
    · show outL (f :: her B H) _ = f :: outL (her B H) _
      unfold outL
      rw [List.filter_cons_of_pos (by have := h.1; simp; omega)]
theorem flipL_lo {L : List Fl} {s k v : Int} {j : Nat} (h : ∀ x ∈ L, s < x.no) (hk : k ≤ s) : flipL L k j v = L := by
  unfold flipL
  rw [List.map_congr_left (g := id), List.map_id]
  intro x hx
  have := h x hx
  rw [if_neg (by omega)]
  rfl
theorem her_flip : ∀ (B : List Fl) (H : List Bool) (s : Int) (i j : Nat) (v : Int), Nos s B → i < B.length → flipL (her B H) (s + 1 + i) j v = her (B.set i (flipF (B.getD i fl0) j v)) H
  | [], _, s, i, j, v, _, hi => by simp at hi
  | f :: B, [], s, i, j, v, _, _ => by cases i <;> simp [her, flipL]
  | f :: B, b :: H, s, 0, j, v, h, hi => by
    have lo := her_lo B H (s + 1) h.2
    have e := flipL_lo (j := j) (v := v) lo (k := s + 1 + ((0 : Nat) : Int)) (by simp)
    show flipL (if b then f :: her B H else her B H) _ j v = if b then flipF f j v :: her B H else her B H
    cases b
    · exact e
    · show flipL (f :: her B H) _ j v = flipF f j v :: her B H
      unfold flipL at *
      rw [List.map_cons, if_pos (by simp [h.1]), e]
  | f :: B, b :: H, s, i + 1, j, v, h, hi => by
    have ih := her_flip B H (s + 1) i j v h.2 (by simpa using hi)
    have e : s + 1 + ((i + 1 : Nat) : Int) = s + 1 + 1 + (i : Int) := by omega
    show flipL (if b then f :: her B H else her B H) _ j v = if b then f :: her (B.set i (flipF (B.getD i fl0) j v)) H else her (B.set i (flipF (B.getD i fl0) j v)) H
    rw [e, ← ih]
    cases b
    · rfl
    · show flipL (f :: her B H) _ j v = f :: flipL (her B H) _ j v
      unfold flipL
      rw [List.map_cons, if_neg (by have := h.1; omega)]
theorem nos_set : ∀ (B : List Fl) (s : Int) (i : Nat) (f : Fl), Nos s B → f.no = (B.getD i fl0).no → Nos s (B.set i f)
  | [], s, i, f, h, _ => h
  | x :: B, s, 0, f, h, e => ⟨(show f.no = x.no from e).trans h.1, h.2⟩
  | x :: B, s, i + 1, f, h, e => ⟨h.1, nos_set B (s + 1) i f h.2 e⟩
theorem nos_get : ∀ (B : List Fl) (s : Int) (i : Nat), Nos s B → i < B.length → (B.getD i fl0).no = s + 1 + i
  | [], s, i, _, hi => by simp at hi
  | x :: B, s, 0, h, _ => by simpa using h.1
  | x :: B, s, i + 1, h, hi => by
    have := nos_get B (s + 1) i h.2 (by simpa using hi)
    show (B.getD i fl0).no = _
    rw [this]
    omega
end Go.Proofs.Ythflghjmpellpaa
