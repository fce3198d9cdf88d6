import Derived.Test.YtgjamfnhkeoedaaLawSeals
namespace Go.Proofs.Ytgjamfnhkeoedaa
open Go.RowKit
set_option linter.unusedVariables false

/-- Does it open, and to what? -/
def oB (t0 t1 t2 t3 : List Nat) : Bool := decide (t0.length = 32 ∧ t1.length = 12 ∧ t2.length ≤ 65536 ∧ 16 ≤ t3.length ∧ t3.length ≤ 65552 ∧ t3.drop (t3.length - 16) = tl (kf t0) t1 t2 (t3.take (t3.length - 16)))
def oP (t0 t1 t2 t3 : List Nat) : List Nat := if oB t0 t1 t2 t3 then st (kf t0) t1 (t3.take (t3.length - 16)) else []
set_option maxHeartbeats 1000000 in
theorem openAny_ (a0 : Option Addr) (n0 c0 : Nat) (t0 : List Nat) (a1 : Option Addr) (n1 c1 : Nat) (t1 : List Nat) (a2 : Option Addr) (n2 c2 : Nat) (t2 : List Nat) (a3 : Option Addr) (n3 c3 : Nat) (t3 : List Nat) (w : World) (hb0 : Bs w a0 n0 (ic t0)) (hb1 : Bs w a1 n1 (ic t1)) (hb2 : Bs w a2 n2 (ic t2)) (hb3 : Bs w a3 n3 (ic t3)) (hy0 : ∀ x ∈ t0, x < 256) (hy1 : ∀ x ∈ t1, x < 256) (hy2 : ∀ x ∈ t2, x < 256) (hy3 : ∀ x ∈ t3, x < 256) (hn0 : n0 ≤ maxLen) (hn1 : n1 ≤ maxLen) (hn2 : n2 ≤ maxLen) (hn3 : n3 ≤ maxLen) (hc3 : n3 ≤ c3) (hc2 : n2 ≤ c2) (hm2 : c2 ≤ maxLen) (hm3 : c3 ≤ maxLen) :
    Calls Try.prog 14 #[.slice a0 n0 c0, .slice a1 n1 c1, .slice a2 n2 c2, .slice a3 n3 c3] w fun e w' => ∃ a m cap, e = .returned (.tuple #[.slice a m cap, .bool (oB t0 t1 t2 t3)]) ∧ Bs w' a m (ic (oP t0 t1 t2 t3)) ∧ m ≤ 65536 ∧ Below w.heap.size w w' := by
  have l0 : t0.length = n0 := by have := hb0.1; rwa [ic_length] at this
  have l1 : t1.length = n1 := by have := hb1.1; rwa [ic_length] at this
  have l2 : t2.length = n2 := by have := hb2.1; rwa [ic_length] at this
  have l3 : t3.length = n3 := by have := hb3.1; rwa [ic_length] at this
  by_cases hg : n0 = 32 ∧ n1 = 12 ∧ n2 ≤ 65536 ∧ 16 ≤ n3 ∧ n3 ≤ 65552
  · obtain ⟨rfl, rfl, h2, h3, h4⟩ := hg
    obtain ⟨n, rfl⟩ : ∃ n, n3 = n + 16 := ⟨n3 - 16, by omega⟩
    refine (open_ a0 a1 a2 a3 c0 c1 n2 c2 n c3 t0 t1 t2 t3 w hb0 hb1 hb2 hb3 hy0 hy1 hy2 hy3 h2 (by omega) hc3 hc2 hm2 hm3).mono ?_
    rintro e w' ⟨g, h⟩
    have en : t3.length - 16 = n := by omega
    rcases h with ⟨h, a, cap, rfl, hb, _, _⟩ | ⟨h, a, cap, rfl⟩
    · have eb : oB t0 t1 t2 t3 = true := by unfold oB; rw [en]; exact decide_eq_true ⟨l0, l1, by omega, by omega, by omega, h⟩
      have ep : oP t0 t1 t2 t3 = st (kf t0) t1 (t3.take n) := by unfold oP; rw [eb, en]; rfl
      exact ⟨a, n, cap, by rw [eb], by rw [ep]; exact hb, by omega, g⟩
    · have eb : oB t0 t1 t2 t3 = false := by unfold oB; rw [en]; exact decide_eq_false fun hh => h hh.2.2.2.2.2
      have ep : oP t0 t1 t2 t3 = [] := by unfold oP; rw [eb]; rfl
      exact ⟨a, 0, cap, by rw [eb], by rw [ep]; exact Bs.none0 _ _, by omega, g⟩
  · have eb : oB t0 t1 t2 t3 = false := by unfold oB; exact decide_eq_false fun hh => hg ⟨by omega, by omega, by omega, by omega, by omega⟩
    have ep : oP t0 t1 t2 t3 = [] := by unfold oP; rw [eb]; rfl
    refine (open_bad a0 a1 a2 a3 n0 c0 n1 c1 n2 c2 n3 c3 (ic t0) t3 w hb0 hb3 hc3 hn0 hn1 hn2 hm3 (by omega)).mono ?_
    rintro e w' ⟨⟨a, cap, rfl⟩, g⟩
    exact ⟨a, 0, cap, by rw [eb], by rw [ep]; exact Bs.none0 _ _, by omega, g⟩
set_option maxHeartbeats 1000000 in
theorem refOpenAny_ (a0 : Option Addr) (n0 c0 : Nat) (t0 : List Nat) (a1 : Option Addr) (n1 c1 : Nat) (t1 : List Nat) (a2 : Option Addr) (n2 c2 : Nat) (t2 : List Nat) (a3 : Option Addr) (n3 c3 : Nat) (t3 : List Nat) (w : World) (hb0 : Bs w a0 n0 (ic t0)) (hb1 : Bs w a1 n1 (ic t1)) (hb2 : Bs w a2 n2 (ic t2)) (hb3 : Bs w a3 n3 (ic t3)) (hy0 : ∀ x ∈ t0, x < 256) (hy1 : ∀ x ∈ t1, x < 256) (hy2 : ∀ x ∈ t2, x < 256) (hy3 : ∀ x ∈ t3, x < 256) (hn0 : n0 ≤ maxLen) (hn1 : n1 ≤ maxLen) (hn2 : n2 ≤ maxLen) (hn3 : n3 ≤ maxLen) (hc3 : n3 ≤ c3) :
    Calls Try.prog 15 #[.slice a0 n0 c0, .slice a1 n1 c1, .slice a2 n2 c2, .slice a3 n3 c3] w fun e w' => ∃ a m cap, e = .returned (.tuple #[.slice a m cap, .bool (oB t0 t1 t2 t3)]) ∧ Bs w' a m (ic (oP t0 t1 t2 t3)) ∧ m ≤ 65536 ∧ Below w.heap.size w w' := by
  have l0 : t0.length = n0 := by have := hb0.1; rwa [ic_length] at this
  have l1 : t1.length = n1 := by have := hb1.1; rwa [ic_length] at this
  have l2 : t2.length = n2 := by have := hb2.1; rwa [ic_length] at this
  have l3 : t3.length = n3 := by have := hb3.1; rwa [ic_length] at this
  by_cases hg : n0 = 32 ∧ n1 = 12 ∧ n2 ≤ 65536 ∧ 16 ≤ n3 ∧ n3 ≤ 65552
  · obtain ⟨rfl, rfl, h2, h3, h4⟩ := hg
    obtain ⟨n, rfl⟩ : ∃ n, n3 = n + 16 := ⟨n3 - 16, by omega⟩
    refine (refOpen_ a0 a1 a2 a3 c0 c1 n2 c2 n c3 t0 t1 t2 t3 w hb0 hb1 hb2 hb3 hy0 hy1 hy2 hy3 h2 (by omega) hc3).mono ?_
    rintro e w' ⟨g, h⟩
    have en : t3.length - 16 = n := by omega
    rcases h with ⟨h, v, rfl, ho⟩ | ⟨h, rfl⟩
    · have eb : oB t0 t1 t2 t3 = true := by unfold oB; rw [en]; exact decide_eq_true ⟨l0, l1, by omega, by omega, by omega, h⟩
      have ep : oP t0 t1 t2 t3 = st (kf t0) t1 (t3.take n) := by unfold oP; rw [eb, en]; rfl
      obtain ⟨a, cap, rfl, hb, _⟩ := own_form ho (ic_bytes (st_lt (kf_lt hy0) hy1 fun x hx => hy3 x (List.mem_of_mem_take hx)))
      exact ⟨a, n, cap, by rw [eb], by rw [ep]; exact hb, by omega, g⟩
    · have eb : oB t0 t1 t2 t3 = false := by unfold oB; rw [en]; exact decide_eq_false fun hh => h hh.2.2.2.2.2
      have ep : oP t0 t1 t2 t3 = [] := by unfold oP; rw [eb]; rfl
      exact ⟨none, 0, 0, by rw [eb], by rw [ep]; exact Bs.none0 _ _, by omega, g⟩
  · have eb : oB t0 t1 t2 t3 = false := by unfold oB; exact decide_eq_false fun hh => hg ⟨by omega, by omega, by omega, by omega, by omega⟩
    have ep : oP t0 t1 t2 t3 = [] := by unfold oP; rw [eb]; rfl
    refine (refOpen_bad a0 a1 a2 a3 n0 c0 n1 c1 n2 c2 n3 c3 w hn0 hn1 hn2 hn3 (by omega)).mono ?_
    rintro e w' ⟨rfl, rfl⟩
    exact ⟨none, 0, 0, by rw [eb], by rw [ep]; exact Bs.none0 _ _, by omega, Below.refl _ _⟩
theorem ic_set (l : List Nat) (i z : Nat) : (ic l).set i (z : Int) = ic (l.set i z) := by simp [ic, List.map_set]
end Go.Proofs.Ytgjamfnhkeoedaa
