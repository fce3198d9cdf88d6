import Derived.Test.YtcbmgpmjnehjdaaGreatRO
import Derived.Test.YtcbmgpmjnehjdaaGreatC4
import Derived.Test.YtcbmgpmjnehjdaaGreatQ5
namespace Go.Proofs.YtcbmgpmjnehjdaaGreat
set_option maxRecDepth 100000
open Go.RowKit
set_option linter.unusedVariables false

/-- A new reader, all its memory new: its bytes lie below it. -/
theorem newReader15 (a : Option Addr) (n c : Nat) (zs : List Int) (w : World) (hb : Bs w a n zs) (ha : a = none → c = 0) (hn : n ≤ 140737488351232) (hnc : n ≤ c) (h0 : 0 < w.heap.size) :
    Calls Tryz.prog 89 #[.slice a n c] w fun en w' => ∃ r g, en = .returned (.pointer (some ⟨r, 0, none⟩)) ∧ RS w' r g zs 0 0 ∧ w.heap.size ≤ r ∧ g < r ∧ (w.heap.size ≤ g ∨ (g = 0 ∧ n = 0)) ∧ Below w.heap.size w w' := by
  cases a with
  | none =>
    obtain rfl : c = 0 := ha rfl
    obtain rfl : n = 0 := by omega
    obtain rfl : zs = [] := List.eq_nil_of_length_eq_zero hb.1
    refine (newReader_nil w).mono ?_
    rintro en w' ⟨rfl, rfl⟩
    exact ⟨w.heap.size, 0, rfl, .inl ⟨rfl, by omega, none, 0, 0, heap_alloc_new w _, rfl, Nat.le_refl _, by unfold maxLen; omega, by simp, .inl ⟨rfl, rfl, rfl⟩⟩, Nat.le_refl _, h0, .inr ⟨rfl, rfl⟩, (Below.refl _ _).alloc (Nat.le_refl _) _⟩
  | some x =>
    refine (newReader_some x n c zs w hb hn).mono ?_
    rintro en w' ⟨g, cap, cur, w1, rfl, hbg, hgg, hnc', hcm, hcs, ht, hg, rfl⟩
    have hs := hg.size
    have hlt : g < w1.heap.size := (Array.getElem?_eq_some_iff.1 hgg).1
    refine ⟨w1.heap.size, g, rfl, .inl ⟨rfl, by omega, some ⟨g, 0, none⟩, n, cap, heap_alloc_new w1 _, hb.1, hnc', hcm, hb.2.1, .inr ⟨0, cur, rfl, ?_, by omega, ?_⟩⟩, hs, hlt, .inl hbg, (below_of_grown hg).alloc hs _⟩
    · rw [Below.heap_alloc w1 _ g hlt]; exact hgg
    · simpa using ht
/-- What Bytes(m) reads. -/
def bz (m : Nat) (l : List Int) (e : Int) : List Int := if e = 0 ∧ m ≤ l.length then l.take m else []
theorem bz_ok {m : Nat} {l : List Int} {e : Int} (h : Okb l) : Okb (bz m l e) := by
  unfold bz
  split
  · exact fun z hz => h z (List.mem_of_mem_take hz)
  · intro z hz; cases hz
theorem bz_len {m : Nat} {l : List Int} {e : Int} : (bz m l e).length ≤ m := by
  unfold bz
  split
  · rw [List.length_take]; omega
  · simp
theorem bytesAny (r g m : Nat) (l : List Int) (p e : Int) (w : World) (h : RS w r g l p e) (hl : l.length ≤ 140737488351232) (hp : 0 ≤ p ∧ p ≤ 100000) :
    Calls Tryz.prog 92 #[.pointer (some ⟨r, 0, none⟩), .int .i64 m] w fun en w' => ∃ a, en = .returned (.slice a (bz m l e).length (bz m l e).length) ∧ Lies w' g a (bz m l e).length (bz m l e).length (bz m l e) ∧ RS w' r g (gl m l e) (gp m l e p) (ge m l e) ∧ Only r w w' := by
  rcases h with ⟨rfl, h⟩ | h
  · by_cases hm : m ≤ l.length
    · obtain ⟨e1, e2, e3, e4⟩ := g_yes (p := p) hm
      have eb : bz m l 0 = l.take m := by unfold bz; rw [if_pos ⟨rfl, hm⟩]
      have el : (l.take m).length = m := by rw [List.length_take]; omega
      rw [e2, e3, e4, eb, el]
      refine (bytes_whole r g m l p w h hm (by omega) hp.1 (by omega)).mono ?_
      rintro en w' ⟨a, rfl, h0, h1, h2⟩
      exact ⟨a, rfl, h0, .inl ⟨rfl, h1⟩, h2⟩
    · obtain ⟨e1, e2, e3, e4⟩ := g_no (p := p) (show l.length < m by omega)
      have eb : bz m l 0 = [] := by unfold bz; rw [if_neg (fun h => hm h.2)]
      rw [e2, e3, e4, eb]
      refine (bytes_breaks r g m l p w h 10 (.inr ⟨by omega, by omega, rfl⟩)).mono ?_
      rintro en w' ⟨rfl, h1, h2⟩
      exact ⟨none, rfl, ⟨rfl, Nat.le_refl _, by unfold maxLen; simp, by simp, .inl ⟨rfl, rfl, rfl⟩⟩, .inr h1, h2⟩
  · have hne := bne_iff_ne.1 h.2
    obtain ⟨e1, e2, e3, e4⟩ := g_bad (W := m) (l := l) (p := p) hne
    have eb : bz m l e = [] := by unfold bz; rw [if_neg (fun h => hne h.1)]
    rw [e2, e3, e4, eb]
    refine (bytes_broken r m p e w h).mono ?_
    rintro en w' ⟨rfl, rfl⟩
    exact ⟨none, rfl, ⟨rfl, Nat.le_refl _, by unfold maxLen; simp, by simp, .inl ⟨rfl, rfl, rfl⟩⟩, .inr h, Only.refl _ _⟩
def ln (l : List Int) (e : Int) : Nat := if e = 0 then l.length else 0
theorem leftAny (r g : Nat) (l : List Int) (p e : Int) (w : World) (h : RS w r g l p e) :
    Calls Tryz.prog 94 #[.pointer (some ⟨r, 0, none⟩)] w fun en w' => en = .returned (.int .i64 (ln l e)) ∧ w' = w := by
  rcases h with ⟨rfl, h⟩ | h
  · exact left_whole r g l p w h
  · have hne := bne_iff_ne.1 h.2
    unfold ln
    rw [if_neg hne]
    exact left_broken r p e w h
theorem RS.only {w w' : World} {r g q : Nat} {l : List Int} {p e : Int} (h : RS w r g l p e) (ho : Only q w w') (hr : r ≠ q) (hg : g ≠ q) : RS w' r g l p e := h.other ho.block hr hg
/-! The least of the landed rows. -/
def wtn (x a b : Int) : Bool := decide (a ≤ x ∧ x ≤ b)
theorem rwithin_ (x a b : Int) (w : World) : Calls Tryz.prog 75 #[.int .i64 x, .int .i64 a, .int .i64 b] w fun e w' => e = .returned (.bool (wtn x a b)) ∧ w' = w := by
  go_enter Tryz.func75, Tryz.ntmps75
  go_wp2_with fail
  all_goals
    go_ret
    refine ⟨ret_bool ?_, rfl⟩
    unfold wtn
    first
      | exact (decide_eq_true (by omega)).symm
      | exact (decide_eq_false (by omega)).symm
      | exact decide_eq_decide.2 (by omega)
theorem risKey_ (a : Option Addr) (n c : Nat) (w : World) (hn : n ≤ maxLen) : Calls Tryz.prog 115 #[.slice a n c] w fun e w' => e = .returned (.bool (decide (n = 32))) ∧ w' = w := by
  unfold maxLen at hn
  have h : decide (n = 32) = ((n : Int) == 32) := by
    by_cases h : n = 32
    · rw [decide_eq_true h, h]; rfl
    · rw [decide_eq_false h]; exact (beq_eq_false_iff_ne.2 (by omega)).symm
  rw [h]
  go_enter Tryz.func115, Tryz.ntmps115
  go_wp2_with fail
  all_goals
    go_ret
    exact ⟨rfl, rfl⟩
end Go.Proofs.YtcbmgpmjnehjdaaGreat
