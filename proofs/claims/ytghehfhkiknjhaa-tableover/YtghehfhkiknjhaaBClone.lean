import Derived.Test.YtghehfhkiknjhaaBTake
namespace Go.Proofs.Ytghehfhkiknjhaa
set_option maxRecDepth 100000
open Go.RowKit
set_option linter.unusedVariables false

set_option maxHeartbeats 400000 in
theorem clone_nil (w : World) :
    Calls Try.prog 72 #[.slice none 0 0] w fun en w' => en = .returned (.slice none 0 0) ∧ w' = w := by
  have heq := Go.Lib.run_eql_slice_nil (P := Try.prog) w 27 5 none 0 0 0 0 Try.underlying27
  simp only [Option.isNone] at heq
  go_enter Try.func72, Try.ntmps72
  go_wp2
  go_ret
  exact ⟨rfl, rfl⟩

theorem grown_past {w w1 : World} {o : Obj} (h : (w.alloc o).grownBy w1 (some w.heap.size)) : w.grownBy w1 none :=
  ⟨h.os, h.tape, h.output, by have := h.size; simp at this; omega, fun k hk _ => by
    rw [h.block k (by simp; omega) (by simp; omega)]; exact Below.heap_alloc w o k hk⟩

set_option maxHeartbeats 400000 in
theorem clone_some (x : Addr) (n c : Nat) (zs : List Int) (w : World) (hb : Bs w (some x) n zs) (hn : n ≤ 100000000) :
    Calls Try.prog 72 #[.slice (some x) n c] w fun en w' => ∃ g cap cur, en = .returned (.slice (some ⟨g, 0, none⟩) n cap) ∧ w.heap.size ≤ g ∧ w'.heap[g]? = some (.cells cur 5 (0, 0)) ∧ n ≤ cap ∧ cap ≤ maxLen ∧ cur.size = cap ∧ cur.toList.take n = cells zs ∧ w.grownBy w' none := by
  obtain ⟨i, hi, hz0, hz1, hz2⟩ := info_parts info5
  have heq := Go.Lib.run_eql_slice_nil (P := Try.prog) w 27 5 (some x) n c 0 0 Try.underlying27
  simp only [Option.isNone] at heq
  go_enter Try.func72, Try.ntmps72
  go_wp2_with (at_builtin; (refine wpList_append_own _ rfl (.tmp 5) (.tmp 6) 27 rfl w.heap.size 5 i (.int .u8 0) 1 1 Try.underlying27 hi hz0 hz1 hz2 rfl (by decide) _ 0 [] rfl (World.ownsRow_made w _ 0 (Nat.le_refl _) (by unfold maxLen; omega) (by simp)) x n c (cells zs) rfl (by rw [cells_length, hb.1, Nat.mul_one]) (hb.src1 (World.grownBy_alloc w _ _)) (cells_one zs) (by unfold maxLen; omega) (by omega) (by simp) ?_); intro v' w1 hown hg hv)
  have hg' : (w.alloc (.cells #[] 5)).grownBy w1 (some w.heap.size) := hg
  have hv' : ¬ v' = .slice none 0 0 := fun e => by have hq : Value.slice (some ⟨w.heap.size, 0, none⟩) 0 0 = .slice none 0 0 := (hv.1 e).1; simp at hq
  obtain ⟨h1, h2⟩ := hown
  rcases h2 with ⟨e, _⟩ | ⟨g, cap, cur, rfl, hbg, hgg, hnc, hcm, hcs, ht⟩
  · exact absurd e hv'
  simp only [Nat.zero_add, Nat.mul_one, List.nil_append] at ht hcs hnc ⊢
  clear hv hv' hg h1
  go_ret
  exact ⟨g, cap, cur, rfl, hbg, hgg, hnc, hcm, hcs, ht, grown_past hg'⟩

set_option maxHeartbeats 400000 in
theorem newReader_nil (w : World) :
    Calls Try.prog 58 #[.slice none 0 0] w fun en w' => en = .returned (.pointer (some ⟨w.heap.size, 0, none⟩)) ∧ w' = w.alloc (.cells #[.slice none 0 0, .int .i64 0, .int .i64 0] 115) := by
  go_enter Try.func58, Try.ntmps58
  go_wp2_with (go_at_call 72; refine (clone_nil _).mono ?_; rintro e w' ⟨rfl, hw⟩; obtain rfl := hw.symm)
  go_ret
  exact ⟨rfl, rfl⟩

set_option maxHeartbeats 400000 in
theorem newReader_some (x : Addr) (n c : Nat) (zs : List Int) (w : World) (hb : Bs w (some x) n zs) (hn : n ≤ 100000000) :
    Calls Try.prog 58 #[.slice (some x) n c] w fun en w' => ∃ g cap cur w1, en = .returned (.pointer (some ⟨w1.heap.size, 0, none⟩)) ∧ w.heap.size ≤ g ∧ w1.heap[g]? = some (.cells cur 5 (0, 0)) ∧ n ≤ cap ∧ cap ≤ maxLen ∧ cur.size = cap ∧ cur.toList.take n = cells zs ∧ w.grownBy w1 none ∧
      w' = w1.alloc (.cells #[.slice (some ⟨g, 0, none⟩) n cap, .int .i64 0, .int .i64 0] 115) := by
  go_enter Try.func58, Try.ntmps58
  go_wp2_with (go_at_call 72; refine (clone_some x n c zs _ hb hn).mono ?_; rintro e w1 ⟨g, cap, cur, rfl, h1, h2, h3, h4, h5, h6, h7⟩; have H2 := hid h2; have H5 := hid h5; have H6 := hid h6; clear h2 h5 h6)
  go_ret
  exact ⟨g, cap, cur, w1, rfl, h1, H2.out, h3, h4, H5.out, H6.out, h7, rfl⟩

/-- A new reader of these bytes, all its memory new. -/
theorem newReader (a : Option Addr) (n c : Nat) (zs : List Int) (w : World) (hb : Bs w a n zs) (ha : a = none → c = 0) (hn : n ≤ 100000000) (hnc : n ≤ c) :
    Calls Try.prog 58 #[.slice a n c] w fun en w' => ∃ r g, en = .returned (.pointer (some ⟨r, 0, none⟩)) ∧ Rd w' r g zs 0 ∧ w.heap.size ≤ r ∧ w.heap.size ≤ g ∧ (a ≠ none → g < w'.heap.size) ∧ w.grownBy w' none := by
  cases a with
  | none =>
    obtain rfl : c = 0 := ha rfl
    obtain rfl : n = 0 := by omega
    obtain rfl : zs = [] := List.eq_nil_of_length_eq_zero hb.1
    refine (newReader_nil w).mono ?_
    rintro en w' ⟨rfl, rfl⟩
    refine ⟨w.heap.size, w.heap.size + 1, rfl, ⟨by omega, none, 0, 0, heap_alloc_new w _, rfl, Nat.le_refl _, by unfold maxLen; omega, by simp, .inl ⟨rfl, rfl, rfl⟩⟩, Nat.le_refl _, by omega, fun h => absurd rfl h, World.grownBy_alloc w _ _⟩
  | some x =>
    refine (newReader_some x n c zs w hb hn).mono ?_
    rintro en w' ⟨g, cap, cur, w1, rfl, hbg, hgg, hnc', hcm, hcs, ht, hg, rfl⟩
    have hs := hg.size
    have hlt : g < w1.heap.size := (Array.getElem?_eq_some_iff.1 hgg).1
    refine ⟨w1.heap.size, g, rfl, ⟨by omega, some ⟨g, 0, none⟩, n, cap, heap_alloc_new w1 _, hb.1, hnc', hcm, hb.2.1, .inr ⟨0, cur, rfl, ?_, by omega, ?_⟩⟩, hs, hbg, fun _ => by simp; omega, ?_⟩
    · rw [Below.heap_alloc w1 _ g hlt]; exact hgg
    · simpa using ht
    · exact ⟨hg.os, hg.tape, hg.output, by simp; omega, fun k hk hr => by rw [Below.heap_alloc w1 _ k (by omega)]; exact hg.block k hk hr⟩

end Go.Proofs.Ytghehfhkiknjhaa
