import Derived.Test.YtfmdnfbcfhojpaaDoorL1
import Derived.Deep.RegionHeld
namespace Go.Proofs.YtfmdnfbcfhojpaaDoor
set_option maxRecDepth 100000
open Go.RowKit
set_option linter.unusedVariables false

def rm (l : List Int) : List Int := l ++ [161, 162, 163]
theorem rm_by {l : List Int} (h : By l) : By (rm l) := By.app h (by intro z hz; simp at hz; omega)
theorem rm_length (l : List Int) : (rm l).length = l.length + 3 := by simp [rm]
theorem cell_three_new (w : World) (a b c : Value) (t : TypeId) : ∀ j u, [a, b, c][j]? = some u → (w.alloc (.cells #[a, b, c] t)).cell? ((⟨w.heap.size, 0, none⟩ : Addr).add j) = some u := by
  intro j u hj
  match j, hj with
  | 0, hj => simp at hj; subst hj; simp [Addr.add]
  | 1, hj => simp at hj; subst hj; simp [Addr.add]
  | 2, hj => simp at hj; subst hj; simp [Addr.add]
set_option maxHeartbeats 1000000 in
theorem room_ (a : Option Addr) (n c : Nat) (zs : List Int) (w : World) (hb : Bs w a n zs) (hn : n ≤ 1000000) :
    Calls Tryd.prog 10 #[.slice a n c] w fun en w' => ∃ g cap, en = .returned (.slice (some ⟨g, 0, none⟩) (n + 3) cap) ∧ n + 3 ≤ cap ∧ cap ≤ maxLen ∧ w.heap.size ≤ g ∧ Head w' g cap (rm zs) ∧ Below w.heap.size w w' := by
  obtain ⟨i, hi, hz0, hz1, hz2⟩ := info_parts info5
  go_enter Tryd.func10, Tryd.ntmps10
  go_wp2_with fail
  refine (refBytes a n c zs w hb (by omega)).mono ?_
  rintro e1 w1 ⟨v1, rfl, o1, g1⟩
  have hz := g1.size
  go_wp2_with (at_builtin; refine wpList_append_own _ rfl _ _ 22 rfl w.heap.size 5 i (.int .u8 0) 1 1 Tryd.underlying22 hi hz0 hz1 hz2 rfl (by decide) v1 n (cells zs) rfl (o1.alloc _) ⟨w1.heap.size, 0, none⟩ 3 3 [.int .u8 161, .int .u8 162, .int .u8 163] rfl rfl (cell_three_new w1 _ _ _ _) (by intro u hu; simp at hu; rcases hu with rfl | rfl | rfl <;> rfl) (by unfold maxLen; omega) (by omega) (by simp; omega) ?_; intro v2 w2 o2 g2 _; have B2 : Below w.heap.size w w2 := own_step rfl g1 o1 g2; have O2 : Hid (w2.ownsRow w.heap.size 5 1 v2 (n + 3) (cells (rm zs))) := (by show World.ownsRow _ _ _ _ _ _ _; unfold rm; rw [cells_append]; exact o2); clear o2 g2 o1 g1)
  obtain ⟨g, cap, rfl, h1, h2, h3, h4, _⟩ := own_head O2.out (by omega)
  go_ret
  exact ⟨g, cap, rfl, h1, h2, h3, h4, B2⟩

/-- The plain sector. -/
def pl : Sec := ⟨⟨#[67, 86, 79, 49]⟩, 1, 2, 3, [97, 98, 99]⟩
theorem pl_may : May pl := by decide
theorem pl_by : By pl.l := by intro z hz; simp [pl] at hz; omega
set_option maxRecDepth 100000 in
theorem pl_at : (ps pl).getD 11 0 = 1 ∧ (ps pl).getD 23 0 = 3 ∧ (ps pl).getD 25 0 = 3 ∧ (ps pl).getD 30 0 = 99 ∧ (ps pl).getD 508 0 = 208 ∧ (ps pl).getD 509 0 = 204 ∧ (ps pl).getD 510 0 = 102 ∧ (ps pl).getD 511 0 = 190 ∧ sl (ps pl) 0 4 = [67, 86, 79, 49] := by decide +kernel
theorem pl_gs : gs (ps pl) = some pl := gs_ps pl_may pl_by
set_option maxHeartbeats 1000000 in
theorem plain_ (w : World) : Calls Tryd.prog 23 #[] w fun en w' => ∃ g, en = .returned (.agg #[.string ⟨#[67, 86, 79, 49]⟩, .int .i64 1, .int .i64 2, .int .i64 3, .slice (some ⟨g, 0, none⟩) 3 3]) ∧ Bs w' (some ⟨g, 0, none⟩) 3 [97, 98, 99] ∧ w.heap.size ≤ g ∧ Below w.heap.size w w' := by
  have kc := Lib.run_convert_bytes_const (P := Tryd.prog) (w.alloc (.cells #[.string ⟨#[]⟩, .int .i64 0, .int .i64 0, .int .i64 0, .slice none 0 0] 24)) 22 5 #[.int .u8 97, .int .u8 98, .int .u8 99] 3 3 Tryd.underlying22 Tryd.underlying5
  have hs : (w.alloc (.cells #[.string ⟨#[]⟩, .int .i64 0, .int .i64 0, .int .i64 0, .slice none 0 0] 24)).heap.size = w.heap.size + 1 := by simp
  rw [hs] at kc
  have m0 := (Sm.new w ⟨#[]⟩ 0 0 0 (.slice none 0 0)).alloc (.cells #[.int .u8 97, .int .u8 98, .int .u8 99] 5 (3, 4))
  have B0 := (snew w ⟨#[]⟩ 0 0 0 (.slice none 0 0)).alloc (snew w ⟨#[]⟩ 0 0 0 (.slice none 0 0)).size (.cells #[.int .u8 97, .int .u8 98, .int .u8 99] 5 (3, 4))
  have hn : ((w.alloc (.cells #[.string ⟨#[]⟩, .int .i64 0, .int .i64 0, .int .i64 0, .slice none 0 0] 24)).alloc (.cells #[.int .u8 97, .int .u8 98, .int .u8 99] 5 (3, 4))).heap[w.heap.size + 1]? = some (.cells #[.int .u8 97, .int .u8 98, .int .u8 99] 5 (3, 4)) := by rw [← hs]; exact heap_alloc_new _ _
  simp only [List.size_toArray, List.length_cons, List.length_nil] at kc
  have HN := hid hn
  have M0 := hid m0
  have BB := hid B0
  clear m0 B0 hn hs
  go_enter Tryd.func23, Tryd.ntmps23
  go_wp2_with (with_reducible show wpList _ _ _ (_ :: _) _ _; refine wpList_ss rfl rfl _ _ rfl w.heap.size ⟨#[67, 86, 79, 49]⟩ 1 2 3 (some ⟨w.heap.size + 1, 0, none⟩) 3 3 rfl rfl _ _ _ _ _ (by with_reducible exact M0.out) ?_)
  refine bodyPost_ret (results_s rfl _ _ w.heap.size _ _ _ _ _ rfl (M0.out.row ⟨#[67, 86, 79, 49]⟩ 1 2 3 (.slice (some ⟨w.heap.size + 1, 0, none⟩) 3 3))) rfl ⟨w.heap.size + 1, rfl, ⟨rfl, ?_, .inr ⟨w.heap.size + 1, 0, rfl, fun i hi => ?_⟩⟩, by omega, bel_row BB.out (Nat.le_refl _) _⟩
  · intro z hz; simp at hz; omega
  · rw [Nat.zero_add, cell_of_row _ _ i #[.int .u8 97, .int .u8 98, .int .u8 99] 5 (3, 4) (by rw [setRow_other _ _ _ _ (by omega)]; exact HN.out)]
    have c : i = 0 ∨ i = 1 ∨ i = 2 := by omega
    rcases c with rfl | rfl | rfl <;> rfl
end Go.Proofs.YtfmdnfbcfhojpaaDoor
