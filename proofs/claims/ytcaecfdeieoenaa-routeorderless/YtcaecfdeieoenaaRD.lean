import Derived.Test.YtcaecfdeieoenaaRC
namespace Go.Proofs.Ytcaecfdeieoenaa
set_option maxRecDepth 100000
open Go.RowKit
set_option linter.unusedVariables false

def p8 : Wy := ⟨4, 0, 167772160, 8, 1⟩
def q8 : Wy := ⟨4, 0, 167837696, 16, 2⟩
theorem ex8 : wE p8 [] = 0 ∧ wE q8 [p8] = 0 ∧ (fK [p8, q8] 4 0 167838211 = 2 ∧ fO [p8, q8] 4 0 167838211 = true) ∧ (fK [p8, q8] 4 0 167903747 = 1 ∧ fO [p8, q8] 4 0 167903747 = true) ∧ (fK [p8, q8] 4 0 184549377 = 0 ∧ fO [p8, q8] 4 0 184549377 = false) := by
  refine ⟨by decide, by decide, ⟨by decide, by decide⟩, ⟨by decide, by decide⟩, by decide, by decide⟩
theorem in8 : p8.In ∧ q8.In := by
  unfold Wy.In InI InU p8 q8
  simp
set_option maxHeartbeats 4000000 in
theorem first_ {Tr : World → Value → List Wy → Prop} (R : Rte Tr) (w : World) : Calls Try.prog 8 #[] w fun e w' => e = .returned (.bool true) ∧ Below w.heap.size w w' := by
  obtain ⟨x1, x2, ⟨x3, x4⟩, ⟨x5, x6⟩, x7, x8⟩ := ex8
  have B0 := Below.refl w.heap.size w
  go_enter Try.func8, Try.ntmps8
  go_wp2_with fail
  refine (R.new_ w).mono ?_
  rintro e w1 ⟨⟨t0, rfl, ht⟩, g2⟩
  obtain ⟨ta, rfl⟩ := R.ptr ht
  replace B0 := bel_bel B0 B0.size g2
  clear g2
  have m0 := Pm.new w1 4 0 167772160 8
  have b0 := pnew w1 4 0 167772160 8
  replace m0 := m0.alloc (.cells #[.int .i64 4, .int .u64 0, .int .u64 167837696, .int .i64 16] 32)
  have m1 := Pm.new (w1.alloc (.cells #[.int .i64 4, .int .u64 0, .int .u64 167772160, .int .i64 8] 32)) 4 0 167837696 16
  have b1 := bel_bel b0 b0.size (pnew (w1.alloc (.cells #[.int .i64 4, .int .u64 0, .int .u64 167772160, .int .i64 8] 32)) 4 0 167837696 16)
  rw [World.size_alloc] at m1
  have c0 := m0.c0
  have c1 := m0.c1
  have c2 := m0.c2
  have c3 := m0.c3
  have HT := hid (R.kept ht b1)
  clear ht
  go_wp2_with fail
  replace B0 := bel_bel B0 B0.size b1
  clear b0 b1
  generalize (w1.alloc (.cells #[.int .i64 4, .int .u64 0, .int .u64 167772160, .int .i64 8] 32)).alloc (.cells #[.int .i64 4, .int .u64 0, .int .u64 167837696, .int .i64 16] 32) = w2 at *
  refine (R.with_ w2 _ [] p8 HT.out in8.1 (by simp)).mono ?_
  rintro e w3 ⟨⟨h, _⟩ | ⟨_, v', rfl, ht⟩, g2⟩
  · exact absurd x1 h
  obtain ⟨tb, rfl⟩ := R.ptr ht
  replace B0 := bel_bel B0 B0.size g2
  replace m1 := m1.kept g2
  clear g2 c0 c1 c2 c3 m0 HT
  have HT := hid ht
  clear ht
  have d0 := m1.c0
  have d1 := m1.c1
  have d2 := m1.c2
  have d3 := m1.c3
  go_wp2_with fail
  refine (num_ _ _).mono ?_
  rintro e w4 ⟨rfl, rfl⟩
  go_wp2_with fail
  refine (R.with_ _ _ [p8] q8 HT.out in8.2 (by simp)).mono ?_
  rintro e w5 ⟨⟨h, _⟩ | ⟨_, v', rfl, ht⟩, g2⟩
  · exact absurd x2 h
  obtain ⟨tc, rfl⟩ := R.ptr ht
  replace B0 := bel_bel B0 B0.size g2
  clear g2 d0 d1 d2 d3 m1 HT
  have HT : Hid (Tr w5 (.pointer (some tc)) [p8, q8]) := by
    show Tr _ _ _
    have e : ins q8 [p8] = [p8, q8] := by rw [ins, if_neg (by decide)]; rfl
    rw [← e]
    exact ht
  clear ht
  go_wp2_with fail
  refine (num_ _ _).mono ?_
  rintro e w6 ⟨rfl, rfl⟩
  go_wp2_with fail
  refine (R.find_ _ _ _ 4 0 167838211 HT.out (by unfold InI; omega) (by unfold InU; omega) (by unfold InU; omega) (by simp)).mono ?_
  rintro e w7 ⟨rfl, g2⟩
  replace B0 := bel_bel B0 B0.size g2
  replace HT := hid (R.kept HT.out g2)
  clear g2
  go_wp2_with fail
  refine (R.find_ _ _ _ 4 0 167903747 HT.out (by unfold InI; omega) (by unfold InU; omega) (by unfold InU; omega) (by simp)).mono ?_
  rintro e w8 ⟨rfl, g2⟩
  replace B0 := bel_bel B0 B0.size g2
  replace HT := hid (R.kept HT.out g2)
  clear g2
  go_wp2_with fail
  refine (R.find_ _ _ _ 4 0 184549377 HT.out (by unfold InI; omega) (by unfold InU; omega) (by unfold InU; omega) (by simp)).mono ?_
  rintro e w9 ⟨rfl, g2⟩
  replace B0 := bel_bel B0 B0.size g2
  replace HT := hid (R.kept HT.out g2)
  clear g2
  go_wp2_with fail
  refine (R.len_ _ _ _ HT.out (by simp)).mono ?_
  rintro e w10 ⟨rfl, g2⟩
  replace B0 := bel_bel B0 B0.size g2
  go_wp2_with fail
  go_ret
  exact ⟨rfl, B0⟩
end Go.Proofs.Ytcaecfdeieoenaa
