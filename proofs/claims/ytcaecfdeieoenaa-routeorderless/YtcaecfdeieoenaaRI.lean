import Derived.Test.YtcaecfdeieoenaaRH
namespace Go.Proofs.Ytcaecfdeieoenaa
set_option maxRecDepth 100000
open Go.RowKit
set_option linter.unusedVariables false

theorem refNew_ (w : World) : Calls Try.prog 18 #[] w fun e w' => e = .returned (.pointer (some ⟨w.heap.size, 0, none⟩)) ∧ w' = w.alloc (.cells #[.slice none 0 0] 58) := by
  go_enter Try.func18, Try.ntmps18
  go_wp2_with fail
  go_ret
  exact ⟨rfl, rfl⟩
theorem own_one (w : World) (base : Nat) (t : TypeId) (v : Value) (hb : base ≤ w.heap.size) : (w.alloc (.cells #[v] t)).ownsRow base t 1 (.slice (some ⟨w.heap.size, 0, none⟩) 1 1) 1 [v] :=
  ⟨rfl, .inr ⟨w.heap.size, 1, _, rfl, hb, heap_alloc_new w _, Nat.le_refl _, by unfold maxLen; omega, rfl, rfl⟩⟩
set_option maxHeartbeats 2000000 in
theorem begin8_ {Tr : World → Value → List Wy → Prop} (R : Rte Tr) (w : World) : Calls Try.prog 9 #[] w fun e w' => ∃ k t r, e = .returned (.tuple #[.pointer (some ⟨k, 0, none⟩), .bool true]) ∧ Pl Tr w w' k [(t, r, [])] := by
  go_enter Try.func9, Try.ntmps9
  go_wp2_with fail
  refine (R.new_ w).mono ?_
  rintro e w1 ⟨⟨t0, rfl, ht⟩, g1⟩
  obtain ⟨ta, rfl⟩ := R.ptr ht
  have HT := hid ht
  clear ht
  go_wp2_with fail
  refine (refNew_ _).mono ?_
  rintro e w2 ⟨rfl, rfl⟩
  go_wp2_with fail
  go_ret2
  have hs1 := g1.size
  have o1 := own_one w1 w.heap.size 40 (.pointer (some ta)) hs1
  have hA : Below w1.heap.size w1 (w1.alloc (.cells #[.pointer (some ta)] 40)) := (Below.refl _ _).alloc (Nat.le_refl _) _
  have r0 : Rt ((w1.alloc (.cells #[.pointer (some ta)] 40)).alloc (.cells #[.slice none 0 0] 58)) (.pointer (some ⟨w1.heap.size + 1, 0, none⟩)) [] := by
    refine ⟨w1.heap.size + 1, .slice none 0 0, rfl, ?_, Wo.nil _ _⟩
    have := heap_alloc_new (w1.alloc (.cells #[.pointer (some ta)] 40)) (.cells #[.slice none 0 0] 58)
    rwa [World.size_alloc] at this
  have o2 := own_one ((w1.alloc (.cells #[.pointer (some ta)] 40)).alloc (.cells #[.slice none 0 0] 58)) w.heap.size 41 (.pointer (some ⟨w1.heap.size + 1, 0, none⟩)) (by simp; omega)
  simp only [World.size_alloc] at o2
  have hZ : ∀ (W : World) (o : Obj), Below W.heap.size W (W.alloc o) := fun W o => (Below.refl _ _).alloc (Nat.le_refl _) _
  have hBel : Below w1.heap.size w1 ((((w1.alloc (.cells #[.pointer (some ta)] 40)).alloc (.cells #[.slice none 0 0] 58)).alloc (.cells #[.pointer (some ⟨w1.heap.size + 1, 0, none⟩)] 41)).alloc (.cells #[.slice (some ⟨w1.heap.size, 0, none⟩) 1 1, .slice (some ⟨w1.heap.size + 1 + 1, 0, none⟩) 1 1] 38)) := ((hA.alloc (by simp) _).alloc (by simp; omega) _).alloc (by simp; omega) _
  have hk := heap_alloc_new (((w1.alloc (.cells #[.pointer (some ta)] 40)).alloc (.cells #[.slice none 0 0] 58)).alloc (.cells #[.pointer (some ⟨w1.heap.size + 1, 0, none⟩)] 41)) (.cells #[.slice (some ⟨w1.heap.size, 0, none⟩) 1 1, .slice (some ⟨w1.heap.size + 1 + 1, 0, none⟩) 1 1] 38)
  simp only [World.size_alloc] at hk
  refine ⟨_, .pointer (some ta), .pointer (some ⟨w1.heap.size + 1, 0, none⟩), rfl, ⟨⟨_, _, hk, ((o1.alloc _).alloc _).alloc _, o2.alloc _⟩, by omega, fun e he => ?_, bel_bel g1 g1.size hBel⟩⟩
  rw [List.mem_singleton] at he
  subst he
  exact ⟨R.kept HT.out hBel, (r0.kept (hZ _ _)).kept (hZ _ _)⟩
end Go.Proofs.Ytcaecfdeieoenaa
