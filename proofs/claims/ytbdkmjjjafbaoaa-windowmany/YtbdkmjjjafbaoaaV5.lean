import Derived.Test.YtbdkmjjjafbaoaaV4
namespace Go.Proofs.Ytbdkmjjjafbaoaa
open Go.RowKit
set_option linter.unusedVariables false
set_option maxRecDepth 100000

def fitP (width : Int) : Prop := 64 ≤ width ∧ width ≤ 1024 ∧ width % 64 = 0
theorem made_u64 (n : Nat) : madeCells (Value.int .u64 0).cells (n * 1) = (cu (List.replicate n 0)).toArray := by
  apply Array.ext'
  simp only [Nat.mul_one, madeCells]
  apply List.ext_getElem
  · simp [cu, Value.cells]
  · intro i h1 h2
    simp [cu, Value.cells, Nat.mod_one]
theorem make_u64 (n : Nat) (hn : n ≤ 1000) (wx : World) : (Instr.makeSlice 42 (.int .i64 (n : Int)) (.int .i64 (n : Int))).run Try.prog wx = .ok (.slice (some ⟨wx.heap.size, 0, none⟩) n n) (wx.alloc (.cells (cu (List.replicate n 0)).toArray 22)) := by
  obtain ⟨i, hi, hz0, hz1, hz2⟩ := info_parts info22
  have h := run_make (P := Try.prog) wx 42 22 i (.int .u64 0) Try.underlying42 hi hz0 .i64 .i64 n n (by omega) (by omega) (by rw [hz2]; omega) (by omega)
  rw [h, hz1, Int.toNat_natCast, made_u64]
theorem tm64 (x : Int) (h : 0 ≤ x) : x.tmod 64 = x % 64 := Int.tmod_eq_emod_of_nonneg h
set_option maxHeartbeats 1000000 in
theorem new_no (F width : Int) (w : World) (hw : i64r width) (h : ¬ fitP width) :
    Calls Try.prog 12 #[.int .u64 F, .int .i64 width] w fun e w' => e = .returned (.pointer none) ∧ w' = w := by
  unfold fitP at h
  unfold i64r at hw
  by_cases h1 : width < 64
  · clear h
    go_enter Try.func12, Try.ntmps12
    go_wp2_with fail
    go_ret
    exact ⟨rfl, rfl⟩
  by_cases h2 : 1024 < width
  · clear h
    go_enter Try.func12, Try.ntmps12
    go_wp2_with fail
    go_ret
    exact ⟨rfl, rfl⟩
  have h3 : ¬ width.tmod 64 = 0 := by rw [tm64 _ (by omega)]; omega
  have h3b : (width % 64 != 0) = true := by rw [← tm64 _ (by omega)]; simpa using h3
  clear h
  go_enter Try.func12, Try.ntmps12
  go_wp2_with fail
  go_ret
  exact ⟨rfl, rfl⟩
def NewP (w : World) (F : Int) (m : Nat) (e : Ending) (w' : World) : Prop := ∃ p g, e = .returned (.pointer (some ⟨p, 0, none⟩)) ∧ Wn w' p g F m [] ∧ w.heap.size ≤ p ∧ w.heap.size ≤ g ∧ Below w.heap.size w w'
set_option maxHeartbeats 1000000 in
theorem new_yes (F : Int) (m : Nat) (w : World) (hF : u64r F) (h1 : 1 ≤ m) (h2 : m ≤ 16) :
    Calls Try.prog 12 #[.int .u64 F, .int .i64 (64 * (m : Int))] w (NewP w F m) := by
  obtain ⟨width, hwd⟩ : ∃ x, 64 * (m : Int) = x := ⟨_, rfl⟩
  have a1 : ¬ width < 64 := by omega
  have a2 : ¬ 1024 < width := by omega
  have a3 : (width.tmod 64 != 0) = false := by
    rw [tm64 _ (by omega)]; simp; omega
  have a3b : width.tmod 64 = 0 := by simpa using a3
  have a4 : IntKind.u64.wrap width = width := by rw [IntKind.wrap_u64]; omega
  have a5 : IntKind.i64.wrap (width.tdiv 64) = m := by rw [Int.tdiv_eq_ediv_of_nonneg (by omega), IntKind.wrap_i64]; omega
  obtain ⟨n, hn⟩ : ∃ n, m + 1 = n := ⟨_, rfl⟩
  have a6 : IntKind.i64.wrap ((m : Int) + 1) = n := by rw [IntKind.wrap_i64]; omega
  have a7 := make_u64 n (by omega) w
  have HFIN : Hid (Wn ((w.alloc (.cells (cu (List.replicate n 0)).toArray 22)).alloc (.cells #[.int .u64 F, .int .u64 width, .int .u64 0, .bool false, .slice (some ⟨w.heap.size, 0, none⟩) n n] 51)) (w.heap.size + 1) w.heap.size F m []) := by
    refine ⟨?_, ⟨List.replicate (m + 1) 0, ?_, Ri.new m⟩, by omega, h1, h2, hF⟩
    · rw [hn, hwd]
      have := heap_alloc_new (w.alloc (.cells (cu (List.replicate n 0)).toArray 22)) (.cells #[.int .u64 F, .int .u64 width, .int .u64 0, .bool false, .slice (some ⟨w.heap.size, 0, none⟩) n n] 51)
      rw [World.size_alloc] at this
      exact this
    · rw [hn]
      exact (Below.heap_alloc _ _ _ (by simp)).trans (heap_alloc_new w _)
  have HB : Hid (Below w.heap.size w ((w.alloc (.cells (cu (List.replicate n 0)).toArray 22)).alloc (.cells #[.int .u64 F, .int .u64 width, .int .u64 0, .bool false, .slice (some ⟨w.heap.size, 0, none⟩) n n] 51))) := (((Fx.refl (fun _ => False) w).alloc _).alloc _).bel fun _ _ e => e
  rw [hwd]
  clear hwd hn h1 h2
  go_enter Try.func12, Try.ntmps12
  go_wp2_with fail
  go_ret
  exact ⟨w.heap.size + 1, w.heap.size, rfl, HFIN.out, by omega, by omega, HB.out⟩
end Go.Proofs.Ytbdkmjjjafbaoaa
