import Derived.Test.YthjfgdldclhbhaaDP
import Derived.Laws.EntriesVeiled
import Derived.Deep.WholeRow
namespace Go.Proofs.Ythjfgdldclhbhaa
open Go.RowKit
set_option linter.unusedVariables false
set_option maxRecDepth 100000

/-- What a function over the list at go is. -/
def fnv (go : Nat) : Value := .func (.func 80) #[] #[.pointer (some ⟨go, 0, none⟩)]
/-- A device's own block. -/
def Dm (w : World) (d : Nat) (lv pv fv : Value) (c : Int) (on : Bool) (k : Int) : Prop := w.heap[d]? = some (.cells #[lv, pv, fv, .int .i64 c, .bool on, .int .i64 k] 90 (0, 0))
section
variable {w w' : World} {d : Nat} {lv pv fv : Value} {c : Int} {on : Bool} {k : Int}
theorem Dm.c0 (h : Dm w d lv pv fv c on k) : w.cell? ⟨d, 0, none⟩ = some lv := (cell_of_row _ _ 0 _ _ (0, 0) h).trans rfl
theorem Dm.c1 (h : Dm w d lv pv fv c on k) : w.cell? ⟨d, 1, none⟩ = some pv := (cell_of_row _ _ 1 _ _ (0, 0) h).trans rfl
theorem Dm.c2 (h : Dm w d lv pv fv c on k) : w.cell? ⟨d, 2, none⟩ = some fv := (cell_of_row _ _ 2 _ _ (0, 0) h).trans rfl
theorem Dm.c3 (h : Dm w d lv pv fv c on k) : w.cell? ⟨d, 3, none⟩ = some (.int .i64 c) := (cell_of_row _ _ 3 _ _ (0, 0) h).trans rfl
theorem Dm.c4 (h : Dm w d lv pv fv c on k) : w.cell? ⟨d, 4, none⟩ = some (.bool on) := (cell_of_row _ _ 4 _ _ (0, 0) h).trans rfl
theorem Dm.c5 (h : Dm w d lv pv fv c on k) : w.cell? ⟨d, 5, none⟩ = some (.int .i64 k) := (cell_of_row _ _ 5 _ _ (0, 0) h).trans rfl
theorem Dm.fz (h : Dm w d lv pv fv c on k) (i : Nat) : w.frozen? ⟨d, i, none⟩ = false := by unfold Dm at h; simp [World.frozen?, h]
theorem Dm.lt (h : Dm w d lv pv fv c on k) : d < w.heap.size := (Array.getElem?_eq_some_iff.1 h).1
theorem Dm.at (h : Dm w d lv pv fv c on k) (e : w'.heap[d]? = w.heap[d]?) : Dm w' d lv pv fv c on k := e.trans h
theorem Dm.kept (h : Dm w d lv pv fv c on k) (hb : Below w.heap.size w w') : Dm w' d lv pv fv c on k := h.at (hb.block d h.lt)
theorem Dm.s0 (h : Dm w d lv pv fv c on k) (v : Value) : Dm (w.setCell ⟨d, 0, none⟩ v) d v pv fv c on k := by unfold Dm at *; simp [World.setCell, Array.getElem?_modify, h]
theorem Dm.s1 (h : Dm w d lv pv fv c on k) (v : Value) : Dm (w.setCell ⟨d, 1, none⟩ v) d lv v fv c on k := by unfold Dm at *; simp [World.setCell, Array.getElem?_modify, h]
theorem Dm.s2 (h : Dm w d lv pv fv c on k) (v : Value) : Dm (w.setCell ⟨d, 2, none⟩ v) d lv pv v c on k := by unfold Dm at *; simp [World.setCell, Array.getElem?_modify, h]
theorem Dm.s3 (h : Dm w d lv pv fv c on k) (v : Int) : Dm (w.setCell ⟨d, 3, none⟩ (.int .i64 v)) d lv pv fv v on k := by unfold Dm at *; simp [World.setCell, Array.getElem?_modify, h]
theorem Dm.s4 (h : Dm w d lv pv fv c on k) (v : Bool) : Dm (w.setCell ⟨d, 4, none⟩ (.bool v)) d lv pv fv c v k := by unfold Dm at *; simp [World.setCell, Array.getElem?_modify, h]
theorem Dm.s5 (h : Dm w d lv pv fv c on k) (v : Int) : Dm (w.setCell ⟨d, 5, none⟩ (.int .i64 v)) d lv pv fv c on v := by unfold Dm at *; simp [World.setCell, Array.getElem?_modify, h]
theorem Dm.alloc (h : Dm w d lv pv fv c on k) (o : Obj) : Dm (w.alloc o) d lv pv fv c on k := h.at (Below.heap_alloc _ _ _ h.lt)
theorem Dm.new (w : World) : Dm (w.alloc (.cells #[lv, pv, fv, .int .i64 c, .bool on, .int .i64 k] 90)) w.heap.size lv pv fv c on k := heap_alloc_new w _
end
theorem grown_set {w w' : World} {d : Nat} (h : w.grownBy w' (some d)) (i : Nat) (v : Value) : w.grownBy (w'.setCell ⟨d, i, none⟩ v) (some d) :=
  ⟨h.os, h.tape, h.output, by simpa [World.setCell] using h.size, fun b hb hn => (Below.heap_setCell _ _ _ _ (fun e => hn (by rw [show b = d from e]))).trans (h.block b hb hn)⟩
theorem grown_refl (w : World) (r : Option Nat) : w.grownBy w r := ⟨rfl, rfl, rfl, Nat.le_refl _, fun _ _ _ => rfl⟩
theorem grown_alloc {w w' : World} {r : Option Nat} (h : w.grownBy w' r) (o : Obj) : w.grownBy (w'.alloc o) r :=
  ⟨h.os, h.tape, h.output, by rw [World.size_alloc]; have := h.size; omega, fun b hb hn => (Below.heap_alloc _ _ _ (Nat.lt_of_lt_of_le hb h.size)).trans (h.block b hb hn)⟩
theorem grown_below {w w' w'' : World} {r : Option Nat} (h : w.grownBy w' r) (hb : Below w'.heap.size w' w'') : w.grownBy w'' r :=
  ⟨hb.os.trans h.os, hb.tape.trans h.tape, hb.output.trans h.output, Nat.le_trans h.size hb.size, fun b hb' hn => (hb.block b (Nat.lt_of_lt_of_le hb' h.size)).trans (h.block b hb' hn)⟩
theorem grown_trans {w w' w'' : World} {r : Option Nat} (h : w.grownBy w' r) (h2 : w'.grownBy w'' r) : w.grownBy w'' r :=
  ⟨h2.os.trans h.os, h2.tape.trans h.tape, h2.output.trans h.output, Nat.le_trans h.size h2.size, fun b hb hn => (h2.block b (Nat.lt_of_lt_of_le hb h.size) hn).trans (h.block b hb hn)⟩
set_option maxHeartbeats 400000 in
theorem expect_ (d : Nat) (lv pv fv : Value) (c : Int) (on : Bool) (k : Int) (a : Option Addr) (n cp : Nat) (w : World) (h : Dm w d lv pv fv c on k) :
    Calls Try.prog 63 #[.pointer (some ⟨d, 0, none⟩), .slice a n cp] w fun e w' => e = .returned (.tuple #[]) ∧ Dm w' d lv pv (fnv w.heap.size) 0 on k ∧ w'.heap[w.heap.size]? = some (.cells #[.slice a n cp] 31 (0, 0)) ∧ w.grownBy w' (some d) := by
  have M1 := h.alloc (.cells #[.slice a n cp] 31)
  have M2 := hid (M1.s3 0)
  have m3 := M1.c3
  have f3 := M1.fz 3
  have m2 := M2.out.c2
  have f2 := M2.out.fz 2
  have HM := hid (M2.out.s2 (fnv w.heap.size))
  have hlt := h.lt
  have HG : Hid (w.grownBy (((w.alloc (.cells #[.slice a n cp] 31)).setCell ⟨d, 3, none⟩ (.int .i64 0)).setCell ⟨d, 2, none⟩ (fnv w.heap.size)) (some d)) := grown_set (grown_set (grown_alloc (grown_refl w _) _) _ _) _ _
  have HN : Hid ((((w.alloc (.cells #[.slice a n cp] 31)).setCell ⟨d, 3, none⟩ (.int .i64 0)).setCell ⟨d, 2, none⟩ (fnv w.heap.size)).heap[w.heap.size]? = some (.cells #[.slice a n cp] 31 (0, 0))) := by
    show _ = _
    rw [Below.heap_setCell _ _ _ _ (by show w.heap.size ≠ d; omega), Below.heap_setCell _ _ _ _ (by show w.heap.size ≠ d; omega)]
    exact heap_alloc_new w _
  have hmf : ∀ fn first cap w, (Instr.makeFunc fn first cap).run Try.prog w = .ok (.func fn first cap) w := fun _ _ _ _ => rfl
  clear M1 M2 h hlt
  go_enter Try.func63, Try.ntmps63
  go_wp2_with fail
  go_end0
  exact ⟨rfl, HM.out, HN.out, HG.out⟩
set_option maxHeartbeats 400000 in
theorem start_ (d : Nat) (lv pv fv : Value) (c : Int) (on : Bool) (k : Int) (w : World) (h : Dm w d lv pv fv c on k) :
    Calls Try.prog 48 #[.pointer (some ⟨d, 0, none⟩)] w fun e w' => e = .returned (.tuple #[]) ∧ Dm w' d lv (.slice none 0 0) (fnv w.heap.size) 0 true k ∧ w'.heap[w.heap.size]? = some (.cells #[.slice none 0 0] 31 (0, 0)) ∧ w.grownBy w' (some d) := by
  have m1 := h.c1
  have f1 := h.fz 1
  have M1 := h.s1 (.slice none 0 0)
  have m4 := M1.c4
  have f4 := M1.fz 4
  have M2 := hid (M1.s4 true)
  have HG : Hid (w.grownBy ((w.setCell ⟨d, 1, none⟩ (.slice none 0 0)).setCell ⟨d, 4, none⟩ (.bool true)) (some d)) := grown_set (grown_set (grown_refl w _) _ _) _ _
  have HS : Hid (((w.setCell ⟨d, 1, none⟩ (.slice none 0 0)).setCell ⟨d, 4, none⟩ (.bool true)).heap.size = w.heap.size) := by show _ = _; simp [World.setCell]
  clear M1 h
  go_enter Try.func48, Try.ntmps48
  go_wp2_with fail
  refine (expect_ d lv (.slice none 0 0) fv c true k none 0 0 _ M2.out).mono ?_
  rintro e w1 ⟨rfl, h1, h2, h3⟩
  rw [HS.out] at h1 h2
  clear m1 f1 m4 f4
  go_wp2_with fail
  go_end0
  exact ⟨rfl, h1, h2, grown_trans HG.out h3⟩
end Go.Proofs.Ythjfgdldclhbhaa
namespace Go.Proofs.Ythjfgdldclhbhaa
open Go.RowKit
set_option linter.unusedVariables false
set_option maxRecDepth 100000

theorem sectors_ (d gl N cp : Nat) (pv fv : Value) (c : Int) (on : Bool) (k : Int) (w : World) (h : Dm w d (.slice (some ⟨gl, 0, none⟩) (512 * N) cp) pv fv c on k) (hN : N ≤ 8192) :
    Calls Try.prog 47 #[.pointer (some ⟨d, 0, none⟩)] w fun e w' => e = .returned (.int .i64 N) ∧ w' = w := by
  have m0 := h.c0
  have hd : ((512 * N : Nat) : Int) / 512 = (N : Int) := by omega
  have hd' : (512 * (N : Int)) / 512 = (N : Int) := by omega
  have hb : (512 * N : Nat) ≤ 4194304 := by omega
  clear h
  go_enter Try.func47, Try.ntmps47
  go_wp2_with fail
  go_ret
  exact ⟨rfl, rfl⟩
theorem has_ (d gl N cp : Nat) (pv fv : Value) (c : Int) (on : Bool) (k i : Int) (w : World) (h : Dm w d (.slice (some ⟨gl, 0, none⟩) (512 * N) cp) pv fv c on k) (hN : N ≤ 8192) :
    Calls Try.prog 49 #[.pointer (some ⟨d, 0, none⟩), .int .i64 i] w fun e w' => e = .returned (.bool (decide (0 ≤ i ∧ i < N))) ∧ w' = w := by
  have kS := sectors_ d gl N cp pv fv c on k w h hN
  clear h
  by_cases h0 : 0 ≤ i
  · have HR : Hid (decide (0 ≤ i ∧ i < (N : Int)) = decide (i < (N : Int))) := by show _ = _; simp [h0]
    rw [HR.out]
    obtain ⟨r, hr⟩ : ∃ r, decide (i < (N : Int)) = r := ⟨_, rfl⟩
    rw [hr]
    go_enter Try.func49, Try.ntmps49
    go_wp2_with (go_at_call 47; refine kS.mono ?_; rintro e w' ⟨rfl, rfl⟩)
    go_ret
    exact ⟨rfl, rfl⟩
  · have HR : decide (0 ≤ i ∧ i < (N : Int)) = false := by simp [h0]
    rw [HR]
    clear HR
    go_enter Try.func49, Try.ntmps49
    go_wp2_with fail
    go_ret
    exact ⟨rfl, rfl⟩
theorem power_ (d : Nat) (lv pv fv : Value) (c : Int) (on : Bool) (k : Int) (w : World) (h : Dm w d lv pv fv c on k) :
    Calls Try.prog 31 #[.pointer (some ⟨d, 0, none⟩)] w fun e w' => e = .returned (.bool on) ∧ w' = w := by
  have m := h.c4
  clear h
  go_enter Try.func31, Try.ntmps31
  go_wp2_with fail
  go_ret
  exact ⟨rfl, rfl⟩
theorem done_ (d : Nat) (lv pv fv : Value) (c : Int) (on : Bool) (k : Int) (w : World) (h : Dm w d lv pv fv c on k) :
    Calls Try.prog 32 #[.pointer (some ⟨d, 0, none⟩)] w fun e w' => e = .returned (.int .i64 c) ∧ w' = w := by
  have m := h.c3
  clear h
  go_enter Try.func32, Try.ntmps32
  go_wp2_with fail
  go_ret
  exact ⟨rfl, rfl⟩
theorem claimed_ (d : Nat) (lv pv fv : Value) (c : Int) (on : Bool) (k : Int) (w : World) (h : Dm w d lv pv fv c on k) :
    Calls Try.prog 46 #[.pointer (some ⟨d, 0, none⟩)] w fun e w' => e = .returned (.int .i64 k) ∧ w' = w := by
  have m := h.c5
  clear h
  go_enter Try.func46, Try.ntmps46
  go_wp2_with fail
  go_ret
  exact ⟨rfl, rfl⟩
theorem claim_ (d : Nat) (lv pv fv : Value) (c : Int) (on : Bool) (k : Nat) (w : World) (h : Dm w d lv pv fv c on k) (hk : k ≤ 1000000) :
    Calls Try.prog 44 #[.pointer (some ⟨d, 0, none⟩)] w fun e w' => e = .returned (.int .i64 ((k + 1 : Nat) : Int)) ∧ Dm w' d lv pv fv c on ((k + 1 : Nat) : Int) ∧ w.grownBy w' (some d) := by
  have m := h.c5
  have f := h.fz 5
  have M := h.s5 ((k : Int) + 1)
  have m' := M.c5
  have HM := hid M
  have HG := hid (grown_set (grown_refl w (some d)) 5 (.int .i64 ((k : Int) + 1)))
  clear h M
  go_enter Try.func44, Try.ntmps44
  go_wp2_with fail
  go_ret
  exact ⟨by simp, by simpa using HM.out, HG.out⟩
/-- A sector of the lasting bytes. -/
theorem sector_ (d gl N i : Nat) (pv fv : Value) (c : Int) (on : Bool) (k : Int) (w : World) (h : Dm w d (.slice (some ⟨gl, 0, none⟩) (512 * N) (512 * N)) pv fv c on k) (hN : N ≤ 8192) (hi : i < N) :
    Calls Try.prog 76 #[.pointer (some ⟨d, 0, none⟩), .int .i64 i] w fun e w' => e = .returned (.slice (some ⟨gl, i * 512, none⟩) 512 (512 * N - i * 512)) ∧ w' = w := by
  have m0 := h.c0
  have hb : (512 * N : Nat) ≤ 4194304 := by omega
  have h1 : (i : Int) * 512 ≤ 4194304 := by omega
  have h2 : ((i : Int) + 1) * 512 ≤ ((512 * N : Nat) : Int) := by omega
  have h3 : (i : Int) * 512 ≤ ((i : Int) + 1) * 512 := by omega
  clear h
  go_enter Try.func76, Try.ntmps76
  go_wp2_with fail
  go_ret
  exact ⟨by rw [show (i + 1) * 512 - i * 512 = 512 from by omega]; rfl, rfl⟩
end Go.Proofs.Ythjfgdldclhbhaa
