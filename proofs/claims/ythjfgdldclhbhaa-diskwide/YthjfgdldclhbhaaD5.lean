import Derived.Test.YthjfgdldclhbhaaD4
import Derived.Laws.CopyOwn
import Derived.Deep.RegionLaw
namespace Go.Proofs.Ythjfgdldclhbhaa
open Go.RowKit Go.Shelf
set_option linter.unusedVariables false
set_option maxRecDepth 100000

/-- What lasts. -/
def Ls (w : World) (gl n : Nat) (S : Nat → List Int) : Prop := w.heap[gl]? = some (.cells (cells (flat S n)).toArray 5 (0, 0)) ∧ ∀ i, i < n → Sec (S i)
theorem Ls.lt {w : World} {gl n : Nat} {S : Nat → List Int} (h : Ls w gl n S) : gl < w.heap.size := (Array.getElem?_eq_some_iff.1 h.1).1
theorem Ls.at {w w' : World} {gl n : Nat} {S : Nat → List Int} (h : Ls w gl n S) (e : w'.heap[gl]? = w.heap[gl]?) : Ls w' gl n S := ⟨e.trans h.1, h.2⟩
theorem Ls.len {w : World} {gl n : Nat} {S : Nat → List Int} (h : Ls w gl n S) : (flat S n).length = 512 * n := flat_length n (fun i hi => (h.2 i hi).1)
theorem Ls.all {w : World} {gl n : Nat} {S : Nat → List Int} (h : Ls w gl n S) : Bs w (some ⟨gl, 0, none⟩) (512 * n) (flat S n) := Bs.ofCells h.1 h.len (flat_byte n h.2)
theorem Ls.sec {w : World} {gl n : Nat} {S : Nat → List Int} (h : Ls w gl n S) {i : Nat} (hi : i < n) : Bs w (some ⟨gl, i * 512, none⟩) 512 (S i) := by
  refine ⟨(h.2 i hi).1, (h.2 i hi).2, .inr ⟨gl, i * 512, rfl, fun j hj => ?_⟩⟩
  rw [cell_of_row w gl _ _ 5 (0, 0) h.1]
  have hl := h.len
  have := cells_get (flat S n) (i * 512 + j) (by omega)
  rw [show i * 512 + j = 512 * i + j from by omega, flat_get n (fun i hi => (h.2 i hi).1) i hi j hj] at this
  rw [show i * 512 + j = 512 * i + j from by omega]
  simpa using this
theorem splice_flat {S : Nat → List Int} {z : List Int} (hz : z.length = 512) : ∀ n, (∀ i, i < n → (S i).length = 512) → ∀ i, i < n → splice (flat S n) (i * 512) z = flat (lay1 S (i, z)) n
  | 0, _ => by omega
  | n + 1, h => by
    intro i hi
    have hl := flat_length n (fun i hi => h i (by omega))
    have hn := h n (by omega)
    by_cases e : i = n
    · subst e
      rw [flat, flat, flat_congr i (S := lay1 S (i, z)) (R := S) (fun j hj => by unfold lay1; rw [if_neg (by show j ≠ i; omega)])]
      unfold splice
      rw [List.take_left' (by omega), List.drop_of_length_le (by rw [List.length_append]; omega), List.append_nil]
      congr 1
      unfold lay1
      rw [if_pos rfl]
    · have ih := splice_flat hz n (fun i hi => h i (by omega)) i (by omega)
      rw [flat, flat, ← ih]
      unfold splice
      rw [List.take_append_of_le_length (by omega), List.drop_append_of_le_length (by omega)]
      have : lay1 S (i, z) n = S n := by unfold lay1; rw [if_neg (by show n ≠ i; omega)]
      rw [this, List.append_assoc, List.append_assoc]
theorem cells_splice (xs zs : List Int) (off : Nat) : splice (cells xs) off (cells zs) = cells (splice xs off zs) := by
  unfold splice cells
  simp [List.map_take, List.map_drop]
theorem Sec.lay {S : Nat → List Int} {n i : Nat} {z : List Int} (h : ∀ i, i < n → Sec (S i)) (hz : Sec z) : ∀ j, j < n → Sec (lay1 S (i, z) j) := fun j hj => by
  unfold lay1
  split
  · exact hz
  · exact h j hj
theorem size1 : (Try.prog.info? 5).map (·.size) = some 1 := by kernel_rfl
theorem step_cp10 {ops : Array Oper} {o : Oper} {a : Act} {w : World} {K : Act → World → Prop} {Q : Exit → Act → World → Prop} {E : Prop} (hgd : o.guard = none) (d s : Operand)
    (ho : o.op = .call { callee := .builtin .copy, args := #[d, s], argTypes := #[25, 25] }) (gl n i dc g sc : Nat) (S : Nat → List Int) (z : List Int)
    (hd : a.eval d = .slice (some ⟨gl, i * 512, none⟩) 512 dc) (hs : a.eval s = .slice (some ⟨g, 0, none⟩) 512 sc) (hL : Ls w gl n S) (hi : i < n) (hz : Bs w (some ⟨g, 0, none⟩) 512 z)
    (h : ∀ w', Hid (Ls w' gl n (lay1 S (i, z))) → Hid (w.grownBy w' (some gl)) → K (a.put o.dst (goInt 512)) w') :
    if Region.wanted o (yielded ops a.tmps) = true then Oper.wp Try.prog o a w K Q else E := by
  have hw : Region.wanted o (yielded ops a.tmps) = true := by simp [Region.wanted, hgd]
  rw [if_pos hw]
  have hzl : (cells z).length = 512 := by rw [cells_length, hz.1]
  have hl := hL.len
  have hrun := run_copy_row (P := Try.prog) w 25 25 o.type 5 gl (i * 512) 512 dc ⟨g, 0, none⟩ 512 sc (cells (flat S n)).toArray 5 (cells z) Try.underlying25 size1 hL.1 (by rw [hzl]; rfl) (hz.src1 (grown_of_below (Below.refl _ _))) (by rw [hzl]; simp [cells_length, hl]; omega) (cells_one z)
  unfold Oper.wp
  rw [hzl] at hrun
  simp only [execOp, ho, resolve, invoke, builtin, hd, hs, Sem.run_bind, Sem.run_pure, Result.andThen_ok, List.map_toArray, List.map_cons, List.map_nil, hrun]
  refine h _ ?_ ?_
  · refine ⟨?_, Sec.lay hL.2 ⟨hz.1, hz.2.1⟩⟩
    rw [setRow_heap w gl _ _ 5 _ hL.1]
    have e : (cells (flat S n)).take (i * 512) ++ cells z ++ (cells (flat S n)).drop (i * 512 + 512) = cells (flat (lay1 S (i, z)) n) := by
      rw [← splice_flat hz.1 n (fun i hi => (hL.2 i hi).1) i hi, ← cells_splice]
      unfold splice
      rw [hzl, List.append_assoc]
    rw [e]
  · exact ⟨rfl, rfl, rfl, by simp [World.setRow], fun b hb hn => setRow_other w gl b _ (fun e => hn (by rw [e]))⟩
theorem Bs.at {w w' : World} {g n : Nat} {zs : List Int} (h : Bs w (some ⟨g, 0, none⟩) n zs) (e : w'.heap[g]? = w.heap[g]?) : Bs w' (some ⟨g, 0, none⟩) n zs := by
  refine ⟨h.1, h.2.1, ?_⟩
  rcases h.2.2 with h0 | ⟨b, off, e', hc⟩
  · exact .inl h0
  · simp at e'
    obtain ⟨rfl, rfl⟩ := e'
    exact .inr ⟨g, 0, rfl, fun i hi => (World.cell?_of_block (w := w) (a := ⟨g, 0 + i, none⟩) e).trans (hc i hi)⟩
set_option maxHeartbeats 1000000 in
theorem lay_ (d gl n i g sc : Nat) (S : Nat → List Int) (z : List Int) (pv fv : Value) (c : Int) (on : Bool) (k : Int) (w : World) (h : Dm w d (.slice (some ⟨gl, 0, none⟩) (512 * n) (512 * n)) pv fv c on k) (hn : n ≤ 8192) (hi : i < n) (hL : Ls w gl n S) (hz : Bs w (some ⟨g, 0, none⟩) 512 z) :
    Calls Try.prog 53 #[.pointer (some ⟨d, 0, none⟩), .agg #[.int .i64 i, .slice (some ⟨g, 0, none⟩) 512 sc]] w fun e w' => e = .returned (.tuple #[]) ∧ Ls w' gl n (lay1 S (i, z)) ∧ w.grownBy w' (some gl) := by
  have B1 := (Below.refl w.heap.size w).alloc (Nat.le_refl _) (.cells #[.int .i64 i, .slice (some ⟨g, 0, none⟩) 512 sc] 94)
  have kS := fun wx hw => sector_ d gl n i pv fv c on k wx (h.at hw) hn hi
  have HL := hid (hL.at (B1.block gl hL.lt))
  have HZ := hid (hz.below B1)
  have hlt := h.lt
  have HD : Hid ((w.alloc (.cells #[.int .i64 i, .slice (some ⟨g, 0, none⟩) 512 sc] 94)).heap[d]? = w.heap[d]?) := B1.block d hlt
  have HB := hid B1
  clear B1 h hL hz hlt
  go_enter Try.func53, Try.ntmps53
  go_wp2_with fail
  go_region_law (first
    | (go_simp; go_at_call 76; refine (kS _ (by exact HD.out)).mono ?_; rintro e w' ⟨rfl, hw⟩; obtain rfl := hw.symm; clear hw)
    | (refine step_cp10 rfl (.tmp 7) (.tmp 9) rfl gl n i (512 * n - i * 512) g sc S z rfl rfl (by exact HL.out) hi (by exact HZ.out) ?_; intro w3 L3 G3))
  all_goals
    have G4 : w.grownBy w3 (some gl) := ⟨G3.out.os.trans HB.out.os, G3.out.tape.trans HB.out.tape, G3.out.output.trans HB.out.output, Nat.le_trans HB.out.size G3.out.size, fun b hb hn => (G3.out.block b (Nat.lt_of_lt_of_le hb HB.out.size) hn).trans (HB.out.block b hb)⟩
    have L4 := L3.out
    clear G3 HB HD HZ HL L3 kS
    go_wp2_with fail
    go_end0
    exact ⟨rfl, L4, G4⟩
end Go.Proofs.Ythjfgdldclhbhaa
