import Derived.Test.YtfgnllfgccbolaaDoorMap
namespace Go.Proofs.YtfgnllfgccbolaaDoor
open Go.RowKit
set_option linter.unusedVariables false

/-- The first i places of the map of k steps, zeros behind. -/
def pv (k i : Nat) : Array Value := ((List.range 32).map fun j => Value.int .u32 (if j < i then stps k (2 ^ j) else 0 : Nat)).toArray
theorem pv_size (k i : Nat) : (pv k i).size = 32 := by simp [pv]
theorem pv_get (k i j : Nat) (h : j < 32) : (pv k i)[j]? = some (.int .u32 (if j < i then stps k (2 ^ j) else 0 : Nat)) := by simp [pv, h]
theorem pv_all (k : Nat) : pv k 32 = mv k := by
  unfold pv mv
  rw [List.map_congr_left]
  intro j hj
  rw [if_pos (by simpa using hj)]
theorem pv_set (k i : Nat) : (pv k i).setIfInBounds i (.int .u32 (stps k (2 ^ i) : Nat)) = pv k (i + 1) := by
  apply Array.ext_getElem?
  intro j
  rw [Array.getElem?_setIfInBounds, pv_size]
  by_cases hj : j < 32
  · rw [pv_get k _ j hj, pv_get k _ j hj]
    by_cases h : i = j
    · subst h; simp [hj]
    · rw [if_neg h]
      congr 4
      exact propext ⟨fun h1 => by omega, fun h1 => by omega⟩
  · have e1 : (pv k i)[j]? = none := Array.getElem?_eq_none (by rw [pv_size]; omega)
    have e2 : (pv k (i + 1))[j]? = none := Array.getElem?_eq_none (by rw [pv_size]; omega)
    rw [e1, e2]
    split
    · rw [if_neg (by omega)]
    · rfl
/-- An array of 32 registers in a block of its own. -/
def Ar (w : World) (g : Nat) (cs : Array Value) : Prop := w.heap[g]? = some (.cells cs 39 (0, 0))
theorem Ar.lt {w : World} {g : Nat} {cs : Array Value} (h : Ar w g cs) : g < w.heap.size := (Array.getElem?_eq_some_iff.1 h).1
theorem Ar.fz {w : World} {g : Nat} {cs : Array Value} (h : Ar w g cs) (i : Nat) : w.frozen? ⟨g, i, none⟩ = false := by unfold Ar at h; simp [World.frozen?, h]
theorem Ar.cell {w : World} {g : Nat} {cs : Array Value} (h : Ar w g cs) (i : Nat) : w.cell? ⟨g, i, none⟩ = cs[i]? := cell_of_row w g i cs 39 (0, 0) h
theorem Ar.set {w : World} {g : Nat} {cs : Array Value} (h : Ar w g cs) (i : Nat) (v : Value) : Ar (w.setCell ⟨g, i, none⟩ v) g (cs.setIfInBounds i v) := by
  unfold Ar at *; simp [World.setCell, Array.getElem?_modify, h]
theorem Ar.other {w : World} {g g' : Nat} {cs : Array Value} (h : Ar w g cs) (hn : g ≠ g') (i : Nat) (v : Value) : Ar (w.setCell ⟨g', i, none⟩ v) g cs := by
  unfold Ar at *; rw [Below.heap_setCell _ _ _ _ hn]; exact h
theorem Ar.kept {w w' : World} {g : Nat} {cs : Array Value} (h : Ar w g cs) (hb : Below w.heap.size w w') : Ar w' g cs := by
  have := h.lt
  unfold Ar at *; rw [hb.block g this]; exact h
theorem Ar.keep {w w' : World} {g B : Nat} {cs : Array Value} (h : Ar w g cs) (hb : Below B w w') (hB : g < B) : Ar w' g cs := by
  unfold Ar at *; rw [hb.block g hB]; exact h
theorem Ar.row {w : World} {g : Nat} {cs : Array Value} (h : Ar w g cs) (ds : Array Value) : Ar (w.setRow g ds) g ds := setRow_heap w g cs ds _ _ h
theorem bel_row {B g : Nat} {w w' : World} (h : Below B w w') (hg : B ≤ g) (ds : Array Value) : Below B w (w'.setRow g ds) :=
  h.trans ⟨rfl, rfl, rfl, by simp, fun k hk => setRow_other w' g k ds (by omega)⟩
theorem mv_info (k : Nat) : (Tryd.prog.info? 39).map (·.size) = some (mv k).size := by rw [mv_size]; exact size39
theorem mv_one (k : Nat) : (mv k).all (·.oneCell') = true := by simp [mv, Value.oneCell']
theorem shl32 (j : Nat) (h : j < 32) : ((2 ^ j : Nat) : Int) = 2 ^ j := by rw [Int.natCast_pow]; rfl

set_option maxHeartbeats 400000 in
theorem eight_ (w : World) (hT : Tab w) :
    Calls Tryd.prog 22 #[] w fun e w' => e = .returned (.agg (mv 8)) ∧ Below w.heap.size w w' := by
  go_enter Tryd.func22, Tryd.ntmps22
  go_wp2_with fail
  rw [show #[Value.int IntKind.u32 0, Value.int IntKind.u32 0, Value.int IntKind.u32 0, Value.int IntKind.u32 0, Value.int IntKind.u32 0, Value.int IntKind.u32 0, Value.int IntKind.u32 0, Value.int IntKind.u32 0, Value.int IntKind.u32 0, Value.int IntKind.u32 0, Value.int IntKind.u32 0, Value.int IntKind.u32 0, Value.int IntKind.u32 0, Value.int IntKind.u32 0, Value.int IntKind.u32 0, Value.int IntKind.u32 0, Value.int IntKind.u32 0, Value.int IntKind.u32 0, Value.int IntKind.u32 0, Value.int IntKind.u32 0, Value.int IntKind.u32 0, Value.int IntKind.u32 0, Value.int IntKind.u32 0, Value.int IntKind.u32 0, Value.int IntKind.u32 0, Value.int IntKind.u32 0, Value.int IntKind.u32 0, Value.int IntKind.u32 0, Value.int IntKind.u32 0, Value.int IntKind.u32 0, Value.int IntKind.u32 0, Value.int IntKind.u32 0] = pv 8 0 from rfl]
  have A0 : Ar ((w.alloc (.cells (pv 8 0) 39)).alloc (.cells (pv 8 0) 39)) (w.heap.size + 1) (pv 8 0) := by
    have := heap_alloc_new (w.alloc (.cells (pv 8 0) 39)) (.cells (pv 8 0) 39)
    simpa [Ar] using this
  have A1 : Ar ((w.alloc (.cells (pv 8 0) 39)).alloc (.cells (pv 8 0) 39)) w.heap.size (pv 8 0) := by
    have h1 := heap_alloc_new w (.cells (pv 8 0) 39)
    unfold Ar
    rw [Below.heap_alloc _ _ _ (by simp)]; exact h1
  have B0 : Below w.heap.size w ((w.alloc (.cells (pv 8 0) 39)).alloc (.cells (pv 8 0) 39)) := ((Below.refl _ _).alloc (Nat.le_refl _) _).alloc (by simp) _
  generalize (w.alloc (.cells (pv 8 0) 39)).alloc (.cells (pv 8 0) 39) = w1 at *
  go_loopw [3] (fun i wr => ∃ j : Nat, j ≤ 32 ∧ i = .int .i64 j ∧ Ar wr (w.heap.size + 1) (pv 8 j) ∧ Ar wr w.heap.size (pv 8 0) ∧ Below w.heap.size w wr) (fun i _ => 32 - (intOf i).toNat)
  case atStart => exact ⟨0, by omega, rfl, A0, A1, B0⟩
  case round =>
    obtain ⟨j, hj, rfl, a0, a1, b0⟩ := hrel
    by_cases hlt : j < 32
    · have hc := (a0.cell j).trans (pv_get 8 j j hlt)
      have hf := a0.fz j
      have t1 := hT.below b0 hT.1
      have HA := hid (a0.set j (.int .u32 (stps 8 (2 ^ j) : Nat)))
      have HA1 := hid (a1.other (g' := w.heap.size + 1) (by omega) j (.int .u32 (stps 8 (2 ^ j) : Nat)))
      have HK : Hid (tk (2 ^ j) 0 = stps 8 (2 ^ j)) := by show _ = _; simp [tk]
      have hp := pow_lt32 hlt
      rw [pv_set] at HA
      clear A0 A1 B0 hT a0 a1
      generalize (if j < j then stps 8 (2 ^ j) else 0 : Nat) = old at *
      have hm : (2 : Int) ^ j % 4294967296 = ((2 ^ j : Nat) : Int) := by rw [shl32 j hlt] at *; exact Int.emod_eq_of_lt (Int.pow_nonneg (by omega)) (by rw [← shl32 j hlt]; omega)
      generalize 2 ^ j = q at *
      go_wp2_with (go_at_call 20; refine (takeIn_ q 0 _ t1 hp (by omega) (by omega)).mono ?_; rintro e w2 ⟨rfl, hw⟩; obtain rfl := hw.symm; rw [HK.out])
      go_roundw
      case rel => exact ⟨j + 1, by omega, by go_num, HA.out, HA1.out, b0.setCell (Nat.le_succ _) _⟩
      case measure => simp [intOf]; omega
    · obtain rfl : j = 32 := by omega
      rw [pv_all] at a0
      clear A0 A1 B0
      have hi := hid (mv_info 8)
      have hold : Hid ((pv 8 0).size = (mv 8).size) := by show _ = _; rw [pv_size, mv_size]
      have hone := hid (mv_one 8)
      have hst := hid (a1.row (mv 8))
      go_wp2_with (first | (refine wpList_load_row rfl 39 _ rfl (w.heap.size + 1) rfl 39 (mv 8) (0, 0) _ a0 under39 rfl hi.out ?_) | (refine wpList_store_row rfl 39 _ _ rfl w.heap.size (mv 8) rfl rfl 39 (pv 8 0) a1 hi.out hold.out hone.out ?_))
      refine bodyPost_ret (v := .agg (mv 8)) ?_ rfl ⟨rfl, bel_row b0 (Nat.le_refl _) _⟩
      exact results_cell_row rfl _ _ w.heap.size 39 (mv 8) (0, 0) _ rfl hst.out under39 rfl hi.out
end Go.Proofs.YtfgnllfgccbolaaDoor
