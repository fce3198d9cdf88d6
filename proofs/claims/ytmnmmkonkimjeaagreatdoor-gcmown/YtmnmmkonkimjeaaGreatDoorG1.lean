import Derived.Test.YtmnmmkonkimjeaaGreatDoorRefG
import Derived.Test.YtmnmmkonkimjeaaGreatDoorCPiece
import Derived.Test.YtmnmmkonkimjeaaGreatDoorCBlk
import Derived.Test.YtmnmmkonkimjeaaGreatDoorMul
import Derived.Laws.ResultCell
namespace Go.Proofs.YtmnmmkonkimjeaaGreatDoor
open Go.RowKit
set_option linter.unusedVariables false
set_option maxRecDepth 100000

/-- A number as m bytes, the highest first. -/
def nb (m x : Nat) : Nat → Nat := fun i => x / 2 ^ (8 * (m - 1 - i)) % 256
theorem nb_lt (m x i : Nat) : nb m x i < 256 := Nat.mod_lt _ (by omega)
/-- A list's first block. -/
def fb (b : List Nat) : Nat → Nat := fun i => b.getD i 0
theorem fb_lt {b : List Nat} (h : ∀ x ∈ b, x < 256) (i : Nat) : fb b i < 256 := getD_lt h i
theorem getD_drop (b : List Nat) (m i : Nat) : (b.drop m).getD i 0 = b.getD (m + i) 0 := by simp only [List.getD, List.getElem?_drop]
theorem getD_far (b : List Nat) (i : Nat) (h : b.length ≤ i) : b.getD i 0 = 0 := by simp only [List.getD, List.getElem?_eq_none h]; rfl
theorem xr_zx (z : Nat → Nat) (b : List Nat) (r i : Nat) : xr z (fb (b.drop (16 * r))) i = zx z b r i := by
  unfold xr fb zx
  rw [getD_drop]
  by_cases h : 16 * r + i < b.length
  · rw [if_pos h]
  · rw [if_neg h, getD_far _ _ (by omega), Nat.xor_zero]
theorem cb_put (nz : List Nat) (x i : Nat) (hi : i < 16) : put8 12 4 (nb 4 x) (put8 0 12 (fb nz) fun _ => 0) i = cb nz x i := by
  unfold put8 cb nb fb
  by_cases h : i < 12
  · rw [if_neg (by omega), if_pos (by omega), if_pos h, Nat.sub_zero]
  · rw [if_pos (by omega), if_neg h, show 8 * (4 - 1 - (i - 12)) = 24 - 8 * (i - 12) from by omega]
theorem e8_nb (x i : Nat) (hi : i < 8) : (e8 x).getD i 0 = nb 8 x i := by
  simp only [e8, List.getD, List.getElem?_map, List.getElem?_range hi, nb]
  rw [show 8 * (8 - 1 - i) = 56 - 8 * i from by omega]
  rfl
theorem ln_put (x y i : Nat) (hi : i < 16) : put8 8 8 (nb 8 y) (put8 0 8 (nb 8 x) fun _ => 0) i = (e8 x ++ e8 y).getD i 0 := by
  rw [getD_app, e8_length]
  unfold put8
  by_cases h : i < 8
  · rw [if_neg (by omega), if_pos (by omega), if_pos h, Nat.sub_zero, e8_nb x i h]
  · rw [if_pos (by omega), if_neg h, e8_nb y (i - 8) (by omega)]
/-- One block of the stream over a text. -/
theorem st_blk (k : Nat → Nat) (nz t : List Nat) (r i : Nat) (hi : i < 16) (h : 16 * r + i < t.length) : xr (fb (t.drop (16 * r))) (bl k (cb nz (2 + r)) 14) i = (st k nz t).getD (16 * r + i) 0 := by
  rw [st_get _ _ _ _ h]
  unfold xr fb sx
  rw [getD_drop, show (16 * r + i) / 16 = r from by omega, show (16 * r + i) % 16 = i from by omega]

/-! Parts of a list. -/
theorem bs_part {w : World} {a : Option Addr} {n c m p : Nat} {zs : List Int} (h : Bs w a n zs) (hnc : n ≤ c) (hp : m + p ≤ n) : Bs w (if c = m then a else Option.map (fun x => x.add m) a) p ((zs.drop m).take p) := by
  refine ⟨by have := h.1; simp; omega, fun z hz => h.2.1 z (List.mem_of_mem_drop (List.mem_of_mem_take hz)), ?_⟩
  by_cases hp0 : p = 0
  · exact .inl hp0
  rcases h.2.2 with h0 | ⟨b, off, rfl, hc⟩
  · omega
  · rw [if_neg (by omega)]
    refine .inr ⟨b, off + m, by simp [Addr.add], fun i hi => ?_⟩
    rw [Nat.add_assoc, hc (m + i) (by omega)]
    simp only [List.getD, List.getElem?_take, if_pos hi, List.getElem?_drop]
theorem ic_drop (l : List Nat) (m : Nat) : (ic l).drop m = ic (l.drop m) := by simp [ic]
theorem ic_take (l : List Nat) (m : Nat) : (ic l).take m = ic (l.take m) := by simp [ic]
theorem bs_rest {w : World} {a : Option Addr} {n c m : Nat} {l : List Nat} (h : Bs w a n (ic l)) (hnc : n ≤ c) (hp : m ≤ n) : Bs w (if c = m then a else Option.map (fun x => x.add m) a) (n - m) (ic (l.drop m)) := by
  have := bs_part (m := m) (p := n - m) h hnc (by omega)
  rw [ic_drop, ic_take, List.take_of_length_le] at this
  · exact this
  · have := h.1
    rw [ic_length] at this
    simp; omega
theorem bs_front {w : World} {a : Option Addr} {n m : Nat} {l : List Nat} (h : Bs w a n (ic l)) (hp : m ≤ n) : Bs w a m (ic (l.take m)) := by
  have hl := h.1
  rw [ic_length] at hl
  refine ⟨by rw [ic_length, List.length_take]; omega, fun z hz => h.2.1 z ?_, ?_⟩
  · rw [← ic_take] at hz
    exact List.mem_of_mem_take hz
  rcases h.2.2 with h0 | ⟨b, off, rfl, hc⟩
  · exact .inl (by omega)
  · refine .inr ⟨b, off, rfl, fun i hi => ?_⟩
    rw [hc i (by omega), ic_get, ic_get]
    simp only [List.getD, List.getElem?_take, if_pos hi]
theorem Rw.bs {w : World} {g t n : Nat} {f : Nat → Nat} (h : Rw w g t n f) (o m : Nat) (l : List Nat) (hm : o + m ≤ n) (hl : l.length = m) (hy : ∀ x ∈ l, x < 256) (e : ∀ i, i < m → f (o + i) = l.getD i 0) : Bs w (some ⟨g, o, none⟩) m (ic l) := by
  refine ⟨by rw [ic_length, hl], ic_bytes hy, .inr ⟨g, o, rfl, fun i hi => ?_⟩⟩
  rw [h.byte (o + i) (by omega), ic_get, e i hi]

/-! A key and a nonce made ready. -/
def sv (gc : Nat) (f : Nat → Nat) : Array Value := (Value.pointer (some ⟨gc, 0, none⟩) :: (rw8 12 f).toList).toArray
theorem sv_size (gc : Nat) (f : Nat → Nat) : (sv gc f).size = 13 := by simp [sv, rw8_size]
theorem sv_get (gc : Nat) (f : Nat → Nat) (i : Nat) (h : i < 12) : (sv gc f)[1 + i]? = some (.int .u8 (f i : Nat)) := by
  have := rw8_get 12 f i h
  rw [Nat.add_comm]
  simpa [sv] using this
theorem sv_one (gc : Nat) (f : Nat → Nat) : (sv gc f).all (·.oneCell') = true := by simp [sv, rw8, Value.oneCell']
def Se (w : World) (g gc : Nat) (f : Nat → Nat) : Prop := w.heap[g]? = some (.cells (sv gc f) 60 (0, 0))
theorem Se.lt {w : World} {g gc : Nat} {f : Nat → Nat} (h : Se w g gc f) : g < w.heap.size := (Array.getElem?_eq_some_iff.1 h).1
theorem Se.kept {w w' : World} {g gc : Nat} {f : Nat → Nat} (h : Se w g gc f) (hb : Below w.heap.size w w') : Se w' g gc f := by
  have := h.lt
  unfold Se at *; rw [hb.block g this]; exact h
theorem Se.new (w : World) (gc : Nat) (f : Nat → Nat) : Se (w.alloc (.cells (sv gc f) 60)) w.heap.size gc f := heap_alloc_new w _
theorem Se.alloc {w : World} {g gc : Nat} {f : Nat → Nat} (h : Se w g gc f) (o : Obj) : Se (w.alloc o) g gc f := by
  have := h.lt
  unfold Se at *; rw [Below.heap_alloc _ _ _ this]; exact h
theorem Se.omid {w : World} {g g' gc : Nat} {f : Nat → Nat} (h : Se w g gc f) (hn : g ≠ g') (o : Nat) (vs : List Value) : Se (w.setCells g' o vs) g gc f := by
  unfold Se at *; rw [heap_setCells_other g' g hn]; exact h
theorem Se.other {w : World} {g g' gc : Nat} {f : Nat → Nat} (h : Se w g gc f) (hn : g ≠ g') (i : Nat) (v : Value) : Se (w.setCell ⟨g', i, none⟩ v) g gc f := by
  unfold Se at *; rw [Below.heap_setCell _ _ _ _ hn]; exact h
theorem Se.drew {w : World} {g gc : Nat} {f : Nat → Nat} (h : Se w g gc f) : Se w.drew g gc f := h
theorem Se.fz {w : World} {g gc : Nat} {f : Nat → Nat} (h : Se w g gc f) (i : Nat) : w.frozen? ⟨g, i, none⟩ = false := by unfold Se at h; simp [World.frozen?, h]
theorem Se.ptr {w : World} {g gc : Nat} {f : Nat → Nat} (h : Se w g gc f) : w.cell? ⟨g, 0, none⟩ = some (.pointer (some ⟨gc, 0, none⟩)) := (cell_of_row w g 0 _ _ (0, 0) h).trans (by simp [sv])
theorem Se.bs {w : World} {g gc : Nat} {nz : List Nat} (h : Se w g gc (fb nz)) (hl : nz.length = 12) (hy : ∀ x ∈ nz, x < 256) : Bs w (some ⟨g, 1, none⟩) 12 (ic nz) := by
  refine ⟨by rw [ic_length, hl], ic_bytes hy, .inr ⟨g, 1, rfl, fun i hi => ?_⟩⟩
  rw [cell_of_row w g (1 + i) _ _ (0, 0) h, sv_get gc _ i hi, ic_get]
  rfl
end Go.Proofs.YtmnmmkonkimjeaaGreatDoor
namespace Go.Proofs.YtmnmmkonkimjeaaGreatDoor
open Go.RowKit
set_option linter.unusedVariables false
set_option maxRecDepth 100000

theorem grown_set {w wr : World} {g : Nat} (h : w.grownBy wr (some g)) (i : Nat) (v : Value) : w.grownBy (wr.setCell ⟨g, i, none⟩ v) (some g) :=
  ⟨h.os, h.tape, h.output, by simpa [World.setCell] using h.size, fun k hk hn => (Below.heap_setCell wr ⟨g, i, none⟩ v k (fun e => hn (by have : k = g := e; rw [this]))).trans (h.block k hk hn)⟩
theorem grown_self (w : World) (g : Option Nat) : w.grownBy w g := ⟨rfl, rfl, rfl, Nat.le_refl _, fun _ _ _ => rfl⟩
theorem put8_zero (o : Nat) (h f : Nat → Nat) (i : Nat) : put8 o 0 h f i = f i := by unfold put8; rw [if_neg (by omega)]
theorem put8_step (o j : Nat) (h f : Nat → Nat) (i : Nat) : put8 (o + j) 1 (fun _ => h j) (put8 o j h f) i = put8 o (j + 1) h f i := by
  unfold put8
  by_cases e : i = o + j
  · rw [if_pos (by omega), if_pos (by omega), e, show o + j - o = j from by omega]
  · rw [if_neg (by omega)]
    by_cases e1 : o ≤ i ∧ i < o + j
    · rw [if_pos e1, if_pos (by omega)]
    · rw [if_neg e1, if_neg (by omega)]
set_option maxHeartbeats 1000000 in
theorem putNumber_ (g off m c t n x : Nat) (f : Nat → Nat) (w : World) (hr : Rw w g t n f) (hm : off + m ≤ n) (h8 : m ≤ 8) (hx : x < 2 ^ 64) :
    Calls Tryz.prog 117 #[.slice (some ⟨g, off, none⟩) m c, .int .u64 x] w fun e w' => e = .returned (.tuple #[]) ∧ Rw w' g t n (put8 off m (nb m x) f) ∧ w.grownBy w' (some g) := by
  go_enter Tryz.func117, Tryz.ntmps117
  go_wp2_with fail
  go_loopw [7] (fun i wr => ∃ j : Nat, j ≤ m ∧ i = .int .i64 j ∧ Rw wr g t n (put8 off j (nb m x) f) ∧ w.grownBy wr (some g)) (fun i _ => m - (intOf i).toNat)
  case atStart => exact ⟨0, by omega, rfl, hr.ext fun i _ => (put8_zero _ _ _ _).symm, grown_self _ _⟩
  case round =>
    clear hr
    obtain ⟨j, hj, rfl, a0, b0⟩ := hrel
    by_cases hlt : j < m
    · have c0 := a0.byte (off + j) (by omega)
      have f0 := a0.fz (off + j)
      have HC : Hid (((nb m x j : Nat) : Int) = (x : Int) / 2 ^ (8 * (m - 1 - j)) % 256) := by
        show _ = _
        unfold nb
        rw [shr_cast]
      have e1 : (8 * ((m : Int) - 1 - (j : Int))).toNat = 8 * (m - 1 - j) := by omega
      have A0 := (a0.setv (off + j) (nb m x j)).ext (f' := put8 off (j + 1) (nb m x) f) fun i _ => put8_step off j (nb m x) f i
      have B0 := grown_set b0 (off + j) (.int .u8 (nb m x j : Nat))
      rw [HC.out] at A0 B0
      clear a0 b0
      generalize put8 off j (nb m x) f (off + j) = o at *
      go_wp2_with fail
      go_roundw
      case rel => exact ⟨j + 1, by omega, by go_num, A0, B0⟩
      case measure => simp [intOf]; omega
    · obtain rfl : j = m := by omega
      go_wp2_with fail
      go_end0
      exact ⟨rfl, a0, b0⟩

theorem results_row2 {fn : Func} {p u : Tmp} {ty : TypeId} (h : fn.results = #[.cell p ty, .tmp u]) (tmps : Array Value) (w : World) (g : Nat) (t : TypeId) (cs : Array Value) (fr : Nat × Nat) (d : TypeDesc) (v : Value)
    (hp : tmps.getD p undef = .pointer (some ⟨g, 0, none⟩)) (hv : tmps.getD u undef = v) (hg : w.heap[g]? = some (.cells cs t fr)) (hu : Tryz.prog.underlying ty = some d) (hd : d.isRow = true) (hi : (Tryz.prog.info? ty).map (·.size) = some cs.size) :
    (results fn tmps).run Tryz.prog w = .ok (.tuple #[.agg cs, v]) w := by
  rw [results_cell_tmp h, hp, hv]
  have hl := run_loadVar_row w g t ty cs fr d hg hu (by cases d <;> first | rfl | exact absurd hd (by simp)) hi
  simp [asAddr, hl]
set_option maxHeartbeats 1000000 in
theorem firstBlock_ (a : Option Addr) (n cap m : Nat) (b : List Nat) (w : World) (hb : Bs w a n (ic b)) (hn : n ≤ maxLen) (hm : m = Nat.min n 16) :
    Calls Tryz.prog 19 #[.slice a n cap] w fun e w' => e = .returned (.tuple #[.agg (rw8 16 (fb b)), .int .i64 m]) ∧ Below w.heap.size w w' := by
  have HM := hid hm
  have hm16 : m ≤ 16 := by rw [hm]; exact Nat.min_le_right _ _
  have HF : Hid (∀ i, i < 16 → put8 0 m (fb b) (fun _ => 0) i = fb b i) := fun i hi => by
    have hl := hb.1
    rw [ic_length] at hl
    unfold put8
    by_cases h : i < m
    · rw [if_pos (by omega), Nat.sub_zero]
    · rw [if_neg (by omega)]
      unfold fb
      rw [getD_far]
      have : m = n ∨ m = 16 := by rw [hm]; simp only [Nat.min_def]; split <;> omega
      omega
  clear hm
  obtain ⟨A0, A1, B0⟩ := rnew2 w 63 16 (fun _ => 0) 63 16 (fun _ => 0)
  have hb1 := hb.below B0
  go_enter Tryz.func19, Tryz.ntmps19
  go_wp2_with (first | (refine wpList_al rfl _ rfl 16 (by exact zeroa) ?_) | (refine wpList_cpb rfl _ _ _ _ rfl 5 Tryz.underlying22 size1 (w.heap.size + 1) 0 16 16 a n cap rfl rfl 63 16 (fun _ => 0) (by with_reducible exact A1) m (by exact HM.out) (by omega) (ic b) (by with_reducible exact hb1) (fb b) (fun i _ => ic_get b i) ?_; have A0 := A0.omid (g' := w.heap.size + 1) (by omega) 0 (rw8 m (fb b)).toList; have A1 := (A1.mid 0 m (fb b)).ext HF.out; have B0 := bel_cells (g := w.heap.size + 1) (by omega) (rw8 m (fb b)).toList 0 _ B0; clear hb1 hb HF; generalize World.setCells _ (w.heap.size + 1) 0 (rw8 m (fb b)).toList = w2 at *) | (refine wpList_ldw rfl _ _ rfl _ rfl _ _ 16 _ (by with_reducible exact A1) (by omega) _ (by exact under16) rfl (by exact size16) ?_) | (refine wpList_stm rfl rfl _ _ _ rfl w.heap.size 0 rfl 16 (fb b) rfl _ _ _ (by with_reducible exact A0) (by omega) (by exact size16) ?_))
  refine bodyPost_ret (v := .tuple #[.agg (rw8 16 (fb b)), .int .i64 m]) ?_ rfl ⟨rfl, bel_cells (Nat.le_refl _) _ _ _ B0⟩
  exact results_row2 rfl _ _ w.heap.size _ _ _ _ _ rfl rfl (A0.whole (fb b)) under16 rfl (by rw [rw8_size]; exact size16)
end Go.Proofs.YtmnmmkonkimjeaaGreatDoor
