import Derived.Test.YtmgoabedickooaaGreatDoorABytes
import Derived.Test.YtmgoabedickooaaGreatDoorRows
import Derived.Deep.RegionHeld
import Derived.Deep.AppendSrc
import Derived.Deep.AppendLies
import Derived.Deep.RegionHeldLaw
namespace Go.Proofs.YtmgoabedickooaaGreatDoor.Kp
set_option maxRecDepth 100000
open Go.RowKit
set_option linter.unusedVariables false

/-- A row of bytes in a block of its own. -/
def Row (w : World) (g : Nat) (zs : List Int) : Prop := w.heap[g]? = some (.cells (cells zs).toArray 5 (0, 0))

theorem Row.cell {w : World} {g : Nat} {zs : List Int} (h : Row w g zs) (i : Nat) (hi : i < zs.length) : w.cell? ⟨g, i, none⟩ = some (.int .u8 (zs.getD i 0)) := by
  rw [cell_of_row w g i _ 5 (0, 0) h]
  simpa using cells_get zs i hi
theorem Row.lt {w : World} {g : Nat} {zs : List Int} (h : Row w g zs) : g < w.heap.size := (Array.getElem?_eq_some_iff.1 h).1
theorem Row.bs {w : World} {g : Nat} {zs : List Int} (h : Row w g zs) (hb : ∀ z ∈ zs, 0 ≤ z ∧ z ≤ 255) : Bs w (some ⟨g, 0, none⟩) zs.length zs :=
  ⟨rfl, hb, .inr ⟨g, 0, rfl, fun i hi => by rw [Nat.zero_add]; exact h.cell i hi⟩⟩
theorem Row.kept {w w' : World} {g : Nat} {zs : List Int} {r : Option Nat} (h : Row w g zs) (hg : w.grownBy w' r) (hr : some g ≠ r) : Row w' g zs := by
  unfold Row
  rw [hg.block g h.lt hr]; exact h
theorem Row.unfrozen {w : World} {g : Nat} {zs : List Int} (h : Row w g zs) (i : Nat) : w.frozen? ⟨g, i, none⟩ = false := by
  unfold Row at h
  simp [World.frozen?, h]
theorem Row.set {w : World} {g : Nat} {zs : List Int} (h : Row w g zs) (i : Nat) (x : Int) : Row (w.setCell ⟨g, i, none⟩ (.int .u8 x)) g (zs.set i x) := by
  unfold Row at *
  simp [World.setCell, Array.getElem?_modify, h, cells]

theorem made_zeros (n : Nat) : (madeCells (Value.int .u8 0).cells (n * 1)).toList = cells (List.replicate n 0) := by
  simp [madeCells, cells, Value.cells]
  apply List.ext_getElem
  · simp
  · intro i h1 h2; simp [Nat.mod_one]

theorem row_of_own {w : World} {base g n : Nat} {xs : List Int} (h : w.ownsRow base 5 1 (.slice (some ⟨g, 0, none⟩) n n) n (cells xs)) : Row w g xs := by
  obtain ⟨h1, h2⟩ := h
  rcases h2 with ⟨e, _⟩ | ⟨g', cap, cur, e, _, hg, _, _, hs, ht⟩
  · simp at e
  · simp at e
    obtain ⟨rfl, rfl⟩ := e
    unfold Row
    rw [hg]
    have : cur.toList = cells xs := by rw [← ht, List.take_of_length_le (by simp [hs])]
    rw [← this]

/-- Nothing but block r has turned, and no block has come. -/
structure Only (r : Nat) (w w' : World) : Prop where
  os : w'.os = w.os
  tape : w'.tape = w.tape
  output : w'.output = w.output
  size : w'.heap.size = w.heap.size
  block : ∀ k, k ≠ r → w'.heap[k]? = w.heap[k]?
theorem Only.refl (r : Nat) (w : World) : Only r w w := ⟨rfl, rfl, rfl, rfl, fun _ _ => rfl⟩
theorem Only.trans {r : Nat} {x y z : World} (h : Only r x y) (k : Only r y z) : Only r x z :=
  ⟨k.os.trans h.os, k.tape.trans h.tape, k.output.trans h.output, k.size.trans h.size, fun i hi => (k.block i hi).trans (h.block i hi)⟩
theorem Only.drewN {r : Nat} {x y : World} (h : Only r x y) (n : Nat) : Only r x (y.drewN n) := h.trans ⟨rfl, rfl, rfl, rfl, fun _ _ => rfl⟩
theorem Only.set {r : Nat} {x y : World} (h : Only r x y) (i : Nat) (v : Value) : Only r x (y.setCell ⟨r, i, none⟩ v) :=
  h.trans ⟨rfl, rfl, rfl, by simp [World.setCell], fun k hk => Below.heap_setCell _ _ _ _ hk⟩
theorem Only.grown {r : Nat} {x y : World} (h : Only r x y) : x.grownBy y (some r) := ⟨h.os, h.tape, h.output, by rw [h.size]; exact Nat.le_refl _, fun k _ hr => h.block k (fun e => hr (by rw [e]))⟩
theorem Only.below {r B : Nat} {x y : World} (h : Only r x y) (hB : B ≤ r) : Below B x y := ⟨h.os, h.tape, h.output, by rw [h.size]; exact Nat.le_refl _, fun k hk => h.block k (by omega)⟩
end Go.Proofs.YtmgoabedickooaaGreatDoor.Kp
namespace Go.Proofs.YtmgoabedickooaaGreatDoor.Kp
set_option maxRecDepth 100000
open Go.RowKit
set_option linter.unusedVariables false

/-- Of the blocks that were there only the cells of p may have turned; each block stays of its kind and length. -/
structure Wk (p : Nat → Nat → Prop) (w w' : World) : Prop where
  os : w'.os = w.os
  tape : w'.tape = w.tape
  output : w'.output = w.output
  size : w.heap.size ≤ w'.heap.size
  same : ∀ b, b < w.heap.size → (∀ i, ¬ p b i) → w'.heap[b]? = w.heap[b]?
  blk : ∀ b cur t fr, w.heap[b]? = some (.cells cur t fr) → ∃ cur', w'.heap[b]? = some (.cells cur' t fr) ∧ cur'.size = cur.size ∧ ∀ i, ¬ p b i → cur'[i]? = cur[i]?
theorem Wk.refl (p : Nat → Nat → Prop) (w : World) : Wk p w w := ⟨rfl, rfl, rfl, Nat.le_refl _, fun _ _ _ => rfl, fun b cur t fr h => ⟨cur, h, rfl, fun _ _ => rfl⟩⟩
theorem Wk.trans {p : Nat → Nat → Prop} {a b c : World} (h : Wk p a b) (k : Wk p b c) : Wk p a c :=
  ⟨k.os.trans h.os, k.tape.trans h.tape, k.output.trans h.output, Nat.le_trans h.size k.size, fun i hi hp => (k.same i (Nat.lt_of_lt_of_le hi h.size) hp).trans (h.same i hi hp), fun x cur t fr hx => by
    obtain ⟨c1, h1, h2, h3⟩ := h.blk x cur t fr hx
    obtain ⟨c2, k1, k2, k3⟩ := k.blk x c1 t fr h1
    exact ⟨c2, k1, k2.trans h2, fun i hi => (k3 i hi).trans (h3 i hi)⟩⟩
theorem Wk.weak {p q : Nat → Nat → Prop} {w w' : World} (h : Wk p w w') (hq : ∀ b i, p b i → q b i) : Wk q w w' :=
  ⟨h.os, h.tape, h.output, h.size, fun b hb hn => h.same b hb fun i hp => hn i (hq b i hp), fun b cur t fr hb => by
    obtain ⟨c1, h1, h2, h3⟩ := h.blk b cur t fr hb
    exact ⟨c1, h1, h2, fun i hi => h3 i fun hp => hi (hq b i hp)⟩⟩
theorem Wk.set {p : Nat → Nat → Prop} {w : World} {b i : Nat} (hp : p b i) (v : Value) : Wk p w (w.setCell ⟨b, i, none⟩ v) := by
  refine ⟨rfl, rfl, rfl, by simp [World.setCell], fun k hk hn => Below.heap_setCell w ⟨b, i, none⟩ v k (fun e => hn i (by have : k = b := e; rw [this]; exact hp)), fun k cur t fr hk => ?_⟩
  by_cases e : k = b
  · subst e
    refine ⟨cur.setIfInBounds i v, by simp [World.setCell, Array.getElem?_modify, hk], by simp, fun j hj => ?_⟩
    have : i ≠ j := fun e => hj (e ▸ hp)
    simp [this]
  · exact ⟨cur, by rw [Below.heap_setCell w _ v k e]; exact hk, rfl, fun _ _ => rfl⟩
theorem Wk.ofBelow {p : Nat → Nat → Prop} {w w' : World} (h : Below w.heap.size w w') : Wk p w w' :=
  ⟨h.os, h.tape, h.output, h.size, fun b hb _ => h.block b hb, fun b cur t fr hb => ⟨cur, by rw [h.block b (Array.getElem?_eq_some_iff.1 hb).1]; exact hb, rfl, fun _ _ => rfl⟩⟩
theorem Wk.ofDrawn {p : Nat → Nat → Prop} {w w' : World} (h : Drawn w w') : Wk p w w' := .ofBelow h.below
theorem Wk.cell {p : Nat → Nat → Prop} {w w' : World} (h : Wk p w w') {b i : Nat} {v : Value} (hp : ¬ p b i) (hc : w.cell? ⟨b, i, none⟩ = some v) : w'.cell? ⟨b, i, none⟩ = some v := by
  have hc' := hc
  unfold World.cell? at hc
  simp only at hc
  split at hc <;> rename_i hq
  · obtain ⟨c1, h1, h2, h3⟩ := h.blk b _ _ _ hq
    rw [cell_of_row w' b i c1 _ _ h1, h3 i hp]
    rw [cell_of_row w b i _ _ _ hq] at hc'
    exact hc'
  all_goals simp_all
theorem Wk.blk_of {p : Nat → Nat → Prop} {w w' : World} (h : Wk p w w') {b : Nat} {cur : Array Value} {t : TypeId} {fr : Nat × Nat} (hb : w.heap[b]? = some (.cells cur t fr)) (hp : ∀ i, ¬ p b i) : w'.heap[b]? = some (.cells cur t fr) := by
  rw [h.same b (Array.getElem?_eq_some_iff.1 hb).1 hp]; exact hb
end Go.Proofs.YtmgoabedickooaaGreatDoor.Kp
namespace Go.Proofs.YtmgoabedickooaaGreatDoor.Kp
set_option maxRecDepth 100000
open Go.RowKit
set_option linter.unusedVariables false

/-- The book's cells: its pass, its lists of bytes, what they were, what they were grown to; all other lists are nil. -/
def bookRest : List Value := List.replicate 48 (.slice none 0 0)
def bookCells (ps : Int) (v2 v3 v4 : Value) : Array Value := (.int .i64 0 :: .int .i64 ps :: v2 :: v3 :: v4 :: bookRest).toArray
def Bk (w : World) (k : Nat) (ps : Int) (v2 v3 v4 : Value) : Prop := w.heap[k]? = some (.cells (bookCells ps v2 v3 v4) 43 (0, 0))
section
variable {w w' : World} {k : Nat} {ps : Int} {v2 v3 v4 : Value}
theorem Bk.nils (h : Bk w k ps v2 v3 v4) (i : Nat) (h5 : 5 ≤ i) (h53 : i < 53) : w.cell? ⟨k, i, none⟩ = some (.slice none 0 0) := by
  rw [cell_of_row w k i _ _ (0, 0) h]
  obtain ⟨j, rfl⟩ : ∃ j, i = j + 5 := ⟨i - 5, by omega⟩
  have hj : j < 48 := by omega
  unfold bookCells
  rw [List.getElem?_toArray]
  simp only [List.getElem?_cons_succ]
  unfold bookRest
  rw [List.getElem?_replicate, if_pos hj]
theorem Bk.c0 (h : Bk w k ps v2 v3 v4) : w.cell? ⟨k, 0, none⟩ = some (.int .i64 0) := by rw [cell_of_row w k 0 _ _ (0, 0) h]; rfl
theorem Bk.c1 (h : Bk w k ps v2 v3 v4) : w.cell? ⟨k, 1, none⟩ = some (.int .i64 ps) := by rw [cell_of_row w k 1 _ _ (0, 0) h]; rfl
theorem Bk.c2 (h : Bk w k ps v2 v3 v4) : w.cell? ⟨k, 2, none⟩ = some v2 := by rw [cell_of_row w k 2 _ _ (0, 0) h]; rfl
theorem Bk.c3 (h : Bk w k ps v2 v3 v4) : w.cell? ⟨k, 3, none⟩ = some v3 := by rw [cell_of_row w k 3 _ _ (0, 0) h]; rfl
theorem Bk.c4 (h : Bk w k ps v2 v3 v4) : w.cell? ⟨k, 4, none⟩ = some v4 := by rw [cell_of_row w k 4 _ _ (0, 0) h]; rfl
theorem Bk.fz (h : Bk w k ps v2 v3 v4) (i : Nat) : w.frozen? ⟨k, i, none⟩ = false := by unfold Bk at h; simp [World.frozen?, h]
theorem Bk.lt (h : Bk w k ps v2 v3 v4) : k < w.heap.size := (Array.getElem?_eq_some_iff.1 h).1
theorem Bk.at (h : Bk w k ps v2 v3 v4) (hk : w'.heap[k]? = w.heap[k]?) : Bk w' k ps v2 v3 v4 := by unfold Bk; rw [hk]; exact h
theorem Bk.set1 (h : Bk w k ps v2 v3 v4) (q : Int) : Bk (w.setCell ⟨k, 1, none⟩ (.int .i64 q)) k q v2 v3 v4 := by
  unfold Bk at *; simp [World.setCell, Array.getElem?_modify, h, bookCells]
theorem Bk.set2 (h : Bk w k ps v2 v3 v4) (v : Value) : Bk (w.setCell ⟨k, 2, none⟩ v) k ps v v3 v4 := by
  unfold Bk at *; simp [World.setCell, Array.getElem?_modify, h, bookCells]
theorem Bk.set3 (h : Bk w k ps v2 v3 v4) (v : Value) : Bk (w.setCell ⟨k, 3, none⟩ v) k ps v2 v v4 := by
  unfold Bk at *; simp [World.setCell, Array.getElem?_modify, h, bookCells]
theorem Bk.set4 (h : Bk w k ps v2 v3 v4) (v : Value) : Bk (w.setCell ⟨k, 4, none⟩ v) k ps v2 v3 v := by
  unfold Bk at *; simp [World.setCell, Array.getElem?_modify, h, bookCells]
end

/-- The mark of element j of the list of that number. -/
def mk (ps id j : Int) : Int := if ps = 1 then (id * 97 + j * 31) % 256 else (id / 256 * 59 + j * 13 + id % 256 * 3 + 1) % 256
theorem mk_byte (ps id j : Int) : 0 ≤ mk ps id j ∧ mk ps id j ≤ 255 := by unfold mk; split <;> omega

set_option maxHeartbeats 400000 in
theorem byteMark_ (k : Nat) (ps id j : Int) (v2 v3 v4 : Value) (w : World) (h : Bk w k ps v2 v3 v4) (i0 : 0 ≤ id) (i1 : id ≤ 100000) (j0 : 0 ≤ j) (j1 : j ≤ 10000000) :
    Calls Tryz.prog 148 #[.pointer (some ⟨k, 0, none⟩), .int .i64 id, .int .i64 j] w fun en w' => en = .returned (.int .u8 (mk ps id j)) ∧ w' = w := by
  have hc := h.c1
  clear h
  by_cases hp : ps = 1
  · have hm : Hid (mk ps id j = (id * 97 + j * 31) % 256) := if_pos hp
    have hb : (ps == 1) = true := by rw [beq_iff_eq]; exact hp
    clear hp
    generalize mk ps id j = z at *
    go_enter Tryz.func148, Tryz.ntmps148
    go_wp2
    go_ret
    exact ⟨by rw [hm.out]; rfl, rfl⟩
  · have hm : Hid (mk ps id j = (id / 256 * 59 + j * 13 + id % 256 * 3 + 1) % 256) := if_neg hp
    have hb : (ps == 1) = false := by rw [beq_eq_false_iff_ne]; exact hp
    clear hp
    generalize mk ps id j = z at *
    go_enter Tryz.func148, Tryz.ntmps148
    go_wp2
    go_ret
    exact ⟨by rw [hm.out]; rfl, rfl⟩
end Go.Proofs.YtmgoabedickooaaGreatDoor.Kp
namespace Go.Proofs.YtmgoabedickooaaGreatDoor.Kp
set_option maxRecDepth 100000
open Go.RowKit
set_option linter.unusedVariables false

set_option maxHeartbeats 400000 in
theorem boolsWrite_ (k : Nat) (ps id : Int) (v2 v3 v4 : Value) (w : World) (h : Bk w k ps v2 v3 v4) :
    Calls Tryz.prog 71 #[.pointer (some ⟨k, 0, none⟩), .int .i64 id] w fun en w' => en = .returned (.int .i64 id) ∧ w' = w := by
  have hc := h.nils 5 (by omega) (by omega)
  clear h
  go_enter Tryz.func71, Tryz.ntmps71
  go_wp2
  go_loop [1, 5] (fun q i => q = .int .i64 id ∧ i = .int .i64 0) (fun _ _ => 0)
  case atStart => exact ⟨rfl, rfl⟩
  case round =>
    obtain ⟨rfl, rfl⟩ := hrel
    go_wp2
    go_ret
    exact ⟨rfl, rfl⟩
set_option maxHeartbeats 400000 in
theorem boolsHold_ (k : Nat) (ps id : Int) (v2 v3 v4 : Value) (w : World) (h : Bk w k ps v2 v3 v4) :
    Calls Tryz.prog 36 #[.pointer (some ⟨k, 0, none⟩), .int .i64 id] w fun en w' => en = .returned (.tuple #[.int .i64 id, .bool true]) ∧ w' = w := by
  have hc := h.nils 5 (by omega) (by omega)
  clear h
  go_enter Tryz.func36, Tryz.ntmps36
  go_wp2
  go_loop [1, 6, 7] (fun q all i => q = .int .i64 id ∧ all = .bool true ∧ i = .int .i64 0) (fun _ _ _ => 0)
  case atStart => exact ⟨rfl, rfl, rfl⟩
  case round =>
    obtain ⟨rfl, rfl, rfl⟩ := hrel
    go_wp2
    go_ret2
    exact ⟨rfl, rfl⟩
set_option maxHeartbeats 400000 in
theorem boolsGrow_ (k : Nat) (ps id t : Int) (v2 v3 v4 : Value) (w : World) (h : Bk w k ps v2 v3 v4) :
    Calls Tryz.prog 88 #[.pointer (some ⟨k, 0, none⟩), .int .i64 id, .int .i64 t] w fun en w' => en = .returned (.int .i64 id) ∧ w' = w := by
  have hc := h.nils 5 (by omega) (by omega)
  clear h
  go_enter Tryz.func88, Tryz.ntmps88
  go_wp2
  go_loop [1, 7] (fun q i => q = .int .i64 id ∧ i = .int .i64 0) (fun _ _ => 0)
  case atStart => exact ⟨rfl, rfl⟩
  case round =>
    obtain ⟨rfl, rfl⟩ := hrel
    go_wp2
    go_ret
    exact ⟨rfl, rfl⟩

set_option maxHeartbeats 400000 in
theorem intsWrite_ (k : Nat) (ps id : Int) (v2 v3 v4 : Value) (w : World) (h : Bk w k ps v2 v3 v4) :
    Calls Tryz.prog 72 #[.pointer (some ⟨k, 0, none⟩), .int .i64 id] w fun en w' => en = .returned (.int .i64 id) ∧ w' = w := by
  have hc := h.nils 8 (by omega) (by omega)
  clear h
  go_enter Tryz.func72, Tryz.ntmps72
  go_wp2
  go_loop [1, 5] (fun q i => q = .int .i64 id ∧ i = .int .i64 0) (fun _ _ => 0)
  case atStart => exact ⟨rfl, rfl⟩
  case round =>
    obtain ⟨rfl, rfl⟩ := hrel
    go_wp2
    go_ret
    exact ⟨rfl, rfl⟩
set_option maxHeartbeats 400000 in
theorem intsHold_ (k : Nat) (ps id : Int) (v2 v3 v4 : Value) (w : World) (h : Bk w k ps v2 v3 v4) :
    Calls Tryz.prog 37 #[.pointer (some ⟨k, 0, none⟩), .int .i64 id] w fun en w' => en = .returned (.tuple #[.int .i64 id, .bool true]) ∧ w' = w := by
  have hc := h.nils 8 (by omega) (by omega)
  clear h
  go_enter Tryz.func37, Tryz.ntmps37
  go_wp2
  go_loop [1, 6, 7] (fun q all i => q = .int .i64 id ∧ all = .bool true ∧ i = .int .i64 0) (fun _ _ _ => 0)
  case atStart => exact ⟨rfl, rfl, rfl⟩
  case round =>
    obtain ⟨rfl, rfl, rfl⟩ := hrel
    go_wp2
    go_ret2
    exact ⟨rfl, rfl⟩
set_option maxHeartbeats 400000 in
theorem intsGrow_ (k : Nat) (ps id t : Int) (v2 v3 v4 : Value) (w : World) (h : Bk w k ps v2 v3 v4) :
    Calls Tryz.prog 89 #[.pointer (some ⟨k, 0, none⟩), .int .i64 id, .int .i64 t] w fun en w' => en = .returned (.int .i64 id) ∧ w' = w := by
  have hc := h.nils 8 (by omega) (by omega)
  clear h
  go_enter Tryz.func89, Tryz.ntmps89
  go_wp2
  go_loop [1, 7] (fun q i => q = .int .i64 id ∧ i = .int .i64 0) (fun _ _ => 0)
  case atStart => exact ⟨rfl, rfl⟩
  case round =>
    obtain ⟨rfl, rfl⟩ := hrel
    go_wp2
    go_ret
    exact ⟨rfl, rfl⟩

set_option maxHeartbeats 400000 in
theorem textsWrite_ (k : Nat) (ps id : Int) (v2 v3 v4 : Value) (w : World) (h : Bk w k ps v2 v3 v4) :
    Calls Tryz.prog 73 #[.pointer (some ⟨k, 0, none⟩), .int .i64 id] w fun en w' => en = .returned (.int .i64 id) ∧ w' = w := by
  have hc := h.nils 11 (by omega) (by omega)
  clear h
  go_enter Tryz.func73, Tryz.ntmps73
  go_wp2
  go_loop [1, 5] (fun q i => q = .int .i64 id ∧ i = .int .i64 0) (fun _ _ => 0)
  case atStart => exact ⟨rfl, rfl⟩
  case round =>
    obtain ⟨rfl, rfl⟩ := hrel
    go_wp2
    go_ret
    exact ⟨rfl, rfl⟩
set_option maxHeartbeats 400000 in
theorem textsHold_ (k : Nat) (ps id : Int) (v2 v3 v4 : Value) (w : World) (h : Bk w k ps v2 v3 v4) :
    Calls Tryz.prog 38 #[.pointer (some ⟨k, 0, none⟩), .int .i64 id] w fun en w' => en = .returned (.tuple #[.int .i64 id, .bool true]) ∧ w' = w := by
  have hc := h.nils 11 (by omega) (by omega)
  clear h
  go_enter Tryz.func38, Tryz.ntmps38
  go_wp2
  go_loop [1, 6, 7] (fun q all i => q = .int .i64 id ∧ all = .bool true ∧ i = .int .i64 0) (fun _ _ _ => 0)
  case atStart => exact ⟨rfl, rfl, rfl⟩
  case round =>
    obtain ⟨rfl, rfl, rfl⟩ := hrel
    go_wp2
    go_ret2
    exact ⟨rfl, rfl⟩
set_option maxHeartbeats 400000 in
theorem textsGrow_ (k : Nat) (ps id t : Int) (v2 v3 v4 : Value) (w : World) (h : Bk w k ps v2 v3 v4) :
    Calls Tryz.prog 90 #[.pointer (some ⟨k, 0, none⟩), .int .i64 id, .int .i64 t] w fun en w' => en = .returned (.int .i64 id) ∧ w' = w := by
  have hc := h.nils 11 (by omega) (by omega)
  clear h
  go_enter Tryz.func90, Tryz.ntmps90
  go_wp2
  go_loop [1, 7] (fun q i => q = .int .i64 id ∧ i = .int .i64 0) (fun _ _ => 0)
  case atStart => exact ⟨rfl, rfl⟩
  case round =>
    obtain ⟨rfl, rfl⟩ := hrel
    go_wp2
    go_ret
    exact ⟨rfl, rfl⟩

set_option maxHeartbeats 400000 in
theorem byteListsWrite_ (k : Nat) (ps id : Int) (v2 v3 v4 : Value) (w : World) (h : Bk w k ps v2 v3 v4) :
    Calls Tryz.prog 74 #[.pointer (some ⟨k, 0, none⟩), .int .i64 id] w fun en w' => en = .returned (.int .i64 id) ∧ w' = w := by
  have hc := h.nils 14 (by omega) (by omega)
  clear h
  go_enter Tryz.func74, Tryz.ntmps74
  go_wp2
  go_loop [1, 5] (fun q i => q = .int .i64 id ∧ i = .int .i64 0) (fun _ _ => 0)
  case atStart => exact ⟨rfl, rfl⟩
  case round =>
    obtain ⟨rfl, rfl⟩ := hrel
    go_wp2
    go_ret
    exact ⟨rfl, rfl⟩
set_option maxHeartbeats 400000 in
theorem byteListsHold_ (k : Nat) (ps id : Int) (v2 v3 v4 : Value) (w : World) (h : Bk w k ps v2 v3 v4) :
    Calls Tryz.prog 39 #[.pointer (some ⟨k, 0, none⟩), .int .i64 id] w fun en w' => en = .returned (.tuple #[.int .i64 id, .bool true]) ∧ w' = w := by
  have hc := h.nils 14 (by omega) (by omega)
  clear h
  go_enter Tryz.func39, Tryz.ntmps39
  go_wp2
  go_loop [1, 6, 7] (fun q all i => q = .int .i64 id ∧ all = .bool true ∧ i = .int .i64 0) (fun _ _ _ => 0)
  case atStart => exact ⟨rfl, rfl, rfl⟩
  case round =>
    obtain ⟨rfl, rfl, rfl⟩ := hrel
    go_wp2
    go_ret2
    exact ⟨rfl, rfl⟩
set_option maxHeartbeats 400000 in
theorem byteListsGrow_ (k : Nat) (ps id t : Int) (v2 v3 v4 : Value) (w : World) (h : Bk w k ps v2 v3 v4) :
    Calls Tryz.prog 91 #[.pointer (some ⟨k, 0, none⟩), .int .i64 id, .int .i64 t] w fun en w' => en = .returned (.int .i64 id) ∧ w' = w := by
  have hc := h.nils 14 (by omega) (by omega)
  clear h
  go_enter Tryz.func91, Tryz.ntmps91
  go_wp2
  go_loop [1, 7] (fun q i => q = .int .i64 id ∧ i = .int .i64 0) (fun _ _ => 0)
  case atStart => exact ⟨rfl, rfl⟩
  case round =>
    obtain ⟨rfl, rfl⟩ := hrel
    go_wp2
    go_ret
    exact ⟨rfl, rfl⟩

set_option maxHeartbeats 400000 in
theorem prefixesWrite_ (k : Nat) (ps id : Int) (v2 v3 v4 : Value) (w : World) (h : Bk w k ps v2 v3 v4) :
    Calls Tryz.prog 75 #[.pointer (some ⟨k, 0, none⟩), .int .i64 id] w fun en w' => en = .returned (.int .i64 id) ∧ w' = w := by
  have hc := h.nils 17 (by omega) (by omega)
  clear h
  go_enter Tryz.func75, Tryz.ntmps75
  go_wp2
  go_loop [1, 5] (fun q i => q = .int .i64 id ∧ i = .int .i64 0) (fun _ _ => 0)
  case atStart => exact ⟨rfl, rfl⟩
  case round =>
    obtain ⟨rfl, rfl⟩ := hrel
    go_wp2
    go_ret
    exact ⟨rfl, rfl⟩
set_option maxHeartbeats 400000 in
theorem prefixesHold_ (k : Nat) (ps id : Int) (v2 v3 v4 : Value) (w : World) (h : Bk w k ps v2 v3 v4) :
    Calls Tryz.prog 40 #[.pointer (some ⟨k, 0, none⟩), .int .i64 id] w fun en w' => en = .returned (.tuple #[.int .i64 id, .bool true]) ∧ w' = w := by
  have hc := h.nils 17 (by omega) (by omega)
  clear h
  go_enter Tryz.func40, Tryz.ntmps40
  go_wp2
  go_loop [1, 6, 7] (fun q all i => q = .int .i64 id ∧ all = .bool true ∧ i = .int .i64 0) (fun _ _ _ => 0)
  case atStart => exact ⟨rfl, rfl, rfl⟩
  case round =>
    obtain ⟨rfl, rfl, rfl⟩ := hrel
    go_wp2
    go_ret2
    exact ⟨rfl, rfl⟩
set_option maxHeartbeats 400000 in
theorem prefixesGrow_ (k : Nat) (ps id t : Int) (v2 v3 v4 : Value) (w : World) (h : Bk w k ps v2 v3 v4) :
    Calls Tryz.prog 92 #[.pointer (some ⟨k, 0, none⟩), .int .i64 id, .int .i64 t] w fun en w' => en = .returned (.int .i64 id) ∧ w' = w := by
  have hc := h.nils 17 (by omega) (by omega)
  clear h
  go_enter Tryz.func92, Tryz.ntmps92
  go_wp2
  go_loop [1, 7] (fun q i => q = .int .i64 id ∧ i = .int .i64 0) (fun _ _ => 0)
  case atStart => exact ⟨rfl, rfl⟩
  case round =>
    obtain ⟨rfl, rfl⟩ := hrel
    go_wp2
    go_ret
    exact ⟨rfl, rfl⟩

set_option maxHeartbeats 400000 in
theorem openingsWrite_ (k : Nat) (ps id : Int) (v2 v3 v4 : Value) (w : World) (h : Bk w k ps v2 v3 v4) :
    Calls Tryz.prog 76 #[.pointer (some ⟨k, 0, none⟩), .int .i64 id] w fun en w' => en = .returned (.int .i64 id) ∧ w' = w := by
  have hc := h.nils 20 (by omega) (by omega)
  clear h
  go_enter Tryz.func76, Tryz.ntmps76
  go_wp2
  go_loop [1, 5] (fun q i => q = .int .i64 id ∧ i = .int .i64 0) (fun _ _ => 0)
  case atStart => exact ⟨rfl, rfl⟩
  case round =>
    obtain ⟨rfl, rfl⟩ := hrel
    go_wp2
    go_ret
    exact ⟨rfl, rfl⟩
set_option maxHeartbeats 400000 in
theorem openingsHold_ (k : Nat) (ps id : Int) (v2 v3 v4 : Value) (w : World) (h : Bk w k ps v2 v3 v4) :
    Calls Tryz.prog 41 #[.pointer (some ⟨k, 0, none⟩), .int .i64 id] w fun en w' => en = .returned (.tuple #[.int .i64 id, .bool true]) ∧ w' = w := by
  have hc := h.nils 20 (by omega) (by omega)
  clear h
  go_enter Tryz.func41, Tryz.ntmps41
  go_wp2
  go_loop [1, 6, 7] (fun q all i => q = .int .i64 id ∧ all = .bool true ∧ i = .int .i64 0) (fun _ _ _ => 0)
  case atStart => exact ⟨rfl, rfl, rfl⟩
  case round =>
    obtain ⟨rfl, rfl, rfl⟩ := hrel
    go_wp2
    go_ret2
    exact ⟨rfl, rfl⟩
set_option maxHeartbeats 400000 in
theorem openingsGrow_ (k : Nat) (ps id t : Int) (v2 v3 v4 : Value) (w : World) (h : Bk w k ps v2 v3 v4) :
    Calls Tryz.prog 93 #[.pointer (some ⟨k, 0, none⟩), .int .i64 id, .int .i64 t] w fun en w' => en = .returned (.int .i64 id) ∧ w' = w := by
  have hc := h.nils 20 (by omega) (by omega)
  clear h
  go_enter Tryz.func93, Tryz.ntmps93
  go_wp2
  go_loop [1, 7] (fun q i => q = .int .i64 id ∧ i = .int .i64 0) (fun _ _ => 0)
  case atStart => exact ⟨rfl, rfl⟩
  case round =>
    obtain ⟨rfl, rfl⟩ := hrel
    go_wp2
    go_ret
    exact ⟨rfl, rfl⟩

set_option maxHeartbeats 400000 in
theorem peersWrite_ (k : Nat) (ps id : Int) (v2 v3 v4 : Value) (w : World) (h : Bk w k ps v2 v3 v4) :
    Calls Tryz.prog 77 #[.pointer (some ⟨k, 0, none⟩), .int .i64 id] w fun en w' => en = .returned (.int .i64 id) ∧ w' = w := by
  have hc := h.nils 23 (by omega) (by omega)
  clear h
  go_enter Tryz.func77, Tryz.ntmps77
  go_wp2
  go_loop [1, 5] (fun q i => q = .int .i64 id ∧ i = .int .i64 0) (fun _ _ => 0)
  case atStart => exact ⟨rfl, rfl⟩
  case round =>
    obtain ⟨rfl, rfl⟩ := hrel
    go_wp2
    go_ret
    exact ⟨rfl, rfl⟩
set_option maxHeartbeats 400000 in
theorem peersHold_ (k : Nat) (ps id : Int) (v2 v3 v4 : Value) (w : World) (h : Bk w k ps v2 v3 v4) :
    Calls Tryz.prog 42 #[.pointer (some ⟨k, 0, none⟩), .int .i64 id] w fun en w' => en = .returned (.tuple #[.int .i64 id, .bool true]) ∧ w' = w := by
  have hc := h.nils 23 (by omega) (by omega)
  clear h
  go_enter Tryz.func42, Tryz.ntmps42
  go_wp2
  go_loop [1, 6, 7] (fun q all i => q = .int .i64 id ∧ all = .bool true ∧ i = .int .i64 0) (fun _ _ _ => 0)
  case atStart => exact ⟨rfl, rfl, rfl⟩
  case round =>
    obtain ⟨rfl, rfl, rfl⟩ := hrel
    go_wp2
    go_ret2
    exact ⟨rfl, rfl⟩
set_option maxHeartbeats 400000 in
theorem peersGrow_ (k : Nat) (ps id t : Int) (v2 v3 v4 : Value) (w : World) (h : Bk w k ps v2 v3 v4) :
    Calls Tryz.prog 94 #[.pointer (some ⟨k, 0, none⟩), .int .i64 id, .int .i64 t] w fun en w' => en = .returned (.int .i64 id) ∧ w' = w := by
  have hc := h.nils 23 (by omega) (by omega)
  clear h
  go_enter Tryz.func94, Tryz.ntmps94
  go_wp2
  go_loop [1, 7] (fun q i => q = .int .i64 id ∧ i = .int .i64 0) (fun _ _ => 0)
  case atStart => exact ⟨rfl, rfl⟩
  case round =>
    obtain ⟨rfl, rfl⟩ := hrel
    go_wp2
    go_ret
    exact ⟨rfl, rfl⟩

set_option maxHeartbeats 400000 in
theorem lanesWrite_ (k : Nat) (ps id : Int) (v2 v3 v4 : Value) (w : World) (h : Bk w k ps v2 v3 v4) :
    Calls Tryz.prog 78 #[.pointer (some ⟨k, 0, none⟩), .int .i64 id] w fun en w' => en = .returned (.int .i64 id) ∧ w' = w := by
  have hc := h.nils 26 (by omega) (by omega)
  clear h
  go_enter Tryz.func78, Tryz.ntmps78
  go_wp2
  go_loop [1, 5] (fun q i => q = .int .i64 id ∧ i = .int .i64 0) (fun _ _ => 0)
  case atStart => exact ⟨rfl, rfl⟩
  case round =>
    obtain ⟨rfl, rfl⟩ := hrel
    go_wp2
    go_ret
    exact ⟨rfl, rfl⟩
set_option maxHeartbeats 400000 in
theorem lanesHold_ (k : Nat) (ps id : Int) (v2 v3 v4 : Value) (w : World) (h : Bk w k ps v2 v3 v4) :
    Calls Tryz.prog 43 #[.pointer (some ⟨k, 0, none⟩), .int .i64 id] w fun en w' => en = .returned (.tuple #[.int .i64 id, .bool true]) ∧ w' = w := by
  have hc := h.nils 26 (by omega) (by omega)
  clear h
  go_enter Tryz.func43, Tryz.ntmps43
  go_wp2
  go_loop [1, 6, 7] (fun q all i => q = .int .i64 id ∧ all = .bool true ∧ i = .int .i64 0) (fun _ _ _ => 0)
  case atStart => exact ⟨rfl, rfl, rfl⟩
  case round =>
    obtain ⟨rfl, rfl, rfl⟩ := hrel
    go_wp2
    go_ret2
    exact ⟨rfl, rfl⟩
set_option maxHeartbeats 400000 in
theorem lanesGrow_ (k : Nat) (ps id t : Int) (v2 v3 v4 : Value) (w : World) (h : Bk w k ps v2 v3 v4) :
    Calls Tryz.prog 95 #[.pointer (some ⟨k, 0, none⟩), .int .i64 id, .int .i64 t] w fun en w' => en = .returned (.int .i64 id) ∧ w' = w := by
  have hc := h.nils 26 (by omega) (by omega)
  clear h
  go_enter Tryz.func95, Tryz.ntmps95
  go_wp2
  go_loop [1, 7] (fun q i => q = .int .i64 id ∧ i = .int .i64 0) (fun _ _ => 0)
  case atStart => exact ⟨rfl, rfl⟩
  case round =>
    obtain ⟨rfl, rfl⟩ := hrel
    go_wp2
    go_ret
    exact ⟨rfl, rfl⟩

set_option maxHeartbeats 400000 in
theorem rowsWrite_ (k : Nat) (ps id : Int) (v2 v3 v4 : Value) (w : World) (h : Bk w k ps v2 v3 v4) :
    Calls Tryz.prog 79 #[.pointer (some ⟨k, 0, none⟩), .int .i64 id] w fun en w' => en = .returned (.int .i64 id) ∧ w' = w := by
  have hc := h.nils 29 (by omega) (by omega)
  clear h
  go_enter Tryz.func79, Tryz.ntmps79
  go_wp2
  go_loop [1, 5] (fun q i => q = .int .i64 id ∧ i = .int .i64 0) (fun _ _ => 0)
  case atStart => exact ⟨rfl, rfl⟩
  case round =>
    obtain ⟨rfl, rfl⟩ := hrel
    go_wp2
    go_ret
    exact ⟨rfl, rfl⟩
set_option maxHeartbeats 400000 in
theorem rowsHold_ (k : Nat) (ps id : Int) (v2 v3 v4 : Value) (w : World) (h : Bk w k ps v2 v3 v4) :
    Calls Tryz.prog 44 #[.pointer (some ⟨k, 0, none⟩), .int .i64 id] w fun en w' => en = .returned (.tuple #[.int .i64 id, .bool true]) ∧ w' = w := by
  have hc := h.nils 29 (by omega) (by omega)
  clear h
  go_enter Tryz.func44, Tryz.ntmps44
  go_wp2
  go_loop [1, 6, 7] (fun q all i => q = .int .i64 id ∧ all = .bool true ∧ i = .int .i64 0) (fun _ _ _ => 0)
  case atStart => exact ⟨rfl, rfl, rfl⟩
  case round =>
    obtain ⟨rfl, rfl, rfl⟩ := hrel
    go_wp2
    go_ret2
    exact ⟨rfl, rfl⟩
set_option maxHeartbeats 400000 in
theorem rowsGrow_ (k : Nat) (ps id t : Int) (v2 v3 v4 : Value) (w : World) (h : Bk w k ps v2 v3 v4) :
    Calls Tryz.prog 96 #[.pointer (some ⟨k, 0, none⟩), .int .i64 id, .int .i64 t] w fun en w' => en = .returned (.int .i64 id) ∧ w' = w := by
  have hc := h.nils 29 (by omega) (by omega)
  clear h
  go_enter Tryz.func96, Tryz.ntmps96
  go_wp2
  go_loop [1, 7] (fun q i => q = .int .i64 id ∧ i = .int .i64 0) (fun _ _ => 0)
  case atStart => exact ⟨rfl, rfl⟩
  case round =>
    obtain ⟨rfl, rfl⟩ := hrel
    go_wp2
    go_ret
    exact ⟨rfl, rfl⟩

set_option maxHeartbeats 400000 in
theorem setsWrite_ (k : Nat) (ps id : Int) (v2 v3 v4 : Value) (w : World) (h : Bk w k ps v2 v3 v4) :
    Calls Tryz.prog 80 #[.pointer (some ⟨k, 0, none⟩), .int .i64 id] w fun en w' => en = .returned (.int .i64 id) ∧ w' = w := by
  have hc := h.nils 32 (by omega) (by omega)
  clear h
  go_enter Tryz.func80, Tryz.ntmps80
  go_wp2
  go_loop [1, 5] (fun q i => q = .int .i64 id ∧ i = .int .i64 0) (fun _ _ => 0)
  case atStart => exact ⟨rfl, rfl⟩
  case round =>
    obtain ⟨rfl, rfl⟩ := hrel
    go_wp2
    go_ret
    exact ⟨rfl, rfl⟩
set_option maxHeartbeats 400000 in
theorem setsHold_ (k : Nat) (ps id : Int) (v2 v3 v4 : Value) (w : World) (h : Bk w k ps v2 v3 v4) :
    Calls Tryz.prog 45 #[.pointer (some ⟨k, 0, none⟩), .int .i64 id] w fun en w' => en = .returned (.tuple #[.int .i64 id, .bool true]) ∧ w' = w := by
  have hc := h.nils 32 (by omega) (by omega)
  clear h
  go_enter Tryz.func45, Tryz.ntmps45
  go_wp2
  go_loop [1, 6, 7] (fun q all i => q = .int .i64 id ∧ all = .bool true ∧ i = .int .i64 0) (fun _ _ _ => 0)
  case atStart => exact ⟨rfl, rfl, rfl⟩
  case round =>
    obtain ⟨rfl, rfl, rfl⟩ := hrel
    go_wp2
    go_ret2
    exact ⟨rfl, rfl⟩
set_option maxHeartbeats 400000 in
theorem setsGrow_ (k : Nat) (ps id t : Int) (v2 v3 v4 : Value) (w : World) (h : Bk w k ps v2 v3 v4) :
    Calls Tryz.prog 97 #[.pointer (some ⟨k, 0, none⟩), .int .i64 id, .int .i64 t] w fun en w' => en = .returned (.int .i64 id) ∧ w' = w := by
  have hc := h.nils 32 (by omega) (by omega)
  clear h
  go_enter Tryz.func97, Tryz.ntmps97
  go_wp2
  go_loop [1, 7] (fun q i => q = .int .i64 id ∧ i = .int .i64 0) (fun _ _ => 0)
  case atStart => exact ⟨rfl, rfl⟩
  case round =>
    obtain ⟨rfl, rfl⟩ := hrel
    go_wp2
    go_ret
    exact ⟨rfl, rfl⟩

set_option maxHeartbeats 400000 in
theorem pendingsWrite_ (k : Nat) (ps id : Int) (v2 v3 v4 : Value) (w : World) (h : Bk w k ps v2 v3 v4) :
    Calls Tryz.prog 81 #[.pointer (some ⟨k, 0, none⟩), .int .i64 id] w fun en w' => en = .returned (.int .i64 id) ∧ w' = w := by
  have hc := h.nils 35 (by omega) (by omega)
  clear h
  go_enter Tryz.func81, Tryz.ntmps81
  go_wp2
  go_loop [1, 5] (fun q i => q = .int .i64 id ∧ i = .int .i64 0) (fun _ _ => 0)
  case atStart => exact ⟨rfl, rfl⟩
  case round =>
    obtain ⟨rfl, rfl⟩ := hrel
    go_wp2
    go_ret
    exact ⟨rfl, rfl⟩
set_option maxHeartbeats 400000 in
theorem pendingsHold_ (k : Nat) (ps id : Int) (v2 v3 v4 : Value) (w : World) (h : Bk w k ps v2 v3 v4) :
    Calls Tryz.prog 46 #[.pointer (some ⟨k, 0, none⟩), .int .i64 id] w fun en w' => en = .returned (.tuple #[.int .i64 id, .bool true]) ∧ w' = w := by
  have hc := h.nils 35 (by omega) (by omega)
  clear h
  go_enter Tryz.func46, Tryz.ntmps46
  go_wp2
  go_loop [1, 6, 7] (fun q all i => q = .int .i64 id ∧ all = .bool true ∧ i = .int .i64 0) (fun _ _ _ => 0)
  case atStart => exact ⟨rfl, rfl, rfl⟩
  case round =>
    obtain ⟨rfl, rfl, rfl⟩ := hrel
    go_wp2
    go_ret2
    exact ⟨rfl, rfl⟩
set_option maxHeartbeats 400000 in
theorem pendingsGrow_ (k : Nat) (ps id t : Int) (v2 v3 v4 : Value) (w : World) (h : Bk w k ps v2 v3 v4) :
    Calls Tryz.prog 98 #[.pointer (some ⟨k, 0, none⟩), .int .i64 id, .int .i64 t] w fun en w' => en = .returned (.int .i64 id) ∧ w' = w := by
  have hc := h.nils 35 (by omega) (by omega)
  clear h
  go_enter Tryz.func98, Tryz.ntmps98
  go_wp2
  go_loop [1, 7] (fun q i => q = .int .i64 id ∧ i = .int .i64 0) (fun _ _ => 0)
  case atStart => exact ⟨rfl, rfl⟩
  case round =>
    obtain ⟨rfl, rfl⟩ := hrel
    go_wp2
    go_ret
    exact ⟨rfl, rfl⟩

set_option maxHeartbeats 400000 in
theorem changesWrite_ (k : Nat) (ps id : Int) (v2 v3 v4 : Value) (w : World) (h : Bk w k ps v2 v3 v4) :
    Calls Tryz.prog 82 #[.pointer (some ⟨k, 0, none⟩), .int .i64 id] w fun en w' => en = .returned (.int .i64 id) ∧ w' = w := by
  have hc := h.nils 38 (by omega) (by omega)
  clear h
  go_enter Tryz.func82, Tryz.ntmps82
  go_wp2
  go_loop [1, 5] (fun q i => q = .int .i64 id ∧ i = .int .i64 0) (fun _ _ => 0)
  case atStart => exact ⟨rfl, rfl⟩
  case round =>
    obtain ⟨rfl, rfl⟩ := hrel
    go_wp2
    go_ret
    exact ⟨rfl, rfl⟩
set_option maxHeartbeats 400000 in
theorem changesHold_ (k : Nat) (ps id : Int) (v2 v3 v4 : Value) (w : World) (h : Bk w k ps v2 v3 v4) :
    Calls Tryz.prog 47 #[.pointer (some ⟨k, 0, none⟩), .int .i64 id] w fun en w' => en = .returned (.tuple #[.int .i64 id, .bool true]) ∧ w' = w := by
  have hc := h.nils 38 (by omega) (by omega)
  clear h
  go_enter Tryz.func47, Tryz.ntmps47
  go_wp2
  go_loop [1, 6, 7] (fun q all i => q = .int .i64 id ∧ all = .bool true ∧ i = .int .i64 0) (fun _ _ _ => 0)
  case atStart => exact ⟨rfl, rfl, rfl⟩
  case round =>
    obtain ⟨rfl, rfl, rfl⟩ := hrel
    go_wp2
    go_ret2
    exact ⟨rfl, rfl⟩
set_option maxHeartbeats 400000 in
theorem changesGrow_ (k : Nat) (ps id t : Int) (v2 v3 v4 : Value) (w : World) (h : Bk w k ps v2 v3 v4) :
    Calls Tryz.prog 99 #[.pointer (some ⟨k, 0, none⟩), .int .i64 id, .int .i64 t] w fun en w' => en = .returned (.int .i64 id) ∧ w' = w := by
  have hc := h.nils 38 (by omega) (by omega)
  clear h
  go_enter Tryz.func99, Tryz.ntmps99
  go_wp2
  go_loop [1, 7] (fun q i => q = .int .i64 id ∧ i = .int .i64 0) (fun _ _ => 0)
  case atStart => exact ⟨rfl, rfl⟩
  case round =>
    obtain ⟨rfl, rfl⟩ := hrel
    go_wp2
    go_ret
    exact ⟨rfl, rfl⟩

set_option maxHeartbeats 400000 in
theorem faultsWrite_ (k : Nat) (ps id : Int) (v2 v3 v4 : Value) (w : World) (h : Bk w k ps v2 v3 v4) :
    Calls Tryz.prog 83 #[.pointer (some ⟨k, 0, none⟩), .int .i64 id] w fun en w' => en = .returned (.int .i64 id) ∧ w' = w := by
  have hc := h.nils 41 (by omega) (by omega)
  clear h
  go_enter Tryz.func83, Tryz.ntmps83
  go_wp2
  go_loop [1, 5] (fun q i => q = .int .i64 id ∧ i = .int .i64 0) (fun _ _ => 0)
  case atStart => exact ⟨rfl, rfl⟩
  case round =>
    obtain ⟨rfl, rfl⟩ := hrel
    go_wp2
    go_ret
    exact ⟨rfl, rfl⟩
set_option maxHeartbeats 400000 in
theorem faultsHold_ (k : Nat) (ps id : Int) (v2 v3 v4 : Value) (w : World) (h : Bk w k ps v2 v3 v4) :
    Calls Tryz.prog 48 #[.pointer (some ⟨k, 0, none⟩), .int .i64 id] w fun en w' => en = .returned (.tuple #[.int .i64 id, .bool true]) ∧ w' = w := by
  have hc := h.nils 41 (by omega) (by omega)
  clear h
  go_enter Tryz.func48, Tryz.ntmps48
  go_wp2
  go_loop [1, 6, 7] (fun q all i => q = .int .i64 id ∧ all = .bool true ∧ i = .int .i64 0) (fun _ _ _ => 0)
  case atStart => exact ⟨rfl, rfl, rfl⟩
  case round =>
    obtain ⟨rfl, rfl, rfl⟩ := hrel
    go_wp2
    go_ret2
    exact ⟨rfl, rfl⟩
set_option maxHeartbeats 400000 in
theorem faultsGrow_ (k : Nat) (ps id t : Int) (v2 v3 v4 : Value) (w : World) (h : Bk w k ps v2 v3 v4) :
    Calls Tryz.prog 100 #[.pointer (some ⟨k, 0, none⟩), .int .i64 id, .int .i64 t] w fun en w' => en = .returned (.int .i64 id) ∧ w' = w := by
  have hc := h.nils 41 (by omega) (by omega)
  clear h
  go_enter Tryz.func100, Tryz.ntmps100
  go_wp2
  go_loop [1, 7] (fun q i => q = .int .i64 id ∧ i = .int .i64 0) (fun _ _ => 0)
  case atStart => exact ⟨rfl, rfl⟩
  case round =>
    obtain ⟨rfl, rfl⟩ := hrel
    go_wp2
    go_ret
    exact ⟨rfl, rfl⟩

set_option maxHeartbeats 400000 in
theorem flightsWrite_ (k : Nat) (ps id : Int) (v2 v3 v4 : Value) (w : World) (h : Bk w k ps v2 v3 v4) :
    Calls Tryz.prog 84 #[.pointer (some ⟨k, 0, none⟩), .int .i64 id] w fun en w' => en = .returned (.int .i64 id) ∧ w' = w := by
  have hc := h.nils 44 (by omega) (by omega)
  clear h
  go_enter Tryz.func84, Tryz.ntmps84
  go_wp2
  go_loop [1, 5] (fun q i => q = .int .i64 id ∧ i = .int .i64 0) (fun _ _ => 0)
  case atStart => exact ⟨rfl, rfl⟩
  case round =>
    obtain ⟨rfl, rfl⟩ := hrel
    go_wp2
    go_ret
    exact ⟨rfl, rfl⟩
set_option maxHeartbeats 400000 in
theorem flightsHold_ (k : Nat) (ps id : Int) (v2 v3 v4 : Value) (w : World) (h : Bk w k ps v2 v3 v4) :
    Calls Tryz.prog 49 #[.pointer (some ⟨k, 0, none⟩), .int .i64 id] w fun en w' => en = .returned (.tuple #[.int .i64 id, .bool true]) ∧ w' = w := by
  have hc := h.nils 44 (by omega) (by omega)
  clear h
  go_enter Tryz.func49, Tryz.ntmps49
  go_wp2
  go_loop [1, 6, 7] (fun q all i => q = .int .i64 id ∧ all = .bool true ∧ i = .int .i64 0) (fun _ _ _ => 0)
  case atStart => exact ⟨rfl, rfl, rfl⟩
  case round =>
    obtain ⟨rfl, rfl, rfl⟩ := hrel
    go_wp2
    go_ret2
    exact ⟨rfl, rfl⟩
set_option maxHeartbeats 400000 in
theorem flightsGrow_ (k : Nat) (ps id t : Int) (v2 v3 v4 : Value) (w : World) (h : Bk w k ps v2 v3 v4) :
    Calls Tryz.prog 101 #[.pointer (some ⟨k, 0, none⟩), .int .i64 id, .int .i64 t] w fun en w' => en = .returned (.int .i64 id) ∧ w' = w := by
  have hc := h.nils 44 (by omega) (by omega)
  clear h
  go_enter Tryz.func101, Tryz.ntmps101
  go_wp2
  go_loop [1, 7] (fun q i => q = .int .i64 id ∧ i = .int .i64 0) (fun _ _ => 0)
  case atStart => exact ⟨rfl, rfl⟩
  case round =>
    obtain ⟨rfl, rfl⟩ := hrel
    go_wp2
    go_ret
    exact ⟨rfl, rfl⟩

set_option maxHeartbeats 400000 in
theorem opsWrite_ (k : Nat) (ps id : Int) (v2 v3 v4 : Value) (w : World) (h : Bk w k ps v2 v3 v4) :
    Calls Tryz.prog 85 #[.pointer (some ⟨k, 0, none⟩), .int .i64 id] w fun en w' => en = .returned (.int .i64 id) ∧ w' = w := by
  have hc := h.nils 47 (by omega) (by omega)
  clear h
  go_enter Tryz.func85, Tryz.ntmps85
  go_wp2
  go_loop [1, 5] (fun q i => q = .int .i64 id ∧ i = .int .i64 0) (fun _ _ => 0)
  case atStart => exact ⟨rfl, rfl⟩
  case round =>
    obtain ⟨rfl, rfl⟩ := hrel
    go_wp2
    go_ret
    exact ⟨rfl, rfl⟩
set_option maxHeartbeats 400000 in
theorem opsHold_ (k : Nat) (ps id : Int) (v2 v3 v4 : Value) (w : World) (h : Bk w k ps v2 v3 v4) :
    Calls Tryz.prog 50 #[.pointer (some ⟨k, 0, none⟩), .int .i64 id] w fun en w' => en = .returned (.tuple #[.int .i64 id, .bool true]) ∧ w' = w := by
  have hc := h.nils 47 (by omega) (by omega)
  clear h
  go_enter Tryz.func50, Tryz.ntmps50
  go_wp2
  go_loop [1, 6, 7] (fun q all i => q = .int .i64 id ∧ all = .bool true ∧ i = .int .i64 0) (fun _ _ _ => 0)
  case atStart => exact ⟨rfl, rfl, rfl⟩
  case round =>
    obtain ⟨rfl, rfl, rfl⟩ := hrel
    go_wp2
    go_ret2
    exact ⟨rfl, rfl⟩
set_option maxHeartbeats 400000 in
theorem opsGrow_ (k : Nat) (ps id t : Int) (v2 v3 v4 : Value) (w : World) (h : Bk w k ps v2 v3 v4) :
    Calls Tryz.prog 102 #[.pointer (some ⟨k, 0, none⟩), .int .i64 id, .int .i64 t] w fun en w' => en = .returned (.int .i64 id) ∧ w' = w := by
  have hc := h.nils 47 (by omega) (by omega)
  clear h
  go_enter Tryz.func102, Tryz.ntmps102
  go_wp2
  go_loop [1, 7] (fun q i => q = .int .i64 id ∧ i = .int .i64 0) (fun _ _ => 0)
  case atStart => exact ⟨rfl, rfl⟩
  case round =>
    obtain ⟨rfl, rfl⟩ := hrel
    go_wp2
    go_ret
    exact ⟨rfl, rfl⟩

set_option maxHeartbeats 400000 in
theorem eventsWrite_ (k : Nat) (ps id : Int) (v2 v3 v4 : Value) (w : World) (h : Bk w k ps v2 v3 v4) :
    Calls Tryz.prog 86 #[.pointer (some ⟨k, 0, none⟩), .int .i64 id] w fun en w' => en = .returned (.int .i64 id) ∧ w' = w := by
  have hc := h.nils 50 (by omega) (by omega)
  clear h
  go_enter Tryz.func86, Tryz.ntmps86
  go_wp2
  go_loop [1, 5] (fun q i => q = .int .i64 id ∧ i = .int .i64 0) (fun _ _ => 0)
  case atStart => exact ⟨rfl, rfl⟩
  case round =>
    obtain ⟨rfl, rfl⟩ := hrel
    go_wp2
    go_ret
    exact ⟨rfl, rfl⟩
set_option maxHeartbeats 400000 in
theorem eventsHold_ (k : Nat) (ps id : Int) (v2 v3 v4 : Value) (w : World) (h : Bk w k ps v2 v3 v4) :
    Calls Tryz.prog 51 #[.pointer (some ⟨k, 0, none⟩), .int .i64 id] w fun en w' => en = .returned (.tuple #[.int .i64 id, .bool true]) ∧ w' = w := by
  have hc := h.nils 50 (by omega) (by omega)
  clear h
  go_enter Tryz.func51, Tryz.ntmps51
  go_wp2
  go_loop [1, 6, 7] (fun q all i => q = .int .i64 id ∧ all = .bool true ∧ i = .int .i64 0) (fun _ _ _ => 0)
  case atStart => exact ⟨rfl, rfl, rfl⟩
  case round =>
    obtain ⟨rfl, rfl, rfl⟩ := hrel
    go_wp2
    go_ret2
    exact ⟨rfl, rfl⟩
set_option maxHeartbeats 400000 in
theorem eventsGrow_ (k : Nat) (ps id t : Int) (v2 v3 v4 : Value) (w : World) (h : Bk w k ps v2 v3 v4) :
    Calls Tryz.prog 103 #[.pointer (some ⟨k, 0, none⟩), .int .i64 id, .int .i64 t] w fun en w' => en = .returned (.int .i64 id) ∧ w' = w := by
  have hc := h.nils 50 (by omega) (by omega)
  clear h
  go_enter Tryz.func103, Tryz.ntmps103
  go_wp2
  go_loop [1, 7] (fun q i => q = .int .i64 id ∧ i = .int .i64 0) (fun _ _ => 0)
  case atStart => exact ⟨rfl, rfl⟩
  case round =>
    obtain ⟨rfl, rfl⟩ := hrel
    go_wp2
    go_ret
    exact ⟨rfl, rfl⟩

end Go.Proofs.YtmgoabedickooaaGreatDoor.Kp
namespace Go.Proofs.YtmgoabedickooaaGreatDoor.Kp
set_option maxRecDepth 100000
open Go.RowKit
set_option linter.unusedVariables false

/-- A list that is kept. -/
structure Ent where
  a : Option Addr
  n : Nat
  c : Nat
def Ent.val (e : Ent) : Value := .slice e.a e.n e.c
/-- Its room, and its elements. -/
def Ent.In (e : Ent) (b i : Nat) : Prop := ∃ off, e.a = some ⟨b, off, none⟩ ∧ off ≤ i ∧ i < off + e.c
def Ent.El (e : Ent) (b i : Nat) : Prop := ∃ off, e.a = some ⟨b, off, none⟩ ∧ off ≤ i ∧ i < off + e.n
/-- It lies in a block of bytes that may be written. -/
def Ent.Ok (w : World) (e : Ent) : Prop := e.n ≤ e.c ∧ e.c ≤ maxLen ∧ e.n ≤ 100000 ∧ (e.a = none → e.c = 0) ∧ (e.c = 0 ∨ ∃ b off cur, e.a = some ⟨b, off, none⟩ ∧ w.heap[b]? = some (.cells cur 5 (0, 0)) ∧ off + e.c ≤ cur.size)
/-- It shows these bytes. -/
def Ent.Sh (w : World) (e : Ent) (f : Nat → Int) : Prop := e.n = 0 ∨ ∃ b off, e.a = some ⟨b, off, none⟩ ∧ ∀ j, j < e.n → w.cell? ⟨b, off + j, none⟩ = some (.int .u8 (f j))
theorem Ent.Ok.wk {p : Nat → Nat → Prop} {w w' : World} {e : Ent} (h : e.Ok w) (hw : Wk p w w') : e.Ok w' := by
  obtain ⟨h1, h2, h3, h3', h4⟩ := h
  refine ⟨h1, h2, h3, h3', ?_⟩
  rcases h4 with h4 | ⟨b, off, cur, e1, e2, e3⟩
  · exact .inl h4
  · obtain ⟨c1, k1, k2, _⟩ := hw.blk b cur 5 (0, 0) e2
    exact .inr ⟨b, off, c1, e1, k1, by omega⟩
theorem Ent.Sh.wk {p : Nat → Nat → Prop} {w w' : World} {e : Ent} {f : Nat → Int} (h : e.Sh w f) (hw : Wk p w w') (hp : ∀ b i, e.El b i → ¬ p b i) : e.Sh w' f := by
  rcases h with h | ⟨b, off, h1, h2⟩
  · exact .inl h
  · exact .inr ⟨b, off, h1, fun j hj => hw.cell (hp b (off + j) ⟨off, h1, by omega, by omega⟩) (h2 j hj)⟩
theorem Ent.El.blk {w : World} {e : Ent} {b i : Nat} (h : e.El b i) (ho : e.Ok w) : ∃ cur, w.heap[b]? = some (.cells cur 5 (0, 0)) := by
  obtain ⟨off, h1, h2, h3⟩ := h
  obtain ⟨e1, _, _, _, e4⟩ := ho
  rcases e4 with e4 | ⟨b', off', cur, k1, k2, k3⟩
  · omega
  · rw [h1] at k1
    simp at k1
    exact ⟨cur, by rw [k1.1]; exact k2⟩
theorem Ent.El.mem {e : Ent} {b i : Nat} (h : e.El b i) (hn : e.n ≤ e.c) : e.In b i := by
  obtain ⟨off, h1, h2, h3⟩ := h; exact ⟨off, h1, h2, by omega⟩
/-- Apart from one another, spare room too. -/
def Dj (m : Nat) (E : Nat → Ent) : Prop := ∀ i j, i < m → j < m → i ≠ j → ∀ b x, (E i).In b x → ¬ (E j).In b x
def vals (m : Nat) (E : Nat → Ent) : List Value := (List.range m).map fun i => (E i).val
theorem vals_length (m : Nat) (E : Nat → Ent) : (vals m E).length = m := by simp [vals]
theorem vals_get {m : Nat} {E : Nat → Ent} {i : Nat} (h : i < m) : (vals m E)[i]? = some (E i).val := by simp [vals, h]

/-- A table of lists. -/
theorem tab_at {w : World} {base m : Nat} {v : Value} {E : Nat → Ent} (h : w.ownsRow base 44 1 v m (vals m E)) :
    ∃ a c, v = .slice a m c ∧ (m = 0 ∨ ∃ g, a = some ⟨g, 0, none⟩ ∧ (∃ cur, w.heap[g]? = some (.cells cur 44 (0, 0))) ∧ ∀ i, i < m → w.cell? ⟨g, i, none⟩ = some (E i).val) := by
  obtain ⟨h1, h2⟩ := h
  rcases h2 with ⟨rfl, rfl⟩ | ⟨g, cap, cur, rfl, _, hg, hnc, hcm, hs, ht⟩
  · exact ⟨none, 0, rfl, .inl rfl⟩
  · refine ⟨_, cap, rfl, .inr ⟨g, rfl, ⟨cur, hg⟩, fun i hi => ?_⟩⟩
    rw [cell_of_row w g i cur 44 (0, 0) hg]
    have hq := vals_get (E := E) hi
    rw [← ht, Nat.mul_one, List.getElem?_take, if_pos hi] at hq
    simpa using hq
theorem tab_wk {p : Nat → Nat → Prop} {w w' : World} {base m : Nat} {v : Value} {xs : List Value} (h : w.ownsRow base 44 1 v m xs) (hw : Wk p w w') (hp : ∀ b i, p b i → ∃ cur, w.heap[b]? = some (.cells cur 5 (0, 0))) : w'.ownsRow base 44 1 v m xs := by
  obtain ⟨h1, h2⟩ := h
  refine ⟨h1, ?_⟩
  rcases h2 with h2 | ⟨g, cap, cur, rfl, hb, hg, r⟩
  · exact .inl h2
  · refine .inr ⟨g, cap, cur, rfl, hb, hw.blk_of hg fun i hi => ?_, r⟩
    obtain ⟨c1, hc⟩ := hp g i hi
    rw [hg] at hc
    simp at hc
theorem bk_wk {p : Nat → Nat → Prop} {w w' : World} {k : Nat} {ps : Int} {v2 v3 v4 : Value} (h : Bk w k ps v2 v3 v4) (hw : Wk p w w') (hp : ∀ b i, p b i → ∃ cur, w.heap[b]? = some (.cells cur 5 (0, 0))) : Bk w' k ps v2 v3 v4 := by
  refine h.at (hw.same k h.lt fun i hi => ?_)
  obtain ⟨c1, hc⟩ := hp k i hi
  unfold Bk at h
  rw [h] at hc
  simp at hc

theorem wk_drew {p : Nat → Nat → Prop} {w w' : World} (h : Wk p w w') : Wk p w w'.drew := ⟨h.os, h.tape, h.output, h.size, h.same, h.blk⟩
theorem sh_drew {w : World} {e : Ent} {f : Nat → Int} (h : e.Sh w f) : e.Sh w.drew f := h
/-- The cells that a book's lists hold. -/
def Els (m : Nat) (E : Nat → Ent) : Nat → Nat → Prop := fun b x => ∃ i, i < m ∧ (E i).El b x

set_option maxRecDepth 100000 in
set_option maxHeartbeats 1000000 in
theorem bytesWrite_ (k base m : Nat) (ps : Int) (E : Nat → Ent) (v2 v3 v4 : Value) (w : World) (h : Bk w k ps v2 v3 v4) (ht : w.ownsRow base 44 1 v2 m (vals m E)) (hok : ∀ i, i < m → (E i).Ok w) (hdj : Dj m E) (hm : m ≤ 1000) :
    Calls Tryz.prog 70 #[.pointer (some ⟨k, 0, none⟩), .int .i64 0] w fun en w' => en = .returned (.int .i64 m) ∧ Wk (Els m E) w w' ∧ ∀ i, i < m → (E i).Sh w' fun j => mk ps (i + 1) j := by
  have hp5 : ∀ b i, Els m E b i → ∃ cur, w.heap[b]? = some (.cells cur 5 (0, 0)) := fun b i ⟨q, hq, he⟩ => he.blk (hok q hq)
  obtain ⟨a2, c2, rfl, hg⟩ := tab_at ht
  go_enter Tryz.func70, Tryz.ntmps70
  go_wp2
  go_loopw [1, 5] (fun q i wr => ∃ x : Nat, x ≤ m ∧ q = .int .i64 x ∧ i = .int .i64 x ∧ Wk (Els m E) w wr ∧ ∀ y, y < x → (E y).Sh wr fun j => mk ps (y + 1) j) (fun _ i _ => m - (intOf i).toNat)
  case atStart => exact ⟨0, by omega, rfl, rfl, Wk.refl _ _, fun y hy => by omega⟩
  case round =>
    obtain ⟨x, hx, rfl, rfl, hW, hS⟩ := hrel
    obtain ⟨wq, rfl⟩ : ∃ wq, wq = wr := ⟨_, rfl⟩
    have c2 := (bk_wk h hW hp5).c2
    by_cases hlt : x < m
    · rcases hg with hg | ⟨g, rfl, ⟨cur, hgc⟩, hcell⟩
      · omega
      have i1 : (x : Int) < (m : Int) := by omega
      go_wp2_with fail
      go_loopw [6] (fun i wr => ∃ j : Nat, j ≤ (E x).n ∧ i = .int .i64 j ∧ Wk (Els m E) w wr ∧ (∀ y, y < x → (E y).Sh wr fun j => mk ps (y + 1) j) ∧ ((E x).n = 0 ∨ ∃ b off, (E x).a = some ⟨b, off, none⟩ ∧ ∀ q, q < j → wr.cell? ⟨b, off + q, none⟩ = some (.int .u8 (mk ps (x + 1) q)))) (fun i _ => (E x).n - (intOf i).toNat)
      case atStart => exact ⟨0, by omega, rfl, hW, hS, by
        by_cases h0 : (E x).n = 0
        · exact .inl h0
        · obtain ⟨o1, _, _, _, o4⟩ := hok x hlt
          rcases o4 with o4 | ⟨b, off, _, e1, _⟩
          · omega
          · exact .inr ⟨b, off, e1, fun q hq => by omega⟩⟩
      case round =>
        obtain ⟨j, hj, rfl, hW2, hS2, hC⟩ := hrel
        clear hW hS c2
        have hok2 := hok x hlt
        have B2 := bk_wk h hW2 hp5
        have d2 := B2.c2
        have dg : wr.cell? ⟨g, x, none⟩ = some (.slice (E x).a (E x).n (E x).c) := hW2.cell (fun hh => by obtain ⟨c1, hc⟩ := hp5 g x hh; rw [hgc] at hc; simp at hc) (hcell x hlt)
        have hb3 := hok2.2.2.1
        by_cases hlt2 : j < (E x).n
        · rcases hC with hC | ⟨b, off, ha, hC⟩
          · omega
          obtain ⟨o1, _, _, _, o4⟩ := hok2.wk hW2
          obtain ⟨cu, hcu, hcs⟩ : ∃ cu, wr.heap[b]? = some (.cells cu 5 (0, 0)) ∧ off + (E x).n ≤ cu.size := by
            rcases o4 with o4 | ⟨b', off', cu, e1, e2, e3⟩
            · omega
            · rw [ha] at e1; simp at e1; obtain ⟨rfl, rfl⟩ := e1; exact ⟨cu, e2, by omega⟩
          obtain ⟨zz, q1⟩ : ∃ zz, wr.cell? ⟨b, off + j, none⟩ = some zz := by
            have hlen : off + j < cu.size := by omega
            exact ⟨cu[off + j], by rw [cell_of_row wr b _ cu 5 (0, 0) hcu]; simp⟩
          have q2 : wr.frozen? ⟨b, off + j, none⟩ = false := by simp [World.frozen?, hcu]
          have hel : (E x).El b (off + j) := ⟨off, ha, by omega, by omega⟩
          have H1 : Hid (Wk (Els m E) w (wr.setCell ⟨b, off + j, none⟩ (.int .u8 (mk ps (x + 1) j)))) := hW2.trans (.set ⟨x, hlt, hel⟩ _)
          have H2 : Hid (∀ y, y < x → (E y).Sh (wr.setCell ⟨b, off + j, none⟩ (.int .u8 (mk ps (x + 1) j))) fun j => mk ps (y + 1) j) := fun y hy =>
            (hS2 y hy).wk (p := fun b' i' => b' = b ∧ i' = off + j) (.set ⟨rfl, rfl⟩ _) fun b' i' he ⟨e1, e2⟩ => by
              subst e1 e2
              exact hdj y x (by omega) hlt (by omega) _ _ (he.mem (hok y (by omega)).1) (hel.mem (hok x hlt).1)
          have H3 : Hid (∀ q, q < j + 1 → (wr.setCell ⟨b, off + j, none⟩ (.int .u8 (mk ps (x + 1) j))).cell? ⟨b, off + q, none⟩ = some (.int .u8 (mk ps (x + 1) q))) := fun q hq => by
            by_cases e : q = j
            · subst e
              rw [cell_of_row _ b _ (cu.setIfInBounds (off + q) (.int .u8 (mk ps (x + 1) q))) 5 (0, 0) (by simp [World.setCell, Array.getElem?_modify, hcu])]
              have hlen : off + q < cu.size := by omega
              simp [hlen]
            · exact (Wk.set (p := fun b' i' => b' = b ∧ i' = off + j) ⟨rfl, rfl⟩ _).cell (by rintro ⟨_, h⟩; omega) (hC q (by omega))
          have nk : k ≠ b := fun e => by
            have B3 := B2
            unfold Bk at B3; rw [e, hcu] at B3; simp at B3
          have ng : g ≠ b := fun e => by
            have hgr := hW2.blk_of hgc (fun i hh => by obtain ⟨c1, hc⟩ := hp5 g i hh; rw [hgc] at hc; simp at hc)
            rw [e, hcu] at hgr; simp at hgr
          have s1 : (wr.setCell ⟨b, off + j, none⟩ (.int .u8 (mk ps (x + 1) j))).cell? ⟨k, 2, none⟩ = some (.slice (some ⟨g, 0, none⟩) m c2) := (Wk.set (p := fun b' i' => b' = b ∧ i' = off + j) ⟨rfl, rfl⟩ _).cell (by rintro ⟨h, _⟩; exact nk h) d2
          have s2 : (wr.setCell ⟨b, off + j, none⟩ (.int .u8 (mk ps (x + 1) j))).cell? ⟨g, x, none⟩ = some (.slice (some ⟨b, off, none⟩) (E x).n (E x).c) := (Wk.set (p := fun b' i' => b' = b ∧ i' = off + j) ⟨rfl, rfl⟩ _).cell (by rintro ⟨h, _⟩; exact ng h) (by rw [← ha]; exact dg)
          have Hb := hid (byteMark_ k ps ((x : Int) + 1) j (.slice (some ⟨g, 0, none⟩) m c2) v3 v4)
          have HB : Hid (Bk wr.drew k ps (.slice (some ⟨g, 0, none⟩) m c2) v3 v4) := B2
          rw [ha] at dg
          have HA := hid ha
          have Hn := hid (hok2.1)
          have mb := mk_byte ps (x + 1) j
          have i2 : (j : Int) < ((E x).n : Int) := by omega
          clear hS2 hC hW2 hcu o4 hel B2 hok2 ha o1 hcs
          generalize (E x).n = nx at *
          generalize (E x).c = cx at *
          go_wp2_with fail
          go_region_held (fun wx => wx.cell? ⟨k, 2, none⟩ = some (.slice (some ⟨g, 0, none⟩) m c2) ∧ wx.cell? ⟨g, x, none⟩ = some (.slice (some ⟨b, off, none⟩) nx cx)) (go_keep)
            ((go_at_call 148; refine (Hb.out _ HB.out (by omega) (by omega) (by omega) (by omega)).mono ?_; rintro e w' ⟨rfl, hw⟩; obtain rfl := hw.symm; clear hw))
          go_wp2_with fail
          go_roundw
          case rel => exact ⟨j + 1, by omega, by go_num, wk_drew H1.out, fun y hy => sh_drew (H2.out y hy), .inr ⟨b, off, HA.out, fun q hq => H3.out q hq⟩⟩
          case measure => simp [intOf]; omega
        · have hje : (E x).n = j := by omega
          have HN : Hid (∀ y, y < x + 1 → (E y).Sh wr fun j => mk ps (y + 1) j) := fun y hy => by
            by_cases e : y = x
            · subst e
              rcases hC with hC | ⟨b, off, ha, hC⟩
              · exact .inl hC
              · exact .inr ⟨b, off, ha, fun q hq => hC q (by omega)⟩
            · exact hS2 y (by omega)
          have i2 : ¬ (j : Int) < ((E x).n : Int) := by omega
          clear hS2 hC hje
          go_wp2_with fail
          go_roundw
          case rel => exact ⟨x + 1, by omega, by go_num, by go_num, hW2, HN.out⟩
          case measure => simp [intOf]; omega
    · go_wp2_with fail
      go_ret
      obtain rfl : m = x := by omega
      exact ⟨rfl, hW, hS⟩
end Go.Proofs.YtmgoabedickooaaGreatDoor.Kp
namespace Go.Proofs.YtmgoabedickooaaGreatDoor.Kp
set_option maxRecDepth 100000
open Go.RowKit
set_option linter.unusedVariables false

set_option maxHeartbeats 400000 in
theorem bytesShow_ (k : Nat) (ps id : Int) (e : Ent) (v2 v3 v4 : Value) (w : World) (h : Bk w k ps v2 v3 v4) (hs : e.Sh w fun j => mk ps id j) (hn : e.n ≤ 1000000) (i0 : 0 ≤ id) (i1 : id ≤ 100000) :
    Calls Tryz.prog 104 #[.pointer (some ⟨k, 0, none⟩), e.val, .int .i64 id] w fun en w' => en = .returned (.bool true) ∧ w' = w := by
  obtain ⟨a, n, c⟩ := e
  show Calls _ _ #[_, .slice a n c, _] _ _
  simp only [Ent.Sh] at hs hn
  go_enter Tryz.func104, Tryz.ntmps104
  go_wp2
  go_loop [7] (fun i => ∃ j : Nat, j ≤ n ∧ i = .int .i64 j) (fun i => n - (intOf i).toNat)
  case atStart => exact ⟨0, by omega, rfl⟩
  case round =>
    obtain ⟨j, hj, rfl⟩ := hrel
    by_cases hlt : j < n
    · rcases hs with hs | ⟨b, off, rfl, hc⟩
      · omega
      have q := hc j hlt
      have H := hid h
      have i2 : (j : Int) < (n : Int) := by omega
      clear hc h
      go_wp2_with (go_at_call 148; refine (byteMark_ k ps id j v2 v3 v4 w H.out i0 i1 (by omega) (by omega)).mono ?_; rintro e w' ⟨rfl, hw⟩; obtain rfl := hw.symm; clear hw)
      go_round
      case rel => exact ⟨j + 1, by omega, by go_num⟩
      case measure => simp [intOf]; omega
    · go_wp2_with fail
      go_ret
      exact ⟨rfl, rfl⟩

set_option maxRecDepth 100000 in
set_option maxHeartbeats 1000000 in
theorem bytesHold_ (k base m mg : Nat) (ps : Int) (E F : Nat → Ent) (v2 v3 v4 : Value) (w : World) (h : Bk w k ps v2 v3 v4) (ht : w.ownsRow base 44 1 v2 m (vals m E)) (hu : w.ownsRow base 44 1 v4 mg (vals mg F)) (hmg : mg = 0 ∨ mg = m)
    (hE : ∀ i, i < m → (E i).n ≤ 1000000 ∧ (E i).Sh w fun j => mk ps (i + 1) j) (hF : ∀ i, i < mg → (F i).n ≤ 1000000 ∧ (F i).Sh w fun j => mk ps (i + 1) j) (hm : m ≤ 1000) :
    Calls Tryz.prog 35 #[.pointer (some ⟨k, 0, none⟩), .int .i64 0] w fun en w' => en = .returned (.tuple #[.int .i64 m, .bool true]) ∧ w' = w := by
  obtain ⟨a2, c2, rfl, hg⟩ := tab_at ht
  obtain ⟨a4, c4, rfl, hg4⟩ := tab_at hu
  have d2 := h.c2
  have d4 := h.c4
  have H := hid h
  clear h ht hu
  go_enter Tryz.func35, Tryz.ntmps35
  go_wp2
  go_loop [1, 6, 7] (fun q all i => ∃ x : Nat, x ≤ m ∧ q = .int .i64 x ∧ all = .bool true ∧ i = .int .i64 x) (fun _ _ i => m - (intOf i).toNat)
  case atStart => exact ⟨0, by omega, rfl, rfl, rfl⟩
  case round =>
    obtain ⟨x, hx, rfl, rfl, rfl⟩ := hrel
    by_cases hlt : x < m
    · rcases hg with hg | ⟨g, rfl, _, hcell⟩
      · omega
      have q1 : w.cell? ⟨g, x, none⟩ = some (.slice (E x).a (E x).n (E x).c) := hcell x hlt
      have i1 : (x : Int) < (m : Int) := by omega
      have hEx := hid (hE x hlt)
      have HS := hid (bytesShow_ k ps ((x : Int) + 1) (E x) (.slice (some ⟨g, 0, none⟩) m c2) v3 (.slice a4 mg c4) w H.out hEx.out.2 hEx.out.1 (by omega) (by omega))
      clear hcell hE
      rcases hmg with rfl | rfl
      · have i2 : ¬ (x : Int) < 0 := by omega
        go_wp2_with fail
        refine HS.out.mono ?_
        rintro e w' ⟨rfl, hw⟩
        obtain rfl := hw.symm
        clear hw
        go_wp2_with fail
        go_round
        case rel => exact ⟨x + 1, by omega, by go_num, rfl, by go_num⟩
        case measure => simp [intOf]; omega
      · rcases hg4 with hg4 | ⟨g4, rfl, _, hcell4⟩
        · omega
        have q4 : w.cell? ⟨g4, x, none⟩ = some (.slice (F x).a (F x).n (F x).c) := hcell4 x hlt
        have hFx := hid (hF x hlt)
        have HT := hid (bytesShow_ k ps ((x : Int) + 1) (F x) (.slice (some ⟨g, 0, none⟩) mg c2) v3 (.slice (some ⟨g4, 0, none⟩) mg c4) w H.out hFx.out.2 hFx.out.1 (by omega) (by omega))
        clear hcell4 hF
        go_wp2_with fail
        refine HS.out.mono ?_
        rintro e w' ⟨rfl, hw⟩
        obtain rfl := hw.symm
        clear hw
        go_wp2_with fail
        refine HT.out.mono ?_
        rintro e w' ⟨rfl, hw⟩
        obtain rfl := hw.symm
        clear hw
        go_wp2_with fail
        go_round
        case rel => exact ⟨x + 1, by omega, by go_num, rfl, by go_num⟩
        case measure => simp [intOf]; omega
    · obtain rfl : m = x := by omega
      go_wp2_with fail
      go_ret2
      exact ⟨rfl, rfl⟩
end Go.Proofs.YtmgoabedickooaaGreatDoor.Kp
namespace Go.Proofs.YtmgoabedickooaaGreatDoor.Kp
set_option maxRecDepth 100000
open Go.RowKit
set_option linter.unusedVariables false

/-- What an append of one byte makes of a list. -/
structure Grew (w w' : World) (e e' : Ent) (z : Int) : Prop where
  n : e'.n = e.n + 1
  ok : e'.n ≤ 100000 → e'.Ok w'
  sh : ∀ f : Nat → Int, e.Sh w f → f e.n = z → e'.Sh w' f
  how : (e'.a = e.a ∧ e'.c = e.c ∧ ∃ b off, e.a = some ⟨b, off, none⟩ ∧ e.n < e.c ∧ Wk (fun b' i' => b' = b ∧ i' = off + e.n) w w') ∨ (Below w.heap.size w w' ∧ ∀ b x, e'.In b x → b = w.heap.size)

theorem run_append_ent (w : World) (e : Ent) (z : Int) (nb : Nat) (ty : TypeId) (ho : e.Ok w) (hn : e.n ≤ 99999) (hz : w.cell? ⟨nb, 0, none⟩ = some (.int .u8 z)) :
    ∃ e' w', (Builtin.append_ #[44, 44] ty #[e.val, .slice (some ⟨nb, 0, none⟩) 1 1]).run Tryz.prog w = .ok e'.val w' ∧ Grew w w' e e' z := by
  obtain ⟨i, hi, hz0, hz1, hz2⟩ := info_parts info5
  obtain ⟨a, n, c⟩ := e
  obtain ⟨h1, h2, h3, h3', h4⟩ := ho
  simp only at h1 h2 h3 h3' h4 hn
  have hsrc : Src Tryz.prog i.size 44 (.slice (some ⟨nb, 0, none⟩) 1 1) 1 [.int .u8 z] w := by
    refine Src.ofSlice w Tryz.underlying44 ⟨nb, 0, none⟩ 1 1 _ (by rw [hz1]; rfl) ?_ (by intro u hu; simp at hu; subst hu; rfl)
    intro j u hj
    match j, hj with
    | 0, hj => simp at hj; subst hj; simpa [Addr.add] using hz
  by_cases hroom : n + 1 ≤ c
  · rcases h4 with h4 | ⟨b, off, cur, rfl, hb, hs⟩
    · omega
    refine ⟨⟨some ⟨b, off, none⟩, n + 1, c⟩, w.setCells b (off + n * i.size) [.int .u8 z], ?_, ?_⟩
    · refine run_append_room_src w 44 44 ty 5 i Tryz.underlying44 hi b off n c _ 1 _ hsrc hroom ?_ ?_
      · intro j hj
        simp at hj
        subst hj
        rw [hz1, cell_of_row w b _ cur 5 (0, 0) hb]
        simp; omega
      · intro j hj
        simp [World.frozen?, hb]
    · have hset : w.setCells b (off + n * i.size) [.int .u8 z] = w.setCell ⟨b, off + n, none⟩ (.int .u8 z) := by rw [hz1, Nat.mul_one]; rfl
      rw [hset]
      have hwk : Wk (fun b' i' => b' = b ∧ i' = off + n) w (w.setCell ⟨b, off + n, none⟩ (.int .u8 z)) := .set ⟨rfl, rfl⟩ _
      have hbb : (w.setCell ⟨b, off + n, none⟩ (.int .u8 z)).heap[b]? = some (.cells (cur.setIfInBounds (off + n) (.int .u8 z)) 5 (0, 0)) := by simp [World.setCell, Array.getElem?_modify, hb]
      refine ⟨rfl, fun h5 => ⟨hroom, h2, h5, (fun h => by cases h), .inr ⟨b, off, _, rfl, hbb, by simpa using hs⟩⟩, fun f hf hfz => .inr ⟨b, off, rfl, fun j hj => ?_⟩, .inl ⟨rfl, rfl, b, off, rfl, by simp only; omega, hwk⟩⟩
      simp only at hj hfz
      by_cases e : j = n
      · subst e
        rw [cell_of_row _ b _ _ 5 (0, 0) hbb, hfz]
        have : off + j < cur.size := by omega
        simp [this]
      · rcases hf with hf | ⟨b', off', e1, hf⟩
        · simp only at hf; omega
        · simp at e1
          obtain ⟨rfl, rfl⟩ := e1
          exact hwk.cell (by rintro ⟨_, h⟩; omega) (hf j (by simp only; omega))
  · have hlt : c < n + 1 := by omega
    obtain ⟨olds, hol, hold, hsh⟩ : ∃ olds : List Value, olds.length = n ∧ (Builtin.firstCells i.size n (.slice a n c)).run Tryz.prog w.drew = .ok olds.toArray w.drew ∧ ∀ f : Nat → Int, Ent.Sh w ⟨a, n, c⟩ f → ∀ j, j < n → olds[j]? = some (.int .u8 (f j)) := by
      by_cases h0 : n = 0
      · subst h0
        obtain rfl : c = 0 := by omega
        refine ⟨[], rfl, ?_, fun f _ j hj => by omega⟩
        cases a with
        | none => exact run_firstCells_none w.drew i.size 0 0 0
        | some x => exact run_firstCells_some w.drew i.size 0 x 0 0 [] (by simp) (by simp)
      · rcases h4 with h4 | ⟨b, off, cur, rfl, hb, hs⟩
        · omega
        refine ⟨(cur.toList.drop off).take n, by simp; omega, ?_, fun f hf j hj => ?_⟩
        · refine run_firstCells_some w.drew i.size n ⟨b, off, none⟩ n c _ (by rw [hz1]; simp; omega) ?_
          intro j u hu
          rw [List.getElem?_take] at hu
          split at hu
          · rw [Addr.add_lit]
            show w.cell? _ = _
            rw [cell_of_row w b _ cur 5 (0, 0) hb]
            rw [List.getElem?_drop] at hu
            simpa using hu
          · cases hu
        · rcases hf with hf | ⟨b', off', e1, hf⟩
          · simp only at hf; omega
          · simp at e1
            obtain ⟨rfl, rfl⟩ := e1
            have := hf j hj
            rw [cell_of_row w b _ cur 5 (0, 0) hb] at this
            rw [List.getElem?_take, if_pos hj, List.getElem?_drop]
            simpa using this
    have hrun := run_append_grow_src (P := Tryz.prog) w 44 44 ty 5 i (.int .u8 0) Tryz.underlying44 hi hz0 a n c olds hold _ 1 _ hsrc hlt (by omega) (growslice_fits hlt (by rw [hz2]; omega))
    have hge := grownCap_ge w (n + 1) c 5
    have hle := grownCap_le_maxLen w (n + 1) c 5 (by unfold maxLen; omega)
    refine ⟨⟨some ⟨w.heap.size, 0, none⟩, n + 1, grownCap w (n + 1) c 5⟩, _, hrun, ?_⟩
    have hnew : (w.drew.alloc (.cells ((olds ++ [Value.int .u8 z]).toArray ++ Builtin.zeroCells (Value.int .u8 0).cells (grownCap w (n + 1) c 5 - (n + 1))) 5)).heap[w.heap.size]? = some (.cells ((olds ++ [Value.int .u8 z]).toArray ++ Builtin.zeroCells (Value.int .u8 0).cells (grownCap w (n + 1) c 5 - (n + 1))) 5 (0, 0)) := heap_alloc_new w.drew _
    refine ⟨rfl, fun h5 => ⟨hge, hle, h5, (fun h => by cases h), .inr ⟨w.heap.size, 0, _, rfl, hnew, ?_⟩⟩, fun f hf hfz => .inr ⟨w.heap.size, 0, rfl, fun j hj => ?_⟩, .inr ⟨(Below.refl _ w).drew.alloc (Nat.le_refl _) _, ?_⟩⟩
    · rw [Array.size_append, size_zeroCells]
      simp [hol, Value.cells]; omega
    · simp only at hj hfz
      rw [Nat.zero_add, cell_of_row _ w.heap.size j _ 5 (0, 0) hnew]
      rw [Array.getElem?_append_left (by simp [hol]; omega)]
      rw [List.getElem?_toArray]
      by_cases e : j = n
      · subst e; rw [List.getElem?_append_right (by omega)]; simp [hol, hfz]
      · rw [List.getElem?_append_left (by omega)]; exact hsh f hf j (by omega)
    · rintro b x ⟨off, e1, _⟩
      simp at e1
      exact e1.1.symm

theorem step_append_ent {ops : Array Oper} {o : Oper} {a : Act} {w : World} {K : Act → World → Prop} {Q : Exit → Act → World → Prop} {X : Prop} (hgd : o.guard = none) (s x : Operand)
    (hop : o.op = .call { callee := .builtin .append, args := #[s, x], argTypes := #[44, 44] }) (e : Ent) (z : Int) (nb : Nat) (hs : a.eval s = e.val) (hx : a.eval x = .slice (some ⟨nb, 0, none⟩) 1 1)
    (ho : e.Ok w) (hn : e.n ≤ 99999) (hz : w.cell? ⟨nb, 0, none⟩ = some (.int .u8 z))
    (h : ∀ e' w', Grew w w' e e' z → K (a.put o.dst (.slice e'.a e'.n e'.c)) w') : if Region.wanted o (yielded ops a.tmps) = true then Oper.wp Tryz.prog o a w K Q else X := by
  have hw : Region.wanted o (yielded ops a.tmps) = true := by simp [Region.wanted, hgd]
  rw [if_pos hw]
  obtain ⟨e', w', hr, hG⟩ := run_append_ent w e z nb o.type ho hn hz
  unfold Oper.wp execOp
  simp only [hop, resolve, invoke, builtin, Sem.run_bind, Sem.run_pure, Result.andThen_ok, List.map_toArray, List.map_cons, List.map_nil, hs, hx, hr]
  exact h e' w' hG
end Go.Proofs.YtmgoabedickooaaGreatDoor.Kp
namespace Go.Proofs.YtmgoabedickooaaGreatDoor.Kp
set_option maxRecDepth 100000
open Go.RowKit
set_option linter.unusedVariables false

/-- Blocks of lists and the book's own block may turn; of the others the cells of p alone. -/
structure Wz (p : Nat → Nat → Prop) (w w' : World) : Prop where
  os : w'.os = w.os
  tape : w'.tape = w.tape
  output : w'.output = w.output
  size : w.heap.size ≤ w'.heap.size
  same : ∀ b, b < w.heap.size → (∀ i, ¬ p b i) → (∀ cur fr, w.heap[b]? ≠ some (.cells cur 44 fr)) → (∀ cur fr, w.heap[b]? ≠ some (.cells cur 43 fr)) → w'.heap[b]? = w.heap[b]?
  blk : ∀ b cur t fr, w.heap[b]? = some (.cells cur t fr) → t ≠ 44 → t ≠ 43 → ∃ cur', w'.heap[b]? = some (.cells cur' t fr) ∧ cur'.size = cur.size ∧ ∀ i, ¬ p b i → cur'[i]? = cur[i]?
theorem Wz.refl (p : Nat → Nat → Prop) (w : World) : Wz p w w := ⟨rfl, rfl, rfl, Nat.le_refl _, fun _ _ _ _ _ => rfl, fun b cur t fr h _ _ => ⟨cur, h, rfl, fun _ _ => rfl⟩⟩
theorem Wz.ofWk {p : Nat → Nat → Prop} {w w' : World} (h : Wk p w w') : Wz p w w' := ⟨h.os, h.tape, h.output, h.size, fun b hb hp _ _ => h.same b hb hp, fun b cur t fr hb _ _ => h.blk b cur t fr hb⟩
theorem Wz.trans {p : Nat → Nat → Prop} {a b c : World} (h : Wz p a b) (k : Wz p b c) : Wz p a c := by
  refine ⟨k.os.trans h.os, k.tape.trans h.tape, k.output.trans h.output, Nat.le_trans h.size k.size, fun x hx hp h1 h2 => ?_, fun x cur t fr hx t1 t2 => ?_⟩
  · have e := h.same x hx hp h1 h2
    exact (k.same x (Nat.lt_of_lt_of_le hx h.size) hp (by rw [e]; exact h1) (by rw [e]; exact h2)).trans e
  · obtain ⟨c1, q1, q2, q3⟩ := h.blk x cur t fr hx t1 t2
    obtain ⟨c2, k1, k2, k3⟩ := k.blk x c1 t fr q1 t1 t2
    exact ⟨c2, k1, k2.trans q2, fun i hi => (k3 i hi).trans (q3 i hi)⟩
theorem Wz.weak {p q : Nat → Nat → Prop} {w w' : World} (h : Wz p w w') (hq : ∀ b i, p b i → q b i) : Wz q w w' :=
  ⟨h.os, h.tape, h.output, h.size, fun b hb hn h1 h2 => h.same b hb (fun i hp => hn i (hq b i hp)) h1 h2, fun b cur t fr hb t1 t2 => by
    obtain ⟨c1, k1, k2, k3⟩ := h.blk b cur t fr hb t1 t2
    exact ⟨c1, k1, k2, fun i hi => k3 i fun hp => hi (hq b i hp)⟩⟩
/-- A store, or an append, within a block of lists or the book's. -/
theorem Wz.ofGrown {p : Nat → Nat → Prop} {w w' : World} {row : Option Nat} (h : w.grownBy w' row) (hr : ∀ b, row = some b → b < w.heap.size → (∃ cur fr, w.heap[b]? = some (.cells cur 44 fr)) ∨ ∃ cur fr, w.heap[b]? = some (.cells cur 43 fr)) : Wz p w w' := by
  refine ⟨h.os, h.tape, h.output, h.size, fun b hb hp h1 h2 => h.block b hb fun e => ?_, fun b cur t fr hb t1 t2 => ⟨cur, ?_, rfl, fun _ _ => rfl⟩⟩
  · rcases hr b e.symm hb with ⟨c, f, hc⟩ | ⟨c, f, hc⟩
    · exact h1 c f hc
    · exact h2 c f hc
  · have hl := (Array.getElem?_eq_some_iff.1 hb).1
    rw [h.block b hl fun e => ?_]; exact hb
    rcases hr b e.symm hl with ⟨c, f, hc⟩ | ⟨c, f, hc⟩
    · rw [hb] at hc; simp at hc; exact t1 hc.2.1
    · rw [hb] at hc; simp at hc; exact t2 hc.2.1
theorem Ent.Ok.wz {p : Nat → Nat → Prop} {w w' : World} {e : Ent} (h : e.Ok w) (hw : Wz p w w') : e.Ok w' := by
  obtain ⟨h1, h2, h3, h3', h4⟩ := h
  refine ⟨h1, h2, h3, h3', ?_⟩
  rcases h4 with h4 | ⟨b, off, cur, e1, e2, e3⟩
  · exact .inl h4
  · obtain ⟨c1, k1, k2, _⟩ := hw.blk b cur 5 (0, 0) e2 (by decide) (by decide)
    exact .inr ⟨b, off, c1, e1, k1, by omega⟩
theorem Ent.Sh.wz {p : Nat → Nat → Prop} {w w' : World} {e : Ent} {f : Nat → Int} (h : e.Sh w f) (ho : e.Ok w) (hw : Wz p w w') (hp : ∀ b i, e.El b i → ¬ p b i) : e.Sh w' f := by
  rcases h with h | ⟨b, off, h1, h2⟩
  · exact .inl h
  · by_cases h0 : e.n = 0
    · exact .inl h0
    refine .inr ⟨b, off, h1, fun j hj => ?_⟩
    obtain ⟨o1, _, _, _, o4⟩ := ho
    rcases o4 with o4 | ⟨b', off', cur, e1, e2, e3⟩
    · omega
    rw [h1] at e1
    simp at e1
    obtain ⟨rfl, rfl⟩ := e1
    obtain ⟨c1, k1, k2, k3⟩ := hw.blk b cur 5 (0, 0) e2 (by decide) (by decide)
    rw [cell_of_row w' b _ c1 5 (0, 0) k1, k3 _ (hp b (off + j) ⟨off, h1, by omega, by omega⟩), ← cell_of_row w b _ cur 5 (0, 0) e2]
    exact h2 j hj

/-- One list exchanged. -/
def upd (F : Nat → Ent) (i : Nat) (e : Ent) : Nat → Ent := fun j => if j = i then e else F j
theorem upd_same (F : Nat → Ent) (i : Nat) (e : Ent) : upd F i e i = e := if_pos rfl
theorem upd_other {F : Nat → Ent} {i j : Nat} (e : Ent) (h : j ≠ i) : upd F i e j = F j := if_neg h
theorem vals_push (F : Nat → Ent) (m : Nat) (e : Ent) : vals m F ++ [e.val] = vals (m + 1) (upd F m e) := by
  unfold vals
  rw [List.range_succ, List.map_append]
  congr 1
  · apply List.map_congr_left
    intro i hi
    rw [upd_other e (by have := List.mem_range.1 hi; omega)]
  · simp [upd_same]
theorem vals_set (F : Nat → Ent) (m i : Nat) (e : Ent) (h : i < m) : (vals m F).set i e.val = vals m (upd F i e) := by
  apply List.ext_getElem?
  intro j
  rw [List.getElem?_set]
  by_cases hj : j < m
  · rw [vals_get (E := upd F i e) hj, vals_length]
    by_cases e1 : i = j
    · subst e1; rw [if_pos rfl, if_pos h, upd_same]
    · rw [if_neg e1, vals_get hj, upd_other e (fun x => e1 x.symm)]
  · have : (vals m (upd F i e))[j]? = none := by rw [List.getElem?_eq_none]; rw [vals_length]; omega
    rw [this, if_neg (by omega)]
    rw [List.getElem?_eq_none]; rw [vals_length]; omega

/-- The room of all kept lists. -/
def Ins (m : Nat) (E : Nat → Ent) : Nat → Nat → Prop := fun b x => ∃ i, i < m ∧ (E i).In b x

theorem Wz.go {p q : Nat → Nat → Prop} {a b c : World} (h : Wz p a b) (k : Wz q b c) (hq : ∀ x i, x < a.heap.size → q x i → p x i) : Wz p a c := by
  refine ⟨k.os.trans h.os, k.tape.trans h.tape, k.output.trans h.output, Nat.le_trans h.size k.size, fun x hx hp h1 h2 => ?_, fun x cur t fr hx t1 t2 => ?_⟩
  · have e := h.same x hx hp h1 h2
    exact (k.same x (Nat.lt_of_lt_of_le hx h.size) (fun i hi => hp i (hq x i hx hi)) (by rw [e]; exact h1) (by rw [e]; exact h2)).trans e
  · have hl := (Array.getElem?_eq_some_iff.1 hx).1
    obtain ⟨c1, q1, q2, q3⟩ := h.blk x cur t fr hx t1 t2
    obtain ⟨c2, k1, k2, k3⟩ := k.blk x c1 t fr q1 t1 t2
    exact ⟨c2, k1, k2.trans q2, fun i hi => (k3 i (fun hh => hi (hq x i hl hh))).trans (q3 i hi)⟩
theorem own_at {w w' : World} {base m : Nat} {v : Value} {xs : List Value} {t : TypeId} (h : w.ownsRow base t 1 v m xs) (hk : ∀ q, v.ownBlock = some q → w'.heap[q]? = w.heap[q]?) : w'.ownsRow base t 1 v m xs := by
  obtain ⟨h1, h2⟩ := h
  refine ⟨h1, ?_⟩
  rcases h2 with h2 | ⟨g, cap, cur, rfl, hb, hg, r⟩
  · exact .inl h2
  · exact .inr ⟨g, cap, cur, rfl, hb, by rw [hk g rfl]; exact hg, r⟩
theorem own_blk {w : World} {base m : Nat} {v : Value} {xs : List Value} {t : TypeId} (h : w.ownsRow base t 1 v m xs) {q : Nat} (hq : v.ownBlock = some q) : ∃ cur, w.heap[q]? = some (.cells cur t (0, 0)) := by
  obtain ⟨h1, h2⟩ := h
  rcases h2 with ⟨rfl, _⟩ | ⟨g, cap, cur, rfl, hb, hg, r⟩
  · simp [Value.ownBlock] at hq
  · simp [Value.ownBlock] at hq; subst hq; exact ⟨cur, hg⟩

theorem own_base {w : World} {base m : Nat} {v : Value} {xs : List Value} {t : TypeId} (h : w.ownsRow base t 1 v m xs) {q : Nat} (hq : v.ownBlock = some q) : base ≤ q := by
  obtain ⟨h1, h2⟩ := h
  rcases h2 with ⟨rfl, _⟩ | ⟨g, cap, cur, rfl, hb, hg, r⟩
  · simp [Value.ownBlock] at hq
  · simp [Value.ownBlock] at hq; subst hq; exact hb

/-- The lists that are grown, in the middle of it. -/
structure St (w0 w : World) (k base m mg : Nat) (ps : Int) (T : Nat → Nat) (E F : Nat → Ent) (v2 v3 v4 : Value) : Prop where
  bk : Bk w k ps v2 v3 v4
  t2 : w.ownsRow base 44 1 v2 m (vals m E)
  t4 : w.ownsRow base 44 1 v4 mg (vals mg F)
  sep : ∀ q, v2.ownBlock = some q → v4.ownBlock ≠ some q
  e : ∀ i, i < m → (E i).Ok w ∧ (E i).Sh w fun j => mk ps (i + 1) j
  f : ∀ i, i < mg → (F i).Ok w ∧ ((F i).Sh w fun j => mk ps (i + 1) j) ∧ (F i).n = (E i).n + T i ∧ (((F i).a = (E i).a ∧ (F i).c = (E i).c) ∨ ∀ b x, (F i).In b x → w0.heap.size ≤ b)
  d2 : Dj mg F
  z : Wz (Ins m E) w0 w
  low : base ≤ k ∧ base ≤ w0.heap.size ∧ ∀ l, l < m → ∀ b x, (E l).In b x → base ≤ b
  bl : ∀ b, b < base → w.heap[b]? = w0.heap[b]?

theorem ok_in {w : World} {e : Ent} {b x : Nat} (h : e.Ok w) (hi : e.In b x) : ∃ cur, w.heap[b]? = some (.cells cur 5 (0, 0)) := by
  obtain ⟨off, h1, h2, h3⟩ := hi
  obtain ⟨_, _, _, _, o4⟩ := h
  rcases o4 with o4 | ⟨b', off', cur, e1, e2, e3⟩
  · omega
  · rw [h1] at e1; simp at e1; exact ⟨cur, by rw [e1.1]; exact e2⟩
theorem ok_lt {w : World} {e : Ent} {b x : Nat} (h : e.Ok w) (hi : e.In b x) : b < w.heap.size := by
  obtain ⟨cur, hc⟩ := ok_in h hi; exact (Array.getElem?_eq_some_iff.1 hc).1

/-- One list has grown by a byte, and the new list is laid in its place. -/
theorem st_grow {w0 w w1 : World} {k base m mg i g cap : Nat} {ps : Int} {T : Nat → Nat} {E F : Nat → Ent} {v2 v3 : Value} {e' : Ent}
    (h : St w0 w k base m mg ps T E F v2 v3 (.slice (some ⟨g, 0, none⟩) mg cap)) (hi : i < mg) (hmm : mg ≤ m) (hG : Grew w w1 (F i) e' (mk ps (i + 1) (F i).n)) (hbd : (F i).n ≤ 99999) (hdm : Dj m E) (hE0 : ∀ l, l < m → (E l).Ok w0) :
    St w0 (w1.setCell ⟨g, i, none⟩ e'.val) k base m mg ps (fun j => if j = i then T j + 1 else T j) E (upd F i e') v2 v3 (.slice (some ⟨g, 0, none⟩) mg cap) := by
  have hgc := own_blk h.t4 (q := g) rfl
  obtain ⟨curg, hgc⟩ := hgc
  have hFi := h.f i hi
  -- what the append has written
  obtain ⟨p, hp1, hp2, hwz⟩ : ∃ p : Nat → Nat → Prop, (∀ b x, p b x → (F i).In b x ∧ ¬ (F i).El b x) ∧ (∀ b, (∀ x, ¬ p b x) → b < w.heap.size → w1.heap[b]? = w.heap[b]?) ∧ Wz p w w1 := by
    rcases hG.how with ⟨_, _, b, off, ha, hlt, hwk⟩ | ⟨hbl, _⟩
    · refine ⟨fun b' x' => b' = b ∧ x' = off + (F i).n, ?_, fun b' hb hl => hwk.same b' hl hb, .ofWk hwk⟩
      rintro b' x' ⟨rfl, rfl⟩
      refine ⟨⟨off, ha, by omega, by omega⟩, ?_⟩
      rintro ⟨off', e1, _, e3⟩
      rw [ha] at e1
      simp at e1
    · exact ⟨fun _ _ => False, fun _ _ h => h.elim, fun b _ hl => hbl.block b hl, .ofWk (.ofBelow hbl)⟩
  have np : ∀ b cur t, w.heap[b]? = some (.cells cur t (0, 0)) → t ≠ 5 → ∀ x, ¬ p b x := fun b cur t hb ht x hx => by
    obtain ⟨c, hc⟩ := ok_in hFi.1 (hp1 b x hx).1
    rw [hb] at hc
    have hc2 : t = 5 := by simp at hc; first | exact hc.2 | exact hc.2.1
    exact ht hc2
  have hk1 : w1.heap[k]? = w.heap[k]? := hp2 k (np k _ _ h.bk (by decide)) h.bk.lt
  have hg1 : w1.heap[g]? = some (.cells curg 44 (0, 0)) := by rw [hp2 g (np g _ _ hgc (by decide)) (Array.getElem?_eq_some_iff.1 hgc).1]; exact hgc
  have hgk : k ≠ g := fun e => by
    have hb := h.bk
    unfold Bk at hb; rw [e, hgc] at hb; simp at hb
  have o2 : Only g w1 (w1.setCell ⟨g, i, none⟩ e'.val) := (Only.refl g w1).set i _
  have z2 : Wz p w1 (w1.setCell ⟨g, i, none⟩ e'.val) := .ofGrown o2.grown fun b hb _ => by
    obtain rfl := Option.some.inj hb
    exact .inl ⟨curg, (0, 0), hg1⟩
  have z12 : Wz p w (w1.setCell ⟨g, i, none⟩ e'.val) := hwz.trans z2
  have hsame : ∀ b x, (F i).a = (E i).a → (F i).c = (E i).c → ((F i).In b x ↔ (E i).In b x) := fun b x e1 e2 => by unfold Ent.In; rw [e1, e2]
  -- the written cells are no element of another list
  have nE : ∀ l, l < m → ∀ b x, (E l).El b x → ¬ p b x := fun l hl b x he hx => by
    obtain ⟨q1, q2⟩ := hp1 b x hx
    have hle := (hE0 l hl).1
    rcases hFi.2.2.2 with ⟨e1, e2⟩ | hfr
    · by_cases el : l = i
      · subst el
        apply q2
        obtain ⟨off, a1, a2, a3⟩ := he
        exact ⟨off, by rw [e1]; exact a1, a2, by have := hFi.2.2.1; omega⟩
      · exact hdm l i hl (by omega) el b x (he.mem hle) ((hsame b x e1 e2).1 q1)
    · have h1 := hfr b x q1
      have h2 := ok_lt (hE0 l hl) (he.mem hle)
      omega
  have nF : ∀ l, l < mg → l ≠ i → ∀ b x, (F l).El b x → ¬ p b x := fun l hl el b x he hx =>
    h.d2 l i hl hi el b x (he.mem (h.f l hl).1.1) (hp1 b x hx).1
  have he' : ∀ b x, e'.In b x → (F i).In b x ∨ b = w.heap.size := fun b x hx => by
    rcases hG.how with ⟨e1, e2, _⟩ | ⟨_, hfr⟩
    · left; unfold Ent.In at *; rw [← e1, ← e2]; exact hx
    · right; exact hfr b x hx
  refine ⟨?_, ?_, ?_, h.sep, fun l hl => ⟨(h.e l hl).1.wz z12, (h.e l hl).2.wz (h.e l hl).1 z12 (nE l hl)⟩, fun l hl => ?_, ?_, ?_, h.low, fun b hb => ?_⟩
  · refine h.bk.at ?_
    rw [Below.heap_setCell w1 _ _ k hgk]; exact hk1
  · refine own_at h.t2 fun q hq => ?_
    obtain ⟨cq, hcq⟩ := own_blk h.t2 hq
    have hne : q ≠ g := fun e => h.sep q hq (by rw [e]; rfl)
    rw [Below.heap_setCell w1 _ _ q hne]
    exact hp2 q (np q _ _ hcq (by decide)) (Array.getElem?_eq_some_iff.1 hcq).1
  · obtain ⟨u1, u2⟩ := h.t4
    refine ⟨by rw [vals_length, Nat.mul_one], ?_⟩
    rcases u2 with ⟨e1, _⟩ | ⟨g', cap', cur, e1, hb', hg', hn', hc', hs', ht'⟩
    · simp at e1
    · simp at e1
      obtain ⟨rfl, rfl⟩ := e1
      rw [hgc] at hg'
      simp at hg'
      subst hg'
      refine .inr ⟨g, cap, curg.setIfInBounds i e'.val, rfl, hb', by simp [World.setCell, Array.getElem?_modify, hg1], hn', hc', by simpa using hs', ?_⟩
      rw [Array.toList_setIfInBounds, List.take_set, ht', vals_set F mg i e' hi]
  · by_cases el : l = i
    · subst el
      rw [upd_same, if_pos rfl]
      refine ⟨(hG.ok (by rw [hG.n]; omega)).wz z2, ?_, by rw [hG.n, hFi.2.2.1]; omega, ?_⟩
      · have s1 := hG.sh (fun j => mk ps (l + 1) j) hFi.2.1 rfl
        exact s1.wz (p := fun _ _ => False) (hG.ok (by rw [hG.n]; omega)) (.ofGrown o2.grown fun b hb _ => by
          obtain rfl := Option.some.inj hb
          exact .inl ⟨curg, (0, 0), hg1⟩) fun _ _ _ h => h
      · rcases hG.how with ⟨e1, e2, _⟩ | ⟨_, hfr⟩
        · rcases hFi.2.2.2 with ⟨f1, f2⟩ | ff
          · exact .inl ⟨e1.trans f1, e2.trans f2⟩
          · exact .inr fun b x hx => ff b x (by unfold Ent.In at *; rw [← e1, ← e2]; exact hx)
        · exact .inr fun b x hx => by rw [hfr b x hx]; exact h.z.size
    · rw [upd_other e' el, if_neg el]
      have q := h.f l hl
      exact ⟨q.1.wz z12, q.2.1.wz q.1 z12 (nF l hl el), q.2.2.1, q.2.2.2⟩
  · intro x y hx hy hxy b c hbx hby
    by_cases ex : x = i
    · subst ex
      rw [upd_same] at hbx
      rw [upd_other e' (fun e => hxy e.symm)] at hby
      rcases he' b c hbx with h1 | h1
      · exact h.d2 x y hx hy hxy b c h1 hby
      · have := ok_lt (h.f y hy).1 hby; omega
    · rw [upd_other e' ex] at hbx
      by_cases ey : y = i
      · subst ey
        rw [upd_same] at hby
        rcases he' b c hby with h1 | h1
        · exact h.d2 x y hx hy hxy b c hbx h1
        · have := ok_lt (h.f x hx).1 hbx; omega
      · rw [upd_other e' ey] at hby
        exact h.d2 x y hx hy hxy b c hbx hby
  · refine h.z.go z12 fun b x hb hx => ?_
    obtain ⟨q1, q2⟩ := hp1 b x hx
    rcases hFi.2.2.2 with ⟨e1, e2⟩ | hfr
    · exact ⟨i, by omega, (hsame b x e1 e2).1 q1⟩
    · have := hfr b x q1; omega
  · obtain ⟨l1, l2, l3⟩ := h.low
    have hgb := own_base h.t4 (q := g) rfl
    have hzs := h.z.size
    rw [Below.heap_setCell w1 _ _ b (fun e => by have e' : b = g := e; omega)]
    refine (hp2 b (fun x hx => ?_) (by omega)).trans (h.bl b hb)
    obtain ⟨q1, _⟩ := hp1 b x hx
    rcases hFi.2.2.2 with ⟨e1, e2⟩ | hfr
    · have := l3 i (by omega) b x ((hsame b x e1 e2).1 q1); omega
    · have := hfr b x q1; omega
end Go.Proofs.YtmgoabedickooaaGreatDoor.Kp
