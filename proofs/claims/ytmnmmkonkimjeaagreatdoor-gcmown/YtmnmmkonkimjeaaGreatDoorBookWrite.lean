import Derived.Test.YtmnmmkonkimjeaaGreatDoorABytes
import Derived.Test.YtmnmmkonkimjeaaGreatDoorRows
import Derived.Deep.RegionHeld
namespace Go.Proofs.YtmnmmkonkimjeaaGreatDoor
open Go.RowKit
set_option linter.unusedVariables false

/-- A row of bytes in a block of its own. -/
def Row (w : World) (g : Nat) (zs : List Int) : Prop := w.heap[g]? = some (.cells (cells zs).toArray 5 (0, 0))

theorem Row.cell {w : World} {g : Nat} {zs : List Int} (h : Row w g zs) (i : Nat) (hi : i < zs.length) : w.cell? ⟨g, i, none⟩ = some (.int .u8 (zs.getD i 0)) := by
  rw [cell_of_row w g i _ 5 (0, 0) h]
  simpa using cells_get zs i hi
theorem Row.lt {w : World} {g : Nat} {zs : List Int} (h : Row w g zs) : g < w.heap.size := (Array.getElem?_eq_some_iff.1 h).1
theorem Row.bs {w : World} {g : Nat} {zs : List Int} (h : Row w g zs) (hb : ∀ z ∈ zs, 0 ≤ z ∧ z ≤ 255) : Bs w (some ⟨g, 0, none⟩) zs.length zs :=
  ⟨rfl, hb, .inr ⟨g, 0, rfl, fun i hi => by rw [Nat.zero_add]; exact h.cell i hi⟩⟩
theorem Row.kept {w w' : World} {g : Nat} {zs : List Int} {r : Option Nat} (h : Row w g zs) (hg : w.grownBy w' r) (hr : some g ≠ r) : Row w' g zs := by
  unfold Row
  rw [hg.block g h.lt hr]; exact h
theorem Row.unfrozen {w : World} {g : Nat} {zs : List Int} (h : Row w g zs) (i : Nat) : w.frozen? ⟨g, i, none⟩ = false := by
  unfold Row at h
  simp [World.frozen?, h]
theorem Row.set {w : World} {g : Nat} {zs : List Int} (h : Row w g zs) (i : Nat) (x : Int) : Row (w.setCell ⟨g, i, none⟩ (.int .u8 x)) g (zs.set i x) := by
  unfold Row at *
  simp [World.setCell, Array.getElem?_modify, h, cells]

theorem made_zeros (n : Nat) : (madeCells (Value.int .u8 0).cells (n * 1)).toList = cells (List.replicate n 0) := by
  simp [madeCells, cells, Value.cells]
  apply List.ext_getElem
  · simp
  · intro i h1 h2; simp [Nat.mod_one]

theorem row_of_own {w : World} {base g n : Nat} {xs : List Int} (h : w.ownsRow base 5 1 (.slice (some ⟨g, 0, none⟩) n n) n (cells xs)) : Row w g xs := by
  obtain ⟨h1, h2⟩ := h
  rcases h2 with ⟨e, _⟩ | ⟨g', cap, cur, e, _, hg, _, _, hs, ht⟩
  · simp at e
  · simp at e
    obtain ⟨rfl, rfl⟩ := e
    unfold Row
    rw [hg]
    have : cur.toList = cells xs := by rw [← ht, List.take_of_length_le (by simp [hs])]
    rw [← this]

/-- Nothing but block r has turned, and no block has come. -/
structure Only (r : Nat) (w w' : World) : Prop where
  os : w'.os = w.os
  tape : w'.tape = w.tape
  output : w'.output = w.output
  size : w'.heap.size = w.heap.size
  block : ∀ k, k ≠ r → w'.heap[k]? = w.heap[k]?
theorem Only.refl (r : Nat) (w : World) : Only r w w := ⟨rfl, rfl, rfl, rfl, fun _ _ => rfl⟩
theorem Only.trans {r : Nat} {x y z : World} (h : Only r x y) (k : Only r y z) : Only r x z :=
  ⟨k.os.trans h.os, k.tape.trans h.tape, k.output.trans h.output, k.size.trans h.size, fun i hi => (k.block i hi).trans (h.block i hi)⟩
theorem Only.drewN {r : Nat} {x y : World} (h : Only r x y) (n : Nat) : Only r x (y.drewN n) := h.trans ⟨rfl, rfl, rfl, rfl, fun _ _ => rfl⟩
theorem Only.set {r : Nat} {x y : World} (h : Only r x y) (i : Nat) (v : Value) : Only r x (y.setCell ⟨r, i, none⟩ v) :=
  h.trans ⟨rfl, rfl, rfl, by simp [World.setCell], fun k hk => Below.heap_setCell _ _ _ _ hk⟩
theorem Only.grown {r : Nat} {x y : World} (h : Only r x y) : x.grownBy y (some r) := ⟨h.os, h.tape, h.output, by rw [h.size]; exact Nat.le_refl _, fun k _ hr => h.block k (fun e => hr (by rw [e]))⟩
theorem Only.below {r B : Nat} {x y : World} (h : Only r x y) (hB : B ≤ r) : Below B x y := ⟨h.os, h.tape, h.output, by rw [h.size]; exact Nat.le_refl _, fun k hk => h.block k (by omega)⟩
end Go.Proofs.YtmnmmkonkimjeaaGreatDoor
namespace Go.Proofs.YtmnmmkonkimjeaaGreatDoor
open Go.RowKit
set_option linter.unusedVariables false

/-- Of the blocks that were there only the cells of p may have turned; each block stays of its kind and length. -/
structure Wk (p : Nat → Nat → Prop) (w w' : World) : Prop where
  os : w'.os = w.os
  tape : w'.tape = w.tape
  output : w'.output = w.output
  size : w.heap.size ≤ w'.heap.size
  same : ∀ b, b < w.heap.size → (∀ i, ¬ p b i) → w'.heap[b]? = w.heap[b]?
  blk : ∀ b cur t fr, w.heap[b]? = some (.cells cur t fr) → ∃ cur', w'.heap[b]? = some (.cells cur' t fr) ∧ cur'.size = cur.size ∧ ∀ i, ¬ p b i → cur'[i]? = cur[i]?
theorem Wk.refl (p : Nat → Nat → Prop) (w : World) : Wk p w w := ⟨rfl, rfl, rfl, Nat.le_refl _, fun _ _ _ => rfl, fun b cur t fr h => ⟨cur, h, rfl, fun _ _ => rfl⟩⟩
theorem Wk.trans {p : Nat → Nat → Prop} {a b c : World} (h : Wk p a b) (k : Wk p b c) : Wk p a c :=
  ⟨k.os.trans h.os, k.tape.trans h.tape, k.output.trans h.output, Nat.le_trans h.size k.size, fun i hi hp => (k.same i (Nat.lt_of_lt_of_le hi h.size) hp).trans (h.same i hi hp), fun x cur t fr hx => by
    obtain ⟨c1, h1, h2, h3⟩ := h.blk x cur t fr hx
    obtain ⟨c2, k1, k2, k3⟩ := k.blk x c1 t fr h1
    exact ⟨c2, k1, k2.trans h2, fun i hi => (k3 i hi).trans (h3 i hi)⟩⟩
theorem Wk.weak {p q : Nat → Nat → Prop} {w w' : World} (h : Wk p w w') (hq : ∀ b i, p b i → q b i) : Wk q w w' :=
  ⟨h.os, h.tape, h.output, h.size, fun b hb hn => h.same b hb fun i hp => hn i (hq b i hp), fun b cur t fr hb => by
    obtain ⟨c1, h1, h2, h3⟩ := h.blk b cur t fr hb
    exact ⟨c1, h1, h2, fun i hi => h3 i fun hp => hi (hq b i hp)⟩⟩
theorem Wk.set {p : Nat → Nat → Prop} {w : World} {b i : Nat} (hp : p b i) (v : Value) : Wk p w (w.setCell ⟨b, i, none⟩ v) := by
  refine ⟨rfl, rfl, rfl, by simp [World.setCell], fun k hk hn => Below.heap_setCell w ⟨b, i, none⟩ v k (fun e => hn i (by have : k = b := e; rw [this]; exact hp)), fun k cur t fr hk => ?_⟩
  by_cases e : k = b
  · subst e
    refine ⟨cur.setIfInBounds i v, by simp [World.setCell, Array.getElem?_modify, hk], by simp, fun j hj => ?_⟩
    have : i ≠ j := fun e => hj (e ▸ hp)
    simp [this]
  · exact ⟨cur, by rw [Below.heap_setCell w _ v k e]; exact hk, rfl, fun _ _ => rfl⟩
theorem Wk.ofBelow {p : Nat → Nat → Prop} {w w' : World} (h : Below w.heap.size w w') : Wk p w w' :=
  ⟨h.os, h.tape, h.output, h.size, fun b hb _ => h.block b hb, fun b cur t fr hb => ⟨cur, by rw [h.block b (Array.getElem?_eq_some_iff.1 hb).1]; exact hb, rfl, fun _ _ => rfl⟩⟩
theorem Wk.ofDrawn {p : Nat → Nat → Prop} {w w' : World} (h : Drawn w w') : Wk p w w' := .ofBelow h.below
theorem Wk.cell {p : Nat → Nat → Prop} {w w' : World} (h : Wk p w w') {b i : Nat} {v : Value} (hp : ¬ p b i) (hc : w.cell? ⟨b, i, none⟩ = some v) : w'.cell? ⟨b, i, none⟩ = some v := by
  have hc' := hc
  unfold World.cell? at hc
  simp only at hc
  split at hc <;> rename_i hq
  · obtain ⟨c1, h1, h2, h3⟩ := h.blk b _ _ _ hq
    rw [cell_of_row w' b i c1 _ _ h1, h3 i hp]
    rw [cell_of_row w b i _ _ _ hq] at hc'
    exact hc'
  all_goals simp_all
theorem Wk.blk_of {p : Nat → Nat → Prop} {w w' : World} (h : Wk p w w') {b : Nat} {cur : Array Value} {t : TypeId} {fr : Nat × Nat} (hb : w.heap[b]? = some (.cells cur t fr)) (hp : ∀ i, ¬ p b i) : w'.heap[b]? = some (.cells cur t fr) := by
  rw [h.same b (Array.getElem?_eq_some_iff.1 hb).1 hp]; exact hb
end Go.Proofs.YtmnmmkonkimjeaaGreatDoor
namespace Go.Proofs.YtmnmmkonkimjeaaGreatDoor
open Go.RowKit
set_option linter.unusedVariables false

/-- The book's cells: its pass, its lists of bytes, what they were, what they were grown to; all other lists are nil. -/
def bookRest : List Value := List.replicate 48 (.slice none 0 0)
def bookCells (ps : Int) (v2 v3 v4 : Value) : Array Value := (.int .i64 0 :: .int .i64 ps :: v2 :: v3 :: v4 :: bookRest).toArray
def Bk (w : World) (k : Nat) (ps : Int) (v2 v3 v4 : Value) : Prop := w.heap[k]? = some (.cells (bookCells ps v2 v3 v4) 43 (0, 0))
section
variable {w w' : World} {k : Nat} {ps : Int} {v2 v3 v4 : Value}
theorem Bk.nils (h : Bk w k ps v2 v3 v4) (i : Nat) (h5 : 5 ≤ i) (h53 : i < 53) : w.cell? ⟨k, i, none⟩ = some (.slice none 0 0) := by
  rw [cell_of_row w k i _ _ (0, 0) h]
  obtain ⟨j, rfl⟩ : ∃ j, i = j + 5 := ⟨i - 5, by omega⟩
  have hj : j < 48 := by omega
  unfold bookCells
  rw [List.getElem?_toArray]
  simp only [List.getElem?_cons_succ]
  unfold bookRest
  rw [List.getElem?_replicate, if_pos hj]
theorem Bk.c0 (h : Bk w k ps v2 v3 v4) : w.cell? ⟨k, 0, none⟩ = some (.int .i64 0) := by rw [cell_of_row w k 0 _ _ (0, 0) h]; rfl
theorem Bk.c1 (h : Bk w k ps v2 v3 v4) : w.cell? ⟨k, 1, none⟩ = some (.int .i64 ps) := by rw [cell_of_row w k 1 _ _ (0, 0) h]; rfl
theorem Bk.c2 (h : Bk w k ps v2 v3 v4) : w.cell? ⟨k, 2, none⟩ = some v2 := by rw [cell_of_row w k 2 _ _ (0, 0) h]; rfl
theorem Bk.c3 (h : Bk w k ps v2 v3 v4) : w.cell? ⟨k, 3, none⟩ = some v3 := by rw [cell_of_row w k 3 _ _ (0, 0) h]; rfl
theorem Bk.c4 (h : Bk w k ps v2 v3 v4) : w.cell? ⟨k, 4, none⟩ = some v4 := by rw [cell_of_row w k 4 _ _ (0, 0) h]; rfl
theorem Bk.fz (h : Bk w k ps v2 v3 v4) (i : Nat) : w.frozen? ⟨k, i, none⟩ = false := by unfold Bk at h; simp [World.frozen?, h]
theorem Bk.lt (h : Bk w k ps v2 v3 v4) : k < w.heap.size := (Array.getElem?_eq_some_iff.1 h).1
theorem Bk.at (h : Bk w k ps v2 v3 v4) (hk : w'.heap[k]? = w.heap[k]?) : Bk w' k ps v2 v3 v4 := by unfold Bk; rw [hk]; exact h
theorem Bk.set1 (h : Bk w k ps v2 v3 v4) (q : Int) : Bk (w.setCell ⟨k, 1, none⟩ (.int .i64 q)) k q v2 v3 v4 := by
  unfold Bk at *; simp [World.setCell, Array.getElem?_modify, h, bookCells]
theorem Bk.set2 (h : Bk w k ps v2 v3 v4) (v : Value) : Bk (w.setCell ⟨k, 2, none⟩ v) k ps v v3 v4 := by
  unfold Bk at *; simp [World.setCell, Array.getElem?_modify, h, bookCells]
theorem Bk.set3 (h : Bk w k ps v2 v3 v4) (v : Value) : Bk (w.setCell ⟨k, 3, none⟩ v) k ps v2 v v4 := by
  unfold Bk at *; simp [World.setCell, Array.getElem?_modify, h, bookCells]
theorem Bk.set4 (h : Bk w k ps v2 v3 v4) (v : Value) : Bk (w.setCell ⟨k, 4, none⟩ v) k ps v2 v3 v := by
  unfold Bk at *; simp [World.setCell, Array.getElem?_modify, h, bookCells]
end

/-- The mark of element j of the list of that number. -/
def mk (ps id j : Int) : Int := if ps = 1 then (id * 97 + j * 31) % 256 else (id / 256 * 59 + j * 13 + id % 256 * 3 + 1) % 256
theorem mk_byte (ps id j : Int) : 0 ≤ mk ps id j ∧ mk ps id j ≤ 255 := by unfold mk; split <;> omega

set_option maxHeartbeats 400000 in
theorem byteMark_ (k : Nat) (ps id j : Int) (v2 v3 v4 : Value) (w : World) (h : Bk w k ps v2 v3 v4) (i0 : 0 ≤ id) (i1 : id ≤ 100000) (j0 : 0 ≤ j) (j1 : j ≤ 10000000) :
    Calls Tryz.prog 133 #[.pointer (some ⟨k, 0, none⟩), .int .i64 id, .int .i64 j] w fun en w' => en = .returned (.int .u8 (mk ps id j)) ∧ w' = w := by
  have hc := h.c1
  clear h
  by_cases hp : ps = 1
  · have hm : Hid (mk ps id j = (id * 97 + j * 31) % 256) := if_pos hp
    have hb : (ps == 1) = true := by rw [beq_iff_eq]; exact hp
    clear hp
    generalize mk ps id j = z at *
    go_enter Tryz.func133, Tryz.ntmps133
    go_wp2
    go_ret
    exact ⟨by rw [hm.out]; rfl, rfl⟩
  · have hm : Hid (mk ps id j = (id / 256 * 59 + j * 13 + id % 256 * 3 + 1) % 256) := if_neg hp
    have hb : (ps == 1) = false := by rw [beq_eq_false_iff_ne]; exact hp
    clear hp
    generalize mk ps id j = z at *
    go_enter Tryz.func133, Tryz.ntmps133
    go_wp2
    go_ret
    exact ⟨by rw [hm.out]; rfl, rfl⟩
end Go.Proofs.YtmnmmkonkimjeaaGreatDoor
namespace Go.Proofs.YtmnmmkonkimjeaaGreatDoor
open Go.RowKit
set_option linter.unusedVariables false

/-- A list that is kept. -/
structure Ent where
  a : Option Addr
  n : Nat
  c : Nat
def Ent.val (e : Ent) : Value := .slice e.a e.n e.c
/-- Its room, and its elements. -/
def Ent.In (e : Ent) (b i : Nat) : Prop := ∃ off, e.a = some ⟨b, off, none⟩ ∧ off ≤ i ∧ i < off + e.c
def Ent.El (e : Ent) (b i : Nat) : Prop := ∃ off, e.a = some ⟨b, off, none⟩ ∧ off ≤ i ∧ i < off + e.n
/-- It lies in a block of bytes that may be written. -/
def Ent.Ok (w : World) (e : Ent) : Prop := e.n ≤ e.c ∧ e.c ≤ maxLen ∧ e.n ≤ 100000 ∧ (e.a = none → e.c = 0) ∧ (e.c = 0 ∨ ∃ b off cur, e.a = some ⟨b, off, none⟩ ∧ w.heap[b]? = some (.cells cur 5 (0, 0)) ∧ off + e.c ≤ cur.size)
/-- It shows these bytes. -/
def Ent.Sh (w : World) (e : Ent) (f : Nat → Int) : Prop := e.n = 0 ∨ ∃ b off, e.a = some ⟨b, off, none⟩ ∧ ∀ j, j < e.n → w.cell? ⟨b, off + j, none⟩ = some (.int .u8 (f j))
theorem Ent.Ok.wk {p : Nat → Nat → Prop} {w w' : World} {e : Ent} (h : e.Ok w) (hw : Wk p w w') : e.Ok w' := by
  obtain ⟨h1, h2, h3, h3', h4⟩ := h
  refine ⟨h1, h2, h3, h3', ?_⟩
  rcases h4 with h4 | ⟨b, off, cur, e1, e2, e3⟩
  · exact .inl h4
  · obtain ⟨c1, k1, k2, _⟩ := hw.blk b cur 5 (0, 0) e2
    exact .inr ⟨b, off, c1, e1, k1, by omega⟩
theorem Ent.Sh.wk {p : Nat → Nat → Prop} {w w' : World} {e : Ent} {f : Nat → Int} (h : e.Sh w f) (hw : Wk p w w') (hp : ∀ b i, e.El b i → ¬ p b i) : e.Sh w' f := by
  rcases h with h | ⟨b, off, h1, h2⟩
  · exact .inl h
  · exact .inr ⟨b, off, h1, fun j hj => hw.cell (hp b (off + j) ⟨off, h1, by omega, by omega⟩) (h2 j hj)⟩
theorem Ent.El.blk {w : World} {e : Ent} {b i : Nat} (h : e.El b i) (ho : e.Ok w) : ∃ cur, w.heap[b]? = some (.cells cur 5 (0, 0)) := by
  obtain ⟨off, h1, h2, h3⟩ := h
  obtain ⟨e1, _, _, _, e4⟩ := ho
  rcases e4 with e4 | ⟨b', off', cur, k1, k2, k3⟩
  · omega
  · rw [h1] at k1
    simp at k1
    exact ⟨cur, by rw [k1.1]; exact k2⟩
theorem Ent.El.mem {e : Ent} {b i : Nat} (h : e.El b i) (hn : e.n ≤ e.c) : e.In b i := by
  obtain ⟨off, h1, h2, h3⟩ := h; exact ⟨off, h1, h2, by omega⟩
/-- Apart from one another, spare room too. -/
def Dj (m : Nat) (E : Nat → Ent) : Prop := ∀ i j, i < m → j < m → i ≠ j → ∀ b x, (E i).In b x → ¬ (E j).In b x
def vals (m : Nat) (E : Nat → Ent) : List Value := (List.range m).map fun i => (E i).val
theorem vals_length (m : Nat) (E : Nat → Ent) : (vals m E).length = m := by simp [vals]
theorem vals_get {m : Nat} {E : Nat → Ent} {i : Nat} (h : i < m) : (vals m E)[i]? = some (E i).val := by simp [vals, h]

/-- A table of lists. -/
theorem tab_at {w : World} {base m : Nat} {v : Value} {E : Nat → Ent} (h : w.ownsRow base 22 1 v m (vals m E)) :
    ∃ a c, v = .slice a m c ∧ (m = 0 ∨ ∃ g, a = some ⟨g, 0, none⟩ ∧ (∃ cur, w.heap[g]? = some (.cells cur 22 (0, 0))) ∧ ∀ i, i < m → w.cell? ⟨g, i, none⟩ = some (E i).val) := by
  obtain ⟨h1, h2⟩ := h
  rcases h2 with ⟨rfl, rfl⟩ | ⟨g, cap, cur, rfl, _, hg, hnc, hcm, hs, ht⟩
  · exact ⟨none, 0, rfl, .inl rfl⟩
  · refine ⟨_, cap, rfl, .inr ⟨g, rfl, ⟨cur, hg⟩, fun i hi => ?_⟩⟩
    rw [cell_of_row w g i cur 22 (0, 0) hg]
    have hq := vals_get (E := E) hi
    rw [← ht, Nat.mul_one, List.getElem?_take, if_pos hi] at hq
    simpa using hq
theorem tab_wk {p : Nat → Nat → Prop} {w w' : World} {base m : Nat} {v : Value} {xs : List Value} (h : w.ownsRow base 22 1 v m xs) (hw : Wk p w w') (hp : ∀ b i, p b i → ∃ cur, w.heap[b]? = some (.cells cur 5 (0, 0))) : w'.ownsRow base 22 1 v m xs := by
  obtain ⟨h1, h2⟩ := h
  refine ⟨h1, ?_⟩
  rcases h2 with h2 | ⟨g, cap, cur, rfl, hb, hg, r⟩
  · exact .inl h2
  · refine .inr ⟨g, cap, cur, rfl, hb, hw.blk_of hg fun i hi => ?_, r⟩
    obtain ⟨c1, hc⟩ := hp g i hi
    rw [hg] at hc
    simp at hc
theorem bk_wk {p : Nat → Nat → Prop} {w w' : World} {k : Nat} {ps : Int} {v2 v3 v4 : Value} (h : Bk w k ps v2 v3 v4) (hw : Wk p w w') (hp : ∀ b i, p b i → ∃ cur, w.heap[b]? = some (.cells cur 5 (0, 0))) : Bk w' k ps v2 v3 v4 := by
  refine h.at (hw.same k h.lt fun i hi => ?_)
  obtain ⟨c1, hc⟩ := hp k i hi
  unfold Bk at h
  rw [h] at hc
  simp at hc

theorem wk_drew {p : Nat → Nat → Prop} {w w' : World} (h : Wk p w w') : Wk p w w'.drew := ⟨h.os, h.tape, h.output, h.size, h.same, h.blk⟩
theorem sh_drew {w : World} {e : Ent} {f : Nat → Int} (h : e.Sh w f) : e.Sh w.drew f := h
/-- The cells that a book's lists hold. -/
def Els (m : Nat) (E : Nat → Ent) : Nat → Nat → Prop := fun b x => ∃ i, i < m ∧ (E i).El b x

set_option maxRecDepth 100000 in
set_option maxHeartbeats 1000000 in
theorem bytesWrite_ (k base m : Nat) (ps : Int) (E : Nat → Ent) (v2 v3 v4 : Value) (w : World) (h : Bk w k ps v2 v3 v4) (ht : w.ownsRow base 22 1 v2 m (vals m E)) (hok : ∀ i, i < m → (E i).Ok w) (hdj : Dj m E) (hm : m ≤ 1000) :
    Calls Tryz.prog 53 #[.pointer (some ⟨k, 0, none⟩), .int .i64 0] w fun en w' => en = .returned (.int .i64 m) ∧ Wk (Els m E) w w' ∧ ∀ i, i < m → (E i).Sh w' fun j => mk ps (i + 1) j := by
  have hp5 : ∀ b i, Els m E b i → ∃ cur, w.heap[b]? = some (.cells cur 5 (0, 0)) := fun b i ⟨q, hq, he⟩ => he.blk (hok q hq)
  obtain ⟨a2, c2, rfl, hg⟩ := tab_at ht
  go_enter Tryz.func53, Tryz.ntmps53
  go_wp2
  go_loopw [1, 5] (fun q i wr => ∃ x : Nat, x ≤ m ∧ q = .int .i64 x ∧ i = .int .i64 x ∧ Wk (Els m E) w wr ∧ ∀ y, y < x → (E y).Sh wr fun j => mk ps (y + 1) j) (fun _ i _ => m - (intOf i).toNat)
  case atStart => exact ⟨0, by omega, rfl, rfl, Wk.refl _ _, fun y hy => by omega⟩
  case round =>
    obtain ⟨x, hx, rfl, rfl, hW, hS⟩ := hrel
    obtain ⟨wq, rfl⟩ : ∃ wq, wq = wr := ⟨_, rfl⟩
    have c2 := (bk_wk h hW hp5).c2
    by_cases hlt : x < m
    · rcases hg with hg | ⟨g, rfl, ⟨cur, hgc⟩, hcell⟩
      · omega
      have i1 : (x : Int) < (m : Int) := by omega
      go_wp2_with fail
      go_loopw [6] (fun i wr => ∃ j : Nat, j ≤ (E x).n ∧ i = .int .i64 j ∧ Wk (Els m E) w wr ∧ (∀ y, y < x → (E y).Sh wr fun j => mk ps (y + 1) j) ∧ ((E x).n = 0 ∨ ∃ b off, (E x).a = some ⟨b, off, none⟩ ∧ ∀ q, q < j → wr.cell? ⟨b, off + q, none⟩ = some (.int .u8 (mk ps (x + 1) q)))) (fun i _ => (E x).n - (intOf i).toNat)
      case atStart => exact ⟨0, by omega, rfl, hW, hS, by
        by_cases h0 : (E x).n = 0
        · exact .inl h0
        · obtain ⟨o1, _, _, _, o4⟩ := hok x hlt
          rcases o4 with o4 | ⟨b, off, _, e1, _⟩
          · omega
          · exact .inr ⟨b, off, e1, fun q hq => by omega⟩⟩
      case round =>
        obtain ⟨j, hj, rfl, hW2, hS2, hC⟩ := hrel
        clear hW hS c2
        have hok2 := hok x hlt
        have B2 := bk_wk h hW2 hp5
        have d2 := B2.c2
        have dg : wr.cell? ⟨g, x, none⟩ = some (.slice (E x).a (E x).n (E x).c) := hW2.cell (fun hh => by obtain ⟨c1, hc⟩ := hp5 g x hh; rw [hgc] at hc; simp at hc) (hcell x hlt)
        have hb3 := hok2.2.2.1
        by_cases hlt2 : j < (E x).n
        · rcases hC with hC | ⟨b, off, ha, hC⟩
          · omega
          obtain ⟨o1, _, _, _, o4⟩ := hok2.wk hW2
          obtain ⟨cu, hcu, hcs⟩ : ∃ cu, wr.heap[b]? = some (.cells cu 5 (0, 0)) ∧ off + (E x).n ≤ cu.size := by
            rcases o4 with o4 | ⟨b', off', cu, e1, e2, e3⟩
            · omega
            · rw [ha] at e1; simp at e1; obtain ⟨rfl, rfl⟩ := e1; exact ⟨cu, e2, by omega⟩
          obtain ⟨zz, q1⟩ : ∃ zz, wr.cell? ⟨b, off + j, none⟩ = some zz := by
            have hlen : off + j < cu.size := by omega
            exact ⟨cu[off + j], by rw [cell_of_row wr b _ cu 5 (0, 0) hcu]; simp⟩
          have q2 : wr.frozen? ⟨b, off + j, none⟩ = false := by simp [World.frozen?, hcu]
          have hel : (E x).El b (off + j) := ⟨off, ha, by omega, by omega⟩
          have H1 : Hid (Wk (Els m E) w (wr.setCell ⟨b, off + j, none⟩ (.int .u8 (mk ps (x + 1) j)))) := hW2.trans (.set ⟨x, hlt, hel⟩ _)
          have H2 : Hid (∀ y, y < x → (E y).Sh (wr.setCell ⟨b, off + j, none⟩ (.int .u8 (mk ps (x + 1) j))) fun j => mk ps (y + 1) j) := fun y hy =>
            (hS2 y hy).wk (p := fun b' i' => b' = b ∧ i' = off + j) (.set ⟨rfl, rfl⟩ _) fun b' i' he ⟨e1, e2⟩ => by
              subst e1 e2
              exact hdj y x (by omega) hlt (by omega) _ _ (he.mem (hok y (by omega)).1) (hel.mem (hok x hlt).1)
          have H3 : Hid (∀ q, q < j + 1 → (wr.setCell ⟨b, off + j, none⟩ (.int .u8 (mk ps (x + 1) j))).cell? ⟨b, off + q, none⟩ = some (.int .u8 (mk ps (x + 1) q))) := fun q hq => by
            by_cases e : q = j
            · subst e
              rw [cell_of_row _ b _ (cu.setIfInBounds (off + q) (.int .u8 (mk ps (x + 1) q))) 5 (0, 0) (by simp [World.setCell, Array.getElem?_modify, hcu])]
              have hlen : off + q < cu.size := by omega
              simp [hlen]
            · exact (Wk.set (p := fun b' i' => b' = b ∧ i' = off + j) ⟨rfl, rfl⟩ _).cell (by rintro ⟨_, h⟩; omega) (hC q (by omega))
          have nk : k ≠ b := fun e => by
            have B3 := B2
            unfold Bk at B3; rw [e, hcu] at B3; simp at B3
          have ng : g ≠ b := fun e => by
            have hgr := hW2.blk_of hgc (fun i hh => by obtain ⟨c1, hc⟩ := hp5 g i hh; rw [hgc] at hc; simp at hc)
            rw [e, hcu] at hgr; simp at hgr
          have s1 : (wr.setCell ⟨b, off + j, none⟩ (.int .u8 (mk ps (x + 1) j))).cell? ⟨k, 2, none⟩ = some (.slice (some ⟨g, 0, none⟩) m c2) := (Wk.set (p := fun b' i' => b' = b ∧ i' = off + j) ⟨rfl, rfl⟩ _).cell (by rintro ⟨h, _⟩; exact nk h) d2
          have s2 : (wr.setCell ⟨b, off + j, none⟩ (.int .u8 (mk ps (x + 1) j))).cell? ⟨g, x, none⟩ = some (.slice (some ⟨b, off, none⟩) (E x).n (E x).c) := (Wk.set (p := fun b' i' => b' = b ∧ i' = off + j) ⟨rfl, rfl⟩ _).cell (by rintro ⟨h, _⟩; exact ng h) (by rw [← ha]; exact dg)
          have Hb := hid (byteMark_ k ps ((x : Int) + 1) j (.slice (some ⟨g, 0, none⟩) m c2) v3 v4)
          have HB : Hid (Bk wr.drew k ps (.slice (some ⟨g, 0, none⟩) m c2) v3 v4) := B2
          rw [ha] at dg
          have HA := hid ha
          have Hn := hid (hok2.1)
          have mb := mk_byte ps (x + 1) j
          have i2 : (j : Int) < ((E x).n : Int) := by omega
          clear hS2 hC hW2 hcu o4 hel B2 hok2 ha o1 hcs
          generalize (E x).n = nx at *
          generalize (E x).c = cx at *
          go_wp2_with fail
          go_region_held (fun wx => wx.cell? ⟨k, 2, none⟩ = some (.slice (some ⟨g, 0, none⟩) m c2) ∧ wx.cell? ⟨g, x, none⟩ = some (.slice (some ⟨b, off, none⟩) nx cx)) (go_keep)
            ((go_at_call 133; refine (Hb.out _ HB.out (by omega) (by omega) (by omega) (by omega)).mono ?_; rintro e w' ⟨rfl, hw⟩; obtain rfl := hw.symm; clear hw))
          go_wp2_with fail
          go_roundw
          case rel => exact ⟨j + 1, by omega, by go_num, wk_drew H1.out, fun y hy => sh_drew (H2.out y hy), .inr ⟨b, off, HA.out, fun q hq => H3.out q hq⟩⟩
          case measure => simp [intOf]; omega
        · have hje : (E x).n = j := by omega
          have HN : Hid (∀ y, y < x + 1 → (E y).Sh wr fun j => mk ps (y + 1) j) := fun y hy => by
            by_cases e : y = x
            · subst e
              rcases hC with hC | ⟨b, off, ha, hC⟩
              · exact .inl hC
              · exact .inr ⟨b, off, ha, fun q hq => hC q (by omega)⟩
            · exact hS2 y (by omega)
          have i2 : ¬ (j : Int) < ((E x).n : Int) := by omega
          clear hS2 hC hje
          go_wp2_with fail
          go_roundw
          case rel => exact ⟨x + 1, by omega, by go_num, by go_num, hW2, HN.out⟩
          case measure => simp [intOf]; omega
    · go_wp2_with fail
      go_ret
      obtain rfl : m = x := by omega
      exact ⟨rfl, hW, hS⟩
end Go.Proofs.YtmnmmkonkimjeaaGreatDoor
