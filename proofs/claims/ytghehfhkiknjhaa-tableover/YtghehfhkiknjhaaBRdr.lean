import Derived.Test.YtghehfhkiknjhaaBPut
namespace Go.Proofs.Ytghehfhkiknjhaa
set_option maxRecDepth 100000
open Go.RowKit

/-- The reader in block r. -/
def Rdr (w : World) (r : Nat) (a : Option Addr) (n c : Nat) (p e : Int) : Prop := w.heap[r]? = some (.cells #[.slice a n c, .int .i64 p, .int .i64 e] 115 (0, 0))

section
variable {w w' : World} {r : Nat} {a : Option Addr} {n c : Nat} {p e : Int}
theorem Rdr.c0 (h : Rdr w r a n c p e) : w.cell? ⟨r, 0, none⟩ = some (.slice a n c) := by rw [cell_of_row w r 0 _ 115 (0, 0) h]; rfl
theorem Rdr.c1 (h : Rdr w r a n c p e) : w.cell? ⟨r, 1, none⟩ = some (.int .i64 p) := by rw [cell_of_row w r 1 _ 115 (0, 0) h]; rfl
theorem Rdr.c2 (h : Rdr w r a n c p e) : w.cell? ⟨r, 2, none⟩ = some (.int .i64 e) := by rw [cell_of_row w r 2 _ 115 (0, 0) h]; rfl
theorem Rdr.fz (h : Rdr w r a n c p e) (i : Nat) : w.frozen? ⟨r, i, none⟩ = false := by unfold Rdr at h; simp [World.frozen?, h]
theorem Rdr.lt (h : Rdr w r a n c p e) : r < w.heap.size := (Array.getElem?_eq_some_iff.1 h).1
theorem Rdr.set0 (h : Rdr w r a n c p e) (a' : Option Addr) (n' c' : Nat) : Rdr (w.setCell ⟨r, 0, none⟩ (.slice a' n' c')) r a' n' c' p e := by
  unfold Rdr at *; simp [World.setCell, Array.getElem?_modify, h]
theorem Rdr.set1 (h : Rdr w r a n c p e) (p' : Int) : Rdr (w.setCell ⟨r, 1, none⟩ (.int .i64 p')) r a n c p' e := by
  unfold Rdr at *; simp [World.setCell, Array.getElem?_modify, h]
theorem Rdr.set2 (h : Rdr w r a n c p e) (e' : Int) : Rdr (w.setCell ⟨r, 2, none⟩ (.int .i64 e')) r a n c p e' := by
  unfold Rdr at *; simp [World.setCell, Array.getElem?_modify, h]
theorem Rdr.kept {q : Option Nat} (h : Rdr w r a n c p e) (hg : w.grownBy w' q) (hr : some r ≠ q) : Rdr w' r a n c p e := by
  unfold Rdr; rw [hg.block r h.lt hr]; exact h
end

/-- Nothing but block r has turned, and no block has come. -/
structure Only (r : Nat) (w w' : World) : Prop where
  os : w'.os = w.os
  tape : w'.tape = w.tape
  output : w'.output = w.output
  size : w'.heap.size = w.heap.size
  block : ∀ k, k ≠ r → w'.heap[k]? = w.heap[k]?
theorem Only.refl (r : Nat) (w : World) : Only r w w := ⟨rfl, rfl, rfl, rfl, fun _ _ => rfl⟩
theorem Only.trans {r : Nat} {x y z : World} (h : Only r x y) (k : Only r y z) : Only r x z :=
  ⟨k.os.trans h.os, k.tape.trans h.tape, k.output.trans h.output, k.size.trans h.size, fun i hi => (k.block i hi).trans (h.block i hi)⟩
theorem Only.drewN {r : Nat} {x y : World} (h : Only r x y) (n : Nat) : Only r x (y.drewN n) := h.trans ⟨rfl, rfl, rfl, rfl, fun _ _ => rfl⟩
theorem Only.set {r : Nat} {x y : World} (h : Only r x y) (i : Nat) (v : Value) : Only r x (y.setCell ⟨r, i, none⟩ v) :=
  h.trans ⟨rfl, rfl, rfl, by simp [World.setCell], fun k hk => Below.heap_setCell _ _ _ _ hk⟩
theorem Only.grown {r : Nat} {x y : World} (h : Only r x y) : x.grownBy y (some r) := ⟨h.os, h.tape, h.output, by rw [h.size]; exact Nat.le_refl _, fun k _ hr => h.block k (fun e => hr (by rw [e]))⟩
theorem Only.below {r B : Nat} {x y : World} (h : Only r x y) (hB : B ≤ r) : Below B x y := ⟨h.os, h.tape, h.output, by rw [h.size]; exact Nat.le_refl _, fun k hk => h.block k (by omega)⟩

/-- The slice lies in block g, a row of the call's own, and reads zs. -/
def Lies (w : World) (g : Nat) (a : Option Addr) (n c : Nat) (zs : List Int) : Prop :=
  zs.length = n ∧ n ≤ c ∧ c ≤ maxLen ∧ (∀ z ∈ zs, 0 ≤ z ∧ z ≤ 255) ∧
  ((a = none ∧ n = 0 ∧ c = 0) ∨ ∃ off cur, a = some ⟨g, off, none⟩ ∧ w.heap[g]? = some (.cells cur 5 (0, 0)) ∧ off + c ≤ cur.size ∧ (cur.toList.drop off).take n = cells zs)

theorem Lies.kept {w w' : World} {g : Nat} {a : Option Addr} {n c : Nat} {zs : List Int} (h : Lies w g a n c zs) (hk : g < w.heap.size → w'.heap[g]? = w.heap[g]?) : Lies w' g a n c zs := by
  obtain ⟨h1, h2, h3, h4, h5⟩ := h
  refine ⟨h1, h2, h3, h4, ?_⟩
  rcases h5 with h5 | ⟨off, cur, rfl, hg, h6⟩
  · exact .inl h5
  · exact .inr ⟨off, cur, rfl, by rw [hk (Array.getElem?_eq_some_iff.1 hg).1]; exact hg, h6⟩
theorem Lies.bs {w : World} {g : Nat} {a : Option Addr} {n c : Nat} {zs : List Int} (h : Lies w g a n c zs) : Bs w a n zs := by
  obtain ⟨h1, h2, h3, h4, h5⟩ := h
  refine ⟨h1, h4, ?_⟩
  rcases h5 with ⟨_, h5, _⟩ | ⟨off, cur, rfl, hg, h6, h7⟩
  · exact .inl h5
  · refine .inr ⟨g, off, rfl, fun i hi => ?_⟩
    rw [cell_of_row w g _ cur 5 (0, 0) hg]
    have hq := cells_get zs i (by omega)
    rw [← h7, List.getElem?_take, if_pos hi, List.getElem?_drop] at hq
    simpa using hq
theorem Lies.cut {w : World} {g : Nat} {a : Option Addr} {n c m : Nat} {zs : List Int} (h : Lies w g a n c zs) (hm : m ≤ n) : Lies w g a m m (zs.take m) := by
  obtain ⟨h1, h2, h3, h4, h5⟩ := h
  refine ⟨by simp; omega, Nat.le_refl _, by omega, fun z hz => h4 z (List.mem_of_mem_take hz), ?_⟩
  rcases h5 with ⟨rfl, rfl, rfl⟩ | ⟨off, cur, rfl, hg, h6, h7⟩
  · exact .inl ⟨rfl, by omega, by omega⟩
  · refine .inr ⟨off, cur, rfl, hg, by omega, ?_⟩
    have : cells (zs.take m) = (cells zs).take m := by simp [cells]
    rw [this, ← h7, List.take_take, Nat.min_eq_left hm]
theorem Lies.rest {w : World} {g b off : Nat} {n c m : Nat} {zs : List Int} (h : Lies w g (some ⟨b, off, none⟩) n c zs) (hm : m ≤ n) : Lies w g (some ⟨b, if c = m then off else off + m, none⟩) (n - m) (c - m) (zs.drop m) := by
  obtain ⟨h1, h2, h3, h4, h5⟩ := h
  refine ⟨by simp; omega, by omega, by omega, fun z hz => h4 z (List.mem_of_mem_drop hz), ?_⟩
  rcases h5 with ⟨e, _⟩ | ⟨off', cur, e, hg, h6, h7⟩
  · cases e
  · simp only [Option.some.injEq, Addr.mk.injEq] at e
    obtain ⟨rfl, rfl, _⟩ := e
    refine .inr ⟨_, cur, rfl, hg, by split <;> omega, ?_⟩
    have : cells (zs.drop m) = (cells zs).drop m := by simp [cells]
    rw [this, ← h7, List.drop_take]
    split
    · rename_i e; subst e
      rw [show n - c = 0 from by omega]; simp
    · rw [List.drop_drop]

/-- A whole reader in block r over block g: what is left is zs, its place p. -/
def Rd (w : World) (r g : Nat) (zs : List Int) (p : Int) : Prop := g ≠ r ∧ ∃ a n c, Rdr w r a n c p 0 ∧ Lies w g a n c zs
/-- Taking m bytes where so many are left breaks the reader by q. -/
def Brk (m : Int) (len : Nat) (q : Int) : Prop := (m < 0 ∧ q = 11) ∨ (0 ≤ m ∧ (len : Int) < m ∧ q = 10)
/-- A broken one. -/
def Rb (w : World) (r : Nat) (p e : Int) : Prop := Rdr w r none 0 0 p e ∧ (e != 0) = true

theorem Rd.kept {w w' : World} {r g : Nat} {zs : List Int} {p : Int} (h : Rd w r g zs p) (hr : w'.heap[r]? = w.heap[r]?) (hk : g < w.heap.size → w'.heap[g]? = w.heap[g]?) : Rd w' r g zs p := by
  obtain ⟨hgr, a, n, c, h1, h2⟩ := h
  exact ⟨hgr, a, n, c, by unfold Rdr; rw [hr]; exact h1, h2.kept hk⟩
theorem Rb.kept {w w' : World} {r : Nat} {e : Int} {p : Int} (h : Rb w r p e) (hr : w'.heap[r]? = w.heap[r]?) : Rb w' r p e := 
  ⟨by unfold Rdr; rw [hr]; exact h.1, h.2⟩
theorem Rd.lt {w : World} {r g : Nat} {zs : List Int} {p : Int} (h : Rd w r g zs p) : r < w.heap.size := by
  obtain ⟨_, a, n, c, h1, _⟩ := h; exact h1.lt
theorem Rb.lt {w : World} {r : Nat} {e : Int} {p : Int} (h : Rb w r p e) : r < w.heap.size := h.1.lt

end Go.Proofs.Ytghehfhkiknjhaa
