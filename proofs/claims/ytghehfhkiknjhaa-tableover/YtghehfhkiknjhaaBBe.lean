import Derived.Test.YtghehfhkiknjhaaPTxt
import Derived.Laws.CopyOwn
namespace Go.Proofs.Ytghehfhkiknjhaa
set_option maxRecDepth 100000
open Go.RowKit

/-- What Put has laid behind j rounds: the bytes, zeros, the lowest j bytes of the number. -/
def laid (zs : List Int) (W j : Nat) (x : Int) : List Int := zs ++ (List.replicate (W - j) 0 ++ be j x)
theorem laid_length (zs : List Int) (W j : Nat) (x : Int) (h : j ≤ W) : (laid zs W j x).length = zs.length + W := by
  simp [laid, be_length]; omega
theorem laid_start (zs : List Int) (W : Nat) (x : Int) : laid zs W 0 x = zs ++ List.replicate W 0 := by simp [laid, be]
theorem laid_end (zs : List Int) (W : Nat) (x : Int) : laid zs W W x = zs ++ be W x := by simp [laid]
theorem laid_step (zs : List Int) (W j : Nat) (x : Int) (h : j < W) :
    (laid zs W j x).set (zs.length + (W - 1 - j)) (x / 256 ^ j % 256) = laid zs W (j + 1) x := by
  unfold laid
  rw [List.set_append_right _ _ (by omega), show zs.length + (W - 1 - j) - zs.length = W - 1 - j from by omega,
    List.set_append_left _ _ (by simp; omega)]
  congr 1
  obtain ⟨m, hm⟩ : ∃ m, W - j = m + 1 := ⟨W - j - 1, by omega⟩
  rw [hm, show W - 1 - j = m from by omega, show W - (j + 1) = m from by omega, be, List.replicate_succ']
  rw [List.set_append_right _ _ (by simp)]
  simp

/-- A row of bytes in a block of its own. -/
def Row (w : World) (g : Nat) (zs : List Int) : Prop := w.heap[g]? = some (.cells (cells zs).toArray 5 (0, 0))

theorem Row.cell {w : World} {g : Nat} {zs : List Int} (h : Row w g zs) (i : Nat) (hi : i < zs.length) : w.cell? ⟨g, i, none⟩ = some (.int .u8 (zs.getD i 0)) := by
  rw [cell_of_row w g i _ 5 (0, 0) h]
  simpa using cells_get zs i hi
theorem Row.lt {w : World} {g : Nat} {zs : List Int} (h : Row w g zs) : g < w.heap.size := (Array.getElem?_eq_some_iff.1 h).1
theorem Row.bs {w : World} {g : Nat} {zs : List Int} (h : Row w g zs) (hb : ∀ z ∈ zs, 0 ≤ z ∧ z ≤ 255) : Bs w (some ⟨g, 0, none⟩) zs.length zs :=
  ⟨rfl, hb, .inr ⟨g, 0, rfl, fun i hi => by rw [Nat.zero_add]; exact h.cell i hi⟩⟩
theorem Row.kept {w w' : World} {g : Nat} {zs : List Int} {r : Option Nat} (h : Row w g zs) (hg : w.grownBy w' r) (hr : some g ≠ r) : Row w' g zs := by
  unfold Row
  rw [hg.block g h.lt hr]; exact h
theorem Row.unfrozen {w : World} {g : Nat} {zs : List Int} (h : Row w g zs) (i : Nat) : w.frozen? ⟨g, i, none⟩ = false := by
  unfold Row at h
  simp [World.frozen?, h]
theorem Row.set {w : World} {g : Nat} {zs : List Int} (h : Row w g zs) (i : Nat) (x : Int) : Row (w.setCell ⟨g, i, none⟩ (.int .u8 x)) g (zs.set i x) := by
  unfold Row at *
  simp [World.setCell, Array.getElem?_modify, h, cells]

theorem made_zeros (n : Nat) : (madeCells (Value.int .u8 0).cells (n * 1)).toList = cells (List.replicate n 0) := by
  simp [madeCells, cells, Value.cells]
  apply List.ext_getElem
  · simp
  · intro i h1 h2; simp [Nat.mod_one]

theorem row_of_own {w : World} {base g n : Nat} {xs : List Int} (h : w.ownsRow base 5 1 (.slice (some ⟨g, 0, none⟩) n n) n (cells xs)) : Row w g xs := by
  obtain ⟨h1, h2⟩ := h
  rcases h2 with ⟨e, _⟩ | ⟨g', cap, cur, e, _, hg, _, _, hs, ht⟩
  · simp at e
  · simp at e
    obtain ⟨rfl, rfl⟩ := e
    unfold Row
    rw [hg]
    have : cur.toList = cells xs := by rw [← ht, List.take_of_length_le (by simp [hs])]
    rw [← this]

theorem row_splice {w : World} {g n W : Nat} {zs : List Int} {x : Int} (hz : zs.length = n) (h : Hid (w.heap[g]? = some (.cells (splice (cells (List.replicate (n + W) 0)) 0 (cells zs)).toArray 5 (0, 0)))) : Row w g (laid zs W 0 x) := by
  unfold Row
  rw [h.out, laid_start]
  have : splice (cells (List.replicate (n + W) 0)) 0 (cells zs) = cells (zs ++ List.replicate W 0) := by
    simp [splice, cells, hz]
  rw [this]

/-- The number without its lowest j bytes. -/
def dvb (x : Int) (j : Nat) : Int := x / 256 ^ j
theorem dvb_zero (x : Int) : dvb x 0 = x := by simp [dvb]
theorem dvb_step (x : Int) (j : Nat) : dvb x j / 256 = dvb x (j + 1) := by
  unfold dvb; rw [Int.pow_succ, Int.ediv_ediv_of_nonneg (Int.le_of_lt (Int.pow_pos (by omega)))]
theorem dvb_nonneg (x : Int) (h : 0 ≤ x) (j : Nat) : 0 ≤ dvb x j := Int.ediv_nonneg h (Int.le_of_lt (Int.pow_pos (by omega)))
theorem dvb_le (x : Int) (h : 0 ≤ x) (j : Nat) : dvb x j ≤ x := Int.ediv_le_self _ h
theorem laid_put (zs : List Int) (n W j : Nat) (x : Int) (hz : zs.length = n) (h : j < W) :
    (laid zs W j x).set (n + (W - 1 - j)) (dvb x j % 256) = laid zs W (j + 1) x := by
  rw [← hz]; exact laid_step zs W j x h

end Go.Proofs.Ytghehfhkiknjhaa
