import Derived.Test.YtblcpdffiafgnaaGreatDoorSMath
import Derived.WideShapes
import Derived.Laws.ResultCell
import Derived.Laws.Bits64b
import Derived.Test.YtblcpdffiafgnaaGreatDoorD1
import Derived.Laws.CopyOwn
import Derived.Below
import Derived.WalkKit
import Derived.WalkSpells
import Derived.WalkLawsBesides
namespace Go.Proofs.YtblcpdffiafgnaaGreatDoor
set_option maxRecDepth 100000
open Go.RowKit
set_option linter.unusedVariables false
/-- The numbers of an int. -/
def InI (x : Int) : Prop := -9223372036854775808 ≤ x ∧ x ≤ 9223372036854775807
theorem getD_byte6 {zs : List Int} (h : ∀ z ∈ zs, 0 ≤ z ∧ z ≤ 255) (i : Nat) : 0 ≤ zs.getD i 0 ∧ zs.getD i 0 ≤ 255 := by
  simp only [List.getD]
  cases e : zs[i]? with
  | none => simp
  | some z => exact h z (List.mem_of_getElem? e)
theorem or8 (v z : Int) (v0 : 0 ≤ v) (v1 : v < 72057594037927936) (z0 : 0 ≤ z) (z1 : z ≤ 255) : bits BinOp.or IntKind.u64 (v * 256) z = v * 256 + z := by
  obtain ⟨a, rfl⟩ := Int.eq_ofNat_of_zero_le v0
  obtain ⟨b, rfl⟩ := Int.eq_ofNat_of_zero_le z0
  have h := bits_or_u64_nat (a * 256) b (by omega) (by omega)
  have e : a * 256 ||| b = a * 256 + b := by
    have := Nat.shiftLeft_add_eq_or_of_lt (a := a) (b := b) (i := 8) (by omega)
    rw [Nat.shiftLeft_eq] at this
    exact this.symm
  rw [e] at h
  rw [show ((a : Int) * 256) = ((a * 256 : Nat) : Int) from by omega, h]
  omega
end Go.Proofs.YtblcpdffiafgnaaGreatDoor
namespace Go.Proofs.YtblcpdffiafgnaaGreatDoor
set_option maxRecDepth 100000
open Go.RowKit

/-- What Put has laid behind j rounds: the bytes, zeros, the lowest j bytes of the number. -/
def laid (zs : List Int) (W j : Nat) (x : Int) : List Int := zs ++ (List.replicate (W - j) 0 ++ be j x)
theorem laid_length (zs : List Int) (W j : Nat) (x : Int) (h : j ≤ W) : (laid zs W j x).length = zs.length + W := by
  simp [laid, be_length]; omega
theorem laid_start (zs : List Int) (W : Nat) (x : Int) : laid zs W 0 x = zs ++ List.replicate W 0 := by simp [laid, be]
theorem laid_end (zs : List Int) (W : Nat) (x : Int) : laid zs W W x = zs ++ be W x := by simp [laid]
theorem laid_step (zs : List Int) (W j : Nat) (x : Int) (h : j < W) :
    (laid zs W j x).set (zs.length + (W - 1 - j)) (x / 256 ^ j % 256) = laid zs W (j + 1) x := by
  unfold laid
  rw [List.set_append_right _ _ (by omega), show zs.length + (W - 1 - j) - zs.length = W - 1 - j from by omega,
    List.set_append_left _ _ (by simp; omega)]
  congr 1
  obtain ⟨m, hm⟩ : ∃ m, W - j = m + 1 := ⟨W - j - 1, by omega⟩
  rw [hm, show W - 1 - j = m from by omega, show W - (j + 1) = m from by omega, be, List.replicate_succ']
  rw [List.set_append_right _ _ (by simp)]
  simp

/-- A row of bytes in a block of its own. -/
def Row (w : World) (g : Nat) (zs : List Int) : Prop := w.heap[g]? = some (.cells (cells zs).toArray 5 (0, 0))

theorem Row.cell {w : World} {g : Nat} {zs : List Int} (h : Row w g zs) (i : Nat) (hi : i < zs.length) : w.cell? ⟨g, i, none⟩ = some (.int .u8 (zs.getD i 0)) := by
  rw [cell_of_row w g i _ 5 (0, 0) h]
  simpa using cells_get zs i hi
theorem Row.lt {w : World} {g : Nat} {zs : List Int} (h : Row w g zs) : g < w.heap.size := (Array.getElem?_eq_some_iff.1 h).1
theorem Row.bs {w : World} {g : Nat} {zs : List Int} (h : Row w g zs) (hb : ∀ z ∈ zs, 0 ≤ z ∧ z ≤ 255) : Bs w (some ⟨g, 0, none⟩) zs.length zs :=
  ⟨rfl, hb, .inr ⟨g, 0, rfl, fun i hi => by rw [Nat.zero_add]; exact h.cell i hi⟩⟩
theorem Row.kept {w w' : World} {g : Nat} {zs : List Int} {r : Option Nat} (h : Row w g zs) (hg : w.grownBy w' r) (hr : some g ≠ r) : Row w' g zs := by
  unfold Row
  rw [hg.block g h.lt hr]; exact h
theorem Row.unfrozen {w : World} {g : Nat} {zs : List Int} (h : Row w g zs) (i : Nat) : w.frozen? ⟨g, i, none⟩ = false := by
  unfold Row at h
  simp [World.frozen?, h]
theorem Row.set {w : World} {g : Nat} {zs : List Int} (h : Row w g zs) (i : Nat) (x : Int) : Row (w.setCell ⟨g, i, none⟩ (.int .u8 x)) g (zs.set i x) := by
  unfold Row at *
  simp [World.setCell, Array.getElem?_modify, h, cells]

theorem made_zeros (n : Nat) : (madeCells (Value.int .u8 0).cells (n * 1)).toList = cells (List.replicate n 0) := by
  simp [madeCells, cells, Value.cells]
  apply List.ext_getElem
  · simp
  · intro i h1 h2; simp [Nat.mod_one]

theorem row_of_own {w : World} {base g n : Nat} {xs : List Int} (h : w.ownsRow base 5 1 (.slice (some ⟨g, 0, none⟩) n n) n (cells xs)) : Row w g xs := by
  obtain ⟨h1, h2⟩ := h
  rcases h2 with ⟨e, _⟩ | ⟨g', cap, cur, e, _, hg, _, _, hs, ht⟩
  · simp at e
  · simp at e
    obtain ⟨rfl, rfl⟩ := e
    unfold Row
    rw [hg]
    have : cur.toList = cells xs := by rw [← ht, List.take_of_length_le (by simp [hs])]
    rw [← this]

theorem row_splice {w : World} {g n W : Nat} {zs : List Int} {x : Int} (hz : zs.length = n) (h : Hid (w.heap[g]? = some (.cells (splice (cells (List.replicate (n + W) 0)) 0 (cells zs)).toArray 5 (0, 0)))) : Row w g (laid zs W 0 x) := by
  unfold Row
  rw [h.out, laid_start]
  have : splice (cells (List.replicate (n + W) 0)) 0 (cells zs) = cells (zs ++ List.replicate W 0) := by
    simp [splice, cells, hz]
  rw [this]

/-- The number without its lowest j bytes. -/
def dvb (x : Int) (j : Nat) : Int := x / 256 ^ j
theorem dvb_zero (x : Int) : dvb x 0 = x := by simp [dvb]
theorem dvb_step (x : Int) (j : Nat) : dvb x j / 256 = dvb x (j + 1) := by
  unfold dvb; rw [Int.pow_succ, Int.ediv_ediv_of_nonneg (Int.le_of_lt (Int.pow_pos (by omega)))]
theorem dvb_nonneg (x : Int) (h : 0 ≤ x) (j : Nat) : 0 ≤ dvb x j := Int.ediv_nonneg h (Int.le_of_lt (Int.pow_pos (by omega)))
theorem dvb_le (x : Int) (h : 0 ≤ x) (j : Nat) : dvb x j ≤ x := Int.ediv_le_self _ h
theorem laid_put (zs : List Int) (n W j : Nat) (x : Int) (hz : zs.length = n) (h : j < W) :
    (laid zs W j x).set (n + (W - 1 - j)) (dvb x j % 256) = laid zs W (j + 1) x := by
  rw [← hz]; exact laid_step zs W j x h

end Go.Proofs.YtblcpdffiafgnaaGreatDoor
namespace Go.Proofs.YtblcpdffiafgnaaGreatDoor
set_option maxRecDepth 100000
open Go.RowKit

/-- The number whose lowest k bytes are all ones. -/
def ones (k : Nat) : Int := 256 ^ k - 1
theorem ones_zero : ones 0 = 0 := rfl
theorem ones_pos (k : Nat) : 0 < ones (k + 1) := by
  unfold ones
  have h : (0 : Int) < 256 ^ k := Int.pow_pos (by omega)
  rw [Int.pow_succ]; omega
theorem ones_ne (k : Nat) : (ones (k + 1) != 0) = true := by have := ones_pos k; rw [bne_iff_ne]; omega
theorem ones_no : (ones 0 != 0) = false := by rw [ones_zero]; rfl
theorem ones_shift (k : Nat) : ones (k + 1) / 256 = ones k := by
  unfold ones
  rw [Int.pow_succ]; omega

end Go.Proofs.YtblcpdffiafgnaaGreatDoor
namespace Go.Proofs.YtblcpdffiafgnaaGreatDoor
set_option maxRecDepth 100000
open Go.RowKit

set_option maxHeartbeats 400000 in
theorem width16 (w : World) : Calls Tryz.prog 119 #[] w fun e w' => e = .returned (.int .i64 2) ∧ w' = w := by
  go_enter Tryz.func119, Tryz.ntmps119
  go_wp2
  go_loop [1, 2] (fun n r => ∃ k : Nat, k ≤ 2 ∧ n = .int .i64 (2 - k) ∧ r = .int .u64 (ones k)) (fun n _ => 2 - (intOf n).toNat)
  case atStart => exact ⟨2, by omega, rfl, congrArg (Value.int .u64) (by decide +kernel)⟩
  case round =>
    obtain ⟨k, hk, rfl, rfl⟩ := hrel
    cases k with
    | zero =>
      have h := ones_no
      go_wp2
      go_ret
      exact ⟨rfl, rfl⟩
    | succ k =>
      have h := ones_ne k
      go_wp2
      go_round
      case rel => exact ⟨k, by omega, by go_num, by rw [ones_shift]⟩
      case measure => simp [intOf]; omega

set_option maxHeartbeats 400000 in
theorem width32 (w : World) : Calls Tryz.prog 101 #[] w fun e w' => e = .returned (.int .i64 4) ∧ w' = w := by
  go_enter Tryz.func101, Tryz.ntmps101
  go_wp2
  go_loop [1, 2] (fun n r => ∃ k : Nat, k ≤ 4 ∧ n = .int .i64 (4 - k) ∧ r = .int .u64 (ones k)) (fun n _ => 4 - (intOf n).toNat)
  case atStart => exact ⟨4, by omega, rfl, congrArg (Value.int .u64) (by decide +kernel)⟩
  case round =>
    obtain ⟨k, hk, rfl, rfl⟩ := hrel
    cases k with
    | zero =>
      have h := ones_no
      go_wp2
      go_ret
      exact ⟨rfl, rfl⟩
    | succ k =>
      have h := ones_ne k
      go_wp2
      go_round
      case rel => exact ⟨k, by omega, by go_num, by rw [ones_shift]⟩
      case measure => simp [intOf]; omega

set_option maxHeartbeats 400000 in
theorem width64 (w : World) : Calls Tryz.prog 145 #[] w fun e w' => e = .returned (.int .i64 8) ∧ w' = w := by
  go_enter Tryz.func145, Tryz.ntmps145
  go_wp2
  go_loop [1, 2] (fun n r => ∃ k : Nat, k ≤ 8 ∧ n = .int .i64 (8 - k) ∧ r = .int .u64 (ones k)) (fun n _ => 8 - (intOf n).toNat)
  case atStart => exact ⟨8, by omega, rfl, congrArg (Value.int .u64) (by decide +kernel)⟩
  case round =>
    obtain ⟨k, hk, rfl, rfl⟩ := hrel
    cases k with
    | zero =>
      have h := ones_no
      go_wp2
      go_ret
      exact ⟨rfl, rfl⟩
    | succ k =>
      have h := ones_ne k
      go_wp2
      go_round
      case rel => exact ⟨k, by omega, by go_num, by rw [ones_shift]⟩
      case measure => simp [intOf]; omega


end Go.Proofs.YtblcpdffiafgnaaGreatDoor
