import Derived.Test.YteeapmcpbmjpmaaGreatPTxt
import Derived.Laws.CopyOwn
import Derived.Below
import Derived.WalkKit
import Derived.WalkSpells
import Derived.WalkLawsBesides
namespace Go.Proofs.YteeapmcpbmjpmaaGreat
set_option maxRecDepth 100000
open Go.RowKit

/-- What Put has laid behind j rounds: the bytes, zeros, the lowest j bytes of the number. -/
def laid (zs : List Int) (W j : Nat) (x : Int) : List Int := zs ++ (List.replicate (W - j) 0 ++ be j x)
theorem laid_length (zs : List Int) (W j : Nat) (x : Int) (h : j ≤ W) : (laid zs W j x).length = zs.length + W := by
  simp [laid, be_length]; omega
theorem laid_start (zs : List Int) (W : Nat) (x : Int) : laid zs W 0 x = zs ++ List.replicate W 0 := by simp [laid, be]
theorem laid_end (zs : List Int) (W : Nat) (x : Int) : laid zs W W x = zs ++ be W x := by simp [laid]
theorem laid_step (zs : List Int) (W j : Nat) (x : Int) (h : j < W) :
    (laid zs W j x).set (zs.length + (W - 1 - j)) (x / 256 ^ j % 256) = laid zs W (j + 1) x := by
  unfold laid
  rw [List.set_append_right _ _ (by omega), show zs.length + (W - 1 - j) - zs.length = W - 1 - j from by omega,
    List.set_append_left _ _ (by simp; omega)]
  congr 1
  obtain ⟨m, hm⟩ : ∃ m, W - j = m + 1 := ⟨W - j - 1, by omega⟩
  rw [hm, show W - 1 - j = m from by omega, show W - (j + 1) = m from by omega, be, List.replicate_succ']
  rw [List.set_append_right _ _ (by simp)]
  simp

/-- A row of bytes in a block of its own. -/
def Row (w : World) (g : Nat) (zs : List Int) : Prop := w.heap[g]? = some (.cells (cells zs).toArray 5 (0, 0))

theorem Row.cell {w : World} {g : Nat} {zs : List Int} (h : Row w g zs) (i : Nat) (hi : i < zs.length) : w.cell? ⟨g, i, none⟩ = some (.int .u8 (zs.getD i 0)) := by
  rw [cell_of_row w g i _ 5 (0, 0) h]
  simpa using cells_get zs i hi
theorem Row.lt {w : World} {g : Nat} {zs : List Int} (h : Row w g zs) : g < w.heap.size := (Array.getElem?_eq_some_iff.1 h).1
theorem Row.bs {w : World} {g : Nat} {zs : List Int} (h : Row w g zs) (hb : ∀ z ∈ zs, 0 ≤ z ∧ z ≤ 255) : Bs w (some ⟨g, 0, none⟩) zs.length zs :=
  ⟨rfl, hb, .inr ⟨g, 0, rfl, fun i hi => by rw [Nat.zero_add]; exact h.cell i hi⟩⟩
theorem Row.kept {w w' : World} {g : Nat} {zs : List Int} {r : Option Nat} (h : Row w g zs) (hg : w.grownBy w' r) (hr : some g ≠ r) : Row w' g zs := by
  unfold Row
  rw [hg.block g h.lt hr]; exact h
theorem Row.unfrozen {w : World} {g : Nat} {zs : List Int} (h : Row w g zs) (i : Nat) : w.frozen? ⟨g, i, none⟩ = false := by
  unfold Row at h
  simp [World.frozen?, h]
theorem Row.set {w : World} {g : Nat} {zs : List Int} (h : Row w g zs) (i : Nat) (x : Int) : Row (w.setCell ⟨g, i, none⟩ (.int .u8 x)) g (zs.set i x) := by
  unfold Row at *
  simp [World.setCell, Array.getElem?_modify, h, cells]

theorem made_zeros (n : Nat) : (madeCells (Value.int .u8 0).cells (n * 1)).toList = cells (List.replicate n 0) := by
  simp [madeCells, cells, Value.cells]
  apply List.ext_getElem
  · simp
  · intro i h1 h2; simp [Nat.mod_one]

theorem row_of_own {w : World} {base g n : Nat} {xs : List Int} (h : w.ownsRow base 5 1 (.slice (some ⟨g, 0, none⟩) n n) n (cells xs)) : Row w g xs := by
  obtain ⟨h1, h2⟩ := h
  rcases h2 with ⟨e, _⟩ | ⟨g', cap, cur, e, _, hg, _, _, hs, ht⟩
  · simp at e
  · simp at e
    obtain ⟨rfl, rfl⟩ := e
    unfold Row
    rw [hg]
    have : cur.toList = cells xs := by rw [← ht, List.take_of_length_le (by simp [hs])]
    rw [← this]

theorem row_splice {w : World} {g n W : Nat} {zs : List Int} {x : Int} (hz : zs.length = n) (h : Hid (w.heap[g]? = some (.cells (splice (cells (List.replicate (n + W) 0)) 0 (cells zs)).toArray 5 (0, 0)))) : Row w g (laid zs W 0 x) := by
  unfold Row
  rw [h.out, laid_start]
  have : splice (cells (List.replicate (n + W) 0)) 0 (cells zs) = cells (zs ++ List.replicate W 0) := by
    simp [splice, cells, hz]
  rw [this]

/-- The number without its lowest j bytes. -/
def dvb (x : Int) (j : Nat) : Int := x / 256 ^ j
theorem dvb_zero (x : Int) : dvb x 0 = x := by simp [dvb]
theorem dvb_step (x : Int) (j : Nat) : dvb x j / 256 = dvb x (j + 1) := by
  unfold dvb; rw [Int.pow_succ, Int.ediv_ediv_of_nonneg (Int.le_of_lt (Int.pow_pos (by omega)))]
theorem dvb_nonneg (x : Int) (h : 0 ≤ x) (j : Nat) : 0 ≤ dvb x j := Int.ediv_nonneg h (Int.le_of_lt (Int.pow_pos (by omega)))
theorem dvb_le (x : Int) (h : 0 ≤ x) (j : Nat) : dvb x j ≤ x := Int.ediv_le_self _ h
theorem laid_put (zs : List Int) (n W j : Nat) (x : Int) (hz : zs.length = n) (h : j < W) :
    (laid zs W j x).set (n + (W - 1 - j)) (dvb x j % 256) = laid zs W (j + 1) x := by
  rw [← hz]; exact laid_step zs W j x h

end Go.Proofs.YteeapmcpbmjpmaaGreat
namespace Go.Proofs.YteeapmcpbmjpmaaGreat
set_option maxRecDepth 100000
open Go.RowKit

/-- The number whose lowest k bytes are all ones. -/
def ones (k : Nat) : Int := 256 ^ k - 1
theorem ones_zero : ones 0 = 0 := rfl
theorem ones_pos (k : Nat) : 0 < ones (k + 1) := by
  unfold ones
  have h : (0 : Int) < 256 ^ k := Int.pow_pos (by omega)
  rw [Int.pow_succ]; omega
theorem ones_ne (k : Nat) : (ones (k + 1) != 0) = true := by have := ones_pos k; rw [bne_iff_ne]; omega
theorem ones_no : (ones 0 != 0) = false := by rw [ones_zero]; rfl
theorem ones_shift (k : Nat) : ones (k + 1) / 256 = ones k := by
  unfold ones
  rw [Int.pow_succ]; omega

end Go.Proofs.YteeapmcpbmjpmaaGreat
namespace Go.Proofs.YteeapmcpbmjpmaaGreat
set_option maxRecDepth 100000
open Go.RowKit

set_option maxHeartbeats 400000 in
theorem width8 (w : World) : Calls Tryz.prog 88 #[] w fun e w' => e = .returned (.int .i64 1) ∧ w' = w := by
  go_enter Tryz.func88, Tryz.ntmps88
  go_wp2
  go_loop [1, 2] (fun n r => ∃ k : Nat, k ≤ 1 ∧ n = .int .i64 (1 - k) ∧ r = .int .u64 (ones k)) (fun n _ => 1 - (intOf n).toNat)
  case atStart => exact ⟨1, by omega, rfl, congrArg (Value.int .u64) (by decide +kernel)⟩
  case round =>
    obtain ⟨k, hk, rfl, rfl⟩ := hrel
    cases k with
    | zero =>
      have h := ones_no
      go_wp2
      go_ret
      exact ⟨rfl, rfl⟩
    | succ k =>
      have h := ones_ne k
      go_wp2
      go_round
      case rel => exact ⟨k, by omega, by go_num, by rw [ones_shift]⟩
      case measure => simp [intOf]; omega

set_option maxHeartbeats 400000 in
theorem width16 (w : World) : Calls Tryz.prog 89 #[] w fun e w' => e = .returned (.int .i64 2) ∧ w' = w := by
  go_enter Tryz.func89, Tryz.ntmps89
  go_wp2
  go_loop [1, 2] (fun n r => ∃ k : Nat, k ≤ 2 ∧ n = .int .i64 (2 - k) ∧ r = .int .u64 (ones k)) (fun n _ => 2 - (intOf n).toNat)
  case atStart => exact ⟨2, by omega, rfl, congrArg (Value.int .u64) (by decide +kernel)⟩
  case round =>
    obtain ⟨k, hk, rfl, rfl⟩ := hrel
    cases k with
    | zero =>
      have h := ones_no
      go_wp2
      go_ret
      exact ⟨rfl, rfl⟩
    | succ k =>
      have h := ones_ne k
      go_wp2
      go_round
      case rel => exact ⟨k, by omega, by go_num, by rw [ones_shift]⟩
      case measure => simp [intOf]; omega


end Go.Proofs.YteeapmcpbmjpmaaGreat
namespace Go.Proofs.YteeapmcpbmjpmaaGreat
set_option maxRecDepth 100000
open Go.RowKit
set_option linter.unusedVariables false

theorem size5 : (Tryz.prog.info? 5).map (·.size) = some 1 := by kernel_rfl

set_option maxHeartbeats 400000 in
theorem putW8 (a : Option Addr) (n c : Nat) (zs : List Int) (x : Int) (w : World) (hb : Bs w a n zs) (hn : n ≤ 1000000) (h0 : 0 ≤ x) (h1 : x ≤ 255) :
    Calls Tryz.prog 67 #[.slice a n c, .int .u8 x] w fun e w' => e = .returned (.slice (some ⟨w.heap.size, 0, none⟩) (n + 1) (n + 1)) ∧ Row w' w.heap.size (zs ++ be 1 x) ∧ w.grownBy w' none := by
  obtain ⟨i, hi, hz0, hz1, hz2⟩ := info_parts info5
  go_enter Tryz.func67, Tryz.ntmps67
  go_wp2_with (first
    | (go_at_call 88; refine (width8 _).mono ?_; rintro e w' ⟨rfl, hw⟩; obtain rfl := hw.symm)
    | (at_make; refine wpList_make_full _ rfl _ _ 35 rfl 0 5 i (.int .u8 0) 1 Tryz.underlying35 hi hz0 hz1 .i64 .i64 _ _ (n + 1) rfl rfl (by omega) (by omega) (by rw [hz2]; omega) (by unfold maxLen; omega) (by omega) ?_; intro w1 hown hg1; have hrow := row_of_own ((made_zeros (n + 1)) ▸ hown); clear hown)
    | (refine wpList_copy_splice rfl (.tmp 13) (.tmp 14) 35 35 rfl 5 Tryz.underlying35 size5 _ _ _ _ _ _ rfl rfl w.heap.size 0 (cells (List.replicate (n + 1) 0)) 5 hrow (cells zs) (by rw [cells_length, hb.1]; simp) (fun hp => ⟨rfl, hb.src hg1 hp⟩) (by simp [cells_length, hb.1]) (cells_one zs) w.heap.size w (below_of_grown hg1) (by omega) ?_; intro w2 HR hb2; have hrow2 := row_splice (x := x) hb.1 HR; clear HR hrow hg1))
  have hzl := hb.1
  clear hb hi hz0 hz1 hz2
  go_loopw [6, 7] (fun r i wr => ∃ j : Nat, j ≤ 1 ∧ r = .int .u64 (dvb x j) ∧ i = .int .i64 ((n : Int) + 1 - 1 - j) ∧ Row wr w.heap.size (laid zs 1 j x) ∧ Below w.heap.size w wr) (fun _ i _ => (intOf i + 1 - n).toNat)
  case atStart => exact ⟨0, by omega, by rw [dvb_zero], by simp, hrow2, hb2⟩
  case round =>
    obtain ⟨j, hj, rfl, rfl, hr, hbl⟩ := hrel
    by_cases hlt : j < 1
    · have hlen := laid_length zs 1 j x (by omega)
      have hput := laid_put zs n 1 j x hzl hlt
      have hd0 := dvb_nonneg x h0 j
      have hd1 := dvb_le x h0 j
      have hds := dvb_step x j
      rw [show (n : Int) + 1 - 1 - j = ((n + (1 - 1 - j) : Nat) : Int) from by omega]
      have ht1 : n ≤ n + (1 - 1 - j) := by omega
      have ht2 : n + (1 - 1 - j) < n + 1 := by omega
      have ht3 : n + (1 - 1 - j) + j + 1 = n + 1 := by omega
      generalize n + (1 - 1 - j) = t at *
      have hset := hr.set t (dvb x j % 256)
      have hcl := hr.cell t (by omega)
      have hfz := hr.unfrozen t
      rw [hput] at hset
      have HS := hid hset
      clear hset hput hr hlen hrow2 hb2
      go_wp2
      go_roundw
      case rel => exact ⟨j + 1, by omega, rfl, by go_num, (by first | exact HS.out | (have hq := HS.out; rwa [Int.emod_eq_of_lt hd0 (by omega)] at hq)), hbl.setCell (Nat.le_refl _) _⟩
      case measure => simp [intOf]; omega
    · have hje : j = 1 := by omega
      subst hje
      rw [laid_end] at hr
      have HS := hid hr
      clear hr hrow2 hb2
      go_wp2
      go_ret
      exact ⟨rfl, HS.out, grown_of_below hbl⟩

set_option maxHeartbeats 400000 in
theorem putW16 (a : Option Addr) (n c : Nat) (zs : List Int) (x : Int) (w : World) (hb : Bs w a n zs) (hn : n ≤ 1000000) (h0 : 0 ≤ x) (h1 : x ≤ 65535) :
    Calls Tryz.prog 68 #[.slice a n c, .int .u16 x] w fun e w' => e = .returned (.slice (some ⟨w.heap.size, 0, none⟩) (n + 2) (n + 2)) ∧ Row w' w.heap.size (zs ++ be 2 x) ∧ w.grownBy w' none := by
  obtain ⟨i, hi, hz0, hz1, hz2⟩ := info_parts info5
  go_enter Tryz.func68, Tryz.ntmps68
  go_wp2_with (first
    | (go_at_call 89; refine (width16 _).mono ?_; rintro e w' ⟨rfl, hw⟩; obtain rfl := hw.symm)
    | (at_make; refine wpList_make_full _ rfl _ _ 35 rfl 0 5 i (.int .u8 0) 1 Tryz.underlying35 hi hz0 hz1 .i64 .i64 _ _ (n + 2) rfl rfl (by omega) (by omega) (by rw [hz2]; omega) (by unfold maxLen; omega) (by omega) ?_; intro w1 hown hg1; have hrow := row_of_own ((made_zeros (n + 2)) ▸ hown); clear hown)
    | (refine wpList_copy_splice rfl (.tmp 13) (.tmp 14) 35 35 rfl 5 Tryz.underlying35 size5 _ _ _ _ _ _ rfl rfl w.heap.size 0 (cells (List.replicate (n + 2) 0)) 5 hrow (cells zs) (by rw [cells_length, hb.1]; simp) (fun hp => ⟨rfl, hb.src hg1 hp⟩) (by simp [cells_length, hb.1]) (cells_one zs) w.heap.size w (below_of_grown hg1) (by omega) ?_; intro w2 HR hb2; have hrow2 := row_splice (x := x) hb.1 HR; clear HR hrow hg1))
  have hzl := hb.1
  clear hb hi hz0 hz1 hz2
  go_loopw [6, 7] (fun r i wr => ∃ j : Nat, j ≤ 2 ∧ r = .int .u64 (dvb x j) ∧ i = .int .i64 ((n : Int) + 2 - 1 - j) ∧ Row wr w.heap.size (laid zs 2 j x) ∧ Below w.heap.size w wr) (fun _ i _ => (intOf i + 1 - n).toNat)
  case atStart => exact ⟨0, by omega, by rw [dvb_zero], by simp, hrow2, hb2⟩
  case round =>
    obtain ⟨j, hj, rfl, rfl, hr, hbl⟩ := hrel
    by_cases hlt : j < 2
    · have hlen := laid_length zs 2 j x (by omega)
      have hput := laid_put zs n 2 j x hzl hlt
      have hd0 := dvb_nonneg x h0 j
      have hd1 := dvb_le x h0 j
      have hds := dvb_step x j
      rw [show (n : Int) + 2 - 1 - j = ((n + (2 - 1 - j) : Nat) : Int) from by omega]
      have ht1 : n ≤ n + (2 - 1 - j) := by omega
      have ht2 : n + (2 - 1 - j) < n + 2 := by omega
      have ht3 : n + (2 - 1 - j) + j + 1 = n + 2 := by omega
      generalize n + (2 - 1 - j) = t at *
      have hset := hr.set t (dvb x j % 256)
      have hcl := hr.cell t (by omega)
      have hfz := hr.unfrozen t
      rw [hput] at hset
      have HS := hid hset
      clear hset hput hr hlen hrow2 hb2
      go_wp2
      go_roundw
      case rel => exact ⟨j + 1, by omega, rfl, by go_num, (by first | exact HS.out | (have hq := HS.out; rwa [Int.emod_eq_of_lt hd0 (by omega)] at hq)), hbl.setCell (Nat.le_refl _) _⟩
      case measure => simp [intOf]; omega
    · have hje : j = 2 := by omega
      subst hje
      rw [laid_end] at hr
      have HS := hid hr
      clear hr hrow2 hb2
      go_wp2
      go_ret
      exact ⟨rfl, HS.out, grown_of_below hbl⟩


end Go.Proofs.YteeapmcpbmjpmaaGreat
namespace Go.Proofs.YteeapmcpbmjpmaaGreat
set_option maxRecDepth 100000
open Go.RowKit

/-- The reader in block r. -/
def Rdr (w : World) (r : Nat) (a : Option Addr) (n c : Nat) (p e : Int) : Prop := w.heap[r]? = some (.cells #[.slice a n c, .int .i64 p, .int .i64 e] 131 (0, 0))

section
variable {w w' : World} {r : Nat} {a : Option Addr} {n c : Nat} {p e : Int}
theorem Rdr.c0 (h : Rdr w r a n c p e) : w.cell? ⟨r, 0, none⟩ = some (.slice a n c) := by rw [cell_of_row w r 0 _ 131 (0, 0) h]; rfl
theorem Rdr.c1 (h : Rdr w r a n c p e) : w.cell? ⟨r, 1, none⟩ = some (.int .i64 p) := by rw [cell_of_row w r 1 _ 131 (0, 0) h]; rfl
theorem Rdr.c2 (h : Rdr w r a n c p e) : w.cell? ⟨r, 2, none⟩ = some (.int .i64 e) := by rw [cell_of_row w r 2 _ 131 (0, 0) h]; rfl
theorem Rdr.fz (h : Rdr w r a n c p e) (i : Nat) : w.frozen? ⟨r, i, none⟩ = false := by unfold Rdr at h; simp [World.frozen?, h]
theorem Rdr.lt (h : Rdr w r a n c p e) : r < w.heap.size := (Array.getElem?_eq_some_iff.1 h).1
theorem Rdr.set0 (h : Rdr w r a n c p e) (a' : Option Addr) (n' c' : Nat) : Rdr (w.setCell ⟨r, 0, none⟩ (.slice a' n' c')) r a' n' c' p e := by
  unfold Rdr at *; simp [World.setCell, Array.getElem?_modify, h]
theorem Rdr.set1 (h : Rdr w r a n c p e) (p' : Int) : Rdr (w.setCell ⟨r, 1, none⟩ (.int .i64 p')) r a n c p' e := by
  unfold Rdr at *; simp [World.setCell, Array.getElem?_modify, h]
theorem Rdr.set2 (h : Rdr w r a n c p e) (e' : Int) : Rdr (w.setCell ⟨r, 2, none⟩ (.int .i64 e')) r a n c p e' := by
  unfold Rdr at *; simp [World.setCell, Array.getElem?_modify, h]
theorem Rdr.kept {q : Option Nat} (h : Rdr w r a n c p e) (hg : w.grownBy w' q) (hr : some r ≠ q) : Rdr w' r a n c p e := by
  unfold Rdr; rw [hg.block r h.lt hr]; exact h
end

/-- Nothing but block r has turned, and no block has come. -/
structure Only (r : Nat) (w w' : World) : Prop where
  os : w'.os = w.os
  tape : w'.tape = w.tape
  output : w'.output = w.output
  size : w'.heap.size = w.heap.size
  block : ∀ k, k ≠ r → w'.heap[k]? = w.heap[k]?
theorem Only.refl (r : Nat) (w : World) : Only r w w := ⟨rfl, rfl, rfl, rfl, fun _ _ => rfl⟩
theorem Only.trans {r : Nat} {x y z : World} (h : Only r x y) (k : Only r y z) : Only r x z :=
  ⟨k.os.trans h.os, k.tape.trans h.tape, k.output.trans h.output, k.size.trans h.size, fun i hi => (k.block i hi).trans (h.block i hi)⟩
theorem Only.drewN {r : Nat} {x y : World} (h : Only r x y) (n : Nat) : Only r x (y.drewN n) := h.trans ⟨rfl, rfl, rfl, rfl, fun _ _ => rfl⟩
theorem Only.set {r : Nat} {x y : World} (h : Only r x y) (i : Nat) (v : Value) : Only r x (y.setCell ⟨r, i, none⟩ v) :=
  h.trans ⟨rfl, rfl, rfl, by simp [World.setCell], fun k hk => Below.heap_setCell _ _ _ _ hk⟩
theorem Only.grown {r : Nat} {x y : World} (h : Only r x y) : x.grownBy y (some r) := ⟨h.os, h.tape, h.output, by rw [h.size]; exact Nat.le_refl _, fun k _ hr => h.block k (fun e => hr (by rw [e]))⟩
theorem Only.below {r B : Nat} {x y : World} (h : Only r x y) (hB : B ≤ r) : Below B x y := ⟨h.os, h.tape, h.output, by rw [h.size]; exact Nat.le_refl _, fun k hk => h.block k (by omega)⟩

/-- The slice lies in block g, a row of the call's own, and reads zs. -/
def Lies (w : World) (g : Nat) (a : Option Addr) (n c : Nat) (zs : List Int) : Prop :=
  zs.length = n ∧ n ≤ c ∧ c ≤ maxLen ∧ (∀ z ∈ zs, 0 ≤ z ∧ z ≤ 255) ∧
  ((a = none ∧ n = 0 ∧ c = 0) ∨ ∃ off cur, a = some ⟨g, off, none⟩ ∧ w.heap[g]? = some (.cells cur 5 (0, 0)) ∧ off + c ≤ cur.size ∧ (cur.toList.drop off).take n = cells zs)

theorem Lies.kept {w w' : World} {g : Nat} {a : Option Addr} {n c : Nat} {zs : List Int} (h : Lies w g a n c zs) (hk : g < w.heap.size → w'.heap[g]? = w.heap[g]?) : Lies w' g a n c zs := by
  obtain ⟨h1, h2, h3, h4, h5⟩ := h
  refine ⟨h1, h2, h3, h4, ?_⟩
  rcases h5 with h5 | ⟨off, cur, rfl, hg, h6⟩
  · exact .inl h5
  · exact .inr ⟨off, cur, rfl, by rw [hk (Array.getElem?_eq_some_iff.1 hg).1]; exact hg, h6⟩
theorem Lies.bs {w : World} {g : Nat} {a : Option Addr} {n c : Nat} {zs : List Int} (h : Lies w g a n c zs) : Bs w a n zs := by
  obtain ⟨h1, h2, h3, h4, h5⟩ := h
  refine ⟨h1, h4, ?_⟩
  rcases h5 with ⟨_, h5, _⟩ | ⟨off, cur, rfl, hg, h6, h7⟩
  · exact .inl h5
  · refine .inr ⟨g, off, rfl, fun i hi => ?_⟩
    rw [cell_of_row w g _ cur 5 (0, 0) hg]
    have hq := cells_get zs i (by omega)
    rw [← h7, List.getElem?_take, if_pos hi, List.getElem?_drop] at hq
    simpa using hq
theorem Lies.cut {w : World} {g : Nat} {a : Option Addr} {n c m : Nat} {zs : List Int} (h : Lies w g a n c zs) (hm : m ≤ n) : Lies w g a m m (zs.take m) := by
  obtain ⟨h1, h2, h3, h4, h5⟩ := h
  refine ⟨by simp; omega, Nat.le_refl _, by omega, fun z hz => h4 z (List.mem_of_mem_take hz), ?_⟩
  rcases h5 with ⟨rfl, rfl, rfl⟩ | ⟨off, cur, rfl, hg, h6, h7⟩
  · exact .inl ⟨rfl, by omega, by omega⟩
  · refine .inr ⟨off, cur, rfl, hg, by omega, ?_⟩
    have : cells (zs.take m) = (cells zs).take m := by simp [cells]
    rw [this, ← h7, List.take_take, Nat.min_eq_left hm]
theorem Lies.rest {w : World} {g b off : Nat} {n c m : Nat} {zs : List Int} (h : Lies w g (some ⟨b, off, none⟩) n c zs) (hm : m ≤ n) : Lies w g (some ⟨b, if c = m then off else off + m, none⟩) (n - m) (c - m) (zs.drop m) := by
  obtain ⟨h1, h2, h3, h4, h5⟩ := h
  refine ⟨by simp; omega, by omega, by omega, fun z hz => h4 z (List.mem_of_mem_drop hz), ?_⟩
  rcases h5 with ⟨e, _⟩ | ⟨off', cur, e, hg, h6, h7⟩
  · cases e
  · simp only [Option.some.injEq, Addr.mk.injEq] at e
    obtain ⟨rfl, rfl, _⟩ := e
    refine .inr ⟨_, cur, rfl, hg, by split <;> omega, ?_⟩
    have : cells (zs.drop m) = (cells zs).drop m := by simp [cells]
    rw [this, ← h7, List.drop_take]
    split
    · rename_i e; subst e
      rw [show n - c = 0 from by omega]; simp
    · rw [List.drop_drop]

/-- A whole reader in block r over block g: what is left is zs, its place p. -/
def Rd (w : World) (r g : Nat) (zs : List Int) (p : Int) : Prop := g ≠ r ∧ ∃ a n c, Rdr w r a n c p 0 ∧ Lies w g a n c zs
/-- Taking m bytes where so many are left breaks the reader by q. -/
def Brk (m : Int) (len : Nat) (q : Int) : Prop := (m < 0 ∧ q = 11) ∨ (0 ≤ m ∧ (len : Int) < m ∧ q = 10)
/-- A broken one. -/
def Rb (w : World) (r : Nat) (p e : Int) : Prop := Rdr w r none 0 0 p e ∧ (e != 0) = true

theorem Rd.kept {w w' : World} {r g : Nat} {zs : List Int} {p : Int} (h : Rd w r g zs p) (hr : w'.heap[r]? = w.heap[r]?) (hk : g < w.heap.size → w'.heap[g]? = w.heap[g]?) : Rd w' r g zs p := by
  obtain ⟨hgr, a, n, c, h1, h2⟩ := h
  exact ⟨hgr, a, n, c, by unfold Rdr; rw [hr]; exact h1, h2.kept hk⟩
theorem Rb.kept {w w' : World} {r : Nat} {e : Int} {p : Int} (h : Rb w r p e) (hr : w'.heap[r]? = w.heap[r]?) : Rb w' r p e := 
  ⟨by unfold Rdr; rw [hr]; exact h.1, h.2⟩
theorem Rd.lt {w : World} {r g : Nat} {zs : List Int} {p : Int} (h : Rd w r g zs p) : r < w.heap.size := by
  obtain ⟨_, a, n, c, h1, _⟩ := h; exact h1.lt
theorem Rb.lt {w : World} {r : Nat} {e : Int} {p : Int} (h : Rb w r p e) : r < w.heap.size := h.1.lt

end Go.Proofs.YteeapmcpbmjpmaaGreat
namespace Go.Proofs.YteeapmcpbmjpmaaGreat
set_option maxRecDepth 100000
open Go.RowKit
set_option linter.unusedVariables false

set_option maxHeartbeats 400000 in
theorem fail_ (r n c : Nat) (a : Option Addr) (p e q : Int) (w : World) (h : Rdr w r a n c p e) :
    Calls Tryz.prog 110 #[.pointer (some ⟨r, 0, none⟩), .int .i64 q] w fun en w' => en = .returned (.tuple #[]) ∧ Rdr w' r none 0 0 p q ∧ Only r w w' := by
  have h0 := h.c0
  have h2 := h.c2
  have f0 := h.fz 0
  have f2 := h.fz 2
  have HR := hid (((h.set2 q).set0 none 0 0))
  have HO := hid (((Only.refl r w).set 2 (.int .i64 q)).set 0 (.slice none 0 0))
  clear h
  go_enter Tryz.func110, Tryz.ntmps110
  go_wp2
  go_end0
  exact ⟨rfl, HR.out, HO.out⟩

set_option maxHeartbeats 400000 in
theorem take_broken (r n c : Nat) (a : Option Addr) (p e m : Int) (w : World) (h : Rdr w r a n c p e) (he : (e != 0) = true) :
    Calls Tryz.prog 100 #[.pointer (some ⟨r, 0, none⟩), .int .i64 m] w fun en w' => en = .returned (.slice none 0 0) ∧ w' = w := by
  have h2 := h.c2
  clear h
  go_enter Tryz.func100, Tryz.ntmps100
  go_wp2
  go_ret
  exact ⟨rfl, rfl⟩

set_option maxHeartbeats 400000 in
theorem take_range (r n c : Nat) (a : Option Addr) (p m : Int) (w : World) (h : Rdr w r a n c p 0) (hm : m < 0) :
    Calls Tryz.prog 100 #[.pointer (some ⟨r, 0, none⟩), .int .i64 m] w fun en w' => en = .returned (.slice none 0 0) ∧ Rdr w' r none 0 0 p 11 ∧ Only r w w' := by
  have h2 := h.c2
  go_enter Tryz.func100, Tryz.ntmps100
  go_wp2_with (go_at_call 110; refine (fail_ r n c a p 0 11 _ h).mono ?_; rintro en w1 ⟨rfl, hr, ho⟩)
  go_ret
  exact ⟨rfl, hr, ho⟩

set_option maxHeartbeats 400000 in
theorem take_short (r n c : Nat) (a : Option Addr) (p m : Int) (w : World) (h : Rdr w r a n c p 0) (hm : 0 ≤ m) (hs : (n : Int) < m) :
    Calls Tryz.prog 100 #[.pointer (some ⟨r, 0, none⟩), .int .i64 m] w fun en w' => en = .returned (.slice none 0 0) ∧ Rdr w' r none 0 0 p 10 ∧ Only r w w' := by
  have h0 := h.c0
  have h2 := h.c2
  go_enter Tryz.func100, Tryz.ntmps100
  go_wp2_with (go_at_call 110; refine (fail_ r n c a p 0 10 _ h).mono ?_; rintro en w1 ⟨rfl, hr, ho⟩)
  go_ret
  exact ⟨rfl, hr, ho⟩

set_option maxHeartbeats 400000 in
theorem take_ok (r n c m : Nat) (b off : Nat) (p : Int) (w : World) (h : Rdr w r (some ⟨b, off, none⟩) n c p 0) (hm : m ≤ n) (hc : n ≤ c) (hl : c ≤ maxLen) (hn : n ≤ 1000000000) (hp : 0 ≤ p) (hp1 : p ≤ 1000000000) :
    Calls Tryz.prog 100 #[.pointer (some ⟨r, 0, none⟩), .int .i64 m] w fun en w' => en = .returned (.slice (some ⟨b, off, none⟩) m m) ∧ Rdr w' r (some ⟨b, (if c = m then off else off + m), none⟩) (n - m) (c - m) (p + m) 0 ∧ Only r w w' := by
  unfold maxLen at hl
  have h0 := h.c0
  have h1 := h.c1
  have h2 := h.c2
  have f0 := h.fz 0
  have f1 := h.fz 1
  have i0 : (0 : Int) ≤ (m : Int) := by omega
  have i1 : (m : Int) ≤ (n : Int) := by omega
  have i2 : (n : Int) ≤ (c : Int) := by omega
  have i3 : (m : Int) ≤ (c : Int) := by omega
  have HR : Hid (∀ o' n' c' : Nat, Rdr ((w.setCell ⟨r, 0, none⟩ (.slice (some ⟨b, o', none⟩) n' c')).setCell ⟨r, 1, none⟩ (.int .i64 (p + m))) r (some ⟨b, o', none⟩) n' c' (p + m) 0) := fun o' n' c' => (h.set0 _ _ _).set1 _
  have HO : Hid (∀ v u : Value, Only r w ((w.setCell ⟨r, 0, none⟩ v).setCell ⟨r, 1, none⟩ u)) := fun v u => ((Only.refl r w).set 0 v).set 1 u
  clear h
  go_enter Tryz.func100, Tryz.ntmps100
  go_wp2
  all_goals
    go_ret
    exact ⟨rfl, HR.out _ _ _, HO.out _ _⟩

set_option maxHeartbeats 400000 in
theorem take_nil (r : Nat) (p : Int) (w : World) (h : Rdr w r none 0 0 p 0) (hp : 0 ≤ p) (hp1 : p ≤ 1000000000) :
    Calls Tryz.prog 100 #[.pointer (some ⟨r, 0, none⟩), .int .i64 0] w fun en w' => en = .returned (.slice none 0 0) ∧ Rdr w' r none 0 0 p 0 ∧ Only r w w' := by
  have h0 := h.c0
  have h1 := h.c1
  have h2 := h.c2
  have f0 := h.fz 0
  have f1 := h.fz 1
  have HR := hid ((h.set0 none 0 0).set1 p)
  have HO := hid (((Only.refl r w).set 0 (.slice none 0 0)).set 1 (.int .i64 p))
  clear h
  go_enter Tryz.func100, Tryz.ntmps100
  go_wp2
  go_ret
  exact ⟨rfl, HR.out, HO.out⟩

theorem take_whole (r g m : Nat) (zs : List Int) (p : Int) (w : World) (h : Rd w r g zs p) (hm : m ≤ zs.length) (hn : zs.length ≤ 1000000000) (hp : 0 ≤ p) (hp1 : p ≤ 1000000000) :
    Calls Tryz.prog 100 #[.pointer (some ⟨r, 0, none⟩), .int .i64 m] w fun en w' => ∃ a, en = .returned (.slice a m m) ∧ Lies w' g a m m (zs.take m) ∧ Rd w' r g (zs.drop m) (p + m) ∧ Only r w w' := by
  obtain ⟨hgr, a, n, c, hr, hl⟩ := h
  obtain ⟨e1, e2, e3, _⟩ := id hl
  cases a with
  | none =>
    obtain ⟨_, rfl, rfl⟩ : (none : Option Addr) = none ∧ n = 0 ∧ c = 0 := by
      rcases hl.2.2.2.2 with h | ⟨_, _, h, _⟩
      · exact h
      · cases h
    obtain rfl : m = 0 := by omega
    refine (take_nil r p w hr hp hp1).mono ?_
    rintro en w' ⟨rfl, hr', ho⟩
    have hk : g < w.heap.size → w'.heap[g]? = w.heap[g]? := fun _ => ho.block g hgr
    obtain rfl : zs = [] := List.eq_nil_of_length_eq_zero (by omega)
    exact ⟨none, rfl, (hl.kept hk), ⟨hgr, none, 0, 0, by simpa using hr', hl.kept hk⟩, ho⟩
  | some x =>
    obtain ⟨off, rfl⟩ : ∃ off, x = ⟨g, off, none⟩ := by
      rcases hl.2.2.2.2 with ⟨h, _⟩ | ⟨off, _, h, _⟩
      · cases h
      · exact ⟨off, Option.some.inj h⟩
    refine (take_ok r n c m g off p w hr (by omega) e2 e3 (by omega) hp hp1).mono ?_
    rintro en w' ⟨rfl, hr', ho⟩
    have hk : g < w.heap.size → w'.heap[g]? = w.heap[g]? := fun _ => ho.block g hgr
    exact ⟨_, rfl, (hl.cut (by omega)).kept hk, ⟨hgr, _, _, _, hr', (hl.rest (by omega)).kept hk⟩, ho⟩

theorem take_breaks (r g : Nat) (m q : Int) (zs : List Int) (p : Int) (w : World) (h : Rd w r g zs p) (hm : Brk m zs.length q) :
    Calls Tryz.prog 100 #[.pointer (some ⟨r, 0, none⟩), .int .i64 m] w fun en w' => en = .returned (.slice none 0 0) ∧ Rb w' r p q ∧ Only r w w' := by
  obtain ⟨hgr, a, n, c, hr, hl⟩ := h
  rcases hm with ⟨h0, rfl⟩ | ⟨h0, h1, rfl⟩
  · refine (take_range r n c a p m w hr h0).mono ?_
    rintro en w' ⟨rfl, hr', ho⟩
    exact ⟨rfl, ⟨hr', rfl⟩, ho⟩
  · refine (take_short r n c a p m w hr (by omega) (by have := hl.1; omega)).mono ?_
    rintro en w' ⟨rfl, hr', ho⟩
    exact ⟨rfl, ⟨hr', rfl⟩, ho⟩

end Go.Proofs.YteeapmcpbmjpmaaGreat
