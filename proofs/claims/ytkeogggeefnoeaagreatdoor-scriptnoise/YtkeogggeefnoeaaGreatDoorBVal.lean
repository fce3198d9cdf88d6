import Derived.Test.YtkeogggeefnoeaaGreatDoorBWid
import Derived.Laws.CopyOwn
import Derived.Laws.Bits64b
namespace Go.Proofs.YtkeogggeefnoeaaGreatDoor
set_option linter.unusedSimpArgs false
set_option maxRecDepth 100000
open Go.RowKit
set_option linter.unusedVariables false

theorem size5 : (Tryz.prog.info? 5).map (·.size) = some 1 := by kernel_rfl

set_option maxHeartbeats 400000 in
theorem put32 (a : Option Addr) (n c : Nat) (zs : List Int) (x : Int) (w : World) (hb : Bs w a n zs) (hn : n ≤ 1000000) (h0 : 0 ≤ x) (h1 : x ≤ 4294967295) :
    Calls Tryz.prog 162 #[.slice a n c, .int .u32 x] w fun e w' => e = .returned (.slice (some ⟨w.heap.size, 0, none⟩) (n + 4) (n + 4)) ∧ Row w' w.heap.size (zs ++ be 4 x) ∧ w.grownBy w' none := by
  obtain ⟨i, hi, hz0, hz1, hz2⟩ := info_parts info5
  go_enter Tryz.func162, Tryz.ntmps162
  go_wp2_with (first
    | (go_at_call 171; refine (width32 _).mono ?_; rintro e w' ⟨rfl, hw⟩; obtain rfl := hw.symm)
    | (at_make; refine wpList_make_full _ rfl _ _ 40 rfl 0 5 i (.int .u8 0) 1 Tryz.underlying40 hi hz0 hz1 .i64 .i64 _ _ (n + 4) rfl rfl (by omega) (by omega) (by rw [hz2]; omega) (by unfold maxLen; omega) (by omega) ?_; intro w1 hown hg1; have hrow := row_of_own ((made_zeros (n + 4)) ▸ hown); clear hown)
    | (refine wpList_copy_splice rfl (.tmp 13) (.tmp 14) 40 40 rfl 5 Tryz.underlying40 size5 _ _ _ _ _ _ rfl rfl w.heap.size 0 (cells (List.replicate (n + 4) 0)) 5 hrow (cells zs) (by rw [cells_length, hb.1]; simp) (fun hp => ⟨rfl, hb.src hg1 hp⟩) (by simp [cells_length, hb.1]) (cells_one zs) w.heap.size w (below_of_grown hg1) (by omega) ?_; intro w2 HR hb2; have hrow2 := row_splice (x := x) hb.1 HR; clear HR hrow hg1))
  have hzl := hb.1
  clear hb hi hz0 hz1 hz2
  go_loopw [6, 7] (fun r i wr => ∃ j : Nat, j ≤ 4 ∧ r = .int .u64 (dvb x j) ∧ i = .int .i64 ((n : Int) + 4 - 1 - j) ∧ Row wr w.heap.size (laid zs 4 j x) ∧ Below w.heap.size w wr) (fun _ i _ => (intOf i + 1 - n).toNat)
  case atStart => exact ⟨0, by omega, by rw [dvb_zero], by simp, hrow2, hb2⟩
  case round =>
    obtain ⟨j, hj, rfl, rfl, hr, hbl⟩ := hrel
    by_cases hlt : j < 4
    · have hlen := laid_length zs 4 j x (by omega)
      have hput := laid_put zs n 4 j x hzl hlt
      have hd0 := dvb_nonneg x h0 j
      have hd1 := dvb_le x h0 j
      have hds := dvb_step x j
      rw [show (n : Int) + 4 - 1 - j = ((n + (4 - 1 - j) : Nat) : Int) from by omega]
      have ht1 : n ≤ n + (4 - 1 - j) := by omega
      have ht2 : n + (4 - 1 - j) < n + 4 := by omega
      have ht3 : n + (4 - 1 - j) + j + 1 = n + 4 := by omega
      generalize n + (4 - 1 - j) = t at *
      have hset := hr.set t (dvb x j % 256)
      have hcl := hr.cell t (by omega)
      have hfz := hr.unfrozen t
      rw [hput] at hset
      have HS := hid hset
      clear hset hput hr hlen hrow2 hb2
      go_wp2
      go_roundw
      case rel => exact ⟨j + 1, by omega, rfl, by go_num, (by first | exact HS.out | (have hq := HS.out; rwa [Int.emod_eq_of_lt hd0 (by omega)] at hq)), hbl.setCell (Nat.le_refl _) _⟩
      case measure => simp [intOf]; omega
    · have hje : j = 4 := by omega
      subst hje
      rw [laid_end] at hr
      have HS := hid hr
      clear hr hrow2 hb2
      go_wp2
      go_ret
      exact ⟨rfl, HS.out, grown_of_below hbl⟩

set_option maxHeartbeats 400000 in
theorem put64 (a : Option Addr) (n c : Nat) (zs : List Int) (x : Int) (w : World) (hb : Bs w a n zs) (hn : n ≤ 1000000) (h0 : 0 ≤ x) (h1 : x ≤ 18446744073709551615) :
    Calls Tryz.prog 163 #[.slice a n c, .int .u64 x] w fun e w' => e = .returned (.slice (some ⟨w.heap.size, 0, none⟩) (n + 8) (n + 8)) ∧ Row w' w.heap.size (zs ++ be 8 x) ∧ w.grownBy w' none := by
  obtain ⟨i, hi, hz0, hz1, hz2⟩ := info_parts info5
  go_enter Tryz.func163, Tryz.ntmps163
  go_wp2_with (first
    | (go_at_call 172; refine (width64 _).mono ?_; rintro e w' ⟨rfl, hw⟩; obtain rfl := hw.symm)
    | (at_make; refine wpList_make_full _ rfl _ _ 40 rfl 0 5 i (.int .u8 0) 1 Tryz.underlying40 hi hz0 hz1 .i64 .i64 _ _ (n + 8) rfl rfl (by omega) (by omega) (by rw [hz2]; omega) (by unfold maxLen; omega) (by omega) ?_; intro w1 hown hg1; have hrow := row_of_own ((made_zeros (n + 8)) ▸ hown); clear hown)
    | (refine wpList_copy_splice rfl (.tmp 13) (.tmp 14) 40 40 rfl 5 Tryz.underlying40 size5 _ _ _ _ _ _ rfl rfl w.heap.size 0 (cells (List.replicate (n + 8) 0)) 5 hrow (cells zs) (by rw [cells_length, hb.1]; simp) (fun hp => ⟨rfl, hb.src hg1 hp⟩) (by simp [cells_length, hb.1]) (cells_one zs) w.heap.size w (below_of_grown hg1) (by omega) ?_; intro w2 HR hb2; have hrow2 := row_splice (x := x) hb.1 HR; clear HR hrow hg1))
  have hzl := hb.1
  clear hb hi hz0 hz1 hz2
  go_loopw [6, 7] (fun r i wr => ∃ j : Nat, j ≤ 8 ∧ r = .int .u64 (dvb x j) ∧ i = .int .i64 ((n : Int) + 8 - 1 - j) ∧ Row wr w.heap.size (laid zs 8 j x) ∧ Below w.heap.size w wr) (fun _ i _ => (intOf i + 1 - n).toNat)
  case atStart => exact ⟨0, by omega, by rw [dvb_zero], by simp, hrow2, hb2⟩
  case round =>
    obtain ⟨j, hj, rfl, rfl, hr, hbl⟩ := hrel
    by_cases hlt : j < 8
    · have hlen := laid_length zs 8 j x (by omega)
      have hput := laid_put zs n 8 j x hzl hlt
      have hd0 := dvb_nonneg x h0 j
      have hd1 := dvb_le x h0 j
      have hds := dvb_step x j
      rw [show (n : Int) + 8 - 1 - j = ((n + (8 - 1 - j) : Nat) : Int) from by omega]
      have ht1 : n ≤ n + (8 - 1 - j) := by omega
      have ht2 : n + (8 - 1 - j) < n + 8 := by omega
      have ht3 : n + (8 - 1 - j) + j + 1 = n + 8 := by omega
      generalize n + (8 - 1 - j) = t at *
      have hset := hr.set t (dvb x j % 256)
      have hcl := hr.cell t (by omega)
      have hfz := hr.unfrozen t
      rw [hput] at hset
      have HS := hid hset
      clear hset hput hr hlen hrow2 hb2
      go_wp2
      go_roundw
      case rel => exact ⟨j + 1, by omega, rfl, by go_num, (by first | exact HS.out | (have hq := HS.out; rwa [Int.emod_eq_of_lt hd0 (by omega)] at hq)), hbl.setCell (Nat.le_refl _) _⟩
      case measure => simp [intOf]; omega
    · have hje : j = 8 := by omega
      subst hje
      rw [laid_end] at hr
      have HS := hid hr
      clear hr hrow2 hb2
      go_wp2
      go_ret
      exact ⟨rfl, HS.out, grown_of_below hbl⟩


end Go.Proofs.YtkeogggeefnoeaaGreatDoor
namespace Go.Proofs.YtkeogggeefnoeaaGreatDoor
set_option linter.unusedSimpArgs false
set_option maxRecDepth 100000
open Go.RowKit

/-- The reader in block r. -/
def Rdr (w : World) (r : Nat) (a : Option Addr) (n c : Nat) (p e : Int) : Prop := w.heap[r]? = some (.cells #[.slice a n c, .int .i64 p, .int .i64 e] 238 (0, 0))

section
variable {w w' : World} {r : Nat} {a : Option Addr} {n c : Nat} {p e : Int}
theorem Rdr.c0 (h : Rdr w r a n c p e) : w.cell? ⟨r, 0, none⟩ = some (.slice a n c) := by rw [cell_of_row w r 0 _ 238 (0, 0) h]; rfl
theorem Rdr.c1 (h : Rdr w r a n c p e) : w.cell? ⟨r, 1, none⟩ = some (.int .i64 p) := by rw [cell_of_row w r 1 _ 238 (0, 0) h]; rfl
theorem Rdr.c2 (h : Rdr w r a n c p e) : w.cell? ⟨r, 2, none⟩ = some (.int .i64 e) := by rw [cell_of_row w r 2 _ 238 (0, 0) h]; rfl
theorem Rdr.fz (h : Rdr w r a n c p e) (i : Nat) : w.frozen? ⟨r, i, none⟩ = false := by unfold Rdr at h; simp [World.frozen?, h]
theorem Rdr.lt (h : Rdr w r a n c p e) : r < w.heap.size := (Array.getElem?_eq_some_iff.1 h).1
theorem Rdr.set0 (h : Rdr w r a n c p e) (a' : Option Addr) (n' c' : Nat) : Rdr (w.setCell ⟨r, 0, none⟩ (.slice a' n' c')) r a' n' c' p e := by
  unfold Rdr at *; simp [World.setCell, Array.getElem?_modify, h]
theorem Rdr.set1 (h : Rdr w r a n c p e) (p' : Int) : Rdr (w.setCell ⟨r, 1, none⟩ (.int .i64 p')) r a n c p' e := by
  unfold Rdr at *; simp [World.setCell, Array.getElem?_modify, h]
theorem Rdr.set2 (h : Rdr w r a n c p e) (e' : Int) : Rdr (w.setCell ⟨r, 2, none⟩ (.int .i64 e')) r a n c p e' := by
  unfold Rdr at *; simp [World.setCell, Array.getElem?_modify, h]
theorem Rdr.kept {q : Option Nat} (h : Rdr w r a n c p e) (hg : w.grownBy w' q) (hr : some r ≠ q) : Rdr w' r a n c p e := by
  unfold Rdr; rw [hg.block r h.lt hr]; exact h
end

/-- Nothing but block r has turned, and no block has come. -/
structure Only (r : Nat) (w w' : World) : Prop where
  os : w'.os = w.os
  tape : w'.tape = w.tape
  output : w'.output = w.output
  size : w'.heap.size = w.heap.size
  block : ∀ k, k ≠ r → w'.heap[k]? = w.heap[k]?
theorem Only.refl (r : Nat) (w : World) : Only r w w := ⟨rfl, rfl, rfl, rfl, fun _ _ => rfl⟩
theorem Only.trans {r : Nat} {x y z : World} (h : Only r x y) (k : Only r y z) : Only r x z :=
  ⟨k.os.trans h.os, k.tape.trans h.tape, k.output.trans h.output, k.size.trans h.size, fun i hi => (k.block i hi).trans (h.block i hi)⟩
theorem Only.drewN {r : Nat} {x y : World} (h : Only r x y) (n : Nat) : Only r x (y.drewN n) := h.trans ⟨rfl, rfl, rfl, rfl, fun _ _ => rfl⟩
theorem Only.set {r : Nat} {x y : World} (h : Only r x y) (i : Nat) (v : Value) : Only r x (y.setCell ⟨r, i, none⟩ v) :=
  h.trans ⟨rfl, rfl, rfl, by simp [World.setCell], fun k hk => Below.heap_setCell _ _ _ _ hk⟩
theorem Only.grown {r : Nat} {x y : World} (h : Only r x y) : x.grownBy y (some r) := ⟨h.os, h.tape, h.output, by rw [h.size]; exact Nat.le_refl _, fun k _ hr => h.block k (fun e => hr (by rw [e]))⟩
theorem Only.below {r B : Nat} {x y : World} (h : Only r x y) (hB : B ≤ r) : Below B x y := ⟨h.os, h.tape, h.output, by rw [h.size]; exact Nat.le_refl _, fun k hk => h.block k (by omega)⟩

/-- The slice lies in block g, a row of the call's own, and reads zs. -/
def Lies (w : World) (g : Nat) (a : Option Addr) (n c : Nat) (zs : List Int) : Prop :=
  zs.length = n ∧ n ≤ c ∧ c ≤ maxLen ∧ (∀ z ∈ zs, 0 ≤ z ∧ z ≤ 255) ∧
  ((a = none ∧ n = 0 ∧ c = 0) ∨ ∃ off cur, a = some ⟨g, off, none⟩ ∧ w.heap[g]? = some (.cells cur 5 (0, 0)) ∧ off + c ≤ cur.size ∧ (cur.toList.drop off).take n = cells zs)

theorem Lies.kept {w w' : World} {g : Nat} {a : Option Addr} {n c : Nat} {zs : List Int} (h : Lies w g a n c zs) (hk : g < w.heap.size → w'.heap[g]? = w.heap[g]?) : Lies w' g a n c zs := by
  obtain ⟨h1, h2, h3, h4, h5⟩ := h
  refine ⟨h1, h2, h3, h4, ?_⟩
  rcases h5 with h5 | ⟨off, cur, rfl, hg, h6⟩
  · exact .inl h5
  · exact .inr ⟨off, cur, rfl, by rw [hk (Array.getElem?_eq_some_iff.1 hg).1]; exact hg, h6⟩
theorem Lies.bs {w : World} {g : Nat} {a : Option Addr} {n c : Nat} {zs : List Int} (h : Lies w g a n c zs) : Bs w a n zs := by
  obtain ⟨h1, h2, h3, h4, h5⟩ := h
  refine ⟨h1, h4, ?_⟩
  rcases h5 with ⟨_, h5, _⟩ | ⟨off, cur, rfl, hg, h6, h7⟩
  · exact .inl h5
  · refine .inr ⟨g, off, rfl, fun i hi => ?_⟩
    rw [cell_of_row w g _ cur 5 (0, 0) hg]
    have hq := cells_get zs i (by omega)
    rw [← h7, List.getElem?_take, if_pos hi, List.getElem?_drop] at hq
    simpa using hq
theorem Lies.cut {w : World} {g : Nat} {a : Option Addr} {n c m : Nat} {zs : List Int} (h : Lies w g a n c zs) (hm : m ≤ n) : Lies w g a m m (zs.take m) := by
  obtain ⟨h1, h2, h3, h4, h5⟩ := h
  refine ⟨by simp; omega, Nat.le_refl _, by omega, fun z hz => h4 z (List.mem_of_mem_take hz), ?_⟩
  rcases h5 with ⟨rfl, rfl, rfl⟩ | ⟨off, cur, rfl, hg, h6, h7⟩
  · exact .inl ⟨rfl, by omega, by omega⟩
  · refine .inr ⟨off, cur, rfl, hg, by omega, ?_⟩
    have : cells (zs.take m) = (cells zs).take m := by simp [cells]
    rw [this, ← h7, List.take_take, Nat.min_eq_left hm]
theorem Lies.rest {w : World} {g b off : Nat} {n c m : Nat} {zs : List Int} (h : Lies w g (some ⟨b, off, none⟩) n c zs) (hm : m ≤ n) : Lies w g (some ⟨b, if c = m then off else off + m, none⟩) (n - m) (c - m) (zs.drop m) := by
  obtain ⟨h1, h2, h3, h4, h5⟩ := h
  refine ⟨by simp; omega, by omega, by omega, fun z hz => h4 z (List.mem_of_mem_drop hz), ?_⟩
  rcases h5 with ⟨e, _⟩ | ⟨off', cur, e, hg, h6, h7⟩
  · cases e
  · simp only [Option.some.injEq, Addr.mk.injEq] at e
    obtain ⟨rfl, rfl, _⟩ := e
    refine .inr ⟨_, cur, rfl, hg, by split <;> omega, ?_⟩
    have : cells (zs.drop m) = (cells zs).drop m := by simp [cells]
    rw [this, ← h7, List.drop_take]
    split
    · rename_i e; subst e
      rw [show n - c = 0 from by omega]; simp
    · rw [List.drop_drop]

/-- A whole reader in block r over block g: what is left is zs, its place p. -/
def Rd (w : World) (r g : Nat) (zs : List Int) (p : Int) : Prop := g ≠ r ∧ ∃ a n c, Rdr w r a n c p 0 ∧ Lies w g a n c zs
/-- Taking m bytes where so many are left breaks the reader by q. -/
def Brk (m : Int) (len : Nat) (q : Int) : Prop := (m < 0 ∧ q = 11) ∨ (0 ≤ m ∧ (len : Int) < m ∧ q = 10)
/-- A broken one. -/
def Rb (w : World) (r : Nat) (p e : Int) : Prop := Rdr w r none 0 0 p e ∧ (e != 0) = true

theorem Rd.kept {w w' : World} {r g : Nat} {zs : List Int} {p : Int} (h : Rd w r g zs p) (hr : w'.heap[r]? = w.heap[r]?) (hk : g < w.heap.size → w'.heap[g]? = w.heap[g]?) : Rd w' r g zs p := by
  obtain ⟨hgr, a, n, c, h1, h2⟩ := h
  exact ⟨hgr, a, n, c, by unfold Rdr; rw [hr]; exact h1, h2.kept hk⟩
theorem Rb.kept {w w' : World} {r : Nat} {e : Int} {p : Int} (h : Rb w r p e) (hr : w'.heap[r]? = w.heap[r]?) : Rb w' r p e := 
  ⟨by unfold Rdr; rw [hr]; exact h.1, h.2⟩
theorem Rd.lt {w : World} {r g : Nat} {zs : List Int} {p : Int} (h : Rd w r g zs p) : r < w.heap.size := by
  obtain ⟨_, a, n, c, h1, _⟩ := h; exact h1.lt
theorem Rb.lt {w : World} {r : Nat} {e : Int} {p : Int} (h : Rb w r p e) : r < w.heap.size := h.1.lt

end Go.Proofs.YtkeogggeefnoeaaGreatDoor
namespace Go.Proofs.YtkeogggeefnoeaaGreatDoor
set_option linter.unusedSimpArgs false
set_option maxRecDepth 100000
open Go.RowKit
set_option linter.unusedVariables false

set_option maxHeartbeats 400000 in
theorem fail_ (r n c : Nat) (a : Option Addr) (p e q : Int) (w : World) (h : Rdr w r a n c p e) :
    Calls Tryz.prog 178 #[.pointer (some ⟨r, 0, none⟩), .int .i64 q] w fun en w' => en = .returned (.tuple #[]) ∧ Rdr w' r none 0 0 p q ∧ Only r w w' := by
  have h0 := h.c0
  have h2 := h.c2
  have f0 := h.fz 0
  have f2 := h.fz 2
  have HR := hid (((h.set2 q).set0 none 0 0))
  have HO := hid (((Only.refl r w).set 2 (.int .i64 q)).set 0 (.slice none 0 0))
  clear h
  go_enter Tryz.func178, Tryz.ntmps178
  go_wp2
  go_end0
  exact ⟨rfl, HR.out, HO.out⟩

set_option maxHeartbeats 400000 in
theorem take_broken (r n c : Nat) (a : Option Addr) (p e m : Int) (w : World) (h : Rdr w r a n c p e) (he : (e != 0) = true) :
    Calls Tryz.prog 173 #[.pointer (some ⟨r, 0, none⟩), .int .i64 m] w fun en w' => en = .returned (.slice none 0 0) ∧ w' = w := by
  have h2 := h.c2
  clear h
  go_enter Tryz.func173, Tryz.ntmps173
  go_wp2
  go_ret
  exact ⟨rfl, rfl⟩

set_option maxHeartbeats 400000 in
theorem take_range (r n c : Nat) (a : Option Addr) (p m : Int) (w : World) (h : Rdr w r a n c p 0) (hm : m < 0) :
    Calls Tryz.prog 173 #[.pointer (some ⟨r, 0, none⟩), .int .i64 m] w fun en w' => en = .returned (.slice none 0 0) ∧ Rdr w' r none 0 0 p 11 ∧ Only r w w' := by
  have h2 := h.c2
  go_enter Tryz.func173, Tryz.ntmps173
  go_wp2_with (go_at_call 178; refine (fail_ r n c a p 0 11 _ h).mono ?_; rintro en w1 ⟨rfl, hr, ho⟩)
  go_ret
  exact ⟨rfl, hr, ho⟩

set_option maxHeartbeats 400000 in
theorem take_short (r n c : Nat) (a : Option Addr) (p m : Int) (w : World) (h : Rdr w r a n c p 0) (hm : 0 ≤ m) (hs : (n : Int) < m) :
    Calls Tryz.prog 173 #[.pointer (some ⟨r, 0, none⟩), .int .i64 m] w fun en w' => en = .returned (.slice none 0 0) ∧ Rdr w' r none 0 0 p 10 ∧ Only r w w' := by
  have h0 := h.c0
  have h2 := h.c2
  go_enter Tryz.func173, Tryz.ntmps173
  go_wp2_with (go_at_call 178; refine (fail_ r n c a p 0 10 _ h).mono ?_; rintro en w1 ⟨rfl, hr, ho⟩)
  go_ret
  exact ⟨rfl, hr, ho⟩

set_option maxHeartbeats 400000 in
theorem take_ok (r n c m : Nat) (b off : Nat) (p : Int) (w : World) (h : Rdr w r (some ⟨b, off, none⟩) n c p 0) (hm : m ≤ n) (hc : n ≤ c) (hl : c ≤ maxLen) (hn : n ≤ 1000000000) (hp : 0 ≤ p) (hp1 : p ≤ 1000000000) :
    Calls Tryz.prog 173 #[.pointer (some ⟨r, 0, none⟩), .int .i64 m] w fun en w' => en = .returned (.slice (some ⟨b, off, none⟩) m m) ∧ Rdr w' r (some ⟨b, (if c = m then off else off + m), none⟩) (n - m) (c - m) (p + m) 0 ∧ Only r w w' := by
  unfold maxLen at hl
  have h0 := h.c0
  have h1 := h.c1
  have h2 := h.c2
  have f0 := h.fz 0
  have f1 := h.fz 1
  have i0 : (0 : Int) ≤ (m : Int) := by omega
  have i1 : (m : Int) ≤ (n : Int) := by omega
  have i2 : (n : Int) ≤ (c : Int) := by omega
  have i3 : (m : Int) ≤ (c : Int) := by omega
  have HR : Hid (∀ o' n' c' : Nat, Rdr ((w.setCell ⟨r, 0, none⟩ (.slice (some ⟨b, o', none⟩) n' c')).setCell ⟨r, 1, none⟩ (.int .i64 (p + m))) r (some ⟨b, o', none⟩) n' c' (p + m) 0) := fun o' n' c' => (h.set0 _ _ _).set1 _
  have HO : Hid (∀ v u : Value, Only r w ((w.setCell ⟨r, 0, none⟩ v).setCell ⟨r, 1, none⟩ u)) := fun v u => ((Only.refl r w).set 0 v).set 1 u
  clear h
  go_enter Tryz.func173, Tryz.ntmps173
  go_wp2
  all_goals
    go_ret
    exact ⟨rfl, HR.out _ _ _, HO.out _ _⟩

set_option maxHeartbeats 400000 in
theorem take_nil (r : Nat) (p : Int) (w : World) (h : Rdr w r none 0 0 p 0) (hp : 0 ≤ p) (hp1 : p ≤ 1000000000) :
    Calls Tryz.prog 173 #[.pointer (some ⟨r, 0, none⟩), .int .i64 0] w fun en w' => en = .returned (.slice none 0 0) ∧ Rdr w' r none 0 0 p 0 ∧ Only r w w' := by
  have h0 := h.c0
  have h1 := h.c1
  have h2 := h.c2
  have f0 := h.fz 0
  have f1 := h.fz 1
  have HR := hid ((h.set0 none 0 0).set1 p)
  have HO := hid (((Only.refl r w).set 0 (.slice none 0 0)).set 1 (.int .i64 p))
  clear h
  go_enter Tryz.func173, Tryz.ntmps173
  go_wp2
  go_ret
  exact ⟨rfl, HR.out, HO.out⟩

theorem take_whole (r g m : Nat) (zs : List Int) (p : Int) (w : World) (h : Rd w r g zs p) (hm : m ≤ zs.length) (hn : zs.length ≤ 1000000000) (hp : 0 ≤ p) (hp1 : p ≤ 1000000000) :
    Calls Tryz.prog 173 #[.pointer (some ⟨r, 0, none⟩), .int .i64 m] w fun en w' => ∃ a, en = .returned (.slice a m m) ∧ Lies w' g a m m (zs.take m) ∧ Rd w' r g (zs.drop m) (p + m) ∧ Only r w w' := by
  obtain ⟨hgr, a, n, c, hr, hl⟩ := h
  obtain ⟨e1, e2, e3, _⟩ := id hl
  cases a with
  | none =>
    obtain ⟨_, rfl, rfl⟩ : (none : Option Addr) = none ∧ n = 0 ∧ c = 0 := by
      rcases hl.2.2.2.2 with h | ⟨_, _, h, _⟩
      · exact h
      · cases h
    obtain rfl : m = 0 := by omega
    refine (take_nil r p w hr hp hp1).mono ?_
    rintro en w' ⟨rfl, hr', ho⟩
    have hk : g < w.heap.size → w'.heap[g]? = w.heap[g]? := fun _ => ho.block g hgr
    obtain rfl : zs = [] := List.eq_nil_of_length_eq_zero (by omega)
    exact ⟨none, rfl, (hl.kept hk), ⟨hgr, none, 0, 0, by simpa using hr', hl.kept hk⟩, ho⟩
  | some x =>
    obtain ⟨off, rfl⟩ : ∃ off, x = ⟨g, off, none⟩ := by
      rcases hl.2.2.2.2 with ⟨h, _⟩ | ⟨off, _, h, _⟩
      · cases h
      · exact ⟨off, Option.some.inj h⟩
    refine (take_ok r n c m g off p w hr (by omega) e2 e3 (by omega) hp hp1).mono ?_
    rintro en w' ⟨rfl, hr', ho⟩
    have hk : g < w.heap.size → w'.heap[g]? = w.heap[g]? := fun _ => ho.block g hgr
    exact ⟨_, rfl, (hl.cut (by omega)).kept hk, ⟨hgr, _, _, _, hr', (hl.rest (by omega)).kept hk⟩, ho⟩

theorem take_breaks (r g : Nat) (m q : Int) (zs : List Int) (p : Int) (w : World) (h : Rd w r g zs p) (hm : Brk m zs.length q) :
    Calls Tryz.prog 173 #[.pointer (some ⟨r, 0, none⟩), .int .i64 m] w fun en w' => en = .returned (.slice none 0 0) ∧ Rb w' r p q ∧ Only r w w' := by
  obtain ⟨hgr, a, n, c, hr, hl⟩ := h
  rcases hm with ⟨h0, rfl⟩ | ⟨h0, h1, rfl⟩
  · refine (take_range r n c a p m w hr h0).mono ?_
    rintro en w' ⟨rfl, hr', ho⟩
    exact ⟨rfl, ⟨hr', rfl⟩, ho⟩
  · refine (take_short r n c a p m w hr (by omega) (by have := hl.1; omega)).mono ?_
    rintro en w' ⟨rfl, hr', ho⟩
    exact ⟨rfl, ⟨hr', rfl⟩, ho⟩

end Go.Proofs.YtkeogggeefnoeaaGreatDoor
namespace Go.Proofs.YtkeogggeefnoeaaGreatDoor
set_option linter.unusedSimpArgs false
set_option maxRecDepth 100000
open Go.RowKit
set_option linter.unusedVariables false

set_option maxHeartbeats 400000 in
theorem clone_nil (w : World) :
    Calls Tryz.prog 161 #[.slice none 0 0] w fun en w' => en = .returned (.slice none 0 0) ∧ w' = w := by
  have heq := Go.Lib.run_eql_slice_nil (P := Tryz.prog) w 40 5 none 0 0 0 0 Tryz.underlying40
  simp only [Option.isNone] at heq
  go_enter Tryz.func161, Tryz.ntmps161
  go_wp2
  go_ret
  exact ⟨rfl, rfl⟩

theorem grown_past {w w1 : World} {o : Obj} (h : (w.alloc o).grownBy w1 (some w.heap.size)) : w.grownBy w1 none :=
  ⟨h.os, h.tape, h.output, by have := h.size; simp at this; omega, fun k hk _ => by
    rw [h.block k (by simp; omega) (by simp; omega)]; exact Below.heap_alloc w o k hk⟩

set_option maxHeartbeats 400000 in
theorem clone_some (x : Addr) (n c : Nat) (zs : List Int) (w : World) (hb : Bs w (some x) n zs) (hn : n ≤ 1000000) :
    Calls Tryz.prog 161 #[.slice (some x) n c] w fun en w' => ∃ g cap cur, en = .returned (.slice (some ⟨g, 0, none⟩) n cap) ∧ w.heap.size ≤ g ∧ w'.heap[g]? = some (.cells cur 5 (0, 0)) ∧ n ≤ cap ∧ cap ≤ maxLen ∧ cur.size = cap ∧ cur.toList.take n = cells zs ∧ w.grownBy w' none := by
  obtain ⟨i, hi, hz0, hz1, hz2⟩ := info_parts info5
  have heq := Go.Lib.run_eql_slice_nil (P := Tryz.prog) w 40 5 (some x) n c 0 0 Tryz.underlying40
  simp only [Option.isNone] at heq
  go_enter Tryz.func161, Tryz.ntmps161
  go_wp2_with (at_builtin; (refine wpList_append_own _ rfl (.tmp 5) (.tmp 6) 40 rfl w.heap.size 5 i (.int .u8 0) 1 1 Tryz.underlying40 hi hz0 hz1 hz2 rfl (by decide) _ 0 [] rfl (World.ownsRow_made w _ 0 (Nat.le_refl _) (by unfold maxLen; omega) (by simp)) x n c (cells zs) rfl (by rw [cells_length, hb.1, Nat.mul_one]) (hb.src1 (World.grownBy_alloc w _ _)) (cells_one zs) (by unfold maxLen; omega) (by omega) (by simp) ?_); intro v' w1 hown hg hv)
  have hg' : (w.alloc (.cells #[] 5)).grownBy w1 (some w.heap.size) := hg
  have hv' : ¬ v' = .slice none 0 0 := fun e => by have hq : Value.slice (some ⟨w.heap.size, 0, none⟩) 0 0 = .slice none 0 0 := (hv.1 e).1; simp at hq
  obtain ⟨h1, h2⟩ := hown
  rcases h2 with ⟨e, _⟩ | ⟨g, cap, cur, rfl, hbg, hgg, hnc, hcm, hcs, ht⟩
  · exact absurd e hv'
  simp only [Nat.zero_add, Nat.mul_one, List.nil_append] at ht hcs hnc ⊢
  clear hv hv' hg h1
  go_ret
  exact ⟨g, cap, cur, rfl, hbg, hgg, hnc, hcm, hcs, ht, grown_past hg'⟩

set_option maxHeartbeats 400000 in
theorem newReader_nil (w : World) :
    Calls Tryz.prog 152 #[.slice none 0 0] w fun en w' => en = .returned (.pointer (some ⟨w.heap.size, 0, none⟩)) ∧ w' = w.alloc (.cells #[.slice none 0 0, .int .i64 0, .int .i64 0] 238) := by
  go_enter Tryz.func152, Tryz.ntmps152
  go_wp2_with (go_at_call 161; refine (clone_nil _).mono ?_; rintro e w' ⟨rfl, hw⟩; obtain rfl := hw.symm)
  go_ret
  exact ⟨rfl, rfl⟩

set_option maxHeartbeats 400000 in
theorem newReader_some (x : Addr) (n c : Nat) (zs : List Int) (w : World) (hb : Bs w (some x) n zs) (hn : n ≤ 1000000) :
    Calls Tryz.prog 152 #[.slice (some x) n c] w fun en w' => ∃ g cap cur w1, en = .returned (.pointer (some ⟨w1.heap.size, 0, none⟩)) ∧ w.heap.size ≤ g ∧ w1.heap[g]? = some (.cells cur 5 (0, 0)) ∧ n ≤ cap ∧ cap ≤ maxLen ∧ cur.size = cap ∧ cur.toList.take n = cells zs ∧ w.grownBy w1 none ∧
      w' = w1.alloc (.cells #[.slice (some ⟨g, 0, none⟩) n cap, .int .i64 0, .int .i64 0] 238) := by
  go_enter Tryz.func152, Tryz.ntmps152
  go_wp2_with (go_at_call 161; refine (clone_some x n c zs _ hb hn).mono ?_; rintro e w1 ⟨g, cap, cur, rfl, h1, h2, h3, h4, h5, h6, h7⟩; have H2 := hid h2; have H5 := hid h5; have H6 := hid h6; clear h2 h5 h6)
  go_ret
  exact ⟨g, cap, cur, w1, rfl, h1, H2.out, h3, h4, H5.out, H6.out, h7, rfl⟩

/-- A new reader of these bytes, all its memory new. -/
theorem newReader (a : Option Addr) (n c : Nat) (zs : List Int) (w : World) (hb : Bs w a n zs) (ha : a = none → c = 0) (hn : n ≤ 1000000) (hnc : n ≤ c) :
    Calls Tryz.prog 152 #[.slice a n c] w fun en w' => ∃ r g, en = .returned (.pointer (some ⟨r, 0, none⟩)) ∧ Rd w' r g zs 0 ∧ w.heap.size ≤ r ∧ w.heap.size ≤ g ∧ (a ≠ none → g < w'.heap.size) ∧ w.grownBy w' none := by
  cases a with
  | none =>
    obtain rfl : c = 0 := ha rfl
    obtain rfl : n = 0 := by omega
    obtain rfl : zs = [] := List.eq_nil_of_length_eq_zero hb.1
    refine (newReader_nil w).mono ?_
    rintro en w' ⟨rfl, rfl⟩
    refine ⟨w.heap.size, w.heap.size + 1, rfl, ⟨by omega, none, 0, 0, heap_alloc_new w _, rfl, Nat.le_refl _, by unfold maxLen; omega, by simp, .inl ⟨rfl, rfl, rfl⟩⟩, Nat.le_refl _, by omega, fun h => absurd rfl h, World.grownBy_alloc w _ _⟩
  | some x =>
    refine (newReader_some x n c zs w hb hn).mono ?_
    rintro en w' ⟨g, cap, cur, w1, rfl, hbg, hgg, hnc', hcm, hcs, ht, hg, rfl⟩
    have hs := hg.size
    have hlt : g < w1.heap.size := (Array.getElem?_eq_some_iff.1 hgg).1
    refine ⟨w1.heap.size, g, rfl, ⟨by omega, some ⟨g, 0, none⟩, n, cap, heap_alloc_new w1 _, hb.1, hnc', hcm, hb.2.1, .inr ⟨0, cur, rfl, ?_, by omega, ?_⟩⟩, hs, hbg, fun _ => by simp; omega, ?_⟩
    · rw [Below.heap_alloc w1 _ g hlt]; exact hgg
    · simpa using ht
    · exact ⟨hg.os, hg.tape, hg.output, by simp; omega, fun k hk hr => by rw [Below.heap_alloc w1 _ k (by omega)]; exact hg.block k hk hr⟩

end Go.Proofs.YtkeogggeefnoeaaGreatDoor
namespace Go.Proofs.YtkeogggeefnoeaaGreatDoor
set_option linter.unusedSimpArgs false
set_option maxRecDepth 100000
open Go.RowKit
set_option linter.unusedVariables false

set_option maxHeartbeats 400000 in
theorem left_ (r n c : Nat) (a : Option Addr) (p e : Int) (w : World) (h : Rdr w r a n c p e) :
    Calls Tryz.prog 164 #[.pointer (some ⟨r, 0, none⟩)] w fun en w' => en = .returned (.int .i64 n) ∧ w' = w := by
  have h0 := h.c0
  clear h
  go_enter Tryz.func164, Tryz.ntmps164
  go_wp2
  go_ret
  exact ⟨rfl, rfl⟩

theorem left_whole (r g : Nat) (zs : List Int) (p : Int) (w : World) (h : Rd w r g zs p) :
    Calls Tryz.prog 164 #[.pointer (some ⟨r, 0, none⟩)] w fun en w' => en = .returned (.int .i64 zs.length) ∧ w' = w := by
  obtain ⟨_, a, n, c, h1, h2⟩ := h
  rw [h2.1]
  exact left_ r n c a p 0 w h1
theorem left_broken (r : Nat) (p e : Int) (w : World) (h : Rb w r p e) :
    Calls Tryz.prog 164 #[.pointer (some ⟨r, 0, none⟩)] w fun en w' => en = .returned (.int .i64 0) ∧ w' = w := left_ r 0 0 none p e w h.1
end Go.Proofs.YtkeogggeefnoeaaGreatDoor
namespace Go.Proofs.YtkeogggeefnoeaaGreatDoor
set_option linter.unusedSimpArgs false
set_option maxRecDepth 100000
open Go.RowKit

/-- What Get holds behind k rounds. -/
def vk (zs : List Int) (W k : Nat) : Int := val ((zs.take W).take k)
theorem vk_zero (zs : List Int) (W : Nat) : vk zs W 0 = 0 := by simp [vk, val]
theorem vk_all (zs : List Int) (W : Nat) (h : W ≤ zs.length) : vk zs W W = val (zs.take W) := by
  unfold vk; rw [List.take_of_length_le (by simp; omega)]
theorem vk_step (zs : List Int) (W k : Nat) (h : k < (zs.take W).length) : vk zs W (k + 1) = vk zs W k * 256 + (zs.take W).getD k 0 := by
  unfold vk
  rw [List.take_succ_eq_append_getElem h, val_snoc]
  simp only [List.getD, List.getElem?_eq_getElem h, Option.getD_some]
theorem vk_bound (zs : List Int) (W k : Nat) (hk : k ≤ (zs.take W).length) (hb : ∀ z ∈ zs.take W, 0 ≤ z ∧ z ≤ 255) : 0 ≤ vk zs W k ∧ vk zs W k < 256 ^ k := by
  have := val_bound ((zs.take W).take k) fun z hz => hb z (List.mem_of_mem_take hz)
  rwa [List.length_take, Nat.min_eq_left hk] at this
theorem vk_small (zs : List Int) (W k : Nat) (hk : k < (zs.take W).length) (h8 : k < 8) (hb : ∀ z ∈ zs.take W, 0 ≤ z ∧ z ≤ 255) : 0 ≤ vk zs W k ∧ vk zs W k < 72057594037927936 := by
  have h := vk_bound zs W k (by omega) hb
  refine ⟨h.1, Int.lt_of_lt_of_le h.2 ?_⟩
  have e : k = 0 ∨ k = 1 ∨ k = 2 ∨ k = 3 ∨ k = 4 ∨ k = 5 ∨ k = 6 ∨ k = 7 := by omega
  rcases e with rfl | rfl | rfl | rfl | rfl | rfl | rfl | rfl <;> decide
theorem getD_byte (l : List Int) (k : Nat) (h : k < l.length) (hb : ∀ z ∈ l, 0 ≤ z ∧ z ≤ 255) : 0 ≤ l.getD k 0 ∧ l.getD k 0 ≤ 255 := by
  simp only [List.getD, List.getElem?_eq_getElem h, Option.getD_some]
  exact hb _ (List.getElem_mem h)
theorem val_w {zs : List Int} {W : Nat} (hW : W ≤ zs.length) (hb : ∀ z ∈ zs.take W, 0 ≤ z ∧ z ≤ 255) : 0 ≤ val (zs.take W) ∧ val (zs.take W) < 256 ^ W := by
  have := val_bound (zs.take W) hb
  rwa [List.length_take, Nat.min_eq_left hW] at this

end Go.Proofs.YtkeogggeefnoeaaGreatDoor
