import Derived.Test.YtkeogggeefnoeaaGreatDoorRows
import Derived.WalkKit
import Derived.WalkSpells
import Derived.WalkSmall
import Derived.WalkLawsBesides
import Derived.Deep.QuietTactic
import Derived.BigQuiet
import Derived.Deep.WholeRow
import Derived.ChangeKeysEq
namespace Go.Proofs.YtkeogggeefnoeaaGreatDoor
set_option linter.unusedSimpArgs false
set_option maxRecDepth 100000
open Go.RowKit
set_option linter.unusedVariables false

theorem hid {p : Prop} (h : p) : Hid p := h
theorem grown_of_below {w w1 : World} (hg : Below w.heap.size w w1) : w.grownBy w1 none := ⟨hg.os, hg.tape, hg.output, hg.size, fun k hk _ => hg.block k hk⟩
/-- The frame over one more call. -/
theorem bel_bel {B : Nat} {a b c : World} (h : Below B a b) (hB : B ≤ b.heap.size) (hg : Below b.heap.size b c) : Below B a c :=
  h.trans ⟨hg.os, hg.tape, hg.output, hg.size, fun k hk => hg.block k (by omega)⟩
theorem bel_row {B g : Nat} {w w' : World} (h : Below B w w') (hg : B ≤ g) (ds : Array Value) : Below B w (w'.setRow g ds) :=
  h.trans ⟨rfl, rfl, rfl, by simp, fun k hk => setRow_other w' g k ds (by omega)⟩
theorem bel_drawn {B : Nat} {a b : World} (h : Below B a b) (n : Nat) : Below B a (b.drewN n) := h.trans ⟨rfl, rfl, rfl, Nat.le_refl _, fun _ _ => rfl⟩
end Go.Proofs.YtkeogggeefnoeaaGreatDoor
namespace Go.Proofs.YtkeogggeefnoeaaGreatDoor
set_option linter.unusedSimpArgs false
set_option maxRecDepth 100000
open Go.RowKit
set_option linter.unusedVariables false


/-- The slice at 'a', of n elements, reads the bytes zs. -/
def Bs (w : World) (a : Option Addr) (n : Nat) (zs : List Int) : Prop :=
  zs.length = n ∧ (∀ z ∈ zs, 0 ≤ z ∧ z ≤ 255) ∧ (n = 0 ∨ ∃ b off, a = some ⟨b, off, none⟩ ∧ ∀ i, i < n → w.cell? ⟨b, off + i, none⟩ = some (.int .u8 (zs.getD i 0)))

/-- Where the slice lies apart from block r. -/
def Off (a : Option Addr) (n : Nat) (r : Option Nat) : Prop := n = 0 ∨ ∀ x, a = some x → some x.block ≠ r

theorem Bs.kept {w w' : World} {a : Option Addr} {n : Nat} {zs : List Int} {r : Option Nat} (h : Bs w a n zs) (hg : w.grownBy w' r) (ho : Off a n r) : Bs w' a n zs := by
  refine ⟨h.1, h.2.1, ?_⟩
  rcases h.2.2 with h0 | ⟨b, off, rfl, hc⟩
  · exact .inl h0
  · rcases ho with h0 | ho
    · exact .inl h0
    · exact .inr ⟨b, off, rfl, fun i hi => hg.cell (hc i hi) (ho ⟨b, off, .none⟩ rfl)⟩

theorem Off.none (a : Option Addr) (n : Nat) : Off a n none := .inr fun _ _ => by simp

/-- Are the two lists one? -/
def sameB (xs ys : List Int) : Bool := decide (xs = ys)
theorem sameB_self (xs : List Int) : sameB xs xs = true := by simp [sameB]
theorem sameB_len {xs ys : List Int} (h : xs.length ≠ ys.length) : sameB xs ys = false := by
  unfold sameB; exact decide_eq_false fun e => h (by rw [e])
theorem sameB_at {xs ys : List Int} {k : Nat} (h : xs.getD k 0 ≠ ys.getD k 0) : sameB xs ys = false := by
  unfold sameB; exact decide_eq_false fun e => h (by rw [e])
theorem sameB_take {xs ys : List Int} {n : Nat} (hx : xs.length = n) (hy : ys.length = n) (h : xs.take n = ys.take n) : sameB xs ys = true := by
  unfold sameB
  rw [List.take_of_length_le (by omega), List.take_of_length_le (by omega)] at h
  exact decide_eq_true h
theorem take_step {xs ys : List Int} {k : Nat} (hx : k < xs.length) (hy : k < ys.length) (h : xs.take k = ys.take k) (e : xs.getD k 0 = ys.getD k 0) : xs.take (k + 1) = ys.take (k + 1) := by
  rw [List.take_succ_eq_append_getElem hx, List.take_succ_eq_append_getElem hy, h]
  simp [List.getD, hx, hy] at e
  rw [e]
theorem ret_bool {a b : Bool} (h : a = b) : Ending.returned (.bool a) = .returned (.bool b) := by rw [h]

theorem grown_drewN (w : World) (n : Nat) (r : Option Nat) : w.grownBy (w.drewN n) r := ⟨rfl, rfl, rfl, Nat.le_refl _, fun _ _ _ => rfl⟩

set_option maxHeartbeats 400000 in
theorem same (a b : Option Addr) (n c m d : Nat) (xs ys : List Int) (w : World) (hx : Bs w a n xs) (hy : Bs w b m ys) (hn : n ≤ maxLen) (hm : m ≤ maxLen) :
    Calls Tryz.prog 54 #[.slice a n c, .slice b m d] w fun e w' => e = .returned (.bool (sameB xs ys)) ∧ ∃ nq, w' = w.drewN nq := by
  unfold maxLen at hn hm
  by_cases hnm : n = m
  · subst hnm
    obtain ⟨hxl, hxb, hx⟩ := hx
    obtain ⟨hyl, hyb, hy⟩ := hy
    have hne : ((n : Int) != (n : Int)) = false := by simp
    go_enter Tryz.func54, Tryz.ntmps54
    go_wp2
    go_loopw [5] (fun i wr => ∃ k nq : Nat, k ≤ n ∧ i = .int .i64 k ∧ xs.take k = ys.take k ∧ wr = w.drewN nq) (fun i _ => n - (intOf i).toNat)
    case atStart => exact ⟨0, 0, by omega, rfl, rfl, rfl⟩
    case round =>
      obtain ⟨k, nq, hk, rfl, he, rfl⟩ := hrel
      by_cases hlt : k < n
      · rcases hx with h0 | ⟨b1, o1, rfl, hc1⟩
        · omega
        rcases hy with h0 | ⟨b2, o2, rfl, hc2⟩
        · omega
        have e1 := hc1 k hlt
        have e2 := hc2 k hlt
        by_cases hq : xs.getD k 0 = ys.getD k 0
        · have hts := take_step (by omega) (by omega) he hq
          have HT : Hid (xs.take (k + 1) = ys.take (k + 1)) := hts
          clear hts he hc1 hc2 hxb hyb
          rw [hq] at e1
          generalize ys.getD k 0 = y at *
          have hb : (y != y) = false := by simp
          go_wp2
          go_quiet (fail)
          go_wp2
          go_roundw
          case rel => exact ⟨k + 1, _, by omega, by go_num, HT.out, rfl⟩
          case measure => simp [intOf]; omega
        · have hb : (xs.getD k 0 != ys.getD k 0) = true := by rw [bne_iff_ne]; exact hq
          have HT : Hid (sameB xs ys = false) := sameB_at hq
          clear he hc1 hc2 hxb hyb hq
          generalize ys.getD k 0 = y at *
          generalize xs.getD k 0 = x at *
          go_wp2
          go_quiet (fail)
          go_wp2
          go_ret
          exact ⟨ret_bool HT.out.symm, _, World.drewN_drewN _ _ _⟩
      · go_wp2
        go_ret
        exact ⟨ret_bool (by rw [sameB_take hxl hyl]; rwa [show k = n by omega] at he), nq, rfl⟩
  · have hne : ((n : Int) != (m : Int)) = true := by rw [bne_iff_ne]; omega
    go_enter Tryz.func54, Tryz.ntmps54
    go_wp2
    go_ret
    exact ⟨ret_bool (by rw [sameB_len (by rw [hx.1, hy.1]; exact hnm)]), 0, rfl⟩

/-- Numbers as cells. -/
def cells (zs : List Int) : List Value := zs.map (Value.int .u8)
theorem cells_length (zs : List Int) : (cells zs).length = zs.length := by simp [cells]
theorem cells_append (xs ys : List Int) : cells (xs ++ ys) = cells xs ++ cells ys := by simp [cells]
theorem cells_one (zs : List Int) : ∀ v ∈ cells zs, v.oneCell' = true := by
  intro v hv
  obtain ⟨_, _, rfl⟩ := List.mem_map.1 hv
  rfl
theorem cells_get (zs : List Int) (i : Nat) (h : i < zs.length) : (cells zs)[i]? = some (.int .u8 (zs.getD i 0)) := by
  simp [cells, List.getD, h]

theorem Bs.src {w w1 : World} {a : Option Addr} {n : Nat} {zs : List Int} (h : Bs w a n zs) (hg : w.grownBy w1 none) (h0 : 0 < (cells zs).length) :
    ∃ ad, a = some ad ∧ ∀ j v, (cells zs)[j]? = some v → w1.cell? (ad.add j) = some v := by
  rw [cells_length] at h0
  rcases (h.kept hg (Off.none _ _)).2.2 with e | ⟨b, off, rfl, hc⟩
  · have := h.1; omega
  · refine ⟨_, rfl, fun j v hv => ?_⟩
    have hj : j < zs.length := by have := (List.getElem?_eq_some_iff.1 hv).1; rwa [cells_length] at this
    rw [cells_get zs j hj] at hv
    rw [Addr.add_lit, hc j (by have := h.1; omega)]
    exact hv

theorem below_of_grown {w w1 : World} (hg : w.grownBy w1 none) : Below w.heap.size w w1 := ⟨hg.os, hg.tape, hg.output, hg.size, fun k hk => hg.block k hk (by simp)⟩

theorem info5 : (Tryz.prog.info? 5).map (fun i => (i.zero, i.size, i.bytes)) = some (some (.int .u8 0), 1, 1) := by kernel_rfl
theorem Bs.src1 {w w1 : World} {x : Addr} {n : Nat} {zs : List Int} (h : Bs w (some x) n zs) (hg : w.grownBy w1 none) :
    ∀ j v, (cells zs)[j]? = some v → w1.cell? (x.add j) = some v := by
  intro j v hv
  have hj : 0 < (cells zs).length := by have := (List.getElem?_eq_some_iff.1 hv).1; omega
  obtain ⟨ad, e, hs⟩ := h.src hg hj
  obtain rfl := Option.some.inj e
  exact hs j v hv

theorem Bs.ofCells {w : World} {g n : Nat} {zs : List Int} {t : TypeId} (h : w.heap[g]? = some (.cells (cells zs).toArray t (0, 0))) (hn : zs.length = n) (hb : ∀ z ∈ zs, 0 ≤ z ∧ z ≤ 255) : Bs w (some ⟨g, 0, none⟩) n zs := by
  refine ⟨hn, hb, .inr ⟨g, 0, rfl, fun i hi => ?_⟩⟩
  rw [Nat.zero_add, cell_of_row w g i _ t (0, 0) h]
  simpa using cells_get zs i (by omega)
theorem Bs.new (w : World) (zs : List Int) (t : TypeId) (hb : ∀ z ∈ zs, 0 ≤ z ∧ z ≤ 255) : Bs (w.alloc (.cells (cells zs).toArray t)) (some ⟨w.heap.size, 0, none⟩) zs.length zs :=
  Bs.ofCells (heap_alloc_new w _) rfl hb
theorem Bs.len {w : World} {a : Option Addr} {n m : Nat} {zs : List Int} (h : Bs w a n zs) (e : n = m) : Bs w a m zs := e ▸ h

/-- The frame over one more call. -/
theorem bel_grow {B : Nat} {a b c : World} (h : Below B a b) (hB : B ≤ b.heap.size) (hg : b.grownBy c none) : Below B a c :=
  h.trans ⟨hg.os, hg.tape, hg.output, hg.size, fun k hk => hg.block k (by omega) (by simp)⟩
theorem Bs.below {w w' : World} {a : Option Addr} {n : Nat} {zs : List Int} (h : Bs w a n zs) (hb : Below w.heap.size w w') : Bs w' a n zs := h.kept (grown_of_below hb) (Off.none _ _)
/-- Two worlds with one memory. -/
structure Drawn (w w' : World) : Prop where
  os : w'.os = w.os
  tape : w'.tape = w.tape
  output : w'.output = w.output
  heap : w'.heap = w.heap
theorem Drawn.below {w w' : World} (h : Drawn w w') : Below w.heap.size w w' := ⟨h.os, h.tape, h.output, by rw [h.heap]; exact Nat.le_refl _, fun k _ => by rw [h.heap]⟩
theorem drawnN (w : World) (n : Nat) : Drawn w (w.drewN n) := ⟨rfl, rfl, rfl, rfl⟩

theorem same_d (a b : Option Addr) (n c m d : Nat) (xs ys : List Int) (w : World) (hx : Bs w a n xs) (hy : Bs w b m ys) (hn : n ≤ maxLen) (hm : m ≤ maxLen) :
    Calls Tryz.prog 54 #[.slice a n c, .slice b m d] w fun e w' => e = .returned (.bool (sameB xs ys)) ∧ Drawn w w' := by
  refine (same a b n c m d xs ys w hx hy hn hm).mono ?_
  rintro e w' ⟨rfl, nq, rfl⟩
  exact ⟨rfl, drawnN w nq⟩
theorem Bs.drawn {w w' : World} {a : Option Addr} {n : Nat} {zs : List Int} (h : Bs w a n zs) (hd : Drawn w w') : Bs w' a n zs := h.kept (grown_of_below hd.below) (Off.none _ _)
theorem Drawn.at {w w' : World} (h : Drawn w w') (k : Nat) : w'.heap[k]? = w.heap[k]? := by rw [h.heap]
/-- SameBytes of two lists that are one. -/
theorem same_yes (a b : Option Addr) (n c m d : Nat) (xs : List Int) (w : World) (hx : Bs w a n xs) (hy : Bs w b m xs) (hn : n ≤ 2000000) (hm : m ≤ 2000000) :
    Calls Tryz.prog 54 #[.slice a n c, .slice b m d] w fun e w' => e = .returned (.bool true) ∧ Drawn w w' := by
  refine (same a b n c m d xs xs w hx hy (by unfold maxLen; omega) (by unfold maxLen; omega)).mono ?_
  rintro e w' ⟨rfl, nq, rfl⟩
  exact ⟨by rw [sameB_self], drawnN w nq⟩

theorem cells_take_succ (zs : List Int) (k : Nat) (h : k < zs.length) : cells (zs.take k) ++ [.int .u8 (zs.getD k 0)] = cells (zs.take (k + 1)) := by
  rw [List.take_succ_eq_append_getElem h, cells_append]
  simp [cells, List.getD, h]

set_option maxHeartbeats 400000 in
theorem refBytes (a : Option Addr) (n c : Nat) (zs : List Int) (w : World) (hb : Bs w a n zs) (hn : n ≤ 140737488351232) :
    Calls Tryz.prog 45 #[.slice a n c] w fun en w' => ∃ v, en = .returned v ∧ w'.ownsRow w.heap.size 5 1 v n (cells zs) ∧ Below w.heap.size w w' := by
  obtain ⟨i, hi, hz0, hz1, hz2⟩ := info_parts info5
  go_enter Tryz.func45, Tryz.ntmps45
  go_wp2
  go_loopw [3, 4] (fun v i wr => ∃ k : Nat, k ≤ n ∧ i = .int .i64 k ∧ wr.ownsRow w.heap.size 5 1 v k (cells (zs.take k)) ∧ Below w.heap.size w wr) (fun _ i _ => n - (intOf i).toNat)
  case atStart => exact ⟨0, by omega, rfl, World.ownsRow_nil _ _ _ _, Below.refl _ _⟩
  case round =>
    obtain ⟨k, hk, rfl, hown, hbl⟩ := hrel
    have hsz := hbl.size
    by_cases hlt : k < n
    · obtain ⟨e1, e2, e3⟩ := hb
      rcases e3 with e3 | ⟨b, off, rfl, hc⟩
      · omega
      have hck : wr.cell? ⟨b, off + k, none⟩ = some (.int .u8 (zs.getD k 0)) := (hbl.cell (World.block_lt_of_cell? w _ (hc k hlt))).trans (hc k hlt)
      have HS := hid (cells_take_succ zs k (by omega))
      clear hc e2
      generalize zs.getD k 0 = z at *
      go_wp2_with (at_builtin; refine wpList_append_own _ rfl _ _ 40 rfl w.heap.size 5 i (.int .u8 0) 1 1 Tryz.underlying40 hi hz0 hz1 hz2 rfl (by decide) _ _ _ rfl (hown.alloc _) ⟨wr.heap.size, 0, none⟩ 1 1 [.int .u8 z] rfl rfl ?c1 ?c2 ?c3 ?c4 ?c5 ?_)
      case c1 =>
        intro j u hj
        match j, hj with
        | 0, hj => simp at hj; subst hj; simp [Addr.add]
      case c2 => intro u hu; simp at hu; subst hu; rfl
      case c3 => unfold maxLen; omega
      case c4 => omega
      case c5 => simp; omega
      intro v' w1 hown' hgrow _
      have hown2 : w1.ownsRow w.heap.size 5 1 v' (k + 1) (cells (zs.take (k + 1))) := by rw [← HS.out]; exact hown'
      have hbl2 : Below w.heap.size w w1 := (hbl.alloc (by omega) _).grown hgrow (by simp; omega) fun q hq => (hown.lt q hq).1
      clear hown' hgrow hown hck
      go_wp2
      go_roundw
      case rel => exact ⟨k + 1, by omega, by go_num, hown2, hbl2⟩
      case measure => simp [intOf]; omega
    · obtain rfl : k = n := by omega
      rw [List.take_of_length_le (by rw [hb.1]; exact Nat.le_refl _)] at hown
      go_wp2
      go_ret
      exact ⟨_, rfl, hown, hbl⟩

/-- What a row of one's own reads. -/
theorem own_form {w : World} {base n : Nat} {v : Value} {zs : List Int} (h : w.ownsRow base 5 1 v n (cells zs)) (hb : ∀ z ∈ zs, 0 ≤ z ∧ z ≤ 255) :
    ∃ a cap, v = .slice a n cap ∧ Bs w a n zs ∧ n ≤ cap ∧ cap ≤ maxLen ∧ (a = none → cap = 0) := by
  obtain ⟨h1, h2⟩ := h
  rw [cells_length, Nat.mul_one] at h1
  rcases h2 with ⟨rfl, rfl⟩ | ⟨g, cap, cur, rfl, _, hg, hnc, hcm, hs, ht⟩
  · exact ⟨none, 0, rfl, ⟨h1, hb, .inl rfl⟩, Nat.le_refl _, by unfold maxLen; omega, fun _ => rfl⟩
  · refine ⟨_, cap, rfl, ⟨h1, hb, .inr ⟨g, 0, rfl, fun i hi => ?_⟩⟩, hnc, hcm, fun e => by cases e⟩
    rw [Nat.zero_add, cell_of_row w g i cur 5 (0, 0) hg]
    have hq := cells_get zs i (by omega)
    rw [← ht, Nat.mul_one, List.getElem?_take, if_pos hi] at hq
    simpa using hq

theorem own_step {w0 wr w1 : World} {v : Value} {o : Obj} {base m : Nat} {xs : List Value} (hB : base = w0.heap.size) (hbl : Below w0.heap.size w0 wr) (hown : wr.ownsRow base 5 1 v m xs) (hg : (wr.alloc o).grownBy w1 v.ownBlock) : Below w0.heap.size w0 w1 := by
  subst hB
  have hsz := hbl.size
  exact (hbl.alloc (by omega) _).grown hg (by simp; omega) fun q hq => (hown.lt q hq).1

/-- A row of one's own whose first cells read ys. -/
def Head (w : World) (g cap : Nat) (ys : List Int) : Prop := ∃ cur, w.heap[g]? = some (.cells cur 5 (0, 0)) ∧ cur.size = cap ∧ ys.length ≤ cap ∧ cur.toList.take ys.length = cells ys
theorem Head.cell {w : World} {g cap : Nat} {ys : List Int} (h : Head w g cap ys) (i : Nat) (hi : i < ys.length) : w.cell? ⟨g, i, none⟩ = some (.int .u8 (ys.getD i 0)) := by
  obtain ⟨cur, hg, _, _, ht⟩ := h
  rw [cell_of_row w g i cur 5 (0, 0) hg]
  have hq := cells_get ys i hi
  rw [← ht, List.getElem?_take, if_pos hi] at hq
  simpa using hq
theorem Head.lt {w : World} {g cap : Nat} {ys : List Int} (h : Head w g cap ys) : g < w.heap.size := by
  obtain ⟨cur, hg, _⟩ := h; exact (Array.getElem?_eq_some_iff.1 hg).1
theorem Head.unfrozen {w : World} {g cap : Nat} {ys : List Int} (h : Head w g cap ys) (i : Nat) : w.frozen? ⟨g, i, none⟩ = false := by
  obtain ⟨cur, hg, _⟩ := h; simp [World.frozen?, hg]
theorem Head.set {w : World} {g cap : Nat} {ys : List Int} (h : Head w g cap ys) (i : Nat) (x : Int) : Head (w.setCell ⟨g, i, none⟩ (.int .u8 x)) g cap (ys.set i x) := by
  obtain ⟨cur, hg, hs, hl, ht⟩ := h
  refine ⟨cur.setIfInBounds i (.int .u8 x), by simp [World.setCell, Array.getElem?_modify, hg], by simpa using hs, by simpa using hl, ?_⟩
  rw [Array.toList_setIfInBounds, List.length_set, List.take_set, ht]
  simp [cells, List.map_set]
theorem Head.bs {w : World} {g cap m : Nat} {ys : List Int} (h : Head w g cap ys) (hm : m ≤ ys.length) (hb : ∀ z ∈ ys, 0 ≤ z ∧ z ≤ 255) : Bs w (some ⟨g, 0, none⟩) m (ys.take m) := by
  refine ⟨by simp; omega, fun z hz => hb z (List.mem_of_mem_take hz), .inr ⟨g, 0, rfl, fun i hi => ?_⟩⟩
  rw [Nat.zero_add, h.cell i (by omega)]
  simp only [List.getD, List.getElem?_take, if_pos hi]
theorem Head.all {w : World} {g cap m : Nat} {ys : List Int} (h : Head w g cap ys) (hm : ys.length = m) (hb : ∀ z ∈ ys, 0 ≤ z ∧ z ≤ 255) : Bs w (some ⟨g, 0, none⟩) m ys := by
  have := h.bs (m := m) (by omega) hb
  rwa [List.take_of_length_le (by omega)] at this
theorem Head.below {w w' : World} {g cap : Nat} {ys : List Int} (h : Head w g cap ys) (hb : Below w.heap.size w w') : Head w' g cap ys := by
  have hlt := h.lt
  obtain ⟨cur, hg, r⟩ := h
  exact ⟨cur, by rw [hb.block g hlt]; exact hg, r⟩
theorem own_head {w : World} {base n : Nat} {v : Value} {zs : List Int} (h : w.ownsRow base 5 1 v n (cells zs)) (hn : 0 < n) : ∃ g cap, v = .slice (some ⟨g, 0, none⟩) n cap ∧ n ≤ cap ∧ cap ≤ maxLen ∧ base ≤ g ∧ Head w g cap zs ∧ zs.length = n := by
  obtain ⟨h1, h2⟩ := h
  rw [cells_length, Nat.mul_one] at h1
  rcases h2 with ⟨_, h⟩ | ⟨g, cap, cur, rfl, hb, hg, hnc, hcm, hs, ht⟩
  · omega
  · exact ⟨g, cap, rfl, hnc, hcm, hb, ⟨cur, hg, by omega, by omega, by rw [h1]; simpa using ht⟩, h1⟩
theorem byte_set {ys : List Int} (hb : ∀ z ∈ ys, 0 ≤ z ∧ z ≤ 255) (i : Nat) (x : Int) (hx : 0 ≤ x ∧ x ≤ 255) : ∀ z ∈ ys.set i x, 0 ≤ z ∧ z ≤ 255 := by
  intro z hz
  rcases List.mem_or_eq_of_mem_set hz with h | rfl
  · exact hb z h
  · exact hx

end Go.Proofs.YtkeogggeefnoeaaGreatDoor
namespace Go.Proofs.YtkeogggeefnoeaaGreatDoor
set_option linter.unusedSimpArgs false
set_option maxRecDepth 100000
set_option linter.unusedVariables false

/-- The lowest j bytes of x, the highest first. -/
def be : Nat → Int → List Int
  | 0, _ => []
  | j + 1, x => (x / 256 ^ j % 256) :: be j x
theorem be_length (j : Nat) (x : Int) : (be j x).length = j := by induction j with
  | zero => rfl
  | succ j ih => simp [be, ih]
theorem be_byte (j : Nat) (x : Int) : ∀ z ∈ be j x, 0 ≤ z ∧ z ≤ 255 := by
  induction j with
  | zero => intro z hz; simp [be] at hz
  | succ j ih =>
    intro z hz
    rw [be] at hz
    rcases List.mem_cons.1 hz with rfl | hz
    · omega
    · exact ih z hz

/-- The number that these bytes are, the highest first. -/
def val (zs : List Int) : Int := zs.foldl (fun x b => x * 256 + b) 0
theorem val_snoc (l : List Int) (b : Int) : val (l ++ [b]) = val l * 256 + b := by simp [val]
theorem fold_bound (l : List Int) : ∀ (x : Int) (m : Nat), (∀ z ∈ l, 0 ≤ z ∧ z ≤ 255) → 0 ≤ x → x < 256 ^ m → 0 ≤ l.foldl (fun x b => x * 256 + b) x ∧ l.foldl (fun x b => x * 256 + b) x < 256 ^ (m + l.length) := by
  induction l with
  | nil => intro x m _ h0 h1; exact ⟨h0, h1⟩
  | cons b l ih =>
    intro x m h h0 h1
    have hb := h b (by simp)
    have := ih (x * 256 + b) (m + 1) (fun z hz => h z (by simp [hz])) (by omega) (by rw [Int.pow_succ]; omega)
    rw [show m + 1 + l.length = m + (b :: l).length from by simp; omega] at this
    exact this
theorem val_bound (l : List Int) (h : ∀ z ∈ l, 0 ≤ z ∧ z ≤ 255) : 0 ≤ val l ∧ val l < 256 ^ l.length := by
  have := fold_bound l 0 0 h (by omega) (by decide)
  rwa [Nat.zero_add] at this
theorem fold_val (l : List Int) : ∀ x : Int, l.foldl (fun x b => x * 256 + b) x = x * 256 ^ l.length + val l := by
  induction l with
  | nil => intro x; simp [val]
  | cons b l ih =>
    intro x
    have e : val (b :: l) = b * 256 ^ l.length + val l := by
      show List.foldl _ (0 * 256 + b) l = _
      rw [ih]; simp
    rw [List.foldl_cons, ih, e, List.length_cons, Int.pow_succ, Int.add_mul, Int.mul_assoc, Int.mul_comm 256, Int.add_assoc]
theorem val_cons (b : Int) (l : List Int) : val (b :: l) = b * 256 ^ l.length + val l := by
  show List.foldl _ (0 * 256 + b) l = _
  rw [fold_val]; simp
theorem emod_step (x m : Int) (hm : 0 < m) : x / m % 256 * m + x % m = x % (m * 256) := by
  have h1 := Int.mul_ediv_add_emod x m
  have h2 := Int.mul_ediv_add_emod (x / m) 256
  have r0 := Int.emod_nonneg x (show m ≠ 0 by omega)
  have r1 := Int.emod_lt_of_pos x hm
  have q0 := Int.emod_nonneg (x / m) (show (256 : Int) ≠ 0 by omega)
  have q1 := Int.emod_lt_of_pos (x / m) (show (0 : Int) < 256 by omega)
  generalize x / m = q at *
  generalize x % m = r at *
  generalize q / 256 = u at *
  generalize q % 256 = v at *
  have e : x = (v * m + r) + (m * 256) * u := by
    rw [← h1, ← h2, Int.mul_add, Int.mul_assoc, Int.mul_comm m v, ← Int.mul_assoc]; omega
  have b1 : v * m + r < m * 256 := by
    have : v * m ≤ 255 * m := Int.mul_le_mul_of_nonneg_right (by omega) (by omega)
    omega
  have b0 : 0 ≤ v * m + r := by have := Int.mul_nonneg q0 (Int.le_of_lt hm); omega
  rw [e, Int.add_mul_emod_self_left, Int.emod_eq_of_lt b0 b1]
theorem val_be (w : Nat) (x : Int) : val (be w x) = x % 256 ^ w := by
  induction w with
  | zero => simp [be, val]
  | succ w ih => rw [be, val_cons, be_length, ih, Int.pow_succ]; exact emod_step x _ (Int.pow_pos (by omega))

theorem be_congr (j : Nat) (x y : Int) (h : x % 256 ^ j = y % 256 ^ j) : be j x = be j y := by
  have e : ∀ (j : Nat) (x : Int), be j x = be j (x % 256 ^ j) := fun j => by
    induction j with
    | zero => intro x; rfl
    | succ j ih =>
      intro x
      have hp : (0 : Int) < 256 ^ j := Int.pow_pos (by omega)
      rw [be, be, ih x, ih (x % 256 ^ (j + 1))]
      have h1 : x % 256 ^ (j + 1) % 256 ^ j = x % 256 ^ j := Int.emod_emod_of_dvd x ⟨256, by rw [Int.pow_succ]⟩
      have h2 : x / 256 ^ j % 256 = x % 256 ^ (j + 1) / 256 ^ j % 256 := by
        have e1 := Int.mul_ediv_add_emod x (256 ^ (j + 1))
        have e2 : x / 256 ^ j = x % 256 ^ (j + 1) / 256 ^ j + 256 * (x / 256 ^ (j + 1)) := by
          conv => lhs; rw [← e1, Int.pow_succ, Int.mul_assoc, Int.add_comm, Int.add_mul_ediv_left _ _ (by omega)]
          rw [Int.pow_succ]
        rw [e2, Int.add_mul_emod_self_left]
      rw [h1, h2]
  rw [e j x, e j y, h]
theorem be_val (l : List Int) (h : ∀ z ∈ l, 0 ≤ z ∧ z ≤ 255) : be l.length (val l) = l := by
  induction l with
  | nil => rfl
  | cons b l ih =>
    have hb := h b (by simp)
    have hl : ∀ z ∈ l, 0 ≤ z ∧ z ≤ 255 := fun z hz => h z (by simp [hz])
    obtain ⟨v0, v1⟩ := val_bound l hl
    have hp : (0 : Int) < 256 ^ l.length := Int.pow_pos (by omega)
    rw [List.length_cons, be, val_cons]
    congr 1
    · rw [Int.add_comm, Int.add_mul_ediv_right _ _ (by omega), Int.ediv_eq_zero_of_lt v0 v1, Int.zero_add, Int.emod_eq_of_lt hb.1 (by omega)]
    · have e : be l.length (b * 256 ^ l.length + val l) = be l.length (val l) := be_congr _ _ _ (by rw [Int.add_comm, Int.add_mul_emod_self_right])
      rw [e, ih hl]

/-! Stamps. -/
def vld (s n : Int) : Bool := decide (0 ≤ s ∧ 0 ≤ n ∧ n ≤ 999999999)
def lss (s n s' n' : Int) : Bool := decide (s < s' ∨ (s = s' ∧ n < n'))
def big (s n : Int) : Bool := decide (s = 9223372036854775807 ∧ n = 999999999)
/-- A stamp's bytes. -/
def pt (s n : Int) : List Int := if vld s n then be 8 s ++ be 4 n else []
theorem pt_byte (s n : Int) : ∀ z ∈ pt s n, 0 ≤ z ∧ z ≤ 255 := by
  intro z hz
  unfold pt at hz
  split at hz
  · rcases List.mem_append.1 hz with h | h
    · exact be_byte _ _ z h
    · exact be_byte _ _ z h
  · simp at hz
theorem pt_length (s n : Int) : (pt s n).length = if vld s n then 12 else 0 := by
  unfold pt
  split
  · rw [List.length_append, be_length, be_length]
  · rfl
/-- What these bytes are. -/
def gs (l : List Int) : Int := val (l.take 8)
def gn (l : List Int) : Int := val (l.drop 8)
def gok (l : List Int) : Bool := decide (l.length = 12 ∧ gs l ≤ 9223372036854775807 ∧ gn l ≤ 999999999)
theorem gs_pt (s n : Int) (h : vld s n = true) (hs : s ≤ 9223372036854775807) : gs (pt s n) = s ∧ gn (pt s n) = n := by
  unfold vld at h
  obtain ⟨h1, h2, h3⟩ := of_decide_eq_true h
  have e : pt s n = be 8 s ++ be 4 n := by unfold pt vld; rw [if_pos h]
  unfold gs gn
  rw [e]
  have l8 : (be 8 s).length = 8 := be_length 8 s
  constructor
  · rw [List.take_left' l8, val_be, Int.emod_eq_of_lt h1 (by omega)]
  · rw [List.drop_left' l8, val_be, Int.emod_eq_of_lt h2 (by omega)]
theorem pt_gs (l : List Int) (hb : ∀ z ∈ l, 0 ≤ z ∧ z ≤ 255) (h : gok l = true) : vld (gs l) (gn l) = true ∧ pt (gs l) (gn l) = l := by
  unfold gok at h
  obtain ⟨h1, h2, h3⟩ := of_decide_eq_true h
  have b8 : ∀ z ∈ l.take 8, 0 ≤ z ∧ z ≤ 255 := fun z hz => hb z (List.mem_of_mem_take hz)
  have b4 : ∀ z ∈ l.drop 8, 0 ≤ z ∧ z ≤ 255 := fun z hz => hb z (List.mem_of_mem_drop hz)
  have hv : vld (gs l) (gn l) = true := decide_eq_true ⟨(val_bound _ b8).1, (val_bound _ b4).1, h3⟩
  refine ⟨hv, ?_⟩
  unfold pt
  rw [if_pos hv]
  have e8 : be 8 (gs l) = l.take 8 := by have := be_val _ b8; rwa [List.length_take, h1] at this
  have e4 : be 4 (gn l) = l.drop 8 := by have := be_val _ b4; rwa [List.length_drop, h1] at this
  rw [e8, e4, List.take_append_drop]

/-! Decimal digits. -/
/-- The k lowest digits of n, the highest first. -/
def dl (n : Nat) : Nat → List Nat
  | 0 => []
  | k + 1 => dl (n / 10) k ++ [48 + n % 10]
theorem dl_length (k : Nat) : ∀ n, (dl n k).length = k := by
  induction k with
  | zero => intro n; rfl
  | succ k ih => intro n; rw [dl, List.length_append, ih]; rfl
theorem dl_digit (k : Nat) : ∀ n, ∀ z ∈ dl n k, 48 ≤ z ∧ z ≤ 57 := by
  induction k with
  | zero => intro n z hz; simp [dl] at hz
  | succ k ih =>
    intro n z hz
    rw [dl] at hz
    rcases List.mem_append.1 hz with h | h
    · exact ih _ z h
    · simp at h; omega
/-- How many digits, so many at least. -/
def cnt (n : Nat) : Nat := if h : n = 0 then 0 else cnt (n / 10) + 1
  termination_by n
  decreasing_by omega
def dn (n least : Nat) : Nat := max least (cnt n)
def dgs (n least : Nat) : List Nat := dl n (dn n least)
/-- A number of decimal digits. -/
def dv (l : List Nat) : Nat := l.foldl (fun x z => x * 10 + (z - 48)) 0
theorem dv_snoc (l : List Nat) (z : Nat) : dv (l ++ [z]) = dv l * 10 + (z - 48) := by simp [dv]
theorem dv_dl (k : Nat) : ∀ n, dv (dl n k) = n % 10 ^ k := by
  induction k with
  | zero => intro n; simp [dl, dv, Nat.mod_one]
  | succ k ih =>
    intro n
    rw [dl, dv_snoc, ih, Nat.add_sub_cancel_left, Nat.pow_succ, Nat.mul_comm (10 ^ k) 10, Nat.mod_mul, Nat.mul_comm]
    omega
theorem cnt_lt (k : Nat) : ∀ n, cnt n ≤ k ↔ n < 10 ^ k := by
  induction k with
  | zero =>
    intro n
    rw [cnt]
    split
    · simp_all
    · simp; omega
  | succ k ih =>
    intro n
    rw [cnt]
    split
    · rename_i h; subst h; simp [Nat.pow_pos]
    · have := ih (n / 10)
      rw [Nat.pow_succ]
      omega
theorem dn_lt (n least : Nat) : n < 10 ^ dn n least := (cnt_lt _ n).1 (Nat.le_max_right _ _)
theorem dv_dgs (n least : Nat) : dv (dgs n least) = n := by
  unfold dgs
  rw [dv_dl, Nat.mod_eq_of_lt (dn_lt n least)]
/-- A stamp's text. -/
def pr (s n : Int) : List Nat := if vld s n then dgs s.toNat 1 ++ 46 :: dgs n.toNat 9 else []
end Go.Proofs.YtkeogggeefnoeaaGreatDoor
