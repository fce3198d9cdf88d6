import Derived.Test.YtblcpdffiafgnaaGreatDoorRows
import Derived.WalkKit
import Derived.WalkSpells
import Derived.WalkSmall
import Derived.WalkLawsBesides
import Derived.Deep.QuietTactic
import Derived.BigQuiet
import Derived.Deep.WholeRow
import Derived.ChangeKeysEq
import Derived.Laws.EntriesVeiled
namespace Go.Proofs.YtblcpdffiafgnaaGreatDoor
set_option maxRecDepth 100000
open Go.RowKit
set_option linter.unusedVariables false

theorem hid {p : Prop} (h : p) : Hid p := h
theorem grown_of_below {w w1 : World} (hg : Below w.heap.size w w1) : w.grownBy w1 none := ⟨hg.os, hg.tape, hg.output, hg.size, fun k hk _ => hg.block k hk⟩
/-- The frame over one more call. -/
theorem bel_bel {B : Nat} {a b c : World} (h : Below B a b) (hB : B ≤ b.heap.size) (hg : Below b.heap.size b c) : Below B a c :=
  h.trans ⟨hg.os, hg.tape, hg.output, hg.size, fun k hk => hg.block k (by omega)⟩
theorem bel_row {B g : Nat} {w w' : World} (h : Below B w w') (hg : B ≤ g) (ds : Array Value) : Below B w (w'.setRow g ds) :=
  h.trans ⟨rfl, rfl, rfl, by simp, fun k hk => setRow_other w' g k ds (by omega)⟩
theorem bel_drawn {B : Nat} {a b : World} (h : Below B a b) (n : Nat) : Below B a (b.drewN n) := h.trans ⟨rfl, rfl, rfl, Nat.le_refl _, fun _ _ => rfl⟩
end Go.Proofs.YtblcpdffiafgnaaGreatDoor
namespace Go.Proofs.YtblcpdffiafgnaaGreatDoor
set_option maxRecDepth 100000
open Go.RowKit
set_option linter.unusedVariables false


/-- The slice at 'a', of n elements, reads the bytes zs. -/
def Bs (w : World) (a : Option Addr) (n : Nat) (zs : List Int) : Prop :=
  zs.length = n ∧ (∀ z ∈ zs, 0 ≤ z ∧ z ≤ 255) ∧ (n = 0 ∨ ∃ b off, a = some ⟨b, off, none⟩ ∧ ∀ i, i < n → w.cell? ⟨b, off + i, none⟩ = some (.int .u8 (zs.getD i 0)))

/-- Where the slice lies apart from block r. -/
def Off (a : Option Addr) (n : Nat) (r : Option Nat) : Prop := n = 0 ∨ ∀ x, a = some x → some x.block ≠ r

theorem Bs.kept {w w' : World} {a : Option Addr} {n : Nat} {zs : List Int} {r : Option Nat} (h : Bs w a n zs) (hg : w.grownBy w' r) (ho : Off a n r) : Bs w' a n zs := by
  refine ⟨h.1, h.2.1, ?_⟩
  rcases h.2.2 with h0 | ⟨b, off, rfl, hc⟩
  · exact .inl h0
  · rcases ho with h0 | ho
    · exact .inl h0
    · exact .inr ⟨b, off, rfl, fun i hi => hg.cell (hc i hi) (ho ⟨b, off, .none⟩ rfl)⟩

theorem Off.none (a : Option Addr) (n : Nat) : Off a n none := .inr fun _ _ => by simp

/-- Are the two lists one? -/
def sameB (xs ys : List Int) : Bool := decide (xs = ys)
theorem sameB_self (xs : List Int) : sameB xs xs = true := by simp [sameB]
theorem sameB_len {xs ys : List Int} (h : xs.length ≠ ys.length) : sameB xs ys = false := by
  unfold sameB; exact decide_eq_false fun e => h (by rw [e])
theorem sameB_at {xs ys : List Int} {k : Nat} (h : xs.getD k 0 ≠ ys.getD k 0) : sameB xs ys = false := by
  unfold sameB; exact decide_eq_false fun e => h (by rw [e])
theorem sameB_take {xs ys : List Int} {n : Nat} (hx : xs.length = n) (hy : ys.length = n) (h : xs.take n = ys.take n) : sameB xs ys = true := by
  unfold sameB
  rw [List.take_of_length_le (by omega), List.take_of_length_le (by omega)] at h
  exact decide_eq_true h
theorem take_step {xs ys : List Int} {k : Nat} (hx : k < xs.length) (hy : k < ys.length) (h : xs.take k = ys.take k) (e : xs.getD k 0 = ys.getD k 0) : xs.take (k + 1) = ys.take (k + 1) := by
  rw [List.take_succ_eq_append_getElem hx, List.take_succ_eq_append_getElem hy, h]
  simp [List.getD, hx, hy] at e
  rw [e]
theorem ret_bool {a b : Bool} (h : a = b) : Ending.returned (.bool a) = .returned (.bool b) := by rw [h]

theorem grown_drewN (w : World) (n : Nat) (r : Option Nat) : w.grownBy (w.drewN n) r := ⟨rfl, rfl, rfl, Nat.le_refl _, fun _ _ _ => rfl⟩

set_option maxHeartbeats 400000 in
theorem same (a b : Option Addr) (n c m d : Nat) (xs ys : List Int) (w : World) (hx : Bs w a n xs) (hy : Bs w b m ys) (hn : n ≤ maxLen) (hm : m ≤ maxLen) :
    Calls Tryz.prog 38 #[.slice a n c, .slice b m d] w fun e w' => e = .returned (.bool (sameB xs ys)) ∧ ∃ nq, w' = w.drewN nq := by
  unfold maxLen at hn hm
  by_cases hnm : n = m
  · subst hnm
    obtain ⟨hxl, hxb, hx⟩ := hx
    obtain ⟨hyl, hyb, hy⟩ := hy
    have hne : ((n : Int) != (n : Int)) = false := by simp
    go_enter Tryz.func38, Tryz.ntmps38
    go_wp2
    go_loopw [5] (fun i wr => ∃ k nq : Nat, k ≤ n ∧ i = .int .i64 k ∧ xs.take k = ys.take k ∧ wr = w.drewN nq) (fun i _ => n - (intOf i).toNat)
    case atStart => exact ⟨0, 0, by omega, rfl, rfl, rfl⟩
    case round =>
      obtain ⟨k, nq, hk, rfl, he, rfl⟩ := hrel
      by_cases hlt : k < n
      · rcases hx with h0 | ⟨b1, o1, rfl, hc1⟩
        · omega
        rcases hy with h0 | ⟨b2, o2, rfl, hc2⟩
        · omega
        have e1 := hc1 k hlt
        have e2 := hc2 k hlt
        by_cases hq : xs.getD k 0 = ys.getD k 0
        · have hts := take_step (by omega) (by omega) he hq
          have HT : Hid (xs.take (k + 1) = ys.take (k + 1)) := hts
          clear hts he hc1 hc2 hxb hyb
          rw [hq] at e1
          generalize ys.getD k 0 = y at *
          have hb : (y != y) = false := by simp
          go_wp2
          go_quiet (fail)
          go_wp2
          go_roundw
          case rel => exact ⟨k + 1, _, by omega, by go_num, HT.out, rfl⟩
          case measure => simp [intOf]; omega
        · have hb : (xs.getD k 0 != ys.getD k 0) = true := by rw [bne_iff_ne]; exact hq
          have HT : Hid (sameB xs ys = false) := sameB_at hq
          clear he hc1 hc2 hxb hyb hq
          generalize ys.getD k 0 = y at *
          generalize xs.getD k 0 = x at *
          go_wp2
          go_quiet (fail)
          go_wp2
          go_ret
          exact ⟨ret_bool HT.out.symm, _, World.drewN_drewN _ _ _⟩
      · go_wp2
        go_ret
        exact ⟨ret_bool (by rw [sameB_take hxl hyl]; rwa [show k = n by omega] at he), nq, rfl⟩
  · have hne : ((n : Int) != (m : Int)) = true := by rw [bne_iff_ne]; omega
    go_enter Tryz.func38, Tryz.ntmps38
    go_wp2
    go_ret
    exact ⟨ret_bool (by rw [sameB_len (by rw [hx.1, hy.1]; exact hnm)]), 0, rfl⟩

/-- Numbers as cells. -/
def cells (zs : List Int) : List Value := zs.map (Value.int .u8)
theorem cells_length (zs : List Int) : (cells zs).length = zs.length := by simp [cells]
theorem cells_append (xs ys : List Int) : cells (xs ++ ys) = cells xs ++ cells ys := by simp [cells]
theorem cells_one (zs : List Int) : ∀ v ∈ cells zs, v.oneCell' = true := by
  intro v hv
  obtain ⟨_, _, rfl⟩ := List.mem_map.1 hv
  rfl
theorem cells_get (zs : List Int) (i : Nat) (h : i < zs.length) : (cells zs)[i]? = some (.int .u8 (zs.getD i 0)) := by
  simp [cells, List.getD, h]

theorem Bs.src {w w1 : World} {a : Option Addr} {n : Nat} {zs : List Int} (h : Bs w a n zs) (hg : w.grownBy w1 none) (h0 : 0 < (cells zs).length) :
    ∃ ad, a = some ad ∧ ∀ j v, (cells zs)[j]? = some v → w1.cell? (ad.add j) = some v := by
  rw [cells_length] at h0
  rcases (h.kept hg (Off.none _ _)).2.2 with e | ⟨b, off, rfl, hc⟩
  · have := h.1; omega
  · refine ⟨_, rfl, fun j v hv => ?_⟩
    have hj : j < zs.length := by have := (List.getElem?_eq_some_iff.1 hv).1; rwa [cells_length] at this
    rw [cells_get zs j hj] at hv
    rw [Addr.add_lit, hc j (by have := h.1; omega)]
    exact hv

theorem below_of_grown {w w1 : World} (hg : w.grownBy w1 none) : Below w.heap.size w w1 := ⟨hg.os, hg.tape, hg.output, hg.size, fun k hk => hg.block k hk (by simp)⟩

theorem info5 : (Tryz.prog.info? 5).map (fun i => (i.zero, i.size, i.bytes)) = some (some (.int .u8 0), 1, 1) := by kernel_rfl
theorem Bs.src1 {w w1 : World} {x : Addr} {n : Nat} {zs : List Int} (h : Bs w (some x) n zs) (hg : w.grownBy w1 none) :
    ∀ j v, (cells zs)[j]? = some v → w1.cell? (x.add j) = some v := by
  intro j v hv
  have hj : 0 < (cells zs).length := by have := (List.getElem?_eq_some_iff.1 hv).1; omega
  obtain ⟨ad, e, hs⟩ := h.src hg hj
  obtain rfl := Option.some.inj e
  exact hs j v hv

theorem Bs.ofCells {w : World} {g n : Nat} {zs : List Int} {t : TypeId} (h : w.heap[g]? = some (.cells (cells zs).toArray t (0, 0))) (hn : zs.length = n) (hb : ∀ z ∈ zs, 0 ≤ z ∧ z ≤ 255) : Bs w (some ⟨g, 0, none⟩) n zs := by
  refine ⟨hn, hb, .inr ⟨g, 0, rfl, fun i hi => ?_⟩⟩
  rw [Nat.zero_add, cell_of_row w g i _ t (0, 0) h]
  simpa using cells_get zs i (by omega)
theorem Bs.new (w : World) (zs : List Int) (t : TypeId) (hb : ∀ z ∈ zs, 0 ≤ z ∧ z ≤ 255) : Bs (w.alloc (.cells (cells zs).toArray t)) (some ⟨w.heap.size, 0, none⟩) zs.length zs :=
  Bs.ofCells (heap_alloc_new w _) rfl hb
theorem Bs.len {w : World} {a : Option Addr} {n m : Nat} {zs : List Int} (h : Bs w a n zs) (e : n = m) : Bs w a m zs := e ▸ h

/-- The frame over one more call. -/
theorem bel_grow {B : Nat} {a b c : World} (h : Below B a b) (hB : B ≤ b.heap.size) (hg : b.grownBy c none) : Below B a c :=
  h.trans ⟨hg.os, hg.tape, hg.output, hg.size, fun k hk => hg.block k (by omega) (by simp)⟩
theorem Bs.below {w w' : World} {a : Option Addr} {n : Nat} {zs : List Int} (h : Bs w a n zs) (hb : Below w.heap.size w w') : Bs w' a n zs := h.kept (grown_of_below hb) (Off.none _ _)
/-- Two worlds with one memory. -/
structure Drawn (w w' : World) : Prop where
  os : w'.os = w.os
  tape : w'.tape = w.tape
  output : w'.output = w.output
  heap : w'.heap = w.heap
theorem Drawn.below {w w' : World} (h : Drawn w w') : Below w.heap.size w w' := ⟨h.os, h.tape, h.output, by rw [h.heap]; exact Nat.le_refl _, fun k _ => by rw [h.heap]⟩
theorem drawnN (w : World) (n : Nat) : Drawn w (w.drewN n) := ⟨rfl, rfl, rfl, rfl⟩

theorem same_d (a b : Option Addr) (n c m d : Nat) (xs ys : List Int) (w : World) (hx : Bs w a n xs) (hy : Bs w b m ys) (hn : n ≤ maxLen) (hm : m ≤ maxLen) :
    Calls Tryz.prog 38 #[.slice a n c, .slice b m d] w fun e w' => e = .returned (.bool (sameB xs ys)) ∧ Drawn w w' := by
  refine (same a b n c m d xs ys w hx hy hn hm).mono ?_
  rintro e w' ⟨rfl, nq, rfl⟩
  exact ⟨rfl, drawnN w nq⟩
theorem Bs.drawn {w w' : World} {a : Option Addr} {n : Nat} {zs : List Int} (h : Bs w a n zs) (hd : Drawn w w') : Bs w' a n zs := h.kept (grown_of_below hd.below) (Off.none _ _)
theorem Drawn.at {w w' : World} (h : Drawn w w') (k : Nat) : w'.heap[k]? = w.heap[k]? := by rw [h.heap]
/-- SameBytes of two lists that are one. -/
theorem same_yes (a b : Option Addr) (n c m d : Nat) (xs : List Int) (w : World) (hx : Bs w a n xs) (hy : Bs w b m xs) (hn : n ≤ 2000000) (hm : m ≤ 2000000) :
    Calls Tryz.prog 38 #[.slice a n c, .slice b m d] w fun e w' => e = .returned (.bool true) ∧ Drawn w w' := by
  refine (same a b n c m d xs xs w hx hy (by unfold maxLen; omega) (by unfold maxLen; omega)).mono ?_
  rintro e w' ⟨rfl, nq, rfl⟩
  exact ⟨by rw [sameB_self], drawnN w nq⟩

theorem cells_take_succ (zs : List Int) (k : Nat) (h : k < zs.length) : cells (zs.take k) ++ [.int .u8 (zs.getD k 0)] = cells (zs.take (k + 1)) := by
  rw [List.take_succ_eq_append_getElem h, cells_append]
  simp [cells, List.getD, h]

set_option maxHeartbeats 400000 in
theorem refBytes (a : Option Addr) (n c : Nat) (zs : List Int) (w : World) (hb : Bs w a n zs) (hn : n ≤ 140737488351232) :
    Calls Tryz.prog 36 #[.slice a n c] w fun en w' => ∃ v, en = .returned v ∧ w'.ownsRow w.heap.size 5 1 v n (cells zs) ∧ Below w.heap.size w w' := by
  obtain ⟨i, hi, hz0, hz1, hz2⟩ := info_parts info5
  go_enter Tryz.func36, Tryz.ntmps36
  go_wp2
  go_loopw [3, 4] (fun v i wr => ∃ k : Nat, k ≤ n ∧ i = .int .i64 k ∧ wr.ownsRow w.heap.size 5 1 v k (cells (zs.take k)) ∧ Below w.heap.size w wr) (fun _ i _ => n - (intOf i).toNat)
  case atStart => exact ⟨0, by omega, rfl, World.ownsRow_nil _ _ _ _, Below.refl _ _⟩
  case round =>
    obtain ⟨k, hk, rfl, hown, hbl⟩ := hrel
    have hsz := hbl.size
    by_cases hlt : k < n
    · obtain ⟨e1, e2, e3⟩ := hb
      rcases e3 with e3 | ⟨b, off, rfl, hc⟩
      · omega
      have hck : wr.cell? ⟨b, off + k, none⟩ = some (.int .u8 (zs.getD k 0)) := (hbl.cell (World.block_lt_of_cell? w _ (hc k hlt))).trans (hc k hlt)
      have HS := hid (cells_take_succ zs k (by omega))
      clear hc e2
      generalize zs.getD k 0 = z at *
      go_wp2_with (at_builtin; refine wpList_append_own _ rfl _ _ 27 rfl w.heap.size 5 i (.int .u8 0) 1 1 Tryz.underlying27 hi hz0 hz1 hz2 rfl (by decide) _ _ _ rfl (hown.alloc _) ⟨wr.heap.size, 0, none⟩ 1 1 [.int .u8 z] rfl rfl ?c1 ?c2 ?c3 ?c4 ?c5 ?_)
      case c1 =>
        intro j u hj
        match j, hj with
        | 0, hj => simp at hj; subst hj; simp [Addr.add]
      case c2 => intro u hu; simp at hu; subst hu; rfl
      case c3 => unfold maxLen; omega
      case c4 => omega
      case c5 => simp; omega
      intro v' w1 hown' hgrow _
      have hown2 : w1.ownsRow w.heap.size 5 1 v' (k + 1) (cells (zs.take (k + 1))) := by rw [← HS.out]; exact hown'
      have hbl2 : Below w.heap.size w w1 := (hbl.alloc (by omega) _).grown hgrow (by simp; omega) fun q hq => (hown.lt q hq).1
      clear hown' hgrow hown hck
      go_wp2
      go_roundw
      case rel => exact ⟨k + 1, by omega, by go_num, hown2, hbl2⟩
      case measure => simp [intOf]; omega
    · obtain rfl : k = n := by omega
      rw [List.take_of_length_le (by rw [hb.1]; exact Nat.le_refl _)] at hown
      go_wp2
      go_ret
      exact ⟨_, rfl, hown, hbl⟩

/-- What a row of one's own reads. -/
theorem own_form {w : World} {base n : Nat} {v : Value} {zs : List Int} (h : w.ownsRow base 5 1 v n (cells zs)) (hb : ∀ z ∈ zs, 0 ≤ z ∧ z ≤ 255) :
    ∃ a cap, v = .slice a n cap ∧ Bs w a n zs ∧ n ≤ cap ∧ cap ≤ maxLen ∧ (a = none → cap = 0) := by
  obtain ⟨h1, h2⟩ := h
  rw [cells_length, Nat.mul_one] at h1
  rcases h2 with ⟨rfl, rfl⟩ | ⟨g, cap, cur, rfl, _, hg, hnc, hcm, hs, ht⟩
  · exact ⟨none, 0, rfl, ⟨h1, hb, .inl rfl⟩, Nat.le_refl _, by unfold maxLen; omega, fun _ => rfl⟩
  · refine ⟨_, cap, rfl, ⟨h1, hb, .inr ⟨g, 0, rfl, fun i hi => ?_⟩⟩, hnc, hcm, fun e => by cases e⟩
    rw [Nat.zero_add, cell_of_row w g i cur 5 (0, 0) hg]
    have hq := cells_get zs i (by omega)
    rw [← ht, Nat.mul_one, List.getElem?_take, if_pos hi] at hq
    simpa using hq

theorem own_step {w0 wr w1 : World} {v : Value} {o : Obj} {base m : Nat} {xs : List Value} (hB : base = w0.heap.size) (hbl : Below w0.heap.size w0 wr) (hown : wr.ownsRow base 5 1 v m xs) (hg : (wr.alloc o).grownBy w1 v.ownBlock) : Below w0.heap.size w0 w1 := by
  subst hB
  have hsz := hbl.size
  exact (hbl.alloc (by omega) _).grown hg (by simp; omega) fun q hq => (hown.lt q hq).1

/-- A row of one's own whose first cells read ys. -/
def Head (w : World) (g cap : Nat) (ys : List Int) : Prop := ∃ cur, w.heap[g]? = some (.cells cur 5 (0, 0)) ∧ cur.size = cap ∧ ys.length ≤ cap ∧ cur.toList.take ys.length = cells ys
theorem Head.cell {w : World} {g cap : Nat} {ys : List Int} (h : Head w g cap ys) (i : Nat) (hi : i < ys.length) : w.cell? ⟨g, i, none⟩ = some (.int .u8 (ys.getD i 0)) := by
  obtain ⟨cur, hg, _, _, ht⟩ := h
  rw [cell_of_row w g i cur 5 (0, 0) hg]
  have hq := cells_get ys i hi
  rw [← ht, List.getElem?_take, if_pos hi] at hq
  simpa using hq
theorem Head.lt {w : World} {g cap : Nat} {ys : List Int} (h : Head w g cap ys) : g < w.heap.size := by
  obtain ⟨cur, hg, _⟩ := h; exact (Array.getElem?_eq_some_iff.1 hg).1
theorem Head.unfrozen {w : World} {g cap : Nat} {ys : List Int} (h : Head w g cap ys) (i : Nat) : w.frozen? ⟨g, i, none⟩ = false := by
  obtain ⟨cur, hg, _⟩ := h; simp [World.frozen?, hg]
theorem Head.set {w : World} {g cap : Nat} {ys : List Int} (h : Head w g cap ys) (i : Nat) (x : Int) : Head (w.setCell ⟨g, i, none⟩ (.int .u8 x)) g cap (ys.set i x) := by
  obtain ⟨cur, hg, hs, hl, ht⟩ := h
  refine ⟨cur.setIfInBounds i (.int .u8 x), by simp [World.setCell, Array.getElem?_modify, hg], by simpa using hs, by simpa using hl, ?_⟩
  rw [Array.toList_setIfInBounds, List.length_set, List.take_set, ht]
  simp [cells, List.map_set]
theorem Head.bs {w : World} {g cap m : Nat} {ys : List Int} (h : Head w g cap ys) (hm : m ≤ ys.length) (hb : ∀ z ∈ ys, 0 ≤ z ∧ z ≤ 255) : Bs w (some ⟨g, 0, none⟩) m (ys.take m) := by
  refine ⟨by simp; omega, fun z hz => hb z (List.mem_of_mem_take hz), .inr ⟨g, 0, rfl, fun i hi => ?_⟩⟩
  rw [Nat.zero_add, h.cell i (by omega)]
  simp only [List.getD, List.getElem?_take, if_pos hi]
theorem Head.all {w : World} {g cap m : Nat} {ys : List Int} (h : Head w g cap ys) (hm : ys.length = m) (hb : ∀ z ∈ ys, 0 ≤ z ∧ z ≤ 255) : Bs w (some ⟨g, 0, none⟩) m ys := by
  have := h.bs (m := m) (by omega) hb
  rwa [List.take_of_length_le (by omega)] at this
theorem Head.below {w w' : World} {g cap : Nat} {ys : List Int} (h : Head w g cap ys) (hb : Below w.heap.size w w') : Head w' g cap ys := by
  have hlt := h.lt
  obtain ⟨cur, hg, r⟩ := h
  exact ⟨cur, by rw [hb.block g hlt]; exact hg, r⟩
theorem own_head {w : World} {base n : Nat} {v : Value} {zs : List Int} (h : w.ownsRow base 5 1 v n (cells zs)) (hn : 0 < n) : ∃ g cap, v = .slice (some ⟨g, 0, none⟩) n cap ∧ n ≤ cap ∧ cap ≤ maxLen ∧ base ≤ g ∧ Head w g cap zs ∧ zs.length = n := by
  obtain ⟨h1, h2⟩ := h
  rw [cells_length, Nat.mul_one] at h1
  rcases h2 with ⟨_, h⟩ | ⟨g, cap, cur, rfl, hb, hg, hnc, hcm, hs, ht⟩
  · omega
  · exact ⟨g, cap, rfl, hnc, hcm, hb, ⟨cur, hg, by omega, by omega, by rw [h1]; simpa using ht⟩, h1⟩
theorem byte_set {ys : List Int} (hb : ∀ z ∈ ys, 0 ≤ z ∧ z ≤ 255) (i : Nat) (x : Int) (hx : 0 ≤ x ∧ x ≤ 255) : ∀ z ∈ ys.set i x, 0 ≤ z ∧ z ≤ 255 := by
  intro z hz
  rcases List.mem_or_eq_of_mem_set hz with h | rfl
  · exact hb z h
  · exact hx

end Go.Proofs.YtblcpdffiafgnaaGreatDoor
namespace Go.Proofs.YtblcpdffiafgnaaGreatDoor
set_option maxRecDepth 100000
open Go.RowKit
set_option linter.unusedVariables false

/-- How a device stands: its sectors, what lasts, what pends, what each number meets, the count, the power, the claim. -/
structure St where
  n : Nat
  S : Nat → List Int
  P : List (Nat × List Int)
  F : Int → Int
  c : Nat
  on : Bool
  k : Nat
/-- One write laid down. -/
def lay1 (S : Nat → List Int) (p : Nat × List Int) : Nat → List Int := fun j => if j = p.1 then p.2 else S j
/-- Writes laid down in their order. -/
def layA (S : Nat → List Int) (P : List (Nat × List Int)) : Nat → List Int := P.foldl lay1 S
theorem layA_nil (S : Nat → List Int) : layA S [] = S := rfl
theorem layA_snoc (S : Nat → List Int) (P : List (Nat × List Int)) (p : Nat × List Int) : layA S (P ++ [p]) = lay1 (layA S P) p := by simp [layA]
theorem layA_app (S : Nat → List Int) (P R : List (Nat × List Int)) : layA S (P ++ R) = layA (layA S P) R := by simp [layA]
theorem layA_none (S : Nat → List Int) (i : Nat) : ∀ R : List (Nat × List Int), (∀ p ∈ R, p.1 ≠ i) → layA S R i = S i := by
  intro R
  induction R generalizing S with
  | nil => intro _; rfl
  | cons p R ih =>
    intro h
    show layA (lay1 S p) R i = S i
    rw [ih _ (fun q hq => h q (List.mem_cons_of_mem _ hq))]
    unfold lay1
    rw [if_neg (fun e => h p List.mem_cons_self e.symm)]
/-- The latest write to a sector. -/
theorem layA_last (S : Nat → List Int) (i : Nat) (A R : List (Nat × List Int)) (p : Nat × List Int) (hp : p.1 = i) (h : ∀ q ∈ R, q.1 ≠ i) : layA S (A ++ [p] ++ R) i = p.2 := by
  rw [layA_app, layA_none _ i R h, layA_snoc]
  unfold lay1
  rw [if_pos hp.symm]
/-- The writes that a crash keeps. -/
def keepL : List (Nat × List Int) → List Bool → List (Nat × List Int)
  | p :: P, true :: ks => p :: keepL P ks
  | _ :: P, false :: ks => keepL P ks
  | _, _ => []
theorem keepL_nil (P : List (Nat × List Int)) : keepL P [] = [] := by cases P <;> rfl
theorem keepL_nil' (ks : List Bool) : keepL [] ks = [] := by cases ks <;> rfl
theorem keepL_snoc : ∀ (P : List (Nat × List Int)) (p : Nat × List Int) (ks : List Bool), keepL (P ++ [p]) ks = keepL P ks ++ if ks[P.length]? = some true then [p] else []
  | [], p, [] => by simp [keepL]
  | [], p, true :: ks => by simp [keepL]
  | [], p, false :: ks => by simp [keepL]
  | q :: P, p, [] => by simp [keepL]
  | q :: P, p, true :: ks => by simp [keepL, keepL_snoc P p ks]
  | q :: P, p, false :: ks => by simp [keepL, keepL_snoc P p ks]
theorem keepL_mem : ∀ (P : List (Nat × List Int)) (ks : List Bool) (p : Nat × List Int), p ∈ keepL P ks → p ∈ P
  | [], ks, p, h => by simp [keepL_nil'] at h
  | q :: P, [], p, h => by simp [keepL] at h
  | q :: P, true :: ks, p, h => by
    rcases List.mem_cons.1 (show p ∈ q :: keepL P ks from h) with rfl | h
    · exact List.mem_cons_self
    · exact List.mem_cons_of_mem _ (keepL_mem P ks p h)
  | q :: P, false :: ks, p, h => List.mem_cons_of_mem _ (keepL_mem P ks p h)
/-- A sector's bytes. -/
def Sc5 (z : List Int) : Prop := z.length = 512 ∧ ∀ x ∈ z, 0 ≤ x ∧ x ≤ 255
/-- What an operation answers, and how the device stands behind it. -/
def opE (s : St) : Int := if s.on then (if s.F ((s.c : Int) + 1) = 1 then 104 else if s.F ((s.c : Int) + 1) = 2 then 103 else 0) else 104
def opS (s : St) : St := if s.on then { s with c := s.c + 1, on := decide (s.F ((s.c : Int) + 1) ≠ 1) } else s
/-- Faults looked up. -/
def lookF : List (Int × Int) → Int → Int
  | [], _ => 0
  | f :: l, x => if f.1 = x then f.2 else lookF l x
/-- Faults that may be armed. -/
def okF (l : List (Int × Int)) : Prop := (∀ f ∈ l, 1 ≤ f.1 ∧ (f.2 = 1 ∨ f.2 = 2)) ∧ l.Pairwise (fun a b => a.1 ≠ b.1)
theorem lookF_none {l : List (Int × Int)} {x : Int} (h : ∀ f ∈ l, f.1 ≠ x) : lookF l x = 0 := by
  induction l with
  | nil => rfl
  | cons f l ih =>
    rw [lookF, if_neg (h f List.mem_cons_self)]
    exact ih (fun g hg => h g (List.mem_cons_of_mem _ hg))
theorem lookF_some {l : List (Int × Int)} (hd : l.Pairwise (fun a b => a.1 ≠ b.1)) {f : Int × Int} (h : f ∈ l) : lookF l f.1 = f.2 := by
  induction l with
  | nil => simp at h
  | cons g l ih =>
    rw [List.pairwise_cons] at hd
    rcases List.mem_cons.1 h with rfl | h'
    · rw [lookF, if_pos rfl]
    · rw [lookF, if_neg (hd.1 f h')]
      exact ih hd.2 h'
theorem ne_sym {l : List (Int × Int)} : ∀ {a b : Int × Int}, a.1 ≠ b.1 → b.1 ≠ a.1 := fun h e => h e.symm
theorem lookF_perm {l m : List (Int × Int)} (hp : l.Perm m) (hd : l.Pairwise (fun a b => a.1 ≠ b.1)) : lookF l = lookF m := by
  have hm : m.Pairwise (fun a b => a.1 ≠ b.1) := (hp.pairwise_iff (fun h e => h e.symm)).1 hd
  funext x
  by_cases h : ∃ f ∈ l, f.1 = x
  · obtain ⟨f, hf, rfl⟩ := h
    rw [lookF_some hd hf, lookF_some hm (hp.mem_iff.1 hf)]
  · have h' : ∀ f ∈ l, f.1 ≠ x := fun f hf e => h ⟨f, hf, e⟩
    rw [lookF_none h', lookF_none (fun f hf => h' f (hp.mem_iff.2 hf))]
theorem okF_perm {l m : List (Int × Int)} (hp : l.Perm m) : okF l ↔ okF m :=
  ⟨fun h => ⟨fun f hf => h.1 f (hp.mem_iff.2 hf), (hp.pairwise_iff (fun h e => h e.symm)).1 h.2⟩, fun h => ⟨fun f hf => h.1 f (hp.mem_iff.1 hf), (hp.pairwise_iff (fun h e => h e.symm)).2 h.2⟩⟩
/-- What lasts, all sectors one behind the other. -/
def flat (S : Nat → List Int) : Nat → List Int
  | 0 => []
  | n + 1 => flat S n ++ S n
theorem flat_length {S : Nat → List Int} : ∀ n, (∀ i, i < n → (S i).length = 512) → (flat S n).length = 512 * n
  | 0, _ => rfl
  | n + 1, h => by
    rw [flat, List.length_append, flat_length n (fun i hi => h i (by omega)), h n (by omega)]
    omega
theorem flat_byte {S : Nat → List Int} : ∀ n, (∀ i, i < n → Sc5 (S i)) → ∀ z ∈ flat S n, 0 ≤ z ∧ z ≤ 255
  | 0, _ => by simp [flat]
  | n + 1, h => by
    intro z hz
    rcases List.mem_append.1 hz with hz | hz
    · exact flat_byte n (fun i hi => h i (by omega)) z hz
    · exact (h n (by omega)).2 z hz
theorem flat_congr {S R : Nat → List Int} : ∀ n, (∀ i, i < n → S i = R i) → flat S n = flat R n
  | 0, _ => rfl
  | n + 1, h => by rw [flat, flat, flat_congr n (fun i hi => h i (by omega)), h n (by omega)]
theorem flat_get {S : Nat → List Int} : ∀ n, (∀ i, i < n → (S i).length = 512) → ∀ i, i < n → ∀ j, j < 512 → (flat S n).getD (512 * i + j) 0 = (S i).getD j 0
  | 0, _ => by omega
  | n + 1, h => by
    intro i hi j hj
    have hl := flat_length n (fun i hi => h i (by omega))
    rw [flat]
    simp only [List.getD]
    by_cases e : i = n
    · subst e
      rw [List.getElem?_append_right (by omega), hl, Nat.add_sub_cancel_left]
    · rw [List.getElem?_append_left (by omega)]
      exact flat_get n (fun i hi => h i (by omega)) i (by omega) j hj
theorem flat_cut {S : Nat → List Int} (n : Nat) (h : ∀ i, i < n → (S i).length = 512) (i : Nat) (hi : i < n) : ((flat S n).drop (512 * i)).take 512 = S i := by
  refine List.ext_getElem? (fun j => ?_)
  have hl := flat_length n h
  by_cases hj : j < 512
  · rw [List.getElem?_take, if_pos hj, List.getElem?_drop]
    have := flat_get n h i hi j hj
    simp only [List.getD] at this
    have h1 : 512 * i + j < (flat S n).length := by omega
    have h2 : j < (S i).length := by rw [h i hi]; exact hj
    rw [List.getElem?_eq_getElem h1, List.getElem?_eq_getElem h2] at *
    simpa using this
  · rw [List.getElem?_take, if_neg hj, List.getElem?_eq_none (by rw [h i hi]; omega)]
end Go.Proofs.YtblcpdffiafgnaaGreatDoor
namespace Go.Proofs.YtblcpdffiafgnaaGreatDoor
open Go.RowKit
set_option linter.unusedVariables false
set_option maxRecDepth 100000

/-- What a function over the list at go is. -/
def fnv (go : Nat) : Value := .func (.func 66) #[] #[.pointer (some ⟨go, 0, none⟩)]
/-- A device's own block. -/
def Dm (w : World) (d : Nat) (lv pv fv : Value) (c : Int) (on : Bool) (k : Int) : Prop := w.heap[d]? = some (.cells #[lv, pv, fv, .int .i64 c, .bool on, .int .i64 k] 80 (0, 0))
section
variable {w w' : World} {d : Nat} {lv pv fv : Value} {c : Int} {on : Bool} {k : Int}
theorem Dm.c0 (h : Dm w d lv pv fv c on k) : w.cell? ⟨d, 0, none⟩ = some lv := (cell_of_row _ _ 0 _ _ (0, 0) h).trans rfl
theorem Dm.c1 (h : Dm w d lv pv fv c on k) : w.cell? ⟨d, 1, none⟩ = some pv := (cell_of_row _ _ 1 _ _ (0, 0) h).trans rfl
theorem Dm.c2 (h : Dm w d lv pv fv c on k) : w.cell? ⟨d, 2, none⟩ = some fv := (cell_of_row _ _ 2 _ _ (0, 0) h).trans rfl
theorem Dm.c3 (h : Dm w d lv pv fv c on k) : w.cell? ⟨d, 3, none⟩ = some (.int .i64 c) := (cell_of_row _ _ 3 _ _ (0, 0) h).trans rfl
theorem Dm.c4 (h : Dm w d lv pv fv c on k) : w.cell? ⟨d, 4, none⟩ = some (.bool on) := (cell_of_row _ _ 4 _ _ (0, 0) h).trans rfl
theorem Dm.c5 (h : Dm w d lv pv fv c on k) : w.cell? ⟨d, 5, none⟩ = some (.int .i64 k) := (cell_of_row _ _ 5 _ _ (0, 0) h).trans rfl
theorem Dm.fz (h : Dm w d lv pv fv c on k) (i : Nat) : w.frozen? ⟨d, i, none⟩ = false := by unfold Dm at h; simp [World.frozen?, h]
theorem Dm.lt (h : Dm w d lv pv fv c on k) : d < w.heap.size := (Array.getElem?_eq_some_iff.1 h).1
theorem Dm.at (h : Dm w d lv pv fv c on k) (e : w'.heap[d]? = w.heap[d]?) : Dm w' d lv pv fv c on k := e.trans h
theorem Dm.kept (h : Dm w d lv pv fv c on k) (hb : Below w.heap.size w w') : Dm w' d lv pv fv c on k := h.at (hb.block d h.lt)
theorem Dm.s0 (h : Dm w d lv pv fv c on k) (v : Value) : Dm (w.setCell ⟨d, 0, none⟩ v) d v pv fv c on k := by unfold Dm at *; simp [World.setCell, Array.getElem?_modify, h]
theorem Dm.s1 (h : Dm w d lv pv fv c on k) (v : Value) : Dm (w.setCell ⟨d, 1, none⟩ v) d lv v fv c on k := by unfold Dm at *; simp [World.setCell, Array.getElem?_modify, h]
theorem Dm.s2 (h : Dm w d lv pv fv c on k) (v : Value) : Dm (w.setCell ⟨d, 2, none⟩ v) d lv pv v c on k := by unfold Dm at *; simp [World.setCell, Array.getElem?_modify, h]
theorem Dm.s3 (h : Dm w d lv pv fv c on k) (v : Int) : Dm (w.setCell ⟨d, 3, none⟩ (.int .i64 v)) d lv pv fv v on k := by unfold Dm at *; simp [World.setCell, Array.getElem?_modify, h]
theorem Dm.s4 (h : Dm w d lv pv fv c on k) (v : Bool) : Dm (w.setCell ⟨d, 4, none⟩ (.bool v)) d lv pv fv c v k := by unfold Dm at *; simp [World.setCell, Array.getElem?_modify, h]
theorem Dm.s5 (h : Dm w d lv pv fv c on k) (v : Int) : Dm (w.setCell ⟨d, 5, none⟩ (.int .i64 v)) d lv pv fv c on v := by unfold Dm at *; simp [World.setCell, Array.getElem?_modify, h]
theorem Dm.alloc (h : Dm w d lv pv fv c on k) (o : Obj) : Dm (w.alloc o) d lv pv fv c on k := h.at (Below.heap_alloc _ _ _ h.lt)
theorem Dm.new (w : World) : Dm (w.alloc (.cells #[lv, pv, fv, .int .i64 c, .bool on, .int .i64 k] 80)) w.heap.size lv pv fv c on k := heap_alloc_new w _
end
theorem grown_set {w w' : World} {d : Nat} (h : w.grownBy w' (some d)) (i : Nat) (v : Value) : w.grownBy (w'.setCell ⟨d, i, none⟩ v) (some d) :=
  ⟨h.os, h.tape, h.output, by simpa [World.setCell] using h.size, fun b hb hn => (Below.heap_setCell _ _ _ _ (fun e => hn (by rw [show b = d from e]))).trans (h.block b hb hn)⟩
theorem grown_refl (w : World) (r : Option Nat) : w.grownBy w r := ⟨rfl, rfl, rfl, Nat.le_refl _, fun _ _ _ => rfl⟩
theorem grown_alloc {w w' : World} {r : Option Nat} (h : w.grownBy w' r) (o : Obj) : w.grownBy (w'.alloc o) r :=
  ⟨h.os, h.tape, h.output, by rw [World.size_alloc]; have := h.size; omega, fun b hb hn => (Below.heap_alloc _ _ _ (Nat.lt_of_lt_of_le hb h.size)).trans (h.block b hb hn)⟩
theorem grown_below {w w' w'' : World} {r : Option Nat} (h : w.grownBy w' r) (hb : Below w'.heap.size w' w'') : w.grownBy w'' r :=
  ⟨hb.os.trans h.os, hb.tape.trans h.tape, hb.output.trans h.output, Nat.le_trans h.size hb.size, fun b hb' hn => (hb.block b (Nat.lt_of_lt_of_le hb' h.size)).trans (h.block b hb' hn)⟩
theorem grown_trans {w w' w'' : World} {r : Option Nat} (h : w.grownBy w' r) (h2 : w'.grownBy w'' r) : w.grownBy w'' r :=
  ⟨h2.os.trans h.os, h2.tape.trans h.tape, h2.output.trans h.output, Nat.le_trans h.size h2.size, fun b hb hn => (h2.block b (Nat.lt_of_lt_of_le hb h.size) hn).trans (h.block b hb hn)⟩
set_option maxHeartbeats 400000 in
theorem expect_ (d : Nat) (lv pv fv : Value) (c : Int) (on : Bool) (k : Int) (a : Option Addr) (n cp : Nat) (w : World) (h : Dm w d lv pv fv c on k) :
    Calls Tryz.prog 44 #[.pointer (some ⟨d, 0, none⟩), .slice a n cp] w fun e w' => e = .returned (.tuple #[]) ∧ Dm w' d lv pv (fnv w.heap.size) 0 on k ∧ w'.heap[w.heap.size]? = some (.cells #[.slice a n cp] 28 (0, 0)) ∧ w.grownBy w' (some d) := by
  have M1 := h.alloc (.cells #[.slice a n cp] 28)
  have M2 := hid (M1.s3 0)
  have m3 := M1.c3
  have f3 := M1.fz 3
  have m2 := M2.out.c2
  have f2 := M2.out.fz 2
  have HM := hid (M2.out.s2 (fnv w.heap.size))
  have hlt := h.lt
  have HG : Hid (w.grownBy (((w.alloc (.cells #[.slice a n cp] 28)).setCell ⟨d, 3, none⟩ (.int .i64 0)).setCell ⟨d, 2, none⟩ (fnv w.heap.size)) (some d)) := grown_set (grown_set (grown_alloc (grown_refl w _) _) _ _) _ _
  have HN : Hid ((((w.alloc (.cells #[.slice a n cp] 28)).setCell ⟨d, 3, none⟩ (.int .i64 0)).setCell ⟨d, 2, none⟩ (fnv w.heap.size)).heap[w.heap.size]? = some (.cells #[.slice a n cp] 28 (0, 0))) := by
    show _ = _
    rw [Below.heap_setCell _ _ _ _ (by show w.heap.size ≠ d; omega), Below.heap_setCell _ _ _ _ (by show w.heap.size ≠ d; omega)]
    exact heap_alloc_new w _
  have hmf : ∀ fn first cap w, (Instr.makeFunc fn first cap).run Tryz.prog w = .ok (.func fn first cap) w := fun _ _ _ _ => rfl
  clear M1 M2 h hlt
  go_enter Tryz.func44, Tryz.ntmps44
  go_wp2_with fail
  go_end0
  exact ⟨rfl, HM.out, HN.out, HG.out⟩
set_option maxHeartbeats 400000 in
theorem start_ (d : Nat) (lv pv fv : Value) (c : Int) (on : Bool) (k : Int) (w : World) (h : Dm w d lv pv fv c on k) :
    Calls Tryz.prog 55 #[.pointer (some ⟨d, 0, none⟩)] w fun e w' => e = .returned (.tuple #[]) ∧ Dm w' d lv (.slice none 0 0) (fnv w.heap.size) 0 true k ∧ w'.heap[w.heap.size]? = some (.cells #[.slice none 0 0] 28 (0, 0)) ∧ w.grownBy w' (some d) := by
  have m1 := h.c1
  have f1 := h.fz 1
  have M1 := h.s1 (.slice none 0 0)
  have m4 := M1.c4
  have f4 := M1.fz 4
  have M2 := hid (M1.s4 true)
  have HG : Hid (w.grownBy ((w.setCell ⟨d, 1, none⟩ (.slice none 0 0)).setCell ⟨d, 4, none⟩ (.bool true)) (some d)) := grown_set (grown_set (grown_refl w _) _ _) _ _
  have HS : Hid (((w.setCell ⟨d, 1, none⟩ (.slice none 0 0)).setCell ⟨d, 4, none⟩ (.bool true)).heap.size = w.heap.size) := by show _ = _; simp [World.setCell]
  clear M1 h
  go_enter Tryz.func55, Tryz.ntmps55
  go_wp2_with fail
  refine (expect_ d lv (.slice none 0 0) fv c true k none 0 0 _ M2.out).mono ?_
  rintro e w1 ⟨rfl, h1, h2, h3⟩
  rw [HS.out] at h1 h2
  clear m1 f1 m4 f4
  go_wp2_with fail
  go_end0
  exact ⟨rfl, h1, h2, grown_trans HG.out h3⟩
end Go.Proofs.YtblcpdffiafgnaaGreatDoor
