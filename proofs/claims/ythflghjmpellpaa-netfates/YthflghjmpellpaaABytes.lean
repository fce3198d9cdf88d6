import Derived.Test.YthflghjmpellpaaBase
import Derived.Deep.WholeRow
namespace Go.Proofs.Ythflghjmpellpaa
set_option maxRecDepth 100000
open Go.RowKit
set_option linter.unusedVariables false


/-- The slice at 'a', of n elements, reads the bytes zs. -/
def Bs (w : World) (a : Option Addr) (n : Nat) (zs : List Int) : Prop :=
  zs.length = n ∧ (∀ z ∈ zs, 0 ≤ z ∧ z ≤ 255) ∧ (n = 0 ∨ ∃ b off, a = some ⟨b, off, none⟩ ∧ ∀ i, i < n → w.cell? ⟨b, off + i, none⟩ = some (.int .u8 (zs.getD i 0)))

/-- Where the slice lies apart from block r. -/
def Off (a : Option Addr) (n : Nat) (r : Option Nat) : Prop := n = 0 ∨ ∀ x, a = some x → some x.block ≠ r

theorem Bs.kept {w w' : World} {a : Option Addr} {n : Nat} {zs : List Int} {r : Option Nat} (h : Bs w a n zs) (hg : w.grownBy w' r) (ho : Off a n r) : Bs w' a n zs := by
  refine ⟨h.1, h.2.1, ?_⟩
  rcases h.2.2 with h0 | ⟨b, off, rfl, hc⟩
  · exact .inl h0
  · rcases ho with h0 | ho
    · exact .inl h0
    · exact .inr ⟨b, off, rfl, fun i hi => hg.cell (hc i hi) (ho ⟨b, off, .none⟩ rfl)⟩

theorem Off.none (a : Option Addr) (n : Nat) : Off a n none := .inr fun _ _ => by simp

/-- Are the two lists one? -/
def sameB (xs ys : List Int) : Bool := decide (xs = ys)
theorem sameB_self (xs : List Int) : sameB xs xs = true := by simp [sameB]
theorem sameB_len {xs ys : List Int} (h : xs.length ≠ ys.length) : sameB xs ys = false := by
  unfold sameB; exact decide_eq_false fun e => h (by rw [e])
theorem sameB_at {xs ys : List Int} {k : Nat} (h : xs.getD k 0 ≠ ys.getD k 0) : sameB xs ys = false := by
  unfold sameB; exact decide_eq_false fun e => h (by rw [e])
theorem sameB_take {xs ys : List Int} {n : Nat} (hx : xs.length = n) (hy : ys.length = n) (h : xs.take n = ys.take n) : sameB xs ys = true := by
  unfold sameB
  rw [List.take_of_length_le (by omega), List.take_of_length_le (by omega)] at h
  exact decide_eq_true h
theorem take_step {xs ys : List Int} {k : Nat} (hx : k < xs.length) (hy : k < ys.length) (h : xs.take k = ys.take k) (e : xs.getD k 0 = ys.getD k 0) : xs.take (k + 1) = ys.take (k + 1) := by
  rw [List.take_succ_eq_append_getElem hx, List.take_succ_eq_append_getElem hy, h]
  simp [List.getD, hx, hy] at e
  rw [e]
theorem ret_bool {a b : Bool} (h : a = b) : Ending.returned (.bool a) = .returned (.bool b) := by rw [h]

theorem grown_drewN (w : World) (n : Nat) (r : Option Nat) : w.grownBy (w.drewN n) r := ⟨rfl, rfl, rfl, Nat.le_refl _, fun _ _ _ => rfl⟩

set_option maxHeartbeats 400000 in
theorem same (a b : Option Addr) (n c m d : Nat) (xs ys : List Int) (w : World) (hx : Bs w a n xs) (hy : Bs w b m ys) (hn : n ≤ maxLen) (hm : m ≤ maxLen) :
    Calls Try.prog 22 #[.slice a n c, .slice b m d] w fun e w' => e = .returned (.bool (sameB xs ys)) ∧ ∃ nq, w' = w.drewN nq := by
  unfold maxLen at hn hm
  by_cases hnm : n = m
  · subst hnm
    obtain ⟨hxl, hxb, hx⟩ := hx
    obtain ⟨hyl, hyb, hy⟩ := hy
    have hne : ((n : Int) != (n : Int)) = false := by simp
    go_enter Try.func22, Try.ntmps22
    go_wp2
    go_loopw [5] (fun i wr => ∃ k nq : Nat, k ≤ n ∧ i = .int .i64 k ∧ xs.take k = ys.take k ∧ wr = w.drewN nq) (fun i _ => n - (intOf i).toNat)
    case atStart => exact ⟨0, 0, by omega, rfl, rfl, rfl⟩
    case round =>
      obtain ⟨k, nq, hk, rfl, he, rfl⟩ := hrel
      by_cases hlt : k < n
      · rcases hx with h0 | ⟨b1, o1, rfl, hc1⟩
        · omega
        rcases hy with h0 | ⟨b2, o2, rfl, hc2⟩
        · omega
        have e1 := hc1 k hlt
        have e2 := hc2 k hlt
        by_cases hq : xs.getD k 0 = ys.getD k 0
        · have hts := take_step (by omega) (by omega) he hq
          have HT : Hid (xs.take (k + 1) = ys.take (k + 1)) := hts
          clear hts he hc1 hc2 hxb hyb
          rw [hq] at e1
          generalize ys.getD k 0 = y at *
          have hb : (y != y) = false := by simp
          go_wp2
          go_quiet (fail)
          go_wp2
          go_roundw
          case rel => exact ⟨k + 1, _, by omega, by go_num, HT.out, rfl⟩
          case measure => simp [intOf]; omega
        · have hb : (xs.getD k 0 != ys.getD k 0) = true := by rw [bne_iff_ne]; exact hq
          have HT : Hid (sameB xs ys = false) := sameB_at hq
          clear he hc1 hc2 hxb hyb hq
          generalize ys.getD k 0 = y at *
          generalize xs.getD k 0 = x at *
          go_wp2
          go_quiet (fail)
          go_wp2
          go_ret
          exact ⟨ret_bool HT.out.symm, _, World.drewN_drewN _ _ _⟩
      · go_wp2
        go_ret
        exact ⟨ret_bool (by rw [sameB_take hxl hyl]; rwa [show k = n by omega] at he), nq, rfl⟩
  · have hne : ((n : Int) != (m : Int)) = true := by rw [bne_iff_ne]; omega
    go_enter Try.func22, Try.ntmps22
    go_wp2
    go_ret
    exact ⟨ret_bool (by rw [sameB_len (by rw [hx.1, hy.1]; exact hnm)]), 0, rfl⟩

/-- Numbers as cells. -/
def cells (zs : List Int) : List Value := zs.map (Value.int .u8)
theorem cells_length (zs : List Int) : (cells zs).length = zs.length := by simp [cells]
theorem cells_append (xs ys : List Int) : cells (xs ++ ys) = cells xs ++ cells ys := by simp [cells]
theorem cells_one (zs : List Int) : ∀ v ∈ cells zs, v.oneCell' = true := by
  intro v hv
  obtain ⟨_, _, rfl⟩ := List.mem_map.1 hv
  rfl
theorem cells_get (zs : List Int) (i : Nat) (h : i < zs.length) : (cells zs)[i]? = some (.int .u8 (zs.getD i 0)) := by
  simp [cells, List.getD, h]

theorem Bs.src {w w1 : World} {a : Option Addr} {n : Nat} {zs : List Int} (h : Bs w a n zs) (hg : w.grownBy w1 none) (h0 : 0 < (cells zs).length) :
    ∃ ad, a = some ad ∧ ∀ j v, (cells zs)[j]? = some v → w1.cell? (ad.add j) = some v := by
  rw [cells_length] at h0
  rcases (h.kept hg (Off.none _ _)).2.2 with e | ⟨b, off, rfl, hc⟩
  · have := h.1; omega
  · refine ⟨_, rfl, fun j v hv => ?_⟩
    have hj : j < zs.length := by have := (List.getElem?_eq_some_iff.1 hv).1; rwa [cells_length] at this
    rw [cells_get zs j hj] at hv
    rw [Addr.add_lit, hc j (by have := h.1; omega)]
    exact hv

theorem below_of_grown {w w1 : World} (hg : w.grownBy w1 none) : Below w.heap.size w w1 := ⟨hg.os, hg.tape, hg.output, hg.size, fun k hk => hg.block k hk (by simp)⟩

theorem info5 : (Try.prog.info? 5).map (fun i => (i.zero, i.size, i.bytes)) = some (some (.int .u8 0), 1, 1) := by kernel_rfl
theorem Bs.src1 {w w1 : World} {x : Addr} {n : Nat} {zs : List Int} (h : Bs w (some x) n zs) (hg : w.grownBy w1 none) :
    ∀ j v, (cells zs)[j]? = some v → w1.cell? (x.add j) = some v := by
  intro j v hv
  have hj : 0 < (cells zs).length := by have := (List.getElem?_eq_some_iff.1 hv).1; omega
  obtain ⟨ad, e, hs⟩ := h.src hg hj
  obtain rfl := Option.some.inj e
  exact hs j v hv

theorem Bs.ofCells {w : World} {g n : Nat} {zs : List Int} {t : TypeId} (h : w.heap[g]? = some (.cells (cells zs).toArray t (0, 0))) (hn : zs.length = n) (hb : ∀ z ∈ zs, 0 ≤ z ∧ z ≤ 255) : Bs w (some ⟨g, 0, none⟩) n zs := by
  refine ⟨hn, hb, .inr ⟨g, 0, rfl, fun i hi => ?_⟩⟩
  rw [Nat.zero_add, cell_of_row w g i _ t (0, 0) h]
  simpa using cells_get zs i (by omega)
theorem Bs.new (w : World) (zs : List Int) (t : TypeId) (hb : ∀ z ∈ zs, 0 ≤ z ∧ z ≤ 255) : Bs (w.alloc (.cells (cells zs).toArray t)) (some ⟨w.heap.size, 0, none⟩) zs.length zs :=
  Bs.ofCells (heap_alloc_new w _) rfl hb
theorem Bs.len {w : World} {a : Option Addr} {n m : Nat} {zs : List Int} (h : Bs w a n zs) (e : n = m) : Bs w a m zs := e ▸ h

/-- The frame over one more call. -/
theorem bel_grow {B : Nat} {a b c : World} (h : Below B a b) (hB : B ≤ b.heap.size) (hg : b.grownBy c none) : Below B a c :=
  h.trans ⟨hg.os, hg.tape, hg.output, hg.size, fun k hk => hg.block k (by omega) (by simp)⟩
theorem Bs.below {w w' : World} {a : Option Addr} {n : Nat} {zs : List Int} (h : Bs w a n zs) (hb : Below w.heap.size w w') : Bs w' a n zs := h.kept (grown_of_below hb) (Off.none _ _)
/-- Two worlds with one memory. -/
structure Drawn (w w' : World) : Prop where
  os : w'.os = w.os
  tape : w'.tape = w.tape
  output : w'.output = w.output
  heap : w'.heap = w.heap
theorem Drawn.below {w w' : World} (h : Drawn w w') : Below w.heap.size w w' := ⟨h.os, h.tape, h.output, by rw [h.heap]; exact Nat.le_refl _, fun k _ => by rw [h.heap]⟩
theorem drawnN (w : World) (n : Nat) : Drawn w (w.drewN n) := ⟨rfl, rfl, rfl, rfl⟩

theorem same_d (a b : Option Addr) (n c m d : Nat) (xs ys : List Int) (w : World) (hx : Bs w a n xs) (hy : Bs w b m ys) (hn : n ≤ maxLen) (hm : m ≤ maxLen) :
    Calls Try.prog 22 #[.slice a n c, .slice b m d] w fun e w' => e = .returned (.bool (sameB xs ys)) ∧ Drawn w w' := by
  refine (same a b n c m d xs ys w hx hy hn hm).mono ?_
  rintro e w' ⟨rfl, nq, rfl⟩
  exact ⟨rfl, drawnN w nq⟩
theorem Bs.drawn {w w' : World} {a : Option Addr} {n : Nat} {zs : List Int} (h : Bs w a n zs) (hd : Drawn w w') : Bs w' a n zs := h.kept (grown_of_below hd.below) (Off.none _ _)
theorem Drawn.at {w w' : World} (h : Drawn w w') (k : Nat) : w'.heap[k]? = w.heap[k]? := by rw [h.heap]
/-- SameBytes of two lists that are one. -/
theorem same_yes (a b : Option Addr) (n c m d : Nat) (xs : List Int) (w : World) (hx : Bs w a n xs) (hy : Bs w b m xs) (hn : n ≤ 2000000) (hm : m ≤ 2000000) :
    Calls Try.prog 22 #[.slice a n c, .slice b m d] w fun e w' => e = .returned (.bool true) ∧ Drawn w w' := by
  refine (same a b n c m d xs xs w hx hy (by unfold maxLen; omega) (by unfold maxLen; omega)).mono ?_
  rintro e w' ⟨rfl, nq, rfl⟩
  exact ⟨by rw [sameB_self], drawnN w nq⟩

theorem cells_take_succ (zs : List Int) (k : Nat) (h : k < zs.length) : cells (zs.take k) ++ [.int .u8 (zs.getD k 0)] = cells (zs.take (k + 1)) := by
  rw [List.take_succ_eq_append_getElem h, cells_append]
  simp [cells, List.getD, h]

set_option maxHeartbeats 400000 in
theorem refBytes (a : Option Addr) (n c : Nat) (zs : List Int) (w : World) (hb : Bs w a n zs) (hn : n ≤ 140737488351232) :
    Calls Try.prog 7 #[.slice a n c] w fun en w' => ∃ v, en = .returned v ∧ w'.ownsRow w.heap.size 5 1 v n (cells zs) ∧ Below w.heap.size w w' := by
  obtain ⟨i, hi, hz0, hz1, hz2⟩ := info_parts info5
  go_enter Try.func7, Try.ntmps7
  go_wp2
  go_loopw [3, 4] (fun v i wr => ∃ k : Nat, k ≤ n ∧ i = .int .i64 k ∧ wr.ownsRow w.heap.size 5 1 v k (cells (zs.take k)) ∧ Below w.heap.size w wr) (fun _ i _ => n - (intOf i).toNat)
  case atStart => exact ⟨0, by omega, rfl, World.ownsRow_nil _ _ _ _, Below.refl _ _⟩
  case round =>
    obtain ⟨k, hk, rfl, hown, hbl⟩ := hrel
    have hsz := hbl.size
    by_cases hlt : k < n
    · obtain ⟨e1, e2, e3⟩ := hb
      rcases e3 with e3 | ⟨b, off, rfl, hc⟩
      · omega
      have hck : wr.cell? ⟨b, off + k, none⟩ = some (.int .u8 (zs.getD k 0)) := (hbl.cell (World.block_lt_of_cell? w _ (hc k hlt))).trans (hc k hlt)
      have HS := hid (cells_take_succ zs k (by omega))
      clear hc e2
      generalize zs.getD k 0 = z at *
      go_wp2_with (at_builtin; refine wpList_append_own _ rfl _ _ 28 rfl w.heap.size 5 i (.int .u8 0) 1 1 Try.underlying28 hi hz0 hz1 hz2 rfl (by decide) _ _ _ rfl (hown.alloc _) ⟨wr.heap.size, 0, none⟩ 1 1 [.int .u8 z] rfl rfl ?c1 ?c2 ?c3 ?c4 ?c5 ?_)
      case c1 =>
        intro j u hj
        match j, hj with
        | 0, hj => simp at hj; subst hj; simp [Addr.add]
      case c2 => intro u hu; simp at hu; subst hu; rfl
      case c3 => unfold maxLen; omega
      case c4 => omega
      case c5 => simp; omega
      intro v' w1 hown' hgrow _
      have hown2 : w1.ownsRow w.heap.size 5 1 v' (k + 1) (cells (zs.take (k + 1))) := by rw [← HS.out]; exact hown'
      have hbl2 : Below w.heap.size w w1 := (hbl.alloc (by omega) _).grown hgrow (by simp; omega) fun q hq => (hown.lt q hq).1
      clear hown' hgrow hown hck
      go_wp2
      go_roundw
      case rel => exact ⟨k + 1, by omega, by go_num, hown2, hbl2⟩
      case measure => simp [intOf]; omega
    · obtain rfl : k = n := by omega
      rw [List.take_of_length_le (by rw [hb.1]; exact Nat.le_refl _)] at hown
      go_wp2
      go_ret
      exact ⟨_, rfl, hown, hbl⟩

/-- What a row of one's own reads. -/
theorem own_form {w : World} {base n : Nat} {v : Value} {zs : List Int} (h : w.ownsRow base 5 1 v n (cells zs)) (hb : ∀ z ∈ zs, 0 ≤ z ∧ z ≤ 255) :
    ∃ a cap, v = .slice a n cap ∧ Bs w a n zs ∧ n ≤ cap ∧ cap ≤ maxLen ∧ (a = none → cap = 0) := by
  obtain ⟨h1, h2⟩ := h
  rw [cells_length, Nat.mul_one] at h1
  rcases h2 with ⟨rfl, rfl⟩ | ⟨g, cap, cur, rfl, _, hg, hnc, hcm, hs, ht⟩
  · exact ⟨none, 0, rfl, ⟨h1, hb, .inl rfl⟩, Nat.le_refl _, by unfold maxLen; omega, fun _ => rfl⟩
  · refine ⟨_, cap, rfl, ⟨h1, hb, .inr ⟨g, 0, rfl, fun i hi => ?_⟩⟩, hnc, hcm, fun e => by cases e⟩
    rw [Nat.zero_add, cell_of_row w g i cur 5 (0, 0) hg]
    have hq := cells_get zs i (by omega)
    rw [← ht, Nat.mul_one, List.getElem?_take, if_pos hi] at hq
    simpa using hq

theorem own_step {w0 wr w1 : World} {v : Value} {o : Obj} {base m : Nat} {xs : List Value} (hB : base = w0.heap.size) (hbl : Below w0.heap.size w0 wr) (hown : wr.ownsRow base 5 1 v m xs) (hg : (wr.alloc o).grownBy w1 v.ownBlock) : Below w0.heap.size w0 w1 := by
  subst hB
  have hsz := hbl.size
  exact (hbl.alloc (by omega) _).grown hg (by simp; omega) fun q hq => (hown.lt q hq).1

/-- A row of one's own whose first cells read ys. -/
def Head (w : World) (g cap : Nat) (ys : List Int) : Prop := ∃ cur, w.heap[g]? = some (.cells cur 5 (0, 0)) ∧ cur.size = cap ∧ ys.length ≤ cap ∧ cur.toList.take ys.length = cells ys
theorem Head.cell {w : World} {g cap : Nat} {ys : List Int} (h : Head w g cap ys) (i : Nat) (hi : i < ys.length) : w.cell? ⟨g, i, none⟩ = some (.int .u8 (ys.getD i 0)) := by
  obtain ⟨cur, hg, _, _, ht⟩ := h
  rw [cell_of_row w g i cur 5 (0, 0) hg]
  have hq := cells_get ys i hi
  rw [← ht, List.getElem?_take, if_pos hi] at hq
  simpa using hq
theorem Head.lt {w : World} {g cap : Nat} {ys : List Int} (h : Head w g cap ys) : g < w.heap.size := by
  obtain ⟨cur, hg, _⟩ := h; exact (Array.getElem?_eq_some_iff.1 hg).1
theorem Head.unfrozen {w : World} {g cap : Nat} {ys : List Int} (h : Head w g cap ys) (i : Nat) : w.frozen? ⟨g, i, none⟩ = false := by
  obtain ⟨cur, hg, _⟩ := h; simp [World.frozen?, hg]
theorem Head.set {w : World} {g cap : Nat} {ys : List Int} (h : Head w g cap ys) (i : Nat) (x : Int) : Head (w.setCell ⟨g, i, none⟩ (.int .u8 x)) g cap (ys.set i x) := by
  obtain ⟨cur, hg, hs, hl, ht⟩ := h
  refine ⟨cur.setIfInBounds i (.int .u8 x), by simp [World.setCell, Array.getElem?_modify, hg], by simpa using hs, by simpa using hl, ?_⟩
  rw [Array.toList_setIfInBounds, List.length_set, List.take_set, ht]
  simp [cells, List.map_set]
theorem Head.bs {w : World} {g cap m : Nat} {ys : List Int} (h : Head w g cap ys) (hm : m ≤ ys.length) (hb : ∀ z ∈ ys, 0 ≤ z ∧ z ≤ 255) : Bs w (some ⟨g, 0, none⟩) m (ys.take m) := by
  refine ⟨by simp; omega, fun z hz => hb z (List.mem_of_mem_take hz), .inr ⟨g, 0, rfl, fun i hi => ?_⟩⟩
  rw [Nat.zero_add, h.cell i (by omega)]
  simp only [List.getD, List.getElem?_take, if_pos hi]
theorem Head.all {w : World} {g cap m : Nat} {ys : List Int} (h : Head w g cap ys) (hm : ys.length = m) (hb : ∀ z ∈ ys, 0 ≤ z ∧ z ≤ 255) : Bs w (some ⟨g, 0, none⟩) m ys := by
  have := h.bs (m := m) (by omega) hb
  rwa [List.take_of_length_le (by omega)] at this
theorem Head.below {w w' : World} {g cap : Nat} {ys : List Int} (h : Head w g cap ys) (hb : Below w.heap.size w w') : Head w' g cap ys := by
  have hlt := h.lt
  obtain ⟨cur, hg, r⟩ := h
  exact ⟨cur, by rw [hb.block g hlt]; exact hg, r⟩
theorem own_head {w : World} {base n : Nat} {v : Value} {zs : List Int} (h : w.ownsRow base 5 1 v n (cells zs)) (hn : 0 < n) : ∃ g cap, v = .slice (some ⟨g, 0, none⟩) n cap ∧ n ≤ cap ∧ cap ≤ maxLen ∧ base ≤ g ∧ Head w g cap zs ∧ zs.length = n := by
  obtain ⟨h1, h2⟩ := h
  rw [cells_length, Nat.mul_one] at h1
  rcases h2 with ⟨_, h⟩ | ⟨g, cap, cur, rfl, hb, hg, hnc, hcm, hs, ht⟩
  · omega
  · exact ⟨g, cap, rfl, hnc, hcm, hb, ⟨cur, hg, by omega, by omega, by rw [h1]; simpa using ht⟩, h1⟩
theorem byte_set {ys : List Int} (hb : ∀ z ∈ ys, 0 ≤ z ∧ z ≤ 255) (i : Nat) (x : Int) (hx : 0 ≤ x ∧ x ≤ 255) : ∀ z ∈ ys.set i x, 0 ≤ z ∧ z ≤ 255 := by
  intro z hz
  rcases List.mem_or_eq_of_mem_set hz with h | rfl
  · exact hb z h
  · exact hx

end Go.Proofs.Ythflghjmpellpaa
