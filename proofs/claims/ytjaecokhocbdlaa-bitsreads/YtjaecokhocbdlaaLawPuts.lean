import Derived.Test.YtjaecokhocbdlaaPuts
namespace Go.Proofs.Ytjaecokhocbdlaa
open Go.RowKit
set_option linter.unusedVariables false

/-- A row of one's own whose first cells read ys. -/
def Head (w : World) (g cap : Nat) (ys : List Int) : Prop := ∃ cur, w.heap[g]? = some (.cells cur 5 (0, 0)) ∧ cur.size = cap ∧ ys.length ≤ cap ∧ cur.toList.take ys.length = cells ys
theorem Head.cell {w : World} {g cap : Nat} {ys : List Int} (h : Head w g cap ys) (i : Nat) (hi : i < ys.length) : w.cell? ⟨g, i, none⟩ = some (.int .u8 (ys.getD i 0)) := by
  obtain ⟨cur, hg, _, _, ht⟩ := h
  rw [cell_of_row w g i cur 5 (0, 0) hg]
  have hq := cells_get ys i hi
  rw [← ht, List.getElem?_take, if_pos hi] at hq
  simpa using hq
theorem Head.lt {w : World} {g cap : Nat} {ys : List Int} (h : Head w g cap ys) : g < w.heap.size := by
  obtain ⟨cur, hg, _⟩ := h; exact (Array.getElem?_eq_some_iff.1 hg).1
theorem Head.unfrozen {w : World} {g cap : Nat} {ys : List Int} (h : Head w g cap ys) (i : Nat) : w.frozen? ⟨g, i, none⟩ = false := by
  obtain ⟨cur, hg, _⟩ := h; simp [World.frozen?, hg]
theorem Head.set {w : World} {g cap : Nat} {ys : List Int} (h : Head w g cap ys) (i : Nat) (x : Int) : Head (w.setCell ⟨g, i, none⟩ (.int .u8 x)) g cap (ys.set i x) := by
  obtain ⟨cur, hg, hs, hl, ht⟩ := h
  refine ⟨cur.setIfInBounds i (.int .u8 x), by simp [World.setCell, Array.getElem?_modify, hg], by simpa using hs, by simpa using hl, ?_⟩
  rw [Array.toList_setIfInBounds, List.length_set, List.take_set, ht]
  simp [cells, List.map_set]
theorem Head.bs {w : World} {g cap m : Nat} {ys : List Int} (h : Head w g cap ys) (hm : m ≤ ys.length) (hb : ∀ z ∈ ys, 0 ≤ z ∧ z ≤ 255) : Bs w (some ⟨g, 0, none⟩) m (ys.take m) := by
  refine ⟨by simp; omega, fun z hz => hb z (List.mem_of_mem_take hz), .inr ⟨g, 0, rfl, fun i hi => ?_⟩⟩
  rw [Nat.zero_add, h.cell i (by omega)]
  simp only [List.getD, List.getElem?_take, if_pos hi]
theorem Head.all {w : World} {g cap m : Nat} {ys : List Int} (h : Head w g cap ys) (hm : ys.length = m) (hb : ∀ z ∈ ys, 0 ≤ z ∧ z ≤ 255) : Bs w (some ⟨g, 0, none⟩) m ys := by
  have := h.bs (m := m) (by omega) hb
  rwa [List.take_of_length_le (by omega)] at this
theorem Head.below {w w' : World} {g cap : Nat} {ys : List Int} (h : Head w g cap ys) (hb : Below w.heap.size w w') : Head w' g cap ys := by
  have hlt := h.lt
  obtain ⟨cur, hg, r⟩ := h
  exact ⟨cur, by rw [hb.block g hlt]; exact hg, r⟩
theorem own_head {w : World} {base n : Nat} {v : Value} {zs : List Int} (h : w.ownsRow base 5 1 v n (cells zs)) (hn : 0 < n) : ∃ g cap, v = .slice (some ⟨g, 0, none⟩) n cap ∧ n ≤ cap ∧ cap ≤ maxLen ∧ base ≤ g ∧ Head w g cap zs ∧ zs.length = n := by
  obtain ⟨h1, h2⟩ := h
  rw [cells_length, Nat.mul_one] at h1
  rcases h2 with ⟨_, h⟩ | ⟨g, cap, cur, rfl, hb, hg, hnc, hcm, hs, ht⟩
  · omega
  · exact ⟨g, cap, rfl, hnc, hcm, hb, ⟨cur, hg, by omega, by omega, by rw [h1]; simpa using ht⟩, h1⟩
theorem byte_set {ys : List Int} (hb : ∀ z ∈ ys, 0 ≤ z ∧ z ≤ 255) (i : Nat) (x : Int) (hx : 0 ≤ x ∧ x ≤ 255) : ∀ z ∈ ys.set i x, 0 ≤ z ∧ z ≤ 255 := by
  intro z hz
  rcases List.mem_or_eq_of_mem_set hz with h | rfl
  · exact hb z h
  · exact hx
theorem xor_byte (z : Int) : 0 ≤ bits BinOp.xor IntKind.u8 z 85 ∧ bits BinOp.xor IntKind.u8 z 85 ≤ 255 := by
  rw [bits.eq_3, IntKind.wrap_u8]; omega

set_option maxHeartbeats 1000000 in
theorem bitsPuts_ (a : Option Addr) (n c : Nat) (zs : List Int) (x : Int) (w : World) (hb : Bs w a n zs) (hnm : n ≤ maxLen) (h0 : 0 ≤ x) (h1 : x ≤ 18446744073709551615) :
    Calls Try.prog 3 #[.slice a n c, .int .u64 x] w fun en w' => en = .returned (.bool true) ∧ Below w.heap.size w w' := by
  unfold maxLen at hnm
  by_cases hn : n ≤ 65536
  · go_enter Try.func3, Try.ntmps3
    go_wp2_with fail
    refine (first_ w).mono ?_
    rintro en w1 ⟨rfl, B1⟩
    have b1 := hb.below B1
    have S1 := B1.size
    go_wp2_with fail
    refine (room_ a n c zs w1 b1 (by omega)).mono ?_
    rintro en w2 ⟨v, rfl, ho, hg⟩
    obtain ⟨g, cap, rfl, hcap, hcm, hgb, hh2, hl2⟩ := own_head ho (by omega)
    unfold maxLen at hcm
    have hgw : w.heap.size ≤ g := by omega
    have b2 := b1.below hg
    have B2 := bel_bel B1 S1 hg
    have S2 := B2.size
    have hy2 : ∀ z ∈ zs ++ [161, 162, 163], (0 : Int) ≤ z ∧ z ≤ 255 := by
      intro z hz; rcases List.mem_append.1 hz with h | h; exact hb.2.1 z h; simp at h; omega
    have HL := hid hl2
    have HY := hid hy2
    have s0 := hh2.bs (m := n) (by omega) hy2
    clear ho hg b1 B1 S1 hl2 hy2 hb hgb
    have i1 : (n : Int) ≤ (n : Int) + 3 := by omega
    have i2 : (n : Int) + 3 ≤ (cap : Int) := by omega
    have i3 : (0 : Int) ≤ (n : Int) := by omega
    go_wp2_with fail
    refine (puts_ (some ⟨g, 0, none⟩) n (n + 3) _ x w2 s0 (by omega) h0 h1).mono ?_
    rintro en w3 ⟨rfl, hg⟩
    have hh3 := hh2.below hg
    have b3 := b2.below hg
    have B3 := bel_bel B2 S2 hg
    have S3 := B3.size
    clear hg b2 B2 S2 s0 hh2
    go_wp2_with fail
    refine (room_ a n c zs w3 b3 (by omega)).mono ?_
    rintro en w4 ⟨v4, rfl, ho, hg⟩
    obtain ⟨g4, cap4, rfl, _, _, _, q4, _⟩ := own_head ho (by omega)
    have hh4 := hh3.below hg
    have B4 := bel_bel B3 S3 hg
    have S4 := B4.size
    have e1 := hh4.all HL.out HY.out
    have e2 := q4.all HL.out HY.out
    clear ho hg b3 B3 S3 q4 hh3
    go_wp2_with fail
    refine (same_yes (some ⟨g, 0, none⟩) (some ⟨g4, 0, none⟩) (n + 3) cap (n + 3) cap4 _ w4 e1 e2 (by omega) (by omega)).mono ?_
    rintro en w5 ⟨rfl, hd⟩
    have hh5 := hh4.below hd.below
    have B5 := bel_bel B4 S4 hd.below
    clear e1 e2 hd B4 S4 hh4
    go_wp2_with fail
    go_loopw [9] (fun i wr => ∃ k : Nat, ∃ ys : List Int, k ≤ n ∧ i = .int .i64 k ∧ Hid (ys.length = n + 3) ∧ (∀ z ∈ ys, 0 ≤ z ∧ z ≤ 255) ∧ Head wr g cap ys ∧ Below w.heap.size w wr) (fun i _ => n - (intOf i).toNat)
    case atStart => exact ⟨0, _, by omega, rfl, HL, HY.out, hh5, B5⟩
    case round =>
      obtain ⟨k, ys, hk, rfl, hyl, hyb, hh, hbl⟩ := hrel
      clear hh5 B5
      by_cases hlt : k < n
      · have hc := hh.cell k (by have := hyl.out; omega)
        have hf := hh.unfrozen k
        have HB := hid (byte_set hyb k _ (xor_byte (ys.getD k 0)))
        have HH := hid (hh.set k (bits BinOp.xor IntKind.u8 (ys.getD k 0) 85))
        have i4 : (k : Int) < (n : Int) + 3 := by omega
        have HLs : Hid ((ys.set k (bits BinOp.xor IntKind.u8 (ys.getD k 0) 85)).length = n + 3) := by have := hyl.out; show _ = _; rwa [List.length_set]
        generalize ys.set k (bits BinOp.xor IntKind.u8 (ys.getD k 0) 85) = ys2 at *
        generalize ys.getD k 0 = z at *
        clear hh hyb hyl
        go_wp2
        go_roundw
        case rel => exact ⟨k + 1, ys2, by omega, by go_num, HLs, HB.out, HH.out, hbl.setCell hgw _⟩
        case measure => simp [intOf]; omega
      · have e1 := hh.bs (m := n) (by have := hyl.out; omega) hyb
        have S := hbl.size
        clear hyb hh
        go_wp2_with fail
        refine (puts_ (some ⟨g, 0, none⟩) n (n + 3) _ x wr e1 (by omega) h0 h1).mono ?_
        rintro en w6 ⟨rfl, hg⟩
        have B6 := bel_bel hbl S hg
        go_wp2_with fail
        go_ret
        exact ⟨rfl, B6⟩
  · go_enter Try.func3, Try.ntmps3
    go_wp2_with fail
    refine (first_ w).mono ?_
    rintro en w1 ⟨rfl, B1⟩
    go_wp2_with fail
    go_ret
    exact ⟨rfl, B1⟩
end Go.Proofs.Ytjaecokhocbdlaa
