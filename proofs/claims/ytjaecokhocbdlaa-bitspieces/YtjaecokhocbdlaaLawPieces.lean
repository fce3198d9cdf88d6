import Derived.Test.YtjaecokhocbdlaaPuts
import Derived.Deep.RegionWith
namespace Go.Proofs.Ytjaecokhocbdlaa
open Go.RowKit
set_option linter.unusedVariables false

/-- What lies between two places of the bytes. -/
theorem Bs.none0 {w : World} {a : Option Addr} {n m p : Nat} {zs : List Int} (h : Bs w a n zs) (hp : p = 0) : Bs w a p ((zs.drop m).take p) := by
  subst hp; exact ⟨by simp, by simp, .inl rfl⟩
theorem Bs.mid {w : World} {a : Option Addr} {n m p : Nat} {zs : List Int} (h : Bs w a n zs) (hp : m + p ≤ n) : Bs w (a.map (fun x => x.add m)) p ((zs.drop m).take p) := by
  obtain ⟨h1, h2, h3⟩ := h
  refine ⟨by simp; omega, fun z hz => h2 z (List.mem_of_mem_drop (List.mem_of_mem_take hz)), ?_⟩
  by_cases h0 : p = 0
  · exact .inl h0
  rcases h3 with h3 | ⟨b, off, rfl, hc⟩
  · omega
  · refine .inr ⟨b, off + m, by simp [Addr.add], fun i hi => ?_⟩
    rw [Nat.add_assoc, hc (m + i) (by omega)]
    simp only [List.getD, List.getElem?_take, if_pos hi, List.getElem?_drop]
/-- A row of zeros. -/
def zrow (p : Nat) : Array Value := (cells (List.replicate p 0)).toArray
theorem run_zeros (p : Nat) (hp : p ≤ 1000000) (wx : World) : (Instr.makeSlice 22 (.int .i64 (p : Int)) (.int .i64 (p : Int))).run Try.prog wx = .ok (.slice (some ⟨wx.heap.size, 0, none⟩) p p) (wx.alloc (.cells (zrow p) 5)) := by
  obtain ⟨i, hi, hz0, hz1, hz2⟩ := info_parts info5
  have h := run_make (P := Try.prog) wx 22 5 i (.int .u8 0) Try.underlying22 hi hz0 .i64 .i64 p p (by omega) (by omega) (by rw [hz2]; omega) (by omega)
  rw [h, hz1, Int.toNat_natCast]
  have e : madeCells (Value.int .u8 0).cells (p * 1) = zrow p := by
    apply Array.ext'
    rw [made_zeros]; rfl
  rw [e]
theorem Bs.zeros (wx : World) (p : Nat) : Bs (wx.alloc (.cells (zrow p) 5)) (some ⟨wx.heap.size, 0, none⟩) p (List.replicate p 0) :=
  (Bs.new wx (List.replicate p 0) 5 (by intro z hz; simp [List.eq_of_mem_replicate hz])).len (by simp)
theorem Bs.drew {w : World} {a : Option Addr} {n : Nat} {zs : List Int} (h : Bs w a n zs) : Bs w.drew a n zs := h
theorem zs_of_same {zs : List Int} {p : Nat} (h : sameB (zs.take p) (List.replicate p 0) = true) : Zs zs p := by
  intro j hj
  have e : zs.take p = List.replicate p 0 := of_decide_eq_true h
  have : (zs.take p).getD j 0 = 0 := by rw [e]; simp [List.getD, hj]
  simpa only [List.getD, List.getElem?_take, if_pos hj] using this
theorem rem9 (s : Int) : ∃ q : Nat, q ≤ 8 ∧ (s.tmod 9 + 9) % 9 = (q : Int) := ⟨((s.tmod 9 + 9) % 9).toNat, by omega, by omega⟩
theorem tmod9 (s : Int) : -8 ≤ s.tmod 9 ∧ s.tmod 9 ≤ 8 := by
  have h1 := Int.lt_tmod_of_pos s (show (0 : Int) < 9 by omega)
  have h2 := Int.tmod_lt_of_pos s (show (0 : Int) < 9 by omega)
  omega

set_option maxRecDepth 100000 in
set_option maxHeartbeats 1000000 in
theorem bitsPieces_ (a : Option Addr) (n c : Nat) (zs : List Int) (a1 : Option Addr) (n1 c1 : Nat) (ws : List Int) (w : World) (hb : Bs w a n zs) (hnc : n ≤ c) (hnm : c ≤ maxLen) (hac : a = none → c = 0)
    (hn1 : n1 ≤ maxLen) (hs : n1 = 0 ∨ ∃ b off, a1 = some ⟨b, off, none⟩ ∧ ∀ i, i < n1 → w.cell? ⟨b, off + i, none⟩ = some (.int .i64 (ws.getD i 0))) :
    Calls Try.prog 6 #[.slice a n c, .slice a1 n1 c1] w fun en w' => en = .returned (.bool true) ∧ Below w.heap.size w w' := by
  unfold maxLen at hnm hn1
  by_cases hn : n ≤ 65536
  · go_enter Try.func6, Try.ntmps6
    go_wp2_with fail
    refine (first_ w).mono ?_
    rintro en w1 ⟨rfl, B1⟩
    have b1 := hb.below B1
    have S1 := B1.size
    go_wp2_with fail
    refine (newReader a n c zs w1 b1 hac (by omega) hnc).mono ?_
    rintro en w2 ⟨r, g, rfl, hR, hr, hg, _, hgr⟩
    have B2 := bel_grow B1 S1 hgr
    have hrw : w.heap.size ≤ r := by omega
    have hgw : w.heap.size ≤ g := by omega
    clear b1 B1 S1 hgr hr hg
    go_wp2_with fail
    go_loopw [7, 8] (fun at_ i wr => ∃ m k : Nat, m ≤ n ∧ k ≤ n1 ∧ at_ = .int .i64 m ∧ i = .int .i64 k ∧ Rd wr r g (zs.drop m) m ∧ Below w.heap.size w wr) (fun _ i _ => n1 - (intOf i).toNat)
    case atStart => exact ⟨0, 0, by omega, by omega, rfl, rfl, by simpa using hR, B2⟩
    case round =>
      obtain ⟨m, k, hm, hk, rfl, rfl, hRd, hbl⟩ := hrel
      clear hR B2
      by_cases hlt : k < n1 ∧ k < 60
      · obtain ⟨l1, l2⟩ := hlt
        have S := hbl.size
        have bz := hb.kept (grown_of_below hbl) (Off.none _ _)
        rcases hs with hs | ⟨b, off, rfl, hc⟩
        · omega
        have hck := (hbl.cell (World.block_lt_of_cell? w _ (hc k l1))).trans (hc k l1)
        generalize ws.getD k 0 = s at *
        clear hc
        have i1 : (k : Int) < (n1 : Int) := by omega
        have i2 : (k : Int) < 60 := by omega
        have i3 : (0 : Int) ≤ (m : Int) := by omega
        have i4 : (m : Int) ≤ (n : Int) := by omega
        obtain ⟨q, hq8, hq⟩ := rem9 s
        obtain ⟨t1, t2⟩ := tmod9 s
        obtain ⟨p, hp1, hp2, hp3⟩ : ∃ p : Nat, (m + p ≤ n) ∧ p ≤ 8 ∧ (((n : Int) - m < q ∧ (n : Int) - m = p) ∨ (q ≤ (n : Int) - m ∧ p = q)) := by
          by_cases h : (n : Int) - m < q
          · exact ⟨n - m, by omega, by omega, .inl ⟨h, by omega⟩⟩
          · exact ⟨q, by omega, by omega, .inr ⟨by omega, rfl⟩⟩
        obtain ⟨a', ha', bm⟩ : ∃ a', (if c = m then a else Option.map (fun x => x.add m) a) = a' ∧ ∀ wx, Below w.heap.size w wx → Bs wx a' p ((zs.drop m).take p) := by
          by_cases hcm : c = m
          · exact ⟨a, if_pos hcm, fun wx hx => (hb.below hx).none0 (by omega)⟩
          · exact ⟨_, if_neg hcm, fun wx hx => (hb.below hx).mid hp1⟩
        obtain ⟨L, hL1, hL2⟩ : ∃ L : Nat, L + (m + p) ≤ n ∧ n ≤ L + (m + p) := ⟨n - (m + p), by omega, by omega⟩
        have i5 : (m : Int) + (p : Int) ≤ (c : Int) := by omega
        have i6 : (m : Int) ≤ (m : Int) + (p : Int) := by omega
        have hmk := run_zeros p (by omega)
        have hwr : IntKind.i64.wrap ((m : Int) + (p : Int)) = (m : Int) + (p : Int) := by rw [IntKind.wrap_i64]; omega
        have hwq : ((m : Int) + (p : Int)).toNat = m + p := by omega
        have bmw := ((bm wr hbl).kept (World.grownBy_alloc wr (.cells (zrow p) 5) none) (Off.none _ _)).drew
        have bzw := (Bs.zeros wr p).drew
        have hpm : p ≤ maxLen := by unfold maxLen; omega
        clear bz
        rcases hp3 with ⟨u1, u2⟩ | ⟨u1, u2⟩
        · go_wp2_with fail
          go_region_with ((go_at_call 11; refine (same_d _ _ _ _ _ _ ((zs.drop m).take p) (List.replicate p 0) _ bmw bzw hpm hpm).mono ?_; rintro e w4 ⟨rfl, hd4⟩))
          have B4 : Below w.heap.size w w4 := bel_bel (hbl.alloc S (.cells (zrow p) 5)).drew (by simp; omega) hd4.below
          have R4 : Rd w4 r g (zs.drop m) m := hRd.kept (by rw [hd4.at]; exact Below.heap_alloc wr _ r hRd.lt) (fun hg => by rw [hd4.at]; exact Below.heap_alloc wr _ g hg)
          clear hmk hwr bmw bzw hd4 hRd hbl S hck hpm
          generalize hsb : sameB ((zs.drop m).take p) (List.replicate p 0) = sb
          have HSB := hid hsb
          clear hsb
          cases sb
          · go_wp2_with fail
            refine (bytes_whole r g p (zs.drop m) m w4 R4 (by rw [List.length_drop, hb.1]; omega) (by rw [List.length_drop, hb.1]; omega) (by omega) (by omega)).mono ?_
            rintro e w5 ⟨a5, rfl, L5, R5, o5⟩
            have B5 : Below w.heap.size w w5 := bel_only B4 hrw o5
            have x5 := L5.bs
            have y5 := bm w5 B5
            clear L5 o5 B4 R4
            go_wp2_with fail
            refine (same_yes a5 a' p p p (c - m) _ w5 x5 y5 (by omega) (by omega)).mono ?_
            rintro e w6 ⟨rfl, hd6⟩
            clear x5 y5
            have B6 : Below w.heap.size w w6 := bel_bel B5 B5.size hd6.below
            have R6 := R5.drawn hd6
            have hL6 : Hid (((zs.drop m).drop p).length = L) := by show _ = _; rw [List.length_drop, List.length_drop, hb.1]; omega
            clear R5 B5 hd6
            go_wp2_with fail
            refine (err_whole_d r g _ _ w6 R6).mono ?_
            rintro e w7 ⟨rfl, hd7⟩
            have B7 := bel_bel B6 B6.size hd7.below
            have R7 := R6.drawn hd7
            clear R6 B6 hd7
            go_wp2_with (first
              | (go_at_call 19; refine (num_ _ _).mono ?_; rintro en w' ⟨rfl, hw⟩; obtain rfl := hw.symm; clear hw)
              | (go_at_call 20; refine (left_len r g L _ _ _ R7 hL6.out).mono ?_; rintro en w' ⟨rfl, hw⟩; obtain rfl := hw.symm; clear hw))
            go_roundw
            case rel => exact ⟨m + p, k + 1, hp1, by omega, by go_num, by go_num, (by rw [← List.drop_drop]; simpa using R7), B7⟩
            case measure => simp [intOf]; omega
          · by_cases hodd : k % 2 = 1
            · have hod : ((k : Int) % 2 == 1) = true := by rw [beq_iff_eq]; omega
              go_wp2_with fail
              refine (zeros_whole r g p (zs.drop m) m w4 R4 (by rw [List.length_drop, hb.1]; omega) (by rw [List.length_drop, hb.1]; omega) (by omega) (by omega) (zs_of_same HSB.out)).mono ?_
              rintro e w6 ⟨rfl, R5, o5⟩
              have B5 : Below w.heap.size w w6 := bel_only B4 hrw o5
              have hd6 : Drawn w6 w6 := ⟨rfl, rfl, rfl, rfl⟩
              clear o5 B4 R4
              have B6 : Below w.heap.size w w6 := bel_bel B5 B5.size hd6.below
              have R6 := R5.drawn hd6
              have hL6 : Hid (((zs.drop m).drop p).length = L) := by show _ = _; rw [List.length_drop, List.length_drop, hb.1]; omega
              clear R5 B5 hd6
              go_wp2_with fail
              refine (err_whole_d r g _ _ w6 R6).mono ?_
              rintro e w7 ⟨rfl, hd7⟩
              have B7 := bel_bel B6 B6.size hd7.below
              have R7 := R6.drawn hd7
              clear R6 B6 hd7
              go_wp2_with (first
                | (go_at_call 19; refine (num_ _ _).mono ?_; rintro en w' ⟨rfl, hw⟩; obtain rfl := hw.symm; clear hw)
                | (go_at_call 20; refine (left_len r g L _ _ _ R7 hL6.out).mono ?_; rintro en w' ⟨rfl, hw⟩; obtain rfl := hw.symm; clear hw))
              go_roundw
              case rel => exact ⟨m + p, k + 1, hp1, by omega, by go_num, by go_num, (by rw [← List.drop_drop]; simpa using R7), B7⟩
              case measure => simp [intOf]; omega
            · have hod : ((k : Int) % 2 == 1) = false := by rw [beq_eq_false_iff_ne]; omega
              go_wp2_with fail
              refine (bytes_whole r g p (zs.drop m) m w4 R4 (by rw [List.length_drop, hb.1]; omega) (by rw [List.length_drop, hb.1]; omega) (by omega) (by omega)).mono ?_
              rintro e w5 ⟨a5, rfl, L5, R5, o5⟩
              have B5 : Below w.heap.size w w5 := bel_only B4 hrw o5
              have x5 := L5.bs
              have y5 := bm w5 B5
              clear L5 o5 B4 R4
              go_wp2_with fail
              refine (same_yes a5 a' p p p (c - m) _ w5 x5 y5 (by omega) (by omega)).mono ?_
              rintro e w6 ⟨rfl, hd6⟩
              clear x5 y5
              have B6 : Below w.heap.size w w6 := bel_bel B5 B5.size hd6.below
              have R6 := R5.drawn hd6
              have hL6 : Hid (((zs.drop m).drop p).length = L) := by show _ = _; rw [List.length_drop, List.length_drop, hb.1]; omega
              clear R5 B5 hd6
              go_wp2_with fail
              refine (err_whole_d r g _ _ w6 R6).mono ?_
              rintro e w7 ⟨rfl, hd7⟩
              have B7 := bel_bel B6 B6.size hd7.below
              have R7 := R6.drawn hd7
              clear R6 B6 hd7
              go_wp2_with (first
                | (go_at_call 19; refine (num_ _ _).mono ?_; rintro en w' ⟨rfl, hw⟩; obtain rfl := hw.symm; clear hw)
                | (go_at_call 20; refine (left_len r g L _ _ _ R7 hL6.out).mono ?_; rintro en w' ⟨rfl, hw⟩; obtain rfl := hw.symm; clear hw))
              go_roundw
              case rel => exact ⟨m + p, k + 1, hp1, by omega, by go_num, by go_num, (by rw [← List.drop_drop]; simpa using R7), B7⟩
              case measure => simp [intOf]; omega
        · rw [← u2] at hq u1
          clear u2
          go_wp2_with fail
          go_region_with ((go_at_call 11; refine (same_d _ _ _ _ _ _ ((zs.drop m).take p) (List.replicate p 0) _ bmw bzw hpm hpm).mono ?_; rintro e w4 ⟨rfl, hd4⟩))
          have B4 : Below w.heap.size w w4 := bel_bel (hbl.alloc S (.cells (zrow p) 5)).drew (by simp; omega) hd4.below
          have R4 : Rd w4 r g (zs.drop m) m := hRd.kept (by rw [hd4.at]; exact Below.heap_alloc wr _ r hRd.lt) (fun hg => by rw [hd4.at]; exact Below.heap_alloc wr _ g hg)
          clear hmk hwr bmw bzw hd4 hRd hbl S hck hpm
          generalize hsb : sameB ((zs.drop m).take p) (List.replicate p 0) = sb
          have HSB := hid hsb
          clear hsb
          cases sb
          · go_wp2_with fail
            refine (bytes_whole r g p (zs.drop m) m w4 R4 (by rw [List.length_drop, hb.1]; omega) (by rw [List.length_drop, hb.1]; omega) (by omega) (by omega)).mono ?_
            rintro e w5 ⟨a5, rfl, L5, R5, o5⟩
            have B5 : Below w.heap.size w w5 := bel_only B4 hrw o5
            have x5 := L5.bs
            have y5 := bm w5 B5
            clear L5 o5 B4 R4
            go_wp2_with fail
            refine (same_yes a5 a' p p p (c - m) _ w5 x5 y5 (by omega) (by omega)).mono ?_
            rintro e w6 ⟨rfl, hd6⟩
            clear x5 y5
            have B6 : Below w.heap.size w w6 := bel_bel B5 B5.size hd6.below
            have R6 := R5.drawn hd6
            have hL6 : Hid (((zs.drop m).drop p).length = L) := by show _ = _; rw [List.length_drop, List.length_drop, hb.1]; omega
            clear R5 B5 hd6
            go_wp2_with fail
            refine (err_whole_d r g _ _ w6 R6).mono ?_
            rintro e w7 ⟨rfl, hd7⟩
            have B7 := bel_bel B6 B6.size hd7.below
            have R7 := R6.drawn hd7
            clear R6 B6 hd7
            go_wp2_with (first
              | (go_at_call 19; refine (num_ _ _).mono ?_; rintro en w' ⟨rfl, hw⟩; obtain rfl := hw.symm; clear hw)
              | (go_at_call 20; refine (left_len r g L _ _ _ R7 hL6.out).mono ?_; rintro en w' ⟨rfl, hw⟩; obtain rfl := hw.symm; clear hw))
            go_roundw
            case rel => exact ⟨m + p, k + 1, hp1, by omega, by go_num, by go_num, (by rw [← List.drop_drop]; simpa using R7), B7⟩
            case measure => simp [intOf]; omega
          · by_cases hodd : k % 2 = 1
            · have hod : ((k : Int) % 2 == 1) = true := by rw [beq_iff_eq]; omega
              go_wp2_with fail
              refine (zeros_whole r g p (zs.drop m) m w4 R4 (by rw [List.length_drop, hb.1]; omega) (by rw [List.length_drop, hb.1]; omega) (by omega) (by omega) (zs_of_same HSB.out)).mono ?_
              rintro e w6 ⟨rfl, R5, o5⟩
              have B5 : Below w.heap.size w w6 := bel_only B4 hrw o5
              have hd6 : Drawn w6 w6 := ⟨rfl, rfl, rfl, rfl⟩
              clear o5 B4 R4
              have B6 : Below w.heap.size w w6 := bel_bel B5 B5.size hd6.below
              have R6 := R5.drawn hd6
              have hL6 : Hid (((zs.drop m).drop p).length = L) := by show _ = _; rw [List.length_drop, List.length_drop, hb.1]; omega
              clear R5 B5 hd6
              go_wp2_with fail
              refine (err_whole_d r g _ _ w6 R6).mono ?_
              rintro e w7 ⟨rfl, hd7⟩
              have B7 := bel_bel B6 B6.size hd7.below
              have R7 := R6.drawn hd7
              clear R6 B6 hd7
              go_wp2_with (first
                | (go_at_call 19; refine (num_ _ _).mono ?_; rintro en w' ⟨rfl, hw⟩; obtain rfl := hw.symm; clear hw)
                | (go_at_call 20; refine (left_len r g L _ _ _ R7 hL6.out).mono ?_; rintro en w' ⟨rfl, hw⟩; obtain rfl := hw.symm; clear hw))
              go_roundw
              case rel => exact ⟨m + p, k + 1, hp1, by omega, by go_num, by go_num, (by rw [← List.drop_drop]; simpa using R7), B7⟩
              case measure => simp [intOf]; omega
            · have hod : ((k : Int) % 2 == 1) = false := by rw [beq_eq_false_iff_ne]; omega
              go_wp2_with fail
              refine (bytes_whole r g p (zs.drop m) m w4 R4 (by rw [List.length_drop, hb.1]; omega) (by rw [List.length_drop, hb.1]; omega) (by omega) (by omega)).mono ?_
              rintro e w5 ⟨a5, rfl, L5, R5, o5⟩
              have B5 : Below w.heap.size w w5 := bel_only B4 hrw o5
              have x5 := L5.bs
              have y5 := bm w5 B5
              clear L5 o5 B4 R4
              go_wp2_with fail
              refine (same_yes a5 a' p p p (c - m) _ w5 x5 y5 (by omega) (by omega)).mono ?_
              rintro e w6 ⟨rfl, hd6⟩
              clear x5 y5
              have B6 : Below w.heap.size w w6 := bel_bel B5 B5.size hd6.below
              have R6 := R5.drawn hd6
              have hL6 : Hid (((zs.drop m).drop p).length = L) := by show _ = _; rw [List.length_drop, List.length_drop, hb.1]; omega
              clear R5 B5 hd6
              go_wp2_with fail
              refine (err_whole_d r g _ _ w6 R6).mono ?_
              rintro e w7 ⟨rfl, hd7⟩
              have B7 := bel_bel B6 B6.size hd7.below
              have R7 := R6.drawn hd7
              clear R6 B6 hd7
              go_wp2_with (first
                | (go_at_call 19; refine (num_ _ _).mono ?_; rintro en w' ⟨rfl, hw⟩; obtain rfl := hw.symm; clear hw)
                | (go_at_call 20; refine (left_len r g L _ _ _ R7 hL6.out).mono ?_; rintro en w' ⟨rfl, hw⟩; obtain rfl := hw.symm; clear hw))
              go_roundw
              case rel => exact ⟨m + p, k + 1, hp1, by omega, by go_num, by go_num, (by rw [← List.drop_drop]; simpa using R7), B7⟩
              case measure => simp [intOf]; omega
      · by_cases hk1 : k < n1
        · have i1 : (k : Int) < (n1 : Int) := by omega
          have i2 : ¬ (k : Int) < 60 := by omega
          go_wp2_with fail
          go_ret
          exact ⟨rfl, hbl⟩
        · have i1 : ¬ (k : Int) < (n1 : Int) := by omega
          go_wp2_with fail
          go_ret
          exact ⟨rfl, hbl⟩
  · go_enter Try.func6, Try.ntmps6
    go_wp2_with fail
    refine (first_ w).mono ?_
    rintro en w1 ⟨rfl, B1⟩
    go_wp2_with fail
    go_ret
    exact ⟨rfl, B1⟩
end Go.Proofs.Ytjaecokhocbdlaa
