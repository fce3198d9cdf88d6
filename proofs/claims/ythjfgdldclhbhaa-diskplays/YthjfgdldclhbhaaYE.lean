import Derived.Test.YthjfgdldclhbhaaYC
namespace Go.Proofs.Ythjfgdldclhbhaa
set_option maxRecDepth 100000
open Go.RowKit Go.Shelf
set_option linter.unusedVariables false

theorem made_zer (n : Nat) : (madeCells (Value.int .u8 0).cells (n * 1)).toList = cells (List.replicate n 0) := by
  simp [madeCells, cells, Value.cells]
  apply List.ext_getElem
  · simp
  · intro i h1 h2; simp [Nat.mod_one]
theorem hd_grown {w w' : World} {g cap j : Nat} {ys : List Int} (h : Head w g cap ys) (hg : w.grownBy w' none) : Head w' g cap ys := by
  obtain ⟨cur, h1, h2⟩ := h
  exact ⟨cur, (hg.block g (Array.getElem?_eq_some_iff.1 h1).1 (by simp)).trans h1, h2⟩
theorem gr_tr {a b c : World} {r : Option Nat} (h : a.grownBy b r) (k : b.grownBy c r) : a.grownBy c r :=
  ⟨k.os.trans h.os, k.tape.trans h.tape, k.output.trans h.output, Nat.le_trans h.size k.size, fun i hi hr => (k.block i (Nat.lt_of_lt_of_le hi h.size) hr).trans (h.block i hi hr)⟩
theorem by_set {ys : List Int} (h : ∀ z ∈ ys, 0 ≤ z ∧ z ≤ 255) (j : Nat) (x : Int) (hx : 0 ≤ x ∧ x ≤ 255) : ∀ z ∈ ys.set j x, 0 ≤ z ∧ z ≤ 255 := fun z hz => by
  rcases List.mem_or_eq_of_mem_set hz with q | q
  · exact h z q
  · rw [q]; exact hx
set_option maxHeartbeats 8000000 in
theorem imaged_ (n k : Nat) (w : World) (h1 : 32 ≤ n) (h2 : n ≤ 64) :
    Calls Try.prog 11 #[.int .i64 n, .pointer (some ⟨k, 0, none⟩)] w fun en w' => ∃ p d e S Q N, en = .returned (.tuple #[.pointer (some ⟨p, 0, none⟩), .bool true]) ∧ Pa w' p d e k { st0 n with S := S } Q N ∧ (∀ b, Q b ∨ N b → w.heap.size ≤ b) ∧ w.heap.size ≤ p ∧ Below w.heap.size w w' := by
  obtain ⟨i, hi, hz0, hz1, hz2⟩ := info_parts info5
  obtain ⟨L, HL⟩ : ∃ L : Nat, Hid (L = 512 * n) := ⟨_, rfl⟩
  obtain ⟨L2, HL2⟩ : ∃ L2 : Nat, Hid (L2 = L + 2) := ⟨_, rfl⟩
  have hL1 : 16384 ≤ L := by have := HL.out; omega
  have hL3 : L ≤ 32768 := by have := HL.out; omega
  have e0 : (n : Int) * 512 = (L : Int) := by have := HL.out; omega
  have e1 : (L : Int) + 2 = (L2 : Int) := by have := HL2.out; omega
  have hLL : L < L2 ∧ L2 ≤ 40000 := by have := HL2.out; omega
  go_enter Try.func11, Try.ntmps11
  go_wp2_with (at_make; refine wpList_make_full _ rfl _ _ 25 rfl w.heap.size 5 i (.int .u8 0) 1 Try.underlying25 hi hz0 hz1 .i64 .i64 _ _ L2 rfl rfl (by first | rfl | omega) (by first | rfl | omega) (by rw [hz2]; omega) (by unfold maxLen; omega) (Nat.le_refl _) ?_; intro w1 hown hg1; rw [made_zer] at hown; have HO := hid hown; have HG1 := hid (below_of_grown hg1); clear hown hg1)
  obtain ⟨g, cap, hgc, _, _, hg0, hh, hlen⟩ := own_head HO.out (by omega)
  obtain ⟨rfl, -, rfl⟩ : w.heap.size = g ∧ True ∧ L2 = cap := by simpa using hgc
  have HH := hid hh
  clear hgc hh hg0 hlen HO
  have hgl : w.heap.size < w1.heap.size := HH.out.lt
  go_loopw [8] (fun i wr => ∃ (j : Nat) (ys : List Int), j ≤ L2 ∧ i = .int .i64 j ∧ Head wr w.heap.size L2 ys ∧ ys.length = L2 ∧ Hid (∀ z ∈ ys, 0 ≤ z ∧ z ≤ 255) ∧ w1.grownBy wr (some w.heap.size)) (fun i _ => L2 - (intOf i).toNat)
  case atStart => exact ⟨0, _, Nat.zero_le _, rfl, HH.out, by simp, fun z hz => by obtain rfl := List.eq_of_mem_replicate hz; omega, grown_refl _ _⟩
  case round =>
    clear HH
    obtain ⟨j, ys, hj, rfl, hh, hyl, HYB, hgr⟩ := hrel
    by_cases hlt : j < L2
    · have hjI : (j : Int) < (L2 : Int) := by omega
      obtain ⟨q1, Hq1⟩ : ∃ q1 : Nat, Hid ((j : Int) / 512 = (q1 : Int)) := ⟨j / 512, by show _ = _; omega⟩
      obtain ⟨q2, Hq2⟩ : ∃ q2 : Nat, Hid ((j : Int) % 7 = (q2 : Int)) := ⟨j % 7, by show _ = _; omega⟩
      have x1 := Hq1.out
      have x2 := Hq2.out
      have hq : q1 + q2 + 1 ≤ 255 := by omega
      have cj := hh.cell j (by omega)
      have fj := hh.unfrozen j
      have HX := hid (hh.set j ((q1 : Int) + (q2 : Int) + 1))
      have HXL : Hid ((ys.set j ((q1 : Int) + (q2 : Int) + 1)).length = L2) := by show _ = _; rw [List.length_set]; exact hyl
      have HXB : Hid (∀ z ∈ ys.set j ((q1 : Int) + (q2 : Int) + 1), 0 ≤ z ∧ z ≤ 255) := by_set HYB.out j _ (by omega)
      have HXG := hid (gr_tr hgr (grown_set (grown_refl wr (some w.heap.size)) j (.int .u8 ((q1 : Int) + (q2 : Int) + 1))))
      generalize ys.set j ((q1 : Int) + (q2 : Int) + 1) = ys' at *
      clear hh hgr HYB hyl e0 e1
      go_wp2_with fail
      go_roundw
      case rel => exact ⟨j + 1, ys', by omega, by go_num, HX.out, HXL.out, HXB.out, HXG.out⟩
      case measure => simp [intOf]; omega
    · obtain rfl : j = L2 := by omega
      have hjI : ¬ (j : Int) < (j : Int) := by omega
      have BW := HG1.out.grown hgr HG1.out.size (fun q hq => by cases hq; omega)
      have hgw := hh.lt
      have HH := hid hh
      have HYL := hid hyl
      have HBW := hid BW
      clear hh hyl hgr BW
      go_wp2_with fail
      refine (refBytes (some ⟨w.heap.size, 0, none⟩) j j ys wr (HH.out.all HYL.out HYB.out) (by omega)).mono ?_
      rintro en w2 ⟨v, rfl, o2, g2⟩
      obtain ⟨gw, cw, rfl, hw1, hw2, hw3, hhw, hlw⟩ := own_head o2 (by omega)
      have hw2' := hw2
      unfold maxLen at hw2'
      have HHW := hid hhw
      have HH2 := hid (HH.out.below g2)
      have HB2 := hid (bel_bel HBW.out HBW.out.size g2)
      have s2 := g2.size
      have i1 : (L : Int) ≤ (j : Int) := by omega
      have i2 : (L : Int) ≤ (cw : Int) := by omega
      have i3 : (0 : Int) ≤ (L : Int) := by omega
      have q2 : Bs w2 (some ⟨w.heap.size, 0, none⟩) L (ys.take L) := HH2.out.bs (by have := HYL.out; omega) HYB.out
      have ki := image_ ⟨w.heap.size, 0, none⟩ n j (ys.take L) w2 h1 (by omega) (by rw [← HL.out]; exact q2)
      rw [← HL.out] at ki
      clear o2 g2 hhw HBW HH q2 hw2
      go_wp2_with fail
      refine ki.mono ?_
      rintro en w3 ⟨d, rfl, D3, g3⟩
      have s3 := g3.size
      have HD3 := hid D3
      have HH3 := hid (HH2.out.below g3)
      have HHW3 := hid (HHW.out.below g3)
      have HB3 := hid (bel_bel HB2.out HB2.out.size g3)
      have q3 : Bs w3 (some ⟨gw, 0, none⟩) L (ys.take L) := HHW3.out.bs (by have := HYL.out; omega) HYB.out
      have kr := rimage_ (some ⟨gw, 0, none⟩) n L cw (ys.take L) w3 h1 h2 HL.out q3 (by omega) (by unfold maxLen; omega)
      clear ki D3 g3 HH2 HHW HB2 q3
      go_wp2_with fail
      refine kr.mono ?_
      rintro en w4 ⟨e, rfl, R4, g4⟩
      have s4 := g4.size
      have HR4 := hid R4
      have HD4 := hid (HD3.out.below g4)
      have HB4 := hid (bel_bel HB3.out HB3.out.size g4)
      have ks := same_yes (some ⟨w.heap.size, 0, none⟩) (some ⟨gw, 0, none⟩) j j j cw ys w4 ((HH3.out.below g4).all HYL.out HYB.out) ((HHW3.out.below g4).all HYL.out HYB.out) (by omega) (by omega)
      have HH4 := hid (HH3.out.below g4)
      clear kr R4 g4 HH3 HHW3 HB3 HD3
      go_wp2_with fail
      refine ks.mono ?_
      rintro en w5 ⟨rfl, D5⟩
      have g5 := D5.below
      have s5 := g5.size
      have HR5 := hid (HR4.out.below g5)
      have HD5 := hid (HD4.out.below g5)
      have HB5 := hid (bel_bel HB4.out HB4.out.size g5)
      have HH5 := hid (HH4.out.below g5)
      clear ks g5 D5 HR4 HD4 HB4 HH4
      obtain ⟨wq, rfl⟩ : ∃ wq, wq = wr := ⟨_, rfl⟩
      obtain ⟨ys0, rfl⟩ : ∃ y, y = ys := ⟨_, rfl⟩
      go_wp2_with fail
      go_loopw [15] (fun i wr => ∃ (q : Nat) (ys : List Int), q ≤ j ∧ i = .int .i64 q ∧ Head wr w.heap.size j ys ∧ ys.length = j ∧ w5.grownBy wr (some w.heap.size)) (fun i _ => j - (intOf i).toNat)
      case atStart => exact ⟨0, ys0, Nat.zero_le _, rfl, HH5.out, HYL.out, grown_refl _ _⟩
      case round =>
        clear HH5
        obtain ⟨q, ys, hq, rfl, hh, hyl, hgr⟩ := hrel
        by_cases hlt : q < j
        · have hqI : (q : Int) < (j : Int) := by omega
          have cj := hh.cell q (by omega)
          have fj := hh.unfrozen q
          have HX := hid (hh.set q 238)
          have HXL : Hid ((ys.set q 238).length = j) := by show _ = _; rw [List.length_set]; exact hyl
          have HXG := hid (gr_tr hgr (grown_set (grown_refl wr (some w.heap.size)) q (.int .u8 238)))
          generalize ys.set q 238 = ys' at *
          clear hh hgr hyl e0 e1
          go_wp2_with fail
          go_roundw
          case rel => exact ⟨q + 1, ys', by omega, by go_num, HX.out, HXL.out, HXG.out⟩
          case measure => simp [intOf]; omega
        · have hqI : ¬ (q : Int) < (j : Int) := by omega
          have D6 := HD5.out.turned hgr (fun x => by have := x.1; omega)
          have R6 := HR5.out.keep (w' := wr) (R := fun b => w3.heap.size ≤ b ∧ b < w4.heap.size) (fun b hb hl => hgr.block b hl (by simp; omega)) (fun b hb _ => hb)
          have B6 := HB5.out.grown hgr HB5.out.size (fun x hx => by cases hx; omega)
          have s6 := hgr.size
          have HD6 := hid D6
          have HR6 := hid R6
          have HB6 := hid B6
          clear D6 R6 B6 hh hgr hyl HD5 HR5 HB5
          go_wp2_with (go_at_call 19; refine (num_ _ _).mono ?_; rintro e w' ⟨rfl, hw⟩; obtain rfl := hw.symm; clear hw)
          have A7 : Below wr.heap.size wr (wr.alloc (.cells #[.pointer (some ⟨d, 0, none⟩), .pointer (some ⟨e, 0, none⟩), .pointer (some ⟨k, 0, none⟩)] 56)) := (Below.refl _ _).alloc (Nat.le_refl _) _
          have s7 := A7.size
          have hwl := HB6.out.size
          go_ret2
          refine ⟨wr.heap.size, d, e, secs (ys0.take L), (fun b => w2.heap.size ≤ b ∧ b < w3.heap.size), (fun b => w3.heap.size ≤ b ∧ b < w4.heap.size), rfl, ⟨heap_alloc_new wr _, HD6.out.below A7, HR6.out.below A7, fun b x y => by omega, fun b x => by omega, fun x => by omega, fun x => by omega⟩, fun b x => ?_, hwl, bel_bel HB6.out HB6.out.size A7⟩
          rcases x with x | x
          · omega
          · omega
/-- A pair that has just been laid. -/
theorem pa_new {w1 w2 w3 : World} {p d e k n : Nat} (hp : w3.heap[p]? = some (.cells #[.pointer (some ⟨d, 0, none⟩), .pointer (some ⟨e, 0, none⟩), .pointer (some ⟨k, 0, none⟩)] 56 (0, 0))) (D : Dev w3 d (st0 n) (fun b => w1.heap.size ≤ b ∧ b < w2.heap.size)) (R : Rd w3 e (st0 n) (fun b => w2.heap.size ≤ b ∧ b < w3.heap.size)) (hl : p < w1.heap.size) (hs : w1.heap.size ≤ w2.heap.size) : Pa w3 p d e k (st0 n) (fun b => w1.heap.size ≤ b ∧ b < w2.heap.size) (fun b => w2.heap.size ≤ b ∧ b < w3.heap.size) :=
  ⟨hp, D, R, fun b x y => by omega, fun b x => x.2, fun x => by omega, fun x => by omega⟩
def Pn (w : World) (p : Nat) (x y : Option Addr) (k : Nat) : Prop := w.heap[p]? = some (.cells #[.pointer x, .pointer y, .pointer (some ⟨k, 0, none⟩)] 56 (0, 0))
theorem Pn.c0 {w : World} {p k : Nat} {x y : Option Addr} (h : Pn w p x y k) : w.cell? ⟨p, 0, none⟩ = some (.pointer x) := (cell_of_row _ _ 0 _ _ (0, 0) h).trans rfl
theorem Pn.c1 {w : World} {p k : Nat} {x y : Option Addr} (h : Pn w p x y k) : w.cell? ⟨p, 1, none⟩ = some (.pointer y) := (cell_of_row _ _ 1 _ _ (0, 0) h).trans rfl
theorem Pn.fz {w : World} {p k : Nat} {x y : Option Addr} (h : Pn w p x y k) (i : Nat) : w.frozen? ⟨p, i, none⟩ = false := by unfold Pn at h; simp [World.frozen?, h]
theorem Pn.lt {w : World} {p k : Nat} {x y : Option Addr} (h : Pn w p x y k) : p < w.heap.size := (Array.getElem?_eq_some_iff.1 h).1
theorem Pn.below {w w' : World} {p k : Nat} {x y : Option Addr} (h : Pn w p x y k) (hb : Below w.heap.size w w') : Pn w' p x y k := (hb.block p h.lt).trans h
theorem Pn.s0 {w : World} {p k : Nat} {x y : Option Addr} (h : Pn w p x y k) (z : Option Addr) : Pn (w.setCell ⟨p, 0, none⟩ (.pointer z)) p z y k := by
  unfold Pn at *
  simp [World.setCell, Array.getElem?_modify, h]
theorem Pn.s1 {w : World} {p k : Nat} {x y : Option Addr} (h : Pn w p x y k) (z : Option Addr) : Pn (w.setCell ⟨p, 1, none⟩ (.pointer z)) p x z k := by
  unfold Pn at *
  simp [World.setCell, Array.getElem?_modify, h]
end Go.Proofs.Ythjfgdldclhbhaa
namespace Go.Proofs.Ythjfgdldclhbhaa
set_option maxRecDepth 100000
open Go.RowKit Go.Shelf
set_option linter.unusedVariables false

set_option maxHeartbeats 8000000 in
theorem made_a (n k : Nat) (w : World) (h1 : 32 ≤ n) (h2 : n ≤ 64) :
    Calls Try.prog 10 #[.int .i64 n, .pointer (some ⟨k, 0, none⟩)] w fun en w' => ∃ p d e m Q N, en = .returned (.tuple #[.pointer (some ⟨p, 0, none⟩), .bool true]) ∧ Pa w' p d e k (st0 m) Q N ∧ (∀ b, Q b ∨ N b → w.heap.size ≤ b) ∧ w.heap.size ≤ p ∧ Below w.heap.size w w' := by
  have i1 : (n : Int) ≤ 64 := by omega
  have P0 : Pn (w.alloc (.cells #[.pointer none, .pointer none, .pointer (some ⟨k, 0, none⟩)] 56)) w.heap.size none none k := heap_alloc_new w _
  have B0 : Below w.heap.size w (w.alloc (.cells #[.pointer none, .pointer none, .pointer (some ⟨k, 0, none⟩)] 56)) := (Below.refl _ _).alloc (Nat.le_refl _) _
  have c0 := P0.c0
  have c1 := P0.c1
  have f0 := P0.fz 0
  have f1 := P0.fz 1
  have HP0 := hid P0
  have HB0 := hid B0
  have hpl := P0.lt
  clear P0 B0
  go_enter Try.func10, Try.ntmps10
  go_wp2_with fail
  generalize w.alloc (.cells #[.pointer none, .pointer none, .pointer (some ⟨k, 0, none⟩)] 56) = w1 at *
  refine (new_ n w1 h1 (by omega)).mono ?_
  rintro en w2 ⟨d, rfl, D2, B2⟩
  have P2 := HP0.out.below B2
  have c0 := P2.c0
  have f0 := P2.fz 0
  have P3 := P2.s0 (some ⟨d, 0, none⟩)
  have G3 := grown_set (grown_refl w2 (some w.heap.size)) 0 (.pointer (some ⟨d, 0, none⟩))
  have D3 := D2.turned G3 (fun x => by omega)
  have B3 := (bel_bel HB0.out HB0.out.size B2).grown G3 (bel_bel HB0.out HB0.out.size B2).size (fun q hq => by cases hq; omega)
  have s2 := B2.size
  have s3 := G3.size
  have hz3 : (w2.setCell ⟨w.heap.size, 0, none⟩ (.pointer (some ⟨d, 0, none⟩))).heap.size = w2.heap.size := by simp [World.setCell]
  have HP3 := hid P3
  have HD3 := hid D3
  have HB3 := hid B3
  clear P2 P3 G3 D2 D3 B2 B3 HP0 HB0
  go_wp2_with fail
  generalize w2.setCell ⟨w.heap.size, 0, none⟩ (.pointer (some ⟨d, 0, none⟩)) = w3 at *
  clear c0 f0
  refine (rnew_ n w3 h1 (by omega)).mono ?_
  rintro en w4 ⟨e, rfl, R4, B4⟩
  have P4 := HP3.out.below B4
  have c1 := P4.c1
  have f1 := P4.fz 1
  have s4 := B4.size
  have P5 := P4.s1 (some ⟨e, 0, none⟩)
  have G5 := grown_set (grown_refl w4 (some w.heap.size)) 1 (.pointer (some ⟨e, 0, none⟩))
  have hz5 : (w4.setCell ⟨w.heap.size, 1, none⟩ (.pointer (some ⟨e, 0, none⟩))).heap.size = w4.heap.size := by simp [World.setCell]
  have D5 := (HD3.out.below B4).turned G5 (fun x => by omega)
  have R5 := R4.keep (w' := w4.setCell ⟨w.heap.size, 1, none⟩ (.pointer (some ⟨e, 0, none⟩))) (R := fun b => w2.heap.size ≤ b ∧ b < (w4.setCell ⟨w.heap.size, 1, none⟩ (.pointer (some ⟨e, 0, none⟩))).heap.size) (fun b hb hl => G5.block b hl (by simp; omega)) (fun b hb _ => by omega)
  have B5 := (bel_bel HB3.out HB3.out.size B4).grown G5 (bel_bel HB3.out HB3.out.size B4).size (fun q hq => by cases hq; omega)
  have HPA := hid (pa_new P5 D5 R5 (by omega) s2)
  have HP5 := hid P5
  have HB5 := hid B5
  clear P4 P5 G5 D5 R4 R5 B4 B5 HP3 HD3 HB3
  go_wp2_with fail
  generalize w4.setCell ⟨w.heap.size, 1, none⟩ (.pointer (some ⟨e, 0, none⟩)) = w5 at *
  have d0 := HP5.out.c0
  have d1 := HP5.out.c1
  clear c1 f1
  go_region_held (fun wx => wx.cell? ⟨w.heap.size, 0, none⟩ = some (.pointer (some ⟨d, 0, none⟩)) ∧ wx.cell? ⟨w.heap.size, 1, none⟩ = some (.pointer (some ⟨e, 0, none⟩))) (go_keep) (fail)
  have BD : Below w5.heap.size w5 w5.drew := ⟨rfl, rfl, rfl, Nat.le_refl _, fun _ _ => rfl⟩
  have HPB := hid (HPA.out.below BD)
  have HB6 := hid (bel_bel HB5.out HB5.out.size BD)
  have HP6 := hid (HP5.out.below BD)
  clear d0 d1 BD HP5
  generalize w5.drew = w6 at *
  have d0 := HP6.out.c0
  go_wp2_with fail
  go_region_held (fun wx => wx.cell? ⟨w.heap.size, 0, none⟩ = some (.pointer (some ⟨d, 0, none⟩))) (go_keep) (fail)
  have BE : Below w6.heap.size w6 w6.drew := ⟨rfl, rfl, rfl, Nat.le_refl _, fun _ _ => rfl⟩
  have HPZ := hid (HPB.out.below BE)
  have HBZ := hid (bel_bel HB6.out HB6.out.size BE)
  clear BE
  generalize w6.drew = wz at *
  go_wp2_with fail
  go_ret2
  refine ⟨w.heap.size, d, e, n, _, _, rfl, HPZ.out, fun b x => ?_, Nat.le_refl _, HBZ.out⟩
  rcases x with x | x
  · omega
  · omega
set_option maxHeartbeats 8000000 in
theorem made_c (n : Int) (k : Nat) (w : World) (h1 : 64 < n) :
    Calls Try.prog 10 #[.int .i64 n, .pointer (some ⟨k, 0, none⟩)] w fun en w' => ∃ p d e m Q N, en = .returned (.tuple #[.pointer (some ⟨p, 0, none⟩), .bool true]) ∧ Pa w' p d e k (st0 m) Q N ∧ (∀ b, Q b ∨ N b → w.heap.size ≤ b) ∧ w.heap.size ≤ p ∧ Below w.heap.size w w' := by
  have i1 : ¬ n ≤ 64 := by omega
  have P0 : Pn (w.alloc (.cells #[.pointer none, .pointer none, .pointer (some ⟨k, 0, none⟩)] 56)) w.heap.size none none k := heap_alloc_new w _
  have B0 : Below w.heap.size w (w.alloc (.cells #[.pointer none, .pointer none, .pointer (some ⟨k, 0, none⟩)] 56)) := (Below.refl _ _).alloc (Nat.le_refl _) _
  have c0 := P0.c0
  have c1 := P0.c1
  have f0 := P0.fz 0
  have f1 := P0.fz 1
  have HP0 := hid P0
  have HB0 := hid B0
  have hpl := P0.lt
  clear P0 B0
  go_enter Try.func10, Try.ntmps10
  go_wp2_with fail
  generalize w.alloc (.cells #[.pointer none, .pointer none, .pointer (some ⟨k, 0, none⟩)] 56) = w1 at *
  go_region_held (fun wx => wx.cell? ⟨w.heap.size, 0, none⟩ = some (.pointer none) ∧ wx.cell? ⟨w.heap.size, 1, none⟩ = some (.pointer none)) (go_keep) (fail)
  have BD : Below w1.heap.size w1 w1.drew := ⟨rfl, rfl, rfl, Nat.le_refl _, fun _ _ => rfl⟩
  have HP1 := hid (HP0.out.below BD)
  have HB1 := hid (bel_bel HB0.out HB0.out.size BD)
  have hpl1 := HP1.out.lt
  clear c0 c1 BD HP0 HB0 hpl
  generalize w1.drew = wy at *
  have c0 := HP1.out.c0
  go_wp2_with fail
  refine (new_ 32 wy (by omega) (by omega)).mono ?_
  rintro en w2 ⟨d, rfl, D2, B2⟩
  have P2 := HP1.out.below B2
  have c0 := P2.c0
  have f0 := P2.fz 0
  have P3 := P2.s0 (some ⟨d, 0, none⟩)
  have G3 := grown_set (grown_refl w2 (some w.heap.size)) 0 (.pointer (some ⟨d, 0, none⟩))
  have D3 := D2.turned G3 (fun x => by omega)
  have B3 := (bel_bel HB1.out HB1.out.size B2).grown G3 (bel_bel HB1.out HB1.out.size B2).size (fun q hq => by cases hq; omega)
  have s2 := B2.size
  have s3 := G3.size
  have hz3 : (w2.setCell ⟨w.heap.size, 0, none⟩ (.pointer (some ⟨d, 0, none⟩))).heap.size = w2.heap.size := by simp [World.setCell]
  have HP3 := hid P3
  have HD3 := hid D3
  have HB3 := hid B3
  clear P2 P3 G3 D2 D3 B2 B3 HP1 HB1
  go_wp2_with fail
  generalize w2.setCell ⟨w.heap.size, 0, none⟩ (.pointer (some ⟨d, 0, none⟩)) = w3 at *
  clear c0 f0
  refine (rnew_ 32 w3 (by omega) (by omega)).mono ?_
  rintro en w4 ⟨e, rfl, R4, B4⟩
  have P4 := HP3.out.below B4
  have c1 := P4.c1
  have f1 := P4.fz 1
  have s4 := B4.size
  have P5 := P4.s1 (some ⟨e, 0, none⟩)
  have G5 := grown_set (grown_refl w4 (some w.heap.size)) 1 (.pointer (some ⟨e, 0, none⟩))
  have hz5 : (w4.setCell ⟨w.heap.size, 1, none⟩ (.pointer (some ⟨e, 0, none⟩))).heap.size = w4.heap.size := by simp [World.setCell]
  have D5 := (HD3.out.below B4).turned G5 (fun x => by omega)
  have R5 := R4.keep (w' := w4.setCell ⟨w.heap.size, 1, none⟩ (.pointer (some ⟨e, 0, none⟩))) (R := fun b => w2.heap.size ≤ b ∧ b < (w4.setCell ⟨w.heap.size, 1, none⟩ (.pointer (some ⟨e, 0, none⟩))).heap.size) (fun b hb hl => G5.block b hl (by simp; omega)) (fun b hb _ => by omega)
  have B5 := (bel_bel HB3.out HB3.out.size B4).grown G5 (bel_bel HB3.out HB3.out.size B4).size (fun q hq => by cases hq; omega)
  have HPA := hid (pa_new P5 D5 R5 (by omega) s2)
  have HP5 := hid P5
  have HB5 := hid B5
  clear P4 P5 G5 D5 R4 R5 B4 B5 HP3 HD3 HB3
  go_wp2_with fail
  generalize w4.setCell ⟨w.heap.size, 1, none⟩ (.pointer (some ⟨e, 0, none⟩)) = w5 at *
  have d0 := HP5.out.c0
  have d1 := HP5.out.c1
  clear c1 f1
  go_wp2_with fail
  go_region_held (fun wx => wx.cell? ⟨w.heap.size, 0, none⟩ = some (.pointer (some ⟨d, 0, none⟩))) (go_keep) (fail)
  have BE : Below w5.heap.size w5 w5.drew := ⟨rfl, rfl, rfl, Nat.le_refl _, fun _ _ => rfl⟩
  have HPZ := hid (HPA.out.below BE)
  have HBZ := hid (bel_bel HB5.out HB5.out.size BE)
  clear BE
  generalize w5.drew = wz at *
  go_wp2_with fail
  go_ret2
  refine ⟨w.heap.size, d, e, 32, _, _, rfl, HPZ.out, fun b x => ?_, Nat.le_refl _, HBZ.out⟩
  rcases x with x | x
  · omega
  · omega
set_option maxHeartbeats 8000000 in
theorem made_b (n : Int) (k : Nat) (w : World) (h1 : n < 32) :
    Calls Try.prog 10 #[.int .i64 n, .pointer (some ⟨k, 0, none⟩)] w fun en w' => ∃ p d e m Q N, en = .returned (.tuple #[.pointer (some ⟨p, 0, none⟩), .bool true]) ∧ Pa w' p d e k (st0 m) Q N ∧ (∀ b, Q b ∨ N b → w.heap.size ≤ b) ∧ w.heap.size ≤ p ∧ Below w.heap.size w w' := by
  have i1 : n ≤ 64 := by omega
  have P0 : Pn (w.alloc (.cells #[.pointer none, .pointer none, .pointer (some ⟨k, 0, none⟩)] 56)) w.heap.size none none k := heap_alloc_new w _
  have B0 : Below w.heap.size w (w.alloc (.cells #[.pointer none, .pointer none, .pointer (some ⟨k, 0, none⟩)] 56)) := (Below.refl _ _).alloc (Nat.le_refl _) _
  have c0 := P0.c0
  have c1 := P0.c1
  have f0 := P0.fz 0
  have f1 := P0.fz 1
  have HP0 := hid P0
  have HB0 := hid B0
  have hpl := P0.lt
  clear P0 B0
  go_enter Try.func10, Try.ntmps10
  go_wp2_with fail
  generalize w.alloc (.cells #[.pointer none, .pointer none, .pointer (some ⟨k, 0, none⟩)] 56) = w1 at *
  refine (new_no n w1 (.inl h1)).mono ?_
  rintro en w2 ⟨rfl, hw⟩
  obtain rfl := hw.symm
  clear hw
  have Pa1 := HP0.out.s0 none
  have Ga := grown_set (grown_refl w1 (some w.heap.size)) 0 (.pointer none)
  have Ba := HB0.out.grown Ga HB0.out.size (fun q hq => by cases hq; omega)
  have HP2 := hid Pa1
  have HB2 := hid Ba
  clear Pa1 Ga Ba HP0 HB0
  go_wp2_with fail
  generalize w1.setCell ⟨w.heap.size, 0, none⟩ (.pointer none) = wa at *
  clear c0 f0 c1 f1
  refine (rnew_no n wa (.inl h1)).mono ?_
  rintro en w2 ⟨rfl, hw⟩
  obtain rfl := hw.symm
  clear hw
  have c1 := HP2.out.c1
  have f1 := HP2.out.fz 1
  have Pb1 := HP2.out.s1 none
  have Gb := grown_set (grown_refl wa (some w.heap.size)) 1 (.pointer none)
  have Bb := HB2.out.grown Gb HB2.out.size (fun q hq => by cases hq; omega)
  have HP0 := hid Pb1
  have HB0 := hid Bb
  clear Pb1 Gb Bb HP2 HB2
  go_wp2_with fail
  generalize wa.setCell ⟨w.heap.size, 1, none⟩ (.pointer none) = wb at *
  clear c1 f1
  have c0 := HP0.out.c0
  have c1 := HP0.out.c1
  go_region_held (fun wx => wx.cell? ⟨w.heap.size, 0, none⟩ = some (.pointer none) ∧ wx.cell? ⟨w.heap.size, 1, none⟩ = some (.pointer none)) (go_keep) (fail)
  have BD : Below wb.heap.size wb wb.drew := ⟨rfl, rfl, rfl, Nat.le_refl _, fun _ _ => rfl⟩
  have HP1 := hid (HP0.out.below BD)
  have HB1 := hid (bel_bel HB0.out HB0.out.size BD)
  have hpl1 := HP1.out.lt
  clear c0 c1 BD HP0 HB0 hpl
  generalize wb.drew = wy at *
  have c0 := HP1.out.c0
  go_wp2_with fail
  refine (new_ 32 wy (by omega) (by omega)).mono ?_
  rintro en w2 ⟨d, rfl, D2, B2⟩
  have P2 := HP1.out.below B2
  have c0 := P2.c0
  have f0 := P2.fz 0
  have P3 := P2.s0 (some ⟨d, 0, none⟩)
  have G3 := grown_set (grown_refl w2 (some w.heap.size)) 0 (.pointer (some ⟨d, 0, none⟩))
  have D3 := D2.turned G3 (fun x => by omega)
  have B3 := (bel_bel HB1.out HB1.out.size B2).grown G3 (bel_bel HB1.out HB1.out.size B2).size (fun q hq => by cases hq; omega)
  have s2 := B2.size
  have s3 := G3.size
  have hz3 : (w2.setCell ⟨w.heap.size, 0, none⟩ (.pointer (some ⟨d, 0, none⟩))).heap.size = w2.heap.size := by simp [World.setCell]
  have HP3 := hid P3
  have HD3 := hid D3
  have HB3 := hid B3
  clear P2 P3 G3 D2 D3 B2 B3 HP1 HB1
  go_wp2_with fail
  generalize w2.setCell ⟨w.heap.size, 0, none⟩ (.pointer (some ⟨d, 0, none⟩)) = w3 at *
  clear c0 f0
  refine (rnew_ 32 w3 (by omega) (by omega)).mono ?_
  rintro en w4 ⟨e, rfl, R4, B4⟩
  have P4 := HP3.out.below B4
  have c1 := P4.c1
  have f1 := P4.fz 1
  have s4 := B4.size
  have P5 := P4.s1 (some ⟨e, 0, none⟩)
  have G5 := grown_set (grown_refl w4 (some w.heap.size)) 1 (.pointer (some ⟨e, 0, none⟩))
  have hz5 : (w4.setCell ⟨w.heap.size, 1, none⟩ (.pointer (some ⟨e, 0, none⟩))).heap.size = w4.heap.size := by simp [World.setCell]
  have D5 := (HD3.out.below B4).turned G5 (fun x => by omega)
  have R5 := R4.keep (w' := w4.setCell ⟨w.heap.size, 1, none⟩ (.pointer (some ⟨e, 0, none⟩))) (R := fun b => w2.heap.size ≤ b ∧ b < (w4.setCell ⟨w.heap.size, 1, none⟩ (.pointer (some ⟨e, 0, none⟩))).heap.size) (fun b hb hl => G5.block b hl (by simp; omega)) (fun b hb _ => by omega)
  have B5 := (bel_bel HB3.out HB3.out.size B4).grown G5 (bel_bel HB3.out HB3.out.size B4).size (fun q hq => by cases hq; omega)
  have HPA := hid (pa_new P5 D5 R5 (by omega) s2)
  have HP5 := hid P5
  have HB5 := hid B5
  clear P4 P5 G5 D5 R4 R5 B4 B5 HP3 HD3 HB3
  go_wp2_with fail
  generalize w4.setCell ⟨w.heap.size, 1, none⟩ (.pointer (some ⟨e, 0, none⟩)) = w5 at *
  have d0 := HP5.out.c0
  have d1 := HP5.out.c1
  clear c1 f1
  go_wp2_with fail
  go_region_held (fun wx => wx.cell? ⟨w.heap.size, 0, none⟩ = some (.pointer (some ⟨d, 0, none⟩))) (go_keep) (fail)
  have BE : Below w5.heap.size w5 w5.drew := ⟨rfl, rfl, rfl, Nat.le_refl _, fun _ _ => rfl⟩
  have HPZ := hid (HPA.out.below BE)
  have HBZ := hid (bel_bel HB5.out HB5.out.size BE)
  clear BE
  generalize w5.drew = wz at *
  go_wp2_with fail
  go_ret2
  refine ⟨w.heap.size, d, e, 32, _, _, rfl, HPZ.out, fun b x => ?_, Nat.le_refl _, HBZ.out⟩
  rcases x with x | x
  · omega
  · omega
theorem made_ (n : Int) (k : Nat) (w : World) :
    Calls Try.prog 10 #[.int .i64 n, .pointer (some ⟨k, 0, none⟩)] w fun en w' => ∃ p d e m Q N, en = .returned (.tuple #[.pointer (some ⟨p, 0, none⟩), .bool true]) ∧ Pa w' p d e k (st0 m) Q N ∧ (∀ b, Q b ∨ N b → w.heap.size ≤ b) ∧ w.heap.size ≤ p ∧ Below w.heap.size w w' := by
  by_cases h1 : n < 32
  · exact made_b n k w h1
  by_cases h2 : 64 < n
  · exact made_c n k w h2
  obtain ⟨m, rfl⟩ : ∃ m : Nat, n = m := ⟨n.toNat, by omega⟩
  exact made_a m k w (by omega) (by omega)
end Go.Proofs.Ythjfgdldclhbhaa
