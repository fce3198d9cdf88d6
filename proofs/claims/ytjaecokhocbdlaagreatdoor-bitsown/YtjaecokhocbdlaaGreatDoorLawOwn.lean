import Derived.Test.YtjaecokhocbdlaaGreatDoorOwnDefs
namespace Go.Proofs.YtjaecokhocbdlaaGreatDoor
open Go.RowKit
set_option linter.unusedVariables false

/-- The state at a round. -/
structure Rn (w0 w : World) (k r i M n : Nat) (zs : List Int) (N : Ent) (E : Nat → Ent) (L : Ent) : Prop where
  ow : Ow w0 w k r (4 * i) E L (zs.drop M) M
  ln : L.n = n - M
  nok : N.Ok w
  nbs : Bs w N.a N.n zs
  nl : ∀ b x, N.In b x → w0.heap.size ≤ b
  dn : ∀ l, l < 4 * i → ∀ b x, (E l).In b x → ¬ N.In b x
  dl : ∀ b x, N.In b x → ¬ L.In b x
/-- A list in a block of its own. -/
theorem row_ok {w : World} {g n : Nat} {ys : List Int} (h : Row w g ys) (hl : ys.length = n) (hn : n ≤ 5000) : Ent.Ok w ⟨some ⟨g, 0, none⟩, n, n⟩ :=
  ⟨Nat.le_refl _, by show n ≤ maxLen; unfold maxLen; omega, by show n ≤ _; omega, fun e => (by cases e), .inr ⟨g, 0, _, rfl, h, by show 0 + n ≤ _; simp [cells_length, hl]⟩⟩
theorem Rn.below {w0 w w' : World} {k r i M n : Nat} {zs : List Int} {N : Ent} {E : Nat → Ent} {L : Ent} (h : Rn w0 w k r i M n zs N E L) (hb : Below w.heap.size w w') : Rn w0 w' k r i M n zs N E L :=
  ⟨h.ow.below hb, h.ln, h.nok.wz (p := fun _ _ => False) (.ofWk (.ofBelow hb)), h.nbs.below hb, h.nl, h.dn, h.dl⟩
theorem ok_below {w w' : World} {e : Ent} (h : e.Ok w) (hb : Below w.heap.size w w') : e.Ok w' := h.wz (p := fun _ _ => False) (.ofWk (.ofBelow hb))
theorem bs_cut {w : World} {a : Option Addr} {n m : Nat} {ys zs : List Int} (h : Bs w a n ys) (hm : m ≤ n) (hz : ys.take m = zs) : Bs w a m zs := by
  rw [← hz]; exact (nx_bs (L := ⟨a, n, n⟩) h (Nat.le_refl _) hm).2
/-- What lies in a part of the bytes that came in. -/
theorem bs_part {w : World} {a : Option Addr} {n c m p : Nat} {zs : List Int} (h : Bs w a n zs) (hnc : n ≤ c) (hp : m + p ≤ n) : Bs w (if c = m then a else Option.map (fun x => x.add m) a) p ((zs.drop m).take p) := by
  obtain ⟨h1, h2, h3⟩ := h
  refine ⟨by simp; omega, fun z hz => h2 z (List.mem_of_mem_drop (List.mem_of_mem_take hz)), ?_⟩
  by_cases h0 : p = 0
  · exact .inl h0
  rw [if_neg (by omega)]
  rcases h3 with h3 | ⟨b, off, rfl, hc⟩
  · omega
  · refine .inr ⟨b, off + m, by simp [Addr.add], fun i hi => ?_⟩
    rw [Nat.add_assoc, hc (m + i) (by omega)]
    simp only [List.getD, List.getElem?_take, if_pos hi, List.getElem?_drop]
theorem row_in {g n b x : Nat} (h : Ent.In ⟨some ⟨g, 0, none⟩, n, n⟩ b x) : b = g := by
  obtain ⟨off, h1, _⟩ := h
  simp at h1
  exact h1.1.symm
theorem lies_ok {w : World} {g n c : Nat} {a : Option Addr} {zs : List Int} (h : Lies w g a n c zs) (hn : n ≤ 5000) : Ent.Ok w ⟨a, n, c⟩ ∧ ((a = none ∧ c = 0) ∨ ∃ b off, a = some ⟨b, off, none⟩) ∧ ∀ b x, Ent.In ⟨a, n, c⟩ b x → b = g := by
  obtain ⟨h1, h2, h3, h4, h5⟩ := h
  rcases h5 with ⟨rfl, rfl, rfl⟩ | ⟨off, cur, rfl, hg, h6, _⟩
  · exact ⟨⟨Nat.le_refl _, by show 0 ≤ maxLen; omega, by show 0 ≤ _; omega, fun _ => rfl, .inl rfl⟩, .inl ⟨rfl, rfl⟩, fun b x ⟨_, e, _⟩ => by simp at e⟩
  · exact ⟨⟨h2, h3, by show n ≤ _; omega, fun e => (by cases e), .inr ⟨g, off, cur, rfl, hg, h6⟩⟩, .inr ⟨_, _, rfl⟩, fun b x ⟨_, e, _⟩ => by simp at e; exact e.1.symm⟩
theorem built_book : Tryz.prog.built 44 [] = some (bookCells 0 (.slice none 0 0) (.slice none 0 0) (.slice none 0 0)) := by kernel_rfl
theorem wpList_book {ops : Array Oper} {rest : List Oper} {o : Oper} {a : Act} {w : World} {Q : Exit → Act → World → Prop} (hg : o.guard = none) (ho : o.op = .build 44 #[])
    (h : wpList Tryz.prog ops Q rest (a.put o.dst (.agg (bookCells 0 (.slice none 0 0) (.slice none 0 0) (.slice none 0 0)))) w) : wpList Tryz.prog ops Q (o :: rest) a w := by
  exact wpList_build hg 44 #[] ho (by simp [built_book]) (by simpa [built_book] using h)
theorem new_book (w : World) : Bk (w.alloc (.cells (bookCells 0 (.slice none 0 0) (.slice none 0 0) (.slice none 0 0)) 44)) w.heap.size 0 (.slice none 0 0) (.slice none 0 0) (.slice none 0 0) := heap_alloc_new w _

set_option maxRecDepth 100000 in
set_option maxHeartbeats 2000000 in
theorem bitsOwn_ (a : Option Addr) (n c : Nat) (zs : List Int) (x : Int) (w : World) (hb : Bs w a n zs) (hnc : n ≤ c) (hnm : c ≤ maxLen) (h0 : 0 ≤ x) (h1 : x ≤ 18446744073709551615) :
    Calls Tryz.prog 3 #[.slice a n c, .int .u64 x] w fun en w' => en = .returned (.bool true) ∧ Below w.heap.size w w' := by
  unfold maxLen at hnm
  by_cases hn : n ≤ 2000
  · go_enter Tryz.func3, Tryz.ntmps3
    go_wp2_with fail
    refine (first_ w).mono ?_
    rintro en w1 ⟨rfl, B1⟩
    have i0 : ¬ (2000 : Int) < (n : Int) := by omega
    have S1 := B1.size
    go_wp2_with (refine wpList_book rfl rfl ?_)
    generalize hbc : bookCells 0 (.slice none 0 0) (.slice none 0 0) (.slice none 0 0) = bc at *
    have NB : Hid (Bk (w1.alloc (.cells bc 44)) w1.heap.size 0 (.slice none 0 0) (.slice none 0 0) (.slice none 0 0)) := by rw [← hbc]; exact new_book w1
    have B2 : Below w.heap.size w (w1.alloc (.cells bc 44)) := B1.alloc S1 _
    have S2 : w1.heap.size < (w1.alloc (.cells bc 44)).heap.size := by simp
    clear hbc B1
    generalize hk : w1.heap.size = k at *
    generalize hw2 : w1.alloc (.cells bc 44) = w2 at *
    clear hw2 hk
    refine (refBytes a n c zs w2 (hb.below B2) (by omega)).mono ?_
    rintro en w3 ⟨v, rfl, hv, B3⟩
    obtain ⟨la, lc, rfl, hok, hbs, hlow⟩ := own_ent hv hb.2.1 (by omega)
    have S3 := B3.size
    go_wp2_with fail
    refine (newReader la n lc zs w3 hbs hok.2.2.2.1 (by omega) hok.1).mono ?_
    rintro en w4 ⟨r, g, rfl, hR, hr, hg, _, hgr⟩
    have B4 : Below w3.heap.size w3 w4 := below_of_grown hgr
    obtain ⟨_, a3, n3, c3, hrdr, hlies⟩ := hR
    obtain rfl : n3 = n := by rw [← hlies.1, hb.1]
    obtain ⟨lk, lf, lin⟩ := lies_ok hlies (by omega)
    have S4 := B4.size
    have B5 : Below w.heap.size w w4 := bel_bel (bel_bel B2 B2.size B3) (by have := B2.size; omega) B4
    have R0 : Hid (Rn w w4 k r 0 0 n3 zs ⟨la, n3, lc⟩ (fun _ => ⟨none, 0, 0⟩) ⟨a3, n3, c3⟩) :=
      ⟨⟨⟨fun _ => ⟨none, 0, 0⟩, .slice none 0 0, .slice none 0 0, (NB.out.at (B3.block k S2)).at (B4.block k (by omega)), own_nil _ _ _, own_nil _ _ _, fun q hq => by simp [Value.ownBlock] at hq, fun i hi => by omega, fun i hi => by omega, fun i j hi => by omega⟩,
        ⟨S1, by have := B2.size; omega⟩, fun l hl => by omega, hrdr, lf, lk, by simpa using hlies.bs, fun b x hx => by have := lin b x hx; have := B2.size; omega, fun l hl => by omega, B5⟩,
        by simp, ok_below hok B4, hbs.below B4, fun b x hx => by have := hlow b x hx; have := B2.size; omega, fun l hl => by omega, fun b x hx hx' => by have := lin b x hx'; have := ok_lt hok hx; omega⟩
    obtain ⟨q, hq1, hq2, hq3⟩ : ∃ q : Nat, (n3 : Int).tdiv 6 = (q : Int) ∧ 6 * q ≤ n3 ∧ n3 ≤ 6 * q + 5 := ⟨n3 / 6, rfl, by omega, by omega⟩
    clear hrdr hlies lk lf lin NB hok hbs hlow hv B3 B4 B5 B2 S1 S2 S3 S4 hr hg hgr
    go_wp2_with fail
    go_loopw [9] (fun v wr => ∃ i : Nat, i ≤ 6 ∧ v = .int .i64 i ∧ ∃ E L, Rn w wr k r i (i * q) n3 zs ⟨la, n3, lc⟩ E L) (fun v _ => 6 - (intOf v).toNat)
    case atStart => exact ⟨0, by omega, rfl, _, _, by simpa using R0.out⟩
    case round =>
      obtain ⟨i, hi, rfl, E, L, hR⟩ := hrel
      clear R0
      by_cases hlt : i < 6
      · have i1 : (i : Int) < 6 := by omega
        obtain ⟨M, hM⟩ : ∃ M : Nat, M = i * q := ⟨_, rfl⟩
        rw [← hM] at hR
        have hMi : (i : Int) * (q : Int) = (M : Int) := by rw [hM, Int.natCast_mul]
        have HM1 : Hid ((i + 1) * q = M + q) := by show _ = _; rw [hM, Nat.succ_mul]
        have hMq : M + q ≤ n3 := by have e := HM1.out; have := Nat.mul_le_mul_right q (show i + 1 ≤ 6 by omega); omega
        clear hM
        have HWa := hid (wide_ (i : Int))
        have HWb := hid (wide_ ((i : Int) + 1))
        have hW1 := wd_is (i : Int)
        have hW2 := wd_is ((i : Int) + 1)
        generalize wd (i : Int) = W1 at *
        generalize wd ((i : Int) + 1) = W2 at *
        have HI1 := hid hW1
        have HI2 := hid hW2
        have w1b : 1 ≤ W1 ∧ W1 ≤ 8 := by unfold IsW at hW1; omega
        have w2b : 1 ≤ W2 ∧ W2 ≤ 8 := by unfold IsW at hW2; omega
        clear hW1 hW2
        have hbd := hR.ow.bound
        have gw := hR.ow.fr.size
        have hbn : ∀ b x, Ent.In ⟨la, n3, lc⟩ b x → b < wr.heap.size := fun b x hx => ok_lt hR.nok hx
        have zl : zs.length = n3 := hb.1
        go_wp2_with fail
        refine (HWa.out wr).mono ?_
        rintro en w' ⟨rfl, hw⟩
        obtain rfl := hw.symm
        clear hw
        go_wp2_with fail
        refine (lput W1 HI1.out la n3 lc zs x wr hR.nbs (by omega) h0 h1).mono ?_
        rintro en w5 ⟨rfl, r1, g1⟩
        have b5 := below_of_grown g1
        have R5 := hR.below b5
        have s5 : wr.heap.size < w5.heap.size := r1.lt
        have x1 := put_bs r1 zl hb.2.1
        have o1 := row_ok (n := n3 + W1) r1 (by simp [be_length, zl]) (by omega)
        generalize hg1 : wr.heap.size = G1 at *
        clear hg1 hR g1 b5 r1
        go_wp2_with fail
        refine (HWb.out w5).mono ?_
        rintro en w' ⟨rfl, hw⟩
        obtain rfl := hw.symm
        clear hw
        go_wp2_with fail
        refine (lput W2 HI2.out (some ⟨G1, 0, none⟩) (n3 + W1) (n3 + W1) (zs ++ be W1 x) x w5 x1 (by omega) h0 h1).mono ?_
        rintro en w6 ⟨rfl, r2, g2⟩
        have b6 := below_of_grown g2
        have R6 := R5.below b6
        have s6 : w5.heap.size < w6.heap.size := r2.lt
        have x2 := put_bs r2 x1.1 x1.2.1
        have o2 := row_ok (n := n3 + W1 + W2) r2 (by rw [List.length_append, x1.1, be_length]) (by omega)
        have y1 := x1.below b6
        have p1 := ok_below o1 b6
        generalize hg2 : w5.heap.size = G2 at *
        clear hg2 R5 g2 b6 r2 x1 o1
        go_wp2_with fail
        refine (HWa.out w6).mono ?_
        rintro en w' ⟨rfl, hw⟩
        obtain rfl := hw.symm
        clear hw
        go_wp2_with fail
        refine (lput W1 HI1.out la n3 lc zs x w6 R6.nbs (by omega) h0 h1).mono ?_
        rintro en w7 ⟨rfl, r3, g3⟩
        have b7 := below_of_grown g3
        have R7 := R6.below b7
        have s7 : w6.heap.size < w7.heap.size := r3.lt
        have x3 := put_bs r3 zl hb.2.1
        have o3 := row_ok (n := n3 + W1) r3 (by simp [be_length, zl]) (by omega)
        have x1 := y1.below b7
        have o1 := ok_below p1 b7
        have y2 := x2.below b7
        have p2 := ok_below o2 b7
        generalize hg3 : w6.heap.size = G3 at *
        clear hg3 R6 g3 b7 r3 x2 o2 y1 p1
        have i2 : ¬ (n3 : Int) + (W1 : Int) + (W2 : Int) < (n3 : Int) + (W1 : Int) := by omega
        go_wp2_with fail
        refine (same_yes _ _ _ _ _ _ (zs ++ be W1 x) w7 x1 x3 (by omega) (by omega)).mono ?_
        rintro en w8 ⟨rfl, hd⟩
        have R8 := R7.below hd.below
        have z1 := x1.drawn hd
        have q1 := ok_below o1 hd.below
        have z2 := y2.drawn hd
        have q2 := ok_below p2 hd.below
        have z3 := x3.drawn hd
        have q3 := ok_below o3 hd.below
        have zc := bs_cut z2 (m := n3 + W1) (zs := zs ++ be W1 x) (by omega) (by rw [List.take_append_of_le_length (by rw [z1.1]; exact Nat.le_refl _), List.take_of_length_le (by rw [z1.1]; exact Nat.le_refl _)])
        clear x1 o1 y2 p2 x3 o3 R7 hd
        go_wp2_with fail
        refine (same_yes _ _ _ _ _ _ (zs ++ be W1 x) w8 zc z1 (by omega) (by omega)).mono ?_
        rintro en w9 ⟨rfl, hd⟩
        have R9 := R8.below hd.below
        have x1 := z1.drawn hd
        have o1 := ok_below q1 hd.below
        have x2 := z2.drawn hd
        have o2 := ok_below q2 hd.below
        have x3 := z3.drawn hd
        have o3 := ok_below q3 hd.below
        clear z1 q1 z2 q2 z3 q3 zc R8 hd
        go_wp2_with fail
        refine (ow_tell R9.ow ⟨some ⟨G1, 0, none⟩, n3 + W1, n3 + W1⟩ _ o1 (by show n3 + W1 ≤ 5000; omega) x1 (fun l hl b x hx hx' => by have := hbd.1 l hl b x hx; have := row_in hx'; omega) (fun b x hx hx' => by have := hbd.2 b x hx'; have := row_in hx; omega) (fun b x hx => by have := row_in hx; omega) (by omega)).mono ?_
        rintro en wa ⟨rfl, Wa, hz⟩
        have nok := R9.nok.wz hz
        have nbs := bs_wz R9.nbs R9.nok hz fun _ _ _ h => h
        have nl := R9.nl
        have dn := R9.dn
        have dl := R9.dl
        have ln := R9.ln
        have z2 := bs_wz (e := ⟨some ⟨G2, 0, none⟩, n3 + W1 + W2, n3 + W1 + W2⟩) x2 o2 hz fun _ _ _ h => h
        have q2 := o2.wz hz
        have z3 := bs_wz (e := ⟨some ⟨G3, 0, none⟩, n3 + W1, n3 + W1⟩) x3 o3 hz fun _ _ _ h => h
        have q3 := o3.wz hz
        have bdE : ∀ l, l < 4 * i + 1 → ∀ b x, (upd E (4 * i) ⟨some ⟨G1, 0, none⟩, n3 + W1, n3 + W1⟩ l).In b x → b < G2 := fun l hl b x hx => by
          by_cases e : l = 4 * i
          · rw [e, upd_same] at hx; have := row_in hx; omega
          · rw [upd_other _ e] at hx; have := hbd.1 l (by omega) b x hx; omega
        have dnE : ∀ l, l < 4 * i + 1 → ∀ b x, (upd E (4 * i) ⟨some ⟨G1, 0, none⟩, n3 + W1, n3 + W1⟩ l).In b x → ¬ Ent.In ⟨la, n3, lc⟩ b x := fun l hl b x hx hx' => by
          by_cases e : l = 4 * i
          · rw [e, upd_same] at hx; have := row_in hx; have := hbn b x hx'; omega
          · rw [upd_other _ e] at hx; exact dn l (by omega) b x hx hx'
        clear R9 hz x1 o1 x2 o2 x3 o3 dn
        generalize upd E (4 * i) ⟨some ⟨G1, 0, none⟩, n3 + W1, n3 + W1⟩ = E1 at *
        go_wp2_with fail
        refine (ow_tell Wa ⟨some ⟨G2, 0, none⟩, n3 + W1 + W2, n3 + W1 + W2⟩ _ q2 (by show n3 + W1 + W2 ≤ 5000; omega) z2 (fun l hl b x hx hx' => by have := bdE l hl b x hx; have := row_in hx'; omega) (fun b x hx hx' => by have := hbd.2 b x hx'; have := row_in hx; omega) (fun b x hx => by have := row_in hx; omega) (by omega)).mono ?_
        rintro en wb ⟨rfl, Wb, hz⟩
        have nokb := nok.wz hz
        have nbsb := bs_wz nbs nok hz fun _ _ _ h => h
        have x3 := bs_wz (e := ⟨some ⟨G3, 0, none⟩, n3 + W1, n3 + W1⟩) z3 q3 hz fun _ _ _ h => h
        have o3 := q3.wz hz
        have bdF : ∀ l, l < 4 * i + 1 + 1 → ∀ b x, (upd E1 (4 * i + 1) ⟨some ⟨G2, 0, none⟩, n3 + W1 + W2, n3 + W1 + W2⟩ l).In b x → b < G3 := fun l hl b x hx => by
          by_cases e : l = 4 * i + 1
          · rw [e, upd_same] at hx; have := row_in hx; omega
          · rw [upd_other _ e] at hx; have := bdE l (by omega) b x hx; omega
        have dnF : ∀ l, l < 4 * i + 1 + 1 → ∀ b x, (upd E1 (4 * i + 1) ⟨some ⟨G2, 0, none⟩, n3 + W1 + W2, n3 + W1 + W2⟩ l).In b x → ¬ Ent.In ⟨la, n3, lc⟩ b x := fun l hl b x hx hx' => by
          by_cases e : l = 4 * i + 1
          · rw [e, upd_same] at hx; have := row_in hx; have := hbn b x hx'; omega
          · rw [upd_other _ e] at hx; exact dnE l (by omega) b x hx hx'
        clear Wa hz z2 q2 z3 q3 dnE bdE nok nbs
        generalize upd E1 (4 * i + 1) ⟨some ⟨G2, 0, none⟩, n3 + W1 + W2, n3 + W1 + W2⟩ = E2 at *
        go_wp2_with fail
        refine (ow_tell Wb ⟨some ⟨G3, 0, none⟩, n3 + W1, n3 + W1⟩ _ o3 (by show n3 + W1 ≤ 5000; omega) x3 (fun l hl b x hx hx' => by have := bdF l hl b x hx; have := row_in hx'; omega) (fun b x hx hx' => by have := hbd.2 b x hx'; have := row_in hx; omega) (fun b x hx => by have := row_in hx; omega) (by omega)).mono ?_
        rintro en wc ⟨rfl, Wc, hz⟩
        have nok := nokb.wz hz
        have nbs := bs_wz nbsb nokb hz fun _ _ _ h => h
        have dnG : ∀ l, l < 4 * i + 1 + 1 + 1 → ∀ b x, (upd E2 (4 * i + 1 + 1) ⟨some ⟨G3, 0, none⟩, n3 + W1, n3 + W1⟩ l).In b x → ¬ Ent.In ⟨la, n3, lc⟩ b x := fun l hl b x hx hx' => by
          by_cases e : l = 4 * i + 1 + 1
          · rw [e, upd_same] at hx; have := row_in hx; have := hbn b x hx'; omega
          · rw [upd_other _ e] at hx; exact dnF l (by omega) b x hx hx'
        clear Wb hz x3 o3 dnF bdF nokb nbsb hbd hbn
        generalize upd E2 (4 * i + 1 + 1) ⟨some ⟨G3, 0, none⟩, n3 + W1, n3 + W1⟩ = E3 at *
        go_wp2_with fail
        refine (ow_read Wc q (by rw [ln]; omega) (by omega) (by omega)).mono ?_
        rintro en wd' ⟨rfl, Wd, qo, qb, qin, qdj, ho⟩
        have lqc : q ≤ L.c := by have := Wc.lok.1; omega
        have hin := nx_in (w := wc) (m := q) Wc.lf lqc
        have cdl := Wc.dl
        have cll := Wc.ll
        have nokb := nok.only Wc.rd ho
        have nbsb := bs_only nbs nok Wc.rd ho
        obtain ⟨a', ha', hbp⟩ : ∃ a', (if c = M then a else Option.map (fun x => x.add M) a) = a' ∧ Bs wd' a' q ((zs.drop M).take q) := ⟨_, rfl, bs_part (hb.below Wd.fr) hnc hMq⟩
        have i5 : (M : Int) + (q : Int) ≤ (c : Int) := by omega
        have i6 : (M : Int) ≤ (M : Int) + (q : Int) := by omega
        have hwr : IntKind.i64.wrap ((M : Int) + (q : Int)) = (M : Int) + (q : Int) := by rw [IntKind.wrap_i64]; omega
        have hwq : ((M : Int) + (q : Int)).toNat = M + q := by omega
        clear Wc ho nok nbs
        generalize hL' : (⟨nx L.a L.c q, L.n - q, L.c - q⟩ : Ent) = L' at *
        have hLn : L'.n = n3 - (M + q) := by rw [← hL']; show L.n - q = _; rw [ln]; omega
        clear hL'
        go_wp2_with fail
        refine (same_yes _ _ _ _ _ _ ((zs.drop M).take q) wd' qb hbp (by omega) (by omega)).mono ?_
        rintro en we ⟨rfl, hd⟩
        have We := Wd.below hd.below
        have nok := ok_below nokb hd.below
        have nbs := nbsb.drawn hd
        have qo' := ok_below qo hd.below
        have qb' := qb.drawn hd
        clear Wd nokb nbsb qo qb hbp hd hwr hwq ha'
        go_wp2_with fail
        refine (ow_tell We ⟨L.a, q, q⟩ _ qo' (by show q ≤ 5000; omega) qb' (fun l hl b x hx hx' => cdl l hl b x hx (qin b x hx')) qdj (fun b x hx => cll b x (qin b x hx)) (by omega)).mono ?_
        rintro en wf ⟨rfl, Wf, hz⟩
        have HF : Hid (Rn w wf k r (i + 1) ((i + 1) * q) n3 zs ⟨la, n3, lc⟩ (upd E3 (4 * i + 1 + 1 + 1) ⟨L.a, q, q⟩) L') := by
          refine ⟨?_, by rw [HM1.out]; exact hLn, nok.wz hz, bs_wz nbs nok hz (fun _ _ _ h => h), nl, fun l hl b x hx hx' => ?_, fun b x hx hx' => dl b x hx (hin b x hx').1⟩
          · rw [HM1.out, show 4 * (i + 1) = 4 * i + 1 + 1 + 1 + 1 from by omega, ← List.drop_drop, Int.natCast_add]; exact Wf
          · by_cases e : l = 4 * i + 1 + 1 + 1
            · rw [e, upd_same] at hx; exact dl b x hx' (qin b x hx)
            · rw [upd_other _ e] at hx; exact dnG l (by omega) b x hx hx'
        clear We Wf hz nok nbs qo' qb' qin qdj hin cdl cll dnG dl
        go_wp2_with fail
        go_roundw
        case rel => exact ⟨i + 1, by omega, by go_num, _, _, HF.out⟩
        case measure => simp [intOf]; omega
      · obtain rfl : i = 6 := by omega
        obtain ⟨M6, hM6⟩ : ∃ M6 : Nat, M6 = 6 * q := ⟨_, rfl⟩
        rw [← hM6] at hR
        have hMi : (q : Int) * 6 = (M6 : Int) := by omega
        have hMn : M6 ≤ n3 := by omega
        have hM7 : M6 ≤ 2000 := by omega
        clear hM6
        have zl : zs.length = n3 := hb.1
        go_wp2_with fail
        refine (ow_tell hR.ow ⟨la, n3, lc⟩ zs hR.nok (by show n3 ≤ 5000; omega) hR.nbs hR.dn hR.dl hR.nl (by omega)).mono ?_
        rintro en wa ⟨rfl, Wa, _⟩
        clear hR
        obtain ⟨G, v2, v3, bo⟩ := Wa.bo
        generalize upd E (4 * 6) ⟨la, n3, lc⟩ = E' at *
        go_wp2_with fail
        refine (finish_ k w.heap.size _ E' G v2 v3 wa bo.bk bo.t2 bo.t3 (fun i hi => (bo.g i hi).2) bo.e bo.d (by omega) ⟨Wa.kl.1, Wa.fr.size, Wa.el⟩).mono ?_
        rintro en wb ⟨rfl, hz, hs⟩
        have rd : Rdr wb r L.a L.n L.c M6 0 := by
          have q := Wa.rd
          have qr := Wa.rd.lt
          unfold Rdr at *
          rw [hz.same r qr (fun j ⟨l, hl, hj⟩ => by obtain ⟨cur, hc⟩ := ok_in (bo.e l hl).1 hj; rw [q] at hc; simp at hc) (fun cur fr e => by rw [q] at e; simp at e) (fun cur fr e => by rw [q] at e; simp at e)]; exact q
        have lok := Wa.lok.wz hz
        have lbs := bs_wz Wa.lbs Wa.lok hz fun b x he ⟨l, hl, hi⟩ => Wa.dl l hl b x hi (he.mem Wa.lok.1)
        have Bb : Below w.heap.size w wb := ⟨hz.os.trans Wa.fr.os, hz.tape.trans Wa.fr.tape, hz.output.trans Wa.fr.output, Nat.le_trans Wa.fr.size hz.size, fun b hb => (hs b hb).trans (Wa.fr.block b hb)⟩
        have hLb : L.n ≤ 100000 := lok.2.2.1
        have lf := Wa.lf
        have kr := Wa.kl.2
        clear Wa bo hz hs
        go_wp2_with fail
        refine (left_ r L.n L.c L.a M6 0 wb rd).mono ?_
        rintro en w' ⟨rfl, hw⟩
        obtain rfl := hw.symm
        clear hw
        go_wp2_with fail
        refine (bytes_raw r L.n L.c L.n L.a M6 wb rd lf (Nat.le_refl _) lok.1 lok.2.1 (by omega) (by omega) (by omega)).mono ?_
        rintro en wc ⟨rfl, _, ho⟩
        have lbs' := bs_only lbs lok rd ho
        have Bc : Below w.heap.size w wc := bel_only Bb kr ho
        obtain ⟨a', ha', hbp⟩ : ∃ a', (if c = M6 then a else Option.map (fun x => x.add M6) a) = a' ∧ Bs wc a' (n3 - M6) (zs.drop M6) := ⟨_, rfl, by
          have h := bs_part (m := M6) (p := n3 - M6) (hb.below Bc) hnc (by omega)
          rwa [List.take_of_length_le (by rw [List.length_drop, zl]; exact Nat.le_refl _)] at h⟩
        have i5 : (M6 : Int) ≤ (n3 : Int) := by omega
        clear rd lok lbs lf ho Bb
        generalize L.n = ln' at *
        generalize L.a = la' at *
        go_wp2_with fail
        refine (same_yes _ _ _ _ _ _ (zs.drop M6) wc lbs' hbp (by omega) (by omega)).mono ?_
        rintro en wd' ⟨rfl, hd⟩
        have Bd := bel_bel Bc Bc.size hd.below
        clear lbs' hbp hd Bc ha'
        go_wp2_with fail
        refine (first_ wd').mono ?_
        rintro en we ⟨rfl, B⟩
        have Be := bel_bel Bd Bd.size B
        clear Bd B
        go_wp2_with fail
        go_ret
        exact ⟨rfl, Be⟩
  · go_enter Tryz.func3, Tryz.ntmps3
    go_wp2_with fail
    refine (first_ w).mono ?_
    rintro en w1 ⟨rfl, B1⟩
    have i0 : (2000 : Int) < (n : Int) := by omega
    go_wp2_with fail
    go_ret
    exact ⟨rfl, B1⟩
end Go.Proofs.YtjaecokhocbdlaaGreatDoor
