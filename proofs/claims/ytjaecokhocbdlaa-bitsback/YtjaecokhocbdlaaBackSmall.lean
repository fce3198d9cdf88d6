import Derived.Test.YtjaecokhocbdlaaBackDefs
namespace Go.Proofs.Ytjaecokhocbdlaa
open Go.RowKit
set_option linter.unusedVariables false

set_option maxRecDepth 100000 in
set_option maxHeartbeats 4000000 in
theorem bitsBackSmall_ (a : Option Addr) (n c : Nat) (cut : Int) (X V : Nat → Int) (w : World) (hnc : n ≤ c) (hnm : c ≤ maxLen) (hs : IsNums w a n X V) (hn : n ≤ 200) :
    Calls Try.prog 5 #[.slice a n c, .int .i64 cut] w fun en w' => en = .returned (.bool true) ∧ Below w.heap.size w w' := by
  unfold maxLen at hnm
  obtain ⟨hX, hs⟩ := hs
  obtain ⟨i, hi, hz0, hz1, hz2⟩ := info_parts info3
  go_enter Try.func5, Try.ntmps5
  go_wp2_with fail
  refine (first_ w).mono ?_
  rintro en w1 ⟨rfl, B1⟩
  go_wp2_with fail
  go_loopw [6, 7, 8] (fun v e i wr => ∃ k a6 : _, ∃ L : Nat, k ≤ n ∧ i = .int .i64 (k : Nat) ∧ Hid (L = En (fun i => wd (V i)) k) ∧ v = .slice a6 L L ∧ Bs wr a6 L (enc X (fun i => wd (V i)) k) ∧ (a6 = none → L = 0) ∧ wr.ownsRow w.heap.size 3 1 e k (ends (fun i => wd (V i)) k) ∧ Below w.heap.size w wr) (fun _ _ i _ => n - (intOf i).toNat)
  case atStart => exact ⟨0, none, 0, by omega, rfl, rfl, rfl, ⟨rfl, by simp [enc], .inl rfl⟩, fun _ => rfl, World.ownsRow_nil _ _ _ _, B1⟩
  case round =>
    obtain ⟨k, a6, L, hk, rfl, hL, rfl, hbs, ha6, hown, hbl⟩ := hrel
    clear B1
    have hF8 : ∀ i, wd (V i) ≤ 8 := fun i => by rcases wd_is (V i) with h | h | h | h <;> omega
    have hLb : L ≤ 1600 := by have := hL.out; have := En_le (fun i => wd (V i)) hF8 k; omega
    have Sz := hbl.size
    by_cases hlt : k < n
    · rcases hs with hs | ⟨b, off, rfl, hc⟩
      · omega
      obtain ⟨e0, e1⟩ := hc k (by omega)
      have q0 := (hbl.cell (World.block_lt_of_cell? w _ e0)).trans e0
      have q1 := (hbl.cell (World.block_lt_of_cell? w _ e1)).trans e1
      have hxk := hX k
      have hW := wd_is (V k)
      have i1 : (k : Int) < (n : Int) := by omega
      have hbd := bs_drew hbs
      clear hc e0 e1
      go_wp2_with fail
      go_region_held (fun wx => wx.cell? ⟨b, off + k * 2, none⟩ = some (.int .u64 (X k)) ∧ wx.cell? ⟨b, off + k * 2 + 1, none⟩ = some (.int .i64 (V k))) (go_keep) (first
        | (go_at_call 16; refine (wide_ (V k) _).mono ?_; rintro e w' ⟨rfl, hw⟩; obtain rfl := hw.symm; clear hw)
        | (go_at_call 15; refine (lput (wd (V k)) hW a6 L L (enc X (fun i => wd (V i)) k) (X k) _ hbd (by omega) hxk.1 hxk.2).mono ?_; rintro e w4 ⟨rfl, hr4, hg4⟩; have y0 := hg4.cell q0 (by simp); have y1 := hg4.cell q1 (by simp)))
      have B4 : Below w.heap.size w w4 := bel_grow hbl.drew Sz hg4
      have S4 := B4.size
      have own4 := World.ownsRow.kept (w := wr) hown ⟨hg4.os, hg4.tape, hg4.output, hg4.size, hg4.block⟩ (by cases Value.ownBlock _ <;> simp)
      have b4 : Bs w4 (some ⟨wr.heap.size, 0, none⟩) (L + wd (V k)) (enc X (fun i => wd (V i)) (k + 1)) := put_bs hr4 ((enc_length _ _ _).trans hL.out.symm) (enc_byte _ _ _)
      have HE : Hid (L + wd (V k) = En (fun i => wd (V i)) (k + 1)) := by show _ = _; rw [hL.out]; rfl
      have hW8 := hF8 k
      have hlt7 := hown.lt
      clear hr4 hg4 y0 y1 hown hbl hbs hbd q0 q1
      generalize wd (V k) = W at *
      go_wp2_with (at_builtin; refine wpList_append_own _ rfl _ _ 38 rfl w.heap.size 3 i (.int .i64 0) 1 8 Try.underlying38 hi hz0 hz1 hz2 rfl (by decide) _ _ _ rfl (own4.alloc _) ⟨w4.heap.size, 0, none⟩ 1 1 [.int .i64 ((L : Int) + W)] rfl rfl ?c1 ?c2 ?c3 ?c4 ?c5 ?_)
      case c1 =>
        intro j u hj
        match j, hj with
        | 0, hj => simp at hj; subst hj; simp [Addr.add]
      case c2 => intro u hu; simp at hu; subst hu; rfl
      case c3 => unfold maxLen; omega
      case c4 => omega
      case c5 => simp; omega
      intro v' w5 hown5 hg5 _
      have own5 : w5.ownsRow w.heap.size 3 1 v' (k + 1) (ends (fun i => wd (V i)) (k + 1)) := by
        rw [← ends_succ, ← HE.out, Int.natCast_add]; exact hown5
      have B5 : Below w.heap.size w w5 := (B4.alloc S4 _).grown hg5 (by simp; omega) fun q hq => (hlt7 q hq).1
      have b5 : Bs w5 (some ⟨wr.heap.size, 0, none⟩) (L + W) (enc X (fun i => wd (V i)) (k + 1)) := (b4.kept (World.grownBy_alloc w4 _ none) (Off.none _ _)).kept hg5 (.inr fun x hx h => by
        obtain rfl := Option.some.inj hx
        exact absurd (hlt7 _ h.symm).2 (Nat.lt_irrefl _))
      clear hown5 hg5 own4 B4 S4 b4
      go_wp2
      go_roundw
      case rel => exact ⟨k + 1, some ⟨wr.heap.size, 0, none⟩, L + W, by omega, by go_num, HE, rfl, b5, (fun h => by cases h), own5, B5⟩
      case measure => simp [intOf]; omega
    · obtain rfl : n = k := by omega
      obtain ⟨wq, rfl⟩ : ∃ wq, wq = wr := ⟨_, rfl⟩
      obtain ⟨a7, c7, rfl, h7⟩ := own_ends hown
      obtain ⟨t1, t2⟩ := tmodL cut L
      obtain ⟨C, hC, hq⟩ := remL (cut.tmod ((L : Int) + 1)) L
      have hbC := hbs.take hC
      clear hown hbs
      go_wp2_with fail
      refine (newReader a6 C L _ wq hbC ha6 (by omega) hC).mono ?_
      rintro en w6 ⟨r, g, rfl, hR, hr, hg, _, hgr⟩
      have B6 := below_of_grown hgr
      clear hgr hbC hg
      go_wp2_with fail
      go_loopw [11, 12] (fun fr i wx => ∃ j E0 : Nat, j ≤ n ∧ i = .int .i64 j ∧ fr = .int .i64 E0 ∧ Hid (E0 = En (fun i => wd (V i)) j) ∧ E0 ≤ C ∧ Rd wx r g (((enc X (fun i => wd (V i)) n).take C).drop E0) E0 ∧ Below wq.heap.size wq wx) (fun _ i _ => n - (intOf i).toNat)
      case atStart => exact ⟨0, 0, by omega, rfl, rfl, rfl, by omega, by simpa using hR, B6⟩
      case round =>
        obtain ⟨j, E0, hj, rfl, rfl, hE0, hEC, hRd, hb2⟩ := hrel
        clear hR B6
        by_cases hlt2 : j < n
        · rcases hs with hs | ⟨b, off, rfl, hc⟩
          · omega
          rcases h7 with h7 | ⟨g7, rfl, h7⟩
          · omega
          obtain ⟨e0, e1⟩ := hc j (by omega)
          have q0 := (hbl.cell (World.block_lt_of_cell? w _ e0)).trans e0
          have q1 := (hbl.cell (World.block_lt_of_cell? w _ e1)).trans e1
          have p0 := (hb2.cell (World.block_lt_of_cell? wq _ q0)).trans q0
          have p1 := (hb2.cell (World.block_lt_of_cell? wq _ q1)).trans q1
          have p7 := (hb2.cell (World.block_lt_of_cell? wq _ (h7 j hlt2))).trans (h7 j hlt2)
          have hxk := hX j
          have hW := wd_is (V j)
          have i1 : (j : Int) < (n : Int) := by omega
          have hE1 : Hid (En (fun i => wd (V i)) (j + 1) = E0 + wd (V j)) := by show _ = _; rw [hE0.out]; rfl
          have h7j := h7 j hlt2
          rw [hE1.out] at p7 h7j
          have r7 : Hid (g7 < wq.heap.size) := World.block_lt_of_cell? wq _ h7j
          have H7 := hid h7j
          have Q0 := hid q0
          have Q1 := hid q1
          have Rb0 : Hid (b < wq.heap.size) := World.block_lt_of_cell? wq _ q0
          have hLen : Hid ((((enc X (fun i => wd (V i)) n).take C).drop E0).length = C - E0) := by show _ = _; rw [hE0.out]; exact enc_rest_length _ _ hj (by rw [← hL.out]; exact hC)
          have hAt : Hid (E0 + wd (V j) ≤ C → val (((((enc X (fun i => wd (V i)) n).take C).drop E0)).take (wd (V j))) = X j % 256 ^ wd (V j)) := fun h => by
            rw [hE0.out, enc_at X (fun i => wd (V i)) hlt2 (by rw [hE1.out]; exact h)]
            exact val_be _ _
          have hC16 : C ≤ 1600 := by omega
          clear hc e0 e1 q0 q1 h7 h7j hF8
          go_wp2_with fail
          refine (wide_ (V j) wr).mono ?_
          rintro en w' ⟨rfl, hw⟩
          obtain rfl := hw.symm
          clear hw
          generalize hWd : wd (V j) = W at *
          have HW := hid hWd
          clear hWd
          generalize hys : (((enc X (fun i => wd (V i)) n).take C).drop E0) = ys at *
          have HYS := hid hys
          clear hys
          rcases hW with rfl | rfl | rfl | rfl
          · by_cases hfit : E0 + 1 ≤ C
            · go_wp2_with fail
              refine (lget_whole 1 r g (.inl rfl) ys E0 wr hRd (by rw [hLen.out]; omega) (by rw [hLen.out]; omega) (by omega) (by omega)).mono ?_
              rintro en w8 ⟨rfl, R8, o8⟩
              have hv : val (ys.take 1) = X j % 256 := by have h := hAt.out hfit; rw [h]; rfl
              rw [hv]
              have B8 := bel_only hb2 hr o8
              have HL8 : Hid ((ys.drop 1).length = C - (E0 + 1)) := by show _ = _; rw [List.length_drop, hLen.out]; omega
              clear o8 hRd hb2 hv p0 p1 p7
              go_wp2_with fail
              refine (err_whole_d r g _ _ w8 R8).mono ?_
              rintro en w9 ⟨rfl, hd⟩
              have R9 := R8.drawn hd
              have B9 := bel_bel B8 B8.size hd.below
              have p7 := (B9.cell (p := ⟨g7, j, none⟩) r7.out).trans H7.out
              have p0 := (B9.cell (p := ⟨b, off + j * 2, none⟩) Rb0.out).trans Q0.out
              clear R8 B8 hd
              obtain ⟨D, hD1, hD2⟩ : ∃ D : Nat, D + (E0 + 1) ≤ C ∧ C ≤ D + (E0 + 1) := ⟨C - (E0 + 1), by omega, by omega⟩
              have HD : Hid ((ys.drop 1).length = D) := by show _ = _; rw [HL8.out]; omega
              have d1 : ((D : Int) != (C : Int) - ((E0 : Int) + 1)) = false := by simp; omega
              have hwr : IntKind.i64.wrap ((C : Int) - ((E0 : Int) + 1)) = (C : Int) - ((E0 : Int) + 1) := by rw [IntKind.wrap_i64]; omega
              have R9d : Hid (∀ nq, Rd (w9.drewN nq) r g (ys.drop 1) (E0 + 1)) := fun nq => R9.drawn (drawnN w9 nq)
              clear R9
              go_wp2_with fail
              go_quiet (first
                | (go_at_call 19; exact Calls.quiet_of_same (num_ _ _))
                | (go_at_call 20; exact Calls.quiet_of_same (left_len r g D _ _ _ (R9d.out _) HD.out)))
              go_wp2_with fail
              go_roundw
              case rel => exact ⟨j + 1, E0 + 1, by omega, by go_num, by go_num, hE1.out.symm, by omega, (by rw [← List.drop_drop, HYS.out]; simpa using R9d.out _), bel_drawn B9 _⟩
              case measure => simp [intOf]; omega
            · go_wp2_with fail
              refine (lget_short 1 r g (.inl rfl) ys E0 wr hRd (by rw [hLen.out]; omega)).mono ?_
              rintro en w8 ⟨rfl, R8, o8⟩
              have B8 := bel_only hb2 hr o8
              clear o8 hRd hb2 p0 p1 p7
              go_wp2_with fail
              refine (err_broken_d r _ _ w8 R8).mono ?_
              rintro en w9 ⟨rfl, hd⟩
              have R9 := R8.drawn hd
              have B9 := bel_bel B8 B8.size hd.below
              have p7 := (B9.cell (p := ⟨g7, j, none⟩) r7.out).trans H7.out
              clear R8 B8 hd
              go_wp2_with (first
                | (go_at_call 19; refine (num_ _ _).mono ?_; rintro en w' ⟨rfl, hw⟩; obtain rfl := hw.symm; clear hw)
                | (go_at_call 20; refine (left_broken r _ _ _ R9).mono ?_; rintro en w' ⟨rfl, hw⟩; obtain rfl := hw.symm; clear hw))
              go_ret
              exact ⟨rfl, hbl.trans (B9.mono Sz)⟩
          · by_cases hfit : E0 + 2 ≤ C
            · go_wp2_with fail
              refine (lget_whole 2 r g (.inr (.inl rfl)) ys E0 wr hRd (by rw [hLen.out]; omega) (by rw [hLen.out]; omega) (by omega) (by omega)).mono ?_
              rintro en w8 ⟨rfl, R8, o8⟩
              have hv : val (ys.take 2) = X j % 65536 := by have h := hAt.out hfit; rw [h]; rfl
              rw [hv]
              have B8 := bel_only hb2 hr o8
              have HL8 : Hid ((ys.drop 2).length = C - (E0 + 2)) := by show _ = _; rw [List.length_drop, hLen.out]; omega
              clear o8 hRd hb2 hv p0 p1 p7
              go_wp2_with fail
              refine (err_whole_d r g _ _ w8 R8).mono ?_
              rintro en w9 ⟨rfl, hd⟩
              have R9 := R8.drawn hd
              have B9 := bel_bel B8 B8.size hd.below
              have p7 := (B9.cell (p := ⟨g7, j, none⟩) r7.out).trans H7.out
              have p0 := (B9.cell (p := ⟨b, off + j * 2, none⟩) Rb0.out).trans Q0.out
              clear R8 B8 hd
              obtain ⟨D, hD1, hD2⟩ : ∃ D : Nat, D + (E0 + 2) ≤ C ∧ C ≤ D + (E0 + 2) := ⟨C - (E0 + 2), by omega, by omega⟩
              have HD : Hid ((ys.drop 2).length = D) := by show _ = _; rw [HL8.out]; omega
              have d1 : ((D : Int) != (C : Int) - ((E0 : Int) + 2)) = false := by simp; omega
              have hwr : IntKind.i64.wrap ((C : Int) - ((E0 : Int) + 2)) = (C : Int) - ((E0 : Int) + 2) := by rw [IntKind.wrap_i64]; omega
              have R9d : Hid (∀ nq, Rd (w9.drewN nq) r g (ys.drop 2) (E0 + 2)) := fun nq => R9.drawn (drawnN w9 nq)
              clear R9
              go_wp2_with fail
              go_quiet (first
                | (go_at_call 19; exact Calls.quiet_of_same (num_ _ _))
                | (go_at_call 20; exact Calls.quiet_of_same (left_len r g D _ _ _ (R9d.out _) HD.out)))
              go_wp2_with fail
              go_roundw
              case rel => exact ⟨j + 1, E0 + 2, by omega, by go_num, by go_num, hE1.out.symm, by omega, (by rw [← List.drop_drop, HYS.out]; simpa using R9d.out _), bel_drawn B9 _⟩
              case measure => simp [intOf]; omega
            · go_wp2_with fail
              refine (lget_short 2 r g (.inr (.inl rfl)) ys E0 wr hRd (by rw [hLen.out]; omega)).mono ?_
              rintro en w8 ⟨rfl, R8, o8⟩
              have B8 := bel_only hb2 hr o8
              clear o8 hRd hb2 p0 p1 p7
              go_wp2_with fail
              refine (err_broken_d r _ _ w8 R8).mono ?_
              rintro en w9 ⟨rfl, hd⟩
              have R9 := R8.drawn hd
              have B9 := bel_bel B8 B8.size hd.below
              have p7 := (B9.cell (p := ⟨g7, j, none⟩) r7.out).trans H7.out
              clear R8 B8 hd
              go_wp2_with (first
                | (go_at_call 19; refine (num_ _ _).mono ?_; rintro en w' ⟨rfl, hw⟩; obtain rfl := hw.symm; clear hw)
                | (go_at_call 20; refine (left_broken r _ _ _ R9).mono ?_; rintro en w' ⟨rfl, hw⟩; obtain rfl := hw.symm; clear hw))
              go_ret
              exact ⟨rfl, hbl.trans (B9.mono Sz)⟩
          · by_cases hfit : E0 + 4 ≤ C
            · go_wp2_with fail
              refine (lget_whole 4 r g (.inr (.inr (.inl rfl))) ys E0 wr hRd (by rw [hLen.out]; omega) (by rw [hLen.out]; omega) (by omega) (by omega)).mono ?_
              rintro en w8 ⟨rfl, R8, o8⟩
              have hv : val (ys.take 4) = X j % 4294967296 := by have h := hAt.out hfit; rw [h]; rfl
              rw [hv]
              have B8 := bel_only hb2 hr o8
              have HL8 : Hid ((ys.drop 4).length = C - (E0 + 4)) := by show _ = _; rw [List.length_drop, hLen.out]; omega
              clear o8 hRd hb2 hv p0 p1 p7
              go_wp2_with fail
              refine (err_whole_d r g _ _ w8 R8).mono ?_
              rintro en w9 ⟨rfl, hd⟩
              have R9 := R8.drawn hd
              have B9 := bel_bel B8 B8.size hd.below
              have p7 := (B9.cell (p := ⟨g7, j, none⟩) r7.out).trans H7.out
              have p0 := (B9.cell (p := ⟨b, off + j * 2, none⟩) Rb0.out).trans Q0.out
              clear R8 B8 hd
              obtain ⟨D, hD1, hD2⟩ : ∃ D : Nat, D + (E0 + 4) ≤ C ∧ C ≤ D + (E0 + 4) := ⟨C - (E0 + 4), by omega, by omega⟩
              have HD : Hid ((ys.drop 4).length = D) := by show _ = _; rw [HL8.out]; omega
              have d1 : ((D : Int) != (C : Int) - ((E0 : Int) + 4)) = false := by simp; omega
              have hwr : IntKind.i64.wrap ((C : Int) - ((E0 : Int) + 4)) = (C : Int) - ((E0 : Int) + 4) := by rw [IntKind.wrap_i64]; omega
              have R9d : Hid (∀ nq, Rd (w9.drewN nq) r g (ys.drop 4) (E0 + 4)) := fun nq => R9.drawn (drawnN w9 nq)
              clear R9
              go_wp2_with fail
              go_quiet (first
                | (go_at_call 19; exact Calls.quiet_of_same (num_ _ _))
                | (go_at_call 20; exact Calls.quiet_of_same (left_len r g D _ _ _ (R9d.out _) HD.out)))
              go_wp2_with fail
              go_roundw
              case rel => exact ⟨j + 1, E0 + 4, by omega, by go_num, by go_num, hE1.out.symm, by omega, (by rw [← List.drop_drop, HYS.out]; simpa using R9d.out _), bel_drawn B9 _⟩
              case measure => simp [intOf]; omega
            · go_wp2_with fail
              refine (lget_short 4 r g (.inr (.inr (.inl rfl))) ys E0 wr hRd (by rw [hLen.out]; omega)).mono ?_
              rintro en w8 ⟨rfl, R8, o8⟩
              have B8 := bel_only hb2 hr o8
              clear o8 hRd hb2 p0 p1 p7
              go_wp2_with fail
              refine (err_broken_d r _ _ w8 R8).mono ?_
              rintro en w9 ⟨rfl, hd⟩
              have R9 := R8.drawn hd
              have B9 := bel_bel B8 B8.size hd.below
              have p7 := (B9.cell (p := ⟨g7, j, none⟩) r7.out).trans H7.out
              clear R8 B8 hd
              go_wp2_with (first
                | (go_at_call 19; refine (num_ _ _).mono ?_; rintro en w' ⟨rfl, hw⟩; obtain rfl := hw.symm; clear hw)
                | (go_at_call 20; refine (left_broken r _ _ _ R9).mono ?_; rintro en w' ⟨rfl, hw⟩; obtain rfl := hw.symm; clear hw))
              go_ret
              exact ⟨rfl, hbl.trans (B9.mono Sz)⟩
          · by_cases hfit : E0 + 8 ≤ C
            · go_wp2_with fail
              refine (lget_whole 8 r g (.inr (.inr (.inr rfl))) ys E0 wr hRd (by rw [hLen.out]; omega) (by rw [hLen.out]; omega) (by omega) (by omega)).mono ?_
              rintro en w8 ⟨rfl, R8, o8⟩
              have hv : val (ys.take 8) = X j := by have h := hAt.out hfit; rw [h]; exact Int.emod_eq_of_lt hxk.1 (by have := hxk.2; show X j < 18446744073709551616; omega)
              rw [hv]
              have B8 := bel_only hb2 hr o8
              have HL8 : Hid ((ys.drop 8).length = C - (E0 + 8)) := by show _ = _; rw [List.length_drop, hLen.out]; omega
              clear o8 hRd hb2 hv p0 p1 p7
              go_wp2_with fail
              refine (err_whole_d r g _ _ w8 R8).mono ?_
              rintro en w9 ⟨rfl, hd⟩
              have R9 := R8.drawn hd
              have B9 := bel_bel B8 B8.size hd.below
              have p7 := (B9.cell (p := ⟨g7, j, none⟩) r7.out).trans H7.out
              have p0 := (B9.cell (p := ⟨b, off + j * 2, none⟩) Rb0.out).trans Q0.out
              clear R8 B8 hd
              obtain ⟨D, hD1, hD2⟩ : ∃ D : Nat, D + (E0 + 8) ≤ C ∧ C ≤ D + (E0 + 8) := ⟨C - (E0 + 8), by omega, by omega⟩
              have HD : Hid ((ys.drop 8).length = D) := by show _ = _; rw [HL8.out]; omega
              have d1 : ((D : Int) != (C : Int) - ((E0 : Int) + 8)) = false := by simp; omega
              have hwr : IntKind.i64.wrap ((C : Int) - ((E0 : Int) + 8)) = (C : Int) - ((E0 : Int) + 8) := by rw [IntKind.wrap_i64]; omega
              have R9d : Hid (∀ nq, Rd (w9.drewN nq) r g (ys.drop 8) (E0 + 8)) := fun nq => R9.drawn (drawnN w9 nq)
              clear R9
              go_wp2_with fail
              go_quiet (first
                | (go_at_call 19; exact Calls.quiet_of_same (num_ _ _))
                | (go_at_call 20; exact Calls.quiet_of_same (left_len r g D _ _ _ (R9d.out _) HD.out)))
              go_wp2_with fail
              go_roundw
              case rel => exact ⟨j + 1, E0 + 8, by omega, by go_num, by go_num, hE1.out.symm, by omega, (by rw [← List.drop_drop, HYS.out]; simpa using R9d.out _), bel_drawn B9 _⟩
              case measure => simp [intOf]; omega
            · go_wp2_with fail
              refine (lget_short 8 r g (.inr (.inr (.inr rfl))) ys E0 wr hRd (by rw [hLen.out]; omega)).mono ?_
              rintro en w8 ⟨rfl, R8, o8⟩
              have B8 := bel_only hb2 hr o8
              clear o8 hRd hb2 p0 p1 p7
              go_wp2_with fail
              refine (err_broken_d r _ _ w8 R8).mono ?_
              rintro en w9 ⟨rfl, hd⟩
              have R9 := R8.drawn hd
              have B9 := bel_bel B8 B8.size hd.below
              have p7 := (B9.cell (p := ⟨g7, j, none⟩) r7.out).trans H7.out
              clear R8 B8 hd
              go_wp2_with (first
                | (go_at_call 19; refine (num_ _ _).mono ?_; rintro en w' ⟨rfl, hw⟩; obtain rfl := hw.symm; clear hw)
                | (go_at_call 20; refine (left_broken r _ _ _ R9).mono ?_; rintro en w' ⟨rfl, hw⟩; obtain rfl := hw.symm; clear hw))
              go_ret
              exact ⟨rfl, hbl.trans (B9.mono Sz)⟩
        · go_wp2_with fail
          go_ret
          exact ⟨rfl, hbl.trans (hb2.mono Sz)⟩
end Go.Proofs.Ytjaecokhocbdlaa
