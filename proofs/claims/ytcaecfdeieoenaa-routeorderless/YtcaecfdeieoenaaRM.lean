import Derived.Test.YtcaecfdeieoenaaRL
namespace Go.Proofs.Ytcaecfdeieoenaa
set_option maxRecDepth 100000
open Go.RowKit Go.Shelf
set_option linter.unusedVariables false
attribute [local go_sem] Oper.semAt_some

set_option maxHeartbeats 8000000 in
theorem routeOrderless_ {Tr : World → Value → List Wy → Prop} (R : Rte Tr) (a : Option Addr) (m : List Wy) (c : Nat) (F H L : Int) (w : World) (hm : Ws w a m) (hnc : m.length ≤ c ∧ c ≤ maxLen) (hF : InI F) (hH : InU H) (hL : InU L) :
    Calls Try.prog 5 #[.slice a m.length c, .agg #[.int .i64 F, .int .u64 H, .int .u64 L]] w fun e w' => e = .returned (.bool true) ∧ Below w.heap.size w w' := by
  have hmx : Try.prog.follows .mixedOrders = true := by kernel_rfl
  have B0 := anew w F H L
  have m0 := Am.new w F H L
  have HM := hid hm
  obtain ⟨hn, hc⟩ := hnc
  unfold maxLen at hc
  clear hm
  refine (callsIn_wide (n := 9)).1 ?_
  refine callsIn_of_wp_marks Try.func5 rfl trivial ?_ rfl
  simp only [Try.ntmps5, List.size_toArray, List.length_cons, List.length_nil, Nat.reduceAdd, Nat.reduceSub, Array.replicate_succ, Array.replicate_zero, List.push_toArray, List.append_toArray, List.nil_append, List.cons_append]
  gi_wp2_with (refine ⟨trivial, ?_⟩; gi_at_call 8; refine (callsIn_wide.2 (first_ R _)).mono ?_; rintro e w1 ⟨rfl, g2⟩)
  replace m0 := m0.kept g2
  replace B0 := bel_bel B0 B0.size g2
  have hws : w.heap.size < w1.heap.size := m0.lt
  clear g2
  have HM1 : Hid (Ws w1 a m) := HM.out.kept B0
  clear HM
  refine wpIn_wide.2 ?_
  go_loopw [6, 7, 8, 9] (fun mv i _ _ wr => ∃ j : Nat, j ≤ m.length ∧ j ≤ 300 ∧ i = .int .i64 j ∧ Wo wr w1.heap.size mv (uqn m j) ∧ Below w1.heap.size w1 wr) (fun _ i _ _ _ => 300 - (intOf i).toNat)
  case atStart => exact ⟨0, by omega, by omega, rfl, Wo.nil _ _, Below.refl _ _⟩
  case round =>
    obtain ⟨j, hj, hj3, rfl, hwo, hB⟩ := hrel
    by_cases hlt : j < m.length ∧ j < 300
    · obtain ⟨h1, h2⟩ := hlt
      have hI1 : (j : Int) < (m.length : Int) := by omega
      have hI2 : (j : Int) < 300 := by omega
      obtain ⟨x, hx⟩ : ∃ x, m[j]? = some x := ⟨_, List.getElem?_eq_getElem h1⟩
      have HX := hid hx
      have HWO := hid hwo
      have HXI := hid (HM1.out.1 x (List.mem_of_getElem? hx))
      obtain ⟨q, off, HA, hsx⟩ : ∃ q off, Hid (a = some ⟨q, off, none⟩) ∧ SL q (off + j * 5) x wr wr := SL.of HM1.out hB hx
      have HSX := hid hsx
      clear hwo hx hsx
      generalize wr = wo at *
      go_wp2_with fail
      go_loopw [8, 9] (fun ag i2 w2 => ∃ k : Nat, k ≤ j ∧ i2 = .int .i64 k ∧ ag = .bool ((m.take k).any (fun y => x.sm y)) ∧ Below wo.heap.size wo w2) (fun _ i2 _ => j - (intOf i2).toNat)
      case atStart => exact ⟨0, Nat.zero_le _, rfl, rfl, Below.refl _ _⟩
      case round =>
        obtain ⟨k, hk, rfl, rfl, hB2⟩ := hrel
        by_cases hkj : k < j
        · have hIk : (k : Int) < (j : Int) := by omega
          obtain ⟨y, hy⟩ : ∃ y, m[k]? = some y := ⟨_, List.getElem?_eq_getElem (by omega)⟩
          have HAN : Hid ((m.take (k + 1)).any (fun y => x.sm y) = ((m.take k).any (fun y => x.sm y) || x.sm y)) := by
            show _ = _
            rw [← take_snoc hy, List.any_append]
            simp
          cases hag : (m.take k).any (fun y => x.sm y) with
          | true =>
            rw [hag] at HAN
            have HB2 := hid hB2
            clear hag hB2 hy
            go_wp2_with fail
            go_quiet (fail)
            go_wp2_with fail
            go_roundw
            case rel => exact ⟨k + 1, by omega, by go_num, by rw [HAN.out]; rfl, bel_drawn HB2.out _⟩
            case measure =>
              simp [intOf]
              omega
          | false =>
            rw [hag, Bool.false_or] at HAN
            obtain ⟨q2, off2, HA2, hsy⟩ := SL.of HM1.out (hB.trans (hB2.mono hB.size)) hy
            obtain ⟨rfl, rfl⟩ : q2 = q ∧ off2 = off := by
              have h1 := HA.out
              rw [HA2] at h1
              simp at h1
              exact h1
            have hsx := HSX.out.kept hB2
            have S0 : SL2 q2 (off2 + j * 5) (off2 + k * 5) x y wr wr := ⟨⟨hsx.1, Below.refl _ _⟩, hsy⟩
            have k1 := fun w => samePrefix_ x.F x.H x.L x.B y.F y.H y.L y.B w
            rw [spx_sm] at k1
            subst HA2
            have HB2 := hid hB2
            have hIm : (k : Int) < (m.length : Int) := by omega
            clear hag hB2 hy hsx hsy HA
            generalize x.sm y = b at *
            go_wp2_with fail
            refine wp_region_quiet (C := SL2 q2 (off2 + j * 5) (off2 + k * 5) x y wr) (by kernel_rfl) (by kernel_rfl) S0.drew ?_
            repeat
              refine wpQuiet_step (fun K hK => ?_)
              go_simp
              first
                | (refine hK _ ?_; clear hK K)
                | (apply Exists.intro
                   refine ⟨fun wq hq => ?_, hK _ ?_⟩
                   · first
                     | rfl
                     | (go_at_call 16; exact (k1 _).mono fun _ _ h => ⟨h.1, hq.kept h.2⟩)
                     | (obtain ⟨⟨⟨q0, q1, q2, q3, q4⟩, _⟩, ⟨⟨p0, p1, p2, p3, p4⟩, _⟩⟩ := hq; go_simp; rfl)
                   clear hK K)
            refine wpQuiet_nil ?_
            intro w3 s3
            have hB3 := HB2.out.trans (s3.1.2.mono HB2.out.size)
            go_wp2_with fail
            go_roundw
            case rel => exact ⟨k + 1, by omega, by go_num, by rw [HAN.out], hB3⟩
            case measure =>
              simp [intOf]
              omega
        · have hIk : ¬ (k : Int) < (j : Int) := by omega
          obtain rfl : k = j := by omega
          have HU := hid (uqn_succ HX.out)
          have hwo := HWO.out.kept hB2
          have hsx := HSX.out.kept hB2
          have hB3 := hB.trans (hB2.mono hB.size)
          cases hag : (m.take k).any (fun y => x.sm y) with
          | true =>
            rw [hag, if_pos rfl] at HU
            have HW2 := hid hwo
            have HB3 := hid hB3
            clear hag hwo hsx hB3 hB2 hB
            go_wp2_with fail
            go_roundw
            case rel => exact ⟨k + 1, by omega, by omega, by go_num, by rw [HU.out]; exact HW2.out, HB3.out⟩
            case measure =>
              simp [intOf]
              omega
          | false =>
            rw [hag, if_neg (by decide)] at HU
            obtain ⟨f0, f1, f2, f3, f4⟩ := hsx.1
            have hA := HA.out
            subst hA
            have hsz := hB3.size
            have hln := uqn_len m k
            have HB3 := hid hB3
            clear hag hsx hB2 hB hB3 HA
            go_wp2_with (at_builtin; refine wpList_way rfl _ _ rfl w1.heap.size _ (uqn m k) rfl (hwo.kept ((Below.refl _ _).alloc (Nat.le_refl _) _)) wr.heap.size x rfl (heap_alloc_new _ _) HXI.out (by omega) (by simp; omega) ?_; intro v6 w6 hwo6 g5)
            have hB6 : Below w1.heap.size w1 w6 := (HB3.out.alloc hsz _).trans g5
            go_roundw
            case rel => exact ⟨k + 1, by omega, by omega, by go_num, by rw [HU.out]; exact hwo6, hB6⟩
            case measure =>
              simp [intOf]
              omega
    · obtain ⟨D, HD⟩ : ∃ D, Hid (uqn m j = D) := ⟨_, rfl⟩
      rw [HD.out] at hwo
      have hDl : D.length ≤ 300 := by rw [← HD.out]; have := uqn_len m j; omega
      have HDI : Hid (∀ x ∈ D, x.In) := fun x hx => HM1.out.1 x (List.mem_of_mem_take (uqn_mem m x j (by rw [HD.out]; exact hx)))
      have HDP : Hid (D.Pairwise (fun x y => x.sm y = false)) := by
        show List.Pairwise _ _
        rw [← HD.out]
        exact uqn_pw m j
      have hlt3 : ¬ ((j : Int) < (m.length : Int) ∧ (j : Int) < 300) := by omega
      clear HD
      by_cases h1 : (j : Int) < (m.length : Int)
      · have h2 : ¬ (j : Int) < 300 := by omega
        clear hlt hlt3
        go_wp2_with fail
        obtain ⟨a6, c6, rfl, hd1, hd2, hd3⟩ := hwo.read
        have HD3 := hid hd3
        have hBw : Below w.heap.size w wr := B0.trans (hB.mono (Nat.le_of_lt hws))
        have m2 := m0.kept hB
        have hD0 : (0 : Int) ≤ (D.length : Int) := by omega
        have hD3 : (D.length : Int) ≤ 300 := by omega
        clear hwo hd3 hB hj hj3 HM1
        generalize wr = wp at *
        gi_wp2
        refine wpIn_wide.2 ?_
        go_loopw [10, 11] (fun bv i w2 => ∃ k : Nat, k ≤ D.length ∧ i = .int .i64 ((D.length : Int) - 1 - k) ∧ Wo w2 wp.heap.size bv (D.reverse.take k) ∧ Below wp.heap.size wp w2) (fun _ i _ => (intOf i + 1).toNat)
        case atStart => exact ⟨0, Nat.zero_le _, by simp, Wo.nil _ _, Below.refl _ _⟩
        case round =>
          obtain ⟨k, hk, rfl, hwk, hBk⟩ := hrel
          by_cases hkl : k < D.length
          · obtain ⟨e, he⟩ : ∃ e : Nat, D.length = e + 1 + k := ⟨D.length - 1 - k, by omega⟩
            obtain ⟨x, hx⟩ : ∃ x, D[e]? = some x := ⟨_, List.getElem?_eq_getElem (by omega)⟩
            have HTK : Hid (D.reverse.take (k + 1) = D.reverse.take k ++ [x]) := by
              show _ = _
              rw [List.take_add_one, List.getElem?_reverse (by omega), show D.length - 1 - k = e from by omega, hx]
              rfl
            have HXI := hid (HDI.out x (List.mem_of_getElem? hx))
            obtain ⟨q, off, hA, hsx⟩ := SL.of HD3.out hBk hx
            obtain ⟨f0, f1, f2, f3, f4⟩ := hsx.1
            have HWK := hid hwk
            have hIe : ((D.length : Int) - 1 - k) = (e : Int) := by omega
            have HNX : Hid ((e : Int) - 1 = (D.length : Int) - 1 - ((k + 1 : Nat) : Int)) := by
              show _ = _
              omega
            have hel : (e : Int) < (D.length : Int) := by omega
            have he0 : (0 : Int) ≤ (e : Int) := by omega
            have hlk : (D.reverse.take k).length ≤ 100000 := by rw [List.length_take]; omega
            have hszk := hBk.size
            have HBK := hid hBk
            subst hA
            clear hx hsx hwk hBk he
            generalize hDL : D.length = n at *
            simp only [hIe]
            go_wp2_with (at_builtin; refine wpList_way rfl _ _ rfl wp.heap.size _ (D.reverse.take k) rfl (HWK.out.kept ((Below.refl _ _).alloc (Nat.le_refl _) _)) wr.heap.size x rfl (heap_alloc_new _ _) HXI.out hlk (by simp; omega) ?_; intro v6 w6 hwo6 g5)
            have hB6 : Below wp.heap.size wp w6 := (HBK.out.alloc hszk _).trans g5
            go_roundw
            case rel => exact ⟨k + 1, by omega, by rw [← HNX.out], by rw [HTK.out]; exact hwo6, hB6⟩
            case measure =>
              simp [intOf]
          · obtain rfl : k = D.length := by omega
            have hI0 : ¬ (0 : Int) ≤ (D.length : Int) - 1 - (D.length : Int) := by omega
            rw [List.take_of_length_le (by simp)] at hwk
            obtain ⟨ab, cb, rfl, hb1, hb2, hb3⟩ := hwk.read
            rw [List.length_reverse] at hb1
            have HW6 := hid (HD3.out.kept hBk)
            have HWB := hid hb3
            have hBw3 : Below w.heap.size w wr := hBw.trans (hBk.mono hBw.size)
            have m3 := m2.kept hBk
            clear hb3 hwk hBk m2 hBw HD3
            rw [List.length_reverse]
            go_wp2_with fail
            have HLD : Hid (layL (D.take 300) = layL D) := by
              show _ = _
              rw [List.take_of_length_le hDl]
            have HLR : Hid (layL (D.reverse.take 300) = layL D) := by
              show _ = _
              rw [List.take_of_length_le (by rw [List.length_reverse]; exact hDl), lay_reverse HDI.out HDP.out]
            have kl := lay_ R a6 D c6 wr HW6.out ⟨hd1, hd2⟩
            rw [HLD.out] at kl
            have hEl : (layL D).length ≤ 99999 := by have := lay_le D; omega
            obtain ⟨E, HE⟩ : ∃ E, Hid (layL D = E) := ⟨_, rfl⟩
            rw [HE.out] at kl hEl
            gi_wp2
            refine ⟨trivial, ?_⟩
            refine (callsIn_wide.2 kl).mono ?_
            rintro e w4 ⟨⟨tv, rfl, ht⟩, g4⟩
            have kr := lay_ R ab D.reverse cb w4 (HWB.out.kept g4) ⟨by rw [List.length_reverse]; exact hb1, hb2⟩
            rw [HLR.out, HE.out, List.length_reverse] at kr
            obtain ⟨ta, rfl⟩ := R.ptr ht
            have HT := hid ht
            have B4 := hBw3.trans (g4.mono hBw3.size)
            have m4 := m3.kept g4
            clear kl ht g4 hBw3 m3
            gi_wp2
            refine ⟨trivial, ?_⟩
            refine (callsIn_wide.2 kr).mono ?_
            rintro e w5 ⟨⟨uv, rfl, hu⟩, g5⟩
            obtain ⟨ua, rfl⟩ := R.ptr hu
            have HU := hid hu
            replace HT := hid (R.kept HT.out g5)
            have B5 := B4.trans (g5.mono B4.size)
            have m5 := m4.kept g5
            clear kr hu g5 B4 m4 hI0
            gi_wp2
            refine ⟨trivial, ?_⟩
            refine (callsIn_wide.2 (R.len_ _ _ _ HT.out hEl)).mono ?_
            rintro e w6 ⟨rfl, g6⟩
            replace HT := hid (R.kept HT.out g6)
            replace HU := hid (R.kept HU.out g6)
            have B6 := B5.trans (g6.mono B5.size)
            have m6 := m5.kept g6
            clear g6 B5 m5
            gi_wp2
            refine ⟨trivial, ?_⟩
            refine (callsIn_wide.2 (R.len_ _ _ _ HU.out hEl)).mono ?_
            rintro e w7 ⟨rfl, g7⟩
            replace HT := hid (R.kept HT.out g7)
            replace HU := hid (R.kept HU.out g7)
            have B7 := B6.trans (g7.mono B6.size)
            have m7 := m6.kept g7
            clear g7 B6 m6
            gi_wp2
            refine ⟨trivial, ?_⟩
            refine (callsIn_wide.2 (refNew_ _)).mono ?_
            rintro e w8 ⟨rfl, rfl⟩
            have Bc : Below w7.heap.size w7 ((w7.alloc (.cells #[.slice none 0 0] 58)).alloc (.cells #[.pointer (some ⟨w7.heap.size, 0, none⟩)] 41)) := ((Below.refl _ _).alloc (Nat.le_refl _) _).alloc (by simp) _
            have ka := R.all_ w7 _ _ E HT.out Bc hEl
            have bR := Boxed.new (w7.alloc (.cells #[.slice none 0 0] 58)) 41 (.pointer (some ⟨w7.heap.size, 0, none⟩))
            rw [World.size_alloc] at bR
            have hk : ((w7.alloc (.cells #[.slice none 0 0] 58)).alloc (.cells #[.pointer (some ⟨w7.heap.size, 0, none⟩)] 41)).heap[w7.heap.size]? = some (.cells #[.slice none 0 0] 58 (0, 0)) := (Below.heap_alloc _ _ _ (by simp)).trans (heap_alloc_new _ _)
            gi_wp2
            refine ⟨trivial, ?_⟩
            refine (callsIn_wide.2 ka).mono ?_
            rintro e w9 ⟨⟨gf, lb, rfl, eg, hseq⟩, g9⟩
            simp only [World.size_alloc] at hseq
            have hs9 : w7.heap.size + 2 ≤ w9.heap.size := by have := g9.size; simp only [World.size_alloc] at this; omega
            replace bR := bR.kept (grown_of_below g9) (fun e => by cases e)
            replace hk := (g9.block _ (Array.getElem?_eq_some_iff.1 hk).1).trans hk
            have B9 : Below w7.heap.size w7 w9 := Bc.trans (g9.mono Bc.size)
            have hs97 : w7.heap.size ≤ w9.heap.size := by omega
            have hw79 := B7.size
            clear ka g9 Bc
            gi_wp2
            refine with_act (fun A hA => ?_)
            refine wpIn_rangeFunc_ownH rfl (by omega) (gf := gf) (lb := lb) (by rw [hA]; rfl) trivial eg (hseq 8 (by omega)) Kq.t (Kq.b (by omega) (Nat.le_refl _)) (Below.refl _ _) (fun _ => rfl)
              (fun pre W => ((∃ s, W.heap[w7.heap.size]? = some (.cells #[s] 58 (0, 0)) ∧ Wo W w9.heap.size s (pre.map (·.1))) ∧ Boxed W (w7.heap.size + 1) 41 (.pointer (some ⟨w7.heap.size, 0, none⟩))) ∧ (Below w7.heap.size w7 W ∧ w9.heap.size ≤ W.heap.size))
              (fun _ _ _ => False)
              (OwnFrom.and (OwnFrom.and (fun pre X Y row hs hg hr => by
                obtain ⟨s, h1, h2⟩ := hs
                exact ⟨s, heap_own h1 hg hr, wo_own h2 hg hr⟩) (Own.from (boxed_own _ _ (fun _ : List Wi => Value.pointer (some ⟨w7.heap.size, 0, none⟩))) _)) (OwnFrom.and (ownFrom_below (Nat.le_refl _) hs97) (ownFrom_size _ _)))
              (fun _ _ _ _ _ hs _ _ => hs)
              ⟨⟨⟨_, hk, Wo.nil _ _⟩, bR⟩, B9, Nat.le_refl _⟩
              (fun x a' W => ∃ Bp, w7.heap.size + 1 < Bp ∧ Pm W Bp x.1.F x.1.H x.1.L x.1.B ∧ a' = { tmps := (((A.tmps.setIfInBounds 99 (.agg #[.int .i64 x.1.F, .int .u64 x.1.H, .int .u64 x.1.L, .int .i64 x.1.B])).setIfInBounds 100 (.int .i64 x.1.K)).setIfInBounds 15 (.pointer (some ⟨Bp, 0, none⟩))).setIfInBounds 16 (.int .i64 x.1.K), defers := [] })
              (fun x a' _ X Y row hs hg hr => by obtain ⟨Bp, h1, h2, h3⟩ := hs; exact ⟨Bp, h1, pm_own h2 hg hr, h3⟩)
              ?assign ?body ?done ?stop
            case assign =>
              subst hA
              rintro lp pre x W K ⟨⟨⟨s, hk, hwo⟩, bR⟩, Bw, hsz⟩ hK
              unfold Wy.px
              gi_wp2
              refine hK _ _ ((KeepsOthers.alloc _ _).from _) (((Gs.refl (fun _ => False) W).alloc _).kq (fun _ h => h.elim) (by omega) hsz (fun _ h => h.elim)) ⟨⟨⟨s, (Below.heap_alloc _ _ _ (Array.getElem?_eq_some_iff.1 hk).1).trans hk, hwo.kept ((Below.refl _ _).alloc (Nat.le_refl _) _)⟩, bR.alloc _⟩, Bw.alloc Bw.size _, by simp; omega⟩ ⟨W.heap.size, by omega, Pm.new W _ _ _ _, ?_⟩
              simp only [List.setIfInBounds_toArray, List.set_cons_zero, List.set_cons_succ]
            case body =>
              subst hA
              rintro lp pre x a' W hlp _ ⟨⟨⟨s, hk, hwo⟩, bR⟩, Bw, hsz⟩ ⟨Bp, hBp, mP, ha⟩ hlt
              simp only [List.setIfInBounds_toArray, List.set_cons_zero, List.set_cons_succ] at ha
              subst ha
              obtain ⟨x, hxi⟩ := x
              simp only at mP
              obtain ⟨as8, cs, rfl, _, _, _⟩ := hwo.read
              rw [List.length_map] at hk hwo
              have hs7 := Bw.size
              have HW7 := hs7
              have HW9 := hsz
              have KB := fun j e => (hwo.1.lt j e).1
              have KN := fun j (e : (Value.slice as8 pre.length cs).ownBlock = some j) => Nr.own hwo e
              have KC := fun j (e : (Value.slice as8 pre.length cs).ownBlock = some j) => hwo.isc e
              have NK : Nr W w7.heap.size := Nr.boxed (show Boxed W w7.heap.size 58 (.slice as8 pre.length cs) from hk) (by decide)
              have Gd : Gs (fun j => j = w7.heap.size ∨ (Value.slice as8 pre.length cs).ownBlock = some j) W W := Gs.refl _ _
              gi_wp2
              refine held_r (S := fun wx => Boxed wx (w7.heap.size + 1) 41 (.pointer (some ⟨w7.heap.size, 0, none⟩)) ∧ Pm wx Bp x.F x.H x.L x.B) hmx ?hq (by simp) ⟨bR, mP.drew⟩ (fun hHeld => ?_)
              case hq => rintro ⟨_, _, hh⟩; exact hh
              change wpAnyH _ _ _ _ _ _ _ _ W.drew
              replace bR : Boxed W.drew (w7.heap.size + 1) 41 (.pointer (some ⟨w7.heap.size, 0, none⟩)) := bR
              replace mP := mP.drew
              replace hk : W.drew.heap[w7.heap.size]? = some (.cells #[.slice as8 pre.length cs] 58 (0, 0)) := hk
              replace hwo := hwo.kept (w' := W.drew) ⟨rfl, rfl, rfl, Nat.le_refl _, fun _ _ => rfl⟩
              replace Gd : Gs (fun j => j = w7.heap.size ∨ (Value.slice as8 pre.length cs).ownBlock = some j) W W.drew := Gd
              replace Bw := bel_drew1 Bw
              replace hs7 : w7.heap.size ≤ W.drew.heap.size := hs7
              replace hsz : w9.heap.size ≤ W.drew.heap.size := hsz
              replace hHeld : Boxed W.drew (w7.heap.size + 1) 41 (.pointer (some ⟨w7.heap.size, 0, none⟩)) ∧ Pm W.drew Bp x.F x.H x.L x.B := ⟨bR, mP⟩
              generalize W.drew = wd at *
              refine take_to8 0 101 (.pointer (some ⟨w7.heap.size, 0, none⟩)) rfl rfl (by kernel_rfl) (by kernel_rfl) (by kernel_rfl) (fun _ _ _ h => h) (Or.inl ⟨by kernel_rfl, fun w' h => ?_⟩) hHeld ?_
              · have y0 := Boxed.cell h.1
                go_simp
              try simp only [List.setIfInBounds_toArray, List.set_cons_zero, List.set_cons_succ]
              refine take_to8 1 102 (.pointer (some ⟨w7.heap.size, 0, none⟩)) rfl rfl (by kernel_rfl) (by kernel_rfl) (by kernel_rfl) (fun _ _ _ h => h) (Or.inl ⟨by kernel_rfl, fun w' h => ?_⟩) hHeld ?_
              · have y0 := Boxed.cell h.1
                go_simp
              try simp only [List.setIfInBounds_toArray, List.set_cons_zero, List.set_cons_succ]
              refine take_to8 2 103 (.pointer (some ⟨w7.heap.size, 0, none⟩)) rfl rfl (by kernel_rfl) (by kernel_rfl) (by kernel_rfl) (fun _ _ _ h => h) (Or.inl ⟨by kernel_rfl, fun w' h => ?_⟩) hHeld ?_
              · go_simp
              try simp only [List.setIfInBounds_toArray, List.set_cons_zero, List.set_cons_succ]
              refine take_to8 3 104 (.pointer (some ⟨w7.heap.size, 0, none⟩)) rfl rfl (by kernel_rfl) (by kernel_rfl) (by kernel_rfl) (fun _ _ _ h => h) (Or.inl ⟨by kernel_rfl, fun w' h => ?_⟩) hHeld ?_
              · go_simp
              try simp only [List.setIfInBounds_toArray, List.set_cons_zero, List.set_cons_succ]
              refine take_to8 5 106 (.agg #[.int .i64 x.F, .int .u64 x.H, .int .u64 x.L, .int .i64 x.B]) rfl rfl (by kernel_rfl) (by kernel_rfl) (by kernel_rfl) (fun _ _ _ h => h) (Or.inl ⟨by kernel_rfl, fun w' h => ?_⟩) hHeld ?_
              · have y0 := Pm.c0 h.2; have y1 := Pm.c1 h.2; have y2 := Pm.c2 h.2; have y3 := Pm.c3 h.2
                go_simp
              try simp only [List.setIfInBounds_toArray, List.set_cons_zero, List.set_cons_succ]
              refine take_to8 6 107 (.int .i64 x.K) rfl rfl (by kernel_rfl) (by kernel_rfl) (by kernel_rfl) (fun _ _ _ h => h) (Or.inl ⟨by kernel_rfl, fun w' h => ?_⟩) hHeld ?_
              · go_simp
              try simp only [List.setIfInBounds_toArray, List.set_cons_zero, List.set_cons_succ]
              refine take_to8 7 108 (.agg #[.int .i64 x.F, .int .u64 x.H, .int .u64 x.L, .int .i64 x.B, .int .i64 x.K]) rfl rfl (by kernel_rfl) (by kernel_rfl) (by kernel_rfl) (fun _ _ _ h => h) (Or.inl ⟨by kernel_rfl, fun w' h => ?_⟩) hHeld ?_
              · go_simp
              try simp only [List.setIfInBounds_toArray, List.set_cons_zero, List.set_cons_succ]
              refine wpAnyH_ready (rs := [4, 8]) (by kernel_rfl) (by simp) ?_
              refine AllReadyH.cons rfl (fun K hK => ?_) (AllReadyH.cons rfl (fun K hK => ?_) AllReadyH.nil)
              · rw [if_pos (by kernel_rfl)]
                have ck : wd.cell? ⟨w7.heap.size, 0, none⟩ = some (.slice as8 pre.length cs) := (cell_of_row _ _ 0 _ _ (0, 0) hk).trans rfl
                go_wp2_with fail
                refine hK.out _ _ ⟨bR, mP⟩ (fun hHeld => ?_)
                clear hK K ck
                try simp only [Act.put, List.setIfInBounds_toArray, List.set_cons_zero, List.set_cons_succ]
                refine wpAnyH_ready (rs := [8]) (by kernel_rfl) (by simp) ?_
                refine AllReadyH.cons rfl (fun K hK => ?_) AllReadyH.nil
                rw [if_pos (by kernel_rfl)]
                go_wp2_with fail
                have hgw : (wd.alloc (.cells #[.int .i64 x.F, .int .u64 x.H, .int .u64 x.L, .int .i64 x.B, .int .i64 x.K] 54)).heap[wd.heap.size]? = some (.cells #[.int .i64 x.F, .int .u64 x.H, .int .u64 x.L, .int .i64 x.B, .int .i64 x.K] 54 (0, 0)) := heap_alloc_new _ _
                replace bR := bR.alloc (.cells #[.int .i64 x.F, .int .u64 x.H, .int .u64 x.L, .int .i64 x.B, .int .i64 x.K] 54)
                replace mP := mP.alloc (.cells #[.int .i64 x.F, .int .u64 x.H, .int .u64 x.L, .int .i64 x.B, .int .i64 x.K] 54)
                replace hwo := hwo.kept ((Below.refl _ _).alloc (Nat.le_refl _) (.cells #[.int .i64 x.F, .int .u64 x.H, .int .u64 x.L, .int .i64 x.B, .int .i64 x.K] 54))
                replace hk := (Below.heap_alloc _ (.cells #[.int .i64 x.F, .int .u64 x.H, .int .u64 x.L, .int .i64 x.B, .int .i64 x.K] 54) _ (Array.getElem?_eq_some_iff.1 hk).1).trans hk
                replace Gd := Gd.alloc (.cells #[.int .i64 x.F, .int .u64 x.H, .int .u64 x.L, .int .i64 x.B, .int .i64 x.K] 54)
                replace Bw := Bw.alloc hs7 (.cells #[.int .i64 x.F, .int .u64 x.H, .int .u64 x.L, .int .i64 x.B, .int .i64 x.K] 54)
                replace hsz := Nat.le_trans hsz (Nat.le_of_lt (show wd.heap.size < (wd.alloc (.cells #[.int .i64 x.F, .int .u64 x.H, .int .u64 x.L, .int .i64 x.B, .int .i64 x.K] 54)).heap.size by simp))
                refine hK.out _ _ ⟨bR, mP⟩ (fun hHeld => ?_)
                clear hK K
                try simp only [Act.put, List.setIfInBounds_toArray, List.set_cons_zero, List.set_cons_succ]
                generalize wd.heap.size = gw at *
                generalize wd.alloc (.cells #[.int .i64 x.F, .int .u64 x.H, .int .u64 x.L, .int .i64 x.B, .int .i64 x.K] 54) = we at *
                refine wpAnyH_ready (rs := [9]) (by kernel_rfl) (by simp) ?_
                refine AllReadyH.cons rfl (fun K hK => ?_) AllReadyH.nil
                rw [if_pos (by kernel_rfl)]
                refine wp_way _ _ rfl w9.heap.size (.slice as8 pre.length cs) (pre.map (·.1)) rfl hwo gw x rfl hgw hxi (by have := hlt; rw [List.length_map]; omega) hsz ?_
                intro v6 w6 hwo6 g6
                have nR := own_neW hwo bR (by decide)
                have nP := own_neW hwo (show we.heap[Bp]? = some (.cells _ 32 (0, 0)) from mP) (by decide)
                have nK := own_neW hwo hk (by decide)
                replace bR : Boxed w6 (w7.heap.size + 1) 41 (.pointer (some ⟨w7.heap.size, 0, none⟩)) := (g6.block _ bR.lt nR).trans bR
                replace mP := mP.at (g6.block _ mP.lt nP)
                replace hk := (g6.block _ (Array.getElem?_eq_some_iff.1 hk).1 nK).trans hk
                have hob := fun j e => (hwo.1.lt j e).1
                replace Bw := Bw.grown g6 Bw.size (fun j e => Nat.le_trans hs97 (hob j e))
                replace Gd := Gd.trans (Gs.own (fun _ e => .inr e) hwo g6)
                replace hsz := Nat.le_trans hsz g6.size
                obtain ⟨a7, c7, rfl, _, _, _⟩ := hwo6.read
                rw [show (pre.map (·.1) ++ [x]).length = pre.length + 1 from by simp] at hwo6 ⊢
                refine hK.out _ _ ⟨bR, mP⟩ (fun hHeld => ?_)
                clear hK K hwo hgw g6 nR nP nK hob
                try simp only [Act.put, List.setIfInBounds_toArray]
                refine take_to8 10 111 (.pointer (some ⟨w7.heap.size, 0, none⟩)) rfl rfl (by kernel_rfl) (by kernel_rfl) (by kernel_rfl) (fun _ _ _ h => h) (Or.inl ⟨by kernel_rfl, fun w' h => ?_⟩) hHeld ?_
                · go_simp
                try simp only [List.setIfInBounds_toArray, List.set_cons_zero, List.set_cons_succ]
                refine take_to8 11 112 (.pointer (some ⟨w7.heap.size, 0, none⟩)) rfl rfl (by kernel_rfl) (by kernel_rfl) (by kernel_rfl) (fun _ _ _ h => h) (Or.inl ⟨by kernel_rfl, fun w' h => ?_⟩) hHeld ?_
                · go_simp
                refine wpAnyH_ready (rs := [12]) (by kernel_rfl) (by simp) ?_
                refine AllReadyH.cons rfl (fun K hK => ?_) AllReadyH.nil
                rw [if_pos (by kernel_rfl)]
                have ck : w6.cell? ⟨w7.heap.size, 0, none⟩ = some (.slice as8 pre.length cs) := (cell_of_row _ _ 0 _ _ (0, 0) hk).trans rfl
                have fk : w6.frozen? ⟨w7.heap.size, 0, none⟩ = false := by simp [World.frozen?, hk]
                have b9 : Boxed w6 w7.heap.size 58 (.slice as8 pre.length cs) := hk
                go_wp2_with fail
                replace bR := bR.other (B' := w7.heap.size) (by omega) (.slice a7 (pre.length + 1) c7)
                replace mP := mP.at (Below.heap_setCell w6 ⟨w7.heap.size, 0, none⟩ (.slice a7 (pre.length + 1) c7) Bp (by show Bp ≠ w7.heap.size; omega))
                have hk9 := b9.set (.slice a7 (pre.length + 1) c7)
                have hwo9 := hwo6.set hk (by decide) (.slice a7 (pre.length + 1) c7)
                replace Gd := Gs.set Gd (.inl (.inl rfl)) (.slice a7 (pre.length + 1) c7)
                replace Bw := Bw.setCell (p := ⟨w7.heap.size, 0, none⟩) (Nat.le_refl _) (.slice a7 (pre.length + 1) c7)
                replace hsz := Nat.le_trans hsz (grownBy_setCell' w6 w7.heap.size (.slice a7 (pre.length + 1) c7)).size
                refine hK.out _ _ ⟨bR, mP⟩ (fun hHeld => ?_)
                clear hK K ck fk b9 hwo6
                try simp only [Act.put, List.setIfInBounds_toArray, List.set_cons_zero, List.set_cons_succ]
                refine wpAnyH_done (by kernel_rfl) ?_ _
                gi_wp2
                exact ⟨Gd.keepsC (fun j h => by
                  rcases h with rfl | h
                  · exact .inl (by omega)
                  · exact .inr (KC _ h)), Gd.kq (fun j h => by
                  rcases h with rfl | h
                  · exact ⟨by omega, .inl (by omega)⟩
                  · exact ⟨Nat.le_trans hs97 (KB _ h), .inr (KB _ h)⟩) HW7 HW9 (fun j h => by
                  rcases h with rfl | h
                  · exact NK
                  · exact KN _ h), ⟨⟨⟨_, hk9, by rw [List.map_append]; exact hwo9⟩, bR⟩, Bw, hsz⟩⟩
              · rw [if_pos (by kernel_rfl)]
                go_wp2_with fail
                have hgw : (wd.alloc (.cells #[.int .i64 x.F, .int .u64 x.H, .int .u64 x.L, .int .i64 x.B, .int .i64 x.K] 54)).heap[wd.heap.size]? = some (.cells #[.int .i64 x.F, .int .u64 x.H, .int .u64 x.L, .int .i64 x.B, .int .i64 x.K] 54 (0, 0)) := heap_alloc_new _ _
                replace bR := bR.alloc (.cells #[.int .i64 x.F, .int .u64 x.H, .int .u64 x.L, .int .i64 x.B, .int .i64 x.K] 54)
                replace mP := mP.alloc (.cells #[.int .i64 x.F, .int .u64 x.H, .int .u64 x.L, .int .i64 x.B, .int .i64 x.K] 54)
                replace hwo := hwo.kept ((Below.refl _ _).alloc (Nat.le_refl _) (.cells #[.int .i64 x.F, .int .u64 x.H, .int .u64 x.L, .int .i64 x.B, .int .i64 x.K] 54))
                replace hk := (Below.heap_alloc _ (.cells #[.int .i64 x.F, .int .u64 x.H, .int .u64 x.L, .int .i64 x.B, .int .i64 x.K] 54) _ (Array.getElem?_eq_some_iff.1 hk).1).trans hk
                replace Gd := Gd.alloc (.cells #[.int .i64 x.F, .int .u64 x.H, .int .u64 x.L, .int .i64 x.B, .int .i64 x.K] 54)
                replace Bw := Bw.alloc hs7 (.cells #[.int .i64 x.F, .int .u64 x.H, .int .u64 x.L, .int .i64 x.B, .int .i64 x.K] 54)
                replace hsz := Nat.le_trans hsz (Nat.le_of_lt (show wd.heap.size < (wd.alloc (.cells #[.int .i64 x.F, .int .u64 x.H, .int .u64 x.L, .int .i64 x.B, .int .i64 x.K] 54)).heap.size by simp))
                refine hK.out _ _ ⟨bR, mP⟩ (fun hHeld => ?_)
                clear hK K
                try simp only [Act.put, List.setIfInBounds_toArray, List.set_cons_zero, List.set_cons_succ]
                generalize wd.heap.size = gw at *
                generalize wd.alloc (.cells #[.int .i64 x.F, .int .u64 x.H, .int .u64 x.L, .int .i64 x.B, .int .i64 x.K] 54) = we at *
                refine wpAnyH_ready (rs := [4]) (by kernel_rfl) (by simp) ?_
                refine AllReadyH.cons rfl (fun K hK => ?_) AllReadyH.nil
                rw [if_pos (by kernel_rfl)]
                have ck : we.cell? ⟨w7.heap.size, 0, none⟩ = some (.slice as8 pre.length cs) := (cell_of_row _ _ 0 _ _ (0, 0) hk).trans rfl
                go_wp2_with fail
                refine hK.out _ _ ⟨bR, mP⟩ (fun hHeld => ?_)
                clear hK K ck
                try simp only [Act.put, List.setIfInBounds_toArray, List.set_cons_zero, List.set_cons_succ]
                refine wpAnyH_ready (rs := [9]) (by kernel_rfl) (by simp) ?_
                refine AllReadyH.cons rfl (fun K hK => ?_) AllReadyH.nil
                rw [if_pos (by kernel_rfl)]
                refine wp_way _ _ rfl w9.heap.size (.slice as8 pre.length cs) (pre.map (·.1)) rfl hwo gw x rfl hgw hxi (by have := hlt; rw [List.length_map]; omega) hsz ?_
                intro v6 w6 hwo6 g6
                have nR := own_neW hwo bR (by decide)
                have nP := own_neW hwo (show we.heap[Bp]? = some (.cells _ 32 (0, 0)) from mP) (by decide)
                have nK := own_neW hwo hk (by decide)
                replace bR : Boxed w6 (w7.heap.size + 1) 41 (.pointer (some ⟨w7.heap.size, 0, none⟩)) := (g6.block _ bR.lt nR).trans bR
                replace mP := mP.at (g6.block _ mP.lt nP)
                replace hk := (g6.block _ (Array.getElem?_eq_some_iff.1 hk).1 nK).trans hk
                have hob := fun j e => (hwo.1.lt j e).1
                replace Bw := Bw.grown g6 Bw.size (fun j e => Nat.le_trans hs97 (hob j e))
                replace Gd := Gd.trans (Gs.own (fun _ e => .inr e) hwo g6)
                replace hsz := Nat.le_trans hsz g6.size
                obtain ⟨a7, c7, rfl, _, _, _⟩ := hwo6.read
                rw [show (pre.map (·.1) ++ [x]).length = pre.length + 1 from by simp] at hwo6 ⊢
                refine hK.out _ _ ⟨bR, mP⟩ (fun hHeld => ?_)
                clear hK K hwo hgw g6 nR nP nK hob
                try simp only [Act.put, List.setIfInBounds_toArray]
                refine take_to8 10 111 (.pointer (some ⟨w7.heap.size, 0, none⟩)) rfl rfl (by kernel_rfl) (by kernel_rfl) (by kernel_rfl) (fun _ _ _ h => h) (Or.inl ⟨by kernel_rfl, fun w' h => ?_⟩) hHeld ?_
                · go_simp
                try simp only [List.setIfInBounds_toArray, List.set_cons_zero, List.set_cons_succ]
                refine take_to8 11 112 (.pointer (some ⟨w7.heap.size, 0, none⟩)) rfl rfl (by kernel_rfl) (by kernel_rfl) (by kernel_rfl) (fun _ _ _ h => h) (Or.inl ⟨by kernel_rfl, fun w' h => ?_⟩) hHeld ?_
                · go_simp
                refine wpAnyH_ready (rs := [12]) (by kernel_rfl) (by simp) ?_
                refine AllReadyH.cons rfl (fun K hK => ?_) AllReadyH.nil
                rw [if_pos (by kernel_rfl)]
                have ck : w6.cell? ⟨w7.heap.size, 0, none⟩ = some (.slice as8 pre.length cs) := (cell_of_row _ _ 0 _ _ (0, 0) hk).trans rfl
                have fk : w6.frozen? ⟨w7.heap.size, 0, none⟩ = false := by simp [World.frozen?, hk]
                have b9 : Boxed w6 w7.heap.size 58 (.slice as8 pre.length cs) := hk
                go_wp2_with fail
                replace bR := bR.other (B' := w7.heap.size) (by omega) (.slice a7 (pre.length + 1) c7)
                replace mP := mP.at (Below.heap_setCell w6 ⟨w7.heap.size, 0, none⟩ (.slice a7 (pre.length + 1) c7) Bp (by show Bp ≠ w7.heap.size; omega))
                have hk9 := b9.set (.slice a7 (pre.length + 1) c7)
                have hwo9 := hwo6.set hk (by decide) (.slice a7 (pre.length + 1) c7)
                replace Gd := Gs.set Gd (.inl (.inl rfl)) (.slice a7 (pre.length + 1) c7)
                replace Bw := Bw.setCell (p := ⟨w7.heap.size, 0, none⟩) (Nat.le_refl _) (.slice a7 (pre.length + 1) c7)
                replace hsz := Nat.le_trans hsz (grownBy_setCell' w6 w7.heap.size (.slice a7 (pre.length + 1) c7)).size
                refine hK.out _ _ ⟨bR, mP⟩ (fun hHeld => ?_)
                clear hK K ck fk b9 hwo6
                try simp only [Act.put, List.setIfInBounds_toArray, List.set_cons_zero, List.set_cons_succ]
                refine wpAnyH_done (by kernel_rfl) ?_ _
                gi_wp2
                exact ⟨Gd.keepsC (fun j h => by
                  rcases h with rfl | h
                  · exact .inl (by omega)
                  · exact .inr (KC _ h)), Gd.kq (fun j h => by
                  rcases h with rfl | h
                  · exact ⟨by omega, .inl (by omega)⟩
                  · exact ⟨Nat.le_trans hs97 (KB _ h), .inr (KB _ h)⟩) HW7 HW9 (fun j h => by
                  rcases h with rfl | h
                  · exact NK
                  · exact KN _ h), ⟨⟨⟨_, hk9, by rw [List.map_append]; exact hwo9⟩, bR⟩, Bw, hsz⟩⟩
            case done =>
              subst hA
              rintro Dd ys W hD hys ⟨⟨⟨s, hk, hwo⟩, bR⟩, Bw, hsz⟩ hK
              rw [hys] at hwo
              have HTW := hid (R.kept HT.out Bw)
              have mW := m7.kept Bw
              have BW : Below w.heap.size w W := B7.trans (Bw.mono B7.size)
              have HUW := hid (R.kept HU.out Bw)
              have ka := all_ R _ _ E W HUW.out ⟨_, s, rfl, hk, hwo.mono (Nat.zero_le _)⟩ hEl
              have cR := bR.cell
              clear hk hwo B7 m7 HT HU Bw
              gi_wp2
              refine ⟨trivial, ?_⟩
              refine (callsIn_wide.2 ka).mono ?_
              rintro e wa ⟨rfl, ga⟩
              have mA := mW.kept ga
              have BA := BW.trans (ga.mono BW.size)
              have hKA := (ga.block Dd (Array.getElem?_eq_some_iff.1 hK).1).trans hK
              have kf := R.find_ wa _ E F H L (R.kept HTW.out ga) hF hH hL hEl
              have HU2 := hid (R.kept HUW.out ga)
              have c0 := mA.c0
              have c1 := mA.c1
              have c2 := mA.c2
              clear cR ka ga mW BW hK HTW HUW
              gi_wp2
              refine ⟨trivial, ?_⟩
              refine (callsIn_wide.2 kf).mono ?_
              rintro e wb ⟨rfl, gb⟩
              have mB := mA.kept gb
              have BB := BA.trans (gb.mono BA.size)
              have hKB := (gb.block Dd (Array.getElem?_eq_some_iff.1 hKA).1).trans hKA
              have kg := R.find_ wb _ E F H L (R.kept HU2.out gb) hF hH hL hEl
              have d0 := mB.c0
              have d1 := mB.c1
              have d2 := mB.c2
              clear c0 c1 c2 kf gb mA BA hKA HU2
              gi_wp2
              refine ⟨trivial, ?_⟩
              refine (callsIn_wide.2 kg).mono ?_
              rintro e wc ⟨rfl, gc⟩
              have BC := BB.trans (gc.mono BB.size)
              have hKC := (gc.block Dd (Array.getElem?_eq_some_iff.1 hKB).1).trans hKB
              have FC : Below w.heap.size w (wc.putObj Dd (.deferred none)) := BC.trans (belowK_b (w := w) (Nat.le_refl _) _ Dd _ _ (by have := B9.size; have := hw79; omega) hKC rfl rfl)
              clear d0 d1 d2 kg gc mB BB hKB
              generalize fK E F H L = fk at *
              generalize fO E F H L = fo at *
              gi_wp2
              refine ⟨by simp, .inl ⟨_, _, rfl, run_takeDeferred hKC, ?_⟩⟩
              exact ⟨_, results_tmp rfl _ _ _, by simp, FC⟩
            case stop =>
              rintro Dd c pre W _ _ h _
              exact h.elim
      · clear hlt hlt3
        go_wp2_with fail
        obtain ⟨a6, c6, rfl, hd1, hd2, hd3⟩ := hwo.read
        have HD3 := hid hd3
        have hBw : Below w.heap.size w wr := B0.trans (hB.mono (Nat.le_of_lt hws))
        have m2 := m0.kept hB
        have hD0 : (0 : Int) ≤ (D.length : Int) := by omega
        have hD3 : (D.length : Int) ≤ 300 := by omega
        clear hwo hd3 hB hj hj3 HM1
        generalize wr = wp at *
        gi_wp2
        refine wpIn_wide.2 ?_
        go_loopw [10, 11] (fun bv i w2 => ∃ k : Nat, k ≤ D.length ∧ i = .int .i64 ((D.length : Int) - 1 - k) ∧ Wo w2 wp.heap.size bv (D.reverse.take k) ∧ Below wp.heap.size wp w2) (fun _ i _ => (intOf i + 1).toNat)
        case atStart => exact ⟨0, Nat.zero_le _, by simp, Wo.nil _ _, Below.refl _ _⟩
        case round =>
          obtain ⟨k, hk, rfl, hwk, hBk⟩ := hrel
          by_cases hkl : k < D.length
          · obtain ⟨e, he⟩ : ∃ e : Nat, D.length = e + 1 + k := ⟨D.length - 1 - k, by omega⟩
            obtain ⟨x, hx⟩ : ∃ x, D[e]? = some x := ⟨_, List.getElem?_eq_getElem (by omega)⟩
            have HTK : Hid (D.reverse.take (k + 1) = D.reverse.take k ++ [x]) := by
              show _ = _
              rw [List.take_add_one, List.getElem?_reverse (by omega), show D.length - 1 - k = e from by omega, hx]
              rfl
            have HXI := hid (HDI.out x (List.mem_of_getElem? hx))
            obtain ⟨q, off, hA, hsx⟩ := SL.of HD3.out hBk hx
            obtain ⟨f0, f1, f2, f3, f4⟩ := hsx.1
            have HWK := hid hwk
            have hIe : ((D.length : Int) - 1 - k) = (e : Int) := by omega
            have HNX : Hid ((e : Int) - 1 = (D.length : Int) - 1 - ((k + 1 : Nat) : Int)) := by
              show _ = _
              omega
            have hel : (e : Int) < (D.length : Int) := by omega
            have he0 : (0 : Int) ≤ (e : Int) := by omega
            have hlk : (D.reverse.take k).length ≤ 100000 := by rw [List.length_take]; omega
            have hszk := hBk.size
            have HBK := hid hBk
            subst hA
            clear hx hsx hwk hBk he
            generalize hDL : D.length = n at *
            simp only [hIe]
            go_wp2_with (at_builtin; refine wpList_way rfl _ _ rfl wp.heap.size _ (D.reverse.take k) rfl (HWK.out.kept ((Below.refl _ _).alloc (Nat.le_refl _) _)) wr.heap.size x rfl (heap_alloc_new _ _) HXI.out hlk (by simp; omega) ?_; intro v6 w6 hwo6 g5)
            have hB6 : Below wp.heap.size wp w6 := (HBK.out.alloc hszk _).trans g5
            go_roundw
            case rel => exact ⟨k + 1, by omega, by rw [← HNX.out], by rw [HTK.out]; exact hwo6, hB6⟩
            case measure =>
              simp [intOf]
          · obtain rfl : k = D.length := by omega
            have hI0 : ¬ (0 : Int) ≤ (D.length : Int) - 1 - (D.length : Int) := by omega
            rw [List.take_of_length_le (by simp)] at hwk
            obtain ⟨ab, cb, rfl, hb1, hb2, hb3⟩ := hwk.read
            rw [List.length_reverse] at hb1
            have HW6 := hid (HD3.out.kept hBk)
            have HWB := hid hb3
            have hBw3 : Below w.heap.size w wr := hBw.trans (hBk.mono hBw.size)
            have m3 := m2.kept hBk
            clear hb3 hwk hBk m2 hBw HD3
            rw [List.length_reverse]
            go_wp2_with fail
            have HLD : Hid (layL (D.take 300) = layL D) := by
              show _ = _
              rw [List.take_of_length_le hDl]
            have HLR : Hid (layL (D.reverse.take 300) = layL D) := by
              show _ = _
              rw [List.take_of_length_le (by rw [List.length_reverse]; exact hDl), lay_reverse HDI.out HDP.out]
            have kl := lay_ R a6 D c6 wr HW6.out ⟨hd1, hd2⟩
            rw [HLD.out] at kl
            have hEl : (layL D).length ≤ 99999 := by have := lay_le D; omega
            obtain ⟨E, HE⟩ : ∃ E, Hid (layL D = E) := ⟨_, rfl⟩
            rw [HE.out] at kl hEl
            gi_wp2
            refine ⟨trivial, ?_⟩
            refine (callsIn_wide.2 kl).mono ?_
            rintro e w4 ⟨⟨tv, rfl, ht⟩, g4⟩
            have kr := lay_ R ab D.reverse cb w4 (HWB.out.kept g4) ⟨by rw [List.length_reverse]; exact hb1, hb2⟩
            rw [HLR.out, HE.out, List.length_reverse] at kr
            obtain ⟨ta, rfl⟩ := R.ptr ht
            have HT := hid ht
            have B4 := hBw3.trans (g4.mono hBw3.size)
            have m4 := m3.kept g4
            clear kl ht g4 hBw3 m3
            gi_wp2
            refine ⟨trivial, ?_⟩
            refine (callsIn_wide.2 kr).mono ?_
            rintro e w5 ⟨⟨uv, rfl, hu⟩, g5⟩
            obtain ⟨ua, rfl⟩ := R.ptr hu
            have HU := hid hu
            replace HT := hid (R.kept HT.out g5)
            have B5 := B4.trans (g5.mono B4.size)
            have m5 := m4.kept g5
            clear kr hu g5 B4 m4 hI0
            gi_wp2
            refine ⟨trivial, ?_⟩
            refine (callsIn_wide.2 (R.len_ _ _ _ HT.out hEl)).mono ?_
            rintro e w6 ⟨rfl, g6⟩
            replace HT := hid (R.kept HT.out g6)
            replace HU := hid (R.kept HU.out g6)
            have B6 := B5.trans (g6.mono B5.size)
            have m6 := m5.kept g6
            clear g6 B5 m5
            gi_wp2
            refine ⟨trivial, ?_⟩
            refine (callsIn_wide.2 (R.len_ _ _ _ HU.out hEl)).mono ?_
            rintro e w7 ⟨rfl, g7⟩
            replace HT := hid (R.kept HT.out g7)
            replace HU := hid (R.kept HU.out g7)
            have B7 := B6.trans (g7.mono B6.size)
            have m7 := m6.kept g7
            clear g7 B6 m6
            gi_wp2
            refine ⟨trivial, ?_⟩
            refine (callsIn_wide.2 (refNew_ _)).mono ?_
            rintro e w8 ⟨rfl, rfl⟩
            have Bc : Below w7.heap.size w7 ((w7.alloc (.cells #[.slice none 0 0] 58)).alloc (.cells #[.pointer (some ⟨w7.heap.size, 0, none⟩)] 41)) := ((Below.refl _ _).alloc (Nat.le_refl _) _).alloc (by simp) _
            have ka := R.all_ w7 _ _ E HT.out Bc hEl
            have bR := Boxed.new (w7.alloc (.cells #[.slice none 0 0] 58)) 41 (.pointer (some ⟨w7.heap.size, 0, none⟩))
            rw [World.size_alloc] at bR
            have hk : ((w7.alloc (.cells #[.slice none 0 0] 58)).alloc (.cells #[.pointer (some ⟨w7.heap.size, 0, none⟩)] 41)).heap[w7.heap.size]? = some (.cells #[.slice none 0 0] 58 (0, 0)) := (Below.heap_alloc _ _ _ (by simp)).trans (heap_alloc_new _ _)
            gi_wp2
            refine ⟨trivial, ?_⟩
            refine (callsIn_wide.2 ka).mono ?_
            rintro e w9 ⟨⟨gf, lb, rfl, eg, hseq⟩, g9⟩
            simp only [World.size_alloc] at hseq
            have hs9 : w7.heap.size + 2 ≤ w9.heap.size := by have := g9.size; simp only [World.size_alloc] at this; omega
            replace bR := bR.kept (grown_of_below g9) (fun e => by cases e)
            replace hk := (g9.block _ (Array.getElem?_eq_some_iff.1 hk).1).trans hk
            have B9 : Below w7.heap.size w7 w9 := Bc.trans (g9.mono Bc.size)
            have hs97 : w7.heap.size ≤ w9.heap.size := by omega
            have hw79 := B7.size
            clear ka g9 Bc
            gi_wp2
            refine with_act (fun A hA => ?_)
            refine wpIn_rangeFunc_ownH rfl (by omega) (gf := gf) (lb := lb) (by rw [hA]; rfl) trivial eg (hseq 8 (by omega)) Kq.t (Kq.b (by omega) (Nat.le_refl _)) (Below.refl _ _) (fun _ => rfl)
              (fun pre W => ((∃ s, W.heap[w7.heap.size]? = some (.cells #[s] 58 (0, 0)) ∧ Wo W w9.heap.size s (pre.map (·.1))) ∧ Boxed W (w7.heap.size + 1) 41 (.pointer (some ⟨w7.heap.size, 0, none⟩))) ∧ (Below w7.heap.size w7 W ∧ w9.heap.size ≤ W.heap.size))
              (fun _ _ _ => False)
              (OwnFrom.and (OwnFrom.and (fun pre X Y row hs hg hr => by
                obtain ⟨s, h1, h2⟩ := hs
                exact ⟨s, heap_own h1 hg hr, wo_own h2 hg hr⟩) (Own.from (boxed_own _ _ (fun _ : List Wi => Value.pointer (some ⟨w7.heap.size, 0, none⟩))) _)) (OwnFrom.and (ownFrom_below (Nat.le_refl _) hs97) (ownFrom_size _ _)))
              (fun _ _ _ _ _ hs _ _ => hs)
              ⟨⟨⟨_, hk, Wo.nil _ _⟩, bR⟩, B9, Nat.le_refl _⟩
              (fun x a' W => ∃ Bp, w7.heap.size + 1 < Bp ∧ Pm W Bp x.1.F x.1.H x.1.L x.1.B ∧ a' = { tmps := (((A.tmps.setIfInBounds 99 (.agg #[.int .i64 x.1.F, .int .u64 x.1.H, .int .u64 x.1.L, .int .i64 x.1.B])).setIfInBounds 100 (.int .i64 x.1.K)).setIfInBounds 15 (.pointer (some ⟨Bp, 0, none⟩))).setIfInBounds 16 (.int .i64 x.1.K), defers := [] })
              (fun x a' _ X Y row hs hg hr => by obtain ⟨Bp, h1, h2, h3⟩ := hs; exact ⟨Bp, h1, pm_own h2 hg hr, h3⟩)
              ?assign ?body ?done ?stop
            case assign =>
              subst hA
              rintro lp pre x W K ⟨⟨⟨s, hk, hwo⟩, bR⟩, Bw, hsz⟩ hK
              unfold Wy.px
              gi_wp2
              refine hK _ _ ((KeepsOthers.alloc _ _).from _) (((Gs.refl (fun _ => False) W).alloc _).kq (fun _ h => h.elim) (by omega) hsz (fun _ h => h.elim)) ⟨⟨⟨s, (Below.heap_alloc _ _ _ (Array.getElem?_eq_some_iff.1 hk).1).trans hk, hwo.kept ((Below.refl _ _).alloc (Nat.le_refl _) _)⟩, bR.alloc _⟩, Bw.alloc Bw.size _, by simp; omega⟩ ⟨W.heap.size, by omega, Pm.new W _ _ _ _, ?_⟩
              simp only [List.setIfInBounds_toArray, List.set_cons_zero, List.set_cons_succ]
            case body =>
              subst hA
              rintro lp pre x a' W hlp _ ⟨⟨⟨s, hk, hwo⟩, bR⟩, Bw, hsz⟩ ⟨Bp, hBp, mP, ha⟩ hlt
              simp only [List.setIfInBounds_toArray, List.set_cons_zero, List.set_cons_succ] at ha
              subst ha
              obtain ⟨x, hxi⟩ := x
              simp only at mP
              obtain ⟨as8, cs, rfl, _, _, _⟩ := hwo.read
              rw [List.length_map] at hk hwo
              have hs7 := Bw.size
              have HW7 := hs7
              have HW9 := hsz
              have KB := fun j e => (hwo.1.lt j e).1
              have KN := fun j (e : (Value.slice as8 pre.length cs).ownBlock = some j) => Nr.own hwo e
              have KC := fun j (e : (Value.slice as8 pre.length cs).ownBlock = some j) => hwo.isc e
              have NK : Nr W w7.heap.size := Nr.boxed (show Boxed W w7.heap.size 58 (.slice as8 pre.length cs) from hk) (by decide)
              have Gd : Gs (fun j => j = w7.heap.size ∨ (Value.slice as8 pre.length cs).ownBlock = some j) W W := Gs.refl _ _
              gi_wp2
              refine held_r (S := fun wx => Boxed wx (w7.heap.size + 1) 41 (.pointer (some ⟨w7.heap.size, 0, none⟩)) ∧ Pm wx Bp x.F x.H x.L x.B) hmx ?hq (by simp) ⟨bR, mP.drew⟩ (fun hHeld => ?_)
              case hq => rintro ⟨_, _, hh⟩; exact hh
              change wpAnyH _ _ _ _ _ _ _ _ W.drew
              replace bR : Boxed W.drew (w7.heap.size + 1) 41 (.pointer (some ⟨w7.heap.size, 0, none⟩)) := bR
              replace mP := mP.drew
              replace hk : W.drew.heap[w7.heap.size]? = some (.cells #[.slice as8 pre.length cs] 58 (0, 0)) := hk
              replace hwo := hwo.kept (w' := W.drew) ⟨rfl, rfl, rfl, Nat.le_refl _, fun _ _ => rfl⟩
              replace Gd : Gs (fun j => j = w7.heap.size ∨ (Value.slice as8 pre.length cs).ownBlock = some j) W W.drew := Gd
              replace Bw := bel_drew1 Bw
              replace hs7 : w7.heap.size ≤ W.drew.heap.size := hs7
              replace hsz : w9.heap.size ≤ W.drew.heap.size := hsz
              replace hHeld : Boxed W.drew (w7.heap.size + 1) 41 (.pointer (some ⟨w7.heap.size, 0, none⟩)) ∧ Pm W.drew Bp x.F x.H x.L x.B := ⟨bR, mP⟩
              generalize W.drew = wd at *
              refine take_to8 0 101 (.pointer (some ⟨w7.heap.size, 0, none⟩)) rfl rfl (by kernel_rfl) (by kernel_rfl) (by kernel_rfl) (fun _ _ _ h => h) (Or.inl ⟨by kernel_rfl, fun w' h => ?_⟩) hHeld ?_
              · have y0 := Boxed.cell h.1
                go_simp
              try simp only [List.setIfInBounds_toArray, List.set_cons_zero, List.set_cons_succ]
              refine take_to8 1 102 (.pointer (some ⟨w7.heap.size, 0, none⟩)) rfl rfl (by kernel_rfl) (by kernel_rfl) (by kernel_rfl) (fun _ _ _ h => h) (Or.inl ⟨by kernel_rfl, fun w' h => ?_⟩) hHeld ?_
              · have y0 := Boxed.cell h.1
                go_simp
              try simp only [List.setIfInBounds_toArray, List.set_cons_zero, List.set_cons_succ]
              refine take_to8 2 103 (.pointer (some ⟨w7.heap.size, 0, none⟩)) rfl rfl (by kernel_rfl) (by kernel_rfl) (by kernel_rfl) (fun _ _ _ h => h) (Or.inl ⟨by kernel_rfl, fun w' h => ?_⟩) hHeld ?_
              · go_simp
              try simp only [List.setIfInBounds_toArray, List.set_cons_zero, List.set_cons_succ]
              refine take_to8 3 104 (.pointer (some ⟨w7.heap.size, 0, none⟩)) rfl rfl (by kernel_rfl) (by kernel_rfl) (by kernel_rfl) (fun _ _ _ h => h) (Or.inl ⟨by kernel_rfl, fun w' h => ?_⟩) hHeld ?_
              · go_simp
              try simp only [List.setIfInBounds_toArray, List.set_cons_zero, List.set_cons_succ]
              refine take_to8 5 106 (.agg #[.int .i64 x.F, .int .u64 x.H, .int .u64 x.L, .int .i64 x.B]) rfl rfl (by kernel_rfl) (by kernel_rfl) (by kernel_rfl) (fun _ _ _ h => h) (Or.inl ⟨by kernel_rfl, fun w' h => ?_⟩) hHeld ?_
              · have y0 := Pm.c0 h.2; have y1 := Pm.c1 h.2; have y2 := Pm.c2 h.2; have y3 := Pm.c3 h.2
                go_simp
              try simp only [List.setIfInBounds_toArray, List.set_cons_zero, List.set_cons_succ]
              refine take_to8 6 107 (.int .i64 x.K) rfl rfl (by kernel_rfl) (by kernel_rfl) (by kernel_rfl) (fun _ _ _ h => h) (Or.inl ⟨by kernel_rfl, fun w' h => ?_⟩) hHeld ?_
              · go_simp
              try simp only [List.setIfInBounds_toArray, List.set_cons_zero, List.set_cons_succ]
              refine take_to8 7 108 (.agg #[.int .i64 x.F, .int .u64 x.H, .int .u64 x.L, .int .i64 x.B, .int .i64 x.K]) rfl rfl (by kernel_rfl) (by kernel_rfl) (by kernel_rfl) (fun _ _ _ h => h) (Or.inl ⟨by kernel_rfl, fun w' h => ?_⟩) hHeld ?_
              · go_simp
              try simp only [List.setIfInBounds_toArray, List.set_cons_zero, List.set_cons_succ]
              refine wpAnyH_ready (rs := [4, 8]) (by kernel_rfl) (by simp) ?_
              refine AllReadyH.cons rfl (fun K hK => ?_) (AllReadyH.cons rfl (fun K hK => ?_) AllReadyH.nil)
              · rw [if_pos (by kernel_rfl)]
                have ck : wd.cell? ⟨w7.heap.size, 0, none⟩ = some (.slice as8 pre.length cs) := (cell_of_row _ _ 0 _ _ (0, 0) hk).trans rfl
                go_wp2_with fail
                refine hK.out _ _ ⟨bR, mP⟩ (fun hHeld => ?_)
                clear hK K ck
                try simp only [Act.put, List.setIfInBounds_toArray, List.set_cons_zero, List.set_cons_succ]
                refine wpAnyH_ready (rs := [8]) (by kernel_rfl) (by simp) ?_
                refine AllReadyH.cons rfl (fun K hK => ?_) AllReadyH.nil
                rw [if_pos (by kernel_rfl)]
                go_wp2_with fail
                have hgw : (wd.alloc (.cells #[.int .i64 x.F, .int .u64 x.H, .int .u64 x.L, .int .i64 x.B, .int .i64 x.K] 54)).heap[wd.heap.size]? = some (.cells #[.int .i64 x.F, .int .u64 x.H, .int .u64 x.L, .int .i64 x.B, .int .i64 x.K] 54 (0, 0)) := heap_alloc_new _ _
                replace bR := bR.alloc (.cells #[.int .i64 x.F, .int .u64 x.H, .int .u64 x.L, .int .i64 x.B, .int .i64 x.K] 54)
                replace mP := mP.alloc (.cells #[.int .i64 x.F, .int .u64 x.H, .int .u64 x.L, .int .i64 x.B, .int .i64 x.K] 54)
                replace hwo := hwo.kept ((Below.refl _ _).alloc (Nat.le_refl _) (.cells #[.int .i64 x.F, .int .u64 x.H, .int .u64 x.L, .int .i64 x.B, .int .i64 x.K] 54))
                replace hk := (Below.heap_alloc _ (.cells #[.int .i64 x.F, .int .u64 x.H, .int .u64 x.L, .int .i64 x.B, .int .i64 x.K] 54) _ (Array.getElem?_eq_some_iff.1 hk).1).trans hk
                replace Gd := Gd.alloc (.cells #[.int .i64 x.F, .int .u64 x.H, .int .u64 x.L, .int .i64 x.B, .int .i64 x.K] 54)
                replace Bw := Bw.alloc hs7 (.cells #[.int .i64 x.F, .int .u64 x.H, .int .u64 x.L, .int .i64 x.B, .int .i64 x.K] 54)
                replace hsz := Nat.le_trans hsz (Nat.le_of_lt (show wd.heap.size < (wd.alloc (.cells #[.int .i64 x.F, .int .u64 x.H, .int .u64 x.L, .int .i64 x.B, .int .i64 x.K] 54)).heap.size by simp))
                refine hK.out _ _ ⟨bR, mP⟩ (fun hHeld => ?_)
                clear hK K
                try simp only [Act.put, List.setIfInBounds_toArray, List.set_cons_zero, List.set_cons_succ]
                generalize wd.heap.size = gw at *
                generalize wd.alloc (.cells #[.int .i64 x.F, .int .u64 x.H, .int .u64 x.L, .int .i64 x.B, .int .i64 x.K] 54) = we at *
                refine wpAnyH_ready (rs := [9]) (by kernel_rfl) (by simp) ?_
                refine AllReadyH.cons rfl (fun K hK => ?_) AllReadyH.nil
                rw [if_pos (by kernel_rfl)]
                refine wp_way _ _ rfl w9.heap.size (.slice as8 pre.length cs) (pre.map (·.1)) rfl hwo gw x rfl hgw hxi (by have := hlt; rw [List.length_map]; omega) hsz ?_
                intro v6 w6 hwo6 g6
                have nR := own_neW hwo bR (by decide)
                have nP := own_neW hwo (show we.heap[Bp]? = some (.cells _ 32 (0, 0)) from mP) (by decide)
                have nK := own_neW hwo hk (by decide)
                replace bR : Boxed w6 (w7.heap.size + 1) 41 (.pointer (some ⟨w7.heap.size, 0, none⟩)) := (g6.block _ bR.lt nR).trans bR
                replace mP := mP.at (g6.block _ mP.lt nP)
                replace hk := (g6.block _ (Array.getElem?_eq_some_iff.1 hk).1 nK).trans hk
                have hob := fun j e => (hwo.1.lt j e).1
                replace Bw := Bw.grown g6 Bw.size (fun j e => Nat.le_trans hs97 (hob j e))
                replace Gd := Gd.trans (Gs.own (fun _ e => .inr e) hwo g6)
                replace hsz := Nat.le_trans hsz g6.size
                obtain ⟨a7, c7, rfl, _, _, _⟩ := hwo6.read
                rw [show (pre.map (·.1) ++ [x]).length = pre.length + 1 from by simp] at hwo6 ⊢
                refine hK.out _ _ ⟨bR, mP⟩ (fun hHeld => ?_)
                clear hK K hwo hgw g6 nR nP nK hob
                try simp only [Act.put, List.setIfInBounds_toArray]
                refine take_to8 10 111 (.pointer (some ⟨w7.heap.size, 0, none⟩)) rfl rfl (by kernel_rfl) (by kernel_rfl) (by kernel_rfl) (fun _ _ _ h => h) (Or.inl ⟨by kernel_rfl, fun w' h => ?_⟩) hHeld ?_
                · go_simp
                try simp only [List.setIfInBounds_toArray, List.set_cons_zero, List.set_cons_succ]
                refine take_to8 11 112 (.pointer (some ⟨w7.heap.size, 0, none⟩)) rfl rfl (by kernel_rfl) (by kernel_rfl) (by kernel_rfl) (fun _ _ _ h => h) (Or.inl ⟨by kernel_rfl, fun w' h => ?_⟩) hHeld ?_
                · go_simp
                refine wpAnyH_ready (rs := [12]) (by kernel_rfl) (by simp) ?_
                refine AllReadyH.cons rfl (fun K hK => ?_) AllReadyH.nil
                rw [if_pos (by kernel_rfl)]
                have ck : w6.cell? ⟨w7.heap.size, 0, none⟩ = some (.slice as8 pre.length cs) := (cell_of_row _ _ 0 _ _ (0, 0) hk).trans rfl
                have fk : w6.frozen? ⟨w7.heap.size, 0, none⟩ = false := by simp [World.frozen?, hk]
                have b9 : Boxed w6 w7.heap.size 58 (.slice as8 pre.length cs) := hk
                go_wp2_with fail
                replace bR := bR.other (B' := w7.heap.size) (by omega) (.slice a7 (pre.length + 1) c7)
                replace mP := mP.at (Below.heap_setCell w6 ⟨w7.heap.size, 0, none⟩ (.slice a7 (pre.length + 1) c7) Bp (by show Bp ≠ w7.heap.size; omega))
                have hk9 := b9.set (.slice a7 (pre.length + 1) c7)
                have hwo9 := hwo6.set hk (by decide) (.slice a7 (pre.length + 1) c7)
                replace Gd := Gs.set Gd (.inl (.inl rfl)) (.slice a7 (pre.length + 1) c7)
                replace Bw := Bw.setCell (p := ⟨w7.heap.size, 0, none⟩) (Nat.le_refl _) (.slice a7 (pre.length + 1) c7)
                replace hsz := Nat.le_trans hsz (grownBy_setCell' w6 w7.heap.size (.slice a7 (pre.length + 1) c7)).size
                refine hK.out _ _ ⟨bR, mP⟩ (fun hHeld => ?_)
                clear hK K ck fk b9 hwo6
                try simp only [Act.put, List.setIfInBounds_toArray, List.set_cons_zero, List.set_cons_succ]
                refine wpAnyH_done (by kernel_rfl) ?_ _
                gi_wp2
                exact ⟨Gd.keepsC (fun j h => by
                  rcases h with rfl | h
                  · exact .inl (by omega)
                  · exact .inr (KC _ h)), Gd.kq (fun j h => by
                  rcases h with rfl | h
                  · exact ⟨by omega, .inl (by omega)⟩
                  · exact ⟨Nat.le_trans hs97 (KB _ h), .inr (KB _ h)⟩) HW7 HW9 (fun j h => by
                  rcases h with rfl | h
                  · exact NK
                  · exact KN _ h), ⟨⟨⟨_, hk9, by rw [List.map_append]; exact hwo9⟩, bR⟩, Bw, hsz⟩⟩
              · rw [if_pos (by kernel_rfl)]
                go_wp2_with fail
                have hgw : (wd.alloc (.cells #[.int .i64 x.F, .int .u64 x.H, .int .u64 x.L, .int .i64 x.B, .int .i64 x.K] 54)).heap[wd.heap.size]? = some (.cells #[.int .i64 x.F, .int .u64 x.H, .int .u64 x.L, .int .i64 x.B, .int .i64 x.K] 54 (0, 0)) := heap_alloc_new _ _
                replace bR := bR.alloc (.cells #[.int .i64 x.F, .int .u64 x.H, .int .u64 x.L, .int .i64 x.B, .int .i64 x.K] 54)
                replace mP := mP.alloc (.cells #[.int .i64 x.F, .int .u64 x.H, .int .u64 x.L, .int .i64 x.B, .int .i64 x.K] 54)
                replace hwo := hwo.kept ((Below.refl _ _).alloc (Nat.le_refl _) (.cells #[.int .i64 x.F, .int .u64 x.H, .int .u64 x.L, .int .i64 x.B, .int .i64 x.K] 54))
                replace hk := (Below.heap_alloc _ (.cells #[.int .i64 x.F, .int .u64 x.H, .int .u64 x.L, .int .i64 x.B, .int .i64 x.K] 54) _ (Array.getElem?_eq_some_iff.1 hk).1).trans hk
                replace Gd := Gd.alloc (.cells #[.int .i64 x.F, .int .u64 x.H, .int .u64 x.L, .int .i64 x.B, .int .i64 x.K] 54)
                replace Bw := Bw.alloc hs7 (.cells #[.int .i64 x.F, .int .u64 x.H, .int .u64 x.L, .int .i64 x.B, .int .i64 x.K] 54)
                replace hsz := Nat.le_trans hsz (Nat.le_of_lt (show wd.heap.size < (wd.alloc (.cells #[.int .i64 x.F, .int .u64 x.H, .int .u64 x.L, .int .i64 x.B, .int .i64 x.K] 54)).heap.size by simp))
                refine hK.out _ _ ⟨bR, mP⟩ (fun hHeld => ?_)
                clear hK K
                try simp only [Act.put, List.setIfInBounds_toArray, List.set_cons_zero, List.set_cons_succ]
                generalize wd.heap.size = gw at *
                generalize wd.alloc (.cells #[.int .i64 x.F, .int .u64 x.H, .int .u64 x.L, .int .i64 x.B, .int .i64 x.K] 54) = we at *
                refine wpAnyH_ready (rs := [4]) (by kernel_rfl) (by simp) ?_
                refine AllReadyH.cons rfl (fun K hK => ?_) AllReadyH.nil
                rw [if_pos (by kernel_rfl)]
                have ck : we.cell? ⟨w7.heap.size, 0, none⟩ = some (.slice as8 pre.length cs) := (cell_of_row _ _ 0 _ _ (0, 0) hk).trans rfl
                go_wp2_with fail
                refine hK.out _ _ ⟨bR, mP⟩ (fun hHeld => ?_)
                clear hK K ck
                try simp only [Act.put, List.setIfInBounds_toArray, List.set_cons_zero, List.set_cons_succ]
                refine wpAnyH_ready (rs := [9]) (by kernel_rfl) (by simp) ?_
                refine AllReadyH.cons rfl (fun K hK => ?_) AllReadyH.nil
                rw [if_pos (by kernel_rfl)]
                refine wp_way _ _ rfl w9.heap.size (.slice as8 pre.length cs) (pre.map (·.1)) rfl hwo gw x rfl hgw hxi (by have := hlt; rw [List.length_map]; omega) hsz ?_
                intro v6 w6 hwo6 g6
                have nR := own_neW hwo bR (by decide)
                have nP := own_neW hwo (show we.heap[Bp]? = some (.cells _ 32 (0, 0)) from mP) (by decide)
                have nK := own_neW hwo hk (by decide)
                replace bR : Boxed w6 (w7.heap.size + 1) 41 (.pointer (some ⟨w7.heap.size, 0, none⟩)) := (g6.block _ bR.lt nR).trans bR
                replace mP := mP.at (g6.block _ mP.lt nP)
                replace hk := (g6.block _ (Array.getElem?_eq_some_iff.1 hk).1 nK).trans hk
                have hob := fun j e => (hwo.1.lt j e).1
                replace Bw := Bw.grown g6 Bw.size (fun j e => Nat.le_trans hs97 (hob j e))
                replace Gd := Gd.trans (Gs.own (fun _ e => .inr e) hwo g6)
                replace hsz := Nat.le_trans hsz g6.size
                obtain ⟨a7, c7, rfl, _, _, _⟩ := hwo6.read
                rw [show (pre.map (·.1) ++ [x]).length = pre.length + 1 from by simp] at hwo6 ⊢
                refine hK.out _ _ ⟨bR, mP⟩ (fun hHeld => ?_)
                clear hK K hwo hgw g6 nR nP nK hob
                try simp only [Act.put, List.setIfInBounds_toArray]
                refine take_to8 10 111 (.pointer (some ⟨w7.heap.size, 0, none⟩)) rfl rfl (by kernel_rfl) (by kernel_rfl) (by kernel_rfl) (fun _ _ _ h => h) (Or.inl ⟨by kernel_rfl, fun w' h => ?_⟩) hHeld ?_
                · go_simp
                try simp only [List.setIfInBounds_toArray, List.set_cons_zero, List.set_cons_succ]
                refine take_to8 11 112 (.pointer (some ⟨w7.heap.size, 0, none⟩)) rfl rfl (by kernel_rfl) (by kernel_rfl) (by kernel_rfl) (fun _ _ _ h => h) (Or.inl ⟨by kernel_rfl, fun w' h => ?_⟩) hHeld ?_
                · go_simp
                refine wpAnyH_ready (rs := [12]) (by kernel_rfl) (by simp) ?_
                refine AllReadyH.cons rfl (fun K hK => ?_) AllReadyH.nil
                rw [if_pos (by kernel_rfl)]
                have ck : w6.cell? ⟨w7.heap.size, 0, none⟩ = some (.slice as8 pre.length cs) := (cell_of_row _ _ 0 _ _ (0, 0) hk).trans rfl
                have fk : w6.frozen? ⟨w7.heap.size, 0, none⟩ = false := by simp [World.frozen?, hk]
                have b9 : Boxed w6 w7.heap.size 58 (.slice as8 pre.length cs) := hk
                go_wp2_with fail
                replace bR := bR.other (B' := w7.heap.size) (by omega) (.slice a7 (pre.length + 1) c7)
                replace mP := mP.at (Below.heap_setCell w6 ⟨w7.heap.size, 0, none⟩ (.slice a7 (pre.length + 1) c7) Bp (by show Bp ≠ w7.heap.size; omega))
                have hk9 := b9.set (.slice a7 (pre.length + 1) c7)
                have hwo9 := hwo6.set hk (by decide) (.slice a7 (pre.length + 1) c7)
                replace Gd := Gs.set Gd (.inl (.inl rfl)) (.slice a7 (pre.length + 1) c7)
                replace Bw := Bw.setCell (p := ⟨w7.heap.size, 0, none⟩) (Nat.le_refl _) (.slice a7 (pre.length + 1) c7)
                replace hsz := Nat.le_trans hsz (grownBy_setCell' w6 w7.heap.size (.slice a7 (pre.length + 1) c7)).size
                refine hK.out _ _ ⟨bR, mP⟩ (fun hHeld => ?_)
                clear hK K ck fk b9 hwo6
                try simp only [Act.put, List.setIfInBounds_toArray, List.set_cons_zero, List.set_cons_succ]
                refine wpAnyH_done (by kernel_rfl) ?_ _
                gi_wp2
                exact ⟨Gd.keepsC (fun j h => by
                  rcases h with rfl | h
                  · exact .inl (by omega)
                  · exact .inr (KC _ h)), Gd.kq (fun j h => by
                  rcases h with rfl | h
                  · exact ⟨by omega, .inl (by omega)⟩
                  · exact ⟨Nat.le_trans hs97 (KB _ h), .inr (KB _ h)⟩) HW7 HW9 (fun j h => by
                  rcases h with rfl | h
                  · exact NK
                  · exact KN _ h), ⟨⟨⟨_, hk9, by rw [List.map_append]; exact hwo9⟩, bR⟩, Bw, hsz⟩⟩
            case done =>
              subst hA
              rintro Dd ys W hD hys ⟨⟨⟨s, hk, hwo⟩, bR⟩, Bw, hsz⟩ hK
              rw [hys] at hwo
              have HTW := hid (R.kept HT.out Bw)
              have mW := m7.kept Bw
              have BW : Below w.heap.size w W := B7.trans (Bw.mono B7.size)
              have HUW := hid (R.kept HU.out Bw)
              have ka := all_ R _ _ E W HUW.out ⟨_, s, rfl, hk, hwo.mono (Nat.zero_le _)⟩ hEl
              have cR := bR.cell
              clear hk hwo B7 m7 HT HU Bw
              gi_wp2
              refine ⟨trivial, ?_⟩
              refine (callsIn_wide.2 ka).mono ?_
              rintro e wa ⟨rfl, ga⟩
              have mA := mW.kept ga
              have BA := BW.trans (ga.mono BW.size)
              have hKA := (ga.block Dd (Array.getElem?_eq_some_iff.1 hK).1).trans hK
              have kf := R.find_ wa _ E F H L (R.kept HTW.out ga) hF hH hL hEl
              have HU2 := hid (R.kept HUW.out ga)
              have c0 := mA.c0
              have c1 := mA.c1
              have c2 := mA.c2
              clear cR ka ga mW BW hK HTW HUW
              gi_wp2
              refine ⟨trivial, ?_⟩
              refine (callsIn_wide.2 kf).mono ?_
              rintro e wb ⟨rfl, gb⟩
              have mB := mA.kept gb
              have BB := BA.trans (gb.mono BA.size)
              have hKB := (gb.block Dd (Array.getElem?_eq_some_iff.1 hKA).1).trans hKA
              have kg := R.find_ wb _ E F H L (R.kept HU2.out gb) hF hH hL hEl
              have d0 := mB.c0
              have d1 := mB.c1
              have d2 := mB.c2
              clear c0 c1 c2 kf gb mA BA hKA HU2
              gi_wp2
              refine ⟨trivial, ?_⟩
              refine (callsIn_wide.2 kg).mono ?_
              rintro e wc ⟨rfl, gc⟩
              have BC := BB.trans (gc.mono BB.size)
              have hKC := (gc.block Dd (Array.getElem?_eq_some_iff.1 hKB).1).trans hKB
              have FC : Below w.heap.size w (wc.putObj Dd (.deferred none)) := BC.trans (belowK_b (w := w) (Nat.le_refl _) _ Dd _ _ (by have := B9.size; have := hw79; omega) hKC rfl rfl)
              clear d0 d1 d2 kg gc mB BB hKB
              generalize fK E F H L = fk at *
              generalize fO E F H L = fo at *
              gi_wp2
              refine ⟨by simp, .inl ⟨_, _, rfl, run_takeDeferred hKC, ?_⟩⟩
              exact ⟨_, results_tmp rfl _ _ _, by simp, FC⟩
            case stop =>
              rintro Dd c pre W _ _ h _
              exact h.elim
end Go.Proofs.Ytcaecfdeieoenaa
