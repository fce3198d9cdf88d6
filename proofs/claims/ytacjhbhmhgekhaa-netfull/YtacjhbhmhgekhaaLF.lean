import Derived.Test.YtacjhbhmhgekhaaLP0
import Derived.Test.YtacjhbhmhgekhaaKO
namespace Go.Proofs.Ytacjhbhmhgekhaa
open Go.RowKit
set_option linter.unusedVariables false
set_option maxRecDepth 100000

/-- What holds while the net is filled. -/
def Fil (j : Nat) (L : List Fl) (g : Int) : Prop := L.length = min j 1024 ∧ (j = 0 → g = 0) ∧ (0 < j → (fnd L 1).isSome = true)
theorem Fil.step {j : Nat} {L : List Fl} {g tt : Int} {d : List Int} (h : Fil j L g) : Fil (j + 1) (sndL L g tt d) (sndG L g) := by
  obtain ⟨h1, h2, h3⟩ := h
  unfold sndL sndG
  by_cases hl : L.length < 1024
  · rw [if_pos hl, if_pos hl]
    refine ⟨by rw [List.length_append, List.length_singleton]; omega, fun e => by omega, fun _ => ?_⟩
    unfold fnd at *
    rw [List.find?_append]
    by_cases hj : 0 < j
    · obtain ⟨y, hy⟩ := Option.isSome_iff_exists.1 (h3 hj)
      rw [hy]
      rfl
    · have h0 := h2 (by omega)
      have hL : L = [] := List.eq_nil_of_length_eq_zero (by omega)
      subst hL h0
      rfl
  · rw [if_neg hl, if_neg hl]
    exact ⟨by omega, fun e => by omega, fun _ => h3 (by omega)⟩
theorem Ics.get {w : World} {a : Option Addr} {n j : Nat} {l : List Int} (h : Ics w a n l) (hj : j < n) : ∃ b off x, a = some ⟨b, off, none⟩ ∧ i64r x ∧ ∀ wx, Below w.heap.size w wx → wx.cell? ⟨b, off + j, none⟩ = some (.int .i64 x) := by
  rcases h.at' with h0 | ⟨b, off, e, hc⟩
  · omega
  · exact ⟨b, off, _, e, h.ok j hj, fun wx hb => (hb.cell (World.block_lt_of_cell? w _ (hc j hj))).trans (hc j hj)⟩
theorem dropOk (x : Int) (h : i64r x) : (⟨3, false, 0, x, 0, 0, none, 0, 0, []⟩ : Wop).ok := ⟨i64c 3 (by decide), i64c 0 (by decide), h, i64c 0 (by decide), i64c 0 (by decide)⟩
set_option maxHeartbeats 8000000 in
/-- NetFull. -/
theorem netFull_ (tt : Int) (a : Option Addr) (n c : Nat) (d : List Int) (ga : Option Addr) (gn gc : Nat) (gl : List Int) (more : Int) (w : World) (ht : i64r tt) (hd : Vs w (fun x => x < w.heap.size) a n c d) (hg : Ics w ga gn gl) (hm : i64r more) :
    Calls Try.prog 4 #[.int .i64 tt, .slice a n c, .slice ga gn gc, .int .i64 more] w fun e w' => e = .returned (.bool true) ∧ Below w.heap.size w w' := by
  have HT := hid ht
  have HD := hid hd
  have HGL := hid hg
  unfold i64r at hm
  clear ht hd hg
  by_cases hn : n ≤ 2048
  case neg =>
    have hnI : (2048 : Int) < n := by omega
    go_enter Try.func4, Try.ntmps4
    go_wp2_with fail
    refine (known_ w).mono ?_
    rintro e w1 ⟨rfl, g1⟩
    have G1 := hid g1
    clear g1
    go_wp2_with fail
    go_ret
    exact ⟨rfl, G1.out⟩
  case pos =>
  have hnI : ¬ (2048 : Int) < n := by omega
  have HN := hid hn
  go_enter Try.func4, Try.ntmps4
  go_wp2_with fail
  refine (known_ w).mono ?_
  rintro e w1 ⟨rfl, g1⟩
  have G1 := hid g1
  have k1 := begin_ w w1 g1
  clear g1
  go_wp2_with fail
  refine k1.mono ?_
  rintro e w2 ⟨q, p, r, rfl, h2, g2⟩
  have HQ := hid (Pq.begin G1.out h2 g2)
  have k2 := many_ Fil w w2 _ (fun x => x < w.heap.size) q 0 0 false tt 0 0 0 a n c d HQ.out (by omega) h2 (by simp) (by omega) ⟨rfl, fun _ => rfl, fun e => by simp at e⟩ (fun j L g h => h.step) (HD.out.step fun k hk _ _ => HQ.out.bel.block k hk) (fun k e q' => by have := HQ.out.lo k q'; omega) HT.out (i64c 0 (by decide))
  clear k1 h2 g2
  go_wp2_with fail
  refine k2.mono ?_
  rintro e w3 ⟨rfl, hmn⟩
  have HS3 := hid hmn.1
  obtain ⟨p3, r3, rv3, zs3, lg3, L, g, j3, hp3, hf3, hj3, hz3, hgb⟩ := hmn.2 (by have := HN.out; omega) (by omega) (by omega)
  have HLL : Hid (L.length = 1024) := by show _ = _; have := hf3.1; omega
  have HF1 : Hid ((fnd L 1).isSome = true) := hf3.2.2 (by omega)
  have HP3 := hid hp3
  have HZ3 := hid hz3
  have HQ3 := hid hmn.1.1
  obtain ⟨F, G, hF, hG, h3, h4, h5⟩ := hp3.fg
  have HF := hid hF
  have HGN := hid hG
  have H3 := hid h3
  have H4 := hid h4
  have H5 := hid h5
  have c0 := hp3.blk.c0
  have k3 := send_no tt a n c hF (by rw [HLL.out]; omega)
  clear k2 hmn hp3 hf3 hj3 hz3 hF hG h3 h4 h5
  go_wp2_with fail
  refine k3.mono ?_
  rintro e w4 ⟨rfl, hw4⟩
  obtain rfl := hw4.symm
  clear hw4 k3
  have e1 : cpyA L g 1 = 0 := by unfold cpyA sndA; rw [HF1.out]; simp only [if_true]; rw [if_neg (by rw [HLL.out]; omega)]
  have e2 : cpyL L g 1 = L := by
    unfold cpyL
    obtain ⟨y, hy⟩ := Option.isSome_iff_exists.1 HF1.out
    rw [hy]
    simp only []
    unfold sndL
    rw [if_neg (by rw [HLL.out]; omega)]
  have e3 : cpyG L g 1 = g := by unfold cpyG sndG; rw [HF1.out]; simp only [if_true]; rw [if_neg (by rw [HLL.out]; omega)]
  have e4 : erN L 1 = 0 := by unfold erN; rw [HF1.out]; rfl
  have k4 := copy_ 1 (i64c 1 (by decide)) HF.out (by omega)
  rw [e1, e2, e3, e4] at k4
  clear e1 e2 e3 e4
  go_wp2_with fail
  refine k4.mono ?_
  rintro e w4 ⟨rfl, n4, f4⟩
  have h4p := HP3.out.two HF.out.lt HGN.out.lt H3.out H4.out H5.out f4 (fun k e => gr_sub (Nat.le_refl _) e) n4 (Fx.refl G w4) (fun k e => ⟨.inl e, Nat.lt_of_lt_of_le (HGN.out.lt k e) f4.size⟩) (HGN.out.fx f4 fun k e q' => (H3.out k q').1 e)
  have HQ4 := hid (Pstep.mk HQ3.out h4p.1 h4p.2 HZ3.out (show g ≤ 1100 by omega)).1
  have d0 := h4p.1.blk.c0
  obtain ⟨F', G', hF', -⟩ := h4p.1.fg
  have k5 := under_ hF'
  clear k4 n4 f4 h4p hF' c0 HP3 HF HGN H3 H4 H5 HQ3 HS3
  have kn := num_ 0 w4
  go_wp2_with (go_at_call 16; refine kn.mono ?_; rintro e wz ⟨rfl, hwz⟩; subst hwz)
  refine k5.mono ?_
  rintro e w5 ⟨a5, n5, c5, hn5, rfl, -, -, -, -, g5⟩
  have hn5' : n5 = 1024 := by rw [hn5]; exact HLL.out
  clear hn5
  subst hn5'
  have HQ5 := hid (HQ4.out.gr g5)
  clear k5 g5 d0 kn HQ4 hgb
  go_wp2_with fail
  go_loopw [14] (fun i wr => ∃ (j : Nat) (X : Nat → Prop), j ≤ gn ∧ (j : Int) ≤ 50 ∧ i = .int .i64 j ∧ Hid (Pq w wr X q (1100 + 1100 * (j : Int)))) (fun i _ => gn - (intOf i).toNat)
  case atStart => exact ⟨0, _, by omega, by omega, rfl, HQ5⟩
  case round =>
    clear HQ5 HQ
    obtain ⟨j, X, hj, hj2, rfl, HP⟩ := hrel
    by_cases hlt : j < gn ∧ (j : Int) < 50
    case pos =>
      obtain ⟨hlt, h50⟩ := hlt
      have hjI : (j : Int) < gn := by omega
      obtain ⟨b, off, x, rfl, hx, hc⟩ := HGL.out.get hlt
      have c3 := hc wr HP.out.bel
      have k1 := HP.out.plays (by omega) (y := ⟨3, false, 0, x, 0, 0, none, 0, 0, []⟩) (dropOk x hx) (vs_none wr _)
      unfold Wop.v at k1
      simp only at k1
      clear hc hx
      go_wp2_with fail
      refine k1.mono ?_
      rintro e w4 ⟨rfl, hs⟩
      have H4 : Hid (Pq w w4 (Gr X wr w4) q (1100 + 1100 * ((j + 1 : Nat) : Int))) := hs.1.more (by omega)
      clear k1 hs c3
      go_wp2_with fail
      go_roundw
      case rel => exact ⟨j + 1, _, by omega, by omega, by go_num, H4⟩
      case measure => simp [intOf]; omega
    case neg =>
      have hor : (j : Int) < gn ∧ ¬ (j : Int) < 50 ∨ ¬ (j : Int) < gn := by omega
      clear hlt
      rcases hor with ⟨hjI, h50⟩ | hjI
      all_goals
        go_wp2_with fail
        go_loopw [16] (fun i wr => ∃ (z : Nat) (X : Nat → Prop), (z : Int) ≤ 60 ∧ i = .int .i64 z ∧ Hid (Pq w wr X q (60000 + 1100 * (z : Int)))) (fun i _ => 60 - (intOf i).toNat)
        case atStart => exact ⟨0, X, by omega, rfl, HP.out.more (by omega)⟩
        case round =>
          clear HP
          obtain ⟨z, X, hz, rfl, HP⟩ := hrel
          by_cases hlz : (z : Int) < more ∧ (z : Int) < 60
          case pos =>
            obtain ⟨hl1, hl2⟩ := hlz
            have hmod : ((z : Int).tmod 2) = ((z % 2 : Nat) : Int) := by
              rw [Int.tmod_eq_emod_of_nonneg (by omega)]
              omega
            obtain ⟨t, HTT⟩ : ∃ t, Hid (z % 2 = t) := ⟨_, rfl⟩
            rw [HTT.out] at hmod
            have ht2 : t = 0 ∨ t = 1 := by have := HTT.out; omega
            have hmod2 : ((z : Int) % 2) = (t : Int) := by have := HTT.out; omega
            have HV := hid (HD.out.step (w' := wr) fun k hk _ _ => HP.out.bel.block k hk)
            rcases ht2 with rfl | rfl
            · have k1 := HP.out.plays (by omega) (y := ⟨1, false, tt, 1024, 0, 0, a, n, c, d⟩) ⟨i64c 1 (by decide), HT.out, i64c 1024 (by decide), i64c 0 (by decide), i64c 0 (by decide)⟩ HV.out
              unfold Wop.v at k1
              simp only at k1
              go_wp2_with fail
              refine k1.mono ?_
              rintro e w4 ⟨rfl, hs⟩
              have H4 : Hid (Pq w w4 (Gr X wr w4) q (60000 + 1100 * ((z + 1 : Nat) : Int))) := hs.1.more (by omega)
              clear k1 hs
              go_wp2_with fail
              go_roundw
              case rel => exact ⟨z + 1, _, by omega, by go_num, H4⟩
              case measure => simp [intOf]; omega
            · have k1 := HP.out.plays (by omega) (y := ⟨4, false, tt, 1024, 0, 0, a, n, c, d⟩) ⟨i64c 4 (by decide), HT.out, i64c 1024 (by decide), i64c 0 (by decide), i64c 0 (by decide)⟩ HV.out
              unfold Wop.v at k1
              simp only at k1
              go_wp2_with fail
              refine k1.mono ?_
              rintro e w4 ⟨rfl, hs⟩
              have H4 : Hid (Pq w w4 (Gr X wr w4) q (60000 + 1100 * ((z + 1 : Nat) : Int))) := hs.1.more (by omega)
              clear k1 hs
              go_wp2_with fail
              go_roundw
              case rel => exact ⟨z + 1, _, by omega, by go_num, H4⟩
              case measure => simp [intOf]; omega
          case neg =>
            have hor : (z : Int) < more ∧ ¬ (z : Int) < 60 ∨ ¬ (z : Int) < more := by omega
            clear hlz
            rcases hor with ⟨hq1, hq2⟩ | hq1
            all_goals
              have k1 := HP.out.under
              go_wp2_with fail
              refine k1.mono ?_
              rintro e w4 ⟨rfl, hs⟩
              have HB := hid hs.1.bel
              clear k1 hs
              go_wp2_with fail
              go_ret
              exact ⟨rfl, HB.out⟩
end Go.Proofs.Ytacjhbhmhgekhaa
