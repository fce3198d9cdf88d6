import Derived.Test.YtheafbbihejdmaaMH
namespace Go.Proofs.Ytheafbbihejdmaa
set_option maxRecDepth 100000
open Go.RowKit Go.Shelf
set_option linter.unusedVariables false

theorem Pl.len {w : World} {B : Nat} {v : Value} {P : List (Nat × List Int)} {J : List It} (h : Pl w B v P J) : ∃ a c, v = .slice a P.length c := by
  have hl : P.length = J.length := by rw [h.ip, List.length_map]
  rw [hl]
  rcases h.own.2 with ⟨rfl, h0⟩ | ⟨g, cap, cur, rfl, _⟩
  · exact ⟨none, 0, by rw [h0]⟩
  · exact ⟨_, _, rfl⟩
theorem Sy.len {w0 w : World} {d g : Nat} {s : St} {Q : Nat → Prop} (h : Sy w0 w d s Q g) : ∃ a c, w.cell? ⟨g, 32, none⟩ = some (.slice a s.P.length c) := by
  obtain ⟨cur, pa, pc, I, m⟩ := h.md
  have e : s.P.length = I.length := by rw [m.ip, List.length_map]
  rw [e]
  exact ⟨_, _, m.c32⟩
theorem bl3 (w : World) : Bl (w.alloc (.cells #[.bool true, .bool true, .bool true] 4)) (some ⟨w.heap.size, 0, none⟩) 3 [true, true, true] := by
  have h : (w.alloc (.cells #[.bool true, .bool true, .bool true] 4)).heap[w.heap.size]? = some (.cells #[.bool true, .bool true, .bool true] 4 (0, 0)) := heap_alloc_new w _
  refine ⟨rfl, .inr ⟨w.heap.size, 0, rfl, fun i hi => ?_⟩⟩
  rw [Nat.zero_add]
  match i, hi with
  | 0, _ => exact (cell_of_row _ _ 0 _ 4 (0, 0) h).trans rfl
  | 1, _ => exact (cell_of_row _ _ 1 _ 4 (0, 0) h).trans rfl
  | 2, _ => exact (cell_of_row _ _ 2 _ 4 (0, 0) h).trans rfl
theorem okF11 : okF [(1, 1)] := ⟨fun f hf => by
  obtain rfl : f = (1, 1) := by simpa using hf
  exact ⟨by decide, .inl rfl⟩, by simp⟩
theorem sv_armed {s : St} (h : Clean s) : ((arS s [(1, 1)]).S = s.S ∧ (arS s [(1, 1)]).P = s.P ∧ (arS s [(1, 1)]).n = s.n ∧ (arS s [(1, 1)]).c ≤ 1) ∧ opE (arS s [(1, 1)]) = 104 ∧ (flS (arS s [(1, 1)])).S = (arS s [(1, 1)]).S ∧ (flS (arS s [(1, 1)])).P = (arS s [(1, 1)]).P ∧ (flS (arS s [(1, 1)])).n = (arS s [(1, 1)]).n ∧ (flS (arS s [(1, 1)])).c ≤ 2 ∧ (flS (arS s [(1, 1)])).k = s.k := by
  have e : arS s [(1, 1)] = { s with F := lookF [(1, 1)], c := 0 } := by
    unfold arS
    rw [if_pos ⟨okF11, h.on⟩]
  have e1 : opE (arS s [(1, 1)]) = 104 := by
    rw [e]
    unfold opE
    rw [if_pos h.on]
    rfl
  have e2 : flS (arS s [(1, 1)]) = opS (arS s [(1, 1)]) := by
    unfold flS
    rw [e1, if_neg (by decide)]
  have o1 := opS_c (arS s [(1, 1)])
  have hc : (arS s [(1, 1)]).c = 0 := by rw [e]
  have hk : (arS s [(1, 1)]).k = s.k := by rw [e]
  refine ⟨⟨by rw [e], by rw [e], by rw [e], by omega⟩, e1, ?_⟩
  rw [e2]
  exact ⟨opS_S _, opS_P _, opS_n _, by omega, by rw [opS_k, hk]⟩
set_option maxHeartbeats 8000000 in
theorem diskSurvivors_ (a1 a2 a3 : Option Addr) (n1 c1 n2 c2 n3 c3 : Nat) (O1 O2 : Nat → Pv) (ks : List Bool) (off : Bool) (w : World) (h1 : IsPuts w a1 n1 O1) (h2 : IsPuts w a2 n2 O2) (h3 : Bl w a3 n3 ks) (hn1 : n1 ≤ 140737488355328) (hn2 : n2 ≤ 140737488355328) (hn3 : n3 ≤ 140737488355328) :
    Calls Try.prog 8 #[.slice a1 n1 c1, .slice a2 n2 c2, .slice a3 n3 c3, .bool off] w fun e w' => e = .returned (.bool true) ∧ Below w.heap.size w w' := by
  have H1 := hid h1
  have H2 := hid h2
  have H3 := hid h3
  clear h1 h2 h3
  go_enter Try.func8, Try.ntmps8
  go_wp2_with fail
  refine (first_ w).mono ?_
  rintro e w1 ⟨rfl, B1⟩
  go_wp2_with fail
  refine (new_ 32 w1 (by decide) (by decide)).mono ?_
  rintro e w2 ⟨d, rfl, D2, g2⟩
  have B2 := bel_bel B1 B1.size g2
  have S0 := hid (sy_new (w0 := w) D2 (fun b hb => Nat.le_trans B1.size hb.1) B2)
  generalize (fun b => w1.heap.size ≤ b ∧ b < w2.heap.size) = Q0 at *
  clear B1 g2 D2 B2
  go_wp2_with (refine wpList_mz rfl rfl ?_)
  go_loopw [12] (fun i wr => ∃ (j : Nat) (s : St) (Q : Nat → Prop), j ≤ n1 ∧ j ≤ 60 ∧ i = .int .i64 j ∧ Sy w wr d s Q w2.heap.size ∧ Clean s ∧ s.c ≤ j ∧ s.P.length ≤ j ∧ s.k = 0) (fun i _ => n1 - (intOf i).toNat)
  case atStart => exact ⟨0, _, _, Nat.zero_le _, Nat.zero_le _, rfl, S0.out, ⟨rfl, fun _ => rfl⟩, Nat.le_refl _, Nat.le_refl _, rfl⟩
  case round =>
    clear S0
    obtain ⟨j, s, Q, hj, hj3, rfl, hs, hcl, hc, hp, hk⟩ := hrel
    generalize w2.heap.size = g at *
    by_cases hlt : j < n1 ∧ j < 60
    · have hjI : (j : Int) < (n1 : Int) := by omega
      have hjI3 : (j : Int) < 60 := by omega
      obtain ⟨b, off1, rfl, x0, x1⟩ := H1.out.cells hlt.1 hs.bel
      have kf : ∀ wx, Drawn wr wx → _ := fun wx (hx : Drawn wr wx) => follows_ w wx d g s Q (O1 j).op (hs.below hx.below) (H1.out.ok hlt.1).op (by omega) (by omega) (by omega)
      have hfo := pv_fol (H1.out.ok hlt.1) hcl hs.n
      have HCL : Hid (∀ wx, Below w.heap.size w wx → wx.cell? ⟨b, off1 + j * 2, none⟩ = some (.int .i64 (O1 j).I) ∧ wx.cell? ⟨b, off1 + j * 2 + 1, none⟩ = some (.slice (O1 j).A (O1 j).N (O1 j).C)) := fun wx hx => by
        obtain ⟨b', off', e, q⟩ := H1.out.cells hlt.1 hx
        obtain ⟨rfl, rfl⟩ : b = b' ∧ off1 = off' := by simpa using e
        exact q
      obtain ⟨s', HS'⟩ : ∃ s', Hid ((O1 j).op.fol s = s') := ⟨_, rfl⟩
      rw [HS'.out] at hfo
      simp only [HS'.out] at kf
      unfold Pv.op at kf
      simp only at kf
      generalize (O1 j).I = oI at *
      generalize (O1 j).A = oA at *
      generalize (O1 j).N = oN at *
      generalize (O1 j).C = oC at *
      clear hs hlt HS'
      go_wp2_with fail
      go_region_held (fun wx => wx.cell? ⟨b, off1 + j * 2, none⟩ = some (.int .i64 oI) ∧ wx.cell? ⟨b, off1 + j * 2 + 1, none⟩ = some (.slice oA oN oC)) (go_keep) (first | (go_at_call 25; refine (kf _ (by exact ⟨rfl, rfl, rfl, rfl⟩)).mono ?_; rintro e w3 ⟨rfl, Q3, S3⟩; have u := HCL.out _ S3.bel; have u0 := u.1; have u1 := u.2))
      have HS3 := hid S3
      clear kf x0 x1 S3 u u0 u1 HCL
      go_wp2_with fail
      go_roundw
      case rel => exact ⟨j + 1, s', Q3, by omega, by omega, by go_num, HS3.out, hfo.1, by omega, by omega, by omega⟩
      case measure => simp [intOf]; omega
    · have k4 := follows_ w wr d g s Q (opK 4 none 0 0 []) hs (opK_ok ⟨rfl, .inl rfl⟩ (by decide)) (by omega) (by omega) (by omega)
      have h4 := op4_fol hcl
      obtain ⟨s4, HS4⟩ : ∃ s4, Hid ((opK 4 none 0 0 []).fol s = s4) := ⟨_, rfl⟩
      rw [HS4.out] at k4 h4
      unfold opK at k4
      simp only at k4
      obtain ⟨h4c, h4p, h4n, h4k⟩ := h4
      have hjj : ¬ (j : Int) < (n1 : Int) ∨ ((j : Int) < (n1 : Int) ∧ ¬ (j : Int) < 60) := by omega
      have h4n' : s4.c ≤ 61 := by omega
      have h4k' : s4.k = 0 := by omega
      clear hlt hs hcl HS4 hp hc hk h4n h4k
      rcases hjj with hjI | ⟨hjI, hjI3⟩
      all_goals
        go_wp2_with fail
        refine k4.mono ?_
        rintro e w4 ⟨rfl, Q4, S4⟩
        have HS4 := hid S4
        clear k4 S4
        go_wp2_with fail
        go_loopw [13, 14] (fun nn i wr => ∃ (j : Nat) (s : St) (Q : Nat → Prop), j ≤ n2 ∧ j ≤ 60 ∧ nn = .int .i64 j ∧ i = .int .i64 j ∧ Sy w wr d s Q g ∧ Clean s ∧ s.c ≤ j + 61 ∧ s.P.length = j ∧ s.k = 0) (fun _ i _ => n2 - (intOf i).toNat)
        case atStart => exact ⟨0, _, _, Nat.zero_le _, Nat.zero_le _, rfl, rfl, HS4.out, h4c, by omega, by rw [h4p]; rfl, h4k'⟩
        case round =>
          clear HS4 h4c h4p h4n' h4k' hjI hj hj3
          obtain ⟨j, s, Q, hj, hj3, rfl, rfl, hs, hcl, hc, hp, hk⟩ := hrel
          by_cases hlt : j < n2 ∧ j < 60
          · have hjI : (j : Int) < (n2 : Int) := by omega
            have hjI3 : (j : Int) < 60 := by omega
            obtain ⟨b, off1, rfl, x0, x1⟩ := H2.out.cells hlt.1 hs.bel
            have kf : ∀ wx, Drawn wr wx → _ := fun wx (hx : Drawn wr wx) => follows_ w wx d g s Q (O2 j).op (hs.below hx.below) (H2.out.ok hlt.1).op (by omega) (by omega) (by omega)
            have hfo := pv_fol (H2.out.ok hlt.1) hcl hs.n
            have HCL : Hid (∀ wx, Below w.heap.size w wx → wx.cell? ⟨b, off1 + j * 2, none⟩ = some (.int .i64 (O2 j).I) ∧ wx.cell? ⟨b, off1 + j * 2 + 1, none⟩ = some (.slice (O2 j).A (O2 j).N (O2 j).C)) := fun wx hx => by
              obtain ⟨b', off', e, q⟩ := H2.out.cells hlt.1 hx
              obtain ⟨rfl, rfl⟩ : b = b' ∧ off1 = off' := by simpa using e
              exact q
            obtain ⟨s', HS'⟩ : ∃ s', Hid ((O2 j).op.fol s = s') := ⟨_, rfl⟩
            rw [HS'.out] at hfo
            simp only [HS'.out] at kf
            unfold Pv.op at kf
            simp only at kf
            generalize (O2 j).I = oI at *
            generalize (O2 j).A = oA at *
            generalize (O2 j).N = oN at *
            generalize (O2 j).C = oC at *
            clear hs hlt HS'
            go_wp2_with fail
            go_region_held (fun wx => wx.cell? ⟨b, off1 + j * 2, none⟩ = some (.int .i64 oI) ∧ wx.cell? ⟨b, off1 + j * 2 + 1, none⟩ = some (.slice oA oN oC)) (go_keep) (first | (go_at_call 25; refine (kf _ (by exact ⟨rfl, rfl, rfl, rfl⟩)).mono ?_; rintro e w3 ⟨rfl, Q3, S3⟩; have u := HCL.out _ S3.bel; have u0 := u.1; have u1 := u.2))
            have HS3 := hid S3
            clear kf x0 x1 S3 u u0 u1 HCL
            go_wp2_with fail
            go_roundw
            case rel => exact ⟨j + 1, s', Q3, by omega, by omega, by go_num, by go_num, HS3.out, hfo.1, by omega, by omega, by omega⟩
            case measure => simp [intOf]; omega
          · have kq := pending_ d s Q wr hs.dev (by omega)
            have HS := hid hs
            have hjj : ¬ (j : Int) < (n2 : Int) ∨ ((j : Int) < (n2 : Int) ∧ ¬ (j : Int) < 60) := by omega
            have ht : ((j : Int) != (j : Int)) = false := by simp
            clear hs hlt
            rcases hjj with hjI | ⟨hjI, hjI3⟩
            all_goals
              go_wp2_with fail
              refine kq.mono ?_
              rintro e w5 ⟨⟨v5, J, rfl, hJ⟩, g5⟩
              obtain ⟨va, vc, rfl⟩ := hJ.len
              rw [hp]
              have S5 := HS.out.below g5
              obtain ⟨pa, pc, c32⟩ := S5.len
              rw [hp] at c32
              have HS5 := hid S5
              clear kq hJ g5 S5 HS
              cases off with
              | true =>
                have gF : Below w5.heap.size w5 (w5.alloc (.cells #[.int .i64 1, .int .i64 1] 71)) := (Below.refl _ _).alloc (Nat.le_refl _) _
                have SF := HS5.out.below gF
                have FA : Fs (w5.alloc (.cells #[.int .i64 1, .int .i64 1] 71)) (some ⟨w5.heap.size, 0, none⟩) 1 [(1, 1)] := by
                  have h := cells2_new w5 (.int .i64 1) (.int .i64 1) 71
                  refine ⟨rfl, .inr ⟨w5.heap.size, 0, rfl, fun i hi => ?_⟩⟩
                  obtain rfl : i = 0 := by omega
                  exact h
                have ka := arm_ d s Q (some ⟨w5.heap.size, 0, none⟩) 1 1 [(1, 1)] _ SF.dev FA (by decide)
                obtain ⟨⟨q1, q2, q3, q4⟩, r1, r2, r3, r4, r5, r6⟩ := sv_armed hcl
                obtain ⟨sA, HSA⟩ : ∃ sA, Hid (arS s [(1, 1)] = sA) := ⟨_, rfl⟩
                rw [HSA.out] at ka q1 q2 q3 q4 r1 r2 r3 r4 r5 r6
                have HSF := hid SF
                clear gF SF FA
                go_wp2_with fail
                refine ka.mono ?_
                rintro e wA ⟨rfl, DA, FrA⟩
                have SA := HSF.out.step DA FrA q1 q2 q3
                generalize (fun b => Q b ∨ ((w5.alloc (.cells #[.int .i64 1, .int .i64 1] 71)).heap.size ≤ b ∧ b < wA.heap.size)) = QA at *
                have kl := flush_ d sA QA wA SA.dev (by omega) (by rw [q2]; omega)
                rw [r1] at kl
                have HSA2 := hid SA
                clear ka DA FrA SA HSF HS5 c32
                go_wp2_with fail
                refine kl.mono ?_
                rintro e wB ⟨rfl, DB, FrB⟩
                have SB := HSA2.out.step0 DB FrB r2 r3 r4
                obtain ⟨sB, HSB⟩ : ∃ sB, Hid (flS sA = sB) := ⟨_, rfl⟩
                rw [HSB.out] at SB r2 r3 r4 r5 r6
                have hpB : sB.P.length = j := by rw [r3, q2, hp]
                have kq := pending_ d sB QA wB SB.dev (by omega)
                have HSB2 := hid SB
                clear kl DB FrB SB HSA2
                go_wp2_with fail
                refine kq.mono ?_
                rintro e wC ⟨⟨vC, JC, rfl, hJC⟩, gC⟩
                obtain ⟨vaC, vcC, rfl⟩ := hJC.len
                rw [hpB]
                have HSC := hid (HSB2.out.below gC)
                have hcB : sB.c ≤ 100000 := by omega
                have hkB : sB.k ≤ 100000 := by omega
                have c32 : True := trivial
                clear kq hJC gC HSB2 q1 q2 q3 q4 r1 r2 r3 r4 r5 r6
                go_wp2_with (go_at_call 19; refine (num_ _ _).mono ?_; rintro e w' ⟨rfl, hw⟩; obtain rfl := hw.symm; clear hw)
                have k6 := follows_ w wC d g sB QA (opK 6 a3 n3 c3 ks) HSC.out (opK_ok H3.out hn3) (by omega) (by omega) (by omega)
                rw [op6_fol] at k6
                unfold opK at k6
                simp only at k6
                go_wp2_with fail
                refine k6.mono ?_
                rintro e w6 ⟨rfl, Q6, S6⟩
                have kd := durable_ d _ Q6 w6 S6.dev
                have HS6 := hid S6
                clear k6 S6 c32
                go_wp2_with fail
                refine kd.mono ?_
                rintro e w7 ⟨v7, rfl, o7, g7⟩
                obtain ⟨⟨a7, c7, rfl⟩, S7, km⟩ := isDur_ HS6.out o7 g7
                have km7 := km w7 (Below.refl _ _)
                have HS7 := hid S7
                clear kd o7 g7 S7 km HS6
                go_wp2_with fail
                refine km7.mono ?_
                rintro e w8 ⟨rfl, g8⟩
                have S8 := HS7.out.below g8
                have gA : Below w8.heap.size w8 (w8.alloc (.cells #[.bool true, .bool true, .bool true] 4)) := (Below.refl _ _).alloc (Nat.le_refl _) _
                have S9 := S8.below gA
                have k9 := fol6n_ w _ d g (crS sB ks) Q6 (some ⟨w8.heap.size, 0, none⟩) 3 3 [true, true, true] S9 rfl (bl3 w8) (fun ad ha _ hq => by obtain rfl := Option.some.inj ha; exact absurd (S8.dev.lt _ hq) (Nat.lt_irrefl _)) (by decide)
                clear km7 g8 S8 gA S9 HS7
                go_wp2_with fail
                refine k9.mono ?_
                rintro e w10 ⟨rfl, Q10, S10⟩
                have kd := durable_ d _ Q10 w10 S10.dev
                have HS10 := hid S10
                clear k9 S10
                go_wp2_with fail
                refine kd.mono ?_
                rintro e w11 ⟨v11, rfl, o11, g11⟩
                obtain ⟨⟨a11, c11, rfl⟩, S11, km⟩ := isDur_ HS10.out o11 g11
                have km11 := km w11 (Below.refl _ _)
                have HS11 := hid S11
                clear kd o11 g11 S11 km HS10
                go_wp2_with fail
                refine km11.mono ?_
                rintro e w12 ⟨rfl, g12⟩
                have S12 := HS11.out.below g12
                have kq := pending_ d _ Q10 w12 S12.dev (Nat.zero_le _)
                have HS12 := hid S12
                clear km11 g12 S12 HS11
                go_wp2_with fail
                refine kq.mono ?_
                rintro e w13 ⟨⟨v13, J13, rfl, hJ13⟩, g13⟩
                obtain ⟨va13, vc13, rfl⟩ : ∃ a c, v13 = .slice a 0 c := hJ13.len
                have S13 := HS12.out.below g13
                have kp : Calls Try.prog 31 #[.pointer (some ⟨d, 0, none⟩)] w13 fun e w' => e = .returned (.bool true) ∧ w' = w13 := powerD S13.dev
                have HS13 := hid S13
                clear kq hJ13 g13 S13 HS12
                go_wp2_with (go_at_call 31; refine kp.mono ?_; rintro e w' ⟨rfl, hw⟩; obtain rfl := hw.symm; clear hw)
                go_ret
                exact ⟨rfl, HS13.out.bel⟩
              | false =>
                have k6 := follows_ w w5 d g s Q (opK 6 a3 n3 c3 ks) HS5.out (opK_ok H3.out hn3) (by omega) (by omega) (by omega)
                rw [op6_fol] at k6
                unfold opK at k6
                simp only at k6
                go_wp2_with fail
                refine k6.mono ?_
                rintro e w6 ⟨rfl, Q6, S6⟩
                have kd := durable_ d _ Q6 w6 S6.dev
                have HS6 := hid S6
                clear k6 S6 c32
                go_wp2_with fail
                refine kd.mono ?_
                rintro e w7 ⟨v7, rfl, o7, g7⟩
                obtain ⟨⟨a7, c7, rfl⟩, S7, km⟩ := isDur_ HS6.out o7 g7
                have km7 := km w7 (Below.refl _ _)
                have HS7 := hid S7
                clear kd o7 g7 S7 km HS6
                go_wp2_with fail
                refine km7.mono ?_
                rintro e w8 ⟨rfl, g8⟩
                have S8 := HS7.out.below g8
                have gA : Below w8.heap.size w8 (w8.alloc (.cells #[.bool true, .bool true, .bool true] 4)) := (Below.refl _ _).alloc (Nat.le_refl _) _
                have S9 := S8.below gA
                have k9 := fol6n_ w _ d g (crS s ks) Q6 (some ⟨w8.heap.size, 0, none⟩) 3 3 [true, true, true] S9 rfl (bl3 w8) (fun ad ha _ hq => by obtain rfl := Option.some.inj ha; exact absurd (S8.dev.lt _ hq) (Nat.lt_irrefl _)) (by decide)
                clear km7 g8 S8 gA S9 HS7
                go_wp2_with fail
                refine k9.mono ?_
                rintro e w10 ⟨rfl, Q10, S10⟩
                have kd := durable_ d _ Q10 w10 S10.dev
                have HS10 := hid S10
                clear k9 S10
                go_wp2_with fail
                refine kd.mono ?_
                rintro e w11 ⟨v11, rfl, o11, g11⟩
                obtain ⟨⟨a11, c11, rfl⟩, S11, km⟩ := isDur_ HS10.out o11 g11
                have km11 := km w11 (Below.refl _ _)
                have HS11 := hid S11
                clear kd o11 g11 S11 km HS10
                go_wp2_with fail
                refine km11.mono ?_
                rintro e w12 ⟨rfl, g12⟩
                have S12 := HS11.out.below g12
                have kq := pending_ d _ Q10 w12 S12.dev (Nat.zero_le _)
                have HS12 := hid S12
                clear km11 g12 S12 HS11
                go_wp2_with fail
                refine kq.mono ?_
                rintro e w13 ⟨⟨v13, J13, rfl, hJ13⟩, g13⟩
                obtain ⟨va13, vc13, rfl⟩ : ∃ a c, v13 = .slice a 0 c := hJ13.len
                have S13 := HS12.out.below g13
                have kp : Calls Try.prog 31 #[.pointer (some ⟨d, 0, none⟩)] w13 fun e w' => e = .returned (.bool true) ∧ w' = w13 := powerD S13.dev
                have HS13 := hid S13
                clear kq hJ13 g13 S13 HS12
                go_wp2_with (go_at_call 31; refine kp.mono ?_; rintro e w' ⟨rfl, hw⟩; obtain rfl := hw.symm; clear hw)
                go_ret
                exact ⟨rfl, HS13.out.bel⟩
end Go.Proofs.Ytheafbbihejdmaa
