import Derived.Test.YtbdkmjjjafbaoabV8
namespace Go.Proofs.Ytbdkmjjjafbaoab
open Go.RowKit
set_option linter.unusedVariables false
set_option maxRecDepth 100000

def shl (y : Int) (T : List Int) : List Int := T.map (· + y)
theorem tk_shl {F W y c : Int} {T : List Int} : tkB (F + y) W (shl y T) (c + y) = tkB F W T c := by
  cases h : tkB F W T c
  · rw [tk_false] at h ⊢
    refine fun q => h ⟨by omega, fun t ht => ?_⟩
    have := q.2 (t + y) (List.mem_map_of_mem (f := (· + y)) ht)
    exact ⟨fun e => this.1 (by rw [e]), by omega⟩
  · rw [tk_iff] at h ⊢
    refine ⟨by omega, fun t ht => ?_⟩
    obtain ⟨x, hx, rfl⟩ := List.mem_map.1 ht
    have := h.2 x hx
    exact ⟨fun e => this.1 (by omega), by omega⟩
theorem mk_shl {F W y c : Int} {T : List Int} : mkT (F + y) W (shl y T) (c + y) = shl y (mkT F W T c) := by
  unfold mkT
  rw [tk_shl]
  split <;> simp [shl]
theorem top_shl {y : Int} {T : List Int} (hT : T ≠ []) (h0 : ∀ t ∈ T, 0 ≤ t) (hy : 0 ≤ y) : topI (shl y T) = topI T + y := by
  have h1 := top_mem hT h0
  have h2 : topI T + y ∈ shl y T := List.mem_map_of_mem (f := (· + y)) h1
  have h3 := top_ge h2
  have h4 : topI (shl y T) ∈ shl y T := top_mem (by simpa [shl] using hT) fun t ht => by obtain ⟨x, hx, rfl⟩ := List.mem_map.1 ht; have := h0 x hx; omega
  obtain ⟨x, hx, e⟩ := List.mem_map.1 h4
  have := top_ge hx
  omega
set_option maxHeartbeats 8000000 in
/-- WindowShifts. -/
theorem windowShifts_ (F width : Int) (a : Option Addr) (n cp : Nat) (l : List Int) (y : Int) (w : World) (hF : u64r F) (hw : i64r width) (hl : Ucs w a n l) (hy : u64r y) :
    Calls Try.prog 3 #[.int .u64 F, .int .i64 width, .slice a n cp, .int .u64 y] w fun e w' => e = .returned (.bool true) ∧ Below w.heap.size w w' := by
  have HL := hid hl
  have HFF := hid hF
  have hfr := hF
  unfold u64r at hfr
  have hyr := hy
  unfold u64r at hyr
  have hsub : IntKind.u64.wrap (18446744073709551615 - y) = 18446744073709551615 - y := by rw [IntKind.wrap_u64]; omega
  clear hl hF hy
  go_enter Try.func3, Try.ntmps3
  go_wp2_with fail
  refine (known_ w).mono ?_
  rintro e w1 ⟨rfl, g1⟩
  have HG1 := hid g1
  clear g1
  by_cases q1 : 18446744073709551615 - y < F
  · go_wp2_with fail
    go_ret
    exact ⟨rfl, HG1.out⟩
  obtain ⟨G, hG⟩ : ∃ G, F + y = G := ⟨_, rfl⟩
  have hadd : IntKind.u64.wrap (F + y) = G := by rw [IntKind.wrap_u64]; omega
  have hGr : u64r G := ⟨by omega, by omega⟩
  have HGR := hid hGr
  have HGE := hid hG
  clear hGr hG
  by_cases hfit : fitP width
  case neg =>
    have kn := new_no F width w1 hw hfit
    have kn2 := new_no G width w1 hw hfit
    have kq := fits_ width w1 hw (nofit_q hfit)
    clear hfit
    go_wp2_with fail
    refine kn.mono ?_
    rintro e w2 ⟨rfl, rfl⟩
    go_wp2_with fail
    refine kn2.mono ?_
    rintro e w3 ⟨rfl, rfl⟩
    go_wp2_with fail
    refine kq.mono ?_
    rintro e w4 ⟨rfl, rfl⟩
    go_wp2_with fail
    go_ret
    exact ⟨rfl, HG1.out⟩
  obtain ⟨m, hwd, hm1, hm2⟩ := fit_of hfit
  have HWD : Hid (width = 64 * (m : Int) ∧ 1 ≤ m ∧ m ≤ 16) := ⟨hwd, hm1, hm2⟩
  clear hfit hwd hm1 hm2
  have kn := newW (w0 := w) HFF.out HWD.out.1 HWD.out.2.1 HWD.out.2.2 HG1.out
  go_wp2_with fail
  refine kn.mono ?_
  rintro e w2 ⟨p, g, rfl, h, hb2, hp2, hg2⟩
  have kn2 := newW (w0 := w) HGR.out HWD.out.1 HWD.out.2.1 HWD.out.2.2 h.bel
  have H2 := hid h
  clear kn h hb2 hp2 hg2 HG1
  go_wp2_with fail
  refine kn2.mono ?_
  rintro e w3 ⟨p', g', rfl, h, hb2, hp2, hg2⟩
  have H3 := hid (P2.of H2.out h hb2 hp2 hg2)
  clear kn2 h hb2 hp2 hg2 H2
  go_wp2_with fail
  go_loopw [12] (fun i wr => ∃ (j : Nat) (T : List Int), j ≤ n ∧ i = .int .i64 j ∧ Hid (P2 w wr p g F m T p' g' G m (shl y T))) (fun i _ => n - (intOf i).toNat)
  case atStart => exact ⟨0, [], by omega, rfl, H3⟩
  case round =>
    clear H3
    obtain ⟨j, T, hj, rfl, HT⟩ := hrel
    by_cases hlt : j < n ∧ (j : Int) < 2000
    case pos =>
      obtain ⟨hlt, h20⟩ := hlt
      have hjI : (j : Int) < n := by omega
      obtain ⟨b, off, rfl, hcell, hxr⟩ := HL.out.get HT.out.a.bel hlt
      obtain ⟨x, HX⟩ : ∃ x, Hid (l.getD j 0 = x) := ⟨_, rfl⟩
      rw [HX.out] at hcell hxr
      have hx1 := hxr.1
      have hx2 := hxr.2
      by_cases hxc : 18446744073709551615 - y < x
      · go_wp2_with fail
        go_roundw
        case rel => exact ⟨j + 1, T, by omega, by go_num, HT⟩
        case measure => simp [intOf]; omega
      · obtain ⟨z, hz⟩ : ∃ z, x + y = z := ⟨_, rfl⟩
        have hadz : IntKind.u64.wrap (x + y) = z := by rw [IntKind.wrap_u64]; omega
        have HZR : Hid (u64r z) := ⟨by omega, by omega⟩
        obtain ⟨q, hq⟩ : ∃ q, tkB F (64 * (m : Int)) T x = q := ⟨_, rfl⟩
        have hq2 : Hid (tkB G (64 * (m : Int)) (shl y T) z = q) := by show _ = _; rw [← HGE.out, ← hz, tk_shl, hq]
        have hm2 : Hid (mkT G (64 * (m : Int)) (shl y T) z = shl y (mkT F (64 * (m : Int)) T x)) := by show _ = _; rw [← HGE.out, ← hz, mk_shl]
        have km := HT.out.markA hxr hq rfl
        have HLj : Hid (∀ wx, Below w.heap.size w wx → wx.cell? ⟨b, off + j, none⟩ = some (.int .u64 x)) := fun wx hb => by
          obtain ⟨b2, o2, e, hc, -⟩ := HL.out.get hb hlt
          have e := Option.some.inj e
          injection e with e1 e2
          rw [e1, e2, ← HX.out]; exact hc
        clear hz hq
        go_wp2_with fail
        refine km.mono ?_
        rintro e w4 ⟨rfl, h4⟩
        have hcell4 := HLj.out w4 h4.a.bel
        have km2 := h4.markB HZR.out hq2.out hm2.out
        clear km h4 hcell
        go_wp2_with fail
        refine km2.mono ?_
        rintro e w5 ⟨rfl, h5⟩
        have H5 := hid h5
        clear km2 h5 hcell4
        cases q
        all_goals
          go_wp2_with fail
          go_roundw
          case rel => exact ⟨j + 1, _, by omega, by go_num, H5⟩
          case measure => simp [intOf]; omega
    case neg =>
      have hor : (j : Int) < n ∧ ¬ (j : Int) < 2000 ∨ ¬ (j : Int) < n := by omega
      clear hlt
      obtain ⟨s, hs⟩ : ∃ s, topI T = s := ⟨_, rfl⟩
      obtain ⟨t, ht⟩ : ∃ t, topI (shl y T) = t := ⟨_, rfl⟩
      obtain ⟨q, hq⟩ : ∃ q, decide (T ≠ []) = q := ⟨_, rfl⟩
      have hq2 : decide (shl y T ≠ []) = q := by rw [← hq]; simp [shl]
      have hst : q = true → IntKind.u64.wrap (s + y) = t := fun e => by
        have hTn : T ≠ [] := of_decide_eq_true (hq.trans e)
        have e2 := top_shl hTn (fun t ht => (HT.out.a.wn.ok t ht).1) hyr.1
        have e3 := HT.out.b.wn.topr
        rw [ht, hs] at e2
        rw [ht] at e3
        unfold u64r at e3
        rw [IntKind.wrap_u64]; omega
      have kt := HT.out.topA hs hq
      have HS := hid ht
      have HQ2 := hid hq2
      clear hs ht hq hq2
      rcases hor with ⟨hjI, h20⟩ | hjI
      all_goals
        cases q
        all_goals
          first
            | have hst2 := hst rfl
            | skip
          clear hst
          go_wp2_with fail
          refine kt.mono ?_
          rintro e w4 ⟨rfl, h4⟩
          have kt2 := h4.topB HS.out HQ2.out
          clear kt h4
          go_wp2_with fail
          refine kt2.mono ?_
          rintro e w5 ⟨rfl, h5⟩
          have HB := hid h5.a.bel
          clear kt2 h5
          go_wp2_with fail
          go_ret
          exact ⟨by first | rfl | exact ret_bool (by simp), HB.out⟩
end Go.Proofs.Ytbdkmjjjafbaoab
