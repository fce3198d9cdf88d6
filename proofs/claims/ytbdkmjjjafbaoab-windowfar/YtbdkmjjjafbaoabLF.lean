import Derived.Test.YtbdkmjjjafbaoabV7
namespace Go.Proofs.Ytbdkmjjjafbaoab
open Go.RowKit
set_option linter.unusedVariables false
set_option maxRecDepth 100000

/-- What a leap has left. -/
structure Lp (a s d : Int) (T : List Int) : Prop where
  top : topI T = s
  fa : a ∈ T
  ne : T ≠ []
  mem : ∀ t ∈ T, t = a ∨ s - d < t
theorem lp_key {F W a s d c : Int} {T : List Int} {x : Bool} (h : Lp a s d T) (h0 : ∀ t ∈ T, 0 ≤ t) (hc : s - d = c) (hx : tkB F W T c = x) : x = (decide (F ≤ c) && (c != a) && decide (d < W)) := by
  subst hx
  by_cases h1 : F ≤ c
  · by_cases h2 : d < W
    · rw [tk_in h1 (by rw [h.top]; omega)]
      by_cases h3 : c = a
      · rw [decide_eq_false (by rw [h3]; simpa using h.fa)]; simp [h3]
      · rw [decide_eq_true (show c ∉ T from fun q => by rcases h.mem c q with q | q; exact h3 q; omega)]; simp [h1, h2, h3]
    · rw [tk_far h.ne h0 (by rw [h.top]; omega)]; simp [h2]
  · rw [tk_low (by omega)]; simp [h1]
theorem Lp.next {F W a s d c : Int} {T : List Int} (h : Lp a s d T) (hd : 1 ≤ d) (hc : s - d = c) : Lp a s (d + 1) (mkT F W T c) := by
  unfold mkT
  split
  · refine ⟨by rw [top_app, h.top]; omega, List.mem_append_left _ h.fa, by simp, fun t ht => ?_⟩
    rcases List.mem_append.1 ht with q | q
    · rcases h.mem t q with q | q
      · exact .inl q
      · exact .inr (by omega)
    · rw [List.mem_singleton.1 q]; exact .inr (by omega)
  · exact ⟨h.top, h.fa, h.ne, fun t ht => by rcases h.mem t ht with q | q; exact .inl q; exact .inr (by omega)⟩
set_option maxHeartbeats 8000000 in
/-- WindowFar. -/
theorem windowFar_ (F width a b : Int) (w : World) (hF : u64r F) (hw : i64r width) (ha : u64r a) (hb : u64r b) :
    Calls Try.prog 5 #[.int .u64 F, .int .i64 width, .int .u64 a, .int .u64 b] w fun e w' => e = .returned (.bool true) ∧ Below w.heap.size w w' := by
  have HA := hid ha
  have HB := hid hb
  have ha1 := ha.1
  have ha2 := ha.2
  have hb1 := hb.1
  have hb2 := hb.2
  clear ha hb
  by_cases hfit : fitP width
  case neg =>
    have HN := hid hfit
    have kq := fun wx => fits_ width wx hw (nofit_q hfit)
    go_enter Try.func5, Try.ntmps5
    go_wp2_with fail
    refine (known_ w).mono ?_
    rintro e w1 ⟨rfl, g1⟩
    have kn := new_no F width w1 hw HN.out
    have HG1 := hid g1
    clear hfit g1
    go_wp2_with fail
    refine kn.mono ?_
    rintro e w2 ⟨rfl, rfl⟩
    have kq2 := kq w2
    clear kq
    go_wp2_with fail
    refine kq2.mono ?_
    rintro e w3 ⟨rfl, rfl⟩
    go_wp2_with fail
    go_ret
    exact ⟨rfl, HG1.out⟩
  obtain ⟨m, hwd, hm1, hm2⟩ := fit_of hfit
  have HFF := hid hF
  have HWD : Hid (width = 64 * (m : Int) ∧ 1 ≤ m ∧ m ≤ 16) := ⟨hwd, hm1, hm2⟩
  clear hfit hwd hm1 hm2 hF
  go_enter Try.func5, Try.ntmps5
  go_wp2_with fail
  refine (known_ w).mono ?_
  rintro e w1 ⟨rfl, g1⟩
  have kn := newW (w0 := w) HFF.out HWD.out.1 HWD.out.2.1 HWD.out.2.2 g1
  clear g1
  go_wp2_with fail
  refine kn.mono ?_
  rintro e w2 ⟨p, g, rfl, h, hb2, hp2, hg2⟩
  have H2 := hid h
  clear kn h hb2 hp2 hg2
  have HBL := hid H2.out.bel
  have hfr := HFF.out
  unfold u64r at hfr
  have hsub : IntKind.u64.wrap (18446744073709551615 - a) = 18446744073709551615 - a := by rw [IntKind.wrap_u64]; omega
  by_cases q1 : a < F
  · go_wp2_with fail
    go_ret
    exact ⟨rfl, HBL.out⟩
  by_cases q2 : 18446744073709551615 - a < b
  · go_wp2_with fail
    go_ret
    exact ⟨rfl, HBL.out⟩
  by_cases q3 : b = 0
  · have q3b : (b == 0) = true := by simp [q3]
    have HQ3 := hid q3
    clear q3
    go_wp2_with fail
    go_ret
    exact ⟨rfl, HBL.out⟩
  have q3b : (b == 0) = false := by simp [q3]
  obtain ⟨s, hs⟩ : ∃ s, a + b = s := ⟨_, rfl⟩
  have hadd : IntKind.u64.wrap (a + b) = s := by rw [IntKind.wrap_u64]; omega
  have hsr : u64r s := ⟨by omega, by omega⟩
  have HSR := hid hsr
  have hs1 := hsr.1
  have hs2 := hsr.2
  have HAS : Hid (a < s ∧ F ≤ a) := ⟨by omega, by omega⟩
  have k1 := markH H2.out HA.out (tk_rise (by have := HWD.out; omega) HAS.out.2 (.inl rfl)) (mk_yes (tk_rise (by have := HWD.out; omega) HAS.out.2 (.inl rfl)))
  have HTR : Hid (tkB F (64 * (m : Int)) ([] ++ [a]) s = true) := tk_rise (by have := HWD.out; omega) (by have := HAS.out; omega) (.inr (by have := HAS.out; have := HA.out.1; rw [top_app, top_nil]; omega))
  have HLP : Hid (Lp a s 1 (([] ++ [a]) ++ [s])) := ⟨by have := HAS.out; have := HA.out.1; rw [top_app, top_app, top_nil]; omega, by simp, by simp, fun t ht => by simp at ht; rcases ht with q | q; exact .inl q; exact .inr (by omega)⟩
  clear hs hsr H2 HBL
  go_wp2_with fail
  refine k1.mono ?_
  rintro e w3 ⟨rfl, h3⟩
  have k2 := markH h3 HSR.out HTR.out (mk_yes HTR.out)
  clear k1 h3
  go_wp2_with fail
  refine k2.mono ?_
  rintro e w4 ⟨rfl, h4⟩
  have H4 := hid h4
  clear k2 h4 HTR
  have hwr := HWD.out.1
  have hwl : 64 ≤ width ∧ width ≤ 1024 := by have := HWD.out; omega
  have hmul : IntKind.i64.wrap (2 * width) = 2 * width := by rw [IntKind.wrap_i64]; omega
  clear hwr hsub q1 q2 q3 q3b
  go_wp2_with fail
  go_loopw [13] (fun i wr => ∃ (d : Nat) (T : List Int), 1 ≤ d ∧ (d : Int) ≤ 2 * width + 1 ∧ i = .int .i64 d ∧ Hid (Hw w wr p g F m T) ∧ Hid (Lp a s d T)) (fun i _ => (2 * width + 1).toNat - (intOf i).toNat)
  case atStart => exact ⟨1, _, by omega, by omega, rfl, H4, HLP⟩
  case round =>
    clear H4 HLP
    obtain ⟨d, T, hd1, hd2, rfl, HT, HP⟩ := hrel
    have HBL := hid HT.out.bel
    have hdw : IntKind.u64.wrap (d : Int) = d := by rw [IntKind.wrap_u64]; omega
    by_cases h1 : (d : Int) ≤ 2 * width
    case neg =>
      go_wp2_with fail
      go_ret
      exact ⟨rfl, HBL.out⟩
    by_cases h2 : s < (d : Int)
    · go_wp2_with fail
      go_ret
      exact ⟨rfl, HBL.out⟩
    obtain ⟨c, hc⟩ : ∃ c, s - (d : Int) = c := ⟨_, rfl⟩
    have hcw : IntKind.u64.wrap (s - (d : Int)) = c := by rw [IntKind.wrap_u64]; omega
    have hcr : u64r c := ⟨by omega, by omega⟩
    have hcr1 := hcr.1
    have hcr2 := hcr.2
    have HCR := hid hcr
    obtain ⟨x, hx⟩ : ∃ x, tkB F (64 * (m : Int)) T c = x := ⟨_, rfl⟩
    have hkey := lp_key HP.out (fun t ht => (HT.out.wn.ok t ht).1) hc hx
    rw [← HWD.out.1] at hkey
    have HNX := hid (HP.out.next (F := F) (W := 64 * (m : Int)) (by omega) hc)
    have km := markH HT.out HCR.out hx rfl
    have hd3 : (d : Int) < 2049 := by omega
    have HD : Hid (((d + 1 : Nat) : Int) ≤ 2 * width + 1) := by show _ ≤ _; omega
    clear hc hcr hx HT HP HBL
    obtain ⟨y, hy⟩ : ∃ y, (c != a) = y := ⟨_, rfl⟩
    rw [hy] at hkey
    cases y <;> by_cases g1 : F ≤ c <;> by_cases g3 : (d : Int) < width <;> simp only [g1, g3, decide_true, decide_false, Bool.and_false, Bool.and_true] at hkey <;> subst hkey
    all_goals
      go_wp2_with fail
      refine km.mono ?_
      rintro e w5 ⟨rfl, h5⟩
      have H5 := hid h5
      clear km h5
      go_wp2_with fail
      go_roundw
      case rel => exact ⟨d + 1, _, by omega, HD.out, by go_num, H5, by rw [show ((d + 1 : Nat) : Int) = (d : Int) + 1 by omega]; exact HNX⟩
      case measure => simp [intOf]; omega
end Go.Proofs.Ytbdkmjjjafbaoab
