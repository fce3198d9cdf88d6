import Derived.Test.YtbdkmjjjafbaoaaV7
namespace Go.Proofs.Ytbdkmjjjafbaoaa
open Go.RowKit
set_option linter.unusedVariables false
set_option maxRecDepth 100000

theorem mk_mem {F W : Int} {T : List Int} {c t : Int} (h : t ∈ mkT F W T c) : t ∈ T ∨ t = c := by
  unfold mkT at h
  split at h
  · rcases List.mem_append.1 h with q | q
    · exact .inl q
    · exact .inr (List.mem_singleton.1 q)
  · exact .inl h
theorem tk_again {F W : Int} {T : List Int} {c : Int} : tkB F W (mkT F W T c) c = false := by
  cases h : tkB F W T c
  · rw [mk_no h]; exact h
  · rw [mk_yes h]; exact tk_false.2 fun q => (q.2 c (by simp)).1 rfl
theorem tk_want {F W : Int} {T : List Int} {c t : Int} {q x : Bool} (h0 : ∀ t ∈ T, 0 ≤ t) (hW : 0 < W) (hc : c ∉ T) (ht : topI T = t) (hq : decide (T ≠ []) = q) (hx : tkB F W T c = x) : x = (decide (F ≤ c) && !(q && decide (c < t) && decide (W ≤ t - c))) := by
  subst ht hq hx
  by_cases h1 : F ≤ c
  · by_cases hT : T = []
    · rw [tk_rise hW h1 (.inl hT)]; simp [h1, hT]
    · by_cases h2 : W ≤ topI T - c
      · rw [tk_far hT h0 h2]
        have : c < topI T := by omega
        simp [h1, hT, h2, this]
      · rw [tk_in h1 (by omega)]; simp [h1, hT, h2, hc]
  · rw [tk_low (by omega)]; simp [h1]
set_option maxHeartbeats 8000000 in
/-- WindowReach. -/
theorem windowReach_ (F width : Int) (a : Option Addr) (n cp : Nat) (l : List Int) (c : Int) (w : World) (hF : u64r F) (hw : i64r width) (hl : Ucs w a n l) (hc : u64r c) :
    Calls Try.prog 7 #[.int .u64 F, .int .i64 width, .slice a n cp, .int .u64 c] w fun e w' => e = .returned (.bool true) ∧ Below w.heap.size w w' := by
  have HL := hid hl
  have HC := hid hc
  have hc1 := hc.1
  have hc2 := hc.2
  clear hl hc
  by_cases hfit : fitP width
  case neg =>
    have HN := hid hfit
    have kq := fun wx => fits_ width wx hw (nofit_q hfit)
    go_enter Try.func7, Try.ntmps7
    go_wp2_with fail
    refine (known_ w).mono ?_
    rintro e w1 ⟨rfl, g1⟩
    have kn := new_no F width w1 hw HN.out
    have HG1 := hid g1
    clear hfit g1
    go_wp2_with fail
    refine kn.mono ?_
    rintro e w2 ⟨rfl, rfl⟩
    have kq2 := kq w2
    clear kq
    go_wp2_with fail
    refine kq2.mono ?_
    rintro e w3 ⟨rfl, rfl⟩
    go_wp2_with fail
    go_ret
    exact ⟨rfl, HG1.out⟩
  obtain ⟨m, hwd, hm1, hm2⟩ := fit_of hfit
  have HFF := hid hF
  have HWD : Hid (width = 64 * (m : Int) ∧ 1 ≤ m ∧ m ≤ 16) := ⟨hwd, hm1, hm2⟩
  clear hfit hwd hm1 hm2 hF
  go_enter Try.func7, Try.ntmps7
  go_wp2_with fail
  refine (known_ w).mono ?_
  rintro e w1 ⟨rfl, g1⟩
  have kn := newW (w0 := w) HFF.out HWD.out.1 HWD.out.2.1 HWD.out.2.2 g1
  clear g1
  go_wp2_with fail
  refine kn.mono ?_
  rintro e w2 ⟨p, g, rfl, h, hb2, hp2, hg2⟩
  have H2 := hid h
  clear kn h hb2 hp2 hg2
  go_wp2_with fail
  go_loopw [10] (fun i wr => ∃ (j : Nat) (T : List Int), j ≤ n ∧ i = .int .i64 j ∧ Hid (Hw w wr p g F m T) ∧ Hid (c ∉ T)) (fun i _ => n - (intOf i).toNat)
  case atStart => exact ⟨0, [], by omega, rfl, H2, (by simp : c ∉ ([] : List Int))⟩
  case round =>
    clear H2
    obtain ⟨j, T, hj, rfl, HT, HNC⟩ := hrel
    by_cases hlt : j < n ∧ (j : Int) < 2000
    case pos =>
      obtain ⟨hlt, h20⟩ := hlt
      have hjI : (j : Int) < n := by omega
      obtain ⟨b, off, rfl, hcell, hxr⟩ := HL.out.get HT.out.bel hlt
      obtain ⟨x, HX⟩ : ∃ x, Hid (l.getD j 0 = x) := ⟨_, rfl⟩
      rw [HX.out] at hcell hxr
      by_cases hxc : x = c
      · have hb : (x != c) = false := by simp [hxc]
        have HXC := hid hxc
        clear hxc
        go_wp2_with fail
        go_roundw
        case rel => exact ⟨j + 1, T, by omega, by go_num, HT, HNC⟩
        case measure => simp [intOf]; omega
      · have hb : (x != c) = true := by simp [hxc]
        have km := markH HT.out hxr rfl rfl
        have HN2 : Hid (c ∉ mkT F (64 * (m : Int)) T x) := fun q => by rcases mk_mem q with q | q; exact HNC.out q; exact hxc q.symm
        clear hxc
        go_wp2_with fail
        refine km.mono ?_
        rintro e w3 ⟨rfl, h3⟩
        have HT3 := hid h3
        clear km h3 hcell
        go_wp2_with fail
        go_roundw
        case rel => exact ⟨j + 1, _, by omega, by go_num, HT3, HN2⟩
        case measure => simp [intOf]; omega
    case neg =>
      have hor : (j : Int) < n ∧ ¬ (j : Int) < 2000 ∨ ¬ (j : Int) < n := by omega
      clear hlt
      obtain ⟨t, ht⟩ : ∃ t, topI T = t := ⟨_, rfl⟩
      obtain ⟨q, hq⟩ : ∃ q, decide (T ≠ []) = q := ⟨_, rfl⟩
      obtain ⟨x, hx⟩ : ∃ x, tkB F (64 * (m : Int)) T c = x := ⟨_, rfl⟩
      have hkey := tk_want (fun t ht => (HT.out.wn.ok t ht).1) (by have := HWD.out; omega) HNC.out ht hq hx
      have htr := HT.out.wn.topr
      rw [ht] at htr
      unfold u64r at htr
      have kt := topH HT.out ht hq
      rw [← HWD.out.1] at hkey
      have hcv : IntKind.u64.wrap width = width := by have h1 := HWD.out; rw [IntKind.wrap_u64]; omega
      have HX := hid hx
      have hfr := HFF.out
      unfold u64r at hfr
      clear ht hq hx
      rcases hor with ⟨hjI, h20⟩ | hjI
      all_goals
        cases q <;> by_cases h1 : F ≤ c <;> by_cases h2 : c < t <;> by_cases h3 : width ≤ t - c <;> simp only [h1, h2, h3, decide_true, decide_false, Bool.and_false, Bool.and_true, Bool.not_true, Bool.not_false] at hkey <;> subst hkey
        all_goals
          have hsub : Hid (c < t → IntKind.u64.wrap (t - c) = t - c) := fun h => by rw [IntKind.wrap_u64]; omega
          first
            | have hsub2 := hsub.out h2
            | skip
          go_wp2_with fail
          refine kt.mono ?_
          rintro e w3 ⟨rfl, g3⟩
          have k1 := takesH g3 HC.out HX.out
          clear kt g3
          go_wp2_with fail
          refine k1.mono ?_
          rintro e w4 ⟨rfl, h4⟩
          have k2 := markH h4 HC.out HX.out rfl
          clear k1 h4
          go_wp2_with fail
          refine k2.mono ?_
          rintro e w5 ⟨rfl, h5⟩
          have k3 := markH h5 HC.out tk_again rfl
          clear k2 h5
          go_wp2_with fail
          refine k3.mono ?_
          rintro e w6 ⟨rfl, h6⟩
          have HB := hid h6.bel
          clear k3 h6
          go_wp2_with fail
          go_ret
          exact ⟨by first | rfl | exact ret_bool (by simp; omega), HB.out⟩
end Go.Proofs.Ytbdkmjjjafbaoaa
