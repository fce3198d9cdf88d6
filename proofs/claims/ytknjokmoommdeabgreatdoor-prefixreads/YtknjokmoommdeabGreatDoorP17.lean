import Derived.Test.YtknjokmoommdeabGreatDoorP16
namespace Go.Proofs.YtknjokmoommdeabGreatDoor
set_option maxRecDepth 100000
open Go.RowKit
set_option linter.unusedVariables false

theorem txj_lt (n : Nat) (l : List Nat) (hl : ∀ x ∈ l, x < 256) (j : Nat) : ∀ x ∈ txj n l j, x < 256 := by
  intro x hxx
  unfold txj at hxx
  obtain ⟨i, _, h⟩ := List.mem_flatMap.1 hxx
  have hb : l.getD i 0 < 256 := getD_lt6 hl i
  unfold pc at h
  split at h
  · rcases List.mem_append.1 h with h | h
    · split at h
      · rw [List.mem_singleton.1 h]; decide
      · cases h
    · have := dl_digit _ _ x h
      omega
  · rcases List.mem_append.1 h with h | h
    · split at h
      · rw [List.mem_singleton.1 h]; decide
      · cases h
    · have b1 := hd_lt (l.getD i 0 / 16) (by omega)
      have b2 := hd_lt (l.getD i 0 % 16) (by omega)
      unfold hx at h
      rcases List.mem_cons.1 h with h | h
      · omega
      · have := List.mem_singleton.1 h
        omega
theorem ta_lt (F H L : Int) : ∀ x ∈ ta F H L, x < 256 := txj_lt _ _ (nl_lt (pa_byte F H L)) _
/-- What ParseAddr answers. -/
def ak (l : List Nat) : Bool := decide (l.length ≤ 39 ∧ l ≠ [] ∧ ta (gF l) (ah (gB l)) (al (gB l)) = l)
def aF (l : List Nat) : Int := if ak l then gF l else 0
def aH (l : List Nat) : Int := if ak l then ah (gB l) else 0
def aL (l : List Nat) : Int := if ak l then al (gB l) else 0
def aE (l : List Nat) : Int := if ak l then 0 else 70
theorem a_bad {l : List Nat} (h : ak l = false) : 0 = aF l ∧ 0 = aH l ∧ 0 = aL l ∧ 70 = aE l := by unfold aF aH aL aE; rw [h]; exact ⟨rfl, rfl, rfl, rfl⟩
theorem a_good {l : List Nat} (h : ak l = true) : gF l = aF l ∧ ah (gB l) = aH l ∧ al (gB l) = aL l ∧ 0 = aE l := by unfold aF aH aL aE; rw [h]; exact ⟨rfl, rfl, rfl, rfl⟩
theorem ret_a {a b c d a' b' c' d' : Int} (h : a = a' ∧ b = b' ∧ c = c' ∧ d = d') : Ending.returned (.tuple #[.agg #[.int .i64 a, .int .u64 b, .int .u64 c], .int .i64 d]) = .returned (.tuple #[.agg #[.int .i64 a', .int .u64 b', .int .u64 c'], .int .i64 d']) := by rw [h.1, h.2.1, h.2.2.1, h.2.2.2]
theorem g_in (l : List Nat) : InU (ah (gB l)) ∧ InU (al (gB l)) := aval_in (gB_byte l) rfl (by have := gB_len l; omega)
theorem results_a2 {fn : Func} {p u : Tmp} (h : fn.results = #[.cell p 24, .tmp u]) (tmps : Array Value) (w : World) (g : Nat) (F H L : Int) (x : Value)
    (hp : tmps.getD p undef = .pointer (some ⟨g, 0, none⟩)) (hu : tmps.getD u undef = x) (hg : Am w g F H L) :
    (results fn tmps).run Tryz.prog w = .ok (.tuple #[.agg #[.int .i64 F, .int .u64 H, .int .u64 L], x]) w := by
  have hl := run_loadVar_row (P := Tryz.prog) w g 24 24 #[.int .i64 F, .int .u64 H, .int .u64 L] (0, 0) _ hg Tryz.underlying24 rfl sizea
  have hp' : tmps[p]?.getD undef = .pointer (some ⟨g, 0, none⟩) := by simpa using hp
  have hu' : tmps[u]?.getD undef = x := by simpa using hu
  simp [results, h, hp', hu', asAddr, hl]
set_option maxHeartbeats 1000000 in
theorem refParseAddr_ (l : List Nat) (w : World) (hy : ∀ x ∈ l, x < 256) (hlen : l.length ≤ maxLen) (hT : Tb w) :
    Calls Tryz.prog 7 #[.string (sb l)] w fun e w' => e = .returned (.tuple #[.agg #[.int .i64 (aF l), .int .u64 (aH l), .int .u64 (aL l)], .int .i64 (aE l)]) ∧ Below w.heap.size w w' := by
  have B0 := anew w 0 0 0
  have m0 := Am.new w 0 0 0
  have hs := sb_size l
  unfold maxLen at hlen
  by_cases h39 : l.length ≤ 39
  · have k1 := fun w => refGuess_ l w hy (by omega)
    obtain ⟨g1, g2⟩ := g_in l
    have k2 := fun w hT => refPrintAddr_ (gF l) (ah (gB l)) (al (gB l)) w g1 g2 hT
    have HI : Hid (sb (ta (gF l) (ah (gB l)) (al (gB l))) = sb l → ta (gF l) (ah (gB l)) (al (gB l)) = l) := fun h => sb_inj (ta_lt _ _ _) hy h
    have HK : Hid (ak l = decide (l.length ≤ 39 ∧ l ≠ [] ∧ ta (gF l) (ah (gB l)) (al (gB l)) = l)) := rfl
    have HZ : Hid (l = [] ↔ sb l = ⟨#[]⟩) := ⟨fun h => by rw [h]; rfl, fun h => by
      have := sb_size l
      rw [h] at this
      exact List.eq_nil_of_length_eq_zero this.symm⟩
    have HG := hid (a_good (l := l))
    have HB := hid (a_bad (l := l))
    have HJ : Hid (ta (gF l) (ah (gB l)) (al (gB l)) = l → sb (ta (gF l) (ah (gB l)) (al (gB l))) = sb l) := fun h => by rw [h]
    obtain ⟨D, HD⟩ : ∃ D, Hid (ta (gF l) (ah (gB l)) (al (gB l)) = D) := ⟨_, rfl⟩
    rw [HD.out] at HI HK HJ
    simp only [HD.out] at k2
    obtain ⟨S, HS⟩ : ∃ S, Hid (sb l = S) := ⟨_, rfl⟩
    rw [HS.out] at HI HZ HJ hs ⊢
    simp only [HS.out] at k1
    obtain ⟨P, HP⟩ : ∃ P, Hid (sb D = P) := ⟨_, rfl⟩
    rw [HP.out] at HI HJ
    simp only [HP.out] at k2
    obtain ⟨F, HF⟩ : ∃ F, Hid (gF l = F) := ⟨_, rfl⟩
    obtain ⟨H, HH⟩ : ∃ H, Hid (ah (gB l) = H) := ⟨_, rfl⟩
    obtain ⟨L, HL⟩ : ∃ L, Hid (al (gB l) = L) := ⟨_, rfl⟩
    rw [HF.out, HH.out, HL.out] at HG
    simp only [HF.out, HH.out, HL.out] at k1 k2
    obtain ⟨n, HN⟩ : ∃ n, Hid (l.length = n) := ⟨_, rfl⟩
    rw [HN.out] at hs hlen
    have dn : decide ((39 : Int) < (n : Int)) = false := by have := HN.out; simp; omega
    clear g1 g2 hy
    go_enter Tryz.func7, Tryz.ntmps7
    go_wp2_with fail
    refine (k1 _).mono ?_
    rintro e w1 ⟨rfl, g2⟩
    replace m0 := m0.kept g2
    replace B0 := bel_bel B0 B0.size g2
    clear g2 k1
    have m1 := Am.new w1 F H L
    replace m0 := m0.alloc (.cells #[.int .i64 F, .int .u64 H, .int .u64 L] 24)
    have hs1 := B0.size
    replace B0 := B0.alloc B0.size (.cells #[.int .i64 F, .int .u64 H, .int .u64 L] 24)
    have c0 := m1.c0
    have c1 := m1.c1
    have c2 := m1.c2
    go_wp2_with fail
    refine (k2 _ (hT.kept B0)).mono ?_
    rintro e w2 ⟨rfl, g2⟩
    replace m0 := m0.kept g2
    replace m1 := m1.kept g2
    replace B0 := bel_bel B0 B0.size g2
    clear g2 k2 c0 c1 c2
    have c0 := m1.c0
    have c1 := m1.c1
    have c2 := m1.c2
    by_cases hps : P = S
    · have d8 : (P.toList == S.toList) = true := by rw [hps]; simp
      have d8' : (P.toList != S.toList) = false := by rw [hps]; simp
      by_cases hz : S = ⟨#[]⟩
      · have HE : Hid (ak l = false) := by
          show _ = _
          rw [HK.out]
          exact decide_eq_false fun h => h.2.1 (HZ.out.2 hz)
        have dz : S.toList.isEmpty = true := by rw [hz]; simp
        have HE2 := hid (HB.out HE.out)
        clear HE HK HI HJ HZ HG HB hps hz
        go_wp2_with (refine wpList_sa rfl rfl _ _ rfl w.heap.size 0 0 0 rfl rfl 0 0 0 (by with_reducible exact m0) ?_)
        refine bodyPost_ret (v := .tuple #[.agg #[.int .i64 0, .int .u64 0, .int .u64 0], .int .i64 70]) ?_ rfl ⟨ret_a HE2.out, bel_row B0 (Nat.le_refl _) _⟩
        exact results_a2 rfl _ _ w.heap.size 0 0 0 _ rfl rfl (m0.row _ _ _)
      · have HE : Hid (ak l = true) := by
          show _ = _
          rw [HK.out]
          exact decide_eq_true ⟨h39, fun h => hz (HZ.out.1 h), HI.out hps⟩
        have dz : S.toList.isEmpty = false := by
          cases h : S.toList.isEmpty with
          | false => rfl
          | true => exact absurd (toList_inj ((List.isEmpty_iff.1 h).trans (by simp : ([] : List UInt8) = (⟨#[]⟩ : ByteArray).toList))) hz
        have HE2 := hid (HG.out HE.out)
        clear HE HK HI HJ HZ HG HB hps hz
        go_wp2_with (refine wpList_sa rfl rfl _ _ rfl w.heap.size F H L rfl rfl 0 0 0 (by with_reducible exact m0) ?_)
        refine bodyPost_ret (v := .tuple #[.agg #[.int .i64 F, .int .u64 H, .int .u64 L], .int .i64 0]) ?_ rfl ⟨ret_a HE2.out, bel_row B0 (Nat.le_refl _) _⟩
        exact results_a2 rfl _ _ w.heap.size F H L _ rfl rfl (m0.row _ _ _)
    · have d8 : (P.toList == S.toList) = false := beq_eq_false_iff_ne.2 fun h => hps (toList_inj h)
      have d8' : (P.toList != S.toList) = true := by unfold bne; rw [d8]; rfl
      have HE : Hid (ak l = false) := by
        show _ = _
        rw [HK.out]
        exact decide_eq_false fun h => hps (HJ.out h.2.2)
      have HE2 := hid (HB.out HE.out)
      clear HE HK HI HJ HZ HG HB hps
      go_wp2_with (refine wpList_sa rfl rfl _ _ rfl w.heap.size 0 0 0 rfl rfl 0 0 0 (by with_reducible exact m0) ?_)
      refine bodyPost_ret (v := .tuple #[.agg #[.int .i64 0, .int .u64 0, .int .u64 0], .int .i64 70]) ?_ rfl ⟨ret_a HE2.out, bel_row B0 (Nat.le_refl _) _⟩
      exact results_a2 rfl _ _ w.heap.size 0 0 0 _ rfl rfl (m0.row _ _ _)
  · have HE : Hid (ak l = false) := by
      show _ = _
      exact decide_eq_false fun h => h39 h.1
    have HE2 := hid (a_bad HE.out)
    generalize sb l = S at *
    obtain ⟨n, HN⟩ : ∃ n, Hid (l.length = n) := ⟨_, rfl⟩
    rw [HN.out] at hs hlen h39
    have dn : decide ((39 : Int) < (n : Int)) = true := by simp; omega
    clear h39 hy HE
    go_enter Tryz.func7, Tryz.ntmps7
    go_wp2_with (refine wpList_sa rfl rfl _ _ rfl w.heap.size 0 0 0 rfl rfl 0 0 0 (by with_reducible exact m0) ?_)
    refine bodyPost_ret (v := .tuple #[.agg #[.int .i64 0, .int .u64 0, .int .u64 0], .int .i64 70]) ?_ rfl ⟨ret_a HE2.out, bel_row B0 (Nat.le_refl _) _⟩
    exact results_a2 rfl _ _ w.heap.size 0 0 0 _ rfl rfl (m0.row _ _ _)
end Go.Proofs.YtknjokmoommdeabGreatDoor
