import Derived.Test.YtjajcbjodokfnaaGreatDoorXD
namespace Go.Proofs.YtjajcbjodokfnaaGreatDoor
set_option maxRecDepth 100000
open Go.RowKit Go.Shelf
set_option linter.unusedVariables false
set_option linter.unusedSimpArgs false

/-- Why an Append is refused without an operation. -/
def aE (ok : Bool) (m nx pl R : Nat) : Int := if ok = false then 115 else if ned m = 0 then 111 else if 4611686018427387904 < nx then 113 else if R - pl < ned m then 112 else 0
section
variable {w : World} {g d mi ep nx pl : Nat} {se re : Bool} {s : St} {Q : Nat → Prop}
set_option maxHeartbeats 4000000 in
theorem wapp_no (h : Wq w g d mi ep nx pl se re s Q) (a : Option Addr) (m c : Nat) (hm : m ≤ 9223372036854775807) (hpl : pl ≤ roo s.n) (hE : aE (se && !edd mi re s) m nx pl (roo s.n) ≠ 0) :
    Calls Tryz.prog 38 #[.pointer (some ⟨g, 0, none⟩), .slice a m c] w fun en w' => en = .returned (.int .i64 (aE (se && !edd mi re s) m nx pl (roo s.n))) ∧ Drawn w w' := by
  have kn := need0_ (m : Int) w (by omega)
  rw [Int.toNat_natCast] at kn
  have kw := wwrit_ h
  have kL := fun wx (hx : Drawn w wx) (he : edd mi re s = false) => wleft_o (h.below hx.below) he hpl
  have c3 := h.lm.c3
  have HQ := hid h
  have hN := h.dv.n
  have hR : roo s.n ≤ 4095 := by unfold roo; omega
  obtain ⟨K, HK⟩ : ∃ K, Hid (ned m = K) := ⟨_, rfl⟩
  have hK : K ≤ 11 := by
    have := HK.out
    unfold ned pcN at this
    split at this
    · omega
    · split at this <;> omega
  rw [HK.out] at kn
  obtain ⟨L, HL⟩ : ∃ L, Hid (roo s.n - pl = L) := ⟨_, rfl⟩
  have hL : L ≤ 4095 := by have := HL.out; omega
  simp only [HL.out] at kL
  unfold aE at hE ⊢
  rw [HK.out, HL.out] at hE ⊢
  cases hok : (se && !edd mi re s) with
  | false =>
    rw [hok] at kw
    rw [if_pos rfl]
    clear h hE kL hL
    go_enter Tryz.func38, Tryz.ntmps38
    go_wp2_with fail
    refine kn.mono ?_
    rintro en w1 ⟨rfl, hw⟩
    obtain rfl := hw.symm
    clear hw
    go_wp2_with fail
    refine kw.mono ?_
    rintro en w1 ⟨rfl, d1⟩
    have HD := hid d1
    clear d1 kw
    go_wp2_with fail
    go_ret
    exact ⟨rfl, HD.out⟩
  | true =>
    rw [hok] at kw hE
    rw [if_neg (by decide)] at hE ⊢
    have hed : edd mi re s = false := by
      simp only [Bool.and_eq_true, Bool.not_eq_true'] at hok
      exact hok.2
    by_cases hk0 : K = 0
    · subst hk0
      rw [if_pos rfl]
      clear h hE kL hL hok hed
      go_enter Tryz.func38, Tryz.ntmps38
      go_wp2_with fail
      refine kn.mono ?_
      rintro en w1 ⟨rfl, hw⟩
      obtain rfl := hw.symm
      clear hw
      go_wp2_with fail
      refine kw.mono ?_
      rintro en w1 ⟨rfl, d1⟩
      have HD := hid d1
      clear d1 kw
      go_wp2_with fail
      go_ret
      exact ⟨rfl, HD.out⟩
    · rw [if_neg hk0] at hE ⊢
      have hkb : ((K : Int) == 0) = false := by simp; omega
      by_cases hnx : 4611686018427387904 < nx
      · rw [if_pos hnx]
        have hnI : (4611686018427387904 : Int) < (nx : Int) := by omega
        clear h hE kL hL hok hed
        go_enter Tryz.func38, Tryz.ntmps38
        go_wp2_with fail
        refine kn.mono ?_
        rintro en w1 ⟨rfl, hw⟩
        obtain rfl := hw.symm
        clear hw
        go_wp2_with fail
        refine kw.mono ?_
        rintro en w1 ⟨rfl, d1⟩
        have HD := hid d1
        have x3 := (HQ.out.lm.below d1.below).c3
        clear d1 kw
        go_wp2_with fail
        go_ret
        exact ⟨rfl, HD.out⟩
      · rw [if_neg hnx] at hE ⊢
        have hnI : ¬ (4611686018427387904 : Int) < (nx : Int) := by omega
        by_cases hlk : L < K
        · rw [if_pos hlk]
          have hlI : (L : Int) < (K : Int) := by omega
          clear h hE hL hok
          go_enter Tryz.func38, Tryz.ntmps38
          go_wp2_with fail
          refine kn.mono ?_
          rintro en w1 ⟨rfl, hw⟩
          obtain rfl := hw.symm
          clear hw
          go_wp2_with fail
          refine kw.mono ?_
          rintro en w1 ⟨rfl, d1⟩
          have HD := hid d1
          have x3 := (HQ.out.lm.below d1.below).c3
          have kL1 := kL w1 d1 hed
          clear d1 kw kL
          go_wp2_with fail
          refine kL1.mono ?_
          rintro en w2 ⟨rfl, d2⟩
          have HD2 := hid (HD.out.trans d2)
          clear d2 kL1
          go_wp2_with fail
          go_ret
          exact ⟨rfl, HD2.out⟩
        · rw [if_neg hlk] at hE
          exact absurd rfl hE
set_option maxHeartbeats 4000000 in
/-- An Append that is done, or that the device refuses. -/
theorem wapp_ (h : Wq w g d mi ep nx pl true false s Q) (hk : mi = s.k) (a : Option Addr) (m c : Nat) (tx : List Int) (hb : Bs w a m tx) (hqb : ∀ ad, a = some ad → 0 < m → ¬ Q ad.block ∧ ad.block ≠ g) (hmc : m ≤ c) (hcm : c ≤ maxLen) (h0 : 0 < m) (h2 : m ≤ 4800) (he : mq ep) (hn : mq nx) (hp : pl + ned m ≤ roo s.n) (hsc : s.c ≤ 40000) (hP : s.P.length ≤ 40000) :
    Calls Tryz.prog 38 #[.pointer (some ⟨g, 0, none⟩), .slice a m c] w fun en w' => en = .returned (.int .i64 (apR s s.n ep nx pl tx).1) ∧ Wz w w' g d mi ep (inc (apR s s.n ep nx pl tx).1 nx 1) (inc (apR s s.n ep nx pl tx).1 pl (ned m)) true ((apR s s.n ep nx pl tx).1 != 0) (apR s s.n ep nx pl tx).2 Q := by
  have hed : edd mi false s = false := by unfold edd; simp [hk]
  have kn := need0_ (m : Int) w (by omega)
  rw [Int.toNat_natCast] at kn
  have kw := wwrit_ h
  rw [hed] at kw
  have hN := h.dv.n
  have hR : roo s.n ≤ 4095 := by unfold roo; omega
  have kt : ∀ wx, Drawn w wx → Calls Tryz.prog 83 #[.pointer (some ⟨g, 0, none⟩), .slice a m c] wx fun en w' => en = .returned (.int .i64 (apR s s.n ep nx pl tx).1) ∧ Wz w w' g d mi ep nx pl true (false || (apR s s.n ep nx pl tx).1 != 0) (apR s s.n ep nx pl tx).2 Q := fun wx hx => by
    by_cases h480 : m ≤ 480
    · have e1 := ned_one h0 h480
      exact (wtx_1 g d mi ep nx pl true false s Q a m c tx wx (h.below hx.below) (hb.below hx.below) (fun ad ha q => (hqb ad ha q).1) h480 he hn (by omega) (by omega) (by omega)).mono (fun en w' ⟨x, y⟩ => ⟨x, Wz.first h hx.below y⟩)
    · obtain ⟨e1, e2, e3⟩ := ned_more (n := m) (by omega) h2
      exact (wtx_n g d mi ep nx pl true false s Q a m c tx wx (h.below hx.below) (hb.below hx.below) hqb hmc hcm (by omega) h2 he hn (by omega) hsc hP).mono (fun en w' ⟨x, y⟩ => ⟨x, Wz.first h hx.below y⟩)
  have hK0 : 0 < ned m ∧ ned m ≤ 11 := by
    by_cases h480 : m ≤ 480
    · rw [ned_one h0 h480]; omega
    · obtain ⟨e1, e2, e3⟩ := ned_more (n := m) (by omega) h2
      omega
  obtain ⟨K, HK⟩ : ∃ K, Hid (ned m = K) := ⟨_, rfl⟩
  rw [HK.out] at kn hp hK0 ⊢
  have kL := fun wx (hx : Drawn w wx) => wleft_o (h.below hx.below) hed (by omega)
  obtain ⟨L, HL⟩ : ∃ L, Hid (roo s.n - pl = L) := ⟨_, rfl⟩
  have hL : ¬ (L : Int) < (K : Int) := by have := HL.out; omega
  simp only [HL.out] at kL
  generalize apR s s.n ep nx pl tx = r at *
  obtain ⟨E, s'⟩ := r
  simp only [Bool.false_or] at *
  have hkb : ((K : Int) == 0) = false := by simp; omega
  have hnI : ¬ (4611686018427387904 : Int) < (nx : Int) := by have := hn.2; omega
  have HQ := hid h
  have hpl2 : pl ≤ 4095 := by omega
  have hnx2 : nx ≤ 4611686018427387904 := hn.2
  clear h hb hqb hed hR hp
  go_enter Tryz.func38, Tryz.ntmps38
  go_wp2_with fail
  refine kn.mono ?_
  rintro en w1 ⟨rfl, hw⟩
  obtain rfl := hw.symm
  clear hw
  go_wp2_with fail
  refine kw.mono ?_
  rintro en w1 ⟨rfl, d1⟩
  have HD := hid d1
  have x3 := (HQ.out.lm.below d1.below).c3
  have kL1 := kL w1 d1
  clear d1 kw kL
  go_wp2_with fail
  refine kL1.mono ?_
  rintro en w2 ⟨rfl, d2⟩
  have kt2 := kt w2 (HD.out.trans d2)
  clear d2 kL1 kt x3
  go_wp2_with fail
  refine kt2.mono ?_
  rintro en w3 ⟨rfl, Z3⟩
  have HZ3 := hid Z3
  clear kt2 Z3
  by_cases hE : E = 0
  · subst hE
    rw [show ((0 : Int) != 0) = false from by simp] at HZ3
    have c4 := HZ3.out.q.lm.c4
    have f4 := HZ3.out.q.lm.fz 4
    obtain ⟨P1, HP1⟩ : ∃ P1 : Nat, Hid (pl + K = P1) := ⟨_, rfl⟩
    have w1e : (pl : Int) + (K : Int) = (P1 : Int) := by have := HP1.out; omega
    obtain ⟨X1, HX1⟩ : ∃ X1 : Nat, Hid (nx + 1 = X1) := ⟨_, rfl⟩
    have w2e : (nx : Int) + 1 = (X1 : Int) := by have := HX1.out; omega
    have Z4 := HZ3.out.turn (HZ3.out.q.lm.s4 P1) (grown_set (grown_refl w3 (some g)) 4 (.int .i64 P1))
    have c3 := Z4.q.lm.c3
    have f3 := Z4.q.lm.fz 3
    have Z5 := Z4.turn (Z4.q.lm.s3 X1) (grown_set (grown_refl _ (some g)) 3 (.int .i64 X1))
    have HZ5 := hid Z5
    clear Z4 Z5 HZ3
    go_wp2_with fail
    go_ret
    refine ⟨rfl, ?_⟩
    rw [inc_y, inc_y, HP1.out, HX1.out]
    exact HZ5.out
  · have hEb : (E != 0) = true := by rw [bne_iff_ne]; exact hE
    go_wp2_with fail
    go_ret
    refine ⟨rfl, ?_⟩
    rw [inc_n hE, inc_n hE]
    exact by simpa [hEb] using HZ3.out
end
end Go.Proofs.YtjajcbjodokfnaaGreatDoor
