import Derived.Test.YtblcpdffiafgnaaGreatDoorXD
import Derived.Deep.Cut
import Derived.Laws.Tables
namespace Go.Proofs.YtblcpdffiafgnaaGreatDoor
set_option linter.unusedSimpArgs false
set_option maxRecDepth 100000
open Go.RowKit Go.Shelf
set_option linter.unusedVariables false

/-- Why an Append is refused without an operation. -/
def aE (ok : Bool) (m nx pl R : Nat) : Int := if ok = false then 115 else if ned m = 0 then 111 else if 4611686018427387904 < nx then 113 else if R - pl < ned m then 112 else 0
section
variable {w : World} {g d mi ep nx pl : Nat} {se re : Bool} {s : St} {Q : Nat → Prop}
set_option maxHeartbeats 4000000 in
theorem wapp_no (h : Wq w g d mi ep nx pl se re s Q) (a : Option Addr) (m c : Nat) (hm : m ≤ 9223372036854775807) (hpl : pl ≤ roo s.n) (hE : aE (se && !edd mi re s) m nx pl (roo s.n) ≠ 0) :
    Calls Tryz.prog 20 #[.pointer (some ⟨g, 0, none⟩), .slice a m c] w fun en w' => en = .returned (.int .i64 (aE (se && !edd mi re s) m nx pl (roo s.n))) ∧ Drawn w w' := by
  have kn := need0_ (m : Int) w (by omega)
  rw [Int.toNat_natCast] at kn
  have kw := wwrit_ h
  have kL := fun wx (hx : Drawn w wx) (he : edd mi re s = false) => wleft_o (h.below hx.below) he hpl
  have c3 := h.lm.c3
  have HQ := hid h
  have hN := h.dv.n
  have hR : roo s.n ≤ 4095 := by unfold roo; omega
  obtain ⟨K, HK⟩ : ∃ K, Hid (ned m = K) := ⟨_, rfl⟩
  have hK : K ≤ 11 := by
    have := HK.out
    unfold ned pcN at this
    split at this
    · omega
    · split at this <;> omega
  rw [HK.out] at kn
  obtain ⟨L, HL⟩ : ∃ L, Hid (roo s.n - pl = L) := ⟨_, rfl⟩
  have hL : L ≤ 4095 := by have := HL.out; omega
  simp only [HL.out] at kL
  unfold aE at hE ⊢
  rw [HK.out, HL.out] at hE ⊢
  cases hok : (se && !edd mi re s) with
  | false =>
    rw [hok] at kw
    rw [if_pos rfl]
    clear h hE kL hL
    go_enter Tryz.func20, Tryz.ntmps20
    go_wp2_with fail
    refine kn.mono ?_
    rintro en w1 ⟨rfl, hw⟩
    obtain rfl := hw.symm
    clear hw
    go_wp2_with fail
    refine kw.mono ?_
    rintro en w1 ⟨rfl, d1⟩
    have HD := hid d1
    clear d1 kw
    go_wp2_with fail
    go_ret
    exact ⟨rfl, HD.out⟩
  | true =>
    rw [hok] at kw hE
    rw [if_neg (by decide)] at hE ⊢
    have hed : edd mi re s = false := by
      simp only [Bool.and_eq_true, Bool.not_eq_true'] at hok
      exact hok.2
    by_cases hk0 : K = 0
    · subst hk0
      rw [if_pos rfl]
      clear h hE kL hL hok hed
      go_enter Tryz.func20, Tryz.ntmps20
      go_wp2_with fail
      refine kn.mono ?_
      rintro en w1 ⟨rfl, hw⟩
      obtain rfl := hw.symm
      clear hw
      go_wp2_with fail
      refine kw.mono ?_
      rintro en w1 ⟨rfl, d1⟩
      have HD := hid d1
      clear d1 kw
      go_wp2_with fail
      go_ret
      exact ⟨rfl, HD.out⟩
    · rw [if_neg hk0] at hE ⊢
      have hkb : ((K : Int) == 0) = false := by simp; omega
      by_cases hnx : 4611686018427387904 < nx
      · rw [if_pos hnx]
        have hnI : (4611686018427387904 : Int) < (nx : Int) := by omega
        clear h hE kL hL hok hed
        go_enter Tryz.func20, Tryz.ntmps20
        go_wp2_with fail
        refine kn.mono ?_
        rintro en w1 ⟨rfl, hw⟩
        obtain rfl := hw.symm
        clear hw
        go_wp2_with fail
        refine kw.mono ?_
        rintro en w1 ⟨rfl, d1⟩
        have HD := hid d1
        have x3 := (HQ.out.lm.below d1.below).c3
        clear d1 kw
        go_wp2_with fail
        go_ret
        exact ⟨rfl, HD.out⟩
      · rw [if_neg hnx] at hE ⊢
        have hnI : ¬ (4611686018427387904 : Int) < (nx : Int) := by omega
        by_cases hlk : L < K
        · rw [if_pos hlk]
          have hlI : (L : Int) < (K : Int) := by omega
          clear h hE hL hok
          go_enter Tryz.func20, Tryz.ntmps20
          go_wp2_with fail
          refine kn.mono ?_
          rintro en w1 ⟨rfl, hw⟩
          obtain rfl := hw.symm
          clear hw
          go_wp2_with fail
          refine kw.mono ?_
          rintro en w1 ⟨rfl, d1⟩
          have HD := hid d1
          have x3 := (HQ.out.lm.below d1.below).c3
          have kL1 := kL w1 d1 hed
          clear d1 kw kL
          go_wp2_with fail
          refine kL1.mono ?_
          rintro en w2 ⟨rfl, d2⟩
          have HD2 := hid (HD.out.trans d2)
          clear d2 kL1
          go_wp2_with fail
          go_ret
          exact ⟨rfl, HD2.out⟩
        · rw [if_neg hlk] at hE
          exact absurd rfl hE
set_option maxHeartbeats 4000000 in
/-- An Append that is done, or that the device refuses. -/
theorem wapp_ (h : Wq w g d mi ep nx pl true false s Q) (hk : mi = s.k) (a : Option Addr) (m c : Nat) (tx : List Int) (hb : Bs w a m tx) (hqb : ∀ ad, a = some ad → 0 < m → ¬ Q ad.block ∧ ad.block ≠ g) (hmc : m ≤ c) (hcm : c ≤ maxLen) (h0 : 0 < m) (h2 : m ≤ 4800) (he : mq ep) (hn : mq nx) (hp : pl + ned m ≤ roo s.n) (hsc : s.c ≤ 40000) (hP : s.P.length ≤ 40000) :
    Calls Tryz.prog 20 #[.pointer (some ⟨g, 0, none⟩), .slice a m c] w fun en w' => en = .returned (.int .i64 (apR s s.n ep nx pl tx).1) ∧ Wz w w' g d mi ep (inc (apR s s.n ep nx pl tx).1 nx 1) (inc (apR s s.n ep nx pl tx).1 pl (ned m)) true ((apR s s.n ep nx pl tx).1 != 0) (apR s s.n ep nx pl tx).2 Q := by
  have hed : edd mi false s = false := by unfold edd; simp [hk]
  have kn := need0_ (m : Int) w (by omega)
  rw [Int.toNat_natCast] at kn
  have kw := wwrit_ h
  rw [hed] at kw
  have hN := h.dv.n
  have hR : roo s.n ≤ 4095 := by unfold roo; omega
  have kt : ∀ wx, Drawn w wx → Calls Tryz.prog 48 #[.pointer (some ⟨g, 0, none⟩), .slice a m c] wx fun en w' => en = .returned (.int .i64 (apR s s.n ep nx pl tx).1) ∧ Wz w w' g d mi ep nx pl true (false || (apR s s.n ep nx pl tx).1 != 0) (apR s s.n ep nx pl tx).2 Q := fun wx hx => by
    by_cases h480 : m ≤ 480
    · have e1 := ned_one h0 h480
      exact (wtx_1 g d mi ep nx pl true false s Q a m c tx wx (h.below hx.below) (hb.below hx.below) (fun ad ha q => (hqb ad ha q).1) h480 he hn (by omega) (by omega) (by omega)).mono (fun en w' ⟨x, y⟩ => ⟨x, Wz.first h hx.below y⟩)
    · obtain ⟨e1, e2, e3⟩ := ned_more (n := m) (by omega) h2
      exact (wtx_n g d mi ep nx pl true false s Q a m c tx wx (h.below hx.below) (hb.below hx.below) hqb hmc hcm (by omega) h2 he hn (by omega) hsc hP).mono (fun en w' ⟨x, y⟩ => ⟨x, Wz.first h hx.below y⟩)
  have hK0 : 0 < ned m ∧ ned m ≤ 11 := by
    by_cases h480 : m ≤ 480
    · rw [ned_one h0 h480]; omega
    · obtain ⟨e1, e2, e3⟩ := ned_more (n := m) (by omega) h2
      omega
  obtain ⟨K, HK⟩ : ∃ K, Hid (ned m = K) := ⟨_, rfl⟩
  rw [HK.out] at kn hp hK0 ⊢
  have kL := fun wx (hx : Drawn w wx) => wleft_o (h.below hx.below) hed (by omega)
  obtain ⟨L, HL⟩ : ∃ L, Hid (roo s.n - pl = L) := ⟨_, rfl⟩
  have hL : ¬ (L : Int) < (K : Int) := by have := HL.out; omega
  simp only [HL.out] at kL
  generalize apR s s.n ep nx pl tx = r at *
  obtain ⟨E, s'⟩ := r
  simp only [Bool.false_or] at *
  have hkb : ((K : Int) == 0) = false := by simp; omega
  have hnI : ¬ (4611686018427387904 : Int) < (nx : Int) := by have := hn.2; omega
  have HQ := hid h
  have hpl2 : pl ≤ 4095 := by omega
  have hnx2 : nx ≤ 4611686018427387904 := hn.2
  clear h hb hqb hed hR hp
  go_enter Tryz.func20, Tryz.ntmps20
  go_wp2_with fail
  refine kn.mono ?_
  rintro en w1 ⟨rfl, hw⟩
  obtain rfl := hw.symm
  clear hw
  go_wp2_with fail
  refine kw.mono ?_
  rintro en w1 ⟨rfl, d1⟩
  have HD := hid d1
  have x3 := (HQ.out.lm.below d1.below).c3
  have kL1 := kL w1 d1
  clear d1 kw kL
  go_wp2_with fail
  refine kL1.mono ?_
  rintro en w2 ⟨rfl, d2⟩
  have kt2 := kt w2 (HD.out.trans d2)
  clear d2 kL1 kt x3
  go_wp2_with fail
  refine kt2.mono ?_
  rintro en w3 ⟨rfl, Z3⟩
  have HZ3 := hid Z3
  clear kt2 Z3
  by_cases hE : E = 0
  · subst hE
    rw [show ((0 : Int) != 0) = false from by simp] at HZ3
    have c4 := HZ3.out.q.lm.c4
    have f4 := HZ3.out.q.lm.fz 4
    obtain ⟨P1, HP1⟩ : ∃ P1 : Nat, Hid (pl + K = P1) := ⟨_, rfl⟩
    have w1e : (pl : Int) + (K : Int) = (P1 : Int) := by have := HP1.out; omega
    obtain ⟨X1, HX1⟩ : ∃ X1 : Nat, Hid (nx + 1 = X1) := ⟨_, rfl⟩
    have w2e : (nx : Int) + 1 = (X1 : Int) := by have := HX1.out; omega
    have Z4 := HZ3.out.turn (HZ3.out.q.lm.s4 P1) (grown_set (grown_refl w3 (some g)) 4 (.int .i64 P1))
    have c3 := Z4.q.lm.c3
    have f3 := Z4.q.lm.fz 3
    have Z5 := Z4.turn (Z4.q.lm.s3 X1) (grown_set (grown_refl _ (some g)) 3 (.int .i64 X1))
    have HZ5 := hid Z5
    clear Z4 Z5 HZ3
    go_wp2_with fail
    go_ret
    refine ⟨rfl, ?_⟩
    rw [inc_y, inc_y, HP1.out, HX1.out]
    exact HZ5.out
  · have hEb : (E != 0) = true := by rw [bne_iff_ne]; exact hE
    go_wp2_with fail
    go_ret
    refine ⟨rfl, ?_⟩
    rw [inc_n hE, inc_n hE]
    exact by simpa [hEb] using HZ3.out
end
end Go.Proofs.YtblcpdffiafgnaaGreatDoor
namespace Go.Proofs.YtblcpdffiafgnaaGreatDoor
set_option linter.unusedSimpArgs false
set_option maxRecDepth 100000
open Go.RowKit Go.Shelf
set_option linter.unusedVariables false

/-- What yields its value in every world that meets S may be taken first. -/
theorem take12 {ops : Array Oper} {Q : Exit → Act → World → Prop} {md : Region.Mode} {S : World → Prop} {oi : Oper} {fuel : Nat} {listed : Array Bool} {a : Act} {w : World} (i d : Nat) (v : Value) (hi : ops[i]? = some oi) (hd : oi.dst = some d)
    (hs : Region.noSelect ops = true) (hf : Region.free md ops listed i = true) (hr : (Region.ready md ops listed).contains i = true)
    (hQ : ∀ c a w, Q (.panic c) (a.put oi.dst v) w → Q (.panic c) a w) (hy : YieldsIf Tryz.prog ops S oi v a) (hS : S w)
    (h : wpAnyH Tryz.prog md ops Q S fuel (listed.setIfInBounds i true) ⟨a.tmps.setIfInBounds d v, a.defers⟩ w) : wpAnyH Tryz.prog md ops Q S (fuel + 1) listed a w :=
  wpAnyH_take hi hs hf hr hQ hy hS (by rw [hd]; exact h)
theorem bel_drew12 {B : Nat} {a b : World} (h : Below B a b) : Below B a b.drew := h.trans ⟨rfl, rfl, rfl, Nat.le_refl _, fun _ _ => rfl⟩
/-- Why a Checkpoint is refused without an operation. -/
def kE (ok : Bool) (m ep nx R : Nat) : Int := if ok = false then 115 else if 4611686018427387904 < nx ∨ ep = 4611686018427387904 then 113 else if R < pcN m + 11 then 112 else 0
section
variable {w : World} {g d mi ep nx pl : Nat} {se re : Bool} {s : St} {Q : Nat → Prop}
set_option maxHeartbeats 4000000 in
theorem wchk_no (h : Wq w g d mi ep nx pl se re s Q) (a : Option Addr) (m c : Nat) (hm : m ≤ 9223372036854775807) (hE : kE (se && !edd mi re s) m ep nx (roo s.n) ≠ 0) :
    Calls Tryz.prog 25 #[.pointer (some ⟨g, 0, none⟩), .slice a m c] w fun en w' => en = .returned (.int .i64 (kE (se && !edd mi re s) m ep nx (roo s.n))) ∧ Drawn w w' := by
  have kw := wwrit_ h
  have kh := fun wx (hx : Drawn w wx) => whasRoom_ (h.dv.below hx.below) m hm
  have HQ := hid h
  unfold kE at hE ⊢
  cases hok : (se && !edd mi re s) with
  | false =>
    rw [hok] at kw
    rw [if_pos rfl]
    clear h hE kh
    go_enter Tryz.func25, Tryz.ntmps25
    go_wp2_with fail
    refine kw.mono ?_
    rintro en w1 ⟨rfl, d1⟩
    have HD := hid d1
    clear d1 kw
    go_wp2_with fail
    go_ret
    exact ⟨rfl, HD.out⟩
  | true =>
    rw [hok] at kw hE
    rw [if_neg (by decide)] at hE ⊢
    by_cases hnx : 4611686018427387904 < nx
    · rw [if_pos (.inl hnx)]
      have hnI : (4611686018427387904 : Int) < (nx : Int) := by omega
      clear h hE kh hok
      go_enter Tryz.func25, Tryz.ntmps25
      go_wp2_with fail
      refine kw.mono ?_
      rintro en w1 ⟨rfl, d1⟩
      have HD := hid d1
      have x2 := (HQ.out.lm.below d1.below).c2
      have x3 := (HQ.out.lm.below d1.below).c3
      clear d1 kw
      go_wp2_with fail
      go_ret
      exact ⟨rfl, HD.out⟩
    · have hnI : ¬ (4611686018427387904 : Int) < (nx : Int) := by omega
      have hnB : decide ((4611686018427387904 : Int) < (nx : Int)) = false := decide_eq_false hnI
      by_cases hep : ep = 4611686018427387904
      · rw [if_pos (.inr hep)]
        have heI : ((ep : Int) == 4611686018427387904) = true := by simp; omega
        clear h hE kh hok hep
        go_enter Tryz.func25, Tryz.ntmps25
        go_wp2_with fail
        refine kw.mono ?_
        rintro en w1 ⟨rfl, d1⟩
        have HD := hid d1
        have x2 := (HQ.out.lm.below d1.below).c2
        have x3 := (HQ.out.lm.below d1.below).c3
        clear d1 kw
        go_wp2_with fail
        go_ret
        exact ⟨rfl, HD.out⟩
      · rw [if_neg (by rintro (q | q); exact hnx q; exact hep q)] at hE ⊢
        have heI : ((ep : Int) == 4611686018427387904) = false := by simp; omega
        by_cases hr : roo s.n < pcN m + 11
        · rw [if_pos hr]
          have hd : decide (pcN m + 11 ≤ roo s.n) = false := decide_eq_false (by omega)
          simp only [hd] at kh
          clear h hE hok hep hr hd
          go_enter Tryz.func25, Tryz.ntmps25
          go_wp2_with fail
          refine kw.mono ?_
          rintro en w1 ⟨rfl, d1⟩
          have HD := hid d1
          have x0 := (HQ.out.lm.below d1.below).c0
          have x2 := (HQ.out.lm.below d1.below).c2
          have x3 := (HQ.out.lm.below d1.below).c3
          have kh1 := kh w1 d1
          clear d1 kw kh
          go_wp2_with fail
          refine kh1.mono ?_
          rintro en w2 ⟨rfl, hw⟩
          obtain rfl := hw.symm
          clear hw
          go_wp2_with fail
          go_ret
          exact ⟨rfl, HD.out⟩
        · rw [if_neg hr] at hE
          exact absurd rfl hE
set_option maxHeartbeats 8000000 in
/-- A Checkpoint that is done, or that the device refuses. -/
theorem wchk_ (h : Wq w g d mi ep nx pl true false s Q) (hk : mi = s.k) (a : Option Addr) (m c : Nat) (st : List Int) (hb : Bs w a m st) (hqb : ∀ ad, a = some ad → 0 < m → ¬ Q ad.block ∧ ad.block ≠ g) (hmc : m ≤ c) (hcm : c ≤ maxLen) (he : mq (ep + 1)) (hn : mq nx) (hr : pcN m + 11 ≤ roo s.n) (hsc : s.c ≤ 40000) (hP : s.P.length ≤ 40000) :
    Calls Tryz.prog 25 #[.pointer (some ⟨g, 0, none⟩), .slice a m c] w fun en w' => en = .returned (.int .i64 (ckp s s.n ep nx st).1) ∧ Wz w w' g d mi (inc (ckp s s.n ep nx st).1 ep 1) nx (if (ckp s s.n ep nx st).1 = 0 then pcN m else pl) true ((ckp s s.n ep nx st).1 != 0) (ckp s s.n ep nx st).2 Q := by
  have hed : edd mi false s = false := by unfold edd; simp [hk]
  have kw := wwrit_ h
  rw [hed] at kw
  have hN := h.dv.n
  have hR : roo s.n ≤ 4095 := by unfold roo; omega
  have hl := hb.1
  have hm2 : m ≤ 2000000 := by unfold pcN at hr; omega
  have kh := fun wx (hx : Drawn w wx) => whasRoom_ (h.dv.below hx.below) m (by omega)
  simp only [decide_eq_true hr] at kh
  have ko : ∀ wx, Below w.heap.size w wx → Calls Tryz.prog 50 #[.int .i64 ((ep + 1 : Nat) : Int), .int .i64 nx, .slice a m c] wx fun en w' => en = .returned (.agg #[.int .i64 ((ep + 1 : Nat) : Int), .int .i64 nx, .int .i64 m, .int .u32 (updc 0 st)]) ∧ Below wx.heap.size wx w' := fun wx hx =>
    (superOf_ _ _ a m c st wx (h.tb.bel hx) (hb.below hx) (by unfold maxLen; omega)).mono (fun en w' ⟨x, y⟩ => ⟨x, y⟩)
  have hsu := updc_lt (by omega : (0 : Nat) < 4294967296) (show By st from hb.2.1)
  have kp : ∀ wx, Below w.heap.size w wx → Calls Tryz.prog 52 #[.int .i64 ((ep + 1 : Nat) : Int), .int .i64 nx, .int .i64 0, .slice a m c] wx fun en w' => ∃ bb c', en = .returned (.slice bb (pcN m) c') ∧ Below wx.heap.size wx w' ∧ Calls Tryz.prog 51 #[.pointer (some ⟨g, 0, none⟩), .slice bb (pcN m) c'] w' fun en w'' => en = .returned (.int .i64 (wfl s (pw s.n (ep + 1) nx 0 st (pcN m))).1) ∧ Wz w' w'' g d mi ep nx pl true ((wfl s (pw s.n (ep + 1) nx 0 st (pcN m))).1 != 0) (wfl s (pw s.n (ep + 1) nx 0 st (pcN m))).2 Q := fun wx hx => by
    have hs := hx.size
    refine (pieces_ (ep + 1) nx 0 a m c st wx (hb.below hx) hm2 hmc hcm he hn (by omega)).mono ?_
    rintro en w' ⟨bb, c', xs, rfl, k1, k2, k3, k4, k5, k6, k7, k8⟩
    have B2 := bel_bel hx hs k8
    refine ⟨bb, c', rfl, k8, ?_⟩
    have := wlayL_ g d mi ep nx pl true false s Q bb (pcN m) c' xs w' (h.below B2) k3 k5 (fun ad ha _ q => by have := h.dv.lt _ q; have := k7 ad ha; omega) (fun y hy ad ha _ q => by
      obtain ⟨ad0, h3, h4, h5⟩ := k6 y hy ad ha
      rw [h5] at q
      exact (hqb ad0 h3 h4).1 q) (fun y hy => by
      obtain ⟨i, hi, h3⟩ := pcl_mem k4.out hy
      rw [h3, hom_t2]
      exact sct_lt' (by omega) hN.1) k1 k2 (by omega) (by omega) (by omega)
    rw [wrl_pcl k4.out] at this
    exact this.mono (fun en w'' ⟨x, y⟩ => ⟨x, by simpa using y⟩)
  have kN := fun w => pieces0_ (m : Int) w (by omega)
  simp only [Int.toNat_natCast] at kN
  have wn := wfl_n s (pw s.n (ep + 1) nx 0 st (pcN m))
  have hpl : (pw s.n (ep + 1) nx 0 st (pcN m)).length = pcN m := by unfold pw; simp
  rw [hpl] at wn
  have HTW : Hid (ckp s s.n ep nx st = if (wfl s (pw s.n (ep + 1) nx 0 st (pcN m))).1 = 0 then wfl (wfl s (pw s.n (ep + 1) nx 0 st (pcN m))).2 [((ep + 1) % 2, ps ⟨t1, (ep + 1 : Nat), nx, ((ep + 1) % 2 : Nat), sup s.n st⟩)] else wfl s (pw s.n (ep + 1) nx 0 st (pcN m))) := by
    show _ = _
    unfold ckp two
    rw [hl]
  have HSU : Hid (sup s.n st = be 4 s.n ++ be 4 (pcN m) ++ be 4 m ++ be 4 (updc 0 st)) := by
    show _ = _
    unfold sup
    rw [hl]
  generalize ckp s s.n ep nx st = r2 at *
  generalize wfl s (pw s.n (ep + 1) nx 0 st (pcN m)) = r at *
  obtain ⟨E1, s1⟩ := r
  obtain ⟨E, s'⟩ := r2
  simp only at *
  obtain ⟨K, HK⟩ : ∃ K, Hid (pcN m = K) := ⟨_, rfl⟩
  rw [HK.out] at hr wn HSU ⊢
  simp only [HK.out] at kp kN
  obtain ⟨S, HS⟩ : ∃ S, Hid (updc 0 st = S) := ⟨_, rfl⟩
  rw [HS.out] at hsu HSU
  simp only [HS.out] at ko
  obtain ⟨ee, Hee⟩ : ∃ ee : Nat, Hid (ep + 1 = ee) := ⟨_, rfl⟩
  have heI : (ep : Int) + 1 = (ee : Int) := by have := Hee.out; omega
  have heW : IntKind.i64.wrap ((ep : Int) + 1) = (ee : Int) := by rw [IntKind.wrap_i64]; have := Hee.out; have := he.2; omega
  have hee : mq ee := by rw [← Hee.out]; exact he
  simp only [Hee.out] at kp ko
  rw [Hee.out] at HTW
  have hnI : ¬ (4611686018427387904 : Int) < (nx : Int) := by have := hn.2; omega
  have hnB : decide ((4611686018427387904 : Int) < (nx : Int)) = false := decide_eq_false hnI
  have hepB : ((ep : Int) == 4611686018427387904) = false := by have := he.2; simp; omega
  have HQ := hid h
  have hgl := h.lm.lt
  clear h hb hed hqb hpl hk
  go_enter Tryz.func25, Tryz.ntmps25
  go_wp2_with fail
  refine kw.mono ?_
  rintro en w1 ⟨rfl, d1⟩
  have L1 := HQ.out.lm.below d1.below
  have x0 := L1.c0
  have x2 := L1.c2
  have x3 := L1.c3
  have kh1 := kh w1 d1
  have HD1 := hid d1
  clear d1 kw kh L1
  go_wp2_with fail
  refine kh1.mono ?_
  rintro en w2 ⟨rfl, hw⟩
  obtain rfl := hw.symm
  clear hw kh1
  have B0 : Below w.heap.size w w1 := HD1.out.below
  have q2 := HQ.out.lm.c2
  have q3 := HQ.out.lm.c3
  clear x0 x2 x3
  go_wp2_with fail
  go_cut [5] from 34 (fun v wx => ∃ gp, v = .pointer (some ⟨gp, 0, none⟩) ∧ w.heap.size ≤ gp ∧ Um wx gp ee nx m S ∧ Below w.heap.size w wx)
  case first =>
    refine wp_region_held_drew (S := fun wx => Below w.heap.size w wx) (by kernel_rfl) (bel_drew12 B0) (fun hHeld => ?_)
    replace B0 := bel_drew12 B0
    clear HD1
    generalize w1.drew = wd at *
    refine take12 0 34 (.pointer (some ⟨g, 0, none⟩)) rfl rfl (by kernel_rfl) (by kernel_rfl) (by kernel_rfl) (fun _ _ _ h => h) (Or.inl ⟨by kernel_rfl, fun w' h => ?_⟩) hHeld ?_
    · have y2 := (h.cell (p := ⟨g, 2, none⟩) hgl).trans q2
      have y3 := (h.cell (p := ⟨g, 3, none⟩) hgl).trans q3
      go_simp
      try (rw [IntKind.wrap_i64]; have := he.2; have := Hee.out; omega)
    try simp only [List.setIfInBounds_toArray, List.set_cons_zero, List.set_cons_succ]
    refine take12 1 35 (.pointer (some ⟨g, 0, none⟩)) rfl rfl (by kernel_rfl) (by kernel_rfl) (by kernel_rfl) (fun _ _ _ h => h) (Or.inl ⟨by kernel_rfl, fun w' h => ?_⟩) hHeld ?_
    · have y2 := (h.cell (p := ⟨g, 2, none⟩) hgl).trans q2
      have y3 := (h.cell (p := ⟨g, 3, none⟩) hgl).trans q3
      go_simp
      try (rw [IntKind.wrap_i64]; have := he.2; have := Hee.out; omega)
    try simp only [List.setIfInBounds_toArray, List.set_cons_zero, List.set_cons_succ]
    refine take12 2 36 (.pointer (some ⟨g, 2, none⟩)) rfl rfl (by kernel_rfl) (by kernel_rfl) (by kernel_rfl) (fun _ _ _ h => h) (Or.inl ⟨by kernel_rfl, fun w' h => ?_⟩) hHeld ?_
    · have y2 := (h.cell (p := ⟨g, 2, none⟩) hgl).trans q2
      have y3 := (h.cell (p := ⟨g, 3, none⟩) hgl).trans q3
      go_simp
      try (rw [IntKind.wrap_i64]; have := he.2; have := Hee.out; omega)
    try simp only [List.setIfInBounds_toArray, List.set_cons_zero, List.set_cons_succ]
    refine take12 3 37 (.int .i64 ep) rfl rfl (by kernel_rfl) (by kernel_rfl) (by kernel_rfl) (fun _ _ _ h => h) (Or.inl ⟨by kernel_rfl, fun w' h => ?_⟩) hHeld ?_
    · have y2 := (h.cell (p := ⟨g, 2, none⟩) hgl).trans q2
      have y3 := (h.cell (p := ⟨g, 3, none⟩) hgl).trans q3
      go_simp
      try (rw [IntKind.wrap_i64]; have := he.2; have := Hee.out; omega)
    try simp only [List.setIfInBounds_toArray, List.set_cons_zero, List.set_cons_succ]
    refine take12 4 38 (.int .i64 ee) rfl rfl (by kernel_rfl) (by kernel_rfl) (by kernel_rfl) (fun _ _ _ h => h) (Or.inl ⟨by kernel_rfl, fun w' h => ?_⟩) hHeld ?_
    · have y2 := (h.cell (p := ⟨g, 2, none⟩) hgl).trans q2
      have y3 := (h.cell (p := ⟨g, 3, none⟩) hgl).trans q3
      go_simp
      try (rw [IntKind.wrap_i64]; have := he.2; have := Hee.out; omega)
    try simp only [List.setIfInBounds_toArray, List.set_cons_zero, List.set_cons_succ]
    refine take12 5 39 (.pointer (some ⟨g, 0, none⟩)) rfl rfl (by kernel_rfl) (by kernel_rfl) (by kernel_rfl) (fun _ _ _ h => h) (Or.inl ⟨by kernel_rfl, fun w' h => ?_⟩) hHeld ?_
    · have y2 := (h.cell (p := ⟨g, 2, none⟩) hgl).trans q2
      have y3 := (h.cell (p := ⟨g, 3, none⟩) hgl).trans q3
      go_simp
      try (rw [IntKind.wrap_i64]; have := he.2; have := Hee.out; omega)
    try simp only [List.setIfInBounds_toArray, List.set_cons_zero, List.set_cons_succ]
    refine take12 6 40 (.pointer (some ⟨g, 0, none⟩)) rfl rfl (by kernel_rfl) (by kernel_rfl) (by kernel_rfl) (fun _ _ _ h => h) (Or.inl ⟨by kernel_rfl, fun w' h => ?_⟩) hHeld ?_
    · have y2 := (h.cell (p := ⟨g, 2, none⟩) hgl).trans q2
      have y3 := (h.cell (p := ⟨g, 3, none⟩) hgl).trans q3
      go_simp
      try (rw [IntKind.wrap_i64]; have := he.2; have := Hee.out; omega)
    try simp only [List.setIfInBounds_toArray, List.set_cons_zero, List.set_cons_succ]
    refine take12 7 41 (.pointer (some ⟨g, 3, none⟩)) rfl rfl (by kernel_rfl) (by kernel_rfl) (by kernel_rfl) (fun _ _ _ h => h) (Or.inl ⟨by kernel_rfl, fun w' h => ?_⟩) hHeld ?_
    · have y2 := (h.cell (p := ⟨g, 2, none⟩) hgl).trans q2
      have y3 := (h.cell (p := ⟨g, 3, none⟩) hgl).trans q3
      go_simp
      try (rw [IntKind.wrap_i64]; have := he.2; have := Hee.out; omega)
    try simp only [List.setIfInBounds_toArray, List.set_cons_zero, List.set_cons_succ]
    refine take12 8 42 (.int .i64 nx) rfl rfl (by kernel_rfl) (by kernel_rfl) (by kernel_rfl) (fun _ _ _ h => h) (Or.inl ⟨by kernel_rfl, fun w' h => ?_⟩) hHeld ?_
    · have y2 := (h.cell (p := ⟨g, 2, none⟩) hgl).trans q2
      have y3 := (h.cell (p := ⟨g, 3, none⟩) hgl).trans q3
      go_simp
      try (rw [IntKind.wrap_i64]; have := he.2; have := Hee.out; omega)
    try simp only [List.setIfInBounds_toArray, List.set_cons_zero, List.set_cons_succ]
    refine take12 9 43 (.slice a m c) rfl rfl (by kernel_rfl) (by kernel_rfl) (by kernel_rfl) (fun _ _ _ h => h) (Or.inl ⟨by kernel_rfl, fun w' h => ?_⟩) hHeld ?_
    · have y2 := (h.cell (p := ⟨g, 2, none⟩) hgl).trans q2
      have y3 := (h.cell (p := ⟨g, 3, none⟩) hgl).trans q3
      go_simp
      try (rw [IntKind.wrap_i64]; have := he.2; have := Hee.out; omega)
    try simp only [List.setIfInBounds_toArray, List.set_cons_zero, List.set_cons_succ]
    refine wpAnyH_ready (rs := [10, 11]) (by kernel_rfl) (by simp) ?_
    refine AllReadyH.cons rfl (fun K' hK' => ?_) (AllReadyH.cons rfl (fun K' hK' => ?_) AllReadyH.nil)
    · rw [if_pos (by kernel_rfl)]
      go_wp2_with fail
      refine (ko _ B0).mono ?_
      rintro y x1 ⟨rfl, g2⟩
      replace B0 := bel_bel B0 B0.size g2
      clear g2 hHeld
      try go_wp2_with fail
      refine hK'.out _ _ B0 (fun hHeld => ?_)
      clear hK' K'
      try simp only [Act.put, List.setIfInBounds_toArray, List.set_cons_zero, List.set_cons_succ]
      refine wpAnyH_ready (rs := [11]) (by kernel_rfl) (by simp) ?_
      refine AllReadyH.cons rfl (fun K' hK' => ?_) AllReadyH.nil
      rw [if_pos (by kernel_rfl)]
      go_wp2_with fail
      have m1 := Um.new x1 0 0 0 0
      have hB0 := B0.size
      replace B0 := B0.alloc B0.size (.cells #[.int .i64 0, .int .i64 0, .int .i64 0, .int .u32 0] 88)
      generalize x1.alloc (.cells #[.int .i64 0, .int .i64 0, .int .i64 0, .int .u32 0] 88) = x2 at *
      generalize x1.heap.size = gp at *
      clear hHeld
      refine hK'.out _ _ B0 (fun hHeld => ?_)
      clear hK' K'
      try simp only [Act.put, List.setIfInBounds_toArray, List.set_cons_zero, List.set_cons_succ]
      refine wpAnyH_ready (rs := [12]) (by kernel_rfl) (by simp) ?_
      refine AllReadyH.cons rfl (fun K' hK' => ?_) AllReadyH.nil
      rw [if_pos (by kernel_rfl)]
      refine wp_store_row _ _ _ rfl gp #[.int .i64 ee, .int .i64 nx, .int .i64 m, .int .u32 S] rfl rfl _ _ m1 sizeU rfl (by simp [Value.oneCell']) ?_
      replace m1 := m1.row ee nx m S
      replace B0 := bel_row B0 (g := gp) (by omega) #[.int .i64 ee, .int .i64 nx, .int .i64 m, .int .u32 S]
      clear hHeld
      refine hK'.out _ _ B0 (fun hHeld => ?_)
      clear hK' K'
      try simp only [Act.put, List.setIfInBounds_toArray, List.set_cons_zero, List.set_cons_succ]
      refine wpAnyH_done (by kernel_rfl) ?_ _
      go_wp2_with fail
      go_meet
      case rel => exact ⟨gp, rfl, by omega, m1, B0⟩
    · rw [if_pos (by kernel_rfl)]
      go_wp2_with fail
      have m1 := Um.new wd 0 0 0 0
      have hB0 := B0.size
      replace B0 := B0.alloc B0.size (.cells #[.int .i64 0, .int .i64 0, .int .i64 0, .int .u32 0] 88)
      generalize wd.alloc (.cells #[.int .i64 0, .int .i64 0, .int .i64 0, .int .u32 0] 88) = x2 at *
      generalize wd.heap.size = gp at *
      clear hHeld
      refine hK'.out _ _ B0 (fun hHeld => ?_)
      clear hK' K'
      try simp only [Act.put, List.setIfInBounds_toArray, List.set_cons_zero, List.set_cons_succ]
      refine wpAnyH_ready (rs := [10]) (by kernel_rfl) (by simp) ?_
      refine AllReadyH.cons rfl (fun K' hK' => ?_) AllReadyH.nil
      rw [if_pos (by kernel_rfl)]
      go_wp2_with fail
      refine (ko _ B0).mono ?_
      rintro y x1 ⟨rfl, g2⟩
      replace B0 := bel_bel B0 B0.size g2
      replace m1 := m1.below g2
      clear g2 hHeld
      try go_wp2_with fail
      refine hK'.out _ _ B0 (fun hHeld => ?_)
      clear hK' K'
      try simp only [Act.put, List.setIfInBounds_toArray, List.set_cons_zero, List.set_cons_succ]
      refine wpAnyH_ready (rs := [12]) (by kernel_rfl) (by simp) ?_
      refine AllReadyH.cons rfl (fun K' hK' => ?_) AllReadyH.nil
      rw [if_pos (by kernel_rfl)]
      refine wp_store_row _ _ _ rfl gp #[.int .i64 ee, .int .i64 nx, .int .i64 m, .int .u32 S] rfl rfl _ _ m1 sizeU rfl (by simp [Value.oneCell']) ?_
      replace m1 := m1.row ee nx m S
      replace B0 := bel_row B0 (g := gp) (by omega) #[.int .i64 ee, .int .i64 nx, .int .i64 m, .int .u32 S]
      clear hHeld
      refine hK'.out _ _ B0 (fun hHeld => ?_)
      clear hK' K'
      try simp only [Act.put, List.setIfInBounds_toArray, List.set_cons_zero, List.set_cons_succ]
      refine wpAnyH_done (by kernel_rfl) ?_ _
      go_wp2_with fail
      go_meet
      case rel => exact ⟨gp, rfl, by omega, m1, B0⟩
  case rest =>
    obtain ⟨gp, rfl, hgp, mU, B2⟩ := hcut
    have k0 := mU.c0
    have k1 := mU.c1
    have kp1 := kp wc B2
    have HMU := hid mU
    have HB2 := hid B2
    clear kp ko B0 B2 mU HD1
    go_wp2_with fail
    refine kp1.mono ?_
    rintro en w3 ⟨bb, cb, rfl, B3, kl⟩
    have mU3 := HMU.out.below B3
    have HB3 := hid (bel_bel HB2.out HB2.out.size B3)
    clear kp1 B3 k0 k1
    go_wp2_with fail
    refine kl.mono ?_
    rintro en w4 ⟨rfl, Z4⟩
    have hgpQ : ¬ Qg Q g gp := fun q => by
      rcases q with q | q
      · have := HQ.out.dv.lt gp q; omega
      · omega
    have mU4 : Um w4 gp ee nx m S := mU3.at (Z4.f.same gp mU3.lt hgpQ)
    have HZ4 := hid Z4
    have k0 := mU4.c0
    have k1 := mU4.c1
    have k2 := mU4.c2
    have k3 := mU4.c3
    have l0 := Z4.q.lm.c0
    have HMU4 := hid mU4
    have hs3w := HB3.out.size
    have hgp3 : Hid (gp < w3.heap.size) := mU3.lt
    have HGQ := hid hgpQ
    clear kl Z4 mU4 mU3 HMU hgpQ
    by_cases hE : E1 = 0
    · subst hE
      rw [if_pos rfl] at HTW
      rw [show ((0 : Int) != 0) = false from by simp] at HZ4
      obtain ⟨rr, Hrr⟩ : ∃ rr : Nat, Hid (ee % 2 = rr) := ⟨_, rfl⟩
      have hrr : rr ≤ 1 := by have := Hrr.out; omega
      rw [Hrr.out] at HTW
      have hs3 : s1.c ≤ 50000 ∧ s1.P.length ≤ 50000 := ⟨by omega, by omega⟩
      have hgl4 := HZ4.out.q.lm.lt
      have hgp4 := HMU4.out.lt
      have kon : ∀ wx, Drawn w4 wx → Calls Tryz.prog 53 #[.agg #[.int .i64 ee, .int .i64 nx, .int .i64 m, .int .u32 S], .pointer (some ⟨d, 0, none⟩)] wx fun en w' => ∃ g5, en = .returned (.agg #[.string ⟨#[67, 86, 83, 49]⟩, .int .i64 ee, .int .i64 nx, .int .i64 rr, .slice (some ⟨g5, 0, none⟩) 16 16]) ∧ Below w4.heap.size w4 w' ∧ Calls Tryz.prog 51 #[.pointer (some ⟨g, 0, none⟩), .slice (some ⟨w'.heap.size, 0, none⟩) 1 1] (w'.alloc (.cells #[.string ⟨#[67, 86, 83, 49]⟩, .int .i64 ee, .int .i64 nx, .int .i64 rr, .slice (some ⟨g5, 0, none⟩) 16 16] 31)) fun en w'' => en = .returned (.int .i64 E) ∧ Wz w w'' g d mi ep nx pl true (E != 0) s' Q ∧ Um w'' gp ee nx m S := fun wx hx => by
        have Q4 := HZ4.out.q
        have hsx : w4.heap.size = wx.heap.size := by rw [hx.heap]
        have := on_ ee nx m S d s1 (Qn Q w3 w4) wx (Q4.dv.below hx.below) (by have := hee.2; omega) (by omega) hsu
        rw [Hrr.out, HK.out, wn.1, ← HSU.out] at this
        refine this.mono ?_
        rintro en w' ⟨g5, rfl, hg5, r5, B5⟩
        have B6 := bel_bel hx.below hx.below.size B5
        refine ⟨g5, rfl, B6, ?_⟩
        have := wlay1_ g d mi ep nx pl true false s1 (Qn Q w3 w4) t1 ee nx rr (some ⟨g5, 0, none⟩) 16 16 (sup s.n st) w' (Q4.below B6) (r5.bs12 (sup_length _ _) (sup_by _ _)) ⟨.inl rfl, ⟨by have := hee.1; omega, by have := hee.2; omega⟩, ⟨by have := hn.1; omega, by have := hn.2; omega⟩, ⟨by omega, by omega⟩, by omega⟩ (fun ad ha _ q => by
          obtain rfl := Option.some.inj ha
          have := Q4.dv.lt _ q
          simp only at this
          omega) (by unfold hom; rw [if_pos rfl, wn.1, Int.toNat_natCast]; omega) hs3.1 hs3.2
        rw [show hom s1.n ⟨t1, ee, nx, rr, sup s.n st⟩ = rr from by unfold hom; rw [if_pos rfl, Int.toNat_natCast]] at this
        have hE' := HTW.out
        rw [← hE'] at this
        refine this.mono (fun en w'' ⟨x, y⟩ => ⟨x, Wz.first HQ.out HB3.out (HZ4.out.trans (fun b q => by have := HQ.out.dv.lt b q; omega) (by omega) (by have := HQ.out.tb.1; omega) (Wz.first Q4 B6 (by simpa using y))), ?_⟩)
        exact (HMU4.out.below B6).at (y.f.same gp (by have := B6.size; omega) (fun q => by
          rcases q with q | q
          · rcases q with q | q
            · exact HGQ.out (.inl q)
            · have := hgp3.out; omega
          · exact HGQ.out (.inr q)))
      go_wp2_with fail
      go_region_held (fun wx => wx.cell? ⟨gp, 0, none⟩ = some (.int .i64 ee) ∧ wx.cell? ⟨gp, 1, none⟩ = some (.int .i64 nx) ∧ wx.cell? ⟨gp, 2, none⟩ = some (.int .i64 m) ∧ wx.cell? ⟨gp, 3, none⟩ = some (.int .u32 S) ∧ wx.cell? ⟨g, 0, none⟩ = some (.pointer (some ⟨d, 0, none⟩))) (go_keep) (first | (go_at_call 53; refine (kon _ (by exact ⟨rfl, rfl, rfl, rfl⟩)).mono ?_; rintro en w5 ⟨g5, rfl, B5, kl⟩; have y0 := (B5.cell (p := ⟨gp, 0, none⟩) hgp4).trans k0; have y1 := (B5.cell (p := ⟨gp, 1, none⟩) hgp4).trans k1; have y2 := (B5.cell (p := ⟨gp, 2, none⟩) hgp4).trans k2; have y3 := (B5.cell (p := ⟨gp, 3, none⟩) hgp4).trans k3; have y4 := (B5.cell (p := ⟨g, 0, none⟩) hgl4).trans l0; have hgp5 := Nat.lt_of_lt_of_le hgp4 B5.size; have hgl5 := Nat.lt_of_lt_of_le hgl4 B5.size; have BA := (Below.refl w5.heap.size w5).alloc (Nat.le_refl _) (.cells #[.string ⟨#[67, 86, 83, 49]⟩, .int .i64 ee, .int .i64 nx, .int .i64 rr, .slice (some ⟨g5, 0, none⟩) 16 16] 31); have v0 := (BA.cell (p := ⟨gp, 0, none⟩) hgp5).trans y0; have v1 := (BA.cell (p := ⟨gp, 1, none⟩) hgp5).trans y1; have v2 := (BA.cell (p := ⟨gp, 2, none⟩) hgp5).trans y2; have v3 := (BA.cell (p := ⟨gp, 3, none⟩) hgp5).trans y3; have v4 := (BA.cell (p := ⟨g, 0, none⟩) hgl5).trans y4; clear B5 BA) | (go_at_call 51; refine kl.mono ?_; rintro en w6 ⟨rfl, Z6, mU6⟩; have HZ6 := hid Z6; have HMU6 := hid mU6; have x0 := mU6.c0; have x1 := mU6.c1; have x2 := mU6.c2; have x3 := mU6.c3; have x4 := Z6.q.lm.c0; clear Z6 mU6))
      clear kon kl y0 y1 y2 y3 y4 v0 v1 v2 v3 v4
      by_cases hE2 : E = 0
      · subst hE2
        rw [show ((0 : Int) != 0) = false from by simp] at HZ6
        have c2 := HZ6.out.q.lm.c2
        have f2 := HZ6.out.q.lm.fz 2
        have Z7 := HZ6.out.turn (HZ6.out.q.lm.s2 ee) (grown_set (grown_refl w6 (some g)) 2 (.int .i64 ee))
        have mU7 : Um (w6.setCell ⟨g, 2, none⟩ (.int .i64 ee)) gp ee nx m S := HMU6.out.at (Below.heap_setCell _ _ _ _ (fun q => HGQ.out (.inr q)))
        have u2 := mU7.c2
        have c4 := Z7.q.lm.c4
        have f4 := Z7.q.lm.fz 4
        have Z8 := Z7.turn (Z7.q.lm.s4 K) (grown_set (grown_refl _ (some g)) 4 (.int .i64 K))
        have HZ8 := hid Z8
        clear Z7 Z8 HZ6
        go_wp2_with fail
        refine (kN _).mono ?_
        rintro en w7 ⟨rfl, hw⟩
        obtain rfl := hw.symm
        clear hw
        go_wp2_with fail
        go_ret
        refine ⟨rfl, ?_⟩
        rw [inc_y, Hee.out]
        simpa using HZ8.out
      · have hEb : (E != 0) = true := by rw [bne_iff_ne]; exact hE2
        go_wp2_with fail
        go_ret
        refine ⟨rfl, ?_⟩
        rw [inc_n hE2]
        simpa [hEb, hE2] using HZ6.out
    · have hEb : (E1 != 0) = true := by rw [bne_iff_ne]; exact hE
      rw [if_neg hE] at HTW
      obtain ⟨rfl, rfl⟩ : E = E1 ∧ s' = s1 := by simpa using HTW.out
      have HZ := hid (Wz.first HQ.out HB3.out HZ4.out)
      go_wp2_with fail
      go_ret
      refine ⟨rfl, ?_⟩
      rw [inc_n hE]
      simpa [hEb, hE] using HZ.out
end
end Go.Proofs.YtblcpdffiafgnaaGreatDoor
namespace Go.Proofs.YtblcpdffiafgnaaGreatDoor
set_option linter.unusedSimpArgs false
set_option maxRecDepth 100000
open Go.RowKit Go.Shelf
set_option linter.unusedVariables false

theorem layA_sec {n : Nat} : ∀ (P : List (Nat × List Int)) (S : Nat → List Int), (∀ i, i < n → Sc5 (S i)) → (∀ p ∈ P, p.1 < n ∧ Sc5 p.2) → ∀ i, i < n → Sc5 (layA S P i)
  | [], S, hs, _, i, hi => hs i hi
  | p :: P, S, hs, hp, i, hi => by
    show Sc5 (layA (lay1 S p) P i)
    refine layA_sec P (lay1 S p) (fun j hj => ?_) (fun q hq => hp q (List.mem_cons_of_mem _ hq)) i hi
    unfold lay1
    split
    · exact (hp p List.mem_cons_self).2
    · exact hs j hj
theorem Dev.cur {w : World} {d : Nat} {s : St} {Q : Nat → Prop} (h : Dev w d s Q) (i : Nat) (hi : i < s.n) : Sc5 (layA s.S s.P i) := layA_sec s.P s.S h.sec h.pen i hi
/-- A read of a sector that is there. -/
theorem wread_ (d i : Nat) (s : St) (Q : Nat → Prop) (w : World) (h : Dev w d s Q) (hi : i < s.n) (hc : s.c ≤ 100000) (hp : s.P.length ≤ 100000) :
    Calls Tryz.prog 60 #[.pointer (some ⟨d, 0, none⟩), .int .i64 i] w fun e w' => ∃ a n c, e = .returned (.tuple #[.slice a n c, .int .i64 (opE s)]) ∧ n ≤ c ∧ c ≤ maxLen ∧ (opE s = 0 → Bs w' a n (layA s.S s.P i) ∧ n = 512) ∧ (∀ ad, a = some ad → w.heap.size ≤ ad.block) ∧ Dev w' d (opS s) Q ∧ Fr Q w w' := by
  have e1 : rdE s i = opE s := by unfold rdE; rw [if_pos ⟨by omega, by omega⟩]
  have e2 : rdS s i = opS s := by unfold rdS; rw [if_pos ⟨by omega, by omega⟩]
  have hs := h.cur i hi
  have := dread_ d i s Q w h (by omega) (by omega)
  rw [e1, e2] at this
  refine this.mono ?_
  rintro e w' ⟨v, rfl, o, D, F⟩
  obtain ⟨a, c, rfl, h1, h2, h3⟩ := own_slice o
  refine ⟨a, _, c, rfl, h1, h2, fun h0 => ?_, fun ad ha => (h3 ad ha).2, D, F⟩
  have e3 : rdB s i = layA s.S s.P i := by unfold rdB; rw [e1, if_pos h0, Int.toNat_natCast]
  rw [e3] at o ⊢
  obtain ⟨a', c', e', zb, _⟩ := own_form o hs.2
  obtain ⟨rfl, -, -⟩ : a = a' ∧ True ∧ c = c' := by simpa using e'
  exact ⟨zb, hs.1⟩
/-- A Format: what it answers, and how the device stands. -/
def fmA : Nat → Nat → St → Int × St
  | 0, _, s => wfl s [(1, ps ⟨t1, 1, 1, 1, sup s.n []⟩)]
  | f + 1, i, s => if opE s = 0 then (if layA s.S s.P i = zer then fmA f (i + 1) (opS s) else (116, opS s)) else (opE s, opS s)
theorem zer_by : By zer := zer_sec.2
set_option maxHeartbeats 4000000 in
theorem format_ (d : Nat) (s : St) (Q : Nat → Prop) (w : World) (h : Dev w d s Q) (hT : Tab w) (h0 : ¬ Q 0) (hsc : s.c ≤ 30000) (hP : s.P.length ≤ 30000) :
    Calls Tryz.prog 33 #[.pointer (some ⟨d, 0, none⟩)] w fun en w' => en = .returned (.int .i64 (fmA s.n 0 s).1) ∧ Dev w' d (fmA s.n 0 s).2 (Qn Q w w') ∧ Fr Q w w' := by
  obtain ⟨i5, hi5, hz0, hz1, hz2⟩ := info_parts info5
  have hN := h.n
  have ks := sectorsD h
  have HD := hid h
  have HT := hid hT
  have H0 := hid h0
  have hlt := h.lt
  obtain ⟨n, HN⟩ : ∃ n, Hid (s.n = n) := ⟨_, rfl⟩
  rw [HN.out] at ks hN ⊢
  clear h hT h0
  have QW : ∀ w', Fr Q w w' → ∀ s', Dev w' d s' Q → Dev w' d s' (Qn Q w w') := fun w' F s' D => D.weak (fun b q => .inl q) (fun b q => by
    rcases q with q | q
    · exact D.lt b q
    · exact q.2)
  go_enter Tryz.func33, Tryz.ntmps33
  go_wp2_with fail
  refine ks.mono ?_
  rintro en w1 ⟨rfl, hw⟩
  obtain rfl := hw.symm
  clear hw ks
  go_wp2_with fail
  go_loopw [3, 4, 5, 8] (fun _ _ _ i wr => ∃ j si, j ≤ n ∧ i = .int .i64 (j : Nat) ∧ Hid (fmA (n - j) j si = fmA n 0 s) ∧ Hid (si.n = n ∧ si.c ≤ s.c + j ∧ si.P.length = s.P.length) ∧ Dev wr d si Q ∧ Fr Q w wr) (fun _ _ _ i _ => n - (intOf i).toNat)
  case atStart => exact ⟨0, s, Nat.zero_le _, rfl, rfl, ⟨HN.out, Nat.le_refl _, rfl⟩, HD.out, .refl _ _⟩
  case round =>
    obtain ⟨j, si, hj, rfl, HF, HS, D1, F1⟩ := hrel
    obtain ⟨sn, sc, sp⟩ := HS.out
    by_cases hlt2 : j < n
    · have hjI : (j : Int) < (n : Int) := by omega
      have kr := wread_ d j si Q wr D1 (by omega) (by omega) (by omega)
      have hcur := D1.cur j (by omega)
      have HFS : Hid (fmA (n - j) j si = if opE si = 0 then (if layA si.S si.P j = zer then fmA (n - (j + 1)) (j + 1) (opS si) else (116, opS si)) else (opE si, opS si)) := by
        show _ = _
        rw [show n - j = (n - (j + 1)) + 1 from by omega]
        rfl
      have HF1 := hid F1
      obtain ⟨E, HE⟩ : ∃ E, Hid (opE si = E) := ⟨_, rfl⟩
      rw [HE.out] at HFS kr
      clear D1 F1
      go_wp2_with fail
      refine kr.mono ?_
      rintro en w2 ⟨a, nb, c, rfl, hnc, hcm, hbs, _, D2, F2⟩
      have HF2 := hid (HF1.out.trans F2)
      have HD2 := hid D2
      clear kr D2 F2
      by_cases hE : E = 0
      · subst hE
        rw [if_pos rfl] at HFS
        obtain ⟨b2, rfl⟩ := hbs rfl
        have HB2 := hid b2
        clear hbs b2
        unfold maxLen at hcm
        go_wp2_with (at_make; refine wpList_make_full _ rfl _ _ 27 rfl 0 5 i5 (.int .u8 0) 1 Tryz.underlying27 hi5 hz0 hz1 .i64 .i64 _ _ 512 rfl rfl (by omega) (by omega) (by rw [hz2]; omega) (by unfold maxLen; omega) (by omega) ?_; intro w3 hown hg3; have r0 := row_of_own ((made_zeros 512) ▸ hown); clear hown)
        have bz : Bs w3 (some ⟨w2.heap.size, 0, none⟩) 512 zer := r0.bs12 (by simp) zer_by
        have BL := below_of_grown hg3
        have ke := equal_ a (some ⟨w2.heap.size, 0, none⟩) 512 c 512 512 (layA si.S si.P j) zer w3 (HB2.out.below BL) bz
        have HD3 := hid (HD2.out.below BL)
        have HF3 := hid (HF2.out.below BL)
        clear bz BL hg3 r0
        by_cases hz : layA si.S si.P j = zer
        · rw [show sameB (layA si.S si.P j) zer = true from decide_eq_true hz] at ke
          rw [if_pos hz] at HFS
          have HFN := hid (HFS.out.symm.trans HF.out)
          have o1 := opS_c si
          have o2 := opS_n si
          have o3 := opS_P si
          have HS2 : Hid ((opS si).n = n ∧ (opS si).c ≤ s.c + (j + 1) ∧ (opS si).P.length = s.P.length) := ⟨o2.trans sn, by omega, by rw [o3]; exact sp⟩
          clear hz o1 o2 o3
          refine ke.mono ?_
          rintro en w4 ⟨rfl, hw⟩
          obtain rfl := hw.symm
          clear hw ke
          go_wp2_with fail
          go_roundw
          case rel => exact ⟨j + 1, opS si, by omega, by go_num, HFN.out, HS2.out, HD3.out, HF3.out⟩
          case measure => simp [intOf]; omega
        · rw [show sameB (layA si.S si.P j) zer = false from decide_eq_false hz] at ke
          rw [if_neg hz] at HFS
          have HFIN := hid (HF.out.symm.trans HFS.out)
          clear hz
          refine ke.mono ?_
          rintro en w4 ⟨rfl, hw⟩
          obtain rfl := hw.symm
          clear hw ke
          go_wp2_with fail
          go_ret
          rw [HFIN.out]
          exact ⟨rfl, QW _ HF3.out _ HD3.out, HF3.out⟩
      · have hEb : (E != 0) = true := by rw [bne_iff_ne]; exact hE
        rw [if_neg hE] at HFS
        have hfin := HF.out.symm.trans HFS.out
        have HFIN := hid hfin
        clear hfin hE
        go_wp2_with fail
        go_ret
        rw [HFIN.out]
        exact ⟨rfl, QW _ HF2.out _ HD2.out, HF2.out⟩
    · obtain rfl : j = n := by omega
      have hjI : ¬ (j : Int) < (j : Int) := by omega
      rw [Nat.sub_self] at HF
      have HFIN : Hid (fmA j 0 s = wfl si [(1, ps ⟨t1, 1, 1, 1, sup si.n []⟩)]) := HF.out.symm
      have T1 := HT.out.fr F1 H0.out
      have k1 := superOf_ 1 1 none 0 0 [] wr T1 (bs_nil wr none) (by unfold maxLen; omega)
      have hsu := updc_lt (by omega : (0 : Nat) < 4294967296) (show By [] from fun z hz => by cases hz)
      obtain ⟨S, HSm⟩ : ∃ S, Hid (updc 0 [] = S) := ⟨_, rfl⟩
      rw [HSm.out] at k1 hsu
      have HD1 := hid D1
      have HF1 := hid F1
      have HT1 := hid T1
      clear D1 F1 T1
      go_wp2_with fail
      refine k1.mono ?_
      rintro en w2 ⟨rfl, B2⟩
      have k2 := on_ 1 1 0 S d si Q w2 (HD1.out.below B2) (by omega) (by omega) hsu
      have HB2 := hid B2
      clear k1 B2
      go_wp2_with fail
      refine k2.mono ?_
      rintro en w3 ⟨g5, rfl, hg5, r5, B3⟩
      have HB3 := hid (bel_bel HB2.out HB2.out.size B3)
      have hs2 := HB2.out.size
      have r6 : Row w3 g5 (sup si.n []) := by rw [← HSm.out] at r5; exact r5
      have D3 := HD1.out.below HB3.out
      have T3 := HT1.out.bel HB3.out
      have B4 := snew w3 t1 1 1 1 (.slice (some ⟨g5, 0, none⟩) 16 16)
      have k3 := wlay_ d si Q (some ⟨w3.heap.size, 0, none⟩) 1 1 [⟨⟨t1, 1, 1, 1, sup si.n []⟩, some ⟨g5, 0, none⟩, 16, 16⟩] _ (D3.below B4) (T3.bel B4) H0.out (Sl.one w3 t1 1 1 1 (some ⟨g5, 0, none⟩) 16 16 (sup si.n [])) (Sb.one ((r6.bs12 (sup_length _ _) (sup_by _ _)).below B4) ⟨.inl rfl, ⟨by omega, by omega⟩, ⟨by omega, by omega⟩, ⟨by omega, by omega⟩, by omega⟩) (fun ad ha _ q => by
        obtain rfl := Option.some.inj ha
        have := D3.lt _ q
        simp only at this
        omega) (fun y hy ad ha _ q => by
        obtain rfl := List.mem_singleton.1 hy
        obtain rfl := Option.some.inj ha
        have := HD1.out.lt _ q
        simp only at this
        omega) (fun y hy => by
        obtain rfl := List.mem_singleton.1 hy
        show hom si.n ⟨t1, 1, 1, 1, sup si.n []⟩ < si.n
        unfold hom
        rw [if_pos rfl]
        show (1 : Int).toNat < si.n
        have e1 : (1 : Int).toNat = 1 := rfl
        omega) (Nat.le_refl _) (by unfold maxLen; omega) (by omega) (by omega) (by omega)
      have e1 : wrl si.n [⟨⟨t1, 1, 1, 1, sup si.n []⟩, some ⟨g5, 0, none⟩, 16, 16⟩] = [(1, ps ⟨t1, 1, 1, 1, sup si.n []⟩)] := by
        unfold wrl hom
        simp
      rw [e1, ← HFIN.out] at k3
      have HB5 : Hid (Below wr.heap.size wr (w3.alloc (.cells #[.string t1, .int .i64 1, .int .i64 1, .int .i64 1, .slice (some ⟨g5, 0, none⟩) 16 16] 31))) := bel_bel HB3.out HB3.out.size B4
      obtain ⟨⟨E, s'⟩, HR⟩ : ∃ r, Hid (fmA j 0 s = r) := ⟨_, rfl⟩
      rw [HR.out] at k3
      clear k2 r5 r6 D3 T3 B4 B3 e1
      go_wp2_with fail
      refine k3.mono ?_
      rintro en w4 ⟨rfl, D4, F4⟩
      have F5 : Fr Q w w4 := (HF1.out.below HB5.out).trans F4
      have s5 := HB5.out.size
      have s1 := HF1.out.size
      have HD6 := hid (D4.weak (R := Qn Q w w4) (fun b q => by
        rcases q with q | q
        · exact .inl q
        · exact .inr ⟨by omega, q.2⟩) (fun b q => by
        rcases q with q | q
        · have := hlt b q
          have := F5.size
          omega
        · exact q.2))
      have HF5 := hid F5
      clear k3 D4 F4 F5
      go_wp2_with fail
      go_ret
      rw [HR.out]
      exact ⟨rfl, HD6.out, HF5.out⟩
end Go.Proofs.YtblcpdffiafgnaaGreatDoor
