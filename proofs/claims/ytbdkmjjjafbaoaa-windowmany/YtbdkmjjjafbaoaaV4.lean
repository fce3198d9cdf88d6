import Derived.Test.YtbdkmjjjafbaoaaV3
import Derived.Deep.RegionHeld
import Derived.Deep.CutRange
import Derived.Deep.RegionWith
namespace Go.Proofs.Ytbdkmjjjafbaoaa
open Go.RowKit
set_option linter.unusedVariables false
set_option maxRecDepth 100000

/-- makeRoom for a number above the top. -/
theorem room_ (p g : Nat) (F : Int) (m : Nat) (T : List Int) (c : Int) (w : World) (hw : Wn w p g F m T) (hc : u64r c) (hT : T = [] ∨ topI T < c) :
    Calls Try.prog 26 #[.pointer (some ⟨p, 0, none⟩), .int .u64 (topI T / 64), .int .u64 (c / 64)] w fun e w' => e = .returned (.tuple #[]) ∧ ∃ R, Rg w' g R ∧ Rm m T R c ∧ Fx (fun k => k = g) w w' := by
  obtain ⟨R, hR, hri⟩ := hw.ring
  have ht := hw.topr
  have hle : topI T ≤ c := by
    rcases hT with e | e
    · rw [e]; exact hc.1
    · omega
  have hle2 : topI T / 64 ≤ c / 64 := Int.ediv_le_ediv (by decide) hle
  have ht0 : 0 ≤ topI T / 64 := Int.ediv_nonneg ht.1 (by decide)
  have hcl : c / 64 < 18446744073709551616 := by unfold u64r at hc; omega
  by_cases h : ((m + 1 : Nat) : Int) ≤ c / 64 - topI T / 64
  · refine (room_all p g F _ _ _ m R (topI T / 64) (c / 64) w hw.blk hR hri.len hw.m16 ht0 (by omega) hcl).mono ?_
    rintro e w' ⟨rfl, rfl⟩
    exact ⟨rfl, _, hR.row _, hri.room_all h, Fx.row (X := fun k => k = g) (Fx.refl _ w) rfl _⟩
  · obtain ⟨n, hn⟩ : ∃ n : Nat, c / 64 - topI T / 64 = n := ⟨(c / 64 - topI T / 64).toNat, by omega⟩
    have e : c / 64 = topI T / 64 + n := by omega
    have k := room_some p g F _ _ _ m R (topI T / 64) n w hw.blk hR hw.ne hri.len hw.m16 ht0 (by omega) (by omega)
    rw [← e] at k
    refine k.mono ?_
    rintro e w' ⟨rfl, h1, h2⟩
    exact ⟨rfl, _, h1, hri.room hT n hn (by omega), h2⟩
theorem mk_no {F W : Int} {T : List Int} {c : Int} (h : tkB F W T c = false) : mkT F W T c = T := by simp [mkT, h]
theorem mk_yes {F W : Int} {T : List Int} {c : Int} (h : tkB F W T c = true) : mkT F W T c = T ++ [c] := by simp [mkT, h]
set_option maxHeartbeats 2000000 in
/-- Mark. -/
theorem mark_ (p g : Nat) (F : Int) (m : Nat) (T : List Int) (c : Int) (w : World) (hw : Wn w p g F m T) (hc : u64r c) :
    Calls Try.prog 17 #[.pointer (some ⟨p, 0, none⟩), .int .u64 c] w fun e w' => e = .returned (.bool (tkB F (64 * (m : Int)) T c)) ∧ Wn w' p g F m (mkT F (64 * (m : Int)) T c) ∧ Fx (X2 p g) w w' := by
  have kt := takes_ p g F m T c w hw hc
  obtain ⟨Q, hQ⟩ : ∃ Q, tkB F (64 * (m : Int)) T c = Q := ⟨_, rfl⟩
  rw [hQ] at kt ⊢
  have HW := hid hw
  have HC := hid hc
  have HQ := hid hQ
  clear hw hQ
  cases Q with
  | false =>
    go_enter Try.func17, Try.ntmps17
    go_wp2_with fail
    refine kt.mono ?_
    rintro e w1 ⟨rfl, nq, rfl⟩
    go_wp2_with fail
    go_ret
    rw [mk_no HQ.out]
    exact ⟨rfl, HW.out.drawn (drawnN _ _), (Fx.refl _ _).drawn (drawnN _ _)⟩
  | true =>
    rw [mk_yes HQ.out]
    have hqd := quo64 hc
    have hqt := quo64 HW.out.topr
    go_enter Try.func17, Try.ntmps17
    go_wp2_with fail
    refine kt.mono ?_
    rintro e w1 ⟨rfl, nq, rfl⟩
    have HF1 : Hid (Fx (X2 p g) w (w.drewN nq)) := (Fx.refl _ _).drawn (drawnN _ _)
    have HW1 : Hid (Wn (w.drewN nq) p g F m T) := HW.out.drawn (drawnN _ _)
    obtain ⟨w1, HE⟩ : ∃ z, Hid (w.drewN nq = z) := ⟨_, rfl⟩
    rw [HE.out] at HF1 HW1 ⊢
    clear kt HW HE
    have kr := rises_ p F _ _ _ g _ c w1 HW1.out.blk hc HW1.out.topr
    unfold u64r at hc
    by_cases h2 : T = [] ∨ topI T < c
    · rw [show (!decide (T ≠ []) || decide (topI T < c)) = true from by rcases h2 with rfl | h2; rfl; simp [h2]] at kr
      have HT2 := hid h2
      have km := room_ p g F m T c w1 HW1.out HC.out h2
      have c2 := HW1.out.blk.c2
      obtain ⟨t, HT⟩ : ∃ t, Hid (topI T = t) := ⟨_, rfl⟩
      obtain ⟨d, Hd⟩ : ∃ d, Hid (c / 64 = d) := ⟨_, rfl⟩
      obtain ⟨d2, Hd2⟩ : ∃ d, Hid (t / 64 = d) := ⟨_, rfl⟩
      rw [HT.out, Hd.out, Hd2.out] at km
      rw [HT.out] at c2 hqt
      rw [Hd.out] at hqd
      rw [Hd2.out] at hqt
      clear h2
      go_wp2_with fail
      refine kr.mono ?_
      rintro e w2 ⟨rfl, rfl⟩
      go_wp2_with fail
      refine km.mono ?_
      rintro e w3 ⟨rfl, R, hR, hrm, hfx⟩
      have M3 := HW1.out.blk.at (w' := w3) (hfx.block p HW1.out.lt.1 HW1.out.ne)
      have HF3 := hid (HF1.out.trans (hfx.weak (Y := X2 p g) fun k _ e => .inr e))
      have M4 := M3.s2 c
      have M5 := M4.s3 true
      have i2 := M3.c2
      have f2 := M3.fz 2
      have i3 := M4.c3
      have f3 := M4.fz 3
      have HF5 := hid ((HF3.out.set (X := X2 p g) (i := 2) (.inl rfl) (.int .u64 c)).set (X := X2 p g) (i := 3) (.inl rfl) (.bool true))
      have HR5 : Hid (Rg ((w3.setCell ⟨p, 2, none⟩ (.int .u64 c)).setCell ⟨p, 3, none⟩ (.bool true)) g R) := (hR.at (Below.heap_setCell _ _ _ _ (Ne.symm HW1.out.ne))).at (Below.heap_setCell _ _ _ _ (Ne.symm HW1.out.ne))
      have HRM := hid hrm
      have HM5 := hid M5
      have HG : Hid (p ≠ g ∧ 1 ≤ m ∧ m ≤ 16 ∧ u64r F ∧ ∀ t ∈ T, u64r t) := ⟨HW1.out.ne, HW1.out.m1, HW1.out.m16, HW1.out.F, HW1.out.ok⟩
      obtain ⟨w5, HW5⟩ : ∃ z, Hid ((w3.setCell ⟨p, 2, none⟩ (.int .u64 c)).setCell ⟨p, 3, none⟩ (.bool true) = z) := ⟨_, rfl⟩
      rw [HW5.out] at HF5 HR5 HM5
      clear kr km hR hrm hfx M3 M4 M5 HF3 HF1 HW1 c2
      go_upto_region 6 with fail
      rw [HW5.out]
      clear HW5 i2 f2 i3 f3
      have kw := fun wx (e : Drawn w5 wx) => word_ p F _ _ _ g m (c / 64) wx (HM5.out.at (by rw [e.heap])) HG.out.2.2.1 (by unfold u64r; omega)
      have kb := fun wx => bit_ c wx HC.out
      obtain ⟨K, HKe⟩ : ∃ K, Hid (wix m (c / 64) = K) := ⟨_, rfl⟩
      obtain ⟨bb, Hbb⟩ : ∃ b, Hid (((2 ^ (c % 64).toNat : Nat) : Int) = b) := ⟨_, rfl⟩
      rw [HKe.out, Hd.out] at kw
      rw [Hbb.out] at kb
      have hlt : Hid (K < R.length) := by show K < _; rw [← HKe.out, HRM.out.len]; exact wix_lt m _
      obtain ⟨x, Hx⟩ : ∃ x, Hid (R.getD K 0 = x) := ⟨_, rfl⟩
      have hxw := HRM.out.wd K
      rw [Hx.out] at hxw
      have d0 := HR5.out.cell hlt.out
      rw [Hx.out] at d0
      have f0 := HR5.out.fz K
      have hor := or_bit (c := c) hxw
      rw [Hbb.out] at hor
      obtain ⟨y, Hy⟩ : ∃ y, Hid (((x.toNat ||| 2 ^ (c % 64).toNat : Nat) : Int) = y) := ⟨_, rfl⟩
      rw [Hy.out] at hor
      have HPUT := hid (HRM.out.put HG.out.2.2.2.2 HC.out HT2.out)
      rw [HKe.out, Hx.out, Hy.out] at HPUT
      have HFIN : Hid (∀ nq, Wn ((w5.drewN nq).setCell ⟨g, K, none⟩ (.int .u64 y)) p g F m (T ++ [c]) ∧ Fx (X2 p g) w ((w5.drewN nq).setCell ⟨g, K, none⟩ (.int .u64 y))) := fun nq =>
        ⟨⟨(show Wm _ p F _ (topI (T ++ [c])) (decide (T ++ [c] ≠ [])) g (m + 1) from by rw [top_app, show max (topI T) c = c from by rcases HT2.out with q | q; (rw [q]; have := HC.out.1; show max (0 : Int) c = c; omega); omega, decide_eq_true (by simp)]; exact (HM5.out.at (w' := w5.drewN nq) rfl).at (Below.heap_setCell _ _ _ _ HG.out.1)), ⟨_, Rg.set (w := w5.drewN nq) (HR5.out.at rfl) K y, HPUT.out⟩, HG.out.1, HG.out.2.1, HG.out.2.2.1, HG.out.2.2.2.1⟩, (HF5.out.drawn (drawnN _ nq)).set (X := X2 p g) (.inr rfl) _⟩
      have HKW := hid kw
      have HKB := hid kb
      clear hxw kw kb
      go_wp2_with fail
      go_region_with (first
        | (go_at_call 24; refine (HKW.out _ (drawnN _ _)).mono ?_; rintro e w6 ⟨rfl, nq, rfl⟩)
        | (go_at_call 25; refine (HKB.out _).mono ?_; rintro e w6 ⟨rfl, rfl⟩))
      all_goals
        go_wp2_with fail
        go_ret
        exact ⟨rfl, (HFIN.out _).1, (HFIN.out _).2⟩
    · have hTn : T ≠ [] := fun e => h2 (.inl e)
      have hct : c ≤ topI T := by have : ¬ topI T < c := fun e => h2 (.inr e); omega
      rw [show (!decide (T ≠ []) || decide (topI T < c)) = false from by simp [hTn]; omega] at kr
      have hin : topI T - c < 64 * (m : Int) := (Int.not_le.1 fun e => by have := tk_far (F := F) hTn (fun t ht => (HW1.out.ok t ht).1) e; rw [HQ.out] at this; cases this)
      have HIN : Hid (T ≠ [] ∧ c ≤ topI T ∧ topI T - c < 64 * (m : Int)) := ⟨hTn, hct, hin⟩
      obtain ⟨R, hR, hri⟩ := HW1.out.ring
      have HF5 := HF1
      have HR5 := hid hR
      have HRM := hid hri
      have HM5 := hid HW1.out.blk
      have HG : Hid (p ≠ g ∧ 1 ≤ m ∧ m ≤ 16 ∧ u64r F ∧ ∀ t ∈ T, u64r t) := ⟨HW1.out.ne, HW1.out.m1, HW1.out.m16, HW1.out.F, HW1.out.ok⟩
      obtain ⟨d, Hd⟩ : ∃ d, Hid (c / 64 = d) := ⟨_, rfl⟩
      rw [Hd.out] at hqd
      clear h2 hTn hct hin hR hri HF1 HW1 hqt
      have kw := fun wx (e : Drawn w1 wx) => word_ p F _ _ _ g m (c / 64) wx (HM5.out.at (by rw [e.heap])) HG.out.2.2.1 (by unfold u64r; omega)
      have kb := fun wx => bit_ c wx HC.out
      obtain ⟨K, HKe⟩ : ∃ K, Hid (wix m (c / 64) = K) := ⟨_, rfl⟩
      obtain ⟨bb, Hbb⟩ : ∃ b, Hid (((2 ^ (c % 64).toNat : Nat) : Int) = b) := ⟨_, rfl⟩
      rw [HKe.out, Hd.out] at kw
      rw [Hbb.out] at kb
      have hlt : Hid (K < R.length) := by show K < _; rw [← HKe.out, HRM.out.len]; exact wix_lt m _
      obtain ⟨x, Hx⟩ : ∃ x, Hid (R.getD K 0 = x) := ⟨_, rfl⟩
      have hxw := HRM.out.wd K
      rw [Hx.out] at hxw
      have d0 := HR5.out.cell hlt.out
      rw [Hx.out] at d0
      have f0 := HR5.out.fz K
      have hor := or_bit (c := c) hxw
      rw [Hbb.out] at hor
      obtain ⟨y, Hy⟩ : ∃ y, Hid (((x.toNat ||| 2 ^ (c % 64).toNat : Nat) : Int) = y) := ⟨_, rfl⟩
      rw [Hy.out] at hor
      have HPUT := hid (HRM.out.put HC.out HIN.out.1 HIN.out.2.1 HIN.out.2.2)
      rw [HKe.out, Hx.out, Hy.out] at HPUT
      have HFIN : Hid (∀ nq, Wn ((w1.drewN nq).setCell ⟨g, K, none⟩ (.int .u64 y)) p g F m (T ++ [c]) ∧ Fx (X2 p g) w ((w1.drewN nq).setCell ⟨g, K, none⟩ (.int .u64 y))) := fun nq =>
        ⟨⟨(show Wm _ p F _ (topI (T ++ [c])) (decide (T ++ [c] ≠ [])) g (m + 1) from by rw [top_app, show max (topI T) c = topI T from by have := HIN.out.2.1; omega, decide_eq_true (by simp)]; have h9 := HM5.out; rw [decide_eq_true HIN.out.1] at h9; exact (h9.at (w' := w1.drewN nq) rfl).at (Below.heap_setCell _ _ _ _ HG.out.1)), ⟨_, Rg.set (w := w1.drewN nq) (HR5.out.at rfl) K y, HPUT.out⟩, HG.out.1, HG.out.2.1, HG.out.2.2.1, HG.out.2.2.2.1⟩, (HF5.out.drawn (drawnN _ nq)).set (X := X2 p g) (.inr rfl) _⟩
      have HKW := hid kw
      have HKB := hid kb
      clear hxw kw kb
      go_wp2_with fail
      refine kr.mono ?_
      rintro e w6 ⟨rfl, rfl⟩
      clear kr
      go_wp2_with fail
      go_region_with (first
        | (go_at_call 24; refine (HKW.out _ (drawnN _ _)).mono ?_; rintro e w6 ⟨rfl, nq, rfl⟩)
        | (go_at_call 25; refine (HKB.out _).mono ?_; rintro e w6 ⟨rfl, rfl⟩))
      all_goals
        go_wp2_with fail
        go_ret
        exact ⟨rfl, (HFIN.out _).1, (HFIN.out _).2⟩
end Go.Proofs.Ytbdkmjjjafbaoaa
