import Derived.Test.YtbdkmjjjafbaoaaRB
import Derived.Deep.RegionWith
import Derived.Deep.CutRange
namespace Go.Proofs.Ytbdkmjjjafbaoaa
open Go.RowKit
set_option linter.unusedVariables false
set_option maxRecDepth 100000

/-- What one step leaves. -/
def PlP (w0 w : World) (q p g r : Nat) (v : Value) (F : Int) (m : Nat) (T : List Int) (e : Ending) (w' : World) : Prop :=
  e = .returned (.bool true) ∧ ∃ v' T', Bx w0 w' q p g r v' F m T' T' ∧ T'.length ≤ T.length + 1 ∧ Fx (fp q p g r v) w w' ∧ ∀ y, v'.ownBlock = some y → v.ownBlock = some y ∨ w.heap.size ≤ y
theorem mk_len (F W : Int) (T : List Int) (c : Int) : (mkT F W T c).length ≤ T.length + 1 := by
  unfold mkT
  split <;> simp
set_option maxHeartbeats 4000000 in
theorem plays_ (w0 : World) (q p g r : Nat) (v : Value) (F : Int) (m : Nat) (T : List Int) (kd c : Int) (w : World) (h : Bx w0 w q p g r v F m T T) (hl : T.length ≤ 99999) (hc : u64r c) :
    Calls Try.prog 11 #[.pointer (some ⟨q, 0, none⟩), .int .i64 kd, .int .u64 c] w (PlP w0 w q p g r v F m T) := by
  have HB := hid h
  have HL := hid hl
  have HC := hid hc
  have c0 := h.c0
  have c1 := h.c1
  clear h hl hc
  by_cases k1 : kd = 1
  · subst k1
    obtain ⟨x, hx⟩ : ∃ x, tkB F (64 * (m : Int)) T c = x := ⟨_, rfl⟩
    obtain ⟨T1, hT1⟩ : ∃ T1, mkT F (64 * (m : Int)) T c = T1 := ⟨_, rfl⟩
    have HX := hid hx
    have HT1 := hid hT1
    have HLN : Hid (T1.length ≤ T.length + 1) := by show _ ≤ _; rw [← hT1]; exact mk_len _ _ _ _
    have HB0 := hid fun nq => HB.out.drawn nq
    clear hx hT1
    go_enter Try.func11, Try.ntmps11
    go_wp2_with fail
    go_region_with (first
      | (go_at_call 17; refine ((HB0.out _).mark HC.out HX.out HT1.out).mono ?_; rintro e w6 ⟨rfl, B6, F6⟩; have i0 := B6.c0; have i1 := B6.c1; have HB6 := hid B6; have HF6 := hid F6; clear B6 F6)
      | (go_at_call 17; refine (HR6.out.mark HC.out HX.out HT1.out).mono ?_; rintro e w7 ⟨rfl, B7, F7⟩; have HB7 := hid B7; have HF7 := hid F7; clear B7 F7)
      | (go_at_call 19; refine ((HB0.out _).rmark HL.out HC.out HX.out HT1.out).mono ?_; rintro e w6 ⟨rfl, v6, B6, F6, O6⟩; have i0 := B6.c0; have i1 := B6.c1; have HR6 := hid B6; have HF6 := hid F6; have HO6 := hid O6; clear B6 F6 O6)
      | (go_at_call 19; refine (HB6.out.rmark HL.out HC.out HX.out HT1.out).mono ?_; rintro e w7 ⟨rfl, v7, B7, F7, O7⟩; have HB7 := hid B7; have HF7 := hid F7; have HO7 := hid O7; clear B7 F7 O7))
    all_goals
      have HFIN : Hid (∃ v' T', Bx w0 w7 q p g r v' F m T' T' ∧ T'.length ≤ T.length + 1 ∧ Fx (fp q p g r v) w w7 ∧ ∀ y, v'.ownBlock = some y → v.ownBlock = some y ∨ w.heap.size ≤ y) := ⟨v7, T1, HB7.out, HLN.out, (((Fx.refl _ w).drawn (drawnN w 1)).trans HF6.out).trans HF7.out, fun y e => (HO7.out y e).imp id (Nat.le_trans HF6.out.size)⟩
      clear HB HB0 HB6 HB7 HF6 HF7 HO7 i0 i1
      cases x
      all_goals
        go_wp2_with fail
        go_ret
        exact ⟨rfl, HFIN.out⟩
  have k1b : (kd == 1) = false := by simp [k1]
  by_cases k2 : kd = 2
  · subst k2
    obtain ⟨x, hx⟩ : ∃ x, tkB F (64 * (m : Int)) T c = x := ⟨_, rfl⟩
    have HX := hid hx
    have HK1 := hid fun nq => takes_ p g F m T c (w.drewN nq) (HB.out.drawn nq).hw.wn HC.out
    have HK2 := hid fun nq => rtakes_ w0 r F m v T c (w.drewN nq) (HB.out.drawn nq).rr (HB.out.drawn nq).row HB.out.ok HB.out.len HB.out.hw.wn.m1 HB.out.hw.wn.m16 HC.out HB.out.hw.wn.F hx
    rw [hx] at HK1
    have HFIN : Hid (∀ nq, ∃ v' T', Bx w0 (w.drewN nq) q p g r v' F m T' T' ∧ T'.length ≤ T.length + 1 ∧ Fx (fp q p g r v) w (w.drewN nq) ∧ ∀ y, v'.ownBlock = some y → v.ownBlock = some y ∨ w.heap.size ≤ y) := fun nq => ⟨v, T, HB.out.drawn nq, by omega, (Fx.refl _ w).drawn (drawnN w nq), fun y e => .inl e⟩
    clear hx HB
    cases x
    all_goals
      go_enter Try.func11, Try.ntmps11
      go_wp2_with fail
      go_quiet (first
        | (go_at_call 14; exact Calls.quiet_of (HK1.out _))
        | (go_at_call 20; exact Calls.quiet_of_same (HK2.out _)))
      go_wp2_with fail
      go_ret
      exact ⟨rfl, HFIN.out _⟩
  have k2b : (kd == 2) = false := by simp [k2]
  by_cases k3 : kd = 3
  · subst k3
    obtain ⟨t, ht⟩ : ∃ t, topI T = t := ⟨_, rfl⟩
    obtain ⟨x, hx⟩ : ∃ x, decide (T ≠ []) = x := ⟨_, rfl⟩
    have kt := top_ p F _ _ _ g _ w HB.out.hw.wn.blk
    rw [ht, hx] at kt
    have HTX : Hid (topI T = t ∧ decide (T ≠ []) = x) := ⟨ht, hx⟩
    clear ht hx
    cases x
    all_goals
      go_enter Try.func11, Try.ntmps11
      go_wp2_with fail
      refine kt.mono ?_
      rintro e w1 ⟨rfl, nq, rfl⟩
      have HB1 := hid (HB.out.drawn nq)
      have HF1 : Hid (Fx (fp q p g r v) w (w.drewN nq)) := (Fx.refl _ w).drawn (drawnN w nq)
      obtain ⟨w1, HW1⟩ : ∃ z, Hid (w.drewN nq = z) := ⟨_, rfl⟩
      rw [HW1.out] at HB1 HF1 ⊢
      have d0 := HB1.out.c0
      have d1 := HB1.out.c1
      have kt2 := rtop_ w0 r F _ v T w1 HB1.out.rr HB1.out.row HB1.out.ok HB1.out.len HTX.out.1 HTX.out.2
      clear kt HB HW1 c0 c1
      go_wp2_with fail
      refine kt2.mono ?_
      rintro e w2 ⟨rfl, nq2, rfl⟩
      have HB2 := hid (HB1.out.drawn nq2)
      have HF2 := hid (HF1.out.drawn (drawnN w1 nq2))
      obtain ⟨w2, HW2⟩ : ∃ z, Hid (w1.drewN nq2 = z) := ⟨_, rfl⟩
      rw [HW2.out] at HB2 HF2 ⊢
      have i0 := HB2.out.c0
      have i1 := HB2.out.c1
      have HK1 := hid fun nq => floor_ p F _ _ _ g _ (w2.drewN nq) (HB2.out.drawn nq).hw.wn.blk
      have HK2 := hid fun nq => rfloor_ r F _ v (w2.drewN nq) (HB2.out.drawn nq).rr
      have HFIN : Hid (∀ nq, ∃ v' T', Bx w0 (w2.drewN nq) q p g r v' F m T' T' ∧ T'.length ≤ T.length + 1 ∧ Fx (fp q p g r v) w (w2.drewN nq) ∧ ∀ y, v'.ownBlock = some y → v.ownBlock = some y ∨ w.heap.size ≤ y) := fun nq => ⟨v, T, HB2.out.drawn nq, by omega, HF2.out.drawn (drawnN w2 nq), fun y e => .inl e⟩
      clear kt2 HB1 HB2 HF1 HF2 HW2 d0 d1
      go_wp2_with fail
      go_quiet (first
        | (go_at_call 15; exact Calls.quiet_of_same (HK1.out _))
        | (go_at_call 22; exact Calls.quiet_of_same (HK2.out _)))
      go_wp2_with fail
      go_ret
      exact ⟨by first | rfl | simp, HFIN.out _⟩
  have k3b : (kd == 3) = false := by simp [k3]
  have HFIN : Hid (∃ v' T', Bx w0 w q p g r v' F m T' T' ∧ T'.length ≤ T.length + 1 ∧ Fx (fp q p g r v) w w ∧ ∀ y, v'.ownBlock = some y → v.ownBlock = some y ∨ w.heap.size ≤ y) := ⟨v, T, HB.out, by omega, Fx.refl _ w, fun y e => .inl e⟩
  clear k1 k2 k3 HB
  go_enter Try.func11, Try.ntmps11
  go_wp2_with fail
  go_ret
  exact ⟨rfl, HFIN.out⟩
end Go.Proofs.Ytbdkmjjjafbaoaa
