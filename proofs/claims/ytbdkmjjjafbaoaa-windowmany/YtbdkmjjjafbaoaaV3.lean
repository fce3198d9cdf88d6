import Derived.Test.YtbdkmjjjafbaoaaV2
namespace Go.Proofs.Ytbdkmjjjafbaoaa
open Go.RowKit
set_option linter.unusedVariables false
set_option maxRecDepth 100000

theorem info22 : (Try.prog.info? 22).map (fun i => (i.zero, i.size, i.bytes)) = some (some (.int .u64 0), 1, 8) := by kernel_rfl
def X2 (p g : Nat) : Nat → Prop := fun k => k = p ∨ k = g
theorem rep_cu (n : Nat) : (List.replicate n (Value.int .u64 0)).toArray = (cu (List.replicate n 0)).toArray := by simp [cu]
set_option maxHeartbeats 1000000 in
/-- makeRoom, where the ring is passed whole. -/
theorem room_all (p g : Nat) (F W t : Int) (h : Bool) (m : Nat) (R : List Int) (f q : Int) (w : World) (k : Wm w p F W t h g (m + 1)) (hR : Rg w g R) (hl : R.length = m + 1) (hm : m ≤ 16) (hf : 0 ≤ f) (hq : f + (m + 1) ≤ q) (hq2 : q < 18446744073709551616) :
    Calls Try.prog 26 #[.pointer (some ⟨p, 0, none⟩), .int .u64 f, .int .u64 q] w fun e w' => e = .returned (.tuple #[]) ∧ w' = w.setRow g (cu (List.replicate (m + 1) 0)).toArray := by
  have c4 := k.c4
  obtain ⟨n, hn⟩ : ∃ n, m + 1 = n := ⟨_, rfl⟩
  rw [hn] at c4 hl ⊢
  have hn1 : 1 ≤ n := by omega
  have hn2 : n ≤ 17 := by omega
  have hsub : IntKind.u64.wrap (q - f) = q - f := by rw [IntKind.wrap_u64]; omega
  have hw : IntKind.u64.wrap (n : Int) = n := by rw [IntKind.wrap_u64]; omega
  have hge : (n : Int) ≤ q - f := by omega
  obtain ⟨i, hi, hz0, hz1, hz2⟩ := info_parts info22
  have hrun := run_clear (P := Try.prog) (w := w) 42 0 22 Try.underlying42 i (.int .u64 0) hi hz0 rfl rfl g n n (by omega) _ _ hR (by simp [cu, hl])
  rw [rep_cu] at hrun
  obtain ⟨wz, HWZ⟩ : ∃ z, Hid (w.setRow g (cu (List.replicate n 0)).toArray = z) := ⟨_, rfl⟩
  rw [HWZ.out] at hrun ⊢
  clear k hn hm hR hl hi hz0 hz1 hz2 i HWZ
  go_enter Try.func26, Try.ntmps26
  go_wp2_with fail
  (try simp only [Exit.inBlock, Exit.then])
  refine bodyPost_ret (results_none rfl _ _ _) rfl ?_
  exact ⟨rfl, rfl⟩
set_option maxHeartbeats 1000000 in
/-- makeRoom, where some words are cleared. -/
theorem room_some (p g : Nat) (F W t : Int) (h : Bool) (m : Nat) (R : List Int) (f : Int) (n : Nat) (w : World) (k : Wm w p F W t h g (m + 1)) (hR : Rg w g R) (hpg : p ≠ g) (hl : R.length = m + 1) (hm : m ≤ 16) (hf : 0 ≤ f) (hn : n ≤ m) (hq2 : f + n < 18446744073709551616) :
    Calls Try.prog 26 #[.pointer (some ⟨p, 0, none⟩), .int .u64 f, .int .u64 (f + n)] w fun e w' => e = .returned (.tuple #[]) ∧ Rg w' g (clr m R f n) ∧ Fx (fun k => k = g) w w' := by
  have HK := hid k
  have HR := hid hR
  have HPG := hid hpg
  have hw : IntKind.u64.wrap (((m + 1 : Nat) : Int)) = ((m + 1 : Nat) : Int) := by rw [IntKind.wrap_u64]; omega
  have hsub : IntKind.u64.wrap (f + n - f) = n := by rw [IntKind.wrap_u64]; omega
  have c4 := k.c4
  obtain ⟨l, hl1⟩ : ∃ l, m + 1 = l := ⟨_, rfl⟩
  have HL1 := hid hl1
  rw [hl1] at c4 hw
  have hnl : ¬ (l : Int) ≤ n := by omega
  obtain ⟨q, hqe⟩ : ∃ q, f + (n : Int) = q := ⟨_, rfl⟩
  rw [hqe] at hsub hq2 ⊢
  have HQ := hid hqe
  have HM := hid hm
  have HN := hid hn
  have HLL := hid hl
  clear k hR hpg hl1 hm hn hl hqe
  go_enter Try.func26, Try.ntmps26
  go_wp2_with fail
  go_loopw [24] (fun i wr => ∃ j : Nat, j ≤ n ∧ i = .int .u64 j ∧ Hid (Rg wr g (clr m R f j)) ∧ Hid (Fx (fun k => k = g) w wr)) (fun i _ => n - (intOf i).toNat)
  case atStart => exact ⟨0, by omega, rfl, HR, Fx.refl _ _⟩
  case round =>
    obtain ⟨j, hj, rfl, HRj, HFj⟩ := hrel
    by_cases hlt : j < n
    · have hjI : (j : Int) < n := by omega
      have hB : Hid (j < n) := hlt
      have hj17 : j < 17 := by have h1 := HN.out; have h2 := HM.out; omega
      have ha1 : IntKind.u64.wrap (f + 1) = f + 1 := by have h1 := HQ.out; rw [IntKind.wrap_u64]; omega
      have HKj := hid (HK.out.at (w' := wr) (HFj.out.block p HK.out.lt HPG.out))
      have kw := word_ p F W t h g m (f + 1 + j) wr HKj.out HM.out (by have h1 := HQ.out; exact ⟨by omega, by omega⟩)
      have hix : Hid (wix m (f + 1 + j) < (clr m R f j).length) := by show _ < _; rw [clr_len, HLL.out]; exact wix_lt m _
      obtain ⟨z, hz⟩ : ∃ z, f + 1 + (j : Int) = z := ⟨_, rfl⟩
      rw [hz] at kw hix
      have ha2 : IntKind.u64.wrap (f + 1 + j) = z := by have h1 := HQ.out; rw [IntKind.wrap_u64]; omega
      obtain ⟨K, hK⟩ : ∃ K, wix m z = K := ⟨_, rfl⟩
      rw [hK] at kw hix
      have HZ := hid hz
      have HKe := hid hK
      clear hz hK
      go_wp2_with fail
      refine kw.mono ?_
      rintro e w1 ⟨rfl, nq, rfl⟩
      have HR1 : Hid (Rg (wr.drewN nq) g (clr m R f j)) := HRj.out
      have HF1 : Hid (Fx (fun k => k = g) w (wr.drewN nq)) := HFj.out.drawn (drawnN _ _)
      obtain ⟨w2, HW2⟩ : ∃ z, Hid (wr.drewN nq = z) := ⟨_, rfl⟩
      rw [HW2.out] at HR1 HF1 ⊢
      have d0 := HR1.out.cell hix.out
      have f0 := HR1.out.fz K
      clear kw HW2 HKj HRj HFj
      go_wp2_with fail
      go_roundw
      case rel => exact ⟨j + 1, by have := hB.out; omega, by go_num, by show Rg _ _ _; rw [clr, HZ.out, HKe.out]; exact HR1.out.set K 0, HF1.out.set rfl _⟩
      case measure => simp [intOf]; omega
    · have hjn : Hid (j = n) := by show _ = _; omega
      have hjI : ¬ (j : Int) < n := by omega
      go_wp2_with fail
      go_end0
      exact ⟨rfl, by rw [← hjn.out]; exact HRj.out, HFj.out⟩
end Go.Proofs.Ytbdkmjjjafbaoaa
