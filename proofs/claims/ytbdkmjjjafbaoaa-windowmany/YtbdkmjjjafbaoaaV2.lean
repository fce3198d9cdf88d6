import Derived.Test.YtbdkmjjjafbaoaaV1
import Derived.Deep.RegionWith
namespace Go.Proofs.Ytbdkmjjjafbaoaa
open Go.RowKit
set_option linter.unusedVariables false
set_option maxRecDepth 100000

theorem and_bit {x c : Int} (hx : u64r x) : bits .and .u64 x ((2 ^ (c % 64).toNat : Nat) : Int) = if bitI x c then ((2 ^ (c % 64).toNat : Nat) : Int) else 0 := by
  have h2 : 2 ^ (c % 64).toNat < 2 ^ 64 := Nat.pow_lt_pow_right (by decide) (by omega)
  rw [u64_and x _ hx.1 hx.2 (Int.natCast_nonneg _) (by generalize 2 ^ (c % 64).toNat = z at h2 ⊢; omega), Int.toNat_natCast, nat_bit]
  unfold bitI
  rw [Nat.testBit_eq_decide_div_mod_eq]
  by_cases h : x.toNat / 2 ^ (c % 64).toNat % 2 = 1
  · simp [h]
  · have h0 : x.toNat / 2 ^ (c % 64).toNat % 2 = 0 := by omega
    simp [h0]
theorem and_bit0 {x c : Int} (hx : u64r x) : (bits .and .u64 x ((2 ^ (c % 64).toNat : Nat) : Int) == 0) = ! bitI x c := by
  have h2 : 0 < 2 ^ (c % 64).toNat := Nat.pow_pos (by decide)
  rw [and_bit hx]
  cases bitI x c
  · rfl
  · rw [if_pos rfl]; generalize 2 ^ (c % 64).toNat = z at h2 ⊢; simp; omega
theorem or_bit {x c : Int} (hx : u64r x) : bits .or .u64 x ((2 ^ (c % 64).toNat : Nat) : Int) = ((x.toNat ||| 2 ^ (c % 64).toNat : Nat) : Int) := by
  have h2 : 2 ^ (c % 64).toNat < 2 ^ 64 := Nat.pow_lt_pow_right (by decide) (by omega)
  rw [u64_or x _ hx.1 hx.2 (Int.natCast_nonneg _) (by generalize 2 ^ (c % 64).toNat = z at h2 ⊢; omega), Int.toNat_natCast]
theorem quiet2 {P : Program} {f : FuncId} {args : Array Value} {w : World} {a b : Nat} {v : Value} (h : Calls P f args (w.drewN (a + b)) fun e w' => e = .returned v ∧ ∃ m, w' = (w.drewN (a + b)).drewN m) : Calls P f args (w.drewN (a + b)) fun e w'' => e = .returned v ∧ ∃ n, w'' = w.drewN (a + n) :=
  h.mono fun _ _ ⟨he, m, hm⟩ => ⟨he, b + m, by rw [hm, World.drewN_drewN, Nat.add_assoc]⟩
theorem quiet2_same {P : Program} {f : FuncId} {args : Array Value} {w : World} {a b : Nat} {v : Value} (h : Calls P f args (w.drewN (a + b)) fun e w' => e = .returned v ∧ w' = w.drewN (a + b)) : Calls P f args (w.drewN (a + b)) fun e w'' => e = .returned v ∧ ∃ n, w'' = w.drewN (a + n) :=
  h.mono fun _ _ ⟨he, hm⟩ => ⟨he, b, hm⟩
theorem dd (w : World) (a b : Nat) : ∃ k, (w.drewN a).drewN b = w.drewN k := ⟨a + b, World.drewN_drewN ..⟩
theorem quo64 {c : Int} (hc : u64r c) : IntKind.u64.wrap (c.tdiv 64) = c / 64 := by
  rw [IntKind.wrap_u64, Int.tdiv_eq_ediv_of_nonneg hc.1]
  unfold u64r at hc
  omega
set_option maxHeartbeats 1000000 in
/-- Takes. -/
theorem takes_ (p g : Nat) (F : Int) (m : Nat) (T : List Int) (c : Int) (w : World) (hw : Wn w p g F m T) (hc : u64r c) :
    Calls Try.prog 14 #[.pointer (some ⟨p, 0, none⟩), .int .u64 c] w fun e w' => e = .returned (.bool (tkB F (64 * (m : Int)) T c)) ∧ ∃ nq, w' = w.drewN nq := by
  obtain ⟨R, hR, hri⟩ := hw.ring
  have hok := hri.ok
  have hF := hw.F
  have hm1 := hw.m1
  have hm16 := hw.m16
  have ht := hw.topr
  have hblk := hw.blk
  have kr := fun wx (e : Drawn w wx) => rises_ p F _ _ _ g _ c wx (hblk.at (by rw [e.heap])) hc ht
  have kw := fun wx (e : Drawn w wx) => word_ p F _ _ _ g m (c / 64) wx (hblk.at (by rw [e.heap])) hm16 (by unfold u64r at hc ⊢; omega)
  have kb := fun wx => bit_ c wx hc
  have hlt : wix m (c / 64) < R.length := by rw [hri.len]; exact wix_lt m _
  have hxw := hri.wd (wix m (c / 64))
  have hcell := hR.cell hlt
  have hQ0 : c < F → tkB F (64 * (m : Int)) T c = false := tk_low
  have hQ1 : F ≤ c → (T = [] ∨ topI T < c) → tkB F (64 * (m : Int)) T c = true := tk_rise (by omega)
  have hQ2 : T ≠ [] → 64 * (m : Int) ≤ topI T - c → tkB F (64 * (m : Int)) T c = false := fun h => tk_far h fun t ht => (hok t ht).1
  have hQ3 : F ≤ c → T ≠ [] → c ≤ topI T → topI T - c < 64 * (m : Int) → tkB F (64 * (m : Int)) T c = ! bitI (R.getD (wix m (c / 64)) 0) c := fun h1 h2 h3 h4 => hri.told hc h1 h2 h3 h4
  have hAB := and_bit0 (c := c) hxw
  obtain ⟨Q, hQ⟩ : ∃ Q, tkB F (64 * (m : Int)) T c = Q := ⟨_, rfl⟩
  rw [hQ] at hQ0 hQ1 hQ2 hQ3 ⊢
  obtain ⟨x, hx⟩ : ∃ x, R.getD (wix m (c / 64)) 0 = x := ⟨_, rfl⟩
  rw [hx] at hQ3 hcell hAB
  obtain ⟨K, hK⟩ : ∃ K, wix m (c / 64) = K := ⟨_, rfl⟩
  rw [hK] at hcell kw
  have hqd := quo64 hc
  obtain ⟨d, hd⟩ : ∃ d, c / 64 = d := ⟨_, rfl⟩
  rw [hd] at kw hqd
  clear hd
  obtain ⟨bb, hbb⟩ : ∃ b, ((2 ^ (c % 64).toNat : Nat) : Int) = b := ⟨_, rfl⟩
  rw [hbb] at hAB kb
  obtain ⟨W, hWd⟩ : ∃ W, 64 * (m : Int) = W := ⟨_, rfl⟩
  obtain ⟨t, htd⟩ : ∃ t, topI T = t := ⟨_, rfl⟩
  have c0 := hblk.c0
  have c1 := hblk.c1
  have c2 := hblk.c2
  rw [hWd] at c1 hQ2 hQ3
  rw [htd] at c2 hQ1 hQ2 hQ3 ht kr
  have hT1 : Hid (t = 0 ∨ T ≠ []) := by
    show _ ∨ _
    by_cases e : T = []
    · exact .inl (by rw [← htd, e]; rfl)
    · exact .inr e
  unfold u64r at hc hF ht
  have HKR := hid kr
  have HKW := hid kw
  have HKB := hid kb
  clear kr kw kb hblk hw hri hR hok hlt hxw hx hK hbb hWd hm1 hm16
  by_cases h1 : c < F
  · have hq := hQ0 h1
    subst hq
    clear hQ hQ0 hQ1 hQ2 hQ3 hAB hcell c1 c2 hT1 HKR HKW HKB
    go_enter Try.func14, Try.ntmps14
    go_wp2_with fail
    go_ret
    exact ⟨rfl, 0, rfl⟩
  have h1' : F ≤ c := by omega
  by_cases h2 : T = [] ∨ t < c
  · have hq := hQ1 h1' h2
    subst hq
    have kr := HKR.out w (Drawn.refl w)
    rw [show (!decide (T ≠ []) || decide (t < c)) = true from by rcases h2 with rfl | h2; rfl; simp [h2]] at kr
    clear hQ hQ0 hQ1 hQ2 hQ3 hAB hcell c1 c2 hT1 HKR HKW HKB h2 htd
    go_enter Try.func14, Try.ntmps14
    go_wp2_with fail
    refine kr.mono ?_
    rintro e w1 ⟨rfl, rfl⟩
    go_wp2_with fail
    go_ret
    exact ⟨rfl, 0, rfl⟩
  have hTn : T ≠ [] := fun e => h2 (.inl e)
  have hct : c ≤ t := by have : ¬ t < c := fun e => h2 (.inr e); omega
  have kr := HKR.out w (Drawn.refl w)
  rw [show (!decide (T ≠ []) || decide (t < c)) = false from by simp [hTn]; omega] at kr
  have hsub : IntKind.u64.wrap (t - c) = t - c := by rw [IntKind.wrap_u64]; omega
  have HT := hid hTn
  clear h2 hQ0 hQ1 hT1 HKR hTn htd
  by_cases h3 : W ≤ t - c
  · have hq := hQ2 HT.out h3
    subst hq
    clear hQ hQ2 hQ3 hAB hcell HKW HKB HT
    go_enter Try.func14, Try.ntmps14
    go_wp2_with fail
    refine kr.mono ?_
    rintro e w1 ⟨rfl, rfl⟩
    go_wp2_with fail
    go_quiet (fail)
    go_wp2_with fail
    go_ret
    exact ⟨rfl, _, rfl⟩
  · have hq := hQ3 h1' HT.out hct (by omega)
    rw [← hq] at hAB
    clear hQ hQ2 hQ3 HT hq
    go_enter Try.func14, Try.ntmps14
    go_wp2_with fail
    refine kr.mono ?_
    rintro e w1 ⟨rfl, rfl⟩
    go_wp2_with fail
    go_quiet (fail)
    go_wp2_with fail
    go_quiet (first
      | (go_at_call 24; exact quiet2 (HKW.out _ (drawnN _ _)))
      | (go_at_call 25; exact quiet2_same (HKB.out _)))
    go_wp2_with fail
    go_ret
    exact ⟨by first | rfl | (rw [← hAB]; rfl), dd _ _ _⟩
end Go.Proofs.Ytbdkmjjjafbaoaa
