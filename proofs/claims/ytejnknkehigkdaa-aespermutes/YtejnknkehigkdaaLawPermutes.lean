import Derived.Test.YtejnknkehigkdaaLawBlocks
namespace Go.Proofs.Ytejnknkehigkdaa
open Go.RowKit
set_option linter.unusedVariables false

set_option maxHeartbeats 4000000 in
theorem aesPermutes_ (a : Option Addr) (n cap : Nat) (zs : List Int) (f h : Nat → Nat) (w : World) (hb : Bs w a n zs) (hn : n ≤ 140737488351232) (hf : ∀ i, i < 16 → f i < 256) (hh : ∀ i, i < 16 → h i < 256) :
    Calls Try.prog 6 #[.slice a n cap, .agg (av f), .agg (av h)] w fun e w' => e = .returned (.bool true) ∧ Below w.heap.size w w' := by
  have KB : Hid (∀ j, kf (zs.map Int.toNat) j < 256) := kf_lt (keyB hb.2.1)
  have HF := hid hf
  have HH := hid hh
  clear hf hh
  obtain ⟨A0, A1, B0⟩ := new2 w (av f) (av h)
  go_enter Try.func6, Try.ntmps6
  go_wp2_with fail
  have b0 := hb.below B0
  generalize (w.alloc (.cells (av f) 36)).alloc (.cells (av h) 36) = w0 at *
  have S0 := B0.size
  refine (first_ w0).mono ?_
  rintro e w1 ⟨rfl, g⟩
  have b1 := b0.below g
  have A0 := A0.kept g
  have A1 := A1.kept g
  have B0 := bel_bel B0 S0 g
  have S0 := B0.size
  clear g b0
  go_wp2_with fail
  refine (refBytes a n cap zs w1 b1 hn).mono ?_
  rintro e w2 ⟨v, rfl, ho, g⟩
  have A0 := A0.kept g
  have A1 := A1.kept g
  have B0 := bel_bel B0 S0 g
  have S0 := B0.size
  obtain ⟨ka, kc, rfl, kb, _⟩ := own_form ho hb.2.1
  clear g ho b1 hb
  by_cases h32 : n = 32
  · subst h32
    have kn := fun w hb => new_ ka 32 kc zs w hb rfl
    generalize kf (zs.map Int.toNat) = k at *
    go_wp2_with fail
    refine (kn _ kb).mono ?_
    rintro e w3 ⟨gc, rfl, _, cc, g⟩
    have A0 := A0.kept g
    have A1 := A1.kept g
    have B0 := bel_bel B0 S0 g
    have S0 := B0.size
    clear g kb kn
    have k1 := fun w c => block_ gc k f w c KB.out HF.out
    have k2 := fun w c => block_ gc k h w c KB.out HH.out
    have HI : Hid ((List.range 16).all (fun i => bl k f 14 i == bl k h 14 i) = (List.range 16).all (fun i => f i == h i)) := by
      show _ = _
      rw [Bool.eq_iff_iff, all16_iff, all16_iff]
      exact ⟨bl_inj KB.out HF.out HH.out 14, fun e => bl_congr e 14⟩
    have Q1 := hid (run_eqav (bl k f 14) (bl k h 14))
    have Q2 := hid (run_eqav f h)
    rw [HI.out] at Q1
    clear HI
    generalize (List.range 16).all (fun i => f i == h i) = r at *
    generalize bl k f 14 = o1 at *
    generalize bl k h 14 = o2 at *
    go_wp2_with (refine wpList_lda rfl _ rfl _ rfl _ (by exact A0) ?_)
    refine (k1 _ cc).mono ?_
    rintro e w6 ⟨rfl, g⟩
    have cc := cc.keep g cc.lt
    have ccl := cc.lt
    have cc := cc.keep (new1 w6 (av o1)).2 ccl
    have A0 := (A0.kept g).alloc (.cells (av o1) 36)
    have A1 := (A1.kept g).alloc (.cells (av o1) 36)
    have A2 := Ar.new w6 (av o1)
    have B0 := bel_bel B0 S0 g
    have B0 := B0.alloc B0.size (.cells (av o1) 36)
    clear g k1 S0 ccl
    go_wp2_with (first | (refine wpList_stna rfl rfl _ _ rfl _ _ _ rfl rfl rfl (by rfl) ?_) | (refine wpList_lda rfl _ rfl _ rfl _ (by exact A1) ?_))
    generalize hg6 : w6.heap.size = g6 at *
    generalize w6.alloc (.cells (av o1) 36) = w7 at *
    clear hg6
    have S0 := B0.size
    refine (k2 _ cc).mono ?_
    rintro e w8 ⟨rfl, g⟩
    have A0 := (A0.kept g).alloc (.cells (av o2) 36)
    have A1 := (A1.kept g).alloc (.cells (av o2) 36)
    have A2 := (A2.kept g).alloc (.cells (av o2) 36)
    have A3 := Ar.new w8 (av o2)
    have B0 := bel_bel B0 S0 g
    have B0 := B0.alloc B0.size (.cells (av o2) 36)
    clear g k2 cc S0
    go_wp2_with (refine wpList_stna rfl rfl _ _ rfl _ _ _ rfl rfl rfl (by rfl) ?_)
    generalize hg8 : w8.heap.size = g8 at *
    generalize w8.alloc (.cells (av o2) 36) = w9 at *
    clear hg8
    refine wp_region_quiet_lit (by kernel_rfl) (by kernel_rfl) ?_
    iterate 8 (first
      | (refine BigFrame.wpQuiet_want (by rfl) (fun K hK => quiet_lda _ rfl _ _ rfl (Ar.ofDrawn (by assumption)) (hK _ ?_)); (simp only [Act.put, List.setIfInBounds_toArray, List.set_cons_zero, List.set_cons_succ]))
      | (refine BigFrame.wpQuiet_want (by rfl) (fun K hK => quiet_eqa _ _ _ rfl (av o1) (av o2) rfl rfl r Q1.out (hK _ ?_)); (simp only [Act.put, List.setIfInBounds_toArray, List.set_cons_zero, List.set_cons_succ]))
      | (refine BigFrame.wpQuiet_want (by rfl) (fun K hK => quiet_eqa _ _ _ rfl (av f) (av h) rfl rfl r Q2.out (hK _ ?_)); (simp only [Act.put, List.setIfInBounds_toArray, List.set_cons_zero, List.set_cons_succ]))
      | quiet_step (fail))
    refine wpQuiet_nil ?_
    intro _ hw'
    obtain ⟨nq, rfl⟩ := hw'
    go_wp2_with fail
    go_ret
    exact ⟨by simp, bel_drawn B0 _⟩
  · have kn := fun w => new_bad ka n kc w h32 (by unfold maxLen; omega)
    have e1 : ¬ (n : Int) = 32 := by omega
    have e2 : ((n : Int) == 32) = false := by simpa using e1
    have e3 : ((n : Int) != 32) = true := by simpa using e1
    clear h32
    go_wp2_with fail
    refine (kn _).mono ?_
    rintro e w3 ⟨rfl, g⟩
    have B0 := bel_bel B0 S0 g
    clear g kb kn S0
    go_wp2_with fail
    go_ret
    exact ⟨rfl, B0⟩
end Go.Proofs.Ytejnknkehigkdaa
