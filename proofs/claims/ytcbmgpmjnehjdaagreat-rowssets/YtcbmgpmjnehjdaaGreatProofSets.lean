import Derived.Test.YtcbmgpmjnehjdaaGreatYH
import Derived.Test.YtcbmgpmjnehjdaaGreatKCas2
import Derived.Test.YtcbmgpmjnehjdaaGreatKRow
import Derived.WalkKit
import Derived.ProofKit
import Derived.OpenShut
import Derived.ShutString
import Derived.ChangeOld
import Derived.Below
import Derived.SizedLaws
namespace Go.Proofs.YtcbmgpmjnehjdaaGreat.rowsSets
set_option maxRecDepth 100000
open Go.ChangeShapes Go.WideShapes Go.ChangeAt Go.RowKit
set_option linter.unusedVariables false

theorem own : ownKnob Tryz.prog.godebug = none := by kernel_rfl
theorem laidOut : laidOutB Tryz.prog = true := by kernel_rfl

theorem walk (pa0 qa0 la0 ma0 : Option Addr) (pn0 pc0 qn0 qc0 ln0 lc0 mn0 mc0 : Nat) (ps0 qs0 : List Pr) (ls0 ms0 : List Ln) (w : World) (w0 : Pls w pa0 pn0 ps0 ∧ Pls w qa0 qn0 qs0 ∧ Lls w la0 ln0 ls0 ∧ Lls w ma0 mn0 ms0 ∧ (∀ x ∈ ps0, x.k.length ≤ 140737488351232) ∧ (∀ x ∈ qs0, x.k.length ≤ 140737488351232) ∧ (∀ x ∈ ls0, x.k.length ≤ 140737488351232) ∧ (∀ x ∈ ms0, x.k.length ≤ 140737488351232)) :
    Calls Tryz.prog 4 #[.agg #[.slice pa0 pn0 pc0, .slice qa0 qn0 qc0, .slice la0 ln0 lc0, .slice ma0 mn0 mc0]] w fun e w' => e = .returned (.bool true) ∧ Below w.heap.size w w' :=
  rowsSets_ pa0 qa0 la0 ma0 pn0 pc0 qn0 qc0 ln0 lc0 mn0 mc0 ps0 qs0 ls0 ms0 w w0.1 w0.2.1 w0.2.2.1 w0.2.2.2.1 w0.2.2.2.2.1 w0.2.2.2.2.2.1 w0.2.2.2.2.2.2.1 w0.2.2.2.2.2.2.2

set_option maxRecDepth 100000 in
theorem lifted (os : Os) (started : os.Started) (H : Type) (enc : TypeId × Value → H) :
    ReturnsInHanded {} Tryz.checked os 4 .any (Rows.rowsSetsSpec.pre6 enc Tryz.prog Tryz.f4 Rows.rowsSetsRow.domain false) (Rows.rowsSetsSpec.post enc Tryz.prog Tryz.f4 false true false false) := by
  refine returnsInHanded_of_change_sized (C := Tryz.checked) own started (by kernel_rfl) Tryz.func4
    (ChangeSpec.witness6 (enc := enc) (C := Tryz.checked) false ⟨#[], #[.agg #[.slice none 0 0, .slice none 0 0, .slice none 0 0, .slice none 0 0]], []⟩ 8 (by kernel_rfl) (by kernel_rfl) (by kernel_rfl) (by kernel_rfl)) ?_
  intro W base args ds gs before hval0 hW hcnd hsz _
  have hval : ∀ (j : Nat) t v, Tryz.f4.params[j]? = some t → args[j]? = some v → Value.okWide Tryz.prog W .any base t v := hval0
  have hW' := hW
  obtain ⟨p, q, hA0, hV, rfl, hfz, hnd⟩ := hW
  have hA : DataW.TrodAll enc Tryz.prog W 0 (fun _ => true) true Tryz.f4.params.toList args.toList ds p := hA0
  rw [Tryz.params4] at hA hval
  obtain ⟨v0, vs0, d0, ds0, p0, q0, hargs, rfl, rfl, h0, r0⟩ := trodAll_cons hA
  obtain ⟨rfl, rfl, rfl⟩ := trodAll_nil r0
  obtain rfl : args = #[v0] := by cases args; simp_all
  obtain ⟨rfl, rfl⟩ := trodVars_none hV
  have kk0 := h0
  have lt0 : ∀ x ∈ p0, x.block < W.heap.size := by obtain ⟨m, hm⟩ := kk0; exact DataW.trod_lt m _ _ _ hm
  obtain ⟨pa0, qa0, la0, ma0, pn0, pc0, qn0, qc0, ln0, lc0, mn0, mc0, ps0, qs0, ls0, ms0, rfl, w0⟩ := open_cs2 (hval 0 37 v0 rfl rfl) h0 (sized_at hsz (j := 0) (by kernel_rfl) (by rfl))
  clear hA0 hval0
  refine (walk pa0 qa0 la0 ma0 pn0 pc0 qn0 qc0 ln0 lc0 mn0 mc0 ps0 qs0 ls0 ms0 W w0).mono fun e W' ⟨he, bel⟩ => ?_
  subst he
  exact ⟨_, rfl, _, _, _, [], _, [], hW', trodAll_mk1 (shut_bool Tryz.underlying4 _), (trodAll_cons_mk (Below.trod laidOut (by kernel_rfl) (of_decide_eq_true (by kernel_rfl)) kk0 bel lt0) trodAll_mk0), rfl, bel.frame _, fun h => by cases h⟩

theorem over : Rows.rowsSetsRow.holds Tryz.pinned (OpenSpec.ofChange Rows.rowsSetsSpec) :=
  OpenClaim.holds_of_wide 4 Tryz.f4 rfl rfl rfl rfl rfl rfl rfl ⟨rfl, rfl, rfl, rfl, rfl⟩ rfl rfl rfl rfl rfl (by kernel_rfl) Tryz.func4 (by kernel_rfl)
    (of_decide_eq_true (by kernel_rfl)) (by unfold Func.isWrapper; first | (rw [if_pos (by decide +kernel)]; kernel_rfl) | (rw [if_neg (by decide +kernel)]; exact ⟨rfl, rfl⟩))
    (fun os started H enc _ => lifted os started H enc)

theorem proved : Rows.RowsSetsSaid := over
end Go.Proofs.YtcbmgpmjnehjdaaGreat.rowsSets
namespace Go.Proofs.YtcbmgpmjnehjdaaGreat
theorem rowsSets_holds : Rows.RowsSetsSaid := rowsSets.proved
#print axioms rowsSets_holds
end Go.Proofs.YtcbmgpmjnehjdaaGreat
