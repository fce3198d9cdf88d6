import Derived.Test.YtcaecfdeieoenaaTG
import Derived.Test.YtcaecfdeieoenaaRM
import Derived.Test.YtcaecfdeieoenaaPRow
import Derived.Test.YtcaecfdeieoenaaRRow
import Derived.WalkKit
import Derived.ProofKit
import Derived.OpenShut
import Derived.ShutString
import Derived.ChangeOld
import Derived.Below
import Derived.SizedLaws
namespace Go.Proofs.Ytcaecfdeieoenaa.routeOrderless
open Go.ChangeShapes Go.WideShapes Go.ChangeAt Go.RowKit
set_option linter.unusedVariables false

theorem own : ownKnob Try.prog.godebug = none := by kernel_rfl
theorem laidOut : laidOutB Try.prog = true := by kernel_rfl

theorem walk (a0 : Option Addr) (m0 : List Wy) (cap0 : Nat) (a1f a1h a1l : Int) (w : World) (w0 : Ws w a0 m0) (s0 : m0.length ≤ cap0 ∧ cap0 ≤ maxLen) (w1 : InI a1f ∧ InU a1h ∧ InU a1l) :
    Calls Try.prog 5 #[.slice a0 m0.length cap0, .agg #[.int .i64 a1f, .int .u64 a1h, .int .u64 a1l]] w fun e w' => e = .returned (.bool true) ∧ Below w.heap.size w w' :=
  routeOrderless_ rte a0 m0 cap0 a1f a1h a1l w w0 s0 w1.1 w1.2.1 w1.2.2

set_option maxRecDepth 100000 in
theorem lifted (os : Os) (started : os.Started) (H : Type) (enc : TypeId × Value → H) :
    ReturnsInHanded {} Try.checked os 5 .any (Rows.routeOrderlessSpec.pre6 enc Try.prog Try.f5 Rows.routeOrderlessRow.domain false) (Rows.routeOrderlessSpec.post enc Try.prog Try.f5 false true false false) := by
  refine returnsInHanded_of_change_sized (C := Try.checked) own started (by kernel_rfl) Try.func5
    (ChangeSpec.witness6 (enc := enc) (C := Try.checked) false ⟨#[], #[.slice none 0 0, .agg #[.int .i64 0, .int .u64 0, .int .u64 0]], []⟩ 8 (by kernel_rfl) (by kernel_rfl) (by kernel_rfl) (by kernel_rfl)) ?_
  intro W base args ds gs before hval0 hW hcnd hsz _
  have hval : ∀ (j : Nat) t v, Try.f5.params[j]? = some t → args[j]? = some v → Value.okWide Try.prog W .any base t v := hval0
  have hW' := hW
  obtain ⟨p, q, hA0, hV, rfl, hfz, hnd⟩ := hW
  have hA : DataW.TrodAll enc Try.prog W 0 (fun _ => true) true Try.f5.params.toList args.toList ds p := hA0
  rw [Try.params5] at hA hval
  obtain ⟨v0, vs0, d0, ds0, p0, q0, hargs, rfl, rfl, h0, r0⟩ := trodAll_cons hA
  obtain ⟨v1, vs1, d1, ds1, p1, q1, rfl, rfl, rfl, h1, r1⟩ := trodAll_cons r0
  obtain ⟨rfl, rfl, rfl⟩ := trodAll_nil r1
  obtain rfl : args = #[v0, v1] := by cases args; simp_all
  obtain ⟨rfl, rfl⟩ := trodVars_none hV
  have k0 := h0
  have lt0 : ∀ x ∈ p0, x.block < W.heap.size := by obtain ⟨m, hm⟩ := k0; exact DataW.trod_lt m _ _ _ hm
  obtain ⟨a0, len0, cap0, rfl⟩ := okWide_slice Try.underlying43 (hval 0 43 v0 rfl rfl)
  obtain ⟨m0, rfl, w0, s0⟩ : ∃ m : List Wy, len0 = m.length ∧ Ws W a0 m ∧ (m.length ≤ cap0 ∧ cap0 ≤ maxLen) := by
    obtain ⟨fuel, hf⟩ := h0
    obtain ⟨g1, m, g2, g3⟩ := open_ways (show DataW.trod _ _ _ _ _ _ _ _ [Value.slice a0 len0 cap0] = some _ from hf)
    exact ⟨m, g2.symm, g3, by rw [g2]; exact g1⟩
  have k1 := h1
  have lt1 : ∀ x ∈ p1, x.block < W.heap.size := by obtain ⟨m, hm⟩ := k1; exact DataW.trod_lt m _ _ _ hm
  obtain ⟨a1f, a1h, a1l, w1, rfl⟩ := open_ad (hval 1 30 v1 rfl rfl) h1
  clear hA0 hval0
  refine (walk a0 m0 cap0 a1f a1h a1l W w0 s0 w1).mono fun e W' ⟨he, bel⟩ => ?_
  subst he
  exact ⟨_, rfl, _, _, _, [], _, [], hW', trodAll_mk1 (shut_bool Try.underlying4 _), (trodAll_cons_mk (Below.trod laidOut (by kernel_rfl) (of_decide_eq_true (by kernel_rfl)) k0 bel lt0) (trodAll_cons_mk (Below.trod laidOut (by kernel_rfl) (of_decide_eq_true (by kernel_rfl)) k1 bel lt1) trodAll_mk0)), rfl, bel.frame _, fun h => by cases h⟩

theorem over : Rows.routeOrderlessRow.holds Try.pinned (OpenSpec.ofChange Rows.routeOrderlessSpec) :=
  OpenClaim.holds_of_wide 5 Try.f5 rfl rfl rfl rfl rfl rfl rfl ⟨rfl, rfl, rfl, rfl, rfl⟩ rfl rfl rfl rfl rfl (by kernel_rfl) Try.func5 (by kernel_rfl)
    (of_decide_eq_true (by kernel_rfl)) (by unfold Func.isWrapper; first | (rw [if_pos (by decide +kernel)]; kernel_rfl) | (rw [if_neg (by decide +kernel)]; exact ⟨rfl, rfl⟩))
    (fun os started H enc _ => lifted os started H enc)

theorem proved : Rows.RouteOrderlessSaid := over
end Go.Proofs.Ytcaecfdeieoenaa.routeOrderless
namespace Go.Proofs.Ytcaecfdeieoenaa
theorem routeOrderless_holds : Rows.RouteOrderlessSaid := routeOrderless.proved
#print axioms routeOrderless_holds
end Go.Proofs.Ytcaecfdeieoenaa
