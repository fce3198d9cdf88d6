import Derived.Test.YtcaecfdeieoenaaTG
import Derived.Test.YtcaecfdeieoenaaRG
import Derived.Test.YtcaecfdeieoenaaPRow
import Derived.Test.YtcaecfdeieoenaaRRow
import Derived.WalkKit
import Derived.ProofKit
import Derived.OpenShut
import Derived.ShutString
import Derived.ChangeOld
import Derived.Below
import Derived.SizedLaws
namespace Go.Proofs.Ytcaecfdeieoenaa.routeTurns
open Go.ChangeShapes Go.WideShapes Go.ChangeAt Go.RowKit
set_option linter.unusedVariables false

theorem own : ownKnob Try.prog.godebug = none := by kernel_rfl
theorem laidOut : laidOutB Try.prog = true := by kernel_rfl

theorem walk (a0 : Option Addr) (m0 : List Wy) (cap0 : Nat) (a1f a1h a1l a1b : Int) (a2 : Int) (a3f a3h a3l : Int) (w : World) (w0 : Ws w a0 m0) (s0 : m0.length ≤ cap0 ∧ cap0 ≤ maxLen) (w1 : InI a1f ∧ InU a1h ∧ InU a1l ∧ InI a1b) (w2 : InI a2) (w3 : InI a3f ∧ InU a3h ∧ InU a3l) :
    Calls Try.prog 6 #[.slice a0 m0.length cap0, .agg #[.int .i64 a1f, .int .u64 a1h, .int .u64 a1l, .int .i64 a1b], .int .i64 a2, .agg #[.int .i64 a3f, .int .u64 a3h, .int .u64 a3l]] w fun e w' => e = .returned (.bool true) ∧ Below w.heap.size w w' :=
  routeTurns_ rte a0 m0 cap0 ⟨a1f, a1h, a1l, a1b, a2⟩ a3f a3h a3l w w0 s0 ⟨w1.1, w1.2.1, w1.2.2.1, w1.2.2.2, w2⟩ w3.1 w3.2.1 w3.2.2

set_option maxRecDepth 100000 in
theorem lifted (os : Os) (started : os.Started) (H : Type) (enc : TypeId × Value → H) :
    ReturnsInHanded {} Try.checked os 6 .any (Rows.routeTurnsSpec.pre6 enc Try.prog Try.f6 Rows.routeTurnsRow.domain false) (Rows.routeTurnsSpec.post enc Try.prog Try.f6 false true false false) := by
  refine returnsInHanded_of_change_sized (C := Try.checked) own started (by kernel_rfl) Try.func6
    (ChangeSpec.witness6 (enc := enc) (C := Try.checked) false ⟨#[], #[.slice none 0 0, .agg #[.int .i64 0, .int .u64 0, .int .u64 0, .int .i64 0], .int .i64 0, .agg #[.int .i64 0, .int .u64 0, .int .u64 0]], []⟩ 8 (by kernel_rfl) (by kernel_rfl) (by kernel_rfl) (by kernel_rfl)) ?_
  intro W base args ds gs before hval0 hW hcnd hsz _
  have hval : ∀ (j : Nat) t v, Try.f6.params[j]? = some t → args[j]? = some v → Value.okWide Try.prog W .any base t v := hval0
  have hW' := hW
  obtain ⟨p, q, hA0, hV, rfl, hfz, hnd⟩ := hW
  have hA : DataW.TrodAll enc Try.prog W 0 (fun _ => true) true Try.f6.params.toList args.toList ds p := hA0
  rw [Try.params6] at hA hval
  obtain ⟨v0, vs0, d0, ds0, p0, q0, hargs, rfl, rfl, h0, r0⟩ := trodAll_cons hA
  obtain ⟨v1, vs1, d1, ds1, p1, q1, rfl, rfl, rfl, h1, r1⟩ := trodAll_cons r0
  obtain ⟨v2, vs2, d2, ds2, p2, q2, rfl, rfl, rfl, h2, r2⟩ := trodAll_cons r1
  obtain ⟨v3, vs3, d3, ds3, p3, q3, rfl, rfl, rfl, h3, r3⟩ := trodAll_cons r2
  obtain ⟨rfl, rfl, rfl⟩ := trodAll_nil r3
  obtain rfl : args = #[v0, v1, v2, v3] := by cases args; simp_all
  obtain ⟨rfl, rfl⟩ := trodVars_none hV
  have k0 := h0
  have lt0 : ∀ x ∈ p0, x.block < W.heap.size := by obtain ⟨m, hm⟩ := k0; exact DataW.trod_lt m _ _ _ hm
  obtain ⟨a0, len0, cap0, rfl⟩ := okWide_slice Try.underlying43 (hval 0 43 v0 rfl rfl)
  obtain ⟨m0, rfl, w0, s0⟩ : ∃ m : List Wy, len0 = m.length ∧ Ws W a0 m ∧ (m.length ≤ cap0 ∧ cap0 ≤ maxLen) := by
    obtain ⟨fuel, hf⟩ := h0
    obtain ⟨g1, m, g2, g3⟩ := open_ways (show DataW.trod _ _ _ _ _ _ _ _ [Value.slice a0 len0 cap0] = some _ from hf)
    exact ⟨m, g2.symm, g3, by rw [g2]; exact g1⟩
  have k1 := h1
  have lt1 : ∀ x ∈ p1, x.block < W.heap.size := by obtain ⟨m, hm⟩ := k1; exact DataW.trod_lt m _ _ _ hm
  obtain ⟨a1f, a1h, a1l, a1b, w1, rfl⟩ := open_px (hval 1 32 v1 rfl rfl) h1
  obtain ⟨a2, rfl, rfl, rfl, u2⟩ := open_int Try.underlying3 (hval 2 3 v2 rfl rfl) h2
  have w2 : InI a2 := bounds_i64 u2
  have k3 := h3
  have lt3 : ∀ x ∈ p3, x.block < W.heap.size := by obtain ⟨m, hm⟩ := k3; exact DataW.trod_lt m _ _ _ hm
  obtain ⟨a3f, a3h, a3l, w3, rfl⟩ := open_ad (hval 3 30 v3 rfl rfl) h3
  clear hA0 hval0
  refine (walk a0 m0 cap0 a1f a1h a1l a1b a2 a3f a3h a3l W w0 s0 w1 w2 w3).mono fun e W' ⟨he, bel⟩ => ?_
  subst he
  exact ⟨_, rfl, _, _, _, [], _, [], hW', trodAll_mk1 (shut_bool Try.underlying4 _), (trodAll_cons_mk (Below.trod laidOut (by kernel_rfl) (of_decide_eq_true (by kernel_rfl)) k0 bel lt0) (trodAll_cons_mk (Below.trod laidOut (by kernel_rfl) (of_decide_eq_true (by kernel_rfl)) k1 bel lt1) (trodAll_cons_mk (shut_int Try.underlying3 u2) (trodAll_cons_mk (Below.trod laidOut (by kernel_rfl) (of_decide_eq_true (by kernel_rfl)) k3 bel lt3) trodAll_mk0)))), rfl, bel.frame _, fun h => by cases h⟩

theorem over : Rows.routeTurnsRow.holds Try.pinned (OpenSpec.ofChange Rows.routeTurnsSpec) :=
  OpenClaim.holds_of_wide 6 Try.f6 rfl rfl rfl rfl rfl rfl rfl ⟨rfl, rfl, rfl, rfl, rfl⟩ rfl rfl rfl rfl rfl (by kernel_rfl) Try.func6 (by kernel_rfl)
    (of_decide_eq_true (by kernel_rfl)) (by unfold Func.isWrapper; first | (rw [if_pos (by decide +kernel)]; kernel_rfl) | (rw [if_neg (by decide +kernel)]; exact ⟨rfl, rfl⟩))
    (fun os started H enc _ => lifted os started H enc)

theorem proved : Rows.RouteTurnsSaid := over
end Go.Proofs.Ytcaecfdeieoenaa.routeTurns
namespace Go.Proofs.Ytcaecfdeieoenaa
theorem routeTurns_holds : Rows.RouteTurnsSaid := routeTurns.proved
#print axioms routeTurns_holds
end Go.Proofs.Ytcaecfdeieoenaa
