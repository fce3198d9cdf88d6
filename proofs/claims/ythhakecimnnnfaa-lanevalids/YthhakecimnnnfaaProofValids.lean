import Derived.Test.YthhakecimnnnfaaLE
import Derived.Test.YthhakecimnnnfaaLX
import Derived.Test.YthhakecimnnnfaaKL
import Derived.WalkKit
import Derived.ProofKit
import Derived.OpenShut
import Derived.ShutString
import Derived.ChangeOld
import Derived.Below
import Derived.SizedLaws
namespace Go.Proofs.Ythhakecimnnnfaa.laneValids
set_option maxRecDepth 100000
open Go.ChangeShapes Go.WideShapes Go.ChangeAt Go.RowKit
set_option linter.unusedVariables false

theorem own : ownKnob Try.prog.godebug = none := by kernel_rfl
theorem laidOut : laidOutB Try.prog = true := by kernel_rfl

theorem walk (a0 : Option Addr) (m0 c0 : Nat) (k0 : List Int) (S0 C0 N0 D0 E0 s0 n0 : Int) (w : World) (w0 : (Vs w (fun x => x < w.heap.size) a0 m0 c0 k0 ∧ m0 ≤ 140737488351232) ∧ (i64r S0 ∧ i64r C0 ∧ i64r N0 ∧ u64r D0 ∧ u64r E0 ∧ i64r s0 ∧ i64r n0)) :
    Calls Try.prog 3 #[.agg #[.slice a0 m0 c0, .int .i64 S0, .int .i64 C0, .int .i64 N0, .int .u64 D0, .int .u64 E0, .int .i64 s0, .int .i64 n0]] w fun e w' => e = .returned (.bool true) ∧ Below w.heap.size w w' :=
  laneValids_ llc a0 m0 c0 k0 S0 C0 N0 D0 E0 s0 n0 w (Nat.le_trans w0.1.2 (by unfold maxLen; omega)) w0.2.2.2.2.2.2.1 w0.2.2.2.2.2.2.2

set_option maxRecDepth 100000 in
theorem lifted (os : Os) (started : os.Started) (H : Type) (enc : TypeId × Value → H) :
    ReturnsInHanded {} Try.checked os 3 .any (Rows.laneValidsSpec.pre6 enc Try.prog Try.f3 Rows.laneValidsRow.domain false) (Rows.laneValidsSpec.post enc Try.prog Try.f3 false true false false) := by
  refine returnsInHanded_of_change_sized (C := Try.checked) own started (by kernel_rfl) Try.func3
    (ChangeSpec.witness6 (enc := enc) (C := Try.checked) false ⟨#[], #[.agg #[.slice none 0 0, .int .i64 0, .int .i64 0, .int .i64 0, .int .u64 0, .int .u64 0, .int .i64 0, .int .i64 0]], []⟩ 8 (by kernel_rfl) (by kernel_rfl) (by kernel_rfl) (by kernel_rfl)) ?_
  intro W base args ds gs before hval0 hW hcnd hsz _
  have hval : ∀ (j : Nat) t v, Try.f3.params[j]? = some t → args[j]? = some v → Value.okWide Try.prog W .any base t v := hval0
  have hW' := hW
  obtain ⟨p, q, hA0, hV, rfl, hfz, hnd⟩ := hW
  have hA : DataW.TrodAll enc Try.prog W 0 (fun _ => true) true Try.f3.params.toList args.toList ds p := hA0
  rw [Try.params3] at hA hval
  obtain ⟨v0, vs0, d0, ds0, p0, q0, hargs, rfl, rfl, h0, r0⟩ := trodAll_cons hA
  obtain ⟨rfl, rfl, rfl⟩ := trodAll_nil r0
  obtain rfl : args = #[v0] := by cases args; simp_all
  obtain ⟨rfl, rfl⟩ := trodVars_none hV
  have kk0 := h0
  have lt0 : ∀ x ∈ p0, x.block < W.heap.size := by obtain ⟨m, hm⟩ := kk0; exact DataW.trod_lt m _ _ _ hm
  obtain ⟨a0, m0, c0, k0, S0, C0, N0, D0, E0, s0, n0, rfl, w0⟩ := open_ln (hval 0 27 v0 rfl rfl) h0 (sized_at hsz (j := 0) (by kernel_rfl) (by rfl))
  clear hA0 hval0
  refine (walk a0 m0 c0 k0 S0 C0 N0 D0 E0 s0 n0 W w0).mono fun e W' ⟨he, bel⟩ => ?_
  subst he
  exact ⟨_, rfl, _, _, _, [], _, [], hW', trodAll_mk1 (shut_bool Try.underlying4 _), (trodAll_cons_mk (Below.trod laidOut (by kernel_rfl) (of_decide_eq_true (by kernel_rfl)) kk0 bel lt0) trodAll_mk0), rfl, bel.frame _, fun h => by cases h⟩

theorem over : Rows.laneValidsRow.holds Try.pinned (OpenSpec.ofChange Rows.laneValidsSpec) :=
  OpenClaim.holds_of_wide 3 Try.f3 rfl rfl rfl rfl rfl rfl rfl ⟨rfl, rfl, rfl, rfl, rfl⟩ rfl rfl rfl rfl rfl (by kernel_rfl) Try.func3 (by kernel_rfl)
    (of_decide_eq_true (by kernel_rfl)) (by unfold Func.isWrapper; first | (rw [if_pos (by decide +kernel)]; kernel_rfl) | (rw [if_neg (by decide +kernel)]; exact ⟨rfl, rfl⟩))
    (fun os started H enc _ => lifted os started H enc)

theorem proved : Rows.LaneValidsSaid := over
end Go.Proofs.Ythhakecimnnnfaa.laneValids
namespace Go.Proofs.Ythhakecimnnnfaa
theorem laneValids_holds : Rows.LaneValidsSaid := laneValids.proved
#print axioms laneValids_holds
end Go.Proofs.Ythhakecimnnnfaa
