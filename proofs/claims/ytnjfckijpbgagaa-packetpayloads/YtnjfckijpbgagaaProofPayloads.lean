import Derived.Test.YtnjfckijpbgagaaL4
import Derived.Test.YtnjfckijpbgagaaNRow
import Derived.WalkKit
import Derived.ProofKit
import Derived.OpenShut
import Derived.ShutString
import Derived.ChangeOld
import Derived.Below
import Derived.SizedLaws
namespace Go.Proofs.Ytnjfckijpbgagaa.packetPayloads
set_option maxRecDepth 100000
open Go.ChangeShapes Go.WideShapes Go.ChangeAt Go.RowKit
set_option linter.unusedVariables false

theorem own : ownKnob Try.prog.godebug = none := by kernel_rfl
theorem laidOut : laidOutB Try.prog = true := by kernel_rfl

theorem walk (a0f a0h a0l b0f b0h b0l : Int) (a0 : Option Addr) (len0 cap0 : Nat) (z0 : List Int) (w : World) (w0 : ((InI a0f ∧ InU a0h ∧ InU a0l) ∧ InI b0f ∧ InU b0h ∧ InU b0l) ∧ IsRow .u8 w a0 len0 cap0 z0) (s0 : len0 ≤ 140737488351232) :
    Calls Try.prog 5 #[.agg #[.int .i64 a0f, .int .u64 a0h, .int .u64 a0l, .int .i64 b0f, .int .u64 b0h, .int .u64 b0l, .slice a0 len0 cap0]] w fun e w' => e = .returned (.bool true) ∧ Below w.heap.size w w' :=
  packetPayloads_ a0f a0h a0l b0f b0h b0l a0 len0 cap0 (z0.take len0) w w0.2.bs s0 w0.1.1.1 w0.1.1.2.1 w0.1.1.2.2 w0.1.2.1 w0.1.2.2.1 w0.1.2.2.2

set_option maxRecDepth 100000 in
theorem lifted (os : Os) (started : os.Started) (H : Type) (enc : TypeId × Value → H) :
    ReturnsInHanded {} Try.checked os 5 .any (Rows.packetPayloadsSpec.pre6 enc Try.prog Try.f5 Rows.packetPayloadsRow.domain false) (Rows.packetPayloadsSpec.post enc Try.prog Try.f5 false true false false) := by
  refine returnsInHanded_of_change_sized (C := Try.checked) own started (by kernel_rfl) Try.func5
    (ChangeSpec.witness6 (enc := enc) (C := Try.checked) false ⟨#[], #[.agg #[.int .i64 0, .int .u64 0, .int .u64 0, .int .i64 0, .int .u64 0, .int .u64 0, .slice none 0 0]], []⟩ 8 (by kernel_rfl) (by kernel_rfl) (by kernel_rfl) (by kernel_rfl)) ?_
  intro W base args ds gs before hval0 hW hcnd hsz _
  have hval : ∀ (j : Nat) t v, Try.f5.params[j]? = some t → args[j]? = some v → Value.okWide Try.prog W .any base t v := hval0
  have hW' := hW
  obtain ⟨p, q, hA0, hV, rfl, hfz, hnd⟩ := hW
  have hA : DataW.TrodAll enc Try.prog W 0 (fun _ => true) true Try.f5.params.toList args.toList ds p := hA0
  rw [Try.params5] at hA hval
  obtain ⟨v0, vs0, d0, ds0, p0, q0, hargs, rfl, rfl, h0, r0⟩ := trodAll_cons hA
  obtain ⟨rfl, rfl, rfl⟩ := trodAll_nil r0
  obtain rfl : args = #[v0] := by cases args; simp_all
  obtain ⟨rfl, rfl⟩ := trodVars_none hV
  have k0 := h0
  have lt0 : ∀ x ∈ p0, x.block < W.heap.size := by obtain ⟨m, hm⟩ := k0; exact DataW.trod_lt m _ _ _ hm
  obtain ⟨a0f, a0h, a0l, b0f, b0h, b0l, a0, len0, cap0, z0, u0, rfl, r0, s0⟩ := open_py (hval 0 45 v0 rfl rfl) h0 (sized_at hsz (j := 0) (by kernel_rfl) (by rfl))
  have w0 := And.intro u0 r0
  clear hA0 hval0
  refine (walk a0f a0h a0l b0f b0h b0l a0 len0 cap0 z0 W w0 s0).mono fun e W' ⟨he, bel⟩ => ?_
  subst he
  exact ⟨_, rfl, _, _, _, [], _, [], hW', trodAll_mk1 (shut_bool Try.underlying4 _), (trodAll_cons_mk (Below.trod laidOut (by kernel_rfl) (of_decide_eq_true (by kernel_rfl)) k0 bel lt0) trodAll_mk0), rfl, bel.frame _, fun h => by cases h⟩

theorem over : Rows.packetPayloadsRow.holds Try.pinned (OpenSpec.ofChange Rows.packetPayloadsSpec) :=
  OpenClaim.holds_of_wide 5 Try.f5 rfl rfl rfl rfl rfl rfl rfl ⟨rfl, rfl, rfl, rfl, rfl⟩ rfl rfl rfl rfl rfl (by kernel_rfl) Try.func5 (by kernel_rfl)
    (of_decide_eq_true (by kernel_rfl)) (by unfold Func.isWrapper; first | (rw [if_pos (by decide +kernel)]; kernel_rfl) | (rw [if_neg (by decide +kernel)]; exact ⟨rfl, rfl⟩))
    (fun os started H enc _ => lifted os started H enc)

theorem proved : Rows.PacketPayloadsSaid := over
end Go.Proofs.Ytnjfckijpbgagaa.packetPayloads
namespace Go.Proofs.Ytnjfckijpbgagaa
theorem packetPayloads_holds : Rows.PacketPayloadsSaid := packetPayloads.proved
#print axioms packetPayloads_holds
end Go.Proofs.Ytnjfckijpbgagaa
