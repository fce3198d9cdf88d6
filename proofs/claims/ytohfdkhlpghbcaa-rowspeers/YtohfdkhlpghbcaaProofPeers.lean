import Derived.Test.YtohfdkhlpghbcaaSP
import Derived.Test.YtohfdkhlpghbcaaKRow
import Derived.WalkKit
import Derived.ProofKit
import Derived.OpenShut
import Derived.ShutString
import Derived.ChangeOld
import Derived.Below
import Derived.SizedLaws
namespace Go.Proofs.Ytohfdkhlpghbcaa.rowsPeers
set_option maxRecDepth 100000
open Go.ChangeShapes Go.WideShapes Go.ChangeAt Go.RowKit
set_option linter.unusedVariables false

theorem own : ownKnob Try.prog.godebug = none := by kernel_rfl
theorem laidOut : laidOutB Try.prog = true := by kernel_rfl

theorem walk (K0 : Int) (ka0 : Option Addr) (m0 c0 : Nat) (k0 : List Int) (pa0 : Option Addr) (n0 d0 : Nat) (ps0 : List Px) (ka1 va1 : Option Addr) (kn1 kc1 vn1 vc1 : Nat) (kz1 vz1 : List Int) (w : World) (w0 : i64r K0 ∧ (Vs w (fun x => x < w.heap.size) ka0 m0 c0 k0 ∧ m0 ≤ 140737488351232) ∧ (Ps w pa0 n0 ps0 ∧ n0 ≤ d0 ∧ d0 ≤ maxLen ∧ (pa0 = none → d0 = 0))) (w1 : (Vs w (fun x => x < w.heap.size) ka1 kn1 kc1 kz1 ∧ kn1 ≤ 140737488351232) ∧ (Vs w (fun x => x < w.heap.size) va1 vn1 vc1 vz1 ∧ vn1 ≤ 140737488351232)) :
    Calls Try.prog 3 #[.agg #[.int .i64 K0, .slice ka0 m0 c0, .slice pa0 n0 d0], .agg #[.slice ka1 kn1 kc1, .slice va1 vn1 vc1]] w fun e w' => e = .returned (.bool true) ∧ Below w.heap.size w w' :=
  rowsPeers_ K0 ka0 m0 c0 k0 pa0 n0 d0 ps0 ka1 va1 kn1 kc1 vn1 vc1 kz1 vz1 w w0 w1

set_option maxRecDepth 100000 in
theorem lifted (os : Os) (started : os.Started) (H : Type) (enc : TypeId × Value → H) :
    ReturnsInHanded {} Try.checked os 3 .any (Rows.rowsPeersSpec.pre6 enc Try.prog Try.f3 Rows.rowsPeersRow.domain false) (Rows.rowsPeersSpec.post enc Try.prog Try.f3 false true false false) := by
  refine returnsInHanded_of_change_sized (C := Try.checked) own started (by kernel_rfl) Try.func3
    (ChangeSpec.witness6 (enc := enc) (C := Try.checked) false ⟨#[], #[.agg #[.int .i64 0, .slice none 0 0, .slice none 0 0], .agg #[.slice none 0 0, .slice none 0 0]], []⟩ 8 (by kernel_rfl) (by kernel_rfl) (by kernel_rfl) (by kernel_rfl)) ?_
  intro W base args ds gs before hval0 hW hcnd hsz _
  have hval : ∀ (j : Nat) t v, Try.f3.params[j]? = some t → args[j]? = some v → Value.okWide Try.prog W .any base t v := hval0
  have hW' := hW
  obtain ⟨p, q, hA0, hV, rfl, hfz, hnd⟩ := hW
  have hA : DataW.TrodAll enc Try.prog W 0 (fun _ => true) true Try.f3.params.toList args.toList ds p := hA0
  rw [Try.params3] at hA hval
  obtain ⟨v0, vs0, d0, ds0, p0, q0, hargs, rfl, rfl, h0, r0⟩ := trodAll_cons hA
  obtain ⟨v1, vs1, d1, ds1, p1, q1, rfl, rfl, rfl, h1, r1⟩ := trodAll_cons r0
  obtain ⟨rfl, rfl, rfl⟩ := trodAll_nil r1
  obtain rfl : args = #[v0, v1] := by cases args; simp_all
  obtain ⟨rfl, rfl⟩ := trodVars_none hV
  have kk0 := h0
  have lt0 : ∀ x ∈ p0, x.block < W.heap.size := by obtain ⟨m, hm⟩ := kk0; exact DataW.trod_lt m _ _ _ hm
  obtain ⟨K0, ka0, m0, c0, k0, pa0, n0, e0, ps0, rfl, w0⟩ := open_pr (hval 0 25 v0 rfl rfl) h0 (sized_at hsz (j := 0) (by kernel_rfl) (by rfl))
  have kk1 := h1
  have lt1 : ∀ x ∈ p1, x.block < W.heap.size := by obtain ⟨m, hm⟩ := kk1; exact DataW.trod_lt m _ _ _ hm
  obtain ⟨ka1, kn1, kc1, kz1, va1, vn1, vc1, vz1, rfl, w1⟩ := open_rw (hval 1 27 v1 rfl rfl) h1 (sized_at hsz (j := 1) (by kernel_rfl) (by rfl))
  clear hA0 hval0
  refine (walk K0 ka0 m0 c0 k0 pa0 n0 e0 ps0 ka1 va1 kn1 kc1 vn1 vc1 kz1 vz1 W w0 w1).mono fun e W' ⟨he, bel⟩ => ?_
  subst he
  exact ⟨_, rfl, _, _, _, [], _, [], hW', trodAll_mk1 (shut_bool Try.underlying4 _), (trodAll_cons_mk (Below.trod laidOut (by kernel_rfl) (of_decide_eq_true (by kernel_rfl)) kk0 bel lt0) (trodAll_cons_mk (Below.trod laidOut (by kernel_rfl) (of_decide_eq_true (by kernel_rfl)) kk1 bel lt1) trodAll_mk0)), rfl, bel.frame _, fun h => by cases h⟩

theorem over : Rows.rowsPeersRow.holds Try.pinned (OpenSpec.ofChange Rows.rowsPeersSpec) :=
  OpenClaim.holds_of_wide 3 Try.f3 rfl rfl rfl rfl rfl rfl rfl ⟨rfl, rfl, rfl, rfl, rfl⟩ rfl rfl rfl rfl rfl (by kernel_rfl) Try.func3 (by kernel_rfl)
    (of_decide_eq_true (by kernel_rfl)) (by unfold Func.isWrapper; first | (rw [if_pos (by decide +kernel)]; kernel_rfl) | (rw [if_neg (by decide +kernel)]; exact ⟨rfl, rfl⟩))
    (fun os started H enc _ => lifted os started H enc)

theorem proved : Rows.RowsPeersSaid := over
end Go.Proofs.Ytohfdkhlpghbcaa.rowsPeers
namespace Go.Proofs.Ytohfdkhlpghbcaa
theorem rowsPeers_holds : Rows.RowsPeersSaid := rowsPeers.proved
#print axioms rowsPeers_holds
end Go.Proofs.Ytohfdkhlpghbcaa
