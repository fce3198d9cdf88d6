import Derived.Test.YtohfdkhlpghbcaaSR
import Derived.Test.YtohfdkhlpghbcaaKRow
import Derived.WalkKit
import Derived.ProofKit
import Derived.OpenShut
import Derived.ShutString
import Derived.ChangeOld
import Derived.Below
import Derived.SizedLaws
namespace Go.Proofs.Ytohfdkhlpghbcaa.rowsBack
set_option maxRecDepth 100000
open Go.ChangeShapes Go.WideShapes Go.ChangeAt Go.RowKit
set_option linter.unusedVariables false

theorem own : ownKnob Try.prog.godebug = none := by kernel_rfl
theorem laidOut : laidOutB Try.prog = true := by kernel_rfl

theorem walk (K0 : Int) (ka0 : Option Addr) (m0 c0 : Nat) (k0 : List Int) (pa0 : Option Addr) (n0 d0 : Nat) (ps0 : List Px) (a1 : Option Addr) (m1 c1 : Nat) (k1 : List Int) (S1 C1 N1 D1 E1 s1 n1 : Int) (a2 : Int) (ka3 va3 : Option Addr) (kn3 kc3 vn3 vc3 : Nat) (kz3 vz3 : List Int) (w : World) (w0 : i64r K0 ∧ (Vs w (fun x => x < w.heap.size) ka0 m0 c0 k0 ∧ m0 ≤ 140737488351232) ∧ (Ps w pa0 n0 ps0 ∧ n0 ≤ d0 ∧ d0 ≤ maxLen ∧ (pa0 = none → d0 = 0))) (w1 : (Vs w (fun x => x < w.heap.size) a1 m1 c1 k1 ∧ m1 ≤ 140737488351232) ∧ (i64r S1 ∧ i64r C1 ∧ i64r N1 ∧ u64r D1 ∧ u64r E1 ∧ i64r s1 ∧ i64r n1)) (w2 : i64r a2) (w3 : (Vs w (fun x => x < w.heap.size) ka3 kn3 kc3 kz3 ∧ kn3 ≤ 140737488351232) ∧ (Vs w (fun x => x < w.heap.size) va3 vn3 vc3 vz3 ∧ vn3 ≤ 140737488351232)) :
    Calls Try.prog 6 #[.agg #[.int .i64 K0, .slice ka0 m0 c0, .slice pa0 n0 d0], .agg #[.slice a1 m1 c1, .int .i64 S1, .int .i64 C1, .int .i64 N1, .int .u64 D1, .int .u64 E1, .int .i64 s1, .int .i64 n1], .int .i64 a2, .agg #[.slice ka3 kn3 kc3, .slice va3 vn3 vc3]] w fun e w' => e = .returned (.bool true) ∧ Below w.heap.size w w' :=
  rowsBack_ K0 ka0 m0 c0 k0 pa0 n0 d0 ps0 a1 m1 c1 k1 S1 C1 N1 D1 E1 s1 n1 a2 ka3 va3 kn3 kc3 vn3 vc3 kz3 vz3 w w0 w1 w2 w3

set_option maxRecDepth 100000 in
theorem lifted (os : Os) (started : os.Started) (H : Type) (enc : TypeId × Value → H) :
    ReturnsInHanded {} Try.checked os 6 .any (Rows.rowsBackSpec.pre6 enc Try.prog Try.f6 Rows.rowsBackRow.domain false) (Rows.rowsBackSpec.post enc Try.prog Try.f6 false true false false) := by
  refine returnsInHanded_of_change_sized (C := Try.checked) own started (by kernel_rfl) Try.func6
    (ChangeSpec.witness6 (enc := enc) (C := Try.checked) false ⟨#[], #[.agg #[.int .i64 0, .slice none 0 0, .slice none 0 0], .agg #[.slice none 0 0, .int .i64 0, .int .i64 0, .int .i64 0, .int .u64 0, .int .u64 0, .int .i64 0, .int .i64 0], .int .i64 0, .agg #[.slice none 0 0, .slice none 0 0]], []⟩ 8 (by kernel_rfl) (by kernel_rfl) (by kernel_rfl) (by kernel_rfl)) ?_
  intro W base args ds gs before hval0 hW hcnd hsz _
  have hval : ∀ (j : Nat) t v, Try.f6.params[j]? = some t → args[j]? = some v → Value.okWide Try.prog W .any base t v := hval0
  have hW' := hW
  obtain ⟨p, q, hA0, hV, rfl, hfz, hnd⟩ := hW
  have hA : DataW.TrodAll enc Try.prog W 0 (fun _ => true) true Try.f6.params.toList args.toList ds p := hA0
  rw [Try.params6] at hA hval
  obtain ⟨v0, vs0, d0, ds0, p0, q0, hargs, rfl, rfl, h0, r0⟩ := trodAll_cons hA
  obtain ⟨v1, vs1, d1, ds1, p1, q1, rfl, rfl, rfl, h1, r1⟩ := trodAll_cons r0
  obtain ⟨v2, vs2, d2, ds2, p2, q2, rfl, rfl, rfl, h2, r2⟩ := trodAll_cons r1
  obtain ⟨v3, vs3, d3, ds3, p3, q3, rfl, rfl, rfl, h3, r3⟩ := trodAll_cons r2
  obtain ⟨rfl, rfl, rfl⟩ := trodAll_nil r3
  obtain rfl : args = #[v0, v1, v2, v3] := by cases args; simp_all
  obtain ⟨rfl, rfl⟩ := trodVars_none hV
  have kk0 := h0
  have lt0 : ∀ x ∈ p0, x.block < W.heap.size := by obtain ⟨m, hm⟩ := kk0; exact DataW.trod_lt m _ _ _ hm
  obtain ⟨K0, ka0, m0, c0, k0, pa0, n0, e0, ps0, rfl, w0⟩ := open_pr (hval 0 25 v0 rfl rfl) h0 (sized_at hsz (j := 0) (by kernel_rfl) (by rfl))
  have kk1 := h1
  have lt1 : ∀ x ∈ p1, x.block < W.heap.size := by obtain ⟨m, hm⟩ := kk1; exact DataW.trod_lt m _ _ _ hm
  obtain ⟨a1, m1, c1, k1, S1, C1, N1, D1, E1, s1, n1, rfl, w1⟩ := open_ln (hval 1 48 v1 rfl rfl) h1 (sized_at hsz (j := 1) (by kernel_rfl) (by rfl))
  obtain ⟨a2, rfl, rfl, rfl, u2⟩ := open_int Try.underlying3 (hval 2 3 v2 rfl rfl) h2
  have w2 : i64r a2 := bounds_i64 u2
  have kk3 := h3
  have lt3 : ∀ x ∈ p3, x.block < W.heap.size := by obtain ⟨m, hm⟩ := kk3; exact DataW.trod_lt m _ _ _ hm
  obtain ⟨ka3, kn3, kc3, kz3, va3, vn3, vc3, vz3, rfl, w3⟩ := open_rw (hval 3 27 v3 rfl rfl) h3 (sized_at hsz (j := 3) (by kernel_rfl) (by rfl))
  clear hA0 hval0
  refine (walk K0 ka0 m0 c0 k0 pa0 n0 e0 ps0 a1 m1 c1 k1 S1 C1 N1 D1 E1 s1 n1 a2 ka3 va3 kn3 kc3 vn3 vc3 kz3 vz3 W w0 w1 w2 w3).mono fun e W' ⟨he, bel⟩ => ?_
  subst he
  exact ⟨_, rfl, _, _, _, [], _, [], hW', trodAll_mk1 (shut_bool Try.underlying4 _), (trodAll_cons_mk (Below.trod laidOut (by kernel_rfl) (of_decide_eq_true (by kernel_rfl)) kk0 bel lt0) (trodAll_cons_mk (Below.trod laidOut (by kernel_rfl) (of_decide_eq_true (by kernel_rfl)) kk1 bel lt1) (trodAll_cons_mk (shut_int Try.underlying3 u2) (trodAll_cons_mk (Below.trod laidOut (by kernel_rfl) (of_decide_eq_true (by kernel_rfl)) kk3 bel lt3) trodAll_mk0)))), rfl, bel.frame _, fun h => by cases h⟩

theorem over : Rows.rowsBackRow.holds Try.pinned (OpenSpec.ofChange Rows.rowsBackSpec) :=
  OpenClaim.holds_of_wide 6 Try.f6 rfl rfl rfl rfl rfl rfl rfl ⟨rfl, rfl, rfl, rfl, rfl⟩ rfl rfl rfl rfl rfl (by kernel_rfl) Try.func6 (by kernel_rfl)
    (of_decide_eq_true (by kernel_rfl)) (by unfold Func.isWrapper; first | (rw [if_pos (by decide +kernel)]; kernel_rfl) | (rw [if_neg (by decide +kernel)]; exact ⟨rfl, rfl⟩))
    (fun os started H enc _ => lifted os started H enc)

theorem proved : Rows.RowsBackSaid := over
end Go.Proofs.Ytohfdkhlpghbcaa.rowsBack
namespace Go.Proofs.Ytohfdkhlpghbcaa
theorem rowsBack_holds : Rows.RowsBackSaid := rowsBack.proved
#print axioms rowsBack_holds
end Go.Proofs.Ytohfdkhlpghbcaa
