import Derived.Test.YtheafbbihejdmabMD
namespace Go.Proofs.Ytheafbbihejdmab
set_option maxRecDepth 100000
open Go.RowKit Go.Shelf
set_option linter.unusedVariables false

/-- An Op's parts. -/
structure Ov where
  K : Int
  I : Int
  sc : Bool
  Da : Option Addr
  Dn : Nat
  Dc : Nat
  D : List Int
  Fa : Option Addr
  Fn : Nat
  Fc : Nat
  fs : List (Int × Int)
  Ka : Option Addr
  Kn : Nat
  Kc : Nat
  ks : List Bool
def Ov.val (x : Ov) : Value := .agg #[.int .i64 x.K, .int .i64 x.I, .bool x.sc, .slice x.Da x.Dn x.Dc, .slice x.Fa x.Fn x.Fc, .slice x.Ka x.Kn x.Kc]
def Ov.fol (x : Ov) (s : St) : St := folS s x.K x.I x.D x.fs x.ks
structure Ov.Ok (x : Ov) (w : World) : Prop where
  o : OpIn w x.Da x.Dn x.Dc x.D x.Fa x.Fn x.Fc x.fs x.Ka x.Kn x.Kc x.ks
  i : -9223372036854775808 ≤ x.I ∧ x.I ≤ 9223372036854775807
theorem follows_ (w0 w : World) (d g : Nat) (s : St) (Q : Nat → Prop) (x : Ov) (h : Sy w0 w d s Q g) (ho : x.Ok w0) (hc : s.c ≤ 100000) (hp : s.P.length ≤ 100000) (hk : s.k ≤ 100000) :
    Calls Try.prog 7 #[.pointer (some ⟨g, 0, none⟩), .pointer (some ⟨d, 0, none⟩), .agg #[.int .i64 x.K, .int .i64 x.I, .bool x.sc, .slice x.Da x.Dn x.Dc, .slice x.Fa x.Fn x.Fc, .slice x.Ka x.Kn x.Kc]] w fun e w' => e = .returned (.bool true) ∧ ∃ Q', Sy w0 w' d (x.fol s) Q' g := by
  obtain ⟨K, I, sc, Da, Dn, Dc, D, Fa, Fn, Fc, fs, Ka, Kn, Kc, ks⟩ := x
  obtain ⟨ho, hI⟩ := ho
  simp only at ho hI
  unfold Ov.fol
  show Calls _ _ #[_, _, .agg #[.int .i64 K, .int .i64 I, .bool sc, .slice Da Dn Dc, .slice Fa Fn Fc, .slice Ka Kn Kc]] w fun e w' => e = .returned (.bool true) ∧ ∃ Q', Sy w0 w' d (folS s K I D fs ks) Q' g
  by_cases k1 : K = 1
  · subst k1
    rw [show folS s 1 I D fs ks = rdS s (plc I) from by unfold folS; rw [if_pos rfl]]
    exact fol1_ w0 w d g s Q I sc Da Dn Dc D Fa Fn Fc fs Ka Kn Kc ks h ho hI hc hp hk
  by_cases k2 : K = 2
  · subst k2
    rw [show folS s 2 I D fs ks = wrS s (plc I) (pad D) from by unfold folS; rw [if_neg (by decide), if_pos (.inl rfl)]]
    exact fol2_ w0 w d g s Q I sc Da Dn Dc D Fa Fn Fc fs Ka Kn Kc ks h ho hI hc hp hk
  by_cases k3 : K = 3
  · subst k3
    rw [show folS s 3 I D fs ks = wrS s (plc I) (pad D) from by unfold folS; rw [if_neg (by decide), if_pos (.inr rfl)]]
    exact fol3_ w0 w d g s Q I sc Da Dn Dc D Fa Fn Fc fs Ka Kn Kc ks h ho hI hc hp hk
  by_cases k4 : K = 4
  · subst k4
    rw [show folS s 4 I D fs ks = flS s from by unfold folS; rw [if_neg (by decide), if_neg (by decide), if_pos rfl]]
    exact fol4_ w0 w d g s Q I sc Da Dn Dc D Fa Fn Fc fs Ka Kn Kc ks h ho hI hc hp hk
  by_cases k5 : K = 5
  · subst k5
    rw [show folS s 5 I D fs ks = arS s fs from by unfold folS; rw [if_neg (by decide), if_neg (by decide), if_neg (by decide), if_pos rfl]]
    exact fol5_ w0 w d g s Q I sc Da Dn Dc D Fa Fn Fc fs Ka Kn Kc ks h ho hI hc hp hk
  by_cases k6 : K = 6
  · subst k6
    rw [show folS s 6 I D fs ks = crS s ks from by unfold folS; rw [if_neg (by decide), if_neg (by decide), if_neg (by decide), if_neg (by decide), if_pos rfl]]
    exact fol6_ w0 w d g s Q I sc Da Dn Dc D Fa Fn Fc fs Ka Kn Kc ks h ho hI hc hp hk
  by_cases k11 : K = 11
  · subst k11
    rw [show folS s 11 I D fs ks = { s with k := s.k + 1 } from by unfold folS; rw [if_neg (by decide), if_neg (by decide), if_neg (by decide), if_neg (by decide), if_neg (by decide), if_pos rfl]]
    exact fol11_ w0 w d g s Q I sc Da Dn Dc D Fa Fn Fc fs Ka Kn Kc ks h ho hI hc hp hk
  rw [show folS s K I D fs ks = s from by unfold folS; rw [if_neg k1, if_neg (fun h => h.elim k2 k3), if_neg k4, if_neg k5, if_neg k6, if_neg k11]]
  exact folX_ w0 w d g s Q K I sc Da Dn Dc D Fa Fn Fc fs Ka Kn Kc ks h ho hI hc hp hk (by simpa using k1) (by simpa using k2) (by simpa using k3) (by simpa using k4) (by simpa using k5) (by simpa using k6) (by simpa using k11)
/-- What a call may raise. -/
theorem fol_le (x : Ov) (s : St) : (x.fol s).c ≤ s.c + 1 ∧ (x.fol s).P.length ≤ s.P.length + 1 ∧ (x.fol s).k ≤ s.k + 1 := by
  unfold Ov.fol folS
  have o1 := opS_c s
  have o2 := opS_P s
  have o3 := opS_k s
  split
  · unfold rdS
    split
    · exact ⟨o1, by rw [o2]; omega, by rw [o3]; omega⟩
    · exact ⟨by omega, by omega, by omega⟩
  split
  · unfold wrS
    split
    · split
      · exact ⟨o1, by simp, by show (opS s).k ≤ _; rw [o3]; omega⟩
      · exact ⟨o1, by rw [o2]; omega, by rw [o3]; omega⟩
    · exact ⟨by omega, by omega, by omega⟩
  split
  · unfold flS
    split
    · exact ⟨o1, by simp, by show (opS s).k ≤ _; rw [o3]; omega⟩
    · exact ⟨o1, by rw [o2]; omega, by rw [o3]; omega⟩
  split
  · unfold arS
    split
    · exact ⟨by simp, by simp, by simp⟩
    · exact ⟨by omega, by omega, by omega⟩
  split
  · unfold crS
    exact ⟨by simp, by simp, by simp⟩
  split
  · exact ⟨by simp, by simp, by simp⟩
  · exact ⟨by omega, by omega, by omega⟩
/-- A slice of Ops. -/
def IsOps (w : World) (a : Option Addr) (n : Nat) (O : Nat → Ov) : Prop :=
  n = 0 ∨ ∃ b off, a = some ⟨b, off, none⟩ ∧ ∀ i, i < n → (w.cell? ⟨b, off + i * 6, none⟩ = some (.int .i64 (O i).K) ∧ w.cell? ⟨b, off + i * 6 + 1, none⟩ = some (.int .i64 (O i).I) ∧ w.cell? ⟨b, off + i * 6 + 2, none⟩ = some (.bool (O i).sc) ∧ w.cell? ⟨b, off + i * 6 + 3, none⟩ = some (.slice (O i).Da (O i).Dn (O i).Dc) ∧ w.cell? ⟨b, off + i * 6 + 4, none⟩ = some (.slice (O i).Fa (O i).Fn (O i).Fc) ∧ w.cell? ⟨b, off + i * 6 + 5, none⟩ = some (.slice (O i).Ka (O i).Kn (O i).Kc)) ∧ (O i).Ok w
end Go.Proofs.Ytheafbbihejdmab
