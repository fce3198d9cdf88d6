import Derived.Test.YthjfgdldclhbhaaRX2
import Derived.Test.YthjfgdldclhbhaaYA
namespace Go.Proofs.Ythjfgdldclhbhaa
set_option maxRecDepth 100000
open Go.RowKit Go.Shelf
set_option linter.unusedVariables false

theorem arS_le (s : St) (fs : List (Int × Int)) : (arS s fs).c ≤ s.c + 1 ∧ (arS s fs).P.length ≤ s.P.length + 1 ∧ (arS s fs).k ≤ s.k + 1 := by
  unfold arS
  split
  · exact ⟨Nat.zero_le _, Nat.le_succ _, Nat.le_succ _⟩
  · exact ⟨Nat.le_succ _, Nat.le_succ _, Nat.le_succ _⟩
theorem stepAny_ (w0 w : World) (p d e k : Nat) (s : St) (Q N T : Nat → Prop) (K I : Int) (sc : Bool) (Da : Option Addr) (Dn Dc : Nat) (D : List Int) (Fa : Option Addr) (Fn Fc : Nat) (fs : List (Int × Int)) (Ka : Option Addr) (Kn Kc : Nat) (ks : List Bool)
    (h : Py w0 w p d e k s Q N T) (ho : OpIn w0 Da Dn Dc D Fa Fn Fc fs Ka Kn Kc ks) (hc : s.c ≤ 100000) (hp : s.P.length ≤ 100000) (hk : s.k ≤ 100000) :
    Calls Try.prog 12 #[.pointer (some ⟨p, 0, none⟩), .agg #[.int .i64 K, .int .i64 I, .bool sc, .slice Da Dn Dc, .slice Fa Fn Fc, .slice Ka Kn Kc]] w fun en w' => en = .returned (.bool true) ∧ ∃ s', Pz w0 w w' p d e k s' Q N T ∧ s'.c ≤ s.c + 1 ∧ s'.P.length ≤ s.P.length + 1 ∧ s'.k ≤ s.k + 1 := by
  by_cases hsl : ¬ (Dn ≤ 65536 ∧ Fn ≤ 65536 ∧ Kn ≤ 65536)
  · exact (stepL_ w0 w p d e k s Q N T K I sc Da Dn Dc D Fa Fn Fc fs Ka Kn Kc ks h ho hc hp hk hsl).mono (fun en w' ⟨a, b⟩ => ⟨a, _, b, ⟨Nat.le_succ _, Nat.le_succ _, Nat.le_succ _⟩⟩)
  have hsh : Dn ≤ 65536 ∧ Fn ≤ 65536 ∧ Kn ≤ 65536 := by omega
  by_cases k1 : K = 1
  · subst k1
    exact (step1_ w0 w p d e k s Q N T I sc Da Dn Dc D Fa Fn Fc fs Ka Kn Kc ks h ho hc hp hk hsh).mono (fun en w' ⟨a, b⟩ => ⟨a, _, b, ⟨(rdS_le s I).1, by have := (rdS_le s I).2.1; omega, by have := (rdS_le s I).2.2.1; omega⟩⟩)
  by_cases k2 : K = 2
  · subst k2
    exact (step2_ w0 w p d e k s Q N T I sc Da Dn Dc D Fa Fn Fc fs Ka Kn Kc ks h ho hc hp hk hsh).mono (fun en w' ⟨a, b⟩ => ⟨a, _, b, ⟨(wrS_le s I (pad D)).1, (wrS_le s I (pad D)).2.1, by have := (wrS_le s I (pad D)).2.2.1; omega⟩⟩)
  by_cases k3 : K = 3
  · subst k3
    exact (step3_ w0 w p d e k s Q N T I sc Da Dn Dc D Fa Fn Fc fs Ka Kn Kc ks h ho hc hp hk hsh).mono (fun en w' ⟨a, b⟩ => ⟨a, _, b, ⟨(wrS_le s I D).1, (wrS_le s I D).2.1, by have := (wrS_le s I D).2.2.1; omega⟩⟩)
  by_cases k4 : K = 4
  · subst k4
    exact (step4_ w0 w p d e k s Q N T I sc Da Dn Dc D Fa Fn Fc fs Ka Kn Kc ks h ho hc hp hk hsh).mono (fun en w' ⟨a, b⟩ => ⟨a, _, b, ⟨(flS_le s).1, by have := (flS_le s).2.1; omega, by have := (flS_le s).2.2.1; omega⟩⟩)
  by_cases k5 : K = 5
  · subst k5
    exact (step5_ w0 w p d e k s Q N T I sc Da Dn Dc D Fa Fn Fc fs Ka Kn Kc ks h ho hc hp hk hsh).mono (fun en w' ⟨a, b⟩ => ⟨a, _, b, arS_le s fs⟩)
  by_cases k6 : K = 6
  · subst k6
    exact (step6_ w0 w p d e k s Q N T I sc Da Dn Dc D Fa Fn Fc fs Ka Kn Kc ks h ho hc hp hk hsh).mono (fun en w' ⟨a, b⟩ => ⟨a, _, b, ⟨by have := (crS_le s ks).1; omega, by have := (crS_le s ks).2.1; omega, (crS_le s ks).2.2.1⟩⟩)
  by_cases k7 : K = 7
  · subst k7
    exact (step7_ w0 w p d e k s Q N T I sc Da Dn Dc D Fa Fn Fc fs Ka Kn Kc ks h ho hc hp hk hsh).mono (fun en w' ⟨a, b⟩ => ⟨a, _, b, ⟨Nat.le_succ _, Nat.le_succ _, Nat.le_succ _⟩⟩)
  by_cases k8 : K = 8
  · subst k8
    exact (step8_ w0 w p d e k s Q N T I sc Da Dn Dc D Fa Fn Fc fs Ka Kn Kc ks h ho hc hp hk hsh).mono (fun en w' ⟨a, b⟩ => ⟨a, _, b, ⟨Nat.le_succ _, Nat.le_succ _, Nat.le_succ _⟩⟩)
  by_cases k9 : K = 9
  · subst k9
    exact (step9_ w0 w p d e k s Q N T I sc Da Dn Dc D Fa Fn Fc fs Ka Kn Kc ks h ho hc hp hk hsh).mono (fun en w' ⟨a, b⟩ => ⟨a, _, b, ⟨Nat.le_succ _, Nat.le_succ _, Nat.le_succ _⟩⟩)
  by_cases k10 : K = 10
  · subst k10
    exact (step10_ w0 w p d e k s Q N T I sc Da Dn Dc D Fa Fn Fc fs Ka Kn Kc ks h ho hc hp hk hsh).mono (fun en w' ⟨a, b⟩ => ⟨a, _, b, ⟨Nat.le_succ _, Nat.le_succ _, Nat.le_succ _⟩⟩)
  by_cases k11 : K = 11
  · subst k11
    exact (step11_ w0 w p d e k s Q N T I sc Da Dn Dc D Fa Fn Fc fs Ka Kn Kc ks h ho hc hp hk hsh).mono (fun en w' ⟨a, b⟩ => ⟨a, _, b, ⟨Nat.le_succ _, Nat.le_succ _, Nat.le_refl _⟩⟩)
  by_cases k12 : K = 12
  · subst k12
    exact (step12_ w0 w p d e k s Q N T I sc Da Dn Dc D Fa Fn Fc fs Ka Kn Kc ks h ho hc hp hk hsh).mono (fun en w' ⟨a, b⟩ => ⟨a, _, b, ⟨Nat.le_succ _, Nat.le_succ _, Nat.le_succ _⟩⟩)
  by_cases k13 : K = 13
  · subst k13
    exact (step13_ w0 w p d e k s Q N T I sc Da Dn Dc D Fa Fn Fc fs Ka Kn Kc ks h ho hc hp hk hsh).mono (fun en w' ⟨a, b⟩ => ⟨a, _, b, ⟨Nat.le_succ _, Nat.le_succ _, Nat.le_succ _⟩⟩)
  exact (stepX_ w0 w p d e k s Q N T K I sc Da Dn Dc D Fa Fn Fc fs Ka Kn Kc ks h ho hc hp hk hsh (by simpa using k1) (by simpa using k2) (by simpa using k3) (by simpa using k4) (by simpa using k5) (by simpa using k6) (by simpa using k7) (by simpa using k8) (by simpa using k9) (by simpa using k10) (by simpa using k11) (by simpa using k12) (by simpa using k13)).mono (fun en w' ⟨a, b⟩ => ⟨a, _, b, ⟨Nat.le_succ _, Nat.le_succ _, Nat.le_succ _⟩⟩)
/-- Two pairs at one desk. -/
structure Tw (w0 w : World) (p d e p' d' e' k : Nat) (s s' : St) (Q N Q' N' T : Nat → Prop) : Prop where
  a : Py w0 w p d e k s Q N T
  b : Pa w p' d' e' k s' Q' N'
  tb : ∀ b, T b → ¬ Q' b ∧ ¬ N' b ∧ b ≠ p'
  ab : ∀ b, Q b ∨ N b → ¬ Q' b ∧ ¬ N' b ∧ b ≠ p'
  np : ¬ Q' p ∧ ¬ N' p
  lb : ∀ b, Q' b ∨ N' b → w0.heap.size ≤ b
def Two (w0 w : World) (p d e p' d' e' k : Nat) (s s' : St) : Prop := ∃ Q N Q' N' T, Tw w0 w p d e p' d' e' k s s' Q N Q' N' T
theorem Two.swap {w0 w : World} {p d e p' d' e' k : Nat} {s s' : St} (h : Two w0 w p d e p' d' e' k s s') : Two w0 w p' d' e' p d e k s' s := by
  obtain ⟨Q, N, Q', N', T, h⟩ := h
  refine ⟨Q', N', Q, N, T, ⟨h.b, h.a.ds, fun b hb => ⟨(h.a.tq b hb).1, h.tb b hb⟩, fun b hb => ?_, h.a.bl⟩, h.a.pa, fun b hb => (h.a.tq b hb).2, fun b hb => ⟨fun q => ?_, fun q => ?_, fun q => ?_⟩, ⟨fun q => (h.ab _ (.inl q)).2.2 rfl, fun q => (h.ab _ (.inr q)).2.2 rfl⟩, fun b hb => ?_⟩
  · rcases hb with q | q | q
    · exact h.lb b (.inl q)
    · exact h.lb b (.inr q)
    · exact h.a.lo b (.inr (.inr q))
  · rcases hb with r | r
    · exact (h.ab b (.inl q)).1 r
    · exact (h.ab b (.inl q)).2.1 r
  · rcases hb with r | r
    · exact (h.ab b (.inr q)).1 r
    · exact (h.ab b (.inr q)).2.1 r
  · subst q
    rcases hb with r | r
    · exact h.np.1 r
    · exact h.np.2 r
  · rcases hb with q | q
    · exact h.a.lo b (.inl q)
    · exact h.a.lo b (.inr (.inl q))
theorem Two.step {w0 w w1 : World} {p d e p' d' e' k : Nat} {s s' s1 : St} {Q N Q' N' T : Nat → Prop} (h : Tw w0 w p d e p' d' e' k s s' Q N Q' N' T) (hz : Pz w0 w w1 p d e k s1 Q N T) : Two w0 w1 p d e p' d' e' k s1 s' := by
  obtain ⟨Q1, N1, T1, y, cov, fr⟩ := hz
  have hlt := h.b.lt
  have hql := h.b.dev.lt
  have hnl := h.b.nl
  have key : ∀ b, Q b ∨ N b ∨ T b → ¬ Q' b ∧ ¬ N' b ∧ b ≠ p' := fun b hb => by
    rcases hb with q | q | q
    · exact h.ab b (.inl q)
    · exact h.ab b (.inr q)
    · exact h.tb b q
  have key1 : ∀ b, Q1 b ∨ N1 b ∨ T1 b → ¬ Q' b ∧ ¬ N' b ∧ b ≠ p' := fun b hb => by
    rcases cov b hb with q | q | q | q
    · exact key b (.inl q)
    · exact key b (.inr (.inl q))
    · exact key b (.inr (.inr q))
    · exact ⟨fun r => by have := hql b r; omega, fun r => by have := hnl b r; omega, fun r => by omega⟩
  exact ⟨Q1, N1, Q', N', T1, y, h.b.fr fr (fun b hb _ => key b hb), fun b hb => key1 b (.inr (.inr hb)), fun b hb => key1 b (by
    rcases hb with q | q
    · exact .inl q
    · exact .inr (.inl q)), h.np, h.lb⟩
theorem Two.bl {w0 w : World} {p d e p' d' e' k : Nat} {s s' : St} (h : Two w0 w p d e p' d' e' k s s') : Below w0.heap.size w0 w := by
  obtain ⟨Q, N, Q', N', T, h⟩ := h
  exact h.a.bl
theorem Two.below {w0 w w' : World} {p d e p' d' e' k : Nat} {s s' : St} (h : Two w0 w p d e p' d' e' k s s') (hb : Below w.heap.size w w') : Two w0 w' p d e p' d' e' k s s' := by
  obtain ⟨Q, N, Q', N', T, h⟩ := h
  exact Two.step h (pz_below h.a hb)
/-- A step of the first one. -/
theorem two_step (w0 w : World) (p d e p' d' e' k : Nat) (s s' : St) (K I : Int) (sc : Bool) (Da : Option Addr) (Dn Dc : Nat) (D : List Int) (Fa : Option Addr) (Fn Fc : Nat) (fs : List (Int × Int)) (Ka : Option Addr) (Kn Kc : Nat) (ks : List Bool)
    (h : Two w0 w p d e p' d' e' k s s') (ho : OpIn w0 Da Dn Dc D Fa Fn Fc fs Ka Kn Kc ks) (hc : s.c ≤ 100000) (hp : s.P.length ≤ 100000) (hk : s.k ≤ 100000) :
    Calls Try.prog 12 #[.pointer (some ⟨p, 0, none⟩), .agg #[.int .i64 K, .int .i64 I, .bool sc, .slice Da Dn Dc, .slice Fa Fn Fc, .slice Ka Kn Kc]] w fun en w' => en = .returned (.bool true) ∧ ∃ s1, Two w0 w' p d e p' d' e' k s1 s' ∧ s1.c ≤ s.c + 1 ∧ s1.P.length ≤ s.P.length + 1 ∧ s1.k ≤ s.k + 1 := by
  obtain ⟨Q, N, Q', N', T, h⟩ := h
  exact (stepAny_ w0 w p d e k s Q N T K I sc Da Dn Dc D Fa Fn Fc fs Ka Kn Kc ks h.a ho hc hp hk).mono (fun en w' ⟨a, s1, z, l⟩ => ⟨a, s1, Two.step h z, l⟩)
end Go.Proofs.Ythjfgdldclhbhaa
