import Derived.Test.YtblcpdffiafgnaaGreatDoorZF
import Derived.Test.YtblcpdffiafgnaaGreatDoorZJ
namespace Go.Proofs.YtblcpdffiafgnaaGreatDoor
set_option linter.unusedSimpArgs false
set_option maxRecDepth 100000
open Go.RowKit Go.Shelf
set_option linter.unusedVariables false
set_option linter.unusedSimpArgs false
variable {Ee : Ex}

/-- An Op as it came in. -/
structure Ow where
  K : Int
  N : Int
  old : Bool
  da : Option Addr
  dn : Nat
  dc : Nat
  dat : List Int
  fa : Option Addr
  fm : Nat
  fc : Nat
  fs : List (Int × Int)
  ka : Option Addr
  kn : Nat
  kc : Nat
  ks : List Bool
  tg : ByteArray
  e : Int
  q : Int
  p : Int
  ba : Option Addr
  bn : Nat
  bc : Nat
abbrev Ow.cs (y : Ow) : Array Value := opC y.K y.N y.old y.da y.dn y.dc y.fa y.fm y.fc y.ka y.kn y.kc (.string y.tg) (.int .i64 y.e) (.int .i64 y.q) (.int .i64 y.p) (.slice y.ba y.bn y.bc)
def IsOps12 (w : World) (a : Option Addr) (n : Nat) (O : Nat → Ow) : Prop := n = 0 ∨ ∃ b off, a = some ⟨b, off, none⟩ ∧ ∀ i, i < n → w.rangeAt b (off + i * 11) (O i).cs.toList ∧ Oo w w (O i).da (O i).dn (O i).dc (O i).dat (O i).fa (O i).fm (O i).fs (O i).ka (O i).kn (O i).ks
theorem Oo.to {w w0 w1 : World} {da : Option Addr} {dn dc : Nat} {dat : List Int} {fa : Option Addr} {fm : Nat} {fs : List (Int × Int)} {ka : Option Addr} {kn : Nat} {ks : List Bool} (h : Oo w w da dn dc dat fa fm fs ka kn ks) (hb : Below w.heap.size w w1) (h0 : w.heap.size ≤ w0.heap.size) : Oo w0 w1 da dn dc dat fa fm fs ka kn ks :=
  ⟨h.hd.below hb, fun ad ha hn => Nat.lt_of_lt_of_le (h.hdq ad ha hn) h0, h.hdc, h.hdm, h.hdn, h.hf.below hb, h.hfm, h.hk.below hb, fun ad ha hn => Nat.lt_of_lt_of_le (h.hkq ad ha hn) h0, h.hkn⟩
theorem step_ (w0 w : World) (t : Nat) (T : Tp) (n : Nat) (y : Ow) (h : Tw Ee w0 w t T) (hv : Tv T n) (hn : n ≤ 150) (ho : Oo w0 w y.da y.dn y.dc y.dat y.fa y.fm y.fs y.ka y.kn y.ks) :
    Calls Tryz.prog 10 #[.pointer (some ⟨t, 0, none⟩), .agg y.cs] w fun en w' => en = .returned (.bool true) ∧ ∃ T', Ts y.K y.dat y.fs y.ks T T' ∧ Tw Ee w0 w' t T' := by
  obtain ⟨K, N, old, da, dn, dc, dat, fa, fm, fc, fs, ka, kn, kc, ks, tg, e, q, p, ba, bn, bc⟩ := y
  simp only [Ow.cs] at ho ⊢
  by_cases k2 : K = 2
  · subst k2; exact step_2 w0 w t T n N old da dn dc dat fa fm fc fs ka kn kc ks _ _ _ _ _ h hv hn ho
  by_cases k3 : K = 3
  · subst k3; exact step_3 w0 w t T n N old da dn dc dat fa fm fc fs ka kn kc ks _ _ _ _ _ h hv hn ho
  by_cases k4 : K = 4
  · subst k4; exact step_4 w0 w t T n N old da dn dc dat fa fm fc fs ka kn kc ks _ _ _ _ _ h hv hn ho
  by_cases k5 : K = 5
  · subst k5; exact step_5 w0 w t T n N old da dn dc dat fa fm fc fs ka kn kc ks _ _ _ _ _ h hv hn ho
  by_cases k6 : K = 6
  · subst k6; exact step_6 w0 w t T n N old da dn dc dat fa fm fc fs ka kn kc ks _ _ _ _ _ h hv hn ho
  by_cases k7 : K = 7
  · subst k7; exact step_7 w0 w t T n N old da dn dc dat fa fm fc fs ka kn kc ks _ _ _ _ _ h hv hn ho
  by_cases k9 : K = 9
  · subst k9; exact step_9 w0 w t T n N old da dn dc dat fa fm fc fs ka kn kc ks _ _ _ _ _ h hv hn ho
  by_cases k10 : K = 10
  · subst k10; exact step_10 w0 w t T n N old da dn dc dat fa fm fc fs ka kn kc ks _ _ _ _ _ h hv hn ho
  exact step_0 w0 w t T n K N old da dn dc dat fa fm fc fs ka kn kc ks _ _ _ _ _ h hv hn ho (by omega)
/-- A town at its beginning. -/
theorem begins_ (n : Int) (w : World) (hT : Tab w) : Calls Tryz.prog 9 #[.int .i64 n] w fun en w' => ∃ t, en = .returned (.pointer (some ⟨t, 0, none⟩)) ∧ Tw Tr w w' t (bgT (tnN n)) := by
  refine (begin_ n w hT).mono ?_
  rintro en w' ⟨t, d, Q, rfl, tn, dv, hQ, qt, tb, ht, bel⟩
  refine ⟨t, rfl, d, 0, _, Q, fun b => Q b ∨ b = t, _, _, _, _, _, _, tn, dv, rfl, fun b q => .inl q, .inr rfl, qt, fun b q => ?_, Ar.nil _ _, Ar.nil _ _, Ar.nil _ _, tb, hT.1, bel, trivial⟩
  rcases q with q | q
  · exact ⟨hQ b q, dv.lt b q⟩
  · exact q ▸ ⟨ht, tn.lt⟩
theorem sizeOp : (Tryz.prog.info? 33).map (·.size) = some 11 := by kernel_rfl
/-- A crash that keeps nothing. -/
theorem crash0_ (w0 w : World) (t : Nat) (T : Tp) (n : Nat) (h : Tw Ee w0 w t T) (hv : Tv T n) (hn : n ≤ 150) : Calls Tryz.prog 11 #[.pointer (some ⟨t, 0, none⟩), .slice none 0 0] w fun en w' => en = .returned (.tuple #[]) ∧ Tw Ee w0 w' t (crT T []) :=
  tcrash_ w0 w t T n h hv hn none 0 0 [] ⟨rfl, .inl rfl⟩ (fun ad e => by cases e) (by omega)
end Go.Proofs.YtblcpdffiafgnaaGreatDoor
