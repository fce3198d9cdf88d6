import Derived.Test.YthjfgdldclhbhaaMD
namespace Go.Proofs.Ythjfgdldclhbhaa
set_option maxRecDepth 100000
open Go.RowKit Go.Shelf
set_option linter.unusedVariables false

/-- An Op's parts. -/
structure Ov where
  K : Int
  I : Int
  sc : Bool
  Da : Option Addr
  Dn : Nat
  Dc : Nat
  D : List Int
  Fa : Option Addr
  Fn : Nat
  Fc : Nat
  fs : List (Int × Int)
  Ka : Option Addr
  Kn : Nat
  Kc : Nat
  ks : List Bool
def Ov.val (x : Ov) : Value := .agg #[.int .i64 x.K, .int .i64 x.I, .bool x.sc, .slice x.Da x.Dn x.Dc, .slice x.Fa x.Fn x.Fc, .slice x.Ka x.Kn x.Kc]
def Ov.fol (x : Ov) (s : St) : St := folS s x.K x.I x.D x.fs x.ks
structure Ov.Ok (x : Ov) (w : World) : Prop where
  o : OpIn w x.Da x.Dn x.Dc x.D x.Fa x.Fn x.Fc x.fs x.Ka x.Kn x.Kc x.ks
  i : -9223372036854775808 ≤ x.I ∧ x.I ≤ 9223372036854775807
theorem follows_ (w0 w : World) (d g : Nat) (s : St) (Q : Nat → Prop) (x : Ov) (h : Sy w0 w d s Q g) (ho : x.Ok w0) (hc : s.c ≤ 100000) (hp : s.P.length ≤ 100000) (hk : s.k ≤ 100000) :
    Calls Try.prog 25 #[.pointer (some ⟨g, 0, none⟩), .pointer (some ⟨d, 0, none⟩), .agg #[.int .i64 x.K, .int .i64 x.I, .bool x.sc, .slice x.Da x.Dn x.Dc, .slice x.Fa x.Fn x.Fc, .slice x.Ka x.Kn x.Kc]] w fun e w' => e = .returned (.bool true) ∧ ∃ Q', Sy w0 w' d (x.fol s) Q' g := by
  obtain ⟨K, I, sc, Da, Dn, Dc, D, Fa, Fn, Fc, fs, Ka, Kn, Kc, ks⟩ := x
  obtain ⟨ho, hI⟩ := ho
  simp only at ho hI
  unfold Ov.fol
  show Calls _ _ #[_, _, .agg #[.int .i64 K, .int .i64 I, .bool sc, .slice Da Dn Dc, .slice Fa Fn Fc, .slice Ka Kn Kc]] w fun e w' => e = .returned (.bool true) ∧ ∃ Q', Sy w0 w' d (folS s K I D fs ks) Q' g
  by_cases k1 : K = 1
  · subst k1
    rw [show folS s 1 I D fs ks = rdS s (plc I) from by unfold folS; rw [if_pos rfl]]
    exact fol1_ w0 w d g s Q I sc Da Dn Dc D Fa Fn Fc fs Ka Kn Kc ks h ho hI hc hp hk
  by_cases k2 : K = 2
  · subst k2
    rw [show folS s 2 I D fs ks = wrS s (plc I) (pad D) from by unfold folS; rw [if_neg (by decide), if_pos (.inl rfl)]]
    exact fol2_ w0 w d g s Q I sc Da Dn Dc D Fa Fn Fc fs Ka Kn Kc ks h ho hI hc hp hk
  by_cases k3 : K = 3
  · subst k3
    rw [show folS s 3 I D fs ks = wrS s (plc I) (pad D) from by unfold folS; rw [if_neg (by decide), if_pos (.inr rfl)]]
    exact fol3_ w0 w d g s Q I sc Da Dn Dc D Fa Fn Fc fs Ka Kn Kc ks h ho hI hc hp hk
  by_cases k4 : K = 4
  · subst k4
    rw [show folS s 4 I D fs ks = flS s from by unfold folS; rw [if_neg (by decide), if_neg (by decide), if_pos rfl]]
    exact fol4_ w0 w d g s Q I sc Da Dn Dc D Fa Fn Fc fs Ka Kn Kc ks h ho hI hc hp hk
  by_cases k5 : K = 5
  · subst k5
    rw [show folS s 5 I D fs ks = arS s fs from by unfold folS; rw [if_neg (by decide), if_neg (by decide), if_neg (by decide), if_pos rfl]]
    exact fol5_ w0 w d g s Q I sc Da Dn Dc D Fa Fn Fc fs Ka Kn Kc ks h ho hI hc hp hk
  by_cases k6 : K = 6
  · subst k6
    rw [show folS s 6 I D fs ks = crS s ks from by unfold folS; rw [if_neg (by decide), if_neg (by decide), if_neg (by decide), if_neg (by decide), if_pos rfl]]
    exact fol6_ w0 w d g s Q I sc Da Dn Dc D Fa Fn Fc fs Ka Kn Kc ks h ho hI hc hp hk
  by_cases k11 : K = 11
  · subst k11
    rw [show folS s 11 I D fs ks = { s with k := s.k + 1 } from by unfold folS; rw [if_neg (by decide), if_neg (by decide), if_neg (by decide), if_neg (by decide), if_neg (by decide), if_pos rfl]]
    exact fol11_ w0 w d g s Q I sc Da Dn Dc D Fa Fn Fc fs Ka Kn Kc ks h ho hI hc hp hk
  rw [show folS s K I D fs ks = s from by unfold folS; rw [if_neg k1, if_neg (fun h => h.elim k2 k3), if_neg k4, if_neg k5, if_neg k6, if_neg k11]]
  exact folX_ w0 w d g s Q K I sc Da Dn Dc D Fa Fn Fc fs Ka Kn Kc ks h ho hI hc hp hk (by simpa using k1) (by simpa using k2) (by simpa using k3) (by simpa using k4) (by simpa using k5) (by simpa using k6) (by simpa using k11)
/-- What a call may raise. -/
theorem fol_le (x : Ov) (s : St) : (x.fol s).c ≤ s.c + 1 ∧ (x.fol s).P.length ≤ s.P.length + 1 ∧ (x.fol s).k ≤ s.k + 1 := by
  unfold Ov.fol folS
  have o1 := opS_c s
  have o2 := opS_P s
  have o3 := opS_k s
  split
  · unfold rdS
    split
    · exact ⟨o1, by rw [o2]; omega, by rw [o3]; omega⟩
    · exact ⟨by omega, by omega, by omega⟩
  split
  · unfold wrS
    split
    · split
      · exact ⟨o1, by simp, by show (opS s).k ≤ _; rw [o3]; omega⟩
      · exact ⟨o1, by rw [o2]; omega, by rw [o3]; omega⟩
    · exact ⟨by omega, by omega, by omega⟩
  split
  · unfold flS
    split
    · exact ⟨o1, by simp, by show (opS s).k ≤ _; rw [o3]; omega⟩
    · exact ⟨o1, by rw [o2]; omega, by rw [o3]; omega⟩
  split
  · unfold arS
    split
    · exact ⟨by simp, by simp, by simp⟩
    · exact ⟨by omega, by omega, by omega⟩
  split
  · unfold crS
    exact ⟨by simp, by simp, by simp⟩
  split
  · exact ⟨by simp, by simp, by simp⟩
  · exact ⟨by omega, by omega, by omega⟩
/-- A slice of Ops. -/
def IsOps (w : World) (a : Option Addr) (n : Nat) (O : Nat → Ov) : Prop :=
  n = 0 ∨ ∃ b off, a = some ⟨b, off, none⟩ ∧ ∀ i, i < n → (w.cell? ⟨b, off + i * 6, none⟩ = some (.int .i64 (O i).K) ∧ w.cell? ⟨b, off + i * 6 + 1, none⟩ = some (.int .i64 (O i).I) ∧ w.cell? ⟨b, off + i * 6 + 2, none⟩ = some (.bool (O i).sc) ∧ w.cell? ⟨b, off + i * 6 + 3, none⟩ = some (.slice (O i).Da (O i).Dn (O i).Dc) ∧ w.cell? ⟨b, off + i * 6 + 4, none⟩ = some (.slice (O i).Fa (O i).Fn (O i).Fc) ∧ w.cell? ⟨b, off + i * 6 + 5, none⟩ = some (.slice (O i).Ka (O i).Kn (O i).Kc)) ∧ (O i).Ok w
set_option maxHeartbeats 1000000 in
/-- SamePending of what is alike. -/
theorem samePending_ (a1 a2 : Option Addr) (c1 c2 B1 B2 : Nat) (J I : List It) (w : World) (o1 : w.ownsRow B1 94 2 (.slice a1 J.length c1) J.length (pcs J)) (o2 : w.ownsRow B2 94 2 (.slice a2 I.length c2) I.length (pcs I))
    (b1 : ∀ x ∈ J, Bs w (some ⟨x.g, 0, none⟩) 512 x.Z) (b2 : ∀ x ∈ I, Bs w (some ⟨x.g, 0, none⟩) 512 x.Z) (he : (J.map fun x => (x.S, x.Z)) = I.map fun x => (x.S, x.Z)) (hl : I.length ≤ 1000000) :
    Calls Try.prog 28 #[.slice a1 J.length c1, .slice a2 I.length c2] w fun e w' => e = .returned (.bool true) ∧ Drawn w w' := by
  have hlen : J.length = I.length := by have := congrArg List.length he; simpa using this
  have HE := hid he
  have H1 := hid b1
  have H2 := hid b2
  have HO1 := hid o1
  have HO2 := hid o2
  have hll : ((J.length : Int) != (I.length : Int)) = false := by simp [hlen]
  have hJ : J.length ≤ 1000000 := by omega
  have hlen2 := hid hlen
  clear he b1 b2 o1 o2 hlen
  go_enter Try.func28, Try.ntmps28
  go_wp2_with fail
  go_loopw [5, 6] (fun i _ wr => ∃ j : Nat, j ≤ J.length ∧ i = .int .i64 j ∧ Drawn w wr) (fun i _ _ => J.length - (intOf i).toNat)
  case atStart => exact ⟨0, Nat.zero_le _, rfl, ⟨rfl, rfl, rfl, rfl⟩⟩
  case round =>
    obtain ⟨j, hj, rfl, hd⟩ := hrel
    by_cases hlt : j < J.length
    · have hjI : (j : Int) < (J.length : Int) := by omega
      have hjI2 : (j : Int) < (I.length : Int) := by have := hlen2.out; omega
      obtain ⟨x, hx⟩ : ∃ x, J[j]? = some x := ⟨J[j], by simp [hlt]⟩
      obtain ⟨y, hy⟩ : ∃ y, I[j]? = some y := ⟨I[j]'(by have := hlen2.out; omega), by simp [show j < I.length from by have := hlen2.out; omega]⟩
      have hxy : x.S = y.S ∧ x.Z = y.Z := by
        have := congrArg (fun l => l[j]?) HE.out
        simp only [List.getElem?_map, hx, hy, Option.map_some] at this
        simpa using this
      obtain ⟨g1, cp1, e1, _, _, _, _, hc1⟩ := own2_cell HO1.out (by omega)
      obtain ⟨g2, cp2, e2, _, _, _, _, hc2⟩ := own2_cell HO2.out (by have := hlen2.out; omega)
      obtain ⟨rfl, -, rfl⟩ : a1 = some ⟨g1, 0, none⟩ ∧ J.length = J.length ∧ c1 = cp1 := by simpa using e1
      obtain ⟨rfl, -, rfl⟩ : a2 = some ⟨g2, 0, none⟩ ∧ I.length = I.length ∧ c2 = cp2 := by simpa using e2
      have cell_d : ∀ {p : Addr} {v : Value}, w.cell? p = some v → wr.cell? p = some v := fun h => (World.cell?_of_block (w := w) (hd.at _)).trans h
      have q0 := cell_d (hc1 _ _ (pcs_get J j x hx).1)
      have q1 := cell_d (hc1 _ _ (pcs_get J j x hx).2)
      have r0 := cell_d (hc2 _ _ (pcs_get I j y hy).1)
      have r1 := cell_d (hc2 _ _ (pcs_get I j y hy).2)
      have bx := (H1.out x (List.mem_of_getElem? hx)).drawn hd
      have bY := (H2.out y (List.mem_of_getElem? hy)).drawn hd
      rw [← hxy.2] at bY
      rw [← hxy.1] at r0
      have BX := hid bx
      have BY := hid bY
      have hb1 : g1 < wr.heap.size := World.block_lt_of_cell? wr _ q0
      have hb2 : g2 < wr.heap.size := World.block_lt_of_cell? wr _ r0
      have hss : ((x.S : Int) != (x.S : Int)) = false := by simp
      have HDR := hid hd
      clear hx hy hxy hc1 hc2 e1 e2 bx bY hlt cell_d hd
      obtain ⟨xS, xg, xc, xZ⟩ := x
      obtain ⟨yS, yg, yc, yZ⟩ := y
      simp only at *
      go_wp2_with fail
      go_region_held (fun wx => wx.cell? ⟨g1, j * 2 + 1, none⟩ = some (.slice (some ⟨xg, 0, none⟩) 512 xc) ∧ wx.cell? ⟨g2, j * 2 + 1, none⟩ = some (.slice (some ⟨yg, 0, none⟩) 512 yc)) (go_keep) (first | (go_at_call 15; refine (same_yes (some ⟨xg, 0, none⟩) (some ⟨yg, 0, none⟩) 512 xc 512 yc xZ _ (by exact BX.out) (by exact BY.out) (by decide) (by decide)).mono ?_; rintro e w2 ⟨rfl, d2⟩; have u1 := (d2.below.cell (p := ⟨g1, j * 2 + 1, none⟩) hb1).trans q1; have u2 := (d2.below.cell (p := ⟨g2, j * 2 + 1, none⟩) hb2).trans r1))
      have s0 := (d2.below.cell (p := ⟨g1, j * 2, none⟩) hb1).trans q0
      have s1 := (d2.below.cell (p := ⟨g2, j * 2, none⟩) hb2).trans r0
      have DF : Hid (Drawn w w2) := (⟨d2.os.trans HDR.out.os, d2.tape.trans HDR.out.tape, d2.output.trans HDR.out.output, d2.heap.trans HDR.out.heap⟩ : Drawn w w2)
      clear d2 q0 q1 r0 r1 HDR BX BY u1 u2
      go_wp2_with fail
      go_quiet (fail)
      go_wp2_with fail
      go_roundw
      case rel => exact ⟨j + 1, by omega, by go_num, ⟨DF.out.os, DF.out.tape, DF.out.output, DF.out.heap⟩⟩
      case measure => simp [intOf]; omega
    · have hjI : ¬ (j : Int) < (J.length : Int) := by omega
      go_wp2_with fail
      go_ret
      exact ⟨rfl, hd⟩
end Go.Proofs.Ythjfgdldclhbhaa
