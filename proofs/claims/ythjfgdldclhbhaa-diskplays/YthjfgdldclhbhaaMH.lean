import Derived.Test.YthjfgdldclhbhaaMF
namespace Go.Proofs.Ythjfgdldclhbhaa
set_option maxRecDepth 100000
open Go.RowKit Go.Shelf
set_option linter.unusedVariables false

/-- Nothing is armed, and the power is on. -/
structure Clean (s : St) : Prop where
  on : s.on = true
  F : ∀ x, s.F x = 0
theorem Clean.opE {s : St} (h : Clean s) : Go.Proofs.Ythjfgdldclhbhaa.opE s = 0 := by
  unfold Go.Proofs.Ythjfgdldclhbhaa.opE
  rw [if_pos h.on, h.F, if_neg (by decide), if_neg (by decide)]
theorem Clean.opS {s : St} (h : Clean s) : Go.Proofs.Ythjfgdldclhbhaa.opS s = { s with c := s.c + 1 } := by
  unfold Go.Proofs.Ythjfgdldclhbhaa.opS
  rw [if_pos h.on, h.F]
  have := h.on
  obtain ⟨n, S, P, F, c, on, k⟩ := s
  simp only at this
  subst this
  rfl
/-- A write by hand. -/
structure Pv where
  I : Int
  A : Option Addr
  N : Nat
  C : Nat
  D : List Int
structure Pv.Ok (x : Pv) (w : World) : Prop where
  b : Bs w x.A x.N x.D
  n : x.N ≤ 140737488355328
  i : -9223372036854775808 ≤ x.I ∧ x.I ≤ 9223372036854775807
def Pv.op (x : Pv) : Ov := ⟨2, x.I, false, x.A, x.N, x.C, x.D, none, 0, 0, [], none, 0, 0, []⟩
theorem Pv.Ok.op {x : Pv} {w : World} (h : x.Ok w) : x.op.Ok w := ⟨⟨h.b, h.n, ⟨rfl, .inl rfl⟩, by show 0 * 16 ≤ _; omega, ⟨rfl, .inl rfl⟩, by show 0 ≤ _; omega⟩, h.i⟩
def IsPuts (w : World) (a : Option Addr) (n : Nat) (O : Nat → Pv) : Prop :=
  n = 0 ∨ ∃ b off, a = some ⟨b, off, none⟩ ∧ ∀ i, i < n → (w.cell? ⟨b, off + i * 2, none⟩ = some (.int .i64 (O i).I) ∧ w.cell? ⟨b, off + i * 2 + 1, none⟩ = some (.slice (O i).A (O i).N (O i).C)) ∧ (O i).Ok w
theorem IsPuts.cells {w wx : World} {a : Option Addr} {n j : Nat} {O : Nat → Pv} (h : IsPuts w a n O) (hj : j < n) (hb : Below w.heap.size w wx) : ∃ b off, a = some ⟨b, off, none⟩ ∧ wx.cell? ⟨b, off + j * 2, none⟩ = some (.int .i64 (O j).I) ∧ wx.cell? ⟨b, off + j * 2 + 1, none⟩ = some (.slice (O j).A (O j).N (O j).C) := by
  rcases h with h0 | ⟨b, off, e, hc⟩
  · omega
  · obtain ⟨⟨c0, c1⟩, _⟩ := hc j hj
    have hl := World.block_lt_of_cell? w _ c0
    exact ⟨b, off, e, (hb.cell (p := ⟨b, off + j * 2, none⟩) hl).trans c0, (hb.cell (p := ⟨b, off + j * 2 + 1, none⟩) hl).trans c1⟩
theorem IsPuts.ok {w : World} {a : Option Addr} {n j : Nat} {O : Nat → Pv} (h : IsPuts w a n O) (hj : j < n) : (O j).Ok w := by
  rcases h with h0 | ⟨b, off, e, hc⟩
  · omega
  · exact (hc j hj).2
theorem pv_fol {x : Pv} {w : World} {s : St} (hx : x.Ok w) (h : Clean s) (hn : s.n = 32) : Clean (x.op.fol s) ∧ (x.op.fol s).P.length = s.P.length + 1 ∧ (x.op.fol s).c = s.c + 1 ∧ (x.op.fol s).k = s.k := by
  have hl := plc_lt x.I
  have hz := (pad_sec hx.b.2.1).1
  have e : x.op.fol s = { opS s with P := s.P ++ [((plc x.I : Int).toNat, pad x.D)] } := by
    unfold Ov.fol folS Pv.op
    rw [if_neg (show ¬ (2 : Int) = 1 by decide), if_pos (.inl rfl)]
    show wrS s (plc x.I) (pad x.D) = _
    unfold wrS
    rw [if_pos ⟨by omega, by rw [hn]; omega, hz⟩, if_pos h.opE]
  rw [e, h.opS]
  exact ⟨⟨h.on, h.F⟩, by simp, rfl, rfl⟩
def opK (K : Int) (Ka : Option Addr) (Kn Kc : Nat) (ks : List Bool) : Ov := ⟨K, 0, false, none, 0, 0, [], none, 0, 0, [], Ka, Kn, Kc, ks⟩
theorem bs_nil (w : World) : Bs w none 0 [] := ⟨rfl, fun z hz => by simp at hz, .inl rfl⟩
theorem opK_ok {K : Int} {Ka : Option Addr} {Kn Kc : Nat} {ks : List Bool} {w : World} (h : Bl w Ka Kn ks) (hn : Kn ≤ 140737488355328) : (opK K Ka Kn Kc ks).Ok w := ⟨⟨bs_nil w, by show 0 ≤ _; omega, ⟨rfl, .inl rfl⟩, by show 0 * 16 ≤ _; omega, h, hn⟩, by show _ ≤ (0 : Int) ∧ (0 : Int) ≤ _; omega⟩
theorem op4_fol {s : St} (h : Clean s) : Clean ((opK 4 none 0 0 []).fol s) ∧ ((opK 4 none 0 0 []).fol s).P = [] ∧ ((opK 4 none 0 0 []).fol s).c = s.c + 1 ∧ ((opK 4 none 0 0 []).fol s).k = s.k := by
  have e : (opK 4 none 0 0 []).fol s = { opS s with S := layA s.S s.P, P := [] } := by
    unfold Ov.fol folS opK
    rw [if_neg (show ¬ (4 : Int) = 1 by decide), if_neg (show ¬ ((4 : Int) = 2 ∨ (4 : Int) = 3) by decide), if_pos rfl]
    unfold flS
    rw [if_pos h.opE]
  rw [e, h.opS]
  exact ⟨⟨h.on, h.F⟩, rfl, rfl, rfl⟩
theorem op6_fol {s : St} (Ka : Option Addr) (Kn Kc : Nat) (ks : List Bool) : (opK 6 Ka Kn Kc ks).fol s = crS s ks := by
  unfold Ov.fol folS opK
  rw [if_neg (show ¬ (6 : Int) = 1 by decide), if_neg (show ¬ ((6 : Int) = 2 ∨ (6 : Int) = 3) by decide), if_neg (show ¬ (6 : Int) = 4 by decide), if_neg (show ¬ (6 : Int) = 5 by decide), if_pos rfl]
/-- A Crash that is asked where nothing pends, with flags of one's own. -/
theorem fol6n_ (w0 w : World) (d g : Nat) (s : St) (Q : Nat → Prop) (Ka : Option Addr) (Kn Kc : Nat) (ks : List Bool) (h : Sy w0 w d s Q g) (hP : s.P = []) (hk : Bl w Ka Kn ks) (hkq : ∀ ad, Ka = some ad → 0 < Kn → ¬ Q ad.block) (hkn : Kn ≤ 140737488355328) :
    Calls Try.prog 25 #[.pointer (some ⟨g, 0, none⟩), .pointer (some ⟨d, 0, none⟩), .agg #[.int .i64 6, .int .i64 0, .bool false, .slice none 0 0, .slice none 0 0, .slice Ka Kn Kc]] w fun e w' => e = .returned (.bool true) ∧ ∃ Q', Sy w0 w' d (crS s ks) Q' g := by
  have BA : Below w.heap.size w (w.alloc (.cells #[.int .i64 6, .int .i64 0, .bool false, .slice none 0 0, .slice none 0 0, .slice Ka Kn Kc] 34)) := (Below.refl _ _).alloc (Nat.le_refl _) _
  have om : Om (w.alloc (.cells #[.int .i64 6, .int .i64 0, .bool false, .slice none 0 0, .slice none 0 0, .slice Ka Kn Kc] 34)) w.heap.size 6 0 false (.slice none 0 0) (.slice none 0 0) (.slice Ka Kn Kc) := heap_alloc_new w _
  have h1 := h.below BA
  have nqo : ¬ Q w.heap.size := fun hq => by have := h.dev.lt _ hq; omega
  have kp := fun w => place_ 0 w (by decide)
  have hpl := plc_lt 0
  have HS := hid h1
  have b0 := om.c0
  have b1 := om.c1
  have b5 := om.c5
  have HOM := hid om
  obtain ⟨p, HPP⟩ : ∃ p, Hid (plc 0 = p) := ⟨_, rfl⟩
  rw [HPP.out] at hpl
  simp only [HPP.out] at kp
  have hn := HS.out.n
  have kc := crash_ d s Q Ka Kn Kc ks _ HS.out.dev (by rw [hP]; decide) (hk.below BA) hkq hkn
  clear h h1 om BA
  go_enter Try.func25, Try.ntmps25
  go_wp2_with fail
  refine (kp _).mono ?_
  rintro e w' ⟨rfl, hw⟩
  obtain rfl := hw.symm
  clear hw kp
  go_wp2_with fail
  refine kc.mono ?_
  rintro e w2 ⟨rfl, D2, F2⟩
  obtain ⟨cur0, pa, pc, Il, M0⟩ := HS.out.md
  have hlo : ∀ b, (fun b => Q b ∨ ((w.alloc (.cells #[.int .i64 6, .int .i64 0, .bool false, .slice none 0 0, .slice none 0 0, .slice Ka Kn Kc] 34)).heap.size ≤ b ∧ b < w2.heap.size)) b → w0.heap.size ≤ b := fun b hb => by
    rcases hb with hb | hb
    · exact HS.out.lo b hb
    · have := HS.out.bel.size
      omega
  have M2 := M0.keep (w' := w2) (R := fun b => w0.heap.size ≤ b ∧ ¬ (fun b => Q b ∨ ((w.alloc (.cells #[.int .i64 6, .int .i64 0, .bool false, .slice none 0 0, .slice none 0 0, .slice Ka Kn Kc] 34)).heap.size ≤ b ∧ b < w2.heap.size)) b) (fun b hb hl => F2.same b hl hb.2) (fun b hb hl => ⟨hb.1, fun hq => by
    rcases hq with hq | hq
    · exact hb.2 hq
    · omega⟩)
  have B2 := HS.out.bel.trans (F2.under HS.out.bel.size HS.out.lo)
  have O2 := HOM.out.at (F2.same _ HOM.out.lt nqo)
  generalize (fun b => Q b ∨ ((w.alloc (.cells #[.int .i64 6, .int .i64 0, .bool false, .slice none 0 0, .slice none 0 0, .slice Ka Kn Kc] 34)).heap.size ≤ b ∧ b < w2.heap.size)) = Q2 at *
  have hIl : Il = [] := by
    have := M0.ip
    rw [hP] at this
    cases Il with
    | nil => rfl
    | cons => simp at this
  subst hIl
  have d5 := O2.c5
  have c32 := M2.c32
  have f32 := M2.fz 32
  have HLL : Hid (layA s.S (keepL s.P ks) = s.S) := by show _ = _; rw [hP, keepL_nil']; rfl
  have MN := M2.clr
  have G3 := grown_set (grown_refl w2 (some g)) 32 (.slice none 0 0)
  have DN := D2.turned G3 M2.ng.2
  have BN := bel_turned B2 G3 M2.ng.1
  have SF : Hid (Sy w0 (w2.setCell ⟨g, 32, none⟩ (.slice none 0 0)) d (crS s ks) Q2 g) := by
    have MD : Md (w2.setCell ⟨g, 32, none⟩ (.slice none 0 0)) g (layA s.S (keepL s.P ks)) [] (fun b => w0.heap.size ≤ b ∧ ¬ Q2 b) := by
      rw [HLL.out]
      exact ⟨_, _, _, _, MN⟩
    exact ⟨DN, MD, hlo, BN, hn⟩
  clear kc D2 F2 M0 M2 O2 HOM b5 b0 b1 MN G3 DN BN B2 HS hk
  go_wp2_with fail
  go_loopw [15] (fun i wr => i = .int .i64 0 ∧ wr = w2) (fun _ _ => 0)
  case atStart => exact ⟨rfl, rfl⟩
  case round =>
    obtain ⟨rfl, rfl⟩ := hrel
    go_wp2_with fail
    go_ret
    exact ⟨rfl, Q2, SF.out⟩
end Go.Proofs.Ythjfgdldclhbhaa
