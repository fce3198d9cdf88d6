import Derived.Test.YtbkeejapongmlaaGreatDoorLX5
import Derived.Test.YtbkeejapongmlaaGreatDoorLD
import Derived.Deep.RegionHeld
namespace Go.Proofs.YtbkeejapongmlaaGreatDoor
set_option maxRecDepth 100000
open Go.RowKit
set_option linter.unusedVariables false

def Ui (w : World) (p : Nat) (x : Int) : Prop := w.heap[p]? = some (.cells #[.int .i64 x] 3 (0, 0))
theorem Ui.c {w : World} {p : Nat} {x : Int} (h : Ui w p x) : w.cell? ⟨p, 0, none⟩ = some (.int .i64 x) := (cell_of_row w p 0 _ _ (0, 0) h).trans rfl
theorem cell_drewL (w : World) (p : Addr) : w.drew.cell? p = w.cell? p := rfl
theorem set8_cellL {w : World} {g : Nat} {p : Addr} (h : p.block ≠ g) (v0 v1 v2 v3 v4 v5 v6 v7 : Value) : ((((((((w.setCell ⟨g, 0, none⟩ v0).setCell ⟨g, 1, none⟩ v1).setCell ⟨g, 2, none⟩ v2).setCell ⟨g, 3, none⟩ v3).setCell ⟨g, 4, none⟩ v4).setCell ⟨g, 5, none⟩ v5).setCell ⟨g, 6, none⟩ v6).setCell ⟨g, 7, none⟩ v7).drew.cell? p = w.cell? p := (cell_drewL _ _).trans (World.cell?_of_block (set8_other h v0 v1 v2 v3 v4 v5 v6 v7))
theorem Lm.drewn {w : World} {g : Nat} {a : Option Addr} {m c : Nat} {S C N D E s n : Int} (h : Lm w g a m c S C N D E s n) : Lm w.drew g a m c S C N D E s n := h
theorem heap_drewL (w : World) (j : Nat) : w.drew.heap[j]? = w.heap[j]? := rfl
theorem Lm.set8D {w : World} {g : Nat} {a : Option Addr} {m c : Nat} {S C N D E s n : Int} (h : Lm w g a m c S C N D E s n) (a' : Option Addr) (m' c' : Nat) (S' C' N' D' E' s' n' : Int) : Lm ((((((((w.setCell ⟨g, 0, none⟩ (.slice a' m' c')).setCell ⟨g, 1, none⟩ (.int .i64 S')).setCell ⟨g, 2, none⟩ (.int .i64 C')).setCell ⟨g, 3, none⟩ (.int .i64 N')).setCell ⟨g, 4, none⟩ (.int .u64 D')).setCell ⟨g, 5, none⟩ (.int .u64 E')).setCell ⟨g, 6, none⟩ (.int .i64 s')).setCell ⟨g, 7, none⟩ (.int .i64 n')).drew g a' m' c' S' C' N' D' E' s' n' := (Lm.set8 h a' m' c' S' C' N' D' E' s' n').drewn
theorem set8_otherD {w : World} {g j : Nat} (h : j ≠ g) (v0 v1 v2 v3 v4 v5 v6 v7 : Value) : ((((((((w.setCell ⟨g, 0, none⟩ v0).setCell ⟨g, 1, none⟩ v1).setCell ⟨g, 2, none⟩ v2).setCell ⟨g, 3, none⟩ v3).setCell ⟨g, 4, none⟩ v4).setCell ⟨g, 5, none⟩ v5).setCell ⟨g, 6, none⟩ v6).setCell ⟨g, 7, none⟩ v7).drew.heap[j]? = w.heap[j]? := (heap_drewL _ _).trans (set8_other h v0 v1 v2 v3 v4 v5 v6 v7)
theorem erq_true {q : Bool} (h : erq q = 0) : q = true := by cases q; exact absurd h (by decide); rfl
theorem frE_ag (k : List Int) (S C N D E s n : Int) : frE C N = if abN ⟨k, S, C, N, D, E, s, n⟩ ≤ 2147483647 then 0 else 168 := rfl
theorem frE_zero {C N : Int} (h : frE C N = 0) : frG C N = if C < N then N + 1 else C + 1 := by
  unfold frE at h
  unfold frG
  generalize (if C < N then N + 1 else C + 1) = M at *
  by_cases hh : M ≤ 2147483647
  · rw [if_pos hh]
  · rw [if_neg hh] at h
    exact absurd h (by decide)
set_option maxHeartbeats 4000000 in
theorem lagain_ (a : Option Addr) (m c : Nat) (k : List Int) (S C N D E s n : Int) (w : World) (h : Li w a m k S C N D E s n) :
    Calls Tryz.prog 6 #[.agg #[.slice a m c, .int .i64 S, .int .i64 C, .int .i64 N, .int .u64 D, .int .u64 E, .int .i64 s, .int .i64 n]] w fun e w' => Rl2 w (agnL ⟨k, S, C, N, D, E, s, n⟩) (.int .i64 (agnE ⟨k, S, C, N, D, E, s, n⟩)) e w' := by
  have hmf : ∀ (fn : Fn) (first cap : Array Value) (w : World), (Instr.makeFunc fn first cap).run Tryz.prog w = .ok (.func fn first cap) w := fun _ _ _ _ => rfl
  obtain ⟨W, HW⟩ : ∃ y, Hid (((w.alloc (.cells #[.slice a m c, .int .i64 S, .int .i64 C, .int .i64 N, .int .u64 D, .int .u64 E, .int .i64 s, .int .i64 n] 27)).alloc (.cells #[.slice none 0 0, .int .i64 0, .int .i64 0, .int .i64 0, .int .u64 0, .int .u64 0, .int .i64 0, .int .i64 0] 27)) = y) := ⟨_, rfl⟩
  obtain ⟨gg, Hg⟩ : ∃ y, Hid (w.heap.size = y) := ⟨_, rfl⟩
  have HWS : Hid (W.heap.size = gg + 2) := by show _ = _; rw [← HW.out, ← Hg.out]; simp
  have HBW : Hid (Below w.heap.size w W) := by
    show Below _ _ _
    rw [← HW.out]
    exact ((Below.refl _ _).alloc (by first | exact Nat.le_refl _ | (simp only [World.size_alloc]; omega)) _).alloc (by first | exact Nat.le_refl _ | (simp only [World.size_alloc]; omega)) _
  have HX0 : Hid (Lm W gg a m c S C N D E s n) := by
    show Lm W gg a m c S C N D E s n
    have h0 := heap_alloc_new w (.cells #[.slice a m c, .int .i64 S, .int .i64 C, .int .i64 N, .int .u64 D, .int .u64 E, .int .i64 s, .int .i64 n] 27)
    have h1 := ((Below.refl ((w.alloc (.cells #[.slice a m c, .int .i64 S, .int .i64 C, .int .i64 N, .int .u64 D, .int .u64 E, .int .i64 s, .int .i64 n] 27)).heap.size) _).alloc (by first | exact Nat.le_refl _ | (simp only [World.size_alloc]; omega)) (.cells #[.slice none 0 0, .int .i64 0, .int .i64 0, .int .i64 0, .int .u64 0, .int .u64 0, .int .i64 0, .int .i64 0] 27)).block w.heap.size (by simp only [World.size_alloc]; omega) |>.trans h0
    have h2 := congrArg (fun z : World => z.heap[w.heap.size]?) HW.out
    have h3 := h2.symm.trans h1
    simp only [Hg.out] at h3
    exact h3
  have HX1 : Hid (Lm W (gg + 1) none 0 0 0 0 0 0 0 0 0) := by
    show Lm W (gg + 1) none 0 0 0 0 0 0 0 0 0
    have h0 := heap_alloc_new (w.alloc (.cells #[.slice a m c, .int .i64 S, .int .i64 C, .int .i64 N, .int .u64 D, .int .u64 E, .int .i64 s, .int .i64 n] 27)) (.cells #[.slice none 0 0, .int .i64 0, .int .i64 0, .int .i64 0, .int .u64 0, .int .u64 0, .int .i64 0, .int .i64 0] 27)
    have h1 := (Below.refl (((w.alloc (.cells #[.slice a m c, .int .i64 S, .int .i64 C, .int .i64 N, .int .u64 D, .int .u64 E, .int .i64 s, .int .i64 n] 27)).alloc (.cells #[.slice none 0 0, .int .i64 0, .int .i64 0, .int .i64 0, .int .u64 0, .int .u64 0, .int .i64 0, .int .i64 0] 27)).heap.size) _).block (w.alloc (.cells #[.slice a m c, .int .i64 S, .int .i64 C, .int .i64 N, .int .u64 D, .int .u64 E, .int .i64 s, .int .i64 n] 27)).heap.size (by simp only [World.size_alloc]; omega) |>.trans h0
    have h2 := congrArg (fun z : World => z.heap[(w.alloc (.cells #[.slice a m c, .int .i64 S, .int .i64 C, .int .i64 N, .int .u64 D, .int .u64 E, .int .i64 s, .int .i64 n] 27)).heap.size]?) HW.out
    have h3 := h2.symm.trans h1
    simp only [World.size_alloc, Hg.out] at h3
    exact h3
  have HLI := hid (h.on HBW.out)
  have hkl := hid h.k.1
  obtain ⟨vq, hv⟩ : ∃ q, lok m S C N s n = q := ⟨_, rfl⟩
  have HLK : Hid (lokL ⟨k, S, C, N, D, E, s, n⟩ = vq) := by show lok k.length S C N s n = vq; rw [hkl.out]; exact hv
  have HBD : Hid (vq = true → 1 ≤ C ∧ C ≤ 2147483647 ∧ 0 ≤ N ∧ N ≤ 2147483647) := fun hvt => by
    have hh := lokL_of (HLK.out.trans hvt)
    simp only at hh
    omega
  obtain ⟨ee, HE⟩ : ∃ z, Hid (agnE ⟨k, S, C, N, D, E, s, n⟩ = z) := ⟨_, rfl⟩
  rw [HE.out]
  obtain ⟨R, HR⟩ : ∃ R, Hid (agnL ⟨k, S, C, N, D, E, s, n⟩ = R) := ⟨_, rfl⟩
  rw [HR.out]
  have HRR : Hid (R = if vq && decide (frE C N = 0) then ⟨k, S, frG C N, N, 0, 0, s, n⟩ else lzero) := by
    show _ = _
    rw [← HR.out]
    unfold agnL agnB
    rw [HLK.out]
    cases vq
    · rfl
    · have e1 : (decide (abN ⟨k, S, C, N, D, E, s, n⟩ ≤ 2147483647)) = decide (frE C N = 0) := by
        rw [frE_ag k S C N D E s n]
        by_cases hh : abN ⟨k, S, C, N, D, E, s, n⟩ ≤ 2147483647
        · rw [if_pos hh, decide_eq_true hh]; rfl
        · rw [if_neg hh, decide_eq_false hh]; rfl
      rw [e1]
      by_cases hz : frE C N = 0
      · rw [decide_eq_true hz]
        have e2 : frG C N = abN ⟨k, S, C, N, D, E, s, n⟩ := frE_zero hz
        rw [e2]
      · rw [decide_eq_false hz]
        rfl
  have HEE : Hid (ee = if vq then frE C N else 2) := by
    show _ = _
    rw [← HE.out]
    unfold agnE
    rw [HLK.out]
    cases vq <;> rfl
  have kch := lchangedA_ a m c k S C N D E s n W HLI.out (fun _ => False) (fun _ => True) (fun _ hh => hh.elim) (fun _ _ _ _ => trivial) vq hv (fun _ => trivial) (frE C N) (frG C N) (N) (0) (0) (s) (n) (fun hvt wq qa qc hb hl => (lagain1_ W.heap.size qa 32 qc S C N D E s n wq hl (by have := HBD.out hvt; omega) (by have := HBD.out hvt; omega) (by have := HBD.out hvt; omega) (by have := HBD.out hvt; omega)).mono fun e w' hh => ⟨hh.1, fun _ => hh.2.1, hh.2.2.weak fun _ _ h3 => .inl h3, trivial⟩) R ee HRR.out HEE.out
  obtain ⟨k1, S1, C1, N1, D1, E1, s1, n1⟩ := R
  obtain ⟨M1, HM1⟩ : ∃ z, Hid (k1.length = z) := ⟨_, rfl⟩
  clear h hv
  go_enter Tryz.func6, Tryz.ntmps6
  go_wp2_with fail
  rw [HW.out, Hg.out]
  refine kch.mono ?_
  rintro e1 w1 ⟨⟨ka, kc, rfl, vs⟩, f1, j1⟩
  simp only [HM1.out] at vs
  simp only [HM1.out]
  have HF1 := hid (f1.bel fun _ _ hh => hh)
  have HZ1 := hid (HX1.out.at (w' := w1) (HF1.out.block _ HX1.out.lt))
  have HVS := hid vs
  have HS1 : Hid (gg + 2 ≤ w1.heap.size) := by have := HF1.out.size; have := HWS.out; show _ ≤ _; omega
  clear kch f1 vs HW
  go_wp2_with (refine wpList_sln rfl rfl _ _ rfl (gg + 1) ka M1 kc S1 C1 N1 D1 E1 s1 n1 rfl rfl (by with_reducible exact HZ1.out) ?_)
  refine bodyPost_ret (v := .tuple #[.agg #[.slice ka M1 kc, .int .i64 S1, .int .i64 C1, .int .i64 N1, .int .u64 D1, .int .u64 E1, .int .i64 s1, .int .i64 n1], .int .i64 ee]) ?_ rfl ?_
  · exact results_ln rfl _ _ (gg + 1) ka M1 kc S1 C1 N1 D1 E1 s1 n1 _ rfl rfl (HZ1.out.row ka M1 kc S1 C1 N1 D1 E1 s1 n1)
  · refine ⟨_, rfl, ka, kc, by rw [HM1.out], ?_, ?_⟩
    · rw [HM1.out]
      exact (HVS.out.wide (V' := fun x => w.heap.size ≤ x ∧ x ≠ (gg + 1)) fun x _ hx => ⟨by have := HWS.out; have := Hg.out; omega, by have := HWS.out; omega⟩).step (fun x _ hx _ => setRow_other _ _ _ _ hx.2) |>.wide fun x _ hx => hx.1
    · exact bel_row (bel_bel HBW.out HBW.out.size HF1.out) (by have := Hg.out; omega) _
set_option maxHeartbeats 4000000 in
theorem lpropose_ (a : Option Addr) (m c : Nat) (k : List Int) (S C N D E s n : Int) (w : World) (h : Li w a m k S C N D E s n) :
    Calls Tryz.prog 7 #[.agg #[.slice a m c, .int .i64 S, .int .i64 C, .int .i64 N, .int .u64 D, .int .u64 E, .int .i64 s, .int .i64 n]] w fun e w' => Rl3 w (prpL ⟨k, S, C, N, D, E, s, n⟩) (.int .i64 (prpG ⟨k, S, C, N, D, E, s, n⟩)) (.int .i64 (agnE ⟨k, S, C, N, D, E, s, n⟩)) e w' := by
  have hmf : ∀ (fn : Fn) (first cap : Array Value) (w : World), (Instr.makeFunc fn first cap).run Tryz.prog w = .ok (.func fn first cap) w := fun _ _ _ _ => rfl
  obtain ⟨W, HW⟩ : ∃ y, Hid (((w.alloc (.cells #[.slice a m c, .int .i64 S, .int .i64 C, .int .i64 N, .int .u64 D, .int .u64 E, .int .i64 s, .int .i64 n] 27)).alloc (.cells #[.slice none 0 0, .int .i64 0, .int .i64 0, .int .i64 0, .int .u64 0, .int .u64 0, .int .i64 0, .int .i64 0] 27)) = y) := ⟨_, rfl⟩
  obtain ⟨gg, Hg⟩ : ∃ y, Hid (w.heap.size = y) := ⟨_, rfl⟩
  have HWS : Hid (W.heap.size = gg + 2) := by show _ = _; rw [← HW.out, ← Hg.out]; simp
  have HBW : Hid (Below w.heap.size w W) := by
    show Below _ _ _
    rw [← HW.out]
    exact ((Below.refl _ _).alloc (by first | exact Nat.le_refl _ | (simp only [World.size_alloc]; omega)) _).alloc (by first | exact Nat.le_refl _ | (simp only [World.size_alloc]; omega)) _
  have HX0 : Hid (Lm W gg a m c S C N D E s n) := by
    show Lm W gg a m c S C N D E s n
    have h0 := heap_alloc_new w (.cells #[.slice a m c, .int .i64 S, .int .i64 C, .int .i64 N, .int .u64 D, .int .u64 E, .int .i64 s, .int .i64 n] 27)
    have h1 := ((Below.refl ((w.alloc (.cells #[.slice a m c, .int .i64 S, .int .i64 C, .int .i64 N, .int .u64 D, .int .u64 E, .int .i64 s, .int .i64 n] 27)).heap.size) _).alloc (by first | exact Nat.le_refl _ | (simp only [World.size_alloc]; omega)) (.cells #[.slice none 0 0, .int .i64 0, .int .i64 0, .int .i64 0, .int .u64 0, .int .u64 0, .int .i64 0, .int .i64 0] 27)).block w.heap.size (by simp only [World.size_alloc]; omega) |>.trans h0
    have h2 := congrArg (fun z : World => z.heap[w.heap.size]?) HW.out
    have h3 := h2.symm.trans h1
    simp only [Hg.out] at h3
    exact h3
  have HX1 : Hid (Lm W (gg + 1) none 0 0 0 0 0 0 0 0 0) := by
    show Lm W (gg + 1) none 0 0 0 0 0 0 0 0 0
    have h0 := heap_alloc_new (w.alloc (.cells #[.slice a m c, .int .i64 S, .int .i64 C, .int .i64 N, .int .u64 D, .int .u64 E, .int .i64 s, .int .i64 n] 27)) (.cells #[.slice none 0 0, .int .i64 0, .int .i64 0, .int .i64 0, .int .u64 0, .int .u64 0, .int .i64 0, .int .i64 0] 27)
    have h1 := (Below.refl (((w.alloc (.cells #[.slice a m c, .int .i64 S, .int .i64 C, .int .i64 N, .int .u64 D, .int .u64 E, .int .i64 s, .int .i64 n] 27)).alloc (.cells #[.slice none 0 0, .int .i64 0, .int .i64 0, .int .i64 0, .int .u64 0, .int .u64 0, .int .i64 0, .int .i64 0] 27)).heap.size) _).block (w.alloc (.cells #[.slice a m c, .int .i64 S, .int .i64 C, .int .i64 N, .int .u64 D, .int .u64 E, .int .i64 s, .int .i64 n] 27)).heap.size (by simp only [World.size_alloc]; omega) |>.trans h0
    have h2 := congrArg (fun z : World => z.heap[(w.alloc (.cells #[.slice a m c, .int .i64 S, .int .i64 C, .int .i64 N, .int .u64 D, .int .u64 E, .int .i64 s, .int .i64 n] 27)).heap.size]?) HW.out
    have h3 := h2.symm.trans h1
    simp only [World.size_alloc, Hg.out] at h3
    exact h3
  have HLI := hid (h.on HBW.out)
  have hkl := hid h.k.1
  obtain ⟨vq, hv⟩ : ∃ q, lok m S C N s n = q := ⟨_, rfl⟩
  have HLK : Hid (lokL ⟨k, S, C, N, D, E, s, n⟩ = vq) := by show lok k.length S C N s n = vq; rw [hkl.out]; exact hv
  have HBD : Hid (vq = true → 1 ≤ C ∧ C ≤ 2147483647 ∧ 0 ≤ N ∧ N ≤ 2147483647) := fun hvt => by
    have hh := lokL_of (HLK.out.trans hvt)
    simp only at hh
    omega
  obtain ⟨ee, HE⟩ : ∃ z, Hid (agnE ⟨k, S, C, N, D, E, s, n⟩ = z) := ⟨_, rfl⟩
  rw [HE.out]
  obtain ⟨R, HR⟩ : ∃ R, Hid (prpL ⟨k, S, C, N, D, E, s, n⟩ = R) := ⟨_, rfl⟩
  rw [HR.out]
  have HRR : Hid (R = if vq && decide (frE C N = 0) then ⟨k, S, C, frG C N, D, E, s, n⟩ else lzero) := by
    show _ = _
    rw [← HR.out]
    unfold prpL agnB
    rw [HLK.out]
    cases vq
    · rfl
    · have e1 : (decide (abN ⟨k, S, C, N, D, E, s, n⟩ ≤ 2147483647)) = decide (frE C N = 0) := by
        rw [frE_ag k S C N D E s n]
        by_cases hh : abN ⟨k, S, C, N, D, E, s, n⟩ ≤ 2147483647
        · rw [if_pos hh, decide_eq_true hh]; rfl
        · rw [if_neg hh, decide_eq_false hh]; rfl
      rw [e1]
      by_cases hz : frE C N = 0
      · rw [decide_eq_true hz]
        have e2 : frG C N = abN ⟨k, S, C, N, D, E, s, n⟩ := frE_zero hz
        rw [e2]
      · rw [decide_eq_false hz]
        rfl
  have HEE : Hid (ee = if vq then frE C N else 2) := by
    show _ = _
    rw [← HE.out]
    unfold agnE
    rw [HLK.out]
    cases vq <;> rfl
  have kch := lchangedP_ a m c k S C N D E s n W HLI.out (fun _ => False) (fun _ => True) (fun _ hh => hh.elim) (fun _ _ _ _ => trivial) vq hv (fun _ => trivial) (frE C N) (C) (frG C N) (D) (E) (s) (n) (fun hvt wq qa qc hb hl => (lpropose1_ W.heap.size qa 32 qc S C N D E s n wq hl (by have := HBD.out hvt; omega) (by have := HBD.out hvt; omega) (by have := HBD.out hvt; omega) (by have := HBD.out hvt; omega)).mono fun e w' hh => ⟨hh.1, fun _ => hh.2.1, hh.2.2.weak fun _ _ h3 => .inl h3, trivial⟩) R ee HRR.out HEE.out
  have HPG0 : Hid (prpG ⟨k, S, C, N, D, E, s, n⟩ = R.N) := by
    show _ = _
    rw [← HR.out]
    unfold prpG prpL
    cases agnB ⟨k, S, C, N, D, E, s, n⟩ <;> rfl
  obtain ⟨k1, S1, C1, N1, D1, E1, s1, n1⟩ := R
  obtain ⟨M1, HM1⟩ : ∃ z, Hid (k1.length = z) := ⟨_, rfl⟩
  clear h hv
  go_enter Tryz.func7, Tryz.ntmps7
  go_wp2_with fail
  rw [HW.out, Hg.out]
  refine kch.mono ?_
  rintro e1 w1 ⟨⟨ka, kc, rfl, vs⟩, f1, j1⟩
  simp only [HM1.out] at vs
  simp only [HM1.out]
  have HF1 := hid (f1.bel fun _ _ hh => hh)
  have HZ1 := hid (HX1.out.at (w' := w1) (HF1.out.block _ HX1.out.lt))
  have HVS := hid vs
  have HS1 : Hid (gg + 2 ≤ w1.heap.size) := by have := HF1.out.size; have := HWS.out; show _ ≤ _; omega
  clear kch f1 vs HW
  have HLa := hid (Lm.new w1 ka M1 kc S1 C1 N1 D1 E1 s1 n1)
  have HBa := hid (lnew w1 ka M1 kc S1 C1 N1 D1 E1 s1 n1)
  have HVa := hid (HVS.out.step (w' := w1.alloc (.cells #[.slice ka M1 kc, .int .i64 S1, .int .i64 C1, .int .i64 N1, .int .u64 D1, .int .u64 E1, .int .i64 s1, .int .i64 n1] 27)) fun x hx _ _ => HBa.out.block x hx)
  have HZ2 := hid (HZ1.out.kept HBa.out)
  obtain ⟨za, HZa⟩ : ∃ y, Hid (w1.alloc (.cells #[.slice ka M1 kc, .int .i64 S1, .int .i64 C1, .int .i64 N1, .int .u64 D1, .int .u64 E1, .int .i64 s1, .int .i64 n1] 27) = y) := ⟨_, rfl⟩
  obtain ⟨pa, HPa⟩ : ∃ y, Hid (w1.heap.size = y) := ⟨_, rfl⟩
  rw [HZa.out] at HLa HVa HZ2 HBa
  rw [HPa.out] at HLa
  go_upto_region 2 with fail
  rw [HZa.out, HPa.out]
  have y0 := HLa.out.c0
  have y1 := HLa.out.c1
  have y2 := HLa.out.c2
  have y3 := HLa.out.c3
  have y4 := HLa.out.c4
  have y5 := HLa.out.c5
  have y6 := HLa.out.c6
  have y7 := HLa.out.c7
  have HPG : Hid (prpG ⟨k, S, C, N, D, E, s, n⟩ = N1) := HPG0.out
  have hpa : pa ≠ (gg + 1) := by have := HS1.out; have := HPa.out; omega
  have zf0 := HZ2.out.fz 0
  have zf1 := HZ2.out.fz 1
  have zf2 := HZ2.out.fz 2
  have zf3 := HZ2.out.fz 3
  have zf4 := HZ2.out.fz 4
  have zf5 := HZ2.out.fz 5
  have zf6 := HZ2.out.fz 6
  have zf7 := HZ2.out.fz 7
  have zc0 := HZ2.out.c0
  have zc1 := HZ2.out.c1
  have zc2 := HZ2.out.c2
  have zc3 := HZ2.out.c3
  have zc4 := HZ2.out.c4
  have zc5 := HZ2.out.c5
  have zc6 := HZ2.out.c6
  have zc7 := HZ2.out.c7
  have t0 := (set8_cellL (w := za) (g := (gg + 1)) (p := ⟨pa, 0, none⟩) hpa (.slice ka M1 kc) (.int .i64 S1) (.int .i64 C1) (.int .i64 N1) (.int .u64 D1) (.int .u64 E1) (.int .i64 s1) (.int .i64 n1)).trans y0
  have t1 := (set8_cellL (w := za) (g := (gg + 1)) (p := ⟨pa, 1, none⟩) hpa (.slice ka M1 kc) (.int .i64 S1) (.int .i64 C1) (.int .i64 N1) (.int .u64 D1) (.int .u64 E1) (.int .i64 s1) (.int .i64 n1)).trans y1
  have t2 := (set8_cellL (w := za) (g := (gg + 1)) (p := ⟨pa, 2, none⟩) hpa (.slice ka M1 kc) (.int .i64 S1) (.int .i64 C1) (.int .i64 N1) (.int .u64 D1) (.int .u64 E1) (.int .i64 s1) (.int .i64 n1)).trans y2
  have t3 := (set8_cellL (w := za) (g := (gg + 1)) (p := ⟨pa, 3, none⟩) hpa (.slice ka M1 kc) (.int .i64 S1) (.int .i64 C1) (.int .i64 N1) (.int .u64 D1) (.int .u64 E1) (.int .i64 s1) (.int .i64 n1)).trans y3
  have t4 := (set8_cellL (w := za) (g := (gg + 1)) (p := ⟨pa, 4, none⟩) hpa (.slice ka M1 kc) (.int .i64 S1) (.int .i64 C1) (.int .i64 N1) (.int .u64 D1) (.int .u64 E1) (.int .i64 s1) (.int .i64 n1)).trans y4
  have t5 := (set8_cellL (w := za) (g := (gg + 1)) (p := ⟨pa, 5, none⟩) hpa (.slice ka M1 kc) (.int .i64 S1) (.int .i64 C1) (.int .i64 N1) (.int .u64 D1) (.int .u64 E1) (.int .i64 s1) (.int .i64 n1)).trans y5
  have t6 := (set8_cellL (w := za) (g := (gg + 1)) (p := ⟨pa, 6, none⟩) hpa (.slice ka M1 kc) (.int .i64 S1) (.int .i64 C1) (.int .i64 N1) (.int .u64 D1) (.int .u64 E1) (.int .i64 s1) (.int .i64 n1)).trans y6
  have t7 := (set8_cellL (w := za) (g := (gg + 1)) (p := ⟨pa, 7, none⟩) hpa (.slice ka M1 kc) (.int .i64 S1) (.int .i64 C1) (.int .i64 N1) (.int .u64 D1) (.int .u64 E1) (.int .i64 s1) (.int .i64 n1)).trans y7
  have HD := hid hpa
  clear hpa
  go_region_held (fun wx => wx.cell? ⟨pa, 0, none⟩ = some (.slice ka M1 kc) ∧ wx.cell? ⟨pa, 1, none⟩ = some (.int .i64 S1) ∧ wx.cell? ⟨pa, 2, none⟩ = some (.int .i64 C1) ∧ wx.cell? ⟨pa, 3, none⟩ = some (.int .i64 N1) ∧ wx.cell? ⟨pa, 4, none⟩ = some (.int .u64 D1) ∧ wx.cell? ⟨pa, 5, none⟩ = some (.int .u64 E1) ∧ wx.cell? ⟨pa, 6, none⟩ = some (.int .i64 s1) ∧ wx.cell? ⟨pa, 7, none⟩ = some (.int .i64 n1)) (first | go_keep | exact ⟨t0, t1, t2, t3, t4, t5, t6, t7⟩) (fail)
  all_goals (
    go_wp2_with fail
    refine bodyPost_ret (v := .tuple #[.agg #[.slice ka M1 kc, .int .i64 S1, .int .i64 C1, .int .i64 N1, .int .u64 D1, .int .u64 E1, .int .i64 s1, .int .i64 n1], .int .i64 N1, .int .i64 ee]) ?_ rfl ?_
    · exact results_ln3 rfl _ _ (gg + 1) ka M1 kc S1 C1 N1 D1 E1 s1 n1 _ _ rfl rfl rfl (Lm.set8D (w := za) HZ2.out ka M1 kc S1 C1 N1 D1 E1 s1 n1)
    · have eN : prpG ⟨k, S, C, N, D, E, s, n⟩ = N1 := HPG.out
      rw [eN]
      refine ⟨_, rfl, ka, kc, by rw [HM1.out], ?_, ?_⟩
      · rw [HM1.out]
        exact (HVa.out.wide (V' := fun x => w.heap.size ≤ x ∧ x ≠ (gg + 1)) fun x _ hx => ⟨by have := HWS.out; have := Hg.out; omega, by have := HWS.out; omega⟩).step (fun x _ hx _ => set8_otherD hx.2 _ _ _ _ _ _ _ _) |>.wide fun x _ hx => hx.1
      · exact (set8_bel (bel_bel (bel_bel HBW.out HBW.out.size HF1.out) (Nat.le_trans HBW.out.size HF1.out.size) HBa.out) (by have := Hg.out; omega) _ _ _ _ _ _ _ _).drew)
set_option maxHeartbeats 4000000 in
theorem lreserve_ (a : Option Addr) (m c : Nat) (k : List Int) (S C N D E s n x b : Int) (w : World) (h : Li w a m k S C N D E s n) (hx : u64r x) (rb : i64r b) :
    Calls Tryz.prog 11 #[.agg #[.slice a m c, .int .i64 S, .int .i64 C, .int .i64 N, .int .u64 D, .int .u64 E, .int .i64 s, .int .i64 n], .int .u64 x, .int .i64 b] w fun e w' => Rl1 w (resL ⟨k, S, C, N, D, E, s, n⟩ x b) e w' := by
  have hmf : ∀ (fn : Fn) (first cap : Array Value) (w : World), (Instr.makeFunc fn first cap).run Tryz.prog w = .ok (.func fn first cap) w := fun _ _ _ _ => rfl
  obtain ⟨W, HW⟩ : ∃ y, Hid (((((w.alloc (.cells #[.slice a m c, .int .i64 S, .int .i64 C, .int .i64 N, .int .u64 D, .int .u64 E, .int .i64 s, .int .i64 n] 27)).alloc (.cells #[.int .u64 x] 23)).alloc (.cells #[.int .i64 b] 3)).alloc (.cells #[.slice none 0 0, .int .i64 0, .int .i64 0, .int .i64 0, .int .u64 0, .int .u64 0, .int .i64 0, .int .i64 0] 27)) = y) := ⟨_, rfl⟩
  obtain ⟨gg, Hg⟩ : ∃ y, Hid (w.heap.size = y) := ⟨_, rfl⟩
  have HWS : Hid (W.heap.size = gg + 4) := by show _ = _; rw [← HW.out, ← Hg.out]; simp
  have HBW : Hid (Below w.heap.size w W) := by
    show Below _ _ _
    rw [← HW.out]
    exact ((((Below.refl _ _).alloc (by first | exact Nat.le_refl _ | (simp only [World.size_alloc]; omega)) _).alloc (by first | exact Nat.le_refl _ | (simp only [World.size_alloc]; omega)) _).alloc (by first | exact Nat.le_refl _ | (simp only [World.size_alloc]; omega)) _).alloc (by first | exact Nat.le_refl _ | (simp only [World.size_alloc]; omega)) _
  have HX0 : Hid (Lm W gg a m c S C N D E s n) := by
    show Lm W gg a m c S C N D E s n
    have h0 := heap_alloc_new w (.cells #[.slice a m c, .int .i64 S, .int .i64 C, .int .i64 N, .int .u64 D, .int .u64 E, .int .i64 s, .int .i64 n] 27)
    have h1 := ((((Below.refl ((w.alloc (.cells #[.slice a m c, .int .i64 S, .int .i64 C, .int .i64 N, .int .u64 D, .int .u64 E, .int .i64 s, .int .i64 n] 27)).heap.size) _).alloc (by first | exact Nat.le_refl _ | (simp only [World.size_alloc]; omega)) (.cells #[.int .u64 x] 23)).alloc (by first | exact Nat.le_refl _ | (simp only [World.size_alloc]; omega)) (.cells #[.int .i64 b] 3)).alloc (by first | exact Nat.le_refl _ | (simp only [World.size_alloc]; omega)) (.cells #[.slice none 0 0, .int .i64 0, .int .i64 0, .int .i64 0, .int .u64 0, .int .u64 0, .int .i64 0, .int .i64 0] 27)).block w.heap.size (by simp only [World.size_alloc]; omega) |>.trans h0
    have h2 := congrArg (fun z : World => z.heap[w.heap.size]?) HW.out
    have h3 := h2.symm.trans h1
    simp only [Hg.out] at h3
    exact h3
  have HX1 : Hid (Un W (gg + 1) x) := by
    show Un W (gg + 1) x
    have h0 := heap_alloc_new (w.alloc (.cells #[.slice a m c, .int .i64 S, .int .i64 C, .int .i64 N, .int .u64 D, .int .u64 E, .int .i64 s, .int .i64 n] 27)) (.cells #[.int .u64 x] 23)
    have h1 := (((Below.refl (((w.alloc (.cells #[.slice a m c, .int .i64 S, .int .i64 C, .int .i64 N, .int .u64 D, .int .u64 E, .int .i64 s, .int .i64 n] 27)).alloc (.cells #[.int .u64 x] 23)).heap.size) _).alloc (by first | exact Nat.le_refl _ | (simp only [World.size_alloc]; omega)) (.cells #[.int .i64 b] 3)).alloc (by first | exact Nat.le_refl _ | (simp only [World.size_alloc]; omega)) (.cells #[.slice none 0 0, .int .i64 0, .int .i64 0, .int .i64 0, .int .u64 0, .int .u64 0, .int .i64 0, .int .i64 0] 27)).block (w.alloc (.cells #[.slice a m c, .int .i64 S, .int .i64 C, .int .i64 N, .int .u64 D, .int .u64 E, .int .i64 s, .int .i64 n] 27)).heap.size (by simp only [World.size_alloc]; omega) |>.trans h0
    have h2 := congrArg (fun z : World => z.heap[(w.alloc (.cells #[.slice a m c, .int .i64 S, .int .i64 C, .int .i64 N, .int .u64 D, .int .u64 E, .int .i64 s, .int .i64 n] 27)).heap.size]?) HW.out
    have h3 := h2.symm.trans h1
    simp only [World.size_alloc, Hg.out] at h3
    exact h3
  have HX2 : Hid (Ui W (gg + 2) b) := by
    show Ui W (gg + 2) b
    have h0 := heap_alloc_new ((w.alloc (.cells #[.slice a m c, .int .i64 S, .int .i64 C, .int .i64 N, .int .u64 D, .int .u64 E, .int .i64 s, .int .i64 n] 27)).alloc (.cells #[.int .u64 x] 23)) (.cells #[.int .i64 b] 3)
    have h1 := ((Below.refl ((((w.alloc (.cells #[.slice a m c, .int .i64 S, .int .i64 C, .int .i64 N, .int .u64 D, .int .u64 E, .int .i64 s, .int .i64 n] 27)).alloc (.cells #[.int .u64 x] 23)).alloc (.cells #[.int .i64 b] 3)).heap.size) _).alloc (by first | exact Nat.le_refl _ | (simp only [World.size_alloc]; omega)) (.cells #[.slice none 0 0, .int .i64 0, .int .i64 0, .int .i64 0, .int .u64 0, .int .u64 0, .int .i64 0, .int .i64 0] 27)).block ((w.alloc (.cells #[.slice a m c, .int .i64 S, .int .i64 C, .int .i64 N, .int .u64 D, .int .u64 E, .int .i64 s, .int .i64 n] 27)).alloc (.cells #[.int .u64 x] 23)).heap.size (by simp only [World.size_alloc]; omega) |>.trans h0
    have h2 := congrArg (fun z : World => z.heap[((w.alloc (.cells #[.slice a m c, .int .i64 S, .int .i64 C, .int .i64 N, .int .u64 D, .int .u64 E, .int .i64 s, .int .i64 n] 27)).alloc (.cells #[.int .u64 x] 23)).heap.size]?) HW.out
    have h3 := h2.symm.trans h1
    simp only [World.size_alloc, Hg.out] at h3
    exact h3
  have HX3 : Hid (Lm W (gg + 3) none 0 0 0 0 0 0 0 0 0) := by
    show Lm W (gg + 3) none 0 0 0 0 0 0 0 0 0
    have h0 := heap_alloc_new (((w.alloc (.cells #[.slice a m c, .int .i64 S, .int .i64 C, .int .i64 N, .int .u64 D, .int .u64 E, .int .i64 s, .int .i64 n] 27)).alloc (.cells #[.int .u64 x] 23)).alloc (.cells #[.int .i64 b] 3)) (.cells #[.slice none 0 0, .int .i64 0, .int .i64 0, .int .i64 0, .int .u64 0, .int .u64 0, .int .i64 0, .int .i64 0] 27)
    have h1 := (Below.refl (((((w.alloc (.cells #[.slice a m c, .int .i64 S, .int .i64 C, .int .i64 N, .int .u64 D, .int .u64 E, .int .i64 s, .int .i64 n] 27)).alloc (.cells #[.int .u64 x] 23)).alloc (.cells #[.int .i64 b] 3)).alloc (.cells #[.slice none 0 0, .int .i64 0, .int .i64 0, .int .i64 0, .int .u64 0, .int .u64 0, .int .i64 0, .int .i64 0] 27)).heap.size) _).block (((w.alloc (.cells #[.slice a m c, .int .i64 S, .int .i64 C, .int .i64 N, .int .u64 D, .int .u64 E, .int .i64 s, .int .i64 n] 27)).alloc (.cells #[.int .u64 x] 23)).alloc (.cells #[.int .i64 b] 3)).heap.size (by simp only [World.size_alloc]; omega) |>.trans h0
    have h2 := congrArg (fun z : World => z.heap[(((w.alloc (.cells #[.slice a m c, .int .i64 S, .int .i64 C, .int .i64 N, .int .u64 D, .int .u64 E, .int .i64 s, .int .i64 n] 27)).alloc (.cells #[.int .u64 x] 23)).alloc (.cells #[.int .i64 b] 3)).heap.size]?) HW.out
    have h3 := h2.symm.trans h1
    simp only [World.size_alloc, Hg.out] at h3
    exact h3
  have HLI := hid (h.on HBW.out)
  have hkl := hid h.k.1
  obtain ⟨vq, hv⟩ : ∃ q, lok m S C N s n = q := ⟨_, rfl⟩
  have HLK : Hid (lokL ⟨k, S, C, N, D, E, s, n⟩ = vq) := by show lok k.length S C N s n = vq; rw [hkl.out]; exact hv
  have HBD : Hid (vq = true → 1 ≤ C ∧ C ≤ 2147483647 ∧ 0 ≤ N ∧ N ≤ 2147483647) := fun hvt => by
    have hh := lokL_of (HLK.out.trans hvt)
    simp only at hh
    omega
  obtain ⟨q, hq⟩ : ∃ q, (blk b && decide (D ≤ x ∧ x ≤ 18446744073709551614)) = q := ⟨_, rfl⟩
  obtain ⟨R, HR⟩ : ∃ R, Hid (resL ⟨k, S, C, N, D, E, s, n⟩ x b = R) := ⟨_, rfl⟩
  rw [HR.out]
  obtain ⟨ee, HEE⟩ : ∃ z : Int, Hid (z = if vq then erq q else 2) := ⟨_, rfl⟩
  have HRR : Hid (R = if vq && decide (erq q = 0) then ⟨k, S, C, N, upN x b, E, s, n⟩ else lzero) := by
    show _ = _
    rw [← HR.out]
    unfold resL resB
    rw [HLK.out, Bool.and_assoc, hq]
    cases vq <;> cases q <;> rfl
  have kch := lchangedR_ a m c k S C N D E s n W HLI.out (fun _ => False) (fun _ => True) (fun _ hh => hh.elim) (fun _ _ _ _ => trivial) vq hv (fun _ => trivial) (erq q) (C) (N) (upN x b) (E) (s) (n) (.pointer (some ⟨gg + 2, 0, none⟩)) (.pointer (some ⟨gg + 1, 0, none⟩)) (fun hvt wq qa qc hb hl => (lreserve1_ W.heap.size (gg + 2) (gg + 1) qa 32 qc S C N D E s n x b wq hl (Bw.cell hb HX2.out.c) (Bw.cell hb HX1.out.c) rb hx q hq).mono fun e w' hh => ⟨hh.1, fun he => hh.2.1 (erq_true he), hh.2.2.weak fun _ _ h3 => .inl h3, trivial⟩) R ee HRR.out HEE.out
  obtain ⟨k1, S1, C1, N1, D1, E1, s1, n1⟩ := R
  obtain ⟨M1, HM1⟩ : ∃ z, Hid (k1.length = z) := ⟨_, rfl⟩
  clear h hv hq
  go_enter Tryz.func11, Tryz.ntmps11
  go_wp2_with fail
  rw [HW.out, Hg.out]
  refine kch.mono ?_
  rintro e1 w1 ⟨⟨ka, kc, rfl, vs⟩, f1, j1⟩
  simp only [HM1.out] at vs
  simp only [HM1.out]
  have HF1 := hid (f1.bel fun _ _ hh => hh)
  have HZ1 := hid (HX3.out.at (w' := w1) (HF1.out.block _ HX3.out.lt))
  have HVS := hid vs
  have HS1 : Hid (gg + 4 ≤ w1.heap.size) := by have := HF1.out.size; have := HWS.out; show _ ≤ _; omega
  clear kch f1 vs HW
  have HLa := hid (Lm.new w1 ka M1 kc S1 C1 N1 D1 E1 s1 n1)
  have HBa := hid (lnew w1 ka M1 kc S1 C1 N1 D1 E1 s1 n1)
  have HVa := hid (HVS.out.step (w' := w1.alloc (.cells #[.slice ka M1 kc, .int .i64 S1, .int .i64 C1, .int .i64 N1, .int .u64 D1, .int .u64 E1, .int .i64 s1, .int .i64 n1] 27)) fun x hx _ _ => HBa.out.block x hx)
  have HZ2 := hid (HZ1.out.kept HBa.out)
  obtain ⟨za, HZa⟩ : ∃ y, Hid (w1.alloc (.cells #[.slice ka M1 kc, .int .i64 S1, .int .i64 C1, .int .i64 N1, .int .u64 D1, .int .u64 E1, .int .i64 s1, .int .i64 n1] 27) = y) := ⟨_, rfl⟩
  obtain ⟨pa, HPa⟩ : ∃ y, Hid (w1.heap.size = y) := ⟨_, rfl⟩
  rw [HZa.out] at HLa HVa HZ2 HBa
  rw [HPa.out] at HLa
  go_upto_region 2 with fail
  rw [HZa.out, HPa.out]
  have y0 := HLa.out.c0
  have y1 := HLa.out.c1
  have y2 := HLa.out.c2
  have y3 := HLa.out.c3
  have y4 := HLa.out.c4
  have y5 := HLa.out.c5
  have y6 := HLa.out.c6
  have y7 := HLa.out.c7
  go_wp2_with (refine wpList_sln rfl rfl _ _ rfl (gg + 3) ka M1 kc S1 C1 N1 D1 E1 s1 n1 rfl rfl (by with_reducible exact HZ2.out) ?_)
  refine bodyPost_ret (v := .agg #[.slice ka M1 kc, .int .i64 S1, .int .i64 C1, .int .i64 N1, .int .u64 D1, .int .u64 E1, .int .i64 s1, .int .i64 n1]) ?_ rfl ?_
  · exact results_cell_row rfl _ _ (gg + 3) _ _ _ _ rfl (HZ2.out.row ka M1 kc S1 C1 N1 D1 E1 s1 n1) Tryz.underlying27 rfl sizeln
  · refine ⟨_, rfl, ka, kc, by rw [HM1.out], ?_, ?_⟩
    · rw [HM1.out]
      exact (HVa.out.wide (V' := fun x => w.heap.size ≤ x ∧ x ≠ (gg + 3)) fun x _ hx => ⟨by have := HWS.out; have := Hg.out; omega, by have := HWS.out; omega⟩).step (fun x _ hx _ => setRow_other _ _ _ _ hx.2) |>.wide fun x _ hx => hx.1
    · exact bel_row (bel_bel (bel_bel HBW.out HBW.out.size HF1.out) (Nat.le_trans HBW.out.size HF1.out.size) HBa.out) (by have := Hg.out; omega) _
set_option maxHeartbeats 4000000 in
theorem lraise_ (a : Option Addr) (m c : Nat) (k : List Int) (S C N D E s n x b : Int) (w : World) (h : Li w a m k S C N D E s n) (hx : u64r x) (rb : i64r b) :
    Calls Tryz.prog 13 #[.agg #[.slice a m c, .int .i64 S, .int .i64 C, .int .i64 N, .int .u64 D, .int .u64 E, .int .i64 s, .int .i64 n], .int .u64 x, .int .i64 b] w fun e w' => Rl1 w (rseL ⟨k, S, C, N, D, E, s, n⟩ x b) e w' := by
  have hmf : ∀ (fn : Fn) (first cap : Array Value) (w : World), (Instr.makeFunc fn first cap).run Tryz.prog w = .ok (.func fn first cap) w := fun _ _ _ _ => rfl
  obtain ⟨W, HW⟩ : ∃ y, Hid (((((w.alloc (.cells #[.slice a m c, .int .i64 S, .int .i64 C, .int .i64 N, .int .u64 D, .int .u64 E, .int .i64 s, .int .i64 n] 27)).alloc (.cells #[.int .u64 x] 23)).alloc (.cells #[.int .i64 b] 3)).alloc (.cells #[.slice none 0 0, .int .i64 0, .int .i64 0, .int .i64 0, .int .u64 0, .int .u64 0, .int .i64 0, .int .i64 0] 27)) = y) := ⟨_, rfl⟩
  obtain ⟨gg, Hg⟩ : ∃ y, Hid (w.heap.size = y) := ⟨_, rfl⟩
  have HWS : Hid (W.heap.size = gg + 4) := by show _ = _; rw [← HW.out, ← Hg.out]; simp
  have HBW : Hid (Below w.heap.size w W) := by
    show Below _ _ _
    rw [← HW.out]
    exact ((((Below.refl _ _).alloc (by first | exact Nat.le_refl _ | (simp only [World.size_alloc]; omega)) _).alloc (by first | exact Nat.le_refl _ | (simp only [World.size_alloc]; omega)) _).alloc (by first | exact Nat.le_refl _ | (simp only [World.size_alloc]; omega)) _).alloc (by first | exact Nat.le_refl _ | (simp only [World.size_alloc]; omega)) _
  have HX0 : Hid (Lm W gg a m c S C N D E s n) := by
    show Lm W gg a m c S C N D E s n
    have h0 := heap_alloc_new w (.cells #[.slice a m c, .int .i64 S, .int .i64 C, .int .i64 N, .int .u64 D, .int .u64 E, .int .i64 s, .int .i64 n] 27)
    have h1 := ((((Below.refl ((w.alloc (.cells #[.slice a m c, .int .i64 S, .int .i64 C, .int .i64 N, .int .u64 D, .int .u64 E, .int .i64 s, .int .i64 n] 27)).heap.size) _).alloc (by first | exact Nat.le_refl _ | (simp only [World.size_alloc]; omega)) (.cells #[.int .u64 x] 23)).alloc (by first | exact Nat.le_refl _ | (simp only [World.size_alloc]; omega)) (.cells #[.int .i64 b] 3)).alloc (by first | exact Nat.le_refl _ | (simp only [World.size_alloc]; omega)) (.cells #[.slice none 0 0, .int .i64 0, .int .i64 0, .int .i64 0, .int .u64 0, .int .u64 0, .int .i64 0, .int .i64 0] 27)).block w.heap.size (by simp only [World.size_alloc]; omega) |>.trans h0
    have h2 := congrArg (fun z : World => z.heap[w.heap.size]?) HW.out
    have h3 := h2.symm.trans h1
    simp only [Hg.out] at h3
    exact h3
  have HX1 : Hid (Un W (gg + 1) x) := by
    show Un W (gg + 1) x
    have h0 := heap_alloc_new (w.alloc (.cells #[.slice a m c, .int .i64 S, .int .i64 C, .int .i64 N, .int .u64 D, .int .u64 E, .int .i64 s, .int .i64 n] 27)) (.cells #[.int .u64 x] 23)
    have h1 := (((Below.refl (((w.alloc (.cells #[.slice a m c, .int .i64 S, .int .i64 C, .int .i64 N, .int .u64 D, .int .u64 E, .int .i64 s, .int .i64 n] 27)).alloc (.cells #[.int .u64 x] 23)).heap.size) _).alloc (by first | exact Nat.le_refl _ | (simp only [World.size_alloc]; omega)) (.cells #[.int .i64 b] 3)).alloc (by first | exact Nat.le_refl _ | (simp only [World.size_alloc]; omega)) (.cells #[.slice none 0 0, .int .i64 0, .int .i64 0, .int .i64 0, .int .u64 0, .int .u64 0, .int .i64 0, .int .i64 0] 27)).block (w.alloc (.cells #[.slice a m c, .int .i64 S, .int .i64 C, .int .i64 N, .int .u64 D, .int .u64 E, .int .i64 s, .int .i64 n] 27)).heap.size (by simp only [World.size_alloc]; omega) |>.trans h0
    have h2 := congrArg (fun z : World => z.heap[(w.alloc (.cells #[.slice a m c, .int .i64 S, .int .i64 C, .int .i64 N, .int .u64 D, .int .u64 E, .int .i64 s, .int .i64 n] 27)).heap.size]?) HW.out
    have h3 := h2.symm.trans h1
    simp only [World.size_alloc, Hg.out] at h3
    exact h3
  have HX2 : Hid (Ui W (gg + 2) b) := by
    show Ui W (gg + 2) b
    have h0 := heap_alloc_new ((w.alloc (.cells #[.slice a m c, .int .i64 S, .int .i64 C, .int .i64 N, .int .u64 D, .int .u64 E, .int .i64 s, .int .i64 n] 27)).alloc (.cells #[.int .u64 x] 23)) (.cells #[.int .i64 b] 3)
    have h1 := ((Below.refl ((((w.alloc (.cells #[.slice a m c, .int .i64 S, .int .i64 C, .int .i64 N, .int .u64 D, .int .u64 E, .int .i64 s, .int .i64 n] 27)).alloc (.cells #[.int .u64 x] 23)).alloc (.cells #[.int .i64 b] 3)).heap.size) _).alloc (by first | exact Nat.le_refl _ | (simp only [World.size_alloc]; omega)) (.cells #[.slice none 0 0, .int .i64 0, .int .i64 0, .int .i64 0, .int .u64 0, .int .u64 0, .int .i64 0, .int .i64 0] 27)).block ((w.alloc (.cells #[.slice a m c, .int .i64 S, .int .i64 C, .int .i64 N, .int .u64 D, .int .u64 E, .int .i64 s, .int .i64 n] 27)).alloc (.cells #[.int .u64 x] 23)).heap.size (by simp only [World.size_alloc]; omega) |>.trans h0
    have h2 := congrArg (fun z : World => z.heap[((w.alloc (.cells #[.slice a m c, .int .i64 S, .int .i64 C, .int .i64 N, .int .u64 D, .int .u64 E, .int .i64 s, .int .i64 n] 27)).alloc (.cells #[.int .u64 x] 23)).heap.size]?) HW.out
    have h3 := h2.symm.trans h1
    simp only [World.size_alloc, Hg.out] at h3
    exact h3
  have HX3 : Hid (Lm W (gg + 3) none 0 0 0 0 0 0 0 0 0) := by
    show Lm W (gg + 3) none 0 0 0 0 0 0 0 0 0
    have h0 := heap_alloc_new (((w.alloc (.cells #[.slice a m c, .int .i64 S, .int .i64 C, .int .i64 N, .int .u64 D, .int .u64 E, .int .i64 s, .int .i64 n] 27)).alloc (.cells #[.int .u64 x] 23)).alloc (.cells #[.int .i64 b] 3)) (.cells #[.slice none 0 0, .int .i64 0, .int .i64 0, .int .i64 0, .int .u64 0, .int .u64 0, .int .i64 0, .int .i64 0] 27)
    have h1 := (Below.refl (((((w.alloc (.cells #[.slice a m c, .int .i64 S, .int .i64 C, .int .i64 N, .int .u64 D, .int .u64 E, .int .i64 s, .int .i64 n] 27)).alloc (.cells #[.int .u64 x] 23)).alloc (.cells #[.int .i64 b] 3)).alloc (.cells #[.slice none 0 0, .int .i64 0, .int .i64 0, .int .i64 0, .int .u64 0, .int .u64 0, .int .i64 0, .int .i64 0] 27)).heap.size) _).block (((w.alloc (.cells #[.slice a m c, .int .i64 S, .int .i64 C, .int .i64 N, .int .u64 D, .int .u64 E, .int .i64 s, .int .i64 n] 27)).alloc (.cells #[.int .u64 x] 23)).alloc (.cells #[.int .i64 b] 3)).heap.size (by simp only [World.size_alloc]; omega) |>.trans h0
    have h2 := congrArg (fun z : World => z.heap[(((w.alloc (.cells #[.slice a m c, .int .i64 S, .int .i64 C, .int .i64 N, .int .u64 D, .int .u64 E, .int .i64 s, .int .i64 n] 27)).alloc (.cells #[.int .u64 x] 23)).alloc (.cells #[.int .i64 b] 3)).heap.size]?) HW.out
    have h3 := h2.symm.trans h1
    simp only [World.size_alloc, Hg.out] at h3
    exact h3
  have HLI := hid (h.on HBW.out)
  have hkl := hid h.k.1
  obtain ⟨vq, hv⟩ : ∃ q, lok m S C N s n = q := ⟨_, rfl⟩
  have HLK : Hid (lokL ⟨k, S, C, N, D, E, s, n⟩ = vq) := by show lok k.length S C N s n = vq; rw [hkl.out]; exact hv
  have HBD : Hid (vq = true → 1 ≤ C ∧ C ≤ 2147483647 ∧ 0 ≤ N ∧ N ≤ 2147483647) := fun hvt => by
    have hh := lokL_of (HLK.out.trans hvt)
    simp only at hh
    omega
  obtain ⟨q, hq⟩ : ∃ q, (blk b && decide (E ≤ x ∧ x ≤ 18446744073709551614)) = q := ⟨_, rfl⟩
  obtain ⟨R, HR⟩ : ∃ R, Hid (rseL ⟨k, S, C, N, D, E, s, n⟩ x b = R) := ⟨_, rfl⟩
  rw [HR.out]
  obtain ⟨ee, HEE⟩ : ∃ z : Int, Hid (z = if vq then erq q else 2) := ⟨_, rfl⟩
  have HRR : Hid (R = if vq && decide (erq q = 0) then ⟨k, S, C, N, D, upN x b, s, n⟩ else lzero) := by
    show _ = _
    rw [← HR.out]
    unfold rseL rseB
    rw [HLK.out, Bool.and_assoc, hq]
    cases vq <;> cases q <;> rfl
  have kch := lchangedI_ a m c k S C N D E s n W HLI.out (fun _ => False) (fun _ => True) (fun _ hh => hh.elim) (fun _ _ _ _ => trivial) vq hv (fun _ => trivial) (erq q) (C) (N) (D) (upN x b) (s) (n) (.pointer (some ⟨gg + 2, 0, none⟩)) (.pointer (some ⟨gg + 1, 0, none⟩)) (fun hvt wq qa qc hb hl => (lraise1_ W.heap.size (gg + 2) (gg + 1) qa 32 qc S C N D E s n x b wq hl (Bw.cell hb HX2.out.c) (Bw.cell hb HX1.out.c) rb hx q hq).mono fun e w' hh => ⟨hh.1, fun he => hh.2.1 (erq_true he), hh.2.2.weak fun _ _ h3 => .inl h3, trivial⟩) R ee HRR.out HEE.out
  obtain ⟨k1, S1, C1, N1, D1, E1, s1, n1⟩ := R
  obtain ⟨M1, HM1⟩ : ∃ z, Hid (k1.length = z) := ⟨_, rfl⟩
  clear h hv hq
  go_enter Tryz.func13, Tryz.ntmps13
  go_wp2_with fail
  rw [HW.out, Hg.out]
  refine kch.mono ?_
  rintro e1 w1 ⟨⟨ka, kc, rfl, vs⟩, f1, j1⟩
  simp only [HM1.out] at vs
  simp only [HM1.out]
  have HF1 := hid (f1.bel fun _ _ hh => hh)
  have HZ1 := hid (HX3.out.at (w' := w1) (HF1.out.block _ HX3.out.lt))
  have HVS := hid vs
  have HS1 : Hid (gg + 4 ≤ w1.heap.size) := by have := HF1.out.size; have := HWS.out; show _ ≤ _; omega
  clear kch f1 vs HW
  have HLa := hid (Lm.new w1 ka M1 kc S1 C1 N1 D1 E1 s1 n1)
  have HBa := hid (lnew w1 ka M1 kc S1 C1 N1 D1 E1 s1 n1)
  have HVa := hid (HVS.out.step (w' := w1.alloc (.cells #[.slice ka M1 kc, .int .i64 S1, .int .i64 C1, .int .i64 N1, .int .u64 D1, .int .u64 E1, .int .i64 s1, .int .i64 n1] 27)) fun x hx _ _ => HBa.out.block x hx)
  have HZ2 := hid (HZ1.out.kept HBa.out)
  obtain ⟨za, HZa⟩ : ∃ y, Hid (w1.alloc (.cells #[.slice ka M1 kc, .int .i64 S1, .int .i64 C1, .int .i64 N1, .int .u64 D1, .int .u64 E1, .int .i64 s1, .int .i64 n1] 27) = y) := ⟨_, rfl⟩
  obtain ⟨pa, HPa⟩ : ∃ y, Hid (w1.heap.size = y) := ⟨_, rfl⟩
  rw [HZa.out] at HLa HVa HZ2 HBa
  rw [HPa.out] at HLa
  go_upto_region 2 with fail
  rw [HZa.out, HPa.out]
  have y0 := HLa.out.c0
  have y1 := HLa.out.c1
  have y2 := HLa.out.c2
  have y3 := HLa.out.c3
  have y4 := HLa.out.c4
  have y5 := HLa.out.c5
  have y6 := HLa.out.c6
  have y7 := HLa.out.c7
  go_wp2_with (refine wpList_sln rfl rfl _ _ rfl (gg + 3) ka M1 kc S1 C1 N1 D1 E1 s1 n1 rfl rfl (by with_reducible exact HZ2.out) ?_)
  refine bodyPost_ret (v := .agg #[.slice ka M1 kc, .int .i64 S1, .int .i64 C1, .int .i64 N1, .int .u64 D1, .int .u64 E1, .int .i64 s1, .int .i64 n1]) ?_ rfl ?_
  · exact results_cell_row rfl _ _ (gg + 3) _ _ _ _ rfl (HZ2.out.row ka M1 kc S1 C1 N1 D1 E1 s1 n1) Tryz.underlying27 rfl sizeln
  · refine ⟨_, rfl, ka, kc, by rw [HM1.out], ?_, ?_⟩
    · rw [HM1.out]
      exact (HVa.out.wide (V' := fun x => w.heap.size ≤ x ∧ x ≠ (gg + 3)) fun x _ hx => ⟨by have := HWS.out; have := Hg.out; omega, by have := HWS.out; omega⟩).step (fun x _ hx _ => setRow_other _ _ _ _ hx.2) |>.wide fun x _ hx => hx.1
    · exact bel_row (bel_bel (bel_bel HBW.out HBW.out.size HF1.out) (Nat.le_trans HBW.out.size HF1.out.size) HBa.out) (by have := Hg.out; omega) _
set_option maxHeartbeats 4000000 in
theorem lopened_ (a : Option Addr) (m c : Nat) (k : List Int) (S C N D E s n g x b : Int) (w : World) (h : Li w a m k S C N D E s n) (hg : i64r g) (hx : u64r x) (rb : i64r b) :
    Calls Tryz.prog 12 #[.agg #[.slice a m c, .int .i64 S, .int .i64 C, .int .i64 N, .int .u64 D, .int .u64 E, .int .i64 s, .int .i64 n], .int .i64 g, .int .u64 x, .int .i64 b] w fun e w' => Rl1 w (opnL ⟨k, S, C, N, D, E, s, n⟩ g x b) e w' := by
  have hmf : ∀ (fn : Fn) (first cap : Array Value) (w : World), (Instr.makeFunc fn first cap).run Tryz.prog w = .ok (.func fn first cap) w := fun _ _ _ _ => rfl
  obtain ⟨W, HW⟩ : ∃ y, Hid ((((((w.alloc (.cells #[.slice a m c, .int .i64 S, .int .i64 C, .int .i64 N, .int .u64 D, .int .u64 E, .int .i64 s, .int .i64 n] 27)).alloc (.cells #[.int .i64 g] 3)).alloc (.cells #[.int .u64 x] 23)).alloc (.cells #[.int .i64 b] 3)).alloc (.cells #[.slice none 0 0, .int .i64 0, .int .i64 0, .int .i64 0, .int .u64 0, .int .u64 0, .int .i64 0, .int .i64 0] 27)) = y) := ⟨_, rfl⟩
  obtain ⟨gg, Hg⟩ : ∃ y, Hid (w.heap.size = y) := ⟨_, rfl⟩
  have HWS : Hid (W.heap.size = gg + 5) := by show _ = _; rw [← HW.out, ← Hg.out]; simp
  have HBW : Hid (Below w.heap.size w W) := by
    show Below _ _ _
    rw [← HW.out]
    exact (((((Below.refl _ _).alloc (by first | exact Nat.le_refl _ | (simp only [World.size_alloc]; omega)) _).alloc (by first | exact Nat.le_refl _ | (simp only [World.size_alloc]; omega)) _).alloc (by first | exact Nat.le_refl _ | (simp only [World.size_alloc]; omega)) _).alloc (by first | exact Nat.le_refl _ | (simp only [World.size_alloc]; omega)) _).alloc (by first | exact Nat.le_refl _ | (simp only [World.size_alloc]; omega)) _
  have HX0 : Hid (Lm W gg a m c S C N D E s n) := by
    show Lm W gg a m c S C N D E s n
    have h0 := heap_alloc_new w (.cells #[.slice a m c, .int .i64 S, .int .i64 C, .int .i64 N, .int .u64 D, .int .u64 E, .int .i64 s, .int .i64 n] 27)
    have h1 := (((((Below.refl ((w.alloc (.cells #[.slice a m c, .int .i64 S, .int .i64 C, .int .i64 N, .int .u64 D, .int .u64 E, .int .i64 s, .int .i64 n] 27)).heap.size) _).alloc (by first | exact Nat.le_refl _ | (simp only [World.size_alloc]; omega)) (.cells #[.int .i64 g] 3)).alloc (by first | exact Nat.le_refl _ | (simp only [World.size_alloc]; omega)) (.cells #[.int .u64 x] 23)).alloc (by first | exact Nat.le_refl _ | (simp only [World.size_alloc]; omega)) (.cells #[.int .i64 b] 3)).alloc (by first | exact Nat.le_refl _ | (simp only [World.size_alloc]; omega)) (.cells #[.slice none 0 0, .int .i64 0, .int .i64 0, .int .i64 0, .int .u64 0, .int .u64 0, .int .i64 0, .int .i64 0] 27)).block w.heap.size (by simp only [World.size_alloc]; omega) |>.trans h0
    have h2 := congrArg (fun z : World => z.heap[w.heap.size]?) HW.out
    have h3 := h2.symm.trans h1
    simp only [Hg.out] at h3
    exact h3
  have HX1 : Hid (Ui W (gg + 1) g) := by
    show Ui W (gg + 1) g
    have h0 := heap_alloc_new (w.alloc (.cells #[.slice a m c, .int .i64 S, .int .i64 C, .int .i64 N, .int .u64 D, .int .u64 E, .int .i64 s, .int .i64 n] 27)) (.cells #[.int .i64 g] 3)
    have h1 := ((((Below.refl (((w.alloc (.cells #[.slice a m c, .int .i64 S, .int .i64 C, .int .i64 N, .int .u64 D, .int .u64 E, .int .i64 s, .int .i64 n] 27)).alloc (.cells #[.int .i64 g] 3)).heap.size) _).alloc (by first | exact Nat.le_refl _ | (simp only [World.size_alloc]; omega)) (.cells #[.int .u64 x] 23)).alloc (by first | exact Nat.le_refl _ | (simp only [World.size_alloc]; omega)) (.cells #[.int .i64 b] 3)).alloc (by first | exact Nat.le_refl _ | (simp only [World.size_alloc]; omega)) (.cells #[.slice none 0 0, .int .i64 0, .int .i64 0, .int .i64 0, .int .u64 0, .int .u64 0, .int .i64 0, .int .i64 0] 27)).block (w.alloc (.cells #[.slice a m c, .int .i64 S, .int .i64 C, .int .i64 N, .int .u64 D, .int .u64 E, .int .i64 s, .int .i64 n] 27)).heap.size (by simp only [World.size_alloc]; omega) |>.trans h0
    have h2 := congrArg (fun z : World => z.heap[(w.alloc (.cells #[.slice a m c, .int .i64 S, .int .i64 C, .int .i64 N, .int .u64 D, .int .u64 E, .int .i64 s, .int .i64 n] 27)).heap.size]?) HW.out
    have h3 := h2.symm.trans h1
    simp only [World.size_alloc, Hg.out] at h3
    exact h3
  have HX2 : Hid (Un W (gg + 2) x) := by
    show Un W (gg + 2) x
    have h0 := heap_alloc_new ((w.alloc (.cells #[.slice a m c, .int .i64 S, .int .i64 C, .int .i64 N, .int .u64 D, .int .u64 E, .int .i64 s, .int .i64 n] 27)).alloc (.cells #[.int .i64 g] 3)) (.cells #[.int .u64 x] 23)
    have h1 := (((Below.refl ((((w.alloc (.cells #[.slice a m c, .int .i64 S, .int .i64 C, .int .i64 N, .int .u64 D, .int .u64 E, .int .i64 s, .int .i64 n] 27)).alloc (.cells #[.int .i64 g] 3)).alloc (.cells #[.int .u64 x] 23)).heap.size) _).alloc (by first | exact Nat.le_refl _ | (simp only [World.size_alloc]; omega)) (.cells #[.int .i64 b] 3)).alloc (by first | exact Nat.le_refl _ | (simp only [World.size_alloc]; omega)) (.cells #[.slice none 0 0, .int .i64 0, .int .i64 0, .int .i64 0, .int .u64 0, .int .u64 0, .int .i64 0, .int .i64 0] 27)).block ((w.alloc (.cells #[.slice a m c, .int .i64 S, .int .i64 C, .int .i64 N, .int .u64 D, .int .u64 E, .int .i64 s, .int .i64 n] 27)).alloc (.cells #[.int .i64 g] 3)).heap.size (by simp only [World.size_alloc]; omega) |>.trans h0
    have h2 := congrArg (fun z : World => z.heap[((w.alloc (.cells #[.slice a m c, .int .i64 S, .int .i64 C, .int .i64 N, .int .u64 D, .int .u64 E, .int .i64 s, .int .i64 n] 27)).alloc (.cells #[.int .i64 g] 3)).heap.size]?) HW.out
    have h3 := h2.symm.trans h1
    simp only [World.size_alloc, Hg.out] at h3
    exact h3
  have HX3 : Hid (Ui W (gg + 3) b) := by
    show Ui W (gg + 3) b
    have h0 := heap_alloc_new (((w.alloc (.cells #[.slice a m c, .int .i64 S, .int .i64 C, .int .i64 N, .int .u64 D, .int .u64 E, .int .i64 s, .int .i64 n] 27)).alloc (.cells #[.int .i64 g] 3)).alloc (.cells #[.int .u64 x] 23)) (.cells #[.int .i64 b] 3)
    have h1 := ((Below.refl (((((w.alloc (.cells #[.slice a m c, .int .i64 S, .int .i64 C, .int .i64 N, .int .u64 D, .int .u64 E, .int .i64 s, .int .i64 n] 27)).alloc (.cells #[.int .i64 g] 3)).alloc (.cells #[.int .u64 x] 23)).alloc (.cells #[.int .i64 b] 3)).heap.size) _).alloc (by first | exact Nat.le_refl _ | (simp only [World.size_alloc]; omega)) (.cells #[.slice none 0 0, .int .i64 0, .int .i64 0, .int .i64 0, .int .u64 0, .int .u64 0, .int .i64 0, .int .i64 0] 27)).block (((w.alloc (.cells #[.slice a m c, .int .i64 S, .int .i64 C, .int .i64 N, .int .u64 D, .int .u64 E, .int .i64 s, .int .i64 n] 27)).alloc (.cells #[.int .i64 g] 3)).alloc (.cells #[.int .u64 x] 23)).heap.size (by simp only [World.size_alloc]; omega) |>.trans h0
    have h2 := congrArg (fun z : World => z.heap[(((w.alloc (.cells #[.slice a m c, .int .i64 S, .int .i64 C, .int .i64 N, .int .u64 D, .int .u64 E, .int .i64 s, .int .i64 n] 27)).alloc (.cells #[.int .i64 g] 3)).alloc (.cells #[.int .u64 x] 23)).heap.size]?) HW.out
    have h3 := h2.symm.trans h1
    simp only [World.size_alloc, Hg.out] at h3
    exact h3
  have HX4 : Hid (Lm W (gg + 4) none 0 0 0 0 0 0 0 0 0) := by
    show Lm W (gg + 4) none 0 0 0 0 0 0 0 0 0
    have h0 := heap_alloc_new ((((w.alloc (.cells #[.slice a m c, .int .i64 S, .int .i64 C, .int .i64 N, .int .u64 D, .int .u64 E, .int .i64 s, .int .i64 n] 27)).alloc (.cells #[.int .i64 g] 3)).alloc (.cells #[.int .u64 x] 23)).alloc (.cells #[.int .i64 b] 3)) (.cells #[.slice none 0 0, .int .i64 0, .int .i64 0, .int .i64 0, .int .u64 0, .int .u64 0, .int .i64 0, .int .i64 0] 27)
    have h1 := (Below.refl ((((((w.alloc (.cells #[.slice a m c, .int .i64 S, .int .i64 C, .int .i64 N, .int .u64 D, .int .u64 E, .int .i64 s, .int .i64 n] 27)).alloc (.cells #[.int .i64 g] 3)).alloc (.cells #[.int .u64 x] 23)).alloc (.cells #[.int .i64 b] 3)).alloc (.cells #[.slice none 0 0, .int .i64 0, .int .i64 0, .int .i64 0, .int .u64 0, .int .u64 0, .int .i64 0, .int .i64 0] 27)).heap.size) _).block ((((w.alloc (.cells #[.slice a m c, .int .i64 S, .int .i64 C, .int .i64 N, .int .u64 D, .int .u64 E, .int .i64 s, .int .i64 n] 27)).alloc (.cells #[.int .i64 g] 3)).alloc (.cells #[.int .u64 x] 23)).alloc (.cells #[.int .i64 b] 3)).heap.size (by simp only [World.size_alloc]; omega) |>.trans h0
    have h2 := congrArg (fun z : World => z.heap[((((w.alloc (.cells #[.slice a m c, .int .i64 S, .int .i64 C, .int .i64 N, .int .u64 D, .int .u64 E, .int .i64 s, .int .i64 n] 27)).alloc (.cells #[.int .i64 g] 3)).alloc (.cells #[.int .u64 x] 23)).alloc (.cells #[.int .i64 b] 3)).heap.size]?) HW.out
    have h3 := h2.symm.trans h1
    simp only [World.size_alloc, Hg.out] at h3
    exact h3
  have HLI := hid (h.on HBW.out)
  have hkl := hid h.k.1
  obtain ⟨vq, hv⟩ : ∃ q, lok m S C N s n = q := ⟨_, rfl⟩
  have HLK : Hid (lokL ⟨k, S, C, N, D, E, s, n⟩ = vq) := by show lok k.length S C N s n = vq; rw [hkl.out]; exact hv
  have HBD : Hid (vq = true → 1 ≤ C ∧ C ≤ 2147483647 ∧ 0 ≤ N ∧ N ≤ 2147483647) := fun hvt => by
    have hh := lokL_of (HLK.out.trans hvt)
    simp only at hh
    omega
  obtain ⟨q, hq⟩ : ∃ q, (blk b && (wtn g (C + 1) N && decide (x ≤ 18446744073709551614))) = q := ⟨_, rfl⟩
  obtain ⟨R, HR⟩ : ∃ R, Hid (opnL ⟨k, S, C, N, D, E, s, n⟩ g x b = R) := ⟨_, rfl⟩
  rw [HR.out]
  obtain ⟨ee, HEE⟩ : ∃ z : Int, Hid (z = if vq then erq q else 2) := ⟨_, rfl⟩
  have HRR : Hid (R = if vq && decide (erq q = 0) then ⟨k, S, g, N, upN 1 b, upN x b, s, n⟩ else lzero) := by
    show _ = _
    rw [← HR.out]
    unfold opnL opnB
    have e1 : decide (C < g ∧ g ≤ N ∧ x ≤ 18446744073709551614) = (wtn g (C + 1) N && decide (x ≤ 18446744073709551614)) := by
      unfold wtn
      rw [← Bool.decide_and]
      exact decide_eq_decide.2 (by omega)
    simp only [e1]
    rw [HLK.out, Bool.and_assoc, hq]
    cases vq <;> cases q <;> rfl
  have kch := lchangedO_ a m c k S C N D E s n W HLI.out (fun _ => False) (fun _ => True) (fun _ hh => hh.elim) (fun _ _ _ _ => trivial) vq hv (fun _ => trivial) (erq q) g N (upN 1 b) (upN x b) s n (.pointer (some ⟨gg + 3, 0, none⟩)) (.pointer (some ⟨gg + 1, 0, none⟩)) (.pointer (some ⟨gg + 2, 0, none⟩)) (fun hvt wq qa qc hb hl => (lopened1_ W.heap.size (gg + 3) (gg + 1) (gg + 2) qa 32 qc S C N D E s n g x b wq hl (Bw.cell hb HX3.out.c) (Bw.cell hb HX1.out.c) (Bw.cell hb HX2.out.c) (by have := HBD.out hvt; omega) (by have := HBD.out hvt; omega) rb hx q hq).mono fun e w' hh => ⟨hh.1, fun he => hh.2.1 (erq_true he), hh.2.2.weak fun _ _ h3 => .inl h3, trivial⟩) R ee HRR.out HEE.out
  obtain ⟨k1, S1, C1, N1, D1, E1, s1, n1⟩ := R
  obtain ⟨M1, HM1⟩ : ∃ z, Hid (k1.length = z) := ⟨_, rfl⟩
  clear h hv hq
  go_enter Tryz.func12, Tryz.ntmps12
  go_wp2_with fail
  rw [HW.out, Hg.out]
  refine kch.mono ?_
  rintro e1 w1 ⟨⟨ka, kc, rfl, vs⟩, f1, j1⟩
  simp only [HM1.out] at vs
  simp only [HM1.out]
  have HF1 := hid (f1.bel fun _ _ hh => hh)
  have HZ1 := hid (HX4.out.at (w' := w1) (HF1.out.block _ HX4.out.lt))
  have HVS := hid vs
  have HS1 : Hid (gg + 5 ≤ w1.heap.size) := by have := HF1.out.size; have := HWS.out; show _ ≤ _; omega
  clear kch f1 vs HW
  have HLa := hid (Lm.new w1 ka M1 kc S1 C1 N1 D1 E1 s1 n1)
  have HBa := hid (lnew w1 ka M1 kc S1 C1 N1 D1 E1 s1 n1)
  have HVa := hid (HVS.out.step (w' := w1.alloc (.cells #[.slice ka M1 kc, .int .i64 S1, .int .i64 C1, .int .i64 N1, .int .u64 D1, .int .u64 E1, .int .i64 s1, .int .i64 n1] 27)) fun x hx _ _ => HBa.out.block x hx)
  have HZ2 := hid (HZ1.out.kept HBa.out)
  obtain ⟨za, HZa⟩ : ∃ y, Hid (w1.alloc (.cells #[.slice ka M1 kc, .int .i64 S1, .int .i64 C1, .int .i64 N1, .int .u64 D1, .int .u64 E1, .int .i64 s1, .int .i64 n1] 27) = y) := ⟨_, rfl⟩
  obtain ⟨pa, HPa⟩ : ∃ y, Hid (w1.heap.size = y) := ⟨_, rfl⟩
  rw [HZa.out] at HLa HVa HZ2 HBa
  rw [HPa.out] at HLa
  go_upto_region 2 with fail
  rw [HZa.out, HPa.out]
  have y0 := HLa.out.c0
  have y1 := HLa.out.c1
  have y2 := HLa.out.c2
  have y3 := HLa.out.c3
  have y4 := HLa.out.c4
  have y5 := HLa.out.c5
  have y6 := HLa.out.c6
  have y7 := HLa.out.c7
  go_wp2_with (refine wpList_sln rfl rfl _ _ rfl (gg + 4) ka M1 kc S1 C1 N1 D1 E1 s1 n1 rfl rfl (by with_reducible exact HZ2.out) ?_)
  refine bodyPost_ret (v := .agg #[.slice ka M1 kc, .int .i64 S1, .int .i64 C1, .int .i64 N1, .int .u64 D1, .int .u64 E1, .int .i64 s1, .int .i64 n1]) ?_ rfl ?_
  · exact results_cell_row rfl _ _ (gg + 4) _ _ _ _ rfl (HZ2.out.row ka M1 kc S1 C1 N1 D1 E1 s1 n1) Tryz.underlying27 rfl sizeln
  · refine ⟨_, rfl, ka, kc, by rw [HM1.out], ?_, ?_⟩
    · rw [HM1.out]
      exact (HVa.out.wide (V' := fun x => w.heap.size ≤ x ∧ x ≠ (gg + 4)) fun x _ hx => ⟨by have := HWS.out; have := Hg.out; omega, by have := HWS.out; omega⟩).step (fun x _ hx _ => setRow_other _ _ _ _ hx.2) |>.wide fun x _ hx => hx.1
    · exact bel_row (bel_bel (bel_bel HBW.out HBW.out.size HF1.out) (Nat.le_trans HBW.out.size HF1.out.size) HBa.out) (by have := Hg.out; omega) _
set_option maxHeartbeats 4000000 in
theorem lanswered_ (a : Option Addr) (m c : Nat) (k : List Int) (S C N D E s n g x t u b : Int) (w : World) (h : Li w a m k S C N D E s n) (hg : i64r g) (hx : u64r x) (ht : i64r t) (hu : i64r u) (rb : i64r b) :
    Calls Tryz.prog 8 #[.agg #[.slice a m c, .int .i64 S, .int .i64 C, .int .i64 N, .int .u64 D, .int .u64 E, .int .i64 s, .int .i64 n], .int .i64 g, .int .u64 x, .agg #[.int .i64 t, .int .i64 u], .int .i64 b] w fun e w' => Rl2 w (ansL ⟨k, S, C, N, D, E, s, n⟩ g x t u b) (.int .u64 (ansN ⟨k, S, C, N, D, E, s, n⟩ g x t u b)) e w' := by
  have hmf : ∀ (fn : Fn) (first cap : Array Value) (w : World), (Instr.makeFunc fn first cap).run Tryz.prog w = .ok (.func fn first cap) w := fun _ _ _ _ => rfl
  obtain ⟨W, HW⟩ : ∃ y, Hid ((((((((w.alloc (.cells #[.slice a m c, .int .i64 S, .int .i64 C, .int .i64 N, .int .u64 D, .int .u64 E, .int .i64 s, .int .i64 n] 27)).alloc (.cells #[.int .i64 g] 3)).alloc (.cells #[.int .u64 x] 23)).alloc (.cells #[.int .i64 t, .int .i64 u] 25)).alloc (.cells #[.int .i64 b] 3)).alloc (.cells #[.slice none 0 0, .int .i64 0, .int .i64 0, .int .i64 0, .int .u64 0, .int .u64 0, .int .i64 0, .int .i64 0] 27)).alloc (.cells #[.int .u64 0] 23)) = y) := ⟨_, rfl⟩
  obtain ⟨gg, Hg⟩ : ∃ y, Hid (w.heap.size = y) := ⟨_, rfl⟩
  have HWS : Hid (W.heap.size = gg + 7) := by show _ = _; rw [← HW.out, ← Hg.out]; simp
  have HBW : Hid (Below w.heap.size w W) := by
    show Below _ _ _
    rw [← HW.out]
    exact (((((((Below.refl _ _).alloc (by first | exact Nat.le_refl _ | (simp only [World.size_alloc]; omega)) _).alloc (by first | exact Nat.le_refl _ | (simp only [World.size_alloc]; omega)) _).alloc (by first | exact Nat.le_refl _ | (simp only [World.size_alloc]; omega)) _).alloc (by first | exact Nat.le_refl _ | (simp only [World.size_alloc]; omega)) _).alloc (by first | exact Nat.le_refl _ | (simp only [World.size_alloc]; omega)) _).alloc (by first | exact Nat.le_refl _ | (simp only [World.size_alloc]; omega)) _).alloc (by first | exact Nat.le_refl _ | (simp only [World.size_alloc]; omega)) _
  have HX0 : Hid (Lm W gg a m c S C N D E s n) := by
    show Lm W gg a m c S C N D E s n
    have h0 := heap_alloc_new w (.cells #[.slice a m c, .int .i64 S, .int .i64 C, .int .i64 N, .int .u64 D, .int .u64 E, .int .i64 s, .int .i64 n] 27)
    have h1 := (((((((Below.refl ((w.alloc (.cells #[.slice a m c, .int .i64 S, .int .i64 C, .int .i64 N, .int .u64 D, .int .u64 E, .int .i64 s, .int .i64 n] 27)).heap.size) _).alloc (by first | exact Nat.le_refl _ | (simp only [World.size_alloc]; omega)) (.cells #[.int .i64 g] 3)).alloc (by first | exact Nat.le_refl _ | (simp only [World.size_alloc]; omega)) (.cells #[.int .u64 x] 23)).alloc (by first | exact Nat.le_refl _ | (simp only [World.size_alloc]; omega)) (.cells #[.int .i64 t, .int .i64 u] 25)).alloc (by first | exact Nat.le_refl _ | (simp only [World.size_alloc]; omega)) (.cells #[.int .i64 b] 3)).alloc (by first | exact Nat.le_refl _ | (simp only [World.size_alloc]; omega)) (.cells #[.slice none 0 0, .int .i64 0, .int .i64 0, .int .i64 0, .int .u64 0, .int .u64 0, .int .i64 0, .int .i64 0] 27)).alloc (by first | exact Nat.le_refl _ | (simp only [World.size_alloc]; omega)) (.cells #[.int .u64 0] 23)).block w.heap.size (by simp only [World.size_alloc]; omega) |>.trans h0
    have h2 := congrArg (fun z : World => z.heap[w.heap.size]?) HW.out
    have h3 := h2.symm.trans h1
    simp only [Hg.out] at h3
    exact h3
  have HX1 : Hid (Ui W (gg + 1) g) := by
    show Ui W (gg + 1) g
    have h0 := heap_alloc_new (w.alloc (.cells #[.slice a m c, .int .i64 S, .int .i64 C, .int .i64 N, .int .u64 D, .int .u64 E, .int .i64 s, .int .i64 n] 27)) (.cells #[.int .i64 g] 3)
    have h1 := ((((((Below.refl (((w.alloc (.cells #[.slice a m c, .int .i64 S, .int .i64 C, .int .i64 N, .int .u64 D, .int .u64 E, .int .i64 s, .int .i64 n] 27)).alloc (.cells #[.int .i64 g] 3)).heap.size) _).alloc (by first | exact Nat.le_refl _ | (simp only [World.size_alloc]; omega)) (.cells #[.int .u64 x] 23)).alloc (by first | exact Nat.le_refl _ | (simp only [World.size_alloc]; omega)) (.cells #[.int .i64 t, .int .i64 u] 25)).alloc (by first | exact Nat.le_refl _ | (simp only [World.size_alloc]; omega)) (.cells #[.int .i64 b] 3)).alloc (by first | exact Nat.le_refl _ | (simp only [World.size_alloc]; omega)) (.cells #[.slice none 0 0, .int .i64 0, .int .i64 0, .int .i64 0, .int .u64 0, .int .u64 0, .int .i64 0, .int .i64 0] 27)).alloc (by first | exact Nat.le_refl _ | (simp only [World.size_alloc]; omega)) (.cells #[.int .u64 0] 23)).block (w.alloc (.cells #[.slice a m c, .int .i64 S, .int .i64 C, .int .i64 N, .int .u64 D, .int .u64 E, .int .i64 s, .int .i64 n] 27)).heap.size (by simp only [World.size_alloc]; omega) |>.trans h0
    have h2 := congrArg (fun z : World => z.heap[(w.alloc (.cells #[.slice a m c, .int .i64 S, .int .i64 C, .int .i64 N, .int .u64 D, .int .u64 E, .int .i64 s, .int .i64 n] 27)).heap.size]?) HW.out
    have h3 := h2.symm.trans h1
    simp only [World.size_alloc, Hg.out] at h3
    exact h3
  have HX2 : Hid (Un W (gg + 2) x) := by
    show Un W (gg + 2) x
    have h0 := heap_alloc_new ((w.alloc (.cells #[.slice a m c, .int .i64 S, .int .i64 C, .int .i64 N, .int .u64 D, .int .u64 E, .int .i64 s, .int .i64 n] 27)).alloc (.cells #[.int .i64 g] 3)) (.cells #[.int .u64 x] 23)
    have h1 := (((((Below.refl ((((w.alloc (.cells #[.slice a m c, .int .i64 S, .int .i64 C, .int .i64 N, .int .u64 D, .int .u64 E, .int .i64 s, .int .i64 n] 27)).alloc (.cells #[.int .i64 g] 3)).alloc (.cells #[.int .u64 x] 23)).heap.size) _).alloc (by first | exact Nat.le_refl _ | (simp only [World.size_alloc]; omega)) (.cells #[.int .i64 t, .int .i64 u] 25)).alloc (by first | exact Nat.le_refl _ | (simp only [World.size_alloc]; omega)) (.cells #[.int .i64 b] 3)).alloc (by first | exact Nat.le_refl _ | (simp only [World.size_alloc]; omega)) (.cells #[.slice none 0 0, .int .i64 0, .int .i64 0, .int .i64 0, .int .u64 0, .int .u64 0, .int .i64 0, .int .i64 0] 27)).alloc (by first | exact Nat.le_refl _ | (simp only [World.size_alloc]; omega)) (.cells #[.int .u64 0] 23)).block ((w.alloc (.cells #[.slice a m c, .int .i64 S, .int .i64 C, .int .i64 N, .int .u64 D, .int .u64 E, .int .i64 s, .int .i64 n] 27)).alloc (.cells #[.int .i64 g] 3)).heap.size (by simp only [World.size_alloc]; omega) |>.trans h0
    have h2 := congrArg (fun z : World => z.heap[((w.alloc (.cells #[.slice a m c, .int .i64 S, .int .i64 C, .int .i64 N, .int .u64 D, .int .u64 E, .int .i64 s, .int .i64 n] 27)).alloc (.cells #[.int .i64 g] 3)).heap.size]?) HW.out
    have h3 := h2.symm.trans h1
    simp only [World.size_alloc, Hg.out] at h3
    exact h3
  have HX3 : Hid (Sm W (gg + 3) t u) := by
    show Sm W (gg + 3) t u
    have h0 := heap_alloc_new (((w.alloc (.cells #[.slice a m c, .int .i64 S, .int .i64 C, .int .i64 N, .int .u64 D, .int .u64 E, .int .i64 s, .int .i64 n] 27)).alloc (.cells #[.int .i64 g] 3)).alloc (.cells #[.int .u64 x] 23)) (.cells #[.int .i64 t, .int .i64 u] 25)
    have h1 := ((((Below.refl (((((w.alloc (.cells #[.slice a m c, .int .i64 S, .int .i64 C, .int .i64 N, .int .u64 D, .int .u64 E, .int .i64 s, .int .i64 n] 27)).alloc (.cells #[.int .i64 g] 3)).alloc (.cells #[.int .u64 x] 23)).alloc (.cells #[.int .i64 t, .int .i64 u] 25)).heap.size) _).alloc (by first | exact Nat.le_refl _ | (simp only [World.size_alloc]; omega)) (.cells #[.int .i64 b] 3)).alloc (by first | exact Nat.le_refl _ | (simp only [World.size_alloc]; omega)) (.cells #[.slice none 0 0, .int .i64 0, .int .i64 0, .int .i64 0, .int .u64 0, .int .u64 0, .int .i64 0, .int .i64 0] 27)).alloc (by first | exact Nat.le_refl _ | (simp only [World.size_alloc]; omega)) (.cells #[.int .u64 0] 23)).block (((w.alloc (.cells #[.slice a m c, .int .i64 S, .int .i64 C, .int .i64 N, .int .u64 D, .int .u64 E, .int .i64 s, .int .i64 n] 27)).alloc (.cells #[.int .i64 g] 3)).alloc (.cells #[.int .u64 x] 23)).heap.size (by simp only [World.size_alloc]; omega) |>.trans h0
    have h2 := congrArg (fun z : World => z.heap[(((w.alloc (.cells #[.slice a m c, .int .i64 S, .int .i64 C, .int .i64 N, .int .u64 D, .int .u64 E, .int .i64 s, .int .i64 n] 27)).alloc (.cells #[.int .i64 g] 3)).alloc (.cells #[.int .u64 x] 23)).heap.size]?) HW.out
    have h3 := h2.symm.trans h1
    simp only [World.size_alloc, Hg.out] at h3
    exact h3
  have HX4 : Hid (Ui W (gg + 4) b) := by
    show Ui W (gg + 4) b
    have h0 := heap_alloc_new ((((w.alloc (.cells #[.slice a m c, .int .i64 S, .int .i64 C, .int .i64 N, .int .u64 D, .int .u64 E, .int .i64 s, .int .i64 n] 27)).alloc (.cells #[.int .i64 g] 3)).alloc (.cells #[.int .u64 x] 23)).alloc (.cells #[.int .i64 t, .int .i64 u] 25)) (.cells #[.int .i64 b] 3)
    have h1 := (((Below.refl ((((((w.alloc (.cells #[.slice a m c, .int .i64 S, .int .i64 C, .int .i64 N, .int .u64 D, .int .u64 E, .int .i64 s, .int .i64 n] 27)).alloc (.cells #[.int .i64 g] 3)).alloc (.cells #[.int .u64 x] 23)).alloc (.cells #[.int .i64 t, .int .i64 u] 25)).alloc (.cells #[.int .i64 b] 3)).heap.size) _).alloc (by first | exact Nat.le_refl _ | (simp only [World.size_alloc]; omega)) (.cells #[.slice none 0 0, .int .i64 0, .int .i64 0, .int .i64 0, .int .u64 0, .int .u64 0, .int .i64 0, .int .i64 0] 27)).alloc (by first | exact Nat.le_refl _ | (simp only [World.size_alloc]; omega)) (.cells #[.int .u64 0] 23)).block ((((w.alloc (.cells #[.slice a m c, .int .i64 S, .int .i64 C, .int .i64 N, .int .u64 D, .int .u64 E, .int .i64 s, .int .i64 n] 27)).alloc (.cells #[.int .i64 g] 3)).alloc (.cells #[.int .u64 x] 23)).alloc (.cells #[.int .i64 t, .int .i64 u] 25)).heap.size (by simp only [World.size_alloc]; omega) |>.trans h0
    have h2 := congrArg (fun z : World => z.heap[((((w.alloc (.cells #[.slice a m c, .int .i64 S, .int .i64 C, .int .i64 N, .int .u64 D, .int .u64 E, .int .i64 s, .int .i64 n] 27)).alloc (.cells #[.int .i64 g] 3)).alloc (.cells #[.int .u64 x] 23)).alloc (.cells #[.int .i64 t, .int .i64 u] 25)).heap.size]?) HW.out
    have h3 := h2.symm.trans h1
    simp only [World.size_alloc, Hg.out] at h3
    exact h3
  have HX5 : Hid (Lm W (gg + 5) none 0 0 0 0 0 0 0 0 0) := by
    show Lm W (gg + 5) none 0 0 0 0 0 0 0 0 0
    have h0 := heap_alloc_new (((((w.alloc (.cells #[.slice a m c, .int .i64 S, .int .i64 C, .int .i64 N, .int .u64 D, .int .u64 E, .int .i64 s, .int .i64 n] 27)).alloc (.cells #[.int .i64 g] 3)).alloc (.cells #[.int .u64 x] 23)).alloc (.cells #[.int .i64 t, .int .i64 u] 25)).alloc (.cells #[.int .i64 b] 3)) (.cells #[.slice none 0 0, .int .i64 0, .int .i64 0, .int .i64 0, .int .u64 0, .int .u64 0, .int .i64 0, .int .i64 0] 27)
    have h1 := ((Below.refl (((((((w.alloc (.cells #[.slice a m c, .int .i64 S, .int .i64 C, .int .i64 N, .int .u64 D, .int .u64 E, .int .i64 s, .int .i64 n] 27)).alloc (.cells #[.int .i64 g] 3)).alloc (.cells #[.int .u64 x] 23)).alloc (.cells #[.int .i64 t, .int .i64 u] 25)).alloc (.cells #[.int .i64 b] 3)).alloc (.cells #[.slice none 0 0, .int .i64 0, .int .i64 0, .int .i64 0, .int .u64 0, .int .u64 0, .int .i64 0, .int .i64 0] 27)).heap.size) _).alloc (by first | exact Nat.le_refl _ | (simp only [World.size_alloc]; omega)) (.cells #[.int .u64 0] 23)).block (((((w.alloc (.cells #[.slice a m c, .int .i64 S, .int .i64 C, .int .i64 N, .int .u64 D, .int .u64 E, .int .i64 s, .int .i64 n] 27)).alloc (.cells #[.int .i64 g] 3)).alloc (.cells #[.int .u64 x] 23)).alloc (.cells #[.int .i64 t, .int .i64 u] 25)).alloc (.cells #[.int .i64 b] 3)).heap.size (by simp only [World.size_alloc]; omega) |>.trans h0
    have h2 := congrArg (fun z : World => z.heap[(((((w.alloc (.cells #[.slice a m c, .int .i64 S, .int .i64 C, .int .i64 N, .int .u64 D, .int .u64 E, .int .i64 s, .int .i64 n] 27)).alloc (.cells #[.int .i64 g] 3)).alloc (.cells #[.int .u64 x] 23)).alloc (.cells #[.int .i64 t, .int .i64 u] 25)).alloc (.cells #[.int .i64 b] 3)).heap.size]?) HW.out
    have h3 := h2.symm.trans h1
    simp only [World.size_alloc, Hg.out] at h3
    exact h3
  have HX6 : Hid (Un W (gg + 6) 0) := by
    show Un W (gg + 6) 0
    have h0 := heap_alloc_new ((((((w.alloc (.cells #[.slice a m c, .int .i64 S, .int .i64 C, .int .i64 N, .int .u64 D, .int .u64 E, .int .i64 s, .int .i64 n] 27)).alloc (.cells #[.int .i64 g] 3)).alloc (.cells #[.int .u64 x] 23)).alloc (.cells #[.int .i64 t, .int .i64 u] 25)).alloc (.cells #[.int .i64 b] 3)).alloc (.cells #[.slice none 0 0, .int .i64 0, .int .i64 0, .int .i64 0, .int .u64 0, .int .u64 0, .int .i64 0, .int .i64 0] 27)) (.cells #[.int .u64 0] 23)
    have h1 := (Below.refl ((((((((w.alloc (.cells #[.slice a m c, .int .i64 S, .int .i64 C, .int .i64 N, .int .u64 D, .int .u64 E, .int .i64 s, .int .i64 n] 27)).alloc (.cells #[.int .i64 g] 3)).alloc (.cells #[.int .u64 x] 23)).alloc (.cells #[.int .i64 t, .int .i64 u] 25)).alloc (.cells #[.int .i64 b] 3)).alloc (.cells #[.slice none 0 0, .int .i64 0, .int .i64 0, .int .i64 0, .int .u64 0, .int .u64 0, .int .i64 0, .int .i64 0] 27)).alloc (.cells #[.int .u64 0] 23)).heap.size) _).block ((((((w.alloc (.cells #[.slice a m c, .int .i64 S, .int .i64 C, .int .i64 N, .int .u64 D, .int .u64 E, .int .i64 s, .int .i64 n] 27)).alloc (.cells #[.int .i64 g] 3)).alloc (.cells #[.int .u64 x] 23)).alloc (.cells #[.int .i64 t, .int .i64 u] 25)).alloc (.cells #[.int .i64 b] 3)).alloc (.cells #[.slice none 0 0, .int .i64 0, .int .i64 0, .int .i64 0, .int .u64 0, .int .u64 0, .int .i64 0, .int .i64 0] 27)).heap.size (by simp only [World.size_alloc]; omega) |>.trans h0
    have h2 := congrArg (fun z : World => z.heap[((((((w.alloc (.cells #[.slice a m c, .int .i64 S, .int .i64 C, .int .i64 N, .int .u64 D, .int .u64 E, .int .i64 s, .int .i64 n] 27)).alloc (.cells #[.int .i64 g] 3)).alloc (.cells #[.int .u64 x] 23)).alloc (.cells #[.int .i64 t, .int .i64 u] 25)).alloc (.cells #[.int .i64 b] 3)).alloc (.cells #[.slice none 0 0, .int .i64 0, .int .i64 0, .int .i64 0, .int .u64 0, .int .u64 0, .int .i64 0, .int .i64 0] 27)).heap.size]?) HW.out
    have h3 := h2.symm.trans h1
    simp only [World.size_alloc, Hg.out] at h3
    exact h3
  have HLI := hid (h.on HBW.out)
  have hkl := hid h.k.1
  obtain ⟨vq, hv⟩ : ∃ q, lok m S C N s n = q := ⟨_, rfl⟩
  have HLK : Hid (lokL ⟨k, S, C, N, D, E, s, n⟩ = vq) := by show lok k.length S C N s n = vq; rw [hkl.out]; exact hv
  have HBD : Hid (vq = true → 1 ≤ C ∧ C ≤ 2147483647 ∧ 0 ≤ N ∧ N ≤ 2147483647) := fun hvt => by
    have hh := lokL_of (HLK.out.trans hvt)
    simp only at hh
    omega
  obtain ⟨q, hq⟩ : ∃ q, (blk b && (wtn g (C + 1) 2147483647 && (decide (x ≤ 18446744073709551614) && (vld t u && lss s n t u)))) = q := ⟨_, rfl⟩
  have e1 : ∀ z : Bool, (z && blk b && vld t u && lss s n t u && decide (C < g ∧ g ≤ 2147483647 ∧ x ≤ 18446744073709551614)) = (z && q) := by
    intro z
    rw [← hq]
    have e3 : decide (C < g ∧ g ≤ 2147483647 ∧ x ≤ 18446744073709551614) = (wtn g (C + 1) 2147483647 && decide (x ≤ 18446744073709551614)) := by
      unfold wtn
      rw [← Bool.decide_and]
      exact decide_eq_decide.2 (by omega)
    rw [e3]
    cases z <;> cases blk b <;> cases vld t u <;> cases lss s n t u <;> cases wtn g (C + 1) 2147483647 <;> cases decide (x ≤ 18446744073709551614) <;> rfl
  have e2 : True := trivial
  obtain ⟨R, HR⟩ : ∃ R, Hid (ansL ⟨k, S, C, N, D, E, s, n⟩ g x t u b = R) := ⟨_, rfl⟩
  rw [HR.out]
  obtain ⟨ee, HEE⟩ : ∃ z : Int, Hid (z = if vq then erq q else 2) := ⟨_, rfl⟩
  obtain ⟨jv, Hjv⟩ : ∃ z : Int, Hid ((if vq && q then (if g ≤ N then 1 else 0) else 0) = z) := ⟨_, rfl⟩
  have HAN : Hid (ansN ⟨k, S, C, N, D, E, s, n⟩ g x t u b = jv) := by
    show _ = _
    rw [← Hjv.out]
    unfold ansN ansB ansC
    simp only [e1]
    rw [HLK.out]
  have HRR : Hid (R = if vq && decide (erq q = 0) then ⟨k, S, g, N, upN (if g ≤ N then 1 else 0) b, upN x b, t, u⟩ else lzero) := by
    show _ = _
    rw [← HR.out]
    unfold ansL ansB ansC
    simp only [e1]
    rw [HLK.out]
    cases vq <;> cases q <;> first | rfl | (simp only [e2]; rfl)
  have kch := lchangedW_ a m c k S C N D E s n W HLI.out (fun z => z = gg + 6) (fun z => Un z (gg + 6) jv) (fun z hz => by have := HWS.out; omega) (fun w1 w2 h1 h2 => h1.at (h2 _ rfl)) vq hv (fun hvf => by have e : jv = 0 := (by rw [← Hjv.out, hvf]; rfl); rw [e]; exact HX6.out) (erq q) g N (upN (if g ≤ N then 1 else 0) b) (upN x b) t u (.pointer (some ⟨gg + 4, 0, none⟩)) (.pointer (some ⟨gg + 1, 0, none⟩)) (.pointer (some ⟨gg + 2, 0, none⟩)) (.pointer (some ⟨gg + 3, 0, none⟩)) (.pointer (some ⟨gg + 6, 0, none⟩)) (fun hvt wq qa qc hb hl => (lanswered1_ W.heap.size (gg + 4) (gg + 1) (gg + 2) (gg + 3) (gg + 6) qa 32 qc S C N D E s n g x t u b wq hl (Bw.cell hb HX4.out.c) (Bw.cell hb HX1.out.c) (Bw.cell hb HX2.out.c) (Bw.cell hb HX3.out.c0) (Bw.cell hb HX3.out.c1) (HX6.out.at (hb.block _ HX6.out.lt)) (by have := HWS.out; omega) (by have := HWS.out; omega) (by have := HWS.out; omega) (by have := HWS.out; omega) (by have := HWS.out; omega) (by have := HBD.out hvt; omega) (by have := HBD.out hvt; omega) rb hx h.s h.n ht hu q hq).mono fun e w' hh => ⟨hh.e, fun he => hh.l (erq_true he), hh.f.weak fun _ _ h3 => h3, by have e : jv = (if q then (if g ≤ N then 1 else 0) else 0) := (by rw [← Hjv.out, hvt]; rfl); rw [e]; exact hh.u⟩) R ee HRR.out HEE.out
  rw [HAN.out]
  obtain ⟨k1, S1, C1, N1, D1, E1, s1, n1⟩ := R
  obtain ⟨M1, HM1⟩ : ∃ z, Hid (k1.length = z) := ⟨_, rfl⟩
  clear h hv hq e1 e2
  go_enter Tryz.func8, Tryz.ntmps8
  go_wp2_with fail
  rw [HW.out, Hg.out]
  refine kch.mono ?_
  rintro e1 w1 ⟨⟨ka, kc, rfl, vs⟩, f1, j1⟩
  simp only [HM1.out] at vs
  simp only [HM1.out]
  have HF1 := hid f1
  have HZ1 := hid (HX5.out.at (w' := w1) (HF1.out.block _ HX5.out.lt (by show ¬ _ = _; omega)))
  have HVS := hid vs
  have HS1 : Hid (gg + 7 ≤ w1.heap.size) := by have := HF1.out.size; have := HWS.out; show _ ≤ _; omega
  have HJ1 := hid j1
  clear kch f1 vs HW
  have HLa := hid (Lm.new w1 ka M1 kc S1 C1 N1 D1 E1 s1 n1)
  have HBa := hid (lnew w1 ka M1 kc S1 C1 N1 D1 E1 s1 n1)
  have HVa := hid (HVS.out.step (w' := w1.alloc (.cells #[.slice ka M1 kc, .int .i64 S1, .int .i64 C1, .int .i64 N1, .int .u64 D1, .int .u64 E1, .int .i64 s1, .int .i64 n1] 27)) fun x hx _ _ => HBa.out.block x hx)
  have HZ2 := hid (HZ1.out.kept HBa.out)
  have HJ2 := hid (HJ1.out.at (HBa.out.block _ HJ1.out.lt))
  obtain ⟨za, HZa⟩ : ∃ y, Hid (w1.alloc (.cells #[.slice ka M1 kc, .int .i64 S1, .int .i64 C1, .int .i64 N1, .int .u64 D1, .int .u64 E1, .int .i64 s1, .int .i64 n1] 27) = y) := ⟨_, rfl⟩
  obtain ⟨pa, HPa⟩ : ∃ y, Hid (w1.heap.size = y) := ⟨_, rfl⟩
  rw [HZa.out] at HLa HVa HZ2 HBa HJ2
  rw [HPa.out] at HLa
  go_upto_region 3 with fail
  rw [HZa.out, HPa.out]
  have y0 := HLa.out.c0
  have y1 := HLa.out.c1
  have y2 := HLa.out.c2
  have y3 := HLa.out.c3
  have y4 := HLa.out.c4
  have y5 := HLa.out.c5
  have y6 := HLa.out.c6
  have y7 := HLa.out.c7
  have yj := HJ2.out.c
  have hpa : pa ≠ (gg + 5) := by have := HS1.out; have := HPa.out; omega
  have zf0 := HZ2.out.fz 0
  have zf1 := HZ2.out.fz 1
  have zf2 := HZ2.out.fz 2
  have zf3 := HZ2.out.fz 3
  have zf4 := HZ2.out.fz 4
  have zf5 := HZ2.out.fz 5
  have zf6 := HZ2.out.fz 6
  have zf7 := HZ2.out.fz 7
  have zc0 := HZ2.out.c0
  have zc1 := HZ2.out.c1
  have zc2 := HZ2.out.c2
  have zc3 := HZ2.out.c3
  have zc4 := HZ2.out.c4
  have zc5 := HZ2.out.c5
  have zc6 := HZ2.out.c6
  have zc7 := HZ2.out.c7
  have t0 := (set8_cellL (w := za) (g := (gg + 5)) (p := ⟨pa, 0, none⟩) hpa (.slice ka M1 kc) (.int .i64 S1) (.int .i64 C1) (.int .i64 N1) (.int .u64 D1) (.int .u64 E1) (.int .i64 s1) (.int .i64 n1)).trans y0
  have t1 := (set8_cellL (w := za) (g := (gg + 5)) (p := ⟨pa, 1, none⟩) hpa (.slice ka M1 kc) (.int .i64 S1) (.int .i64 C1) (.int .i64 N1) (.int .u64 D1) (.int .u64 E1) (.int .i64 s1) (.int .i64 n1)).trans y1
  have t2 := (set8_cellL (w := za) (g := (gg + 5)) (p := ⟨pa, 2, none⟩) hpa (.slice ka M1 kc) (.int .i64 S1) (.int .i64 C1) (.int .i64 N1) (.int .u64 D1) (.int .u64 E1) (.int .i64 s1) (.int .i64 n1)).trans y2
  have t3 := (set8_cellL (w := za) (g := (gg + 5)) (p := ⟨pa, 3, none⟩) hpa (.slice ka M1 kc) (.int .i64 S1) (.int .i64 C1) (.int .i64 N1) (.int .u64 D1) (.int .u64 E1) (.int .i64 s1) (.int .i64 n1)).trans y3
  have t4 := (set8_cellL (w := za) (g := (gg + 5)) (p := ⟨pa, 4, none⟩) hpa (.slice ka M1 kc) (.int .i64 S1) (.int .i64 C1) (.int .i64 N1) (.int .u64 D1) (.int .u64 E1) (.int .i64 s1) (.int .i64 n1)).trans y4
  have t5 := (set8_cellL (w := za) (g := (gg + 5)) (p := ⟨pa, 5, none⟩) hpa (.slice ka M1 kc) (.int .i64 S1) (.int .i64 C1) (.int .i64 N1) (.int .u64 D1) (.int .u64 E1) (.int .i64 s1) (.int .i64 n1)).trans y5
  have t6 := (set8_cellL (w := za) (g := (gg + 5)) (p := ⟨pa, 6, none⟩) hpa (.slice ka M1 kc) (.int .i64 S1) (.int .i64 C1) (.int .i64 N1) (.int .u64 D1) (.int .u64 E1) (.int .i64 s1) (.int .i64 n1)).trans y6
  have t7 := (set8_cellL (w := za) (g := (gg + 5)) (p := ⟨pa, 7, none⟩) hpa (.slice ka M1 kc) (.int .i64 S1) (.int .i64 C1) (.int .i64 N1) (.int .u64 D1) (.int .u64 E1) (.int .i64 s1) (.int .i64 n1)).trans y7
  have tj := (set8_cellL (w := za) (g := (gg + 5)) (p := ⟨gg + 6, 0, none⟩) (by show gg + 6 ≠ gg + 5; omega) (.slice ka M1 kc) (.int .i64 S1) (.int .i64 C1) (.int .i64 N1) (.int .u64 D1) (.int .u64 E1) (.int .i64 s1) (.int .i64 n1)).trans yj
  have HD := hid hpa
  clear hpa
  go_region_held (fun wx => wx.cell? ⟨pa, 0, none⟩ = some (.slice ka M1 kc) ∧ wx.cell? ⟨pa, 1, none⟩ = some (.int .i64 S1) ∧ wx.cell? ⟨pa, 2, none⟩ = some (.int .i64 C1) ∧ wx.cell? ⟨pa, 3, none⟩ = some (.int .i64 N1) ∧ wx.cell? ⟨pa, 4, none⟩ = some (.int .u64 D1) ∧ wx.cell? ⟨pa, 5, none⟩ = some (.int .u64 E1) ∧ wx.cell? ⟨pa, 6, none⟩ = some (.int .i64 s1) ∧ wx.cell? ⟨pa, 7, none⟩ = some (.int .i64 n1) ∧ wx.cell? ⟨gg + 6, 0, none⟩ = some (.int .u64 jv)) (first | go_keep | exact ⟨t0, t1, t2, t3, t4, t5, t6, t7, tj⟩) (fail)
  all_goals (
    go_wp2_with fail
    refine bodyPost_ret (v := .tuple #[.agg #[.slice ka M1 kc, .int .i64 S1, .int .i64 C1, .int .i64 N1, .int .u64 D1, .int .u64 E1, .int .i64 s1, .int .i64 n1], .int .u64 jv]) ?_ rfl ?_
    · exact results_ln rfl _ _ (gg + 5) ka M1 kc S1 C1 N1 D1 E1 s1 n1 _ rfl rfl (Lm.set8D (w := za) HZ2.out ka M1 kc S1 C1 N1 D1 E1 s1 n1)
    · refine ⟨_, rfl, ka, kc, by rw [HM1.out], ?_, ?_⟩
      · rw [HM1.out]
        exact (HVa.out.wide (V' := fun x => w.heap.size ≤ x ∧ x ≠ (gg + 5)) fun x _ hx => ⟨by have := HWS.out; have := Hg.out; omega, by have := HWS.out; omega⟩).step (fun x _ hx _ => set8_otherD hx.2 _ _ _ _ _ _ _ _) |>.wide fun x _ hx => hx.1
      · have b1 : Below gg W w1 := ⟨HF1.out.os, HF1.out.tape, HF1.out.output, HF1.out.size, fun i hi => HF1.out.block i (by have := HWS.out; omega) (by show ¬ i = gg + 6; omega)⟩
        have b2 := (HBW.out.mono (B' := gg) (by have := Hg.out; omega)).trans (b1.trans (HBa.out.mono (by have := HS1.out; omega)))
        rw [Hg.out]
        exact (set8_bel b2 (by omega) _ _ _ _ _ _ _ _).drew)
set_option maxHeartbeats 4000000 in
theorem lnew17_ (a : Option Addr) (m c : Nat) (k : List Int) (S : Int) (w : World) (hk : Bs w a m k) (hm : m ≤ 140737488351232) (hS : i64r S) :
    Calls Tryz.prog 10 #[.slice a m c, .int .i64 S] w fun e w' => Rl1 w (newL k S) e w' := by
  have h : Li w a m k S 1 0 0 0 0 0 := ⟨hk, hm, hS, by unfold i64r; omega, by unfold i64r; omega, by unfold u64r; omega, by unfold u64r; omega, by unfold i64r; omega, by unfold i64r; omega⟩
  have hmf : ∀ (fn : Fn) (first cap : Array Value) (w : World), (Instr.makeFunc fn first cap).run Tryz.prog w = .ok (.func fn first cap) w := fun _ _ _ _ => rfl
  obtain ⟨W, HW⟩ : ∃ y, Hid (((w.alloc (.cells #[.slice none 0 0, .int .i64 0, .int .i64 0, .int .i64 0, .int .u64 0, .int .u64 0, .int .i64 0, .int .i64 0] 27)).alloc (.cells #[.slice a m c, .int .i64 S, .int .i64 1, .int .i64 0, .int .u64 0, .int .u64 0, .int .i64 0, .int .i64 0] 27)) = y) := ⟨_, rfl⟩
  obtain ⟨gg, Hg⟩ : ∃ y, Hid (w.heap.size = y) := ⟨_, rfl⟩
  have HWS : Hid (W.heap.size = gg + 2) := by show _ = _; rw [← HW.out, ← Hg.out]; simp
  have HBW : Hid (Below w.heap.size w W) := by
    show Below _ _ _
    rw [← HW.out]
    exact ((Below.refl _ _).alloc (by first | exact Nat.le_refl _ | (simp only [World.size_alloc]; omega)) _).alloc (by first | exact Nat.le_refl _ | (simp only [World.size_alloc]; omega)) _
  have HX0 : Hid (Lm W gg none 0 0 0 0 0 0 0 0 0) := by
    show Lm W gg none 0 0 0 0 0 0 0 0 0
    have h0 := heap_alloc_new w (.cells #[.slice none 0 0, .int .i64 0, .int .i64 0, .int .i64 0, .int .u64 0, .int .u64 0, .int .i64 0, .int .i64 0] 27)
    have h1 := ((Below.refl ((w.alloc (.cells #[.slice none 0 0, .int .i64 0, .int .i64 0, .int .i64 0, .int .u64 0, .int .u64 0, .int .i64 0, .int .i64 0] 27)).heap.size) _).alloc (by first | exact Nat.le_refl _ | (simp only [World.size_alloc]; omega)) (.cells #[.slice a m c, .int .i64 S, .int .i64 1, .int .i64 0, .int .u64 0, .int .u64 0, .int .i64 0, .int .i64 0] 27)).block w.heap.size (by simp only [World.size_alloc]; omega) |>.trans h0
    have h2 := congrArg (fun z : World => z.heap[w.heap.size]?) HW.out
    have h3 := h2.symm.trans h1
    simp only [Hg.out] at h3
    exact h3
  have HX1 : Hid (Lm W (gg + 1) a m c S 1 0 0 0 0 0) := by
    show Lm W (gg + 1) a m c S 1 0 0 0 0 0
    have h0 := heap_alloc_new (w.alloc (.cells #[.slice none 0 0, .int .i64 0, .int .i64 0, .int .i64 0, .int .u64 0, .int .u64 0, .int .i64 0, .int .i64 0] 27)) (.cells #[.slice a m c, .int .i64 S, .int .i64 1, .int .i64 0, .int .u64 0, .int .u64 0, .int .i64 0, .int .i64 0] 27)
    have h1 := (Below.refl (((w.alloc (.cells #[.slice none 0 0, .int .i64 0, .int .i64 0, .int .i64 0, .int .u64 0, .int .u64 0, .int .i64 0, .int .i64 0] 27)).alloc (.cells #[.slice a m c, .int .i64 S, .int .i64 1, .int .i64 0, .int .u64 0, .int .u64 0, .int .i64 0, .int .i64 0] 27)).heap.size) _).block (w.alloc (.cells #[.slice none 0 0, .int .i64 0, .int .i64 0, .int .i64 0, .int .u64 0, .int .u64 0, .int .i64 0, .int .i64 0] 27)).heap.size (by simp only [World.size_alloc]; omega) |>.trans h0
    have h2 := congrArg (fun z : World => z.heap[(w.alloc (.cells #[.slice none 0 0, .int .i64 0, .int .i64 0, .int .i64 0, .int .u64 0, .int .u64 0, .int .i64 0, .int .i64 0] 27)).heap.size]?) HW.out
    have h3 := h2.symm.trans h1
    simp only [World.size_alloc, Hg.out] at h3
    exact h3
  have HLI := hid (h.on HBW.out)
  have hkl := hid h.k.1
  obtain ⟨vq, hv⟩ : ∃ q, lok m S 1 0 0 0 = q := ⟨_, rfl⟩

  obtain ⟨R, HR⟩ : ∃ R, Hid (newL k S = R) := ⟨_, rfl⟩
  rw [HR.out]
  obtain ⟨ee, HEE⟩ : ∃ z : Int, Hid (z = if vq then 0 else 2) := ⟨_, rfl⟩
  have HRR : Hid (R = if vq && decide ((0 : Int) = 0) then ⟨k, S, 1, 0, 0, 0, 0, 0⟩ else lzero) := by
    show _ = _
    rw [← HR.out, ← hv]
    unfold newL lok
    have e1 : decide (vld 0 0 = true ∧ m = 32 ∧ (S = 0 ∨ S = 1) ∧ (1 : Int) ≤ 1 ∧ (1 : Int) ≤ 2147483647 ∧ (0 : Int) ≤ 0 ∧ (0 : Int) ≤ 2147483647) = decide (k.length = 32 ∧ (S = 0 ∨ S = 1)) := decide_eq_decide.2 (by have := hkl.out; constructor; intro hh; exact ⟨by omega, hh.2.2.1⟩; intro hh; exact ⟨by decide, by omega, hh.2, by omega, by omega, by omega, by omega⟩)
    rw [e1]
    cases decide (k.length = 32 ∧ (S = 0 ∨ S = 1)) <;> rfl
  have kch := lchangedN_ a m c k S 1 0 0 0 0 0 W HLI.out (fun _ => False) (fun _ => True) (fun _ hh => hh.elim) (fun _ _ _ _ => trivial) vq hv (fun _ => trivial) 0 1 0 0 0 0 0 (fun hvt wq qa qc hb hl => (lnew1_ _ wq).mono fun e w' hh => ⟨hh.1, fun _ => (by rw [hh.2]; exact hl), (by rw [hh.2]; exact Fx.of _ (Below.refl _ _)), trivial⟩) R ee HRR.out HEE.out
  obtain ⟨k1, S1, C1, N1, D1, E1, s1, n1⟩ := R
  obtain ⟨M1, HM1⟩ : ∃ z, Hid (k1.length = z) := ⟨_, rfl⟩
  clear h hv hk hm hS
  go_enter Tryz.func10, Tryz.ntmps10
  go_wp2_with fail
  rw [HW.out, Hg.out]
  refine kch.mono ?_
  rintro e1 w1 ⟨⟨ka, kc, rfl, vs⟩, f1, j1⟩
  simp only [HM1.out] at vs
  simp only [HM1.out]
  have HF1 := hid (f1.bel fun _ _ hh => hh)
  have HZ1 := hid (HX0.out.at (w' := w1) (HF1.out.block _ HX0.out.lt))
  have HVS := hid vs
  have HS1 : Hid (gg + 2 ≤ w1.heap.size) := by have := HF1.out.size; have := HWS.out; show _ ≤ _; omega
  clear kch f1 vs HW
  have HLa := hid (Lm.new w1 ka M1 kc S1 C1 N1 D1 E1 s1 n1)
  have HBa := hid (lnew w1 ka M1 kc S1 C1 N1 D1 E1 s1 n1)
  have HVa := hid (HVS.out.step (w' := w1.alloc (.cells #[.slice ka M1 kc, .int .i64 S1, .int .i64 C1, .int .i64 N1, .int .u64 D1, .int .u64 E1, .int .i64 s1, .int .i64 n1] 27)) fun x hx _ _ => HBa.out.block x hx)
  have HZ2 := hid (HZ1.out.kept HBa.out)
  obtain ⟨za, HZa⟩ : ∃ y, Hid (w1.alloc (.cells #[.slice ka M1 kc, .int .i64 S1, .int .i64 C1, .int .i64 N1, .int .u64 D1, .int .u64 E1, .int .i64 s1, .int .i64 n1] 27) = y) := ⟨_, rfl⟩
  obtain ⟨pa, HPa⟩ : ∃ y, Hid (w1.heap.size = y) := ⟨_, rfl⟩
  rw [HZa.out] at HLa HVa HZ2 HBa
  rw [HPa.out] at HLa
  go_upto_region 3 with fail
  rw [HZa.out, HPa.out]
  have y0 := HLa.out.c0
  have y1 := HLa.out.c1
  have y2 := HLa.out.c2
  have y3 := HLa.out.c3
  have y4 := HLa.out.c4
  have y5 := HLa.out.c5
  have y6 := HLa.out.c6
  have y7 := HLa.out.c7
  go_wp2_with (refine wpList_sln rfl rfl _ _ rfl gg ka M1 kc S1 C1 N1 D1 E1 s1 n1 rfl rfl (by with_reducible exact HZ2.out) ?_)
  refine bodyPost_ret (v := .agg #[.slice ka M1 kc, .int .i64 S1, .int .i64 C1, .int .i64 N1, .int .u64 D1, .int .u64 E1, .int .i64 s1, .int .i64 n1]) ?_ rfl ?_
  · exact results_cell_row rfl _ _ gg _ _ _ _ rfl (HZ2.out.row ka M1 kc S1 C1 N1 D1 E1 s1 n1) Tryz.underlying27 rfl sizeln
  · refine ⟨_, rfl, ka, kc, by rw [HM1.out], ?_, ?_⟩
    · rw [HM1.out]
      exact (HVa.out.wide (V' := fun x => w.heap.size ≤ x ∧ x ≠ gg) fun x _ hx => ⟨by have := HWS.out; have := Hg.out; omega, by have := HWS.out; omega⟩).step (fun x _ hx _ => setRow_other _ _ _ _ hx.2) |>.wide fun x _ hx => hx.1
    · exact bel_row (bel_bel (bel_bel HBW.out HBW.out.size HF1.out) (Nat.le_trans HBW.out.size HF1.out.size) HBa.out) (by have := Hg.out; omega) _
/-- Package lane keeps what is asked of it. -/
theorem llc : LL where
  valid := fun a m c k S C N D E s n w hm hs hn => lvalid_ a m c S C N D E s n w hm hs hn
  new := lnew17_
  up := fun c b w hc hb => (lup_ c b w hc hb).mono fun e w' h => ⟨h.1, by rw [h.2]; exact Below.refl _ _⟩
  again := lagain_
  propose := lpropose_
  reserve := lreserve_
  answered := lanswered_
  opened := lopened_
  raise := lraise_
end Go.Proofs.YtbkeejapongmlaaGreatDoor
