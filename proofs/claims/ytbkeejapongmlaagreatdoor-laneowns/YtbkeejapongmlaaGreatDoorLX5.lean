import Derived.Test.YtbkeejapongmlaaGreatDoorLX4
namespace Go.Proofs.YtbkeejapongmlaaGreatDoor
set_option maxRecDepth 100000
open Go.RowKit
set_option linter.unusedVariables false

/-- A lane as changed answers it. -/
structure Rc (w : World) (X : Nat → Prop) (J : World → Prop) (R : Ln) (E : Int) (e : Ending) (w' : World) : Prop where
  v : ∃ ka kc, e = .returned (.tuple #[.agg #[.slice ka R.k.length kc, .int .i64 R.S, .int .i64 R.C, .int .i64 R.N, .int .u64 R.D, .int .u64 R.E, .int .i64 R.s, .int .i64 R.n], .int .i64 E]) ∧ Vs w' (fun x => w.heap.size ≤ x) ka R.k.length kc R.k
  f : Fx X w w'
  j : J w'
/-- What is asked of the literal, from the world in which changed begins on. -/
def Lt (w : World) (X : Nat → Prop) (J : World → Prop) (er : Int) (S C N D E s n C' N' D' E' s' n' : Int) (F : Nat) (caps : Value → Array Value) : Prop :=
  ∀ (wq : World) (ka : Option Addr) (kc : Nat), Below w.heap.size w wq → Lm wq w.heap.size ka 32 kc S C N D E s n →
    Calls Tryz.prog F (caps (.pointer (some ⟨w.heap.size, 0, none⟩))) wq fun e w' => e = .returned (.int .i64 er) ∧ (er = 0 → Lm w' w.heap.size ka 32 kc S C' N' D' E' s' n') ∧ Fx (fun k => k = w.heap.size ∨ X k) wq w' ∧ J w'
theorem setRow_other (w : World) (g k : Nat) (ds : Array Value) (h : k ≠ g) : (w.setRow g ds).heap[k]? = w.heap[k]? := (bel_row (B := k + 1) (g := g + k + 1) (Below.refl _ w) (by omega) ds).block k (by omega) |> fun _ => by
  simp only [World.setRow, Array.getElem?_modify]
  rw [if_neg (by omega)]
theorem Fx.row {X : Nat → Prop} {w w' : World} (h : Fx X w w') {g : Nat} (hg : w.heap.size ≤ g) (ds : Array Value) : Fx X w (w'.setRow g ds) :=
  have b := bel_row (B := w.heap.size) (Below.refl _ w') hg ds
  ⟨b.os.trans h.os, b.tape.trans h.tape, b.output.trans h.output, Nat.le_trans h.size b.size, fun k hk hX => (b.block k hk).trans (h.block k hk hX)⟩
set_option maxHeartbeats 4000000 in
theorem lchangedA_ (a : Option Addr) (m c : Nat) (k : List Int) (S C N D E s n : Int) (w : World) (h : Li w a m k S C N D E s n) (X : Nat → Prop) (J : World → Prop) (hX : ∀ x, X x → x < w.heap.size) (hJ : ∀ w1 w2, J w1 → (∀ x, X x → w2.heap[x]? = w1.heap[x]?) → J w2) (vq : Bool) (hv : lok m S C N s n = vq) (hj0 : vq = false → J w)
    (er C' N' D' E' s' n' : Int) (hc : vq = true → Lt w X J er S C N D E s n C' N' D' E' s' n' 23 (fun z => #[z])) (R : Ln) (e : Int) (hR : R = if vq && decide (er = 0) then ⟨k, S, C', N', D', E', s', n'⟩ else lzero) (he : e = if vq then er else 2) :
    Calls Tryz.prog 22 #[.agg #[.slice a m c, .int .i64 S, .int .i64 C, .int .i64 N, .int .u64 D, .int .u64 E, .int .i64 s, .int .i64 n], .func (.func 23) #[] #[]] w fun en w' => Rc w X J R e en w' := by
  have B1 := lnew w a m c S C N D E s n
  have B2 := B1.alloc (B := w.heap.size) (by simp) (.cells #[.slice none 0 0, .int .i64 0, .int .i64 0, .int .i64 0, .int .u64 0, .int .u64 0, .int .i64 0, .int .i64 0] 27)
  have m1 := (Lm.new w a m c S C N D E s n).kept (lnew _ none 0 0 0 0 0 0 0 0 0)
  have m2 := Lm.new (w.alloc (.cells #[.slice a m c, .int .i64 S, .int .i64 C, .int .i64 N, .int .u64 D, .int .u64 E, .int .i64 s, .int .i64 n] 27)) none 0 0 0 0 0 0 0 0 0
  rw [World.size_alloc] at m2
  obtain ⟨W, HW⟩ : ∃ y, Hid ((w.alloc (.cells #[.slice a m c, .int .i64 S, .int .i64 C, .int .i64 N, .int .u64 D, .int .u64 E, .int .i64 s, .int .i64 n] 27)).alloc (.cells #[.slice none 0 0, .int .i64 0, .int .i64 0, .int .i64 0, .int .u64 0, .int .u64 0, .int .i64 0, .int .i64 0] 27) = y) := ⟨_, rfl⟩
  obtain ⟨gg, Hg⟩ : ∃ y, Hid (w.heap.size = y) := ⟨_, rfl⟩
  have HWS : Hid (W.heap.size = gg + 2) := by show _ = _; rw [← HW.out, ← Hg.out]; simp
  rw [HW.out] at B2 m1 m2
  have HB2 := hid B2
  rw [Hg.out] at m1 m2
  have HM2 := hid m2
  have HM1 := hid m1
  have HL := hid (h.on B2)
  have hkl := hid h.k.1
  have kv := lvalid_ a m c S C N D E s n W (Nat.le_trans h.m (by unfold maxLen; omega)) h.s h.n
  rw [hv] at kv
  have HV := hid hv
  have HX := hid hX
  have HJ := hid hJ
  have HJ0 := hid hj0
  have HC := hid hc
  have HR := hid hR
  have HE := hid he
  have y0 := m1.c0
  have y1 := m1.c1
  have y2 := m1.c2
  have y3 := m1.c3
  have y4 := m1.c4
  have y5 := m1.c5
  have y6 := m1.c6
  have y7 := m1.c7
  clear B1 B2 m1 m2 h hv hX hJ hj0 hc hR he
  go_enter Tryz.func22, Tryz.ntmps22
  go_wp2_with fail
  rw [HW.out, Hg.out]
  refine kv.mono ?_
  rintro e1 w1 ⟨rfl, g1⟩
  have HB1 : Hid (Below w.heap.size w w1) := bel_bel HB2.out HB2.out.size g1
  have HN1 := hid (HM1.out.kept g1)
  have HZ1 := hid (HM2.out.kept g1)
  have HL1 := hid (HL.out.on g1)
  have HS1 : Hid (gg + 2 ≤ w1.heap.size) := by have := g1.size; have := HWS.out; show _ ≤ _; omega
  clear kv g1 y0 y1 y2 y3 y4 y5 y6 y7 HW HB2 HM1 HM2 HL
  cases vq with
  | false =>
    obtain rfl : e = 2 := HE.out
    obtain rfl : R = lzero := HR.out
    have HJJ : Hid (J w1) := HJ.out w w1 (HJ0.out rfl) fun x hx => HB1.out.block x (HX.out x hx)
    go_wp2_with (refine wpList_sln rfl rfl _ _ rfl (gg + 1) none 0 0 0 0 0 0 0 0 0 rfl rfl (by with_reducible exact HZ1.out) ?_)
    refine bodyPost_ret (v := .tuple #[.agg #[.slice none 0 0, .int .i64 0, .int .i64 0, .int .i64 0, .int .u64 0, .int .u64 0, .int .i64 0, .int .i64 0], .int .i64 2]) ?_ rfl ?_
    · exact results_ln rfl _ _ (gg + 1) none 0 0 0 0 0 0 0 0 0 _ rfl rfl (HZ1.out.row none 0 0 0 0 0 0 0 0 0)
    · refine ⟨⟨none, 0, rfl, vs_none _ _⟩, (Fx.of X HB1.out).row (by have := Hg.out; omega) _, HJ.out w1 _ HJJ.out fun x hx => setRow_other _ _ _ _ (by have := HX.out x hx; have := Hg.out; omega)⟩
  | true =>
    obtain ⟨-, rfl, hrest⟩ := lokL_of (l := ⟨k, S, C, N, D, E, s, n⟩) (by show lok k.length S C N s n = true; rw [hkl.out]; exact HV.out) |> fun hh => (show True ∧ m = 32 ∧ True from ⟨trivial, hkl.out.symm.trans hh.2.1, trivial⟩)
    clear hrest
    have kc := lclone_ a c k w1 HL1.out.k
    have y0 := HN1.out.c0
    go_wp2_with fail
    refine kc.mono ?_
    rintro e1 w2 ⟨v1, rfl, o1, g2⟩
    obtain ⟨ka, kc2, rfl, vs⟩ := Vs.ofOwn o1 HL1.out.k.2.1
    have HB3 : Hid (Below w.heap.size w w2) := bel_bel HB1.out HB1.out.size g2
    have n2 := HN1.out.kept g2
    have HZ2 := hid (HZ1.out.kept g2)
    have n3 := n2.key ka 32 kc2
    have f0 := n2.fz 0
    have d0 := n2.c0
    have HN3 := hid n3
    have HZ3 := hid (HZ2.out.at (w' := w2.setCell ⟨gg, 0, none⟩ (.slice ka 32 kc2)) (Below.heap_setCell _ _ _ _ (by show gg + 1 ≠ gg; omega)))
    have HV3 : Hid (Vs (w2.setCell ⟨gg, 0, none⟩ (.slice ka 32 kc2)) (fun x => w1.heap.size ≤ x) ka 32 kc2 k) := vs.step fun x _ hx _ => Below.heap_setCell _ _ _ _ (by have := HS1.out; show x ≠ gg; omega)
    have HB4 : Hid (Below w.heap.size w (w2.setCell ⟨gg, 0, none⟩ (.slice ka 32 kc2))) := HB3.out.setCell (by show w.heap.size ≤ gg; have := Hg.out; omega) _
    obtain ⟨w3, HW3⟩ : ∃ y, Hid (w2.setCell ⟨gg, 0, none⟩ (.slice ka 32 kc2) = y) := ⟨_, rfl⟩
    rw [HW3.out] at HN3 HZ3 HV3 HB4
    clear kc o1 vs n2 n3 y0 HN1 HZ1 HZ2 HL1 HB1 g2 HB3
    have kt := HC.out (by trivial) w3 ka kc2 HB4.out (by rw [Hg.out]; exact HN3.out)
    rw [Hg.out] at kt
    clear HC
    by_cases hz : er = 0
    · subst hz
      obtain rfl : e = 0 := HE.out
      obtain rfl : R = ⟨k, S, C', N', D', E', s', n'⟩ := HR.out
      go_wp2_with fail
      rw [HW3.out]
      refine kt.mono ?_
      rintro e1 w4 ⟨rfl, l4, f4, j4⟩
      have n4 := l4 (by trivial)
      have HF4 : Hid (Fx X w w4) := ⟨f4.os.trans HB4.out.os, f4.tape.trans HB4.out.tape, f4.output.trans HB4.out.output, Nat.le_trans HB4.out.size f4.size, fun i hi hx => (f4.block i (Nat.lt_of_lt_of_le hi HB4.out.size) (by have := Hg.out; intro o; rcases o with o | o; omega; exact hx o)).trans (HB4.out.block i hi)⟩
      have HZ4 := hid (HZ3.out.at (w' := w4) (f4.block _ HZ3.out.lt (by intro o; rcases o with o | o; omega; have := HX.out _ o; have := Hg.out; omega)))
      have HV4 : Hid (Vs w4 (fun x => w1.heap.size ≤ x) ka 32 kc2 k) := HV3.out.step fun x hx hy _ => f4.block x hx (by have := HS1.out; intro o; rcases o with o | o; omega; have := HX.out _ o; have := Hg.out; omega)
      have HJ4 := hid j4
      have y0 := n4.c0
      have y1 := n4.c1
      have y2 := n4.c2
      have y3 := n4.c3
      have y4 := n4.c4
      have y5 := n4.c5
      have y6 := n4.c6
      have y7 := n4.c7
      clear l4 f4 j4 n4 kt HN3 HZ3 HV3 HB4 HW3 f0 d0
      go_wp2_with (refine wpList_sln rfl rfl _ _ rfl (gg + 1) ka 32 kc2 S C' N' D' E' s' n' rfl rfl (by with_reducible exact HZ4.out) ?_)
      refine bodyPost_ret (v := .tuple #[.agg #[.slice ka 32 kc2, .int .i64 S, .int .i64 C', .int .i64 N', .int .u64 D', .int .u64 E', .int .i64 s', .int .i64 n'], .int .i64 0]) ?_ rfl ?_
      · exact results_ln rfl _ _ (gg + 1) ka 32 kc2 S C' N' D' E' s' n' _ rfl rfl (HZ4.out.row ka 32 kc2 S C' N' D' E' s' n')
      · refine ⟨⟨ka, kc2, by rw [hkl.out], ?_⟩, HF4.out.row (by have := Hg.out; omega) _, HJ.out w4 _ HJ4.out fun x hx => setRow_other _ _ _ _ (by have := HX.out x hx; have := Hg.out; omega)⟩
        rw [hkl.out]
        exact (HV4.out.wide (V' := fun x => w.heap.size ≤ x ∧ x ≠ gg + 1) fun x _ hx => ⟨by have := HS1.out; have := Hg.out; omega, by have := HS1.out; omega⟩).step (fun x _ hx _ => setRow_other _ _ _ _ hx.2) |>.wide fun x _ hx => hx.1
    · obtain rfl : e = er := HE.out
      obtain rfl : R = lzero := by rw [HR.out, decide_eq_false hz]; rfl
      have hne : (e != 0) = true := bne_iff_ne.2 hz
      have HHZ := hid hz
      clear hz
      go_wp2_with fail
      rw [HW3.out]
      refine kt.mono ?_
      rintro e1 w4 ⟨rfl, l4, f4, j4⟩
      have HF4 : Hid (Fx X w w4) := ⟨f4.os.trans HB4.out.os, f4.tape.trans HB4.out.tape, f4.output.trans HB4.out.output, Nat.le_trans HB4.out.size f4.size, fun i hi hx => (f4.block i (Nat.lt_of_lt_of_le hi HB4.out.size) (by have := Hg.out; intro o; rcases o with o | o; omega; exact hx o)).trans (HB4.out.block i hi)⟩
      have HZ4 := hid (HZ3.out.at (w' := w4) (f4.block _ HZ3.out.lt (by intro o; rcases o with o | o; omega; have := HX.out _ o; have := Hg.out; omega)))
      have HJ4 := hid j4
      clear l4 f4 j4 kt HN3 HZ3 HV3 HB4 HW3 f0 d0
      go_wp2_with (refine wpList_sln rfl rfl _ _ rfl (gg + 1) none 0 0 0 0 0 0 0 0 0 rfl rfl (by with_reducible exact HZ4.out) ?_)
      refine bodyPost_ret (v := .tuple #[.agg #[.slice none 0 0, .int .i64 0, .int .i64 0, .int .i64 0, .int .u64 0, .int .u64 0, .int .i64 0, .int .i64 0], .int .i64 e]) ?_ rfl ?_
      · exact results_ln rfl _ _ (gg + 1) none 0 0 0 0 0 0 0 0 0 _ rfl rfl (HZ4.out.row none 0 0 0 0 0 0 0 0 0)
      · refine ⟨⟨none, 0, rfl, vs_none _ _⟩, HF4.out.row (by have := Hg.out; omega) _, HJ.out w4 _ HJ4.out fun x hx => setRow_other _ _ _ _ (by have := HX.out x hx; have := Hg.out; omega)⟩
set_option maxHeartbeats 4000000 in
theorem lchangedN_ (a : Option Addr) (m c : Nat) (k : List Int) (S C N D E s n : Int) (w : World) (h : Li w a m k S C N D E s n) (X : Nat → Prop) (J : World → Prop) (hX : ∀ x, X x → x < w.heap.size) (hJ : ∀ w1 w2, J w1 → (∀ x, X x → w2.heap[x]? = w1.heap[x]?) → J w2) (vq : Bool) (hv : lok m S C N s n = vq) (hj0 : vq = false → J w)
    (er C' N' D' E' s' n' : Int) (hc : vq = true → Lt w X J er S C N D E s n C' N' D' E' s' n' 32 (fun z => #[z])) (R : Ln) (e : Int) (hR : R = if vq && decide (er = 0) then ⟨k, S, C', N', D', E', s', n'⟩ else lzero) (he : e = if vq then er else 2) :
    Calls Tryz.prog 22 #[.agg #[.slice a m c, .int .i64 S, .int .i64 C, .int .i64 N, .int .u64 D, .int .u64 E, .int .i64 s, .int .i64 n], .func (.func 32) #[] #[]] w fun en w' => Rc w X J R e en w' := by
  have B1 := lnew w a m c S C N D E s n
  have B2 := B1.alloc (B := w.heap.size) (by simp) (.cells #[.slice none 0 0, .int .i64 0, .int .i64 0, .int .i64 0, .int .u64 0, .int .u64 0, .int .i64 0, .int .i64 0] 27)
  have m1 := (Lm.new w a m c S C N D E s n).kept (lnew _ none 0 0 0 0 0 0 0 0 0)
  have m2 := Lm.new (w.alloc (.cells #[.slice a m c, .int .i64 S, .int .i64 C, .int .i64 N, .int .u64 D, .int .u64 E, .int .i64 s, .int .i64 n] 27)) none 0 0 0 0 0 0 0 0 0
  rw [World.size_alloc] at m2
  obtain ⟨W, HW⟩ : ∃ y, Hid ((w.alloc (.cells #[.slice a m c, .int .i64 S, .int .i64 C, .int .i64 N, .int .u64 D, .int .u64 E, .int .i64 s, .int .i64 n] 27)).alloc (.cells #[.slice none 0 0, .int .i64 0, .int .i64 0, .int .i64 0, .int .u64 0, .int .u64 0, .int .i64 0, .int .i64 0] 27) = y) := ⟨_, rfl⟩
  obtain ⟨gg, Hg⟩ : ∃ y, Hid (w.heap.size = y) := ⟨_, rfl⟩
  have HWS : Hid (W.heap.size = gg + 2) := by show _ = _; rw [← HW.out, ← Hg.out]; simp
  rw [HW.out] at B2 m1 m2
  have HB2 := hid B2
  rw [Hg.out] at m1 m2
  have HM2 := hid m2
  have HM1 := hid m1
  have HL := hid (h.on B2)
  have hkl := hid h.k.1
  have kv := lvalid_ a m c S C N D E s n W (Nat.le_trans h.m (by unfold maxLen; omega)) h.s h.n
  rw [hv] at kv
  have HV := hid hv
  have HX := hid hX
  have HJ := hid hJ
  have HJ0 := hid hj0
  have HC := hid hc
  have HR := hid hR
  have HE := hid he
  have y0 := m1.c0
  have y1 := m1.c1
  have y2 := m1.c2
  have y3 := m1.c3
  have y4 := m1.c4
  have y5 := m1.c5
  have y6 := m1.c6
  have y7 := m1.c7
  clear B1 B2 m1 m2 h hv hX hJ hj0 hc hR he
  go_enter Tryz.func22, Tryz.ntmps22
  go_wp2_with fail
  rw [HW.out, Hg.out]
  refine kv.mono ?_
  rintro e1 w1 ⟨rfl, g1⟩
  have HB1 : Hid (Below w.heap.size w w1) := bel_bel HB2.out HB2.out.size g1
  have HN1 := hid (HM1.out.kept g1)
  have HZ1 := hid (HM2.out.kept g1)
  have HL1 := hid (HL.out.on g1)
  have HS1 : Hid (gg + 2 ≤ w1.heap.size) := by have := g1.size; have := HWS.out; show _ ≤ _; omega
  clear kv g1 y0 y1 y2 y3 y4 y5 y6 y7 HW HB2 HM1 HM2 HL
  cases vq with
  | false =>
    obtain rfl : e = 2 := HE.out
    obtain rfl : R = lzero := HR.out
    have HJJ : Hid (J w1) := HJ.out w w1 (HJ0.out rfl) fun x hx => HB1.out.block x (HX.out x hx)
    go_wp2_with (refine wpList_sln rfl rfl _ _ rfl (gg + 1) none 0 0 0 0 0 0 0 0 0 rfl rfl (by with_reducible exact HZ1.out) ?_)
    refine bodyPost_ret (v := .tuple #[.agg #[.slice none 0 0, .int .i64 0, .int .i64 0, .int .i64 0, .int .u64 0, .int .u64 0, .int .i64 0, .int .i64 0], .int .i64 2]) ?_ rfl ?_
    · exact results_ln rfl _ _ (gg + 1) none 0 0 0 0 0 0 0 0 0 _ rfl rfl (HZ1.out.row none 0 0 0 0 0 0 0 0 0)
    · refine ⟨⟨none, 0, rfl, vs_none _ _⟩, (Fx.of X HB1.out).row (by have := Hg.out; omega) _, HJ.out w1 _ HJJ.out fun x hx => setRow_other _ _ _ _ (by have := HX.out x hx; have := Hg.out; omega)⟩
  | true =>
    obtain ⟨-, rfl, hrest⟩ := lokL_of (l := ⟨k, S, C, N, D, E, s, n⟩) (by show lok k.length S C N s n = true; rw [hkl.out]; exact HV.out) |> fun hh => (show True ∧ m = 32 ∧ True from ⟨trivial, hkl.out.symm.trans hh.2.1, trivial⟩)
    clear hrest
    have kc := lclone_ a c k w1 HL1.out.k
    have y0 := HN1.out.c0
    go_wp2_with fail
    refine kc.mono ?_
    rintro e1 w2 ⟨v1, rfl, o1, g2⟩
    obtain ⟨ka, kc2, rfl, vs⟩ := Vs.ofOwn o1 HL1.out.k.2.1
    have HB3 : Hid (Below w.heap.size w w2) := bel_bel HB1.out HB1.out.size g2
    have n2 := HN1.out.kept g2
    have HZ2 := hid (HZ1.out.kept g2)
    have n3 := n2.key ka 32 kc2
    have f0 := n2.fz 0
    have d0 := n2.c0
    have HN3 := hid n3
    have HZ3 := hid (HZ2.out.at (w' := w2.setCell ⟨gg, 0, none⟩ (.slice ka 32 kc2)) (Below.heap_setCell _ _ _ _ (by show gg + 1 ≠ gg; omega)))
    have HV3 : Hid (Vs (w2.setCell ⟨gg, 0, none⟩ (.slice ka 32 kc2)) (fun x => w1.heap.size ≤ x) ka 32 kc2 k) := vs.step fun x _ hx _ => Below.heap_setCell _ _ _ _ (by have := HS1.out; show x ≠ gg; omega)
    have HB4 : Hid (Below w.heap.size w (w2.setCell ⟨gg, 0, none⟩ (.slice ka 32 kc2))) := HB3.out.setCell (by show w.heap.size ≤ gg; have := Hg.out; omega) _
    obtain ⟨w3, HW3⟩ : ∃ y, Hid (w2.setCell ⟨gg, 0, none⟩ (.slice ka 32 kc2) = y) := ⟨_, rfl⟩
    rw [HW3.out] at HN3 HZ3 HV3 HB4
    clear kc o1 vs n2 n3 y0 HN1 HZ1 HZ2 HL1 HB1 g2 HB3
    have kt := HC.out (by trivial) w3 ka kc2 HB4.out (by rw [Hg.out]; exact HN3.out)
    rw [Hg.out] at kt
    clear HC
    by_cases hz : er = 0
    · subst hz
      obtain rfl : e = 0 := HE.out
      obtain rfl : R = ⟨k, S, C', N', D', E', s', n'⟩ := HR.out
      go_wp2_with fail
      rw [HW3.out]
      refine kt.mono ?_
      rintro e1 w4 ⟨rfl, l4, f4, j4⟩
      have n4 := l4 (by trivial)
      have HF4 : Hid (Fx X w w4) := ⟨f4.os.trans HB4.out.os, f4.tape.trans HB4.out.tape, f4.output.trans HB4.out.output, Nat.le_trans HB4.out.size f4.size, fun i hi hx => (f4.block i (Nat.lt_of_lt_of_le hi HB4.out.size) (by have := Hg.out; intro o; rcases o with o | o; omega; exact hx o)).trans (HB4.out.block i hi)⟩
      have HZ4 := hid (HZ3.out.at (w' := w4) (f4.block _ HZ3.out.lt (by intro o; rcases o with o | o; omega; have := HX.out _ o; have := Hg.out; omega)))
      have HV4 : Hid (Vs w4 (fun x => w1.heap.size ≤ x) ka 32 kc2 k) := HV3.out.step fun x hx hy _ => f4.block x hx (by have := HS1.out; intro o; rcases o with o | o; omega; have := HX.out _ o; have := Hg.out; omega)
      have HJ4 := hid j4
      have y0 := n4.c0
      have y1 := n4.c1
      have y2 := n4.c2
      have y3 := n4.c3
      have y4 := n4.c4
      have y5 := n4.c5
      have y6 := n4.c6
      have y7 := n4.c7
      clear l4 f4 j4 n4 kt HN3 HZ3 HV3 HB4 HW3 f0 d0
      go_wp2_with (refine wpList_sln rfl rfl _ _ rfl (gg + 1) ka 32 kc2 S C' N' D' E' s' n' rfl rfl (by with_reducible exact HZ4.out) ?_)
      refine bodyPost_ret (v := .tuple #[.agg #[.slice ka 32 kc2, .int .i64 S, .int .i64 C', .int .i64 N', .int .u64 D', .int .u64 E', .int .i64 s', .int .i64 n'], .int .i64 0]) ?_ rfl ?_
      · exact results_ln rfl _ _ (gg + 1) ka 32 kc2 S C' N' D' E' s' n' _ rfl rfl (HZ4.out.row ka 32 kc2 S C' N' D' E' s' n')
      · refine ⟨⟨ka, kc2, by rw [hkl.out], ?_⟩, HF4.out.row (by have := Hg.out; omega) _, HJ.out w4 _ HJ4.out fun x hx => setRow_other _ _ _ _ (by have := HX.out x hx; have := Hg.out; omega)⟩
        rw [hkl.out]
        exact (HV4.out.wide (V' := fun x => w.heap.size ≤ x ∧ x ≠ gg + 1) fun x _ hx => ⟨by have := HS1.out; have := Hg.out; omega, by have := HS1.out; omega⟩).step (fun x _ hx _ => setRow_other _ _ _ _ hx.2) |>.wide fun x _ hx => hx.1
    · obtain rfl : e = er := HE.out
      obtain rfl : R = lzero := by rw [HR.out, decide_eq_false hz]; rfl
      have hne : (e != 0) = true := bne_iff_ne.2 hz
      have HHZ := hid hz
      clear hz
      go_wp2_with fail
      rw [HW3.out]
      refine kt.mono ?_
      rintro e1 w4 ⟨rfl, l4, f4, j4⟩
      have HF4 : Hid (Fx X w w4) := ⟨f4.os.trans HB4.out.os, f4.tape.trans HB4.out.tape, f4.output.trans HB4.out.output, Nat.le_trans HB4.out.size f4.size, fun i hi hx => (f4.block i (Nat.lt_of_lt_of_le hi HB4.out.size) (by have := Hg.out; intro o; rcases o with o | o; omega; exact hx o)).trans (HB4.out.block i hi)⟩
      have HZ4 := hid (HZ3.out.at (w' := w4) (f4.block _ HZ3.out.lt (by intro o; rcases o with o | o; omega; have := HX.out _ o; have := Hg.out; omega)))
      have HJ4 := hid j4
      clear l4 f4 j4 kt HN3 HZ3 HV3 HB4 HW3 f0 d0
      go_wp2_with (refine wpList_sln rfl rfl _ _ rfl (gg + 1) none 0 0 0 0 0 0 0 0 0 rfl rfl (by with_reducible exact HZ4.out) ?_)
      refine bodyPost_ret (v := .tuple #[.agg #[.slice none 0 0, .int .i64 0, .int .i64 0, .int .i64 0, .int .u64 0, .int .u64 0, .int .i64 0, .int .i64 0], .int .i64 e]) ?_ rfl ?_
      · exact results_ln rfl _ _ (gg + 1) none 0 0 0 0 0 0 0 0 0 _ rfl rfl (HZ4.out.row none 0 0 0 0 0 0 0 0 0)
      · refine ⟨⟨none, 0, rfl, vs_none _ _⟩, HF4.out.row (by have := Hg.out; omega) _, HJ.out w4 _ HJ4.out fun x hx => setRow_other _ _ _ _ (by have := HX.out x hx; have := Hg.out; omega)⟩
set_option maxHeartbeats 4000000 in
theorem lchangedP_ (a : Option Addr) (m c : Nat) (k : List Int) (S C N D E s n : Int) (w : World) (h : Li w a m k S C N D E s n) (X : Nat → Prop) (J : World → Prop) (hX : ∀ x, X x → x < w.heap.size) (hJ : ∀ w1 w2, J w1 → (∀ x, X x → w2.heap[x]? = w1.heap[x]?) → J w2) (vq : Bool) (hv : lok m S C N s n = vq) (hj0 : vq = false → J w)
    (er C' N' D' E' s' n' : Int) (hc : vq = true → Lt w X J er S C N D E s n C' N' D' E' s' n' 25 (fun z => #[z])) (R : Ln) (e : Int) (hR : R = if vq && decide (er = 0) then ⟨k, S, C', N', D', E', s', n'⟩ else lzero) (he : e = if vq then er else 2) :
    Calls Tryz.prog 22 #[.agg #[.slice a m c, .int .i64 S, .int .i64 C, .int .i64 N, .int .u64 D, .int .u64 E, .int .i64 s, .int .i64 n], .func (.func 25) #[] #[]] w fun en w' => Rc w X J R e en w' := by
  have B1 := lnew w a m c S C N D E s n
  have B2 := B1.alloc (B := w.heap.size) (by simp) (.cells #[.slice none 0 0, .int .i64 0, .int .i64 0, .int .i64 0, .int .u64 0, .int .u64 0, .int .i64 0, .int .i64 0] 27)
  have m1 := (Lm.new w a m c S C N D E s n).kept (lnew _ none 0 0 0 0 0 0 0 0 0)
  have m2 := Lm.new (w.alloc (.cells #[.slice a m c, .int .i64 S, .int .i64 C, .int .i64 N, .int .u64 D, .int .u64 E, .int .i64 s, .int .i64 n] 27)) none 0 0 0 0 0 0 0 0 0
  rw [World.size_alloc] at m2
  obtain ⟨W, HW⟩ : ∃ y, Hid ((w.alloc (.cells #[.slice a m c, .int .i64 S, .int .i64 C, .int .i64 N, .int .u64 D, .int .u64 E, .int .i64 s, .int .i64 n] 27)).alloc (.cells #[.slice none 0 0, .int .i64 0, .int .i64 0, .int .i64 0, .int .u64 0, .int .u64 0, .int .i64 0, .int .i64 0] 27) = y) := ⟨_, rfl⟩
  obtain ⟨gg, Hg⟩ : ∃ y, Hid (w.heap.size = y) := ⟨_, rfl⟩
  have HWS : Hid (W.heap.size = gg + 2) := by show _ = _; rw [← HW.out, ← Hg.out]; simp
  rw [HW.out] at B2 m1 m2
  have HB2 := hid B2
  rw [Hg.out] at m1 m2
  have HM2 := hid m2
  have HM1 := hid m1
  have HL := hid (h.on B2)
  have hkl := hid h.k.1
  have kv := lvalid_ a m c S C N D E s n W (Nat.le_trans h.m (by unfold maxLen; omega)) h.s h.n
  rw [hv] at kv
  have HV := hid hv
  have HX := hid hX
  have HJ := hid hJ
  have HJ0 := hid hj0
  have HC := hid hc
  have HR := hid hR
  have HE := hid he
  have y0 := m1.c0
  have y1 := m1.c1
  have y2 := m1.c2
  have y3 := m1.c3
  have y4 := m1.c4
  have y5 := m1.c5
  have y6 := m1.c6
  have y7 := m1.c7
  clear B1 B2 m1 m2 h hv hX hJ hj0 hc hR he
  go_enter Tryz.func22, Tryz.ntmps22
  go_wp2_with fail
  rw [HW.out, Hg.out]
  refine kv.mono ?_
  rintro e1 w1 ⟨rfl, g1⟩
  have HB1 : Hid (Below w.heap.size w w1) := bel_bel HB2.out HB2.out.size g1
  have HN1 := hid (HM1.out.kept g1)
  have HZ1 := hid (HM2.out.kept g1)
  have HL1 := hid (HL.out.on g1)
  have HS1 : Hid (gg + 2 ≤ w1.heap.size) := by have := g1.size; have := HWS.out; show _ ≤ _; omega
  clear kv g1 y0 y1 y2 y3 y4 y5 y6 y7 HW HB2 HM1 HM2 HL
  cases vq with
  | false =>
    obtain rfl : e = 2 := HE.out
    obtain rfl : R = lzero := HR.out
    have HJJ : Hid (J w1) := HJ.out w w1 (HJ0.out rfl) fun x hx => HB1.out.block x (HX.out x hx)
    go_wp2_with (refine wpList_sln rfl rfl _ _ rfl (gg + 1) none 0 0 0 0 0 0 0 0 0 rfl rfl (by with_reducible exact HZ1.out) ?_)
    refine bodyPost_ret (v := .tuple #[.agg #[.slice none 0 0, .int .i64 0, .int .i64 0, .int .i64 0, .int .u64 0, .int .u64 0, .int .i64 0, .int .i64 0], .int .i64 2]) ?_ rfl ?_
    · exact results_ln rfl _ _ (gg + 1) none 0 0 0 0 0 0 0 0 0 _ rfl rfl (HZ1.out.row none 0 0 0 0 0 0 0 0 0)
    · refine ⟨⟨none, 0, rfl, vs_none _ _⟩, (Fx.of X HB1.out).row (by have := Hg.out; omega) _, HJ.out w1 _ HJJ.out fun x hx => setRow_other _ _ _ _ (by have := HX.out x hx; have := Hg.out; omega)⟩
  | true =>
    obtain ⟨-, rfl, hrest⟩ := lokL_of (l := ⟨k, S, C, N, D, E, s, n⟩) (by show lok k.length S C N s n = true; rw [hkl.out]; exact HV.out) |> fun hh => (show True ∧ m = 32 ∧ True from ⟨trivial, hkl.out.symm.trans hh.2.1, trivial⟩)
    clear hrest
    have kc := lclone_ a c k w1 HL1.out.k
    have y0 := HN1.out.c0
    go_wp2_with fail
    refine kc.mono ?_
    rintro e1 w2 ⟨v1, rfl, o1, g2⟩
    obtain ⟨ka, kc2, rfl, vs⟩ := Vs.ofOwn o1 HL1.out.k.2.1
    have HB3 : Hid (Below w.heap.size w w2) := bel_bel HB1.out HB1.out.size g2
    have n2 := HN1.out.kept g2
    have HZ2 := hid (HZ1.out.kept g2)
    have n3 := n2.key ka 32 kc2
    have f0 := n2.fz 0
    have d0 := n2.c0
    have HN3 := hid n3
    have HZ3 := hid (HZ2.out.at (w' := w2.setCell ⟨gg, 0, none⟩ (.slice ka 32 kc2)) (Below.heap_setCell _ _ _ _ (by show gg + 1 ≠ gg; omega)))
    have HV3 : Hid (Vs (w2.setCell ⟨gg, 0, none⟩ (.slice ka 32 kc2)) (fun x => w1.heap.size ≤ x) ka 32 kc2 k) := vs.step fun x _ hx _ => Below.heap_setCell _ _ _ _ (by have := HS1.out; show x ≠ gg; omega)
    have HB4 : Hid (Below w.heap.size w (w2.setCell ⟨gg, 0, none⟩ (.slice ka 32 kc2))) := HB3.out.setCell (by show w.heap.size ≤ gg; have := Hg.out; omega) _
    obtain ⟨w3, HW3⟩ : ∃ y, Hid (w2.setCell ⟨gg, 0, none⟩ (.slice ka 32 kc2) = y) := ⟨_, rfl⟩
    rw [HW3.out] at HN3 HZ3 HV3 HB4
    clear kc o1 vs n2 n3 y0 HN1 HZ1 HZ2 HL1 HB1 g2 HB3
    have kt := HC.out (by trivial) w3 ka kc2 HB4.out (by rw [Hg.out]; exact HN3.out)
    rw [Hg.out] at kt
    clear HC
    by_cases hz : er = 0
    · subst hz
      obtain rfl : e = 0 := HE.out
      obtain rfl : R = ⟨k, S, C', N', D', E', s', n'⟩ := HR.out
      go_wp2_with fail
      rw [HW3.out]
      refine kt.mono ?_
      rintro e1 w4 ⟨rfl, l4, f4, j4⟩
      have n4 := l4 (by trivial)
      have HF4 : Hid (Fx X w w4) := ⟨f4.os.trans HB4.out.os, f4.tape.trans HB4.out.tape, f4.output.trans HB4.out.output, Nat.le_trans HB4.out.size f4.size, fun i hi hx => (f4.block i (Nat.lt_of_lt_of_le hi HB4.out.size) (by have := Hg.out; intro o; rcases o with o | o; omega; exact hx o)).trans (HB4.out.block i hi)⟩
      have HZ4 := hid (HZ3.out.at (w' := w4) (f4.block _ HZ3.out.lt (by intro o; rcases o with o | o; omega; have := HX.out _ o; have := Hg.out; omega)))
      have HV4 : Hid (Vs w4 (fun x => w1.heap.size ≤ x) ka 32 kc2 k) := HV3.out.step fun x hx hy _ => f4.block x hx (by have := HS1.out; intro o; rcases o with o | o; omega; have := HX.out _ o; have := Hg.out; omega)
      have HJ4 := hid j4
      have y0 := n4.c0
      have y1 := n4.c1
      have y2 := n4.c2
      have y3 := n4.c3
      have y4 := n4.c4
      have y5 := n4.c5
      have y6 := n4.c6
      have y7 := n4.c7
      clear l4 f4 j4 n4 kt HN3 HZ3 HV3 HB4 HW3 f0 d0
      go_wp2_with (refine wpList_sln rfl rfl _ _ rfl (gg + 1) ka 32 kc2 S C' N' D' E' s' n' rfl rfl (by with_reducible exact HZ4.out) ?_)
      refine bodyPost_ret (v := .tuple #[.agg #[.slice ka 32 kc2, .int .i64 S, .int .i64 C', .int .i64 N', .int .u64 D', .int .u64 E', .int .i64 s', .int .i64 n'], .int .i64 0]) ?_ rfl ?_
      · exact results_ln rfl _ _ (gg + 1) ka 32 kc2 S C' N' D' E' s' n' _ rfl rfl (HZ4.out.row ka 32 kc2 S C' N' D' E' s' n')
      · refine ⟨⟨ka, kc2, by rw [hkl.out], ?_⟩, HF4.out.row (by have := Hg.out; omega) _, HJ.out w4 _ HJ4.out fun x hx => setRow_other _ _ _ _ (by have := HX.out x hx; have := Hg.out; omega)⟩
        rw [hkl.out]
        exact (HV4.out.wide (V' := fun x => w.heap.size ≤ x ∧ x ≠ gg + 1) fun x _ hx => ⟨by have := HS1.out; have := Hg.out; omega, by have := HS1.out; omega⟩).step (fun x _ hx _ => setRow_other _ _ _ _ hx.2) |>.wide fun x _ hx => hx.1
    · obtain rfl : e = er := HE.out
      obtain rfl : R = lzero := by rw [HR.out, decide_eq_false hz]; rfl
      have hne : (e != 0) = true := bne_iff_ne.2 hz
      have HHZ := hid hz
      clear hz
      go_wp2_with fail
      rw [HW3.out]
      refine kt.mono ?_
      rintro e1 w4 ⟨rfl, l4, f4, j4⟩
      have HF4 : Hid (Fx X w w4) := ⟨f4.os.trans HB4.out.os, f4.tape.trans HB4.out.tape, f4.output.trans HB4.out.output, Nat.le_trans HB4.out.size f4.size, fun i hi hx => (f4.block i (Nat.lt_of_lt_of_le hi HB4.out.size) (by have := Hg.out; intro o; rcases o with o | o; omega; exact hx o)).trans (HB4.out.block i hi)⟩
      have HZ4 := hid (HZ3.out.at (w' := w4) (f4.block _ HZ3.out.lt (by intro o; rcases o with o | o; omega; have := HX.out _ o; have := Hg.out; omega)))
      have HJ4 := hid j4
      clear l4 f4 j4 kt HN3 HZ3 HV3 HB4 HW3 f0 d0
      go_wp2_with (refine wpList_sln rfl rfl _ _ rfl (gg + 1) none 0 0 0 0 0 0 0 0 0 rfl rfl (by with_reducible exact HZ4.out) ?_)
      refine bodyPost_ret (v := .tuple #[.agg #[.slice none 0 0, .int .i64 0, .int .i64 0, .int .i64 0, .int .u64 0, .int .u64 0, .int .i64 0, .int .i64 0], .int .i64 e]) ?_ rfl ?_
      · exact results_ln rfl _ _ (gg + 1) none 0 0 0 0 0 0 0 0 0 _ rfl rfl (HZ4.out.row none 0 0 0 0 0 0 0 0 0)
      · refine ⟨⟨none, 0, rfl, vs_none _ _⟩, HF4.out.row (by have := Hg.out; omega) _, HJ.out w4 _ HJ4.out fun x hx => setRow_other _ _ _ _ (by have := HX.out x hx; have := Hg.out; omega)⟩
set_option maxHeartbeats 4000000 in
theorem lchangedR_ (a : Option Addr) (m c : Nat) (k : List Int) (S C N D E s n : Int) (w : World) (h : Li w a m k S C N D E s n) (X : Nat → Prop) (J : World → Prop) (hX : ∀ x, X x → x < w.heap.size) (hJ : ∀ w1 w2, J w1 → (∀ x, X x → w2.heap[x]? = w1.heap[x]?) → J w2) (vq : Bool) (hv : lok m S C N s n = vq) (hj0 : vq = false → J w)
    (er C' N' D' E' s' n' : Int) (v1 v2 : Value) (hc : vq = true → Lt w X J er S C N D E s n C' N' D' E' s' n' 33 (fun z => #[z, v1, v2])) (R : Ln) (e : Int) (hR : R = if vq && decide (er = 0) then ⟨k, S, C', N', D', E', s', n'⟩ else lzero) (he : e = if vq then er else 2) :
    Calls Tryz.prog 22 #[.agg #[.slice a m c, .int .i64 S, .int .i64 C, .int .i64 N, .int .u64 D, .int .u64 E, .int .i64 s, .int .i64 n], .func (.func 33) #[] #[v1, v2]] w fun en w' => Rc w X J R e en w' := by
  have B1 := lnew w a m c S C N D E s n
  have B2 := B1.alloc (B := w.heap.size) (by simp) (.cells #[.slice none 0 0, .int .i64 0, .int .i64 0, .int .i64 0, .int .u64 0, .int .u64 0, .int .i64 0, .int .i64 0] 27)
  have m1 := (Lm.new w a m c S C N D E s n).kept (lnew _ none 0 0 0 0 0 0 0 0 0)
  have m2 := Lm.new (w.alloc (.cells #[.slice a m c, .int .i64 S, .int .i64 C, .int .i64 N, .int .u64 D, .int .u64 E, .int .i64 s, .int .i64 n] 27)) none 0 0 0 0 0 0 0 0 0
  rw [World.size_alloc] at m2
  obtain ⟨W, HW⟩ : ∃ y, Hid ((w.alloc (.cells #[.slice a m c, .int .i64 S, .int .i64 C, .int .i64 N, .int .u64 D, .int .u64 E, .int .i64 s, .int .i64 n] 27)).alloc (.cells #[.slice none 0 0, .int .i64 0, .int .i64 0, .int .i64 0, .int .u64 0, .int .u64 0, .int .i64 0, .int .i64 0] 27) = y) := ⟨_, rfl⟩
  obtain ⟨gg, Hg⟩ : ∃ y, Hid (w.heap.size = y) := ⟨_, rfl⟩
  have HWS : Hid (W.heap.size = gg + 2) := by show _ = _; rw [← HW.out, ← Hg.out]; simp
  rw [HW.out] at B2 m1 m2
  have HB2 := hid B2
  rw [Hg.out] at m1 m2
  have HM2 := hid m2
  have HM1 := hid m1
  have HL := hid (h.on B2)
  have hkl := hid h.k.1
  have kv := lvalid_ a m c S C N D E s n W (Nat.le_trans h.m (by unfold maxLen; omega)) h.s h.n
  rw [hv] at kv
  have HV := hid hv
  have HX := hid hX
  have HJ := hid hJ
  have HJ0 := hid hj0
  have HC := hid hc
  have HR := hid hR
  have HE := hid he
  have y0 := m1.c0
  have y1 := m1.c1
  have y2 := m1.c2
  have y3 := m1.c3
  have y4 := m1.c4
  have y5 := m1.c5
  have y6 := m1.c6
  have y7 := m1.c7
  clear B1 B2 m1 m2 h hv hX hJ hj0 hc hR he
  go_enter Tryz.func22, Tryz.ntmps22
  go_wp2_with fail
  rw [HW.out, Hg.out]
  refine kv.mono ?_
  rintro e1 w1 ⟨rfl, g1⟩
  have HB1 : Hid (Below w.heap.size w w1) := bel_bel HB2.out HB2.out.size g1
  have HN1 := hid (HM1.out.kept g1)
  have HZ1 := hid (HM2.out.kept g1)
  have HL1 := hid (HL.out.on g1)
  have HS1 : Hid (gg + 2 ≤ w1.heap.size) := by have := g1.size; have := HWS.out; show _ ≤ _; omega
  clear kv g1 y0 y1 y2 y3 y4 y5 y6 y7 HW HB2 HM1 HM2 HL
  cases vq with
  | false =>
    obtain rfl : e = 2 := HE.out
    obtain rfl : R = lzero := HR.out
    have HJJ : Hid (J w1) := HJ.out w w1 (HJ0.out rfl) fun x hx => HB1.out.block x (HX.out x hx)
    go_wp2_with (refine wpList_sln rfl rfl _ _ rfl (gg + 1) none 0 0 0 0 0 0 0 0 0 rfl rfl (by with_reducible exact HZ1.out) ?_)
    refine bodyPost_ret (v := .tuple #[.agg #[.slice none 0 0, .int .i64 0, .int .i64 0, .int .i64 0, .int .u64 0, .int .u64 0, .int .i64 0, .int .i64 0], .int .i64 2]) ?_ rfl ?_
    · exact results_ln rfl _ _ (gg + 1) none 0 0 0 0 0 0 0 0 0 _ rfl rfl (HZ1.out.row none 0 0 0 0 0 0 0 0 0)
    · refine ⟨⟨none, 0, rfl, vs_none _ _⟩, (Fx.of X HB1.out).row (by have := Hg.out; omega) _, HJ.out w1 _ HJJ.out fun x hx => setRow_other _ _ _ _ (by have := HX.out x hx; have := Hg.out; omega)⟩
  | true =>
    obtain ⟨-, rfl, hrest⟩ := lokL_of (l := ⟨k, S, C, N, D, E, s, n⟩) (by show lok k.length S C N s n = true; rw [hkl.out]; exact HV.out) |> fun hh => (show True ∧ m = 32 ∧ True from ⟨trivial, hkl.out.symm.trans hh.2.1, trivial⟩)
    clear hrest
    have kc := lclone_ a c k w1 HL1.out.k
    have y0 := HN1.out.c0
    go_wp2_with fail
    refine kc.mono ?_
    rintro e1 w2 ⟨v1, rfl, o1, g2⟩
    obtain ⟨ka, kc2, rfl, vs⟩ := Vs.ofOwn o1 HL1.out.k.2.1
    have HB3 : Hid (Below w.heap.size w w2) := bel_bel HB1.out HB1.out.size g2
    have n2 := HN1.out.kept g2
    have HZ2 := hid (HZ1.out.kept g2)
    have n3 := n2.key ka 32 kc2
    have f0 := n2.fz 0
    have d0 := n2.c0
    have HN3 := hid n3
    have HZ3 := hid (HZ2.out.at (w' := w2.setCell ⟨gg, 0, none⟩ (.slice ka 32 kc2)) (Below.heap_setCell _ _ _ _ (by show gg + 1 ≠ gg; omega)))
    have HV3 : Hid (Vs (w2.setCell ⟨gg, 0, none⟩ (.slice ka 32 kc2)) (fun x => w1.heap.size ≤ x) ka 32 kc2 k) := vs.step fun x _ hx _ => Below.heap_setCell _ _ _ _ (by have := HS1.out; show x ≠ gg; omega)
    have HB4 : Hid (Below w.heap.size w (w2.setCell ⟨gg, 0, none⟩ (.slice ka 32 kc2))) := HB3.out.setCell (by show w.heap.size ≤ gg; have := Hg.out; omega) _
    obtain ⟨w3, HW3⟩ : ∃ y, Hid (w2.setCell ⟨gg, 0, none⟩ (.slice ka 32 kc2) = y) := ⟨_, rfl⟩
    rw [HW3.out] at HN3 HZ3 HV3 HB4
    clear kc o1 vs n2 n3 y0 HN1 HZ1 HZ2 HL1 HB1 g2 HB3
    have kt := HC.out (by trivial) w3 ka kc2 HB4.out (by rw [Hg.out]; exact HN3.out)
    rw [Hg.out] at kt
    clear HC
    by_cases hz : er = 0
    · subst hz
      obtain rfl : e = 0 := HE.out
      obtain rfl : R = ⟨k, S, C', N', D', E', s', n'⟩ := HR.out
      go_wp2_with fail
      rw [HW3.out]
      refine kt.mono ?_
      rintro e1 w4 ⟨rfl, l4, f4, j4⟩
      have n4 := l4 (by trivial)
      have HF4 : Hid (Fx X w w4) := ⟨f4.os.trans HB4.out.os, f4.tape.trans HB4.out.tape, f4.output.trans HB4.out.output, Nat.le_trans HB4.out.size f4.size, fun i hi hx => (f4.block i (Nat.lt_of_lt_of_le hi HB4.out.size) (by have := Hg.out; intro o; rcases o with o | o; omega; exact hx o)).trans (HB4.out.block i hi)⟩
      have HZ4 := hid (HZ3.out.at (w' := w4) (f4.block _ HZ3.out.lt (by intro o; rcases o with o | o; omega; have := HX.out _ o; have := Hg.out; omega)))
      have HV4 : Hid (Vs w4 (fun x => w1.heap.size ≤ x) ka 32 kc2 k) := HV3.out.step fun x hx hy _ => f4.block x hx (by have := HS1.out; intro o; rcases o with o | o; omega; have := HX.out _ o; have := Hg.out; omega)
      have HJ4 := hid j4
      have y0 := n4.c0
      have y1 := n4.c1
      have y2 := n4.c2
      have y3 := n4.c3
      have y4 := n4.c4
      have y5 := n4.c5
      have y6 := n4.c6
      have y7 := n4.c7
      clear l4 f4 j4 n4 kt HN3 HZ3 HV3 HB4 HW3 f0 d0
      go_wp2_with (refine wpList_sln rfl rfl _ _ rfl (gg + 1) ka 32 kc2 S C' N' D' E' s' n' rfl rfl (by with_reducible exact HZ4.out) ?_)
      refine bodyPost_ret (v := .tuple #[.agg #[.slice ka 32 kc2, .int .i64 S, .int .i64 C', .int .i64 N', .int .u64 D', .int .u64 E', .int .i64 s', .int .i64 n'], .int .i64 0]) ?_ rfl ?_
      · exact results_ln rfl _ _ (gg + 1) ka 32 kc2 S C' N' D' E' s' n' _ rfl rfl (HZ4.out.row ka 32 kc2 S C' N' D' E' s' n')
      · refine ⟨⟨ka, kc2, by rw [hkl.out], ?_⟩, HF4.out.row (by have := Hg.out; omega) _, HJ.out w4 _ HJ4.out fun x hx => setRow_other _ _ _ _ (by have := HX.out x hx; have := Hg.out; omega)⟩
        rw [hkl.out]
        exact (HV4.out.wide (V' := fun x => w.heap.size ≤ x ∧ x ≠ gg + 1) fun x _ hx => ⟨by have := HS1.out; have := Hg.out; omega, by have := HS1.out; omega⟩).step (fun x _ hx _ => setRow_other _ _ _ _ hx.2) |>.wide fun x _ hx => hx.1
    · obtain rfl : e = er := HE.out
      obtain rfl : R = lzero := by rw [HR.out, decide_eq_false hz]; rfl
      have hne : (e != 0) = true := bne_iff_ne.2 hz
      have HHZ := hid hz
      clear hz
      go_wp2_with fail
      rw [HW3.out]
      refine kt.mono ?_
      rintro e1 w4 ⟨rfl, l4, f4, j4⟩
      have HF4 : Hid (Fx X w w4) := ⟨f4.os.trans HB4.out.os, f4.tape.trans HB4.out.tape, f4.output.trans HB4.out.output, Nat.le_trans HB4.out.size f4.size, fun i hi hx => (f4.block i (Nat.lt_of_lt_of_le hi HB4.out.size) (by have := Hg.out; intro o; rcases o with o | o; omega; exact hx o)).trans (HB4.out.block i hi)⟩
      have HZ4 := hid (HZ3.out.at (w' := w4) (f4.block _ HZ3.out.lt (by intro o; rcases o with o | o; omega; have := HX.out _ o; have := Hg.out; omega)))
      have HJ4 := hid j4
      clear l4 f4 j4 kt HN3 HZ3 HV3 HB4 HW3 f0 d0
      go_wp2_with (refine wpList_sln rfl rfl _ _ rfl (gg + 1) none 0 0 0 0 0 0 0 0 0 rfl rfl (by with_reducible exact HZ4.out) ?_)
      refine bodyPost_ret (v := .tuple #[.agg #[.slice none 0 0, .int .i64 0, .int .i64 0, .int .i64 0, .int .u64 0, .int .u64 0, .int .i64 0, .int .i64 0], .int .i64 e]) ?_ rfl ?_
      · exact results_ln rfl _ _ (gg + 1) none 0 0 0 0 0 0 0 0 0 _ rfl rfl (HZ4.out.row none 0 0 0 0 0 0 0 0 0)
      · refine ⟨⟨none, 0, rfl, vs_none _ _⟩, HF4.out.row (by have := Hg.out; omega) _, HJ.out w4 _ HJ4.out fun x hx => setRow_other _ _ _ _ (by have := HX.out x hx; have := Hg.out; omega)⟩
set_option maxHeartbeats 4000000 in
theorem lchangedI_ (a : Option Addr) (m c : Nat) (k : List Int) (S C N D E s n : Int) (w : World) (h : Li w a m k S C N D E s n) (X : Nat → Prop) (J : World → Prop) (hX : ∀ x, X x → x < w.heap.size) (hJ : ∀ w1 w2, J w1 → (∀ x, X x → w2.heap[x]? = w1.heap[x]?) → J w2) (vq : Bool) (hv : lok m S C N s n = vq) (hj0 : vq = false → J w)
    (er C' N' D' E' s' n' : Int) (v1 v2 : Value) (hc : vq = true → Lt w X J er S C N D E s n C' N' D' E' s' n' 35 (fun z => #[z, v1, v2])) (R : Ln) (e : Int) (hR : R = if vq && decide (er = 0) then ⟨k, S, C', N', D', E', s', n'⟩ else lzero) (he : e = if vq then er else 2) :
    Calls Tryz.prog 22 #[.agg #[.slice a m c, .int .i64 S, .int .i64 C, .int .i64 N, .int .u64 D, .int .u64 E, .int .i64 s, .int .i64 n], .func (.func 35) #[] #[v1, v2]] w fun en w' => Rc w X J R e en w' := by
  have B1 := lnew w a m c S C N D E s n
  have B2 := B1.alloc (B := w.heap.size) (by simp) (.cells #[.slice none 0 0, .int .i64 0, .int .i64 0, .int .i64 0, .int .u64 0, .int .u64 0, .int .i64 0, .int .i64 0] 27)
  have m1 := (Lm.new w a m c S C N D E s n).kept (lnew _ none 0 0 0 0 0 0 0 0 0)
  have m2 := Lm.new (w.alloc (.cells #[.slice a m c, .int .i64 S, .int .i64 C, .int .i64 N, .int .u64 D, .int .u64 E, .int .i64 s, .int .i64 n] 27)) none 0 0 0 0 0 0 0 0 0
  rw [World.size_alloc] at m2
  obtain ⟨W, HW⟩ : ∃ y, Hid ((w.alloc (.cells #[.slice a m c, .int .i64 S, .int .i64 C, .int .i64 N, .int .u64 D, .int .u64 E, .int .i64 s, .int .i64 n] 27)).alloc (.cells #[.slice none 0 0, .int .i64 0, .int .i64 0, .int .i64 0, .int .u64 0, .int .u64 0, .int .i64 0, .int .i64 0] 27) = y) := ⟨_, rfl⟩
  obtain ⟨gg, Hg⟩ : ∃ y, Hid (w.heap.size = y) := ⟨_, rfl⟩
  have HWS : Hid (W.heap.size = gg + 2) := by show _ = _; rw [← HW.out, ← Hg.out]; simp
  rw [HW.out] at B2 m1 m2
  have HB2 := hid B2
  rw [Hg.out] at m1 m2
  have HM2 := hid m2
  have HM1 := hid m1
  have HL := hid (h.on B2)
  have hkl := hid h.k.1
  have kv := lvalid_ a m c S C N D E s n W (Nat.le_trans h.m (by unfold maxLen; omega)) h.s h.n
  rw [hv] at kv
  have HV := hid hv
  have HX := hid hX
  have HJ := hid hJ
  have HJ0 := hid hj0
  have HC := hid hc
  have HR := hid hR
  have HE := hid he
  have y0 := m1.c0
  have y1 := m1.c1
  have y2 := m1.c2
  have y3 := m1.c3
  have y4 := m1.c4
  have y5 := m1.c5
  have y6 := m1.c6
  have y7 := m1.c7
  clear B1 B2 m1 m2 h hv hX hJ hj0 hc hR he
  go_enter Tryz.func22, Tryz.ntmps22
  go_wp2_with fail
  rw [HW.out, Hg.out]
  refine kv.mono ?_
  rintro e1 w1 ⟨rfl, g1⟩
  have HB1 : Hid (Below w.heap.size w w1) := bel_bel HB2.out HB2.out.size g1
  have HN1 := hid (HM1.out.kept g1)
  have HZ1 := hid (HM2.out.kept g1)
  have HL1 := hid (HL.out.on g1)
  have HS1 : Hid (gg + 2 ≤ w1.heap.size) := by have := g1.size; have := HWS.out; show _ ≤ _; omega
  clear kv g1 y0 y1 y2 y3 y4 y5 y6 y7 HW HB2 HM1 HM2 HL
  cases vq with
  | false =>
    obtain rfl : e = 2 := HE.out
    obtain rfl : R = lzero := HR.out
    have HJJ : Hid (J w1) := HJ.out w w1 (HJ0.out rfl) fun x hx => HB1.out.block x (HX.out x hx)
    go_wp2_with (refine wpList_sln rfl rfl _ _ rfl (gg + 1) none 0 0 0 0 0 0 0 0 0 rfl rfl (by with_reducible exact HZ1.out) ?_)
    refine bodyPost_ret (v := .tuple #[.agg #[.slice none 0 0, .int .i64 0, .int .i64 0, .int .i64 0, .int .u64 0, .int .u64 0, .int .i64 0, .int .i64 0], .int .i64 2]) ?_ rfl ?_
    · exact results_ln rfl _ _ (gg + 1) none 0 0 0 0 0 0 0 0 0 _ rfl rfl (HZ1.out.row none 0 0 0 0 0 0 0 0 0)
    · refine ⟨⟨none, 0, rfl, vs_none _ _⟩, (Fx.of X HB1.out).row (by have := Hg.out; omega) _, HJ.out w1 _ HJJ.out fun x hx => setRow_other _ _ _ _ (by have := HX.out x hx; have := Hg.out; omega)⟩
  | true =>
    obtain ⟨-, rfl, hrest⟩ := lokL_of (l := ⟨k, S, C, N, D, E, s, n⟩) (by show lok k.length S C N s n = true; rw [hkl.out]; exact HV.out) |> fun hh => (show True ∧ m = 32 ∧ True from ⟨trivial, hkl.out.symm.trans hh.2.1, trivial⟩)
    clear hrest
    have kc := lclone_ a c k w1 HL1.out.k
    have y0 := HN1.out.c0
    go_wp2_with fail
    refine kc.mono ?_
    rintro e1 w2 ⟨v1, rfl, o1, g2⟩
    obtain ⟨ka, kc2, rfl, vs⟩ := Vs.ofOwn o1 HL1.out.k.2.1
    have HB3 : Hid (Below w.heap.size w w2) := bel_bel HB1.out HB1.out.size g2
    have n2 := HN1.out.kept g2
    have HZ2 := hid (HZ1.out.kept g2)
    have n3 := n2.key ka 32 kc2
    have f0 := n2.fz 0
    have d0 := n2.c0
    have HN3 := hid n3
    have HZ3 := hid (HZ2.out.at (w' := w2.setCell ⟨gg, 0, none⟩ (.slice ka 32 kc2)) (Below.heap_setCell _ _ _ _ (by show gg + 1 ≠ gg; omega)))
    have HV3 : Hid (Vs (w2.setCell ⟨gg, 0, none⟩ (.slice ka 32 kc2)) (fun x => w1.heap.size ≤ x) ka 32 kc2 k) := vs.step fun x _ hx _ => Below.heap_setCell _ _ _ _ (by have := HS1.out; show x ≠ gg; omega)
    have HB4 : Hid (Below w.heap.size w (w2.setCell ⟨gg, 0, none⟩ (.slice ka 32 kc2))) := HB3.out.setCell (by show w.heap.size ≤ gg; have := Hg.out; omega) _
    obtain ⟨w3, HW3⟩ : ∃ y, Hid (w2.setCell ⟨gg, 0, none⟩ (.slice ka 32 kc2) = y) := ⟨_, rfl⟩
    rw [HW3.out] at HN3 HZ3 HV3 HB4
    clear kc o1 vs n2 n3 y0 HN1 HZ1 HZ2 HL1 HB1 g2 HB3
    have kt := HC.out (by trivial) w3 ka kc2 HB4.out (by rw [Hg.out]; exact HN3.out)
    rw [Hg.out] at kt
    clear HC
    by_cases hz : er = 0
    · subst hz
      obtain rfl : e = 0 := HE.out
      obtain rfl : R = ⟨k, S, C', N', D', E', s', n'⟩ := HR.out
      go_wp2_with fail
      rw [HW3.out]
      refine kt.mono ?_
      rintro e1 w4 ⟨rfl, l4, f4, j4⟩
      have n4 := l4 (by trivial)
      have HF4 : Hid (Fx X w w4) := ⟨f4.os.trans HB4.out.os, f4.tape.trans HB4.out.tape, f4.output.trans HB4.out.output, Nat.le_trans HB4.out.size f4.size, fun i hi hx => (f4.block i (Nat.lt_of_lt_of_le hi HB4.out.size) (by have := Hg.out; intro o; rcases o with o | o; omega; exact hx o)).trans (HB4.out.block i hi)⟩
      have HZ4 := hid (HZ3.out.at (w' := w4) (f4.block _ HZ3.out.lt (by intro o; rcases o with o | o; omega; have := HX.out _ o; have := Hg.out; omega)))
      have HV4 : Hid (Vs w4 (fun x => w1.heap.size ≤ x) ka 32 kc2 k) := HV3.out.step fun x hx hy _ => f4.block x hx (by have := HS1.out; intro o; rcases o with o | o; omega; have := HX.out _ o; have := Hg.out; omega)
      have HJ4 := hid j4
      have y0 := n4.c0
      have y1 := n4.c1
      have y2 := n4.c2
      have y3 := n4.c3
      have y4 := n4.c4
      have y5 := n4.c5
      have y6 := n4.c6
      have y7 := n4.c7
      clear l4 f4 j4 n4 kt HN3 HZ3 HV3 HB4 HW3 f0 d0
      go_wp2_with (refine wpList_sln rfl rfl _ _ rfl (gg + 1) ka 32 kc2 S C' N' D' E' s' n' rfl rfl (by with_reducible exact HZ4.out) ?_)
      refine bodyPost_ret (v := .tuple #[.agg #[.slice ka 32 kc2, .int .i64 S, .int .i64 C', .int .i64 N', .int .u64 D', .int .u64 E', .int .i64 s', .int .i64 n'], .int .i64 0]) ?_ rfl ?_
      · exact results_ln rfl _ _ (gg + 1) ka 32 kc2 S C' N' D' E' s' n' _ rfl rfl (HZ4.out.row ka 32 kc2 S C' N' D' E' s' n')
      · refine ⟨⟨ka, kc2, by rw [hkl.out], ?_⟩, HF4.out.row (by have := Hg.out; omega) _, HJ.out w4 _ HJ4.out fun x hx => setRow_other _ _ _ _ (by have := HX.out x hx; have := Hg.out; omega)⟩
        rw [hkl.out]
        exact (HV4.out.wide (V' := fun x => w.heap.size ≤ x ∧ x ≠ gg + 1) fun x _ hx => ⟨by have := HS1.out; have := Hg.out; omega, by have := HS1.out; omega⟩).step (fun x _ hx _ => setRow_other _ _ _ _ hx.2) |>.wide fun x _ hx => hx.1
    · obtain rfl : e = er := HE.out
      obtain rfl : R = lzero := by rw [HR.out, decide_eq_false hz]; rfl
      have hne : (e != 0) = true := bne_iff_ne.2 hz
      have HHZ := hid hz
      clear hz
      go_wp2_with fail
      rw [HW3.out]
      refine kt.mono ?_
      rintro e1 w4 ⟨rfl, l4, f4, j4⟩
      have HF4 : Hid (Fx X w w4) := ⟨f4.os.trans HB4.out.os, f4.tape.trans HB4.out.tape, f4.output.trans HB4.out.output, Nat.le_trans HB4.out.size f4.size, fun i hi hx => (f4.block i (Nat.lt_of_lt_of_le hi HB4.out.size) (by have := Hg.out; intro o; rcases o with o | o; omega; exact hx o)).trans (HB4.out.block i hi)⟩
      have HZ4 := hid (HZ3.out.at (w' := w4) (f4.block _ HZ3.out.lt (by intro o; rcases o with o | o; omega; have := HX.out _ o; have := Hg.out; omega)))
      have HJ4 := hid j4
      clear l4 f4 j4 kt HN3 HZ3 HV3 HB4 HW3 f0 d0
      go_wp2_with (refine wpList_sln rfl rfl _ _ rfl (gg + 1) none 0 0 0 0 0 0 0 0 0 rfl rfl (by with_reducible exact HZ4.out) ?_)
      refine bodyPost_ret (v := .tuple #[.agg #[.slice none 0 0, .int .i64 0, .int .i64 0, .int .i64 0, .int .u64 0, .int .u64 0, .int .i64 0, .int .i64 0], .int .i64 e]) ?_ rfl ?_
      · exact results_ln rfl _ _ (gg + 1) none 0 0 0 0 0 0 0 0 0 _ rfl rfl (HZ4.out.row none 0 0 0 0 0 0 0 0 0)
      · refine ⟨⟨none, 0, rfl, vs_none _ _⟩, HF4.out.row (by have := Hg.out; omega) _, HJ.out w4 _ HJ4.out fun x hx => setRow_other _ _ _ _ (by have := HX.out x hx; have := Hg.out; omega)⟩
set_option maxHeartbeats 4000000 in
theorem lchangedO_ (a : Option Addr) (m c : Nat) (k : List Int) (S C N D E s n : Int) (w : World) (h : Li w a m k S C N D E s n) (X : Nat → Prop) (J : World → Prop) (hX : ∀ x, X x → x < w.heap.size) (hJ : ∀ w1 w2, J w1 → (∀ x, X x → w2.heap[x]? = w1.heap[x]?) → J w2) (vq : Bool) (hv : lok m S C N s n = vq) (hj0 : vq = false → J w)
    (er C' N' D' E' s' n' : Int) (v1 v2 v3 : Value) (hc : vq = true → Lt w X J er S C N D E s n C' N' D' E' s' n' 34 (fun z => #[z, v1, v2, v3])) (R : Ln) (e : Int) (hR : R = if vq && decide (er = 0) then ⟨k, S, C', N', D', E', s', n'⟩ else lzero) (he : e = if vq then er else 2) :
    Calls Tryz.prog 22 #[.agg #[.slice a m c, .int .i64 S, .int .i64 C, .int .i64 N, .int .u64 D, .int .u64 E, .int .i64 s, .int .i64 n], .func (.func 34) #[] #[v1, v2, v3]] w fun en w' => Rc w X J R e en w' := by
  have B1 := lnew w a m c S C N D E s n
  have B2 := B1.alloc (B := w.heap.size) (by simp) (.cells #[.slice none 0 0, .int .i64 0, .int .i64 0, .int .i64 0, .int .u64 0, .int .u64 0, .int .i64 0, .int .i64 0] 27)
  have m1 := (Lm.new w a m c S C N D E s n).kept (lnew _ none 0 0 0 0 0 0 0 0 0)
  have m2 := Lm.new (w.alloc (.cells #[.slice a m c, .int .i64 S, .int .i64 C, .int .i64 N, .int .u64 D, .int .u64 E, .int .i64 s, .int .i64 n] 27)) none 0 0 0 0 0 0 0 0 0
  rw [World.size_alloc] at m2
  obtain ⟨W, HW⟩ : ∃ y, Hid ((w.alloc (.cells #[.slice a m c, .int .i64 S, .int .i64 C, .int .i64 N, .int .u64 D, .int .u64 E, .int .i64 s, .int .i64 n] 27)).alloc (.cells #[.slice none 0 0, .int .i64 0, .int .i64 0, .int .i64 0, .int .u64 0, .int .u64 0, .int .i64 0, .int .i64 0] 27) = y) := ⟨_, rfl⟩
  obtain ⟨gg, Hg⟩ : ∃ y, Hid (w.heap.size = y) := ⟨_, rfl⟩
  have HWS : Hid (W.heap.size = gg + 2) := by show _ = _; rw [← HW.out, ← Hg.out]; simp
  rw [HW.out] at B2 m1 m2
  have HB2 := hid B2
  rw [Hg.out] at m1 m2
  have HM2 := hid m2
  have HM1 := hid m1
  have HL := hid (h.on B2)
  have hkl := hid h.k.1
  have kv := lvalid_ a m c S C N D E s n W (Nat.le_trans h.m (by unfold maxLen; omega)) h.s h.n
  rw [hv] at kv
  have HV := hid hv
  have HX := hid hX
  have HJ := hid hJ
  have HJ0 := hid hj0
  have HC := hid hc
  have HR := hid hR
  have HE := hid he
  have y0 := m1.c0
  have y1 := m1.c1
  have y2 := m1.c2
  have y3 := m1.c3
  have y4 := m1.c4
  have y5 := m1.c5
  have y6 := m1.c6
  have y7 := m1.c7
  clear B1 B2 m1 m2 h hv hX hJ hj0 hc hR he
  go_enter Tryz.func22, Tryz.ntmps22
  go_wp2_with fail
  rw [HW.out, Hg.out]
  refine kv.mono ?_
  rintro e1 w1 ⟨rfl, g1⟩
  have HB1 : Hid (Below w.heap.size w w1) := bel_bel HB2.out HB2.out.size g1
  have HN1 := hid (HM1.out.kept g1)
  have HZ1 := hid (HM2.out.kept g1)
  have HL1 := hid (HL.out.on g1)
  have HS1 : Hid (gg + 2 ≤ w1.heap.size) := by have := g1.size; have := HWS.out; show _ ≤ _; omega
  clear kv g1 y0 y1 y2 y3 y4 y5 y6 y7 HW HB2 HM1 HM2 HL
  cases vq with
  | false =>
    obtain rfl : e = 2 := HE.out
    obtain rfl : R = lzero := HR.out
    have HJJ : Hid (J w1) := HJ.out w w1 (HJ0.out rfl) fun x hx => HB1.out.block x (HX.out x hx)
    go_wp2_with (refine wpList_sln rfl rfl _ _ rfl (gg + 1) none 0 0 0 0 0 0 0 0 0 rfl rfl (by with_reducible exact HZ1.out) ?_)
    refine bodyPost_ret (v := .tuple #[.agg #[.slice none 0 0, .int .i64 0, .int .i64 0, .int .i64 0, .int .u64 0, .int .u64 0, .int .i64 0, .int .i64 0], .int .i64 2]) ?_ rfl ?_
    · exact results_ln rfl _ _ (gg + 1) none 0 0 0 0 0 0 0 0 0 _ rfl rfl (HZ1.out.row none 0 0 0 0 0 0 0 0 0)
    · refine ⟨⟨none, 0, rfl, vs_none _ _⟩, (Fx.of X HB1.out).row (by have := Hg.out; omega) _, HJ.out w1 _ HJJ.out fun x hx => setRow_other _ _ _ _ (by have := HX.out x hx; have := Hg.out; omega)⟩
  | true =>
    obtain ⟨-, rfl, hrest⟩ := lokL_of (l := ⟨k, S, C, N, D, E, s, n⟩) (by show lok k.length S C N s n = true; rw [hkl.out]; exact HV.out) |> fun hh => (show True ∧ m = 32 ∧ True from ⟨trivial, hkl.out.symm.trans hh.2.1, trivial⟩)
    clear hrest
    have kc := lclone_ a c k w1 HL1.out.k
    have y0 := HN1.out.c0
    go_wp2_with fail
    refine kc.mono ?_
    rintro e1 w2 ⟨v1, rfl, o1, g2⟩
    obtain ⟨ka, kc2, rfl, vs⟩ := Vs.ofOwn o1 HL1.out.k.2.1
    have HB3 : Hid (Below w.heap.size w w2) := bel_bel HB1.out HB1.out.size g2
    have n2 := HN1.out.kept g2
    have HZ2 := hid (HZ1.out.kept g2)
    have n3 := n2.key ka 32 kc2
    have f0 := n2.fz 0
    have d0 := n2.c0
    have HN3 := hid n3
    have HZ3 := hid (HZ2.out.at (w' := w2.setCell ⟨gg, 0, none⟩ (.slice ka 32 kc2)) (Below.heap_setCell _ _ _ _ (by show gg + 1 ≠ gg; omega)))
    have HV3 : Hid (Vs (w2.setCell ⟨gg, 0, none⟩ (.slice ka 32 kc2)) (fun x => w1.heap.size ≤ x) ka 32 kc2 k) := vs.step fun x _ hx _ => Below.heap_setCell _ _ _ _ (by have := HS1.out; show x ≠ gg; omega)
    have HB4 : Hid (Below w.heap.size w (w2.setCell ⟨gg, 0, none⟩ (.slice ka 32 kc2))) := HB3.out.setCell (by show w.heap.size ≤ gg; have := Hg.out; omega) _
    obtain ⟨w3, HW3⟩ : ∃ y, Hid (w2.setCell ⟨gg, 0, none⟩ (.slice ka 32 kc2) = y) := ⟨_, rfl⟩
    rw [HW3.out] at HN3 HZ3 HV3 HB4
    clear kc o1 vs n2 n3 y0 HN1 HZ1 HZ2 HL1 HB1 g2 HB3
    have kt := HC.out (by trivial) w3 ka kc2 HB4.out (by rw [Hg.out]; exact HN3.out)
    rw [Hg.out] at kt
    clear HC
    by_cases hz : er = 0
    · subst hz
      obtain rfl : e = 0 := HE.out
      obtain rfl : R = ⟨k, S, C', N', D', E', s', n'⟩ := HR.out
      go_wp2_with fail
      rw [HW3.out]
      refine kt.mono ?_
      rintro e1 w4 ⟨rfl, l4, f4, j4⟩
      have n4 := l4 (by trivial)
      have HF4 : Hid (Fx X w w4) := ⟨f4.os.trans HB4.out.os, f4.tape.trans HB4.out.tape, f4.output.trans HB4.out.output, Nat.le_trans HB4.out.size f4.size, fun i hi hx => (f4.block i (Nat.lt_of_lt_of_le hi HB4.out.size) (by have := Hg.out; intro o; rcases o with o | o; omega; exact hx o)).trans (HB4.out.block i hi)⟩
      have HZ4 := hid (HZ3.out.at (w' := w4) (f4.block _ HZ3.out.lt (by intro o; rcases o with o | o; omega; have := HX.out _ o; have := Hg.out; omega)))
      have HV4 : Hid (Vs w4 (fun x => w1.heap.size ≤ x) ka 32 kc2 k) := HV3.out.step fun x hx hy _ => f4.block x hx (by have := HS1.out; intro o; rcases o with o | o; omega; have := HX.out _ o; have := Hg.out; omega)
      have HJ4 := hid j4
      have y0 := n4.c0
      have y1 := n4.c1
      have y2 := n4.c2
      have y3 := n4.c3
      have y4 := n4.c4
      have y5 := n4.c5
      have y6 := n4.c6
      have y7 := n4.c7
      clear l4 f4 j4 n4 kt HN3 HZ3 HV3 HB4 HW3 f0 d0
      go_wp2_with (refine wpList_sln rfl rfl _ _ rfl (gg + 1) ka 32 kc2 S C' N' D' E' s' n' rfl rfl (by with_reducible exact HZ4.out) ?_)
      refine bodyPost_ret (v := .tuple #[.agg #[.slice ka 32 kc2, .int .i64 S, .int .i64 C', .int .i64 N', .int .u64 D', .int .u64 E', .int .i64 s', .int .i64 n'], .int .i64 0]) ?_ rfl ?_
      · exact results_ln rfl _ _ (gg + 1) ka 32 kc2 S C' N' D' E' s' n' _ rfl rfl (HZ4.out.row ka 32 kc2 S C' N' D' E' s' n')
      · refine ⟨⟨ka, kc2, by rw [hkl.out], ?_⟩, HF4.out.row (by have := Hg.out; omega) _, HJ.out w4 _ HJ4.out fun x hx => setRow_other _ _ _ _ (by have := HX.out x hx; have := Hg.out; omega)⟩
        rw [hkl.out]
        exact (HV4.out.wide (V' := fun x => w.heap.size ≤ x ∧ x ≠ gg + 1) fun x _ hx => ⟨by have := HS1.out; have := Hg.out; omega, by have := HS1.out; omega⟩).step (fun x _ hx _ => setRow_other _ _ _ _ hx.2) |>.wide fun x _ hx => hx.1
    · obtain rfl : e = er := HE.out
      obtain rfl : R = lzero := by rw [HR.out, decide_eq_false hz]; rfl
      have hne : (e != 0) = true := bne_iff_ne.2 hz
      have HHZ := hid hz
      clear hz
      go_wp2_with fail
      rw [HW3.out]
      refine kt.mono ?_
      rintro e1 w4 ⟨rfl, l4, f4, j4⟩
      have HF4 : Hid (Fx X w w4) := ⟨f4.os.trans HB4.out.os, f4.tape.trans HB4.out.tape, f4.output.trans HB4.out.output, Nat.le_trans HB4.out.size f4.size, fun i hi hx => (f4.block i (Nat.lt_of_lt_of_le hi HB4.out.size) (by have := Hg.out; intro o; rcases o with o | o; omega; exact hx o)).trans (HB4.out.block i hi)⟩
      have HZ4 := hid (HZ3.out.at (w' := w4) (f4.block _ HZ3.out.lt (by intro o; rcases o with o | o; omega; have := HX.out _ o; have := Hg.out; omega)))
      have HJ4 := hid j4
      clear l4 f4 j4 kt HN3 HZ3 HV3 HB4 HW3 f0 d0
      go_wp2_with (refine wpList_sln rfl rfl _ _ rfl (gg + 1) none 0 0 0 0 0 0 0 0 0 rfl rfl (by with_reducible exact HZ4.out) ?_)
      refine bodyPost_ret (v := .tuple #[.agg #[.slice none 0 0, .int .i64 0, .int .i64 0, .int .i64 0, .int .u64 0, .int .u64 0, .int .i64 0, .int .i64 0], .int .i64 e]) ?_ rfl ?_
      · exact results_ln rfl _ _ (gg + 1) none 0 0 0 0 0 0 0 0 0 _ rfl rfl (HZ4.out.row none 0 0 0 0 0 0 0 0 0)
      · refine ⟨⟨none, 0, rfl, vs_none _ _⟩, HF4.out.row (by have := Hg.out; omega) _, HJ.out w4 _ HJ4.out fun x hx => setRow_other _ _ _ _ (by have := HX.out x hx; have := Hg.out; omega)⟩
set_option maxHeartbeats 4000000 in
theorem lchangedW_ (a : Option Addr) (m c : Nat) (k : List Int) (S C N D E s n : Int) (w : World) (h : Li w a m k S C N D E s n) (X : Nat → Prop) (J : World → Prop) (hX : ∀ x, X x → x < w.heap.size) (hJ : ∀ w1 w2, J w1 → (∀ x, X x → w2.heap[x]? = w1.heap[x]?) → J w2) (vq : Bool) (hv : lok m S C N s n = vq) (hj0 : vq = false → J w)
    (er C' N' D' E' s' n' : Int) (v1 v2 v3 v4 v5 : Value) (hc : vq = true → Lt w X J er S C N D E s n C' N' D' E' s' n' 26 (fun z => #[z, v1, v2, v3, v4, v5])) (R : Ln) (e : Int) (hR : R = if vq && decide (er = 0) then ⟨k, S, C', N', D', E', s', n'⟩ else lzero) (he : e = if vq then er else 2) :
    Calls Tryz.prog 22 #[.agg #[.slice a m c, .int .i64 S, .int .i64 C, .int .i64 N, .int .u64 D, .int .u64 E, .int .i64 s, .int .i64 n], .func (.func 26) #[] #[v1, v2, v3, v4, v5]] w fun en w' => Rc w X J R e en w' := by
  have B1 := lnew w a m c S C N D E s n
  have B2 := B1.alloc (B := w.heap.size) (by simp) (.cells #[.slice none 0 0, .int .i64 0, .int .i64 0, .int .i64 0, .int .u64 0, .int .u64 0, .int .i64 0, .int .i64 0] 27)
  have m1 := (Lm.new w a m c S C N D E s n).kept (lnew _ none 0 0 0 0 0 0 0 0 0)
  have m2 := Lm.new (w.alloc (.cells #[.slice a m c, .int .i64 S, .int .i64 C, .int .i64 N, .int .u64 D, .int .u64 E, .int .i64 s, .int .i64 n] 27)) none 0 0 0 0 0 0 0 0 0
  rw [World.size_alloc] at m2
  obtain ⟨W, HW⟩ : ∃ y, Hid ((w.alloc (.cells #[.slice a m c, .int .i64 S, .int .i64 C, .int .i64 N, .int .u64 D, .int .u64 E, .int .i64 s, .int .i64 n] 27)).alloc (.cells #[.slice none 0 0, .int .i64 0, .int .i64 0, .int .i64 0, .int .u64 0, .int .u64 0, .int .i64 0, .int .i64 0] 27) = y) := ⟨_, rfl⟩
  obtain ⟨gg, Hg⟩ : ∃ y, Hid (w.heap.size = y) := ⟨_, rfl⟩
  have HWS : Hid (W.heap.size = gg + 2) := by show _ = _; rw [← HW.out, ← Hg.out]; simp
  rw [HW.out] at B2 m1 m2
  have HB2 := hid B2
  rw [Hg.out] at m1 m2
  have HM2 := hid m2
  have HM1 := hid m1
  have HL := hid (h.on B2)
  have hkl := hid h.k.1
  have kv := lvalid_ a m c S C N D E s n W (Nat.le_trans h.m (by unfold maxLen; omega)) h.s h.n
  rw [hv] at kv
  have HV := hid hv
  have HX := hid hX
  have HJ := hid hJ
  have HJ0 := hid hj0
  have HC := hid hc
  have HR := hid hR
  have HE := hid he
  have y0 := m1.c0
  have y1 := m1.c1
  have y2 := m1.c2
  have y3 := m1.c3
  have y4 := m1.c4
  have y5 := m1.c5
  have y6 := m1.c6
  have y7 := m1.c7
  clear B1 B2 m1 m2 h hv hX hJ hj0 hc hR he
  go_enter Tryz.func22, Tryz.ntmps22
  go_wp2_with fail
  rw [HW.out, Hg.out]
  refine kv.mono ?_
  rintro e1 w1 ⟨rfl, g1⟩
  have HB1 : Hid (Below w.heap.size w w1) := bel_bel HB2.out HB2.out.size g1
  have HN1 := hid (HM1.out.kept g1)
  have HZ1 := hid (HM2.out.kept g1)
  have HL1 := hid (HL.out.on g1)
  have HS1 : Hid (gg + 2 ≤ w1.heap.size) := by have := g1.size; have := HWS.out; show _ ≤ _; omega
  clear kv g1 y0 y1 y2 y3 y4 y5 y6 y7 HW HB2 HM1 HM2 HL
  cases vq with
  | false =>
    obtain rfl : e = 2 := HE.out
    obtain rfl : R = lzero := HR.out
    have HJJ : Hid (J w1) := HJ.out w w1 (HJ0.out rfl) fun x hx => HB1.out.block x (HX.out x hx)
    go_wp2_with (refine wpList_sln rfl rfl _ _ rfl (gg + 1) none 0 0 0 0 0 0 0 0 0 rfl rfl (by with_reducible exact HZ1.out) ?_)
    refine bodyPost_ret (v := .tuple #[.agg #[.slice none 0 0, .int .i64 0, .int .i64 0, .int .i64 0, .int .u64 0, .int .u64 0, .int .i64 0, .int .i64 0], .int .i64 2]) ?_ rfl ?_
    · exact results_ln rfl _ _ (gg + 1) none 0 0 0 0 0 0 0 0 0 _ rfl rfl (HZ1.out.row none 0 0 0 0 0 0 0 0 0)
    · refine ⟨⟨none, 0, rfl, vs_none _ _⟩, (Fx.of X HB1.out).row (by have := Hg.out; omega) _, HJ.out w1 _ HJJ.out fun x hx => setRow_other _ _ _ _ (by have := HX.out x hx; have := Hg.out; omega)⟩
  | true =>
    obtain ⟨-, rfl, hrest⟩ := lokL_of (l := ⟨k, S, C, N, D, E, s, n⟩) (by show lok k.length S C N s n = true; rw [hkl.out]; exact HV.out) |> fun hh => (show True ∧ m = 32 ∧ True from ⟨trivial, hkl.out.symm.trans hh.2.1, trivial⟩)
    clear hrest
    have kc := lclone_ a c k w1 HL1.out.k
    have y0 := HN1.out.c0
    go_wp2_with fail
    refine kc.mono ?_
    rintro e1 w2 ⟨v1, rfl, o1, g2⟩
    obtain ⟨ka, kc2, rfl, vs⟩ := Vs.ofOwn o1 HL1.out.k.2.1
    have HB3 : Hid (Below w.heap.size w w2) := bel_bel HB1.out HB1.out.size g2
    have n2 := HN1.out.kept g2
    have HZ2 := hid (HZ1.out.kept g2)
    have n3 := n2.key ka 32 kc2
    have f0 := n2.fz 0
    have d0 := n2.c0
    have HN3 := hid n3
    have HZ3 := hid (HZ2.out.at (w' := w2.setCell ⟨gg, 0, none⟩ (.slice ka 32 kc2)) (Below.heap_setCell _ _ _ _ (by show gg + 1 ≠ gg; omega)))
    have HV3 : Hid (Vs (w2.setCell ⟨gg, 0, none⟩ (.slice ka 32 kc2)) (fun x => w1.heap.size ≤ x) ka 32 kc2 k) := vs.step fun x _ hx _ => Below.heap_setCell _ _ _ _ (by have := HS1.out; show x ≠ gg; omega)
    have HB4 : Hid (Below w.heap.size w (w2.setCell ⟨gg, 0, none⟩ (.slice ka 32 kc2))) := HB3.out.setCell (by show w.heap.size ≤ gg; have := Hg.out; omega) _
    obtain ⟨w3, HW3⟩ : ∃ y, Hid (w2.setCell ⟨gg, 0, none⟩ (.slice ka 32 kc2) = y) := ⟨_, rfl⟩
    rw [HW3.out] at HN3 HZ3 HV3 HB4
    clear kc o1 vs n2 n3 y0 HN1 HZ1 HZ2 HL1 HB1 g2 HB3
    have kt := HC.out (by trivial) w3 ka kc2 HB4.out (by rw [Hg.out]; exact HN3.out)
    rw [Hg.out] at kt
    clear HC
    by_cases hz : er = 0
    · subst hz
      obtain rfl : e = 0 := HE.out
      obtain rfl : R = ⟨k, S, C', N', D', E', s', n'⟩ := HR.out
      go_wp2_with fail
      rw [HW3.out]
      refine kt.mono ?_
      rintro e1 w4 ⟨rfl, l4, f4, j4⟩
      have n4 := l4 (by trivial)
      have HF4 : Hid (Fx X w w4) := ⟨f4.os.trans HB4.out.os, f4.tape.trans HB4.out.tape, f4.output.trans HB4.out.output, Nat.le_trans HB4.out.size f4.size, fun i hi hx => (f4.block i (Nat.lt_of_lt_of_le hi HB4.out.size) (by have := Hg.out; intro o; rcases o with o | o; omega; exact hx o)).trans (HB4.out.block i hi)⟩
      have HZ4 := hid (HZ3.out.at (w' := w4) (f4.block _ HZ3.out.lt (by intro o; rcases o with o | o; omega; have := HX.out _ o; have := Hg.out; omega)))
      have HV4 : Hid (Vs w4 (fun x => w1.heap.size ≤ x) ka 32 kc2 k) := HV3.out.step fun x hx hy _ => f4.block x hx (by have := HS1.out; intro o; rcases o with o | o; omega; have := HX.out _ o; have := Hg.out; omega)
      have HJ4 := hid j4
      have y0 := n4.c0
      have y1 := n4.c1
      have y2 := n4.c2
      have y3 := n4.c3
      have y4 := n4.c4
      have y5 := n4.c5
      have y6 := n4.c6
      have y7 := n4.c7
      clear l4 f4 j4 n4 kt HN3 HZ3 HV3 HB4 HW3 f0 d0
      go_wp2_with (refine wpList_sln rfl rfl _ _ rfl (gg + 1) ka 32 kc2 S C' N' D' E' s' n' rfl rfl (by with_reducible exact HZ4.out) ?_)
      refine bodyPost_ret (v := .tuple #[.agg #[.slice ka 32 kc2, .int .i64 S, .int .i64 C', .int .i64 N', .int .u64 D', .int .u64 E', .int .i64 s', .int .i64 n'], .int .i64 0]) ?_ rfl ?_
      · exact results_ln rfl _ _ (gg + 1) ka 32 kc2 S C' N' D' E' s' n' _ rfl rfl (HZ4.out.row ka 32 kc2 S C' N' D' E' s' n')
      · refine ⟨⟨ka, kc2, by rw [hkl.out], ?_⟩, HF4.out.row (by have := Hg.out; omega) _, HJ.out w4 _ HJ4.out fun x hx => setRow_other _ _ _ _ (by have := HX.out x hx; have := Hg.out; omega)⟩
        rw [hkl.out]
        exact (HV4.out.wide (V' := fun x => w.heap.size ≤ x ∧ x ≠ gg + 1) fun x _ hx => ⟨by have := HS1.out; have := Hg.out; omega, by have := HS1.out; omega⟩).step (fun x _ hx _ => setRow_other _ _ _ _ hx.2) |>.wide fun x _ hx => hx.1
    · obtain rfl : e = er := HE.out
      obtain rfl : R = lzero := by rw [HR.out, decide_eq_false hz]; rfl
      have hne : (e != 0) = true := bne_iff_ne.2 hz
      have HHZ := hid hz
      clear hz
      go_wp2_with fail
      rw [HW3.out]
      refine kt.mono ?_
      rintro e1 w4 ⟨rfl, l4, f4, j4⟩
      have HF4 : Hid (Fx X w w4) := ⟨f4.os.trans HB4.out.os, f4.tape.trans HB4.out.tape, f4.output.trans HB4.out.output, Nat.le_trans HB4.out.size f4.size, fun i hi hx => (f4.block i (Nat.lt_of_lt_of_le hi HB4.out.size) (by have := Hg.out; intro o; rcases o with o | o; omega; exact hx o)).trans (HB4.out.block i hi)⟩
      have HZ4 := hid (HZ3.out.at (w' := w4) (f4.block _ HZ3.out.lt (by intro o; rcases o with o | o; omega; have := HX.out _ o; have := Hg.out; omega)))
      have HJ4 := hid j4
      clear l4 f4 j4 kt HN3 HZ3 HV3 HB4 HW3 f0 d0
      go_wp2_with (refine wpList_sln rfl rfl _ _ rfl (gg + 1) none 0 0 0 0 0 0 0 0 0 rfl rfl (by with_reducible exact HZ4.out) ?_)
      refine bodyPost_ret (v := .tuple #[.agg #[.slice none 0 0, .int .i64 0, .int .i64 0, .int .i64 0, .int .u64 0, .int .u64 0, .int .i64 0, .int .i64 0], .int .i64 e]) ?_ rfl ?_
      · exact results_ln rfl _ _ (gg + 1) none 0 0 0 0 0 0 0 0 0 _ rfl rfl (HZ4.out.row none 0 0 0 0 0 0 0 0 0)
      · refine ⟨⟨none, 0, rfl, vs_none _ _⟩, HF4.out.row (by have := Hg.out; omega) _, HJ.out w4 _ HJ4.out fun x hx => setRow_other _ _ _ _ (by have := HX.out x hx; have := Hg.out; omega)⟩
end Go.Proofs.YtbkeejapongmlaaGreatDoor
