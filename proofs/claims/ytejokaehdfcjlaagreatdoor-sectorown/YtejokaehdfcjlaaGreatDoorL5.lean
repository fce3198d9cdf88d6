import Derived.Test.YtejokaehdfcjlaaGreatDoorL1
import Derived.Deep.RegionHeld
import Derived.Test.YtejokaehdfcjlaaGreatDoorL2
namespace Go.Proofs.YtejokaehdfcjlaaGreatDoor
set_option maxRecDepth 100000
open Go.RowKit
set_option linter.unusedVariables false

def rm (l : List Int) : List Int := l ++ [161, 162, 163]
theorem rm_by {l : List Int} (h : By l) : By (rm l) := By.app h (by intro z hz; simp at hz; omega)
theorem rm_length (l : List Int) : (rm l).length = l.length + 3 := by simp [rm]
theorem cell_three_new (w : World) (a b c : Value) (t : TypeId) : ∀ j u, [a, b, c][j]? = some u → (w.alloc (.cells #[a, b, c] t)).cell? ((⟨w.heap.size, 0, none⟩ : Addr).add j) = some u := by
  intro j u hj
  match j, hj with
  | 0, hj => simp at hj; subst hj; simp [Addr.add]
  | 1, hj => simp at hj; subst hj; simp [Addr.add]
  | 2, hj => simp at hj; subst hj; simp [Addr.add]
/-- The plain sector. -/
def pl : Sec := ⟨⟨#[67, 86, 79, 49]⟩, 1, 2, 3, [97, 98, 99]⟩
theorem pl_may : May pl := by decide
theorem pl_by : By pl.l := by intro z hz; simp [pl] at hz; omega
set_option maxRecDepth 100000 in
theorem pl_at : (ps pl).getD 11 0 = 1 ∧ (ps pl).getD 23 0 = 3 ∧ (ps pl).getD 25 0 = 3 ∧ (ps pl).getD 30 0 = 99 ∧ (ps pl).getD 508 0 = 208 ∧ (ps pl).getD 509 0 = 204 ∧ (ps pl).getD 510 0 = 102 ∧ (ps pl).getD 511 0 = 190 ∧ sl (ps pl) 0 4 = [67, 86, 79, 49] := by decide +kernel
theorem pl_gs : gs (ps pl) = some pl := gs_ps pl_may pl_by
set_option maxHeartbeats 1000000 in
theorem plain_ (w : World) : Calls Tryz.prog 15 #[] w fun en w' => ∃ g, en = .returned (.agg #[.string ⟨#[67, 86, 79, 49]⟩, .int .i64 1, .int .i64 2, .int .i64 3, .slice (some ⟨g, 0, none⟩) 3 3]) ∧ Bs w' (some ⟨g, 0, none⟩) 3 [97, 98, 99] ∧ w.heap.size ≤ g ∧ Below w.heap.size w w' := by
  have kc := Lib.run_convert_bytes_const (P := Tryz.prog) (w.alloc (.cells #[.string ⟨#[]⟩, .int .i64 0, .int .i64 0, .int .i64 0, .slice none 0 0] 46)) 44 5 #[.int .u8 97, .int .u8 98, .int .u8 99] 3 3 Tryz.underlying44 Tryz.underlying5
  have hs : (w.alloc (.cells #[.string ⟨#[]⟩, .int .i64 0, .int .i64 0, .int .i64 0, .slice none 0 0] 46)).heap.size = w.heap.size + 1 := by simp
  rw [hs] at kc
  have m0 := (Sm.new w ⟨#[]⟩ 0 0 0 (.slice none 0 0)).alloc (.cells #[.int .u8 97, .int .u8 98, .int .u8 99] 5 (3, 4))
  have B0 := (snew w ⟨#[]⟩ 0 0 0 (.slice none 0 0)).alloc (snew w ⟨#[]⟩ 0 0 0 (.slice none 0 0)).size (.cells #[.int .u8 97, .int .u8 98, .int .u8 99] 5 (3, 4))
  have hn : ((w.alloc (.cells #[.string ⟨#[]⟩, .int .i64 0, .int .i64 0, .int .i64 0, .slice none 0 0] 46)).alloc (.cells #[.int .u8 97, .int .u8 98, .int .u8 99] 5 (3, 4))).heap[w.heap.size + 1]? = some (.cells #[.int .u8 97, .int .u8 98, .int .u8 99] 5 (3, 4)) := by rw [← hs]; exact heap_alloc_new _ _
  simp only [List.size_toArray, List.length_cons, List.length_nil] at kc
  have HN := hid hn
  have M0 := hid m0
  have BB := hid B0
  clear m0 B0 hn hs
  go_enter Tryz.func15, Tryz.ntmps15
  go_wp2_with (with_reducible show wpList _ _ _ (_ :: _) _ _; refine wpList_ss rfl rfl _ _ rfl w.heap.size ⟨#[67, 86, 79, 49]⟩ 1 2 3 (some ⟨w.heap.size + 1, 0, none⟩) 3 3 rfl rfl _ _ _ _ _ (by with_reducible exact M0.out) ?_)
  refine bodyPost_ret (results_s rfl _ _ w.heap.size _ _ _ _ _ rfl (M0.out.row ⟨#[67, 86, 79, 49]⟩ 1 2 3 (.slice (some ⟨w.heap.size + 1, 0, none⟩) 3 3))) rfl ⟨w.heap.size + 1, rfl, ⟨rfl, ?_, .inr ⟨w.heap.size + 1, 0, rfl, fun i hi => ?_⟩⟩, by omega, bel_row BB.out (Nat.le_refl _) _⟩
  · intro z hz; simp at hz; omega
  · rw [Nat.zero_add, cell_of_row _ _ i #[.int .u8 97, .int .u8 98, .int .u8 99] 5 (3, 4) (by rw [setRow_other _ _ _ _ (by omega)]; exact HN.out)]
    have c : i = 0 ∨ i = 1 ∨ i = 2 := by omega
    rcases c with rfl | rfl | rfl <;> rfl
end Go.Proofs.YtejokaehdfcjlaaGreatDoor
namespace Go.Proofs.YtejokaehdfcjlaaGreatDoor
set_option maxRecDepth 100000
open Go.RowKit
set_option linter.unusedVariables false

theorem pl_mayn : MayN ⟨#[67, 86, 79, 49]⟩ 1 2 3 3 := (may_n (s := pl) rfl).1 pl_may
theorem pl_rt : rt (ps pl) ⟨#[67, 86, 79, 49]⟩ 1 2 4 = none := by
  unfold rt
  rw [pl_gs]
  simp [pl]
set_option maxHeartbeats 8000000 in
theorem first_ (w : World) (hT : Tab w) : Calls Tryz.prog 4 #[] w fun en w' => en = .returned (.bool true) ∧ Below w.heap.size w w' := by
  go_enter Tryz.func4, Tryz.ntmps4
  go_wp2_with fail
  refine (plain_ w).mono ?_
  rintro x1 w1 ⟨g1, rfl, y1, _, B1⟩
  have T1 := hT.bel B1
  go_wp2_with fail
  refine (put_y ⟨#[67, 86, 79, 49]⟩ 1 2 3 _ 3 3 [97, 98, 99] w1 T1 y1 pl_mayn).mono ?_
  rintro x2 w2 ⟨g, rfl, hg, r2, G2⟩
  have B2 := bel_bel B1 B1.size G2
  have T2 := T1.bel G2
  clear y1 G2 T1 B1
  replace r2 : Row w2 g (ps pl) := r2
  have hlen := ps_length pl_may
  have hby := ps_by pl_by
  obtain ⟨p11, p23, p25, p30, p508, p509, p510, p511, pt⟩ := pl_at
  have c11 := r2.cell 11 (by omega)
  have c23 := r2.cell 23 (by omega)
  have c25 := r2.cell 25 (by omega)
  have c30 := r2.cell 30 (by omega)
  have c508 := r2.cell 508 (by omega)
  have c509 := r2.cell 509 (by omega)
  have c510 := r2.cell 510 (by omega)
  have c511 := r2.cell 511 (by omega)
  rw [p11] at c11
  rw [p23] at c23
  rw [p25] at c25
  rw [p30] at c30
  rw [p508] at c508
  rw [p509] at c509
  rw [p510] at c510
  rw [p511] at c511
  have yb : Bs w2 (some ⟨g, 0, none⟩) 512 (ps pl) := (r2.bs hby).len hlen
  have kt : (convert 44 9 (.slice (some ⟨g, 0, none⟩) 4 512)).run Tryz.prog w2 = .ok (.string ⟨#[67, 86, 79, 49]⟩) w2 := by
    have := run_txt 512 (bs_sl yb 0 4 (by omega))
    rw [pt] at this
    exact this
  have R2 := hid r2
  have YB := hid yb
  have BB := hid B2
  clear yb r2 p11 p23 p25 p30 p508 p509 p510 p511 pt hby hlen B2
  go_wp2_with (go_at_call 12; refine (num_ _ _).mono ?_; rintro xn wn ⟨rfl, hw⟩; obtain rfl := hw.symm)
  clear c11 c23 c25 c30 c508 c509 c510 c511 kt
  refine (get_y (some ⟨g, 0, none⟩) 512 512 (ps pl) w2 T2 YB.out (Nat.le_refl _) (by unfold maxLen; omega) ⟨⟨#[67, 86, 79, 49]⟩, 1, 2, 3, [97, 98, 99]⟩ pl_gs).mono ?_
  rintro x3 w3 ⟨g3, rfl, hg3, r3, G3⟩
  simp only [List.length_cons, List.length_nil, Nat.zero_add, Nat.reduceAdd]
  have B3 := bel_bel BB.out BB.out.size G3
  have T3 := T2.bel G3
  have Y3 := hid (YB.out.below G3)
  have m3 := Sm.new w3 ⟨#[67, 86, 79, 49]⟩ 1 2 3 (.slice (some ⟨g3, 0, none⟩) 3 3)
  have A3 : Below w3.heap.size w3 (w3.alloc (.cells #[.string ⟨#[67, 86, 79, 49]⟩, .int .i64 1, .int .i64 2, .int .i64 3, .slice (some ⟨g3, 0, none⟩) 3 3] 46)) := (Below.refl _ _).alloc (Nat.le_refl _) _
  have B4 := hid (bel_bel B3 B3.size A3)
  have T4 := hid (T3.bel A3)
  have Y4 := hid (Y3.out.below A3)
  have r4 : Row (w3.alloc (.cells #[.string ⟨#[67, 86, 79, 49]⟩, .int .i64 1, .int .i64 2, .int .i64 3, .slice (some ⟨g3, 0, none⟩) 3 3] 46)) g3 [97, 98, 99] := r3.kept (r := none) (grown_of_below A3) (by simp)
  have L4 : Hid (Bs (w3.alloc (.cells #[.string ⟨#[67, 86, 79, 49]⟩, .int .i64 1, .int .i64 2, .int .i64 3, .slice (some ⟨g3, 0, none⟩) 3 3] 46)) (some ⟨g3, 0, none⟩) 3 [97, 98, 99]) := r4.bs pl_by
  clear B3 T3 A3 r3 r4 G3 BB YB T2 R2
  go_wp2_with fail
  generalize hgs : w3.heap.size = gs3 at *
  have hlt := m3.lt
  have d0 := m3.c0
  have d1 := m3.c1
  have d2 := m3.c2
  have d3 := m3.c3
  have d4 := m3.c4
  clear m3 hgs
  generalize w3.alloc _ = w4 at *
  go_region_held (fun wx => wx.cell? ⟨gs3, 0, none⟩ = some (.string ⟨#[67, 86, 79, 49]⟩) ∧ wx.cell? ⟨gs3, 1, none⟩ = some (.int .i64 1) ∧ wx.cell? ⟨gs3, 2, none⟩ = some (.int .i64 2) ∧ wx.cell? ⟨gs3, 3, none⟩ = some (.int .i64 3) ∧ wx.cell? ⟨gs3, 4, none⟩ = some (.slice (some ⟨g3, 0, none⟩) 3 3)) (go_keep) (first | (go_at_call 15; refine (plain_ _).mono ?_; rintro xp w5 ⟨gp, rfl, yp, _, g4⟩; have e0 := (g4.cell (p := ⟨gs3, 0, none⟩) hlt).trans d0; have e1 := (g4.cell (p := ⟨gs3, 1, none⟩) hlt).trans d1; have e2 := (g4.cell (p := ⟨gs3, 2, none⟩) hlt).trans d2; have e3 := (g4.cell (p := ⟨gs3, 3, none⟩) hlt).trans d3; have e4 := (g4.cell (p := ⟨gs3, 4, none⟩) hlt).trans d4; have LP := hid yp; have L5 : Hid (Bs w5 (some ⟨g3, 0, none⟩) 3 [97, 98, 99]) := Bs.below (by exact L4.out) g4; have G4 := hid g4; clear yp g4) | (go_at_call 11; refine (alike_y ⟨#[67, 86, 79, 49]⟩ 1 2 3 (some ⟨g3, 0, none⟩) (some ⟨gp, 0, none⟩) 3 3 3 3 [97, 98, 99] _ L5.out LP.out (by omega) (by omega)).mono ?_; rintro xa w6 ⟨rfl, g5⟩; have h0 := (g5.cell (p := ⟨gs3, 0, none⟩) (Nat.lt_of_lt_of_le hlt G4.out.size)).trans e0; have h1 := (g5.cell (p := ⟨gs3, 1, none⟩) (Nat.lt_of_lt_of_le hlt G4.out.size)).trans e1; have h2 := (g5.cell (p := ⟨gs3, 2, none⟩) (Nat.lt_of_lt_of_le hlt G4.out.size)).trans e2; have h3 := (g5.cell (p := ⟨gs3, 3, none⟩) (Nat.lt_of_lt_of_le hlt G4.out.size)).trans e3; have h4 := (g5.cell (p := ⟨gs3, 4, none⟩) (Nat.lt_of_lt_of_le hlt G4.out.size)).trans e4; have G5 := hid g5; clear g5))
  have D4 : Below w.heap.size w w4.drew := ⟨B4.out.os, B4.out.tape, B4.out.output, B4.out.size, B4.out.block⟩
  have B5 := bel_bel D4 D4.size G4.out
  have B6 := bel_bel B5 B5.size G5.out
  have T5 : Tab w5 := Tab.bel (by exact T4.out) G4.out
  have T6 := T5.bel G5.out
  have Y5 : Bs w5 (some ⟨g, 0, none⟩) 512 (ps pl) := Bs.below (by exact Y4.out) G4.out
  have Y6 := hid (Y5.below G5.out)
  have B6H := hid B6
  clear h0 h1 h2 h3 h4 e0 e1 e2 e3 e4 d0 d1 d2 d3 d4 D4 B5 B6 T5 Y5 G4 G5 L4 L5 LP T4 Y4 B4 hlt
  go_wp2_with fail
  refine (right_y ⟨#[67, 86, 79, 49]⟩ 1 2 3 [97, 98, 99] (some ⟨g, 0, none⟩) 512 512 (ps pl) w6 T6 Y6.out (Nat.le_refl _) (by unfold maxLen; omega) pl_gs).mono ?_
  rintro x7 w7 ⟨g7, rfl, hg7, r7, G7⟩
  simp only [List.length_cons, List.length_nil, Nat.zero_add, Nat.reduceAdd]
  have B7 := bel_bel B6H.out B6H.out.size G7
  have T7 := T6.bel G7
  have Y7 := hid (Y6.out.below G7)
  have L7 := hid (r7.bs pl_by)
  have B7H := hid B7
  clear B7 r7 G7 T6 Y6 B6H
  go_wp2_with fail
  refine (right_n ⟨#[67, 86, 79, 49]⟩ 1 2 4 (some ⟨g, 0, none⟩) 512 512 (ps pl) w7 T7 Y7.out (Nat.le_refl _) (by unfold maxLen; omega) pl_rt).mono ?_
  rintro x8 w8 ⟨rfl, G8⟩
  have B8 := bel_bel B7H.out B7H.out.size G8
  have kt : (convert 44 9 (.slice (some ⟨g7, 0, none⟩) 3 3)).run Tryz.prog w8 = .ok (.string ⟨#[97, 98, 99]⟩) w8 := run_txt 3 (L7.out.below G8)
  clear B7H L7 Y7 T7 G8
  go_wp2_with (go_at_call 12; refine (num_ _ _).mono ?_; rintro xn wn ⟨rfl, hw⟩; obtain rfl := hw.symm)
  go_ret
  exact ⟨rfl, B8⟩
end Go.Proofs.YtejokaehdfcjlaaGreatDoor
namespace Go.Proofs.YtejokaehdfcjlaaGreatDoor
set_option maxRecDepth 100000
open Go.RowKit
set_option linter.unusedVariables false

/-- What Put answers. -/
def PB (s : Sec) : List Int := if May s then ps s else []
def PE (s : Sec) : Int := if May s then 0 else 117
theorem PB_by {s : Sec} (h : By s.l) : By (PB s) := by unfold PB; split; exact ps_by h; intro z hz; cases hz
theorem PB_le (s : Sec) : (PB s).length ≤ 512 := by unfold PB; split; rename_i h; rw [ps_length h]; exact Nat.le_refl _; simp
/-- New bytes. -/
structure Nw (B : Nat) (w : World) (a : Option Addr) (n c : Nat) (l : List Int) : Prop where
  bs : Bs w a n l
  le : n ≤ c
  mx : c ≤ maxLen
  fr : ∀ x, a = some x → B ≤ x.block
theorem nw_nil (B : Nat) (w : World) : Nw B w none 0 0 [] := ⟨bs_nil _ _, Nat.le_refl _, by unfold maxLen; omega, fun x h => by cases h⟩
theorem Nw.bel {B : Nat} {w w' : World} {a : Option Addr} {n c : Nat} {l : List Int} (h : Nw B w a n c l) (hb : Below w.heap.size w w') : Nw B w' a n c l := ⟨h.bs.below hb, h.le, h.mx, h.fr⟩
theorem Nw.own {B : Nat} {w : World} {n : Nat} {v : Value} {l : List Int} (h : w.ownsRow B 5 1 v n (cells l)) (hb : By l) : ∃ a c, v = .slice a n c ∧ Nw B w a n c l := by
  obtain ⟨a, c, rfl, h1, h2, h3, _⟩ := own_form h hb
  refine ⟨a, c, rfl, h1, h2, h3, fun x hx => ?_⟩
  subst hx
  exact (h.lt x.block (by
    rcases h.2 with ⟨e, _⟩ | ⟨g, cap, cur, e, _⟩
    · cases e
    · cases e; rfl)).1
theorem Nw.row {B : Nat} {w : World} {g n : Nat} {l : List Int} (h : Row w g l) (hn : l.length = n) (hb : By l) (hg : B ≤ g) (hm : n ≤ 1000000) : Nw B w (some ⟨g, 0, none⟩) n n l :=
  ⟨(h.bs hb).len hn, Nat.le_refl _, by unfold maxLen; omega, fun x hx => by cases hx; exact hg⟩
/-- Untouched by writing into another block. -/
theorem Nw.off {B g : Nat} {w w' : World} {a : Option Addr} {n c : Nat} {l : List Int} (h : Nw B w a n c l) (hg : w.grownBy w' (some g)) (hlt : g < B) : Nw B w' a n c l :=
  ⟨h.bs.kept hg (.inr fun x hx => by have := h.fr x hx; simp; omega), h.le, h.mx, h.fr⟩

theorem put_u (s : Sec) (a : Option Addr) (n c : Nat) (w : World) (hT : Tab w) (hb : Bs w a n s.l) :
    Calls Tryz.prog 7 #[.agg #[.string s.T, .int .i64 s.e, .int .i64 s.q, .int .i64 s.p, .slice a n c]] w fun en w' => ∃ a1 n1 c1, en = .returned (.tuple #[.slice a1 n1 c1, .int .i64 (PE s)]) ∧ Nw w.heap.size w' a1 n1 c1 (PB s) ∧ Below w.heap.size w w' := by
  by_cases h : May s
  · have h' := (may_n hb.1).1 h
    refine (put_y s.T s.e s.q s.p a n c s.l w hT hb h').mono ?_
    rintro en w' ⟨g, rfl, h1, h2, h3⟩
    unfold PB PE
    rw [if_pos h, if_pos h]
    exact ⟨_, _, _, rfl, Nw.row h2 (ps_length h) (ps_by hb.2.1) h1 (by omega), h3⟩
  · have h' : ¬ MayN s.T s.e s.q s.p n := fun k => h ((may_n hb.1).2 k)
    refine (put_n s.T s.e s.q s.p a n c w h').mono ?_
    rintro en w' ⟨rfl, h3⟩
    unfold PB PE
    rw [if_neg h, if_neg h]
    exact ⟨_, _, _, rfl, nw_nil _ _, h3⟩
theorem refPut_u (s : Sec) (a : Option Addr) (n c : Nat) (w : World) (hb : Bs w a n s.l) :
    Calls Tryz.prog 6 #[.agg #[.string s.T, .int .i64 s.e, .int .i64 s.q, .int .i64 s.p, .slice a n c]] w fun en w' => ∃ a1 n1 c1, en = .returned (.tuple #[.slice a1 n1 c1, .int .i64 (PE s)]) ∧ Nw w.heap.size w' a1 n1 c1 (PB s) ∧ Below w.heap.size w w' := by
  by_cases h : May s
  · have h' := (may_n hb.1).1 h
    refine (refPut_y s.T s.e s.q s.p a n c s.l w hb h').mono ?_
    rintro en w' ⟨v, rfl, h1, h3⟩
    unfold PB PE
    rw [if_pos h, if_pos h]
    obtain ⟨a1, c1, rfl, h4⟩ := Nw.own h1 (ps_by hb.2.1)
    exact ⟨_, _, _, rfl, h4, h3⟩
  · have h' : ¬ MayN s.T s.e s.q s.p n := fun k => h ((may_n hb.1).2 k)
    refine (refPut_n s.T s.e s.q s.p a n c w h').mono ?_
    rintro en w' ⟨rfl, h3⟩
    unfold PB PE
    rw [if_neg h, if_neg h]
    exact ⟨_, _, _, rfl, nw_nil _ _, h3⟩
/-- What Get answers. -/
def zs0 : Sec := ⟨⟨#[]⟩, 0, 0, 0, []⟩
def GS (b : List Int) : Sec := (gs b).getD zs0
def GE (b : List Int) : Int := if (gs b).isSome then 0 else 117
theorem GS_by {b : List Int} (h : By b) : By (GS b).l := by
  unfold GS
  cases hg : gs b with
  | none => intro z hz; cases hz
  | some s => rw [(gs_some hg).2.2.2]; exact sl_by h _ _
theorem GS_le (b : List Int) : (GS b).l.length ≤ 480 := by
  unfold GS
  cases hg : gs b with
  | none => exact Nat.zero_le _
  | some s => exact (gs_some hg).2.1.2.2.2.2
theorem get_u (a : Option Addr) (n c : Nat) (zs : List Int) (w : World) (hT : Tab w) (hb : Bs w a n zs) (hc : n ≤ c) (hm : c ≤ maxLen) :
    Calls Tryz.prog 8 #[.slice a n c] w fun en w' => ∃ a1 n1 c1, en = .returned (.tuple #[.agg #[.string (GS zs).T, .int .i64 (GS zs).e, .int .i64 (GS zs).q, .int .i64 (GS zs).p, .slice a1 n1 c1], .int .i64 (GE zs)]) ∧ Nw w.heap.size w' a1 n1 c1 (GS zs).l ∧ Below w.heap.size w w' := by
  cases hg : gs zs with
  | none =>
    refine (get_n a n c zs w hT hb hc hm hg).mono ?_
    rintro en w' ⟨rfl, h3⟩
    unfold GS GE
    rw [hg]
    exact ⟨_, _, _, rfl, nw_nil _ _, h3⟩
  | some s =>
    refine (get_y a n c zs w hT hb hc hm s hg).mono ?_
    rintro en w' ⟨g, rfl, h1, h2, h3⟩
    have hy : By s.l := by rw [(gs_some hg).2.2.2]; exact sl_by hb.2.1 _ _
    have hl := (gs_some hg).2.1.2.2.2.2
    unfold GS GE
    rw [hg]
    exact ⟨_, _, _, rfl, Nw.row h2 rfl hy h1 (by omega), h3⟩
/-- What Right answers. -/
def RB (b : List Int) (T : ByteArray) (e q p : Int) : List Int := (rt b T e q p).getD []
def RO (b : List Int) (T : ByteArray) (e q p : Int) : Bool := (rt b T e q p).isSome
theorem RB_le (b : List Int) (T : ByteArray) (e q p : Int) : (RB b T e q p).length ≤ 480 := by
  unfold RB
  cases hg : rt b T e q p with
  | none => exact Nat.zero_le _
  | some l => exact (gs_some (rt_some hg)).2.1.2.2.2.2
theorem right_u (T : ByteArray) (e q p : Int) (a : Option Addr) (n c : Nat) (zs : List Int) (w : World) (hT : Tab w) (hb : Bs w a n zs) (hc : n ≤ c) (hm : c ≤ maxLen) :
    Calls Tryz.prog 9 #[.slice a n c, .string T, .int .i64 e, .int .i64 q, .int .i64 p] w fun en w' => ∃ a1 n1 c1, en = .returned (.tuple #[.slice a1 n1 c1, .bool (RO zs T e q p)]) ∧ Nw w.heap.size w' a1 n1 c1 (RB zs T e q p) ∧ Below w.heap.size w w' := by
  cases hr : rt zs T e q p with
  | none =>
    refine (right_n T e q p a n c zs w hT hb hc hm hr).mono ?_
    rintro en w' ⟨rfl, h3⟩
    unfold RB RO
    rw [hr]
    exact ⟨_, _, _, rfl, nw_nil _ _, h3⟩
  | some l =>
    have hg := rt_some hr
    refine (right_y T e q p l a n c zs w hT hb hc hm hg).mono ?_
    rintro en w' ⟨g, rfl, h1, h2, h3⟩
    have hy : By l := by have e := congrArg Sec.l (gs_some hg).2.2.2; simp only at e; rw [e]; exact sl_by hb.2.1 _ _
    have hl : l.length ≤ 480 := (gs_some hg).2.1.2.2.2.2
    unfold RB RO
    rw [hr]
    exact ⟨_, _, _, rfl, Nw.row h2 rfl hy h1 (by omega), h3⟩
end Go.Proofs.YtejokaehdfcjlaaGreatDoor
