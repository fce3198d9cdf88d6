import Derived.Test.YtfmdnfbcfhojpaaDoorL4
namespace Go.Proofs.YtfmdnfbcfhojpaaDoor
set_option maxRecDepth 100000
open Go.RowKit
set_option linter.unusedVariables false

/-- What Put answers. -/
def PB (s : Sec) : List Int := if May s then ps s else []
def PE (s : Sec) : Int := if May s then 0 else 117
theorem PB_by {s : Sec} (h : By s.l) : By (PB s) := by unfold PB; split; exact ps_by h; intro z hz; cases hz
theorem PB_le (s : Sec) : (PB s).length ≤ 512 := by unfold PB; split; rename_i h; rw [ps_length h]; exact Nat.le_refl _; simp
/-- New bytes. -/
structure Nw (B : Nat) (w : World) (a : Option Addr) (n c : Nat) (l : List Int) : Prop where
  bs : Bs w a n l
  le : n ≤ c
  mx : c ≤ maxLen
  fr : ∀ x, a = some x → B ≤ x.block
theorem nw_nil (B : Nat) (w : World) : Nw B w none 0 0 [] := ⟨bs_nil _ _, Nat.le_refl _, by unfold maxLen; omega, fun x h => by cases h⟩
theorem Nw.bel {B : Nat} {w w' : World} {a : Option Addr} {n c : Nat} {l : List Int} (h : Nw B w a n c l) (hb : Below w.heap.size w w') : Nw B w' a n c l := ⟨h.bs.below hb, h.le, h.mx, h.fr⟩
theorem Nw.own {B : Nat} {w : World} {n : Nat} {v : Value} {l : List Int} (h : w.ownsRow B 5 1 v n (cells l)) (hb : By l) : ∃ a c, v = .slice a n c ∧ Nw B w a n c l := by
  obtain ⟨a, c, rfl, h1, h2, h3, _⟩ := own_form h hb
  refine ⟨a, c, rfl, h1, h2, h3, fun x hx => ?_⟩
  subst hx
  exact (h.lt x.block (by
    rcases h.2 with ⟨e, _⟩ | ⟨g, cap, cur, e, _⟩
    · cases e
    · cases e; rfl)).1
theorem Nw.row {B : Nat} {w : World} {g n : Nat} {l : List Int} (h : Row w g l) (hn : l.length = n) (hb : By l) (hg : B ≤ g) (hm : n ≤ 1000000) : Nw B w (some ⟨g, 0, none⟩) n n l :=
  ⟨(h.bs hb).len hn, Nat.le_refl _, by unfold maxLen; omega, fun x hx => by cases hx; exact hg⟩
/-- Untouched by writing into another block. -/
theorem Nw.off {B g : Nat} {w w' : World} {a : Option Addr} {n c : Nat} {l : List Int} (h : Nw B w a n c l) (hg : w.grownBy w' (some g)) (hlt : g < B) : Nw B w' a n c l :=
  ⟨h.bs.kept hg (.inr fun x hx => by have := h.fr x hx; simp; omega), h.le, h.mx, h.fr⟩

theorem put_u (s : Sec) (a : Option Addr) (n c : Nat) (w : World) (hT : Tab w) (hb : Bs w a n s.l) :
    Calls Tryd.prog 11 #[.agg #[.string s.T, .int .i64 s.e, .int .i64 s.q, .int .i64 s.p, .slice a n c]] w fun en w' => ∃ a1 n1 c1, en = .returned (.tuple #[.slice a1 n1 c1, .int .i64 (PE s)]) ∧ Nw w.heap.size w' a1 n1 c1 (PB s) ∧ Below w.heap.size w w' := by
  by_cases h : May s
  · have h' := (may_n hb.1).1 h
    refine (put_y s.T s.e s.q s.p a n c s.l w hT hb h').mono ?_
    rintro en w' ⟨g, rfl, h1, h2, h3⟩
    unfold PB PE
    rw [if_pos h, if_pos h]
    exact ⟨_, _, _, rfl, Nw.row h2 (ps_length h) (ps_by hb.2.1) h1 (by omega), h3⟩
  · have h' : ¬ MayN s.T s.e s.q s.p n := fun k => h ((may_n hb.1).2 k)
    refine (put_n s.T s.e s.q s.p a n c w h').mono ?_
    rintro en w' ⟨rfl, h3⟩
    unfold PB PE
    rw [if_neg h, if_neg h]
    exact ⟨_, _, _, rfl, nw_nil _ _, h3⟩
theorem refPut_u (s : Sec) (a : Option Addr) (n c : Nat) (w : World) (hb : Bs w a n s.l) :
    Calls Tryd.prog 12 #[.agg #[.string s.T, .int .i64 s.e, .int .i64 s.q, .int .i64 s.p, .slice a n c]] w fun en w' => ∃ a1 n1 c1, en = .returned (.tuple #[.slice a1 n1 c1, .int .i64 (PE s)]) ∧ Nw w.heap.size w' a1 n1 c1 (PB s) ∧ Below w.heap.size w w' := by
  by_cases h : May s
  · have h' := (may_n hb.1).1 h
    refine (refPut_y s.T s.e s.q s.p a n c s.l w hb h').mono ?_
    rintro en w' ⟨v, rfl, h1, h3⟩
    unfold PB PE
    rw [if_pos h, if_pos h]
    obtain ⟨a1, c1, rfl, h4⟩ := Nw.own h1 (ps_by hb.2.1)
    exact ⟨_, _, _, rfl, h4, h3⟩
  · have h' : ¬ MayN s.T s.e s.q s.p n := fun k => h ((may_n hb.1).2 k)
    refine (refPut_n s.T s.e s.q s.p a n c w h').mono ?_
    rintro en w' ⟨rfl, h3⟩
    unfold PB PE
    rw [if_neg h, if_neg h]
    exact ⟨_, _, _, rfl, nw_nil _ _, h3⟩
/-- What Get answers. -/
def zs0 : Sec := ⟨⟨#[]⟩, 0, 0, 0, []⟩
def GS (b : List Int) : Sec := (gs b).getD zs0
def GE (b : List Int) : Int := if (gs b).isSome then 0 else 117
theorem GS_by {b : List Int} (h : By b) : By (GS b).l := by
  unfold GS
  cases hg : gs b with
  | none => intro z hz; cases hz
  | some s => rw [(gs_some hg).2.2.2]; exact sl_by h _ _
theorem GS_le (b : List Int) : (GS b).l.length ≤ 480 := by
  unfold GS
  cases hg : gs b with
  | none => exact Nat.zero_le _
  | some s => exact (gs_some hg).2.1.2.2.2.2
theorem get_u (a : Option Addr) (n c : Nat) (zs : List Int) (w : World) (hT : Tab w) (hb : Bs w a n zs) (hc : n ≤ c) (hm : c ≤ maxLen) :
    Calls Tryd.prog 21 #[.slice a n c] w fun en w' => ∃ a1 n1 c1, en = .returned (.tuple #[.agg #[.string (GS zs).T, .int .i64 (GS zs).e, .int .i64 (GS zs).q, .int .i64 (GS zs).p, .slice a1 n1 c1], .int .i64 (GE zs)]) ∧ Nw w.heap.size w' a1 n1 c1 (GS zs).l ∧ Below w.heap.size w w' := by
  cases hg : gs zs with
  | none =>
    refine (get_n a n c zs w hT hb hc hm hg).mono ?_
    rintro en w' ⟨rfl, h3⟩
    unfold GS GE
    rw [hg]
    exact ⟨_, _, _, rfl, nw_nil _ _, h3⟩
  | some s =>
    refine (get_y a n c zs w hT hb hc hm s hg).mono ?_
    rintro en w' ⟨g, rfl, h1, h2, h3⟩
    have hy : By s.l := by rw [(gs_some hg).2.2.2]; exact sl_by hb.2.1 _ _
    have hl := (gs_some hg).2.1.2.2.2.2
    unfold GS GE
    rw [hg]
    exact ⟨_, _, _, rfl, Nw.row h2 rfl hy h1 (by omega), h3⟩
theorem refGet_u (a : Option Addr) (n c : Nat) (zs : List Int) (w : World) (hb : Bs w a n zs) (hc : n ≤ c) (hm : c ≤ maxLen) :
    Calls Tryd.prog 19 #[.slice a n c] w fun en w' => ∃ a1 n1 c1, en = .returned (.tuple #[.agg #[.string (GS zs).T, .int .i64 (GS zs).e, .int .i64 (GS zs).q, .int .i64 (GS zs).p, .slice a1 n1 c1], .int .i64 (GE zs)]) ∧ Nw w.heap.size w' a1 n1 c1 (GS zs).l ∧ Below w.heap.size w w' := by
  cases hg : gs zs with
  | none =>
    refine (refGet_n a n c zs w hb hc hm hg).mono ?_
    rintro en w' ⟨rfl, h3⟩
    unfold GS GE
    rw [hg]
    exact ⟨_, _, _, rfl, nw_nil _ _, h3⟩
  | some s =>
    refine (refGet_y a n c zs w hb hc hm s hg).mono ?_
    rintro en w' ⟨v, rfl, h1, h3⟩
    have hy : By s.l := by rw [(gs_some hg).2.2.2]; exact sl_by hb.2.1 _ _
    obtain ⟨a1, c1, rfl, h4⟩ := Nw.own h1 hy
    unfold GS GE
    rw [hg]
    exact ⟨_, _, _, rfl, h4, h3⟩
/-- What Right answers. -/
def RB (b : List Int) (T : ByteArray) (e q p : Int) : List Int := (rt b T e q p).getD []
def RO (b : List Int) (T : ByteArray) (e q p : Int) : Bool := (rt b T e q p).isSome
theorem RB_le (b : List Int) (T : ByteArray) (e q p : Int) : (RB b T e q p).length ≤ 480 := by
  unfold RB
  cases hg : rt b T e q p with
  | none => exact Nat.zero_le _
  | some l => exact (gs_some (rt_some hg)).2.1.2.2.2.2
theorem right_u (T : ByteArray) (e q p : Int) (a : Option Addr) (n c : Nat) (zs : List Int) (w : World) (hT : Tab w) (hb : Bs w a n zs) (hc : n ≤ c) (hm : c ≤ maxLen) :
    Calls Tryd.prog 17 #[.slice a n c, .string T, .int .i64 e, .int .i64 q, .int .i64 p] w fun en w' => ∃ a1 n1 c1, en = .returned (.tuple #[.slice a1 n1 c1, .bool (RO zs T e q p)]) ∧ Nw w.heap.size w' a1 n1 c1 (RB zs T e q p) ∧ Below w.heap.size w w' := by
  cases hr : rt zs T e q p with
  | none =>
    refine (right_n T e q p a n c zs w hT hb hc hm hr).mono ?_
    rintro en w' ⟨rfl, h3⟩
    unfold RB RO
    rw [hr]
    exact ⟨_, _, _, rfl, nw_nil _ _, h3⟩
  | some l =>
    have hg := rt_some hr
    refine (right_y T e q p l a n c zs w hT hb hc hm hg).mono ?_
    rintro en w' ⟨g, rfl, h1, h2, h3⟩
    have hy : By l := by have e := congrArg Sec.l (gs_some hg).2.2.2; simp only at e; rw [e]; exact sl_by hb.2.1 _ _
    have hl : l.length ≤ 480 := (gs_some hg).2.1.2.2.2.2
    unfold RB RO
    rw [hr]
    exact ⟨_, _, _, rfl, Nw.row h2 rfl hy h1 (by omega), h3⟩
theorem refRight_u (T : ByteArray) (e q p : Int) (a : Option Addr) (n c : Nat) (zs : List Int) (w : World) (hb : Bs w a n zs) (hc : n ≤ c) (hm : c ≤ maxLen) :
    Calls Tryd.prog 18 #[.slice a n c, .string T, .int .i64 e, .int .i64 q, .int .i64 p] w fun en w' => ∃ a1 n1 c1, en = .returned (.tuple #[.slice a1 n1 c1, .bool (RO zs T e q p)]) ∧ Nw w.heap.size w' a1 n1 c1 (RB zs T e q p) ∧ Below w.heap.size w w' := by
  cases hr : rt zs T e q p with
  | none =>
    refine (refRight_n T e q p a n c zs w hb hc hm hr).mono ?_
    rintro en w' ⟨rfl, h3⟩
    unfold RB RO
    rw [hr]
    exact ⟨_, _, _, rfl, nw_nil _ _, h3⟩
  | some l =>
    have hg := rt_some hr
    have hy : By l := by have e := congrArg Sec.l (gs_some hg).2.2.2; simp only at e; rw [e]; exact sl_by hb.2.1 _ _
    obtain rfl : n = 512 := by rw [← hb.1]; exact (gs_some hg).1
    rcases id hb.2.2 with h0 | ⟨b, off, rfl, _⟩
    · omega
    refine (refRight_y T e q p l b off c zs w hb hc hm hg).mono ?_
    rintro en w' ⟨a1, c1, rfl, h1, h3⟩
    obtain ⟨a2, c2, e2, h4⟩ := Nw.own h1 hy
    cases e2
    unfold RB RO
    rw [hr]
    exact ⟨_, _, _, rfl, h4, h3⟩
end Go.Proofs.YtfmdnfbcfhojpaaDoor
