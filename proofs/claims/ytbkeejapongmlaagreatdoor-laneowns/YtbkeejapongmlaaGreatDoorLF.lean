import Derived.Test.YtbkeejapongmlaaGreatDoorRB
import Derived.Test.YtbkeejapongmlaaGreatDoorS1
namespace Go.Proofs.YtbkeejapongmlaaGreatDoor
set_option maxRecDepth 100000
open Go.RowKit
set_option linter.unusedVariables false

/-- A lane: its key lies in memory, the rest are numbers. -/
structure Ln where
  k : List Int
  S : Int
  C : Int
  N : Int
  D : Int
  E : Int
  s : Int
  n : Int
def i64r (x : Int) : Prop := -9223372036854775808 ≤ x ∧ x ≤ 9223372036854775807
def u64r (x : Int) : Prop := 0 ≤ x ∧ x ≤ 18446744073709551615
structure Ln.Ok (x : Ln) : Prop where
  S : i64r x.S
  C : i64r x.C
  N : i64r x.N
  D : u64r x.D
  E : u64r x.E
  s : i64r x.s
  n : i64r x.n
/-- The lane as a value, and in a variable. -/
def lnv (a : Option Addr) (c : Nat) (x : Ln) : Value := .agg #[.slice a x.k.length c, .int .i64 x.S, .int .i64 x.C, .int .i64 x.N, .int .u64 x.D, .int .u64 x.E, .int .i64 x.s, .int .i64 x.n]
def lnc (a : Option Addr) (m c : Nat) (S C N D E s n : Int) : Array Value := #[.slice a m c, .int .i64 S, .int .i64 C, .int .i64 N, .int .u64 D, .int .u64 E, .int .i64 s, .int .i64 n]
def Lm (w : World) (g : Nat) (a : Option Addr) (m c : Nat) (S C N D E s n : Int) : Prop := w.heap[g]? = some (.cells #[.slice a m c, .int .i64 S, .int .i64 C, .int .i64 N, .int .u64 D, .int .u64 E, .int .i64 s, .int .i64 n] 27 (0, 0))
section
variable {w w' : World} {g : Nat} {a : Option Addr} {m c : Nat} {S C N D E s n : Int}
theorem Lm.c0 (h : Lm w g a m c S C N D E s n) : w.cell? ⟨g, 0, none⟩ = some (.slice a m c) := (cell_of_row w g 0 _ _ (0, 0) h).trans rfl
theorem Lm.c1 (h : Lm w g a m c S C N D E s n) : w.cell? ⟨g, 1, none⟩ = some (.int .i64 S) := (cell_of_row w g 1 _ _ (0, 0) h).trans rfl
theorem Lm.c2 (h : Lm w g a m c S C N D E s n) : w.cell? ⟨g, 2, none⟩ = some (.int .i64 C) := (cell_of_row w g 2 _ _ (0, 0) h).trans rfl
theorem Lm.c3 (h : Lm w g a m c S C N D E s n) : w.cell? ⟨g, 3, none⟩ = some (.int .i64 N) := (cell_of_row w g 3 _ _ (0, 0) h).trans rfl
theorem Lm.c4 (h : Lm w g a m c S C N D E s n) : w.cell? ⟨g, 4, none⟩ = some (.int .u64 D) := (cell_of_row w g 4 _ _ (0, 0) h).trans rfl
theorem Lm.c5 (h : Lm w g a m c S C N D E s n) : w.cell? ⟨g, 5, none⟩ = some (.int .u64 E) := (cell_of_row w g 5 _ _ (0, 0) h).trans rfl
theorem Lm.c6 (h : Lm w g a m c S C N D E s n) : w.cell? ⟨g, 6, none⟩ = some (.int .i64 s) := (cell_of_row w g 6 _ _ (0, 0) h).trans rfl
theorem Lm.c7 (h : Lm w g a m c S C N D E s n) : w.cell? ⟨g, 7, none⟩ = some (.int .i64 n) := (cell_of_row w g 7 _ _ (0, 0) h).trans rfl
theorem Lm.lt (h : Lm w g a m c S C N D E s n) : g < w.heap.size := (Array.getElem?_eq_some_iff.1 h).1
theorem Lm.at (h : Lm w g a m c S C N D E s n) (e : w'.heap[g]? = w.heap[g]?) : Lm w' g a m c S C N D E s n := by unfold Lm at *; rw [e]; exact h
theorem Lm.kept (h : Lm w g a m c S C N D E s n) (hb : Below w.heap.size w w') : Lm w' g a m c S C N D E s n := h.at (hb.block g h.lt)
theorem Lm.new (w : World) (a : Option Addr) (m c : Nat) (S C N D E s n : Int) : Lm (w.alloc (.cells #[.slice a m c, .int .i64 S, .int .i64 C, .int .i64 N, .int .u64 D, .int .u64 E, .int .i64 s, .int .i64 n] 27)) w.heap.size a m c S C N D E s n := heap_alloc_new w _
end
theorem lnew (w : World) (a : Option Addr) (m c : Nat) (S C N D E s n : Int) : Below w.heap.size w (w.alloc (.cells #[.slice a m c, .int .i64 S, .int .i64 C, .int .i64 N, .int .u64 D, .int .u64 E, .int .i64 s, .int .i64 n] 27)) := (Below.refl _ _).alloc (Nat.le_refl _) _
/-- May the lane be? -/
def lok (m : Nat) (S C N s n : Int) : Bool := decide (vld s n = true ∧ m = 32 ∧ (S = 0 ∨ S = 1) ∧ 1 ≤ C ∧ C ≤ 2147483647 ∧ 0 ≤ N ∧ N ≤ 2147483647)
end Go.Proofs.YtbkeejapongmlaaGreatDoor
namespace Go.Proofs.YtbkeejapongmlaaGreatDoor
set_option maxRecDepth 100000
open Go.RowKit
set_option linter.unusedVariables false

theorem results_ln {fn : Func} {p u : Tmp} (h : fn.results = #[.cell p 27, .tmp u]) (tmps : Array Value) (w : World) (g : Nat) (a : Option Addr) (m c : Nat) (S C N D E s n : Int) (v : Value)
    (hp : tmps.getD p undef = .pointer (some ⟨g, 0, none⟩)) (hv : tmps.getD u undef = v) (hm : Lm w g a m c S C N D E s n) :
    (results fn tmps).run Tryz.prog w = .ok (.tuple #[.agg #[.slice a m c, .int .i64 S, .int .i64 C, .int .i64 N, .int .u64 D, .int .u64 E, .int .i64 s, .int .i64 n], v]) w := by
  rw [results_cell_tmp h, hp, hv]
  have c0 := hm.c0
  have c1 := hm.c1
  have c2 := hm.c2
  have c3 := hm.c3
  have c4 := hm.c4
  have c5 := hm.c5
  have c6 := hm.c6
  have c7 := hm.c7
  go_simp
/-- Two lanes, the same. -/
def slE (k l : List Int) (S C N D E s n S' C' N' D' E' s' n' : Int) : Bool := decide (k = l ∧ S = S' ∧ C = C' ∧ N = N' ∧ D = D' ∧ E = E' ∧ s = s' ∧ n = n')
set_option maxHeartbeats 1000000 in
/-- The document's SameLane. -/
theorem sameLane_ (ka kb : Option Addr) (kn kc ln lc : Nat) (k l : List Int) (S C N D E s n S' C' N' D' E' s' n' : Int) (w : World) (hk : Bs w ka kn k) (hl : Bs w kb ln l) (h1 : kn ≤ maxLen) (h2 : ln ≤ maxLen) :
    Calls Tryz.prog 17 #[.agg #[.slice ka kn kc, .int .i64 S, .int .i64 C, .int .i64 N, .int .u64 D, .int .u64 E, .int .i64 s, .int .i64 n], .agg #[.slice kb ln lc, .int .i64 S', .int .i64 C', .int .i64 N', .int .u64 D', .int .u64 E', .int .i64 s', .int .i64 n']] w fun e w' => e = .returned (.bool (slE k l S C N D E s n S' C' N' D' E' s' n')) ∧ Below w.heap.size w w' := by
  have B1 := lnew w ka kn kc S C N D E s n
  have B2 := B1.alloc (B := w.heap.size) (by simp) (.cells #[.slice kb ln lc, .int .i64 S', .int .i64 C', .int .i64 N', .int .u64 D', .int .u64 E', .int .i64 s', .int .i64 n'] 27)
  have m1 := (Lm.new w ka kn kc S C N D E s n).kept (lnew _ kb ln lc S' C' N' D' E' s' n')
  have m2 := Lm.new (w.alloc (.cells #[.slice ka kn kc, .int .i64 S, .int .i64 C, .int .i64 N, .int .u64 D, .int .u64 E, .int .i64 s, .int .i64 n] 27)) kb ln lc S' C' N' D' E' s' n'
  rw [World.size_alloc] at m2
  obtain ⟨r, HR⟩ : ∃ r, Hid (slE k l S C N D E s n S' C' N' D' E' s' n' = r) := ⟨_, rfl⟩
  rw [HR.out]
  obtain ⟨p, HP⟩ : ∃ p, Hid (sameB k l = p) := ⟨_, rfl⟩
  obtain ⟨q, HQ⟩ : ∃ p, Hid (sme s n s' n' = p) := ⟨_, rfl⟩
  have HR2 : Hid ((p && q && decide (S = S' ∧ C = C' ∧ N = N' ∧ D = D' ∧ E = E')) = r) := by
    show _ = _
    rw [← HR.out, ← HP.out, ← HQ.out]
    unfold slE sameB sme
    by_cases e1 : k = l <;> by_cases e2 : s = s' ∧ n = n' <;> by_cases e3 : S = S' ∧ C = C' ∧ N = N' ∧ D = D' ∧ E = E' <;> simp [e1, e2, e3]
    all_goals grind
  clear HR
  have ks := same_d ka kb kn kc ln lc k l _ (hk.below B2) (hl.below B2) h1 h2
  rw [HP.out] at ks
  have HB2 := hid B2
  have HM1 := hid m1
  have HM2 := hid m2
  clear B1 B2 m1 m2 hk hl
  go_enter Tryz.func17, Tryz.ntmps17
  go_wp2_with fail
  refine ks.mono ?_
  rintro e w1 ⟨rfl, d1⟩
  have HB3 := hid (bel_bel HB2.out HB2.out.size d1.below)
  have n1 := HM1.out.at (d1.at _)
  have n2 := HM2.out.at (d1.at _)
  have a6 := n1.c6
  have a7 := n1.c7
  have b6 := n2.c6
  have b7 := n2.c7
  have HM1 := hid n1
  have HM2 := hid n2
  clear d1 n1 n2 ks HB2
  go_wp2_with fail
  have kt := sameStamp_ s n s' n' w1
  rw [HQ.out] at kt
  refine kt.mono ?_
  rintro e w2 ⟨rfl, g2⟩
  have HB4 := hid (bel_bel HB3.out HB3.out.size g2)
  have n1 := HM1.out.kept g2
  have n2 := HM2.out.kept g2
  have a1 := n1.c1
  have a2 := n1.c2
  have a3 := n1.c3
  have a4 := n1.c4
  have a5 := n1.c5
  have b1 := n2.c1
  have b2 := n2.c2
  have b3 := n2.c3
  have b4 := n2.c4
  have b5 := n2.c5
  clear a6 a7 b6 b7 n1 n2 HM1 HM2 g2 kt HB3 HP HQ
  cases p
  · have HF : Hid (false = r) := HR2.out
    clear HR2
    go_wp2_with fail
    all_goals
      go_ret
      exact ⟨ret_bool HF.out, HB4.out⟩
  · cases q
    · have HF : Hid (false = r) := HR2.out
      clear HR2
      go_wp2_with fail
      all_goals
        go_ret
        exact ⟨ret_bool HF.out, HB4.out⟩
    · have HF : Hid (decide (S = S' ∧ C = C' ∧ N = N' ∧ D = D' ∧ E = E') = r) := HR2.out
      clear HR2
      go_wp2_with fail
      all_goals
        go_ret
        refine ⟨ret_bool ?_, HB4.out⟩
        rw [← HF.out]
        first
          | exact (decide_eq_true (by omega)).symm
          | exact (decide_eq_false (by omega)).symm
          | exact decide_eq_decide.2 (by omega)
end Go.Proofs.YtbkeejapongmlaaGreatDoor
namespace Go.Proofs.YtbkeejapongmlaaGreatDoor
set_option maxRecDepth 100000
open Go.RowKit
set_option linter.unusedVariables false

theorem Lm.key {w : World} {g : Nat} {a : Option Addr} {m c : Nat} {S C N D E s n : Int} (h : Lm w g a m c S C N D E s n) (a' : Option Addr) (m' c' : Nat) : Lm (w.setCell ⟨g, 0, none⟩ (.slice a' m' c')) g a' m' c' S C N D E s n := by
  unfold Lm at *
  simp [World.setCell, Array.getElem?_modify, h]
theorem Lm.fz {w : World} {g : Nat} {a : Option Addr} {m c : Nat} {S C N D E s n : Int} (h : Lm w g a m c S C N D E s n) (i : Nat) : w.frozen? ⟨g, i, none⟩ = false := by unfold Lm at h; simp [World.frozen?, h]
theorem sizeln : (Tryz.prog.info? 27).map (·.size) = some 8 := by kernel_rfl
theorem wpList_sln {ops : Array Oper} {rest : List Oper} {o : Oper} {act : Act} {w : World} {Q : Exit → Act → World → Prop} (hgd : o.guard = none) (hdst : o.dst = none) (x y : Operand) (ho : o.op = .store 27 x y)
    (g : Nat) (a : Option Addr) (m c : Nat) (S C N D E s n : Int) (hx : act.eval x = .pointer (some ⟨g, 0, none⟩)) (hy : act.eval y = .agg #[.slice a m c, .int .i64 S, .int .i64 C, .int .i64 N, .int .u64 D, .int .u64 E, .int .i64 s, .int .i64 n])
    {a0 : Option Addr} {m0 c0 : Nat} {S0 C0 N0 D0 E0 s0 n0 : Int} (hg : Lm w g a0 m0 c0 S0 C0 N0 D0 E0 s0 n0)
    (h : wpList Tryz.prog ops Q rest act (w.setRow g #[.slice a m c, .int .i64 S, .int .i64 C, .int .i64 N, .int .u64 D, .int .u64 E, .int .i64 s, .int .i64 n])) : wpList Tryz.prog ops Q (o :: rest) act w := by
  refine wpList_store_row hgd _ x y ho g #[.slice a m c, .int .i64 S, .int .i64 C, .int .i64 N, .int .u64 D, .int .u64 E, .int .i64 s, .int .i64 n] hx hy _ _ hg sizeln rfl (by simp [Value.oneCell']) ?_
  rw [hdst]
  exact h
theorem Lm.row {w : World} {g : Nat} {a0 : Option Addr} {m0 c0 : Nat} {S0 C0 N0 D0 E0 s0 n0 : Int} (h : Lm w g a0 m0 c0 S0 C0 N0 D0 E0 s0 n0) (a : Option Addr) (m c : Nat) (S C N D E s n : Int) : Lm (w.setRow g #[.slice a m c, .int .i64 S, .int .i64 C, .int .i64 N, .int .u64 D, .int .u64 E, .int .i64 s, .int .i64 n]) g a m c S C N D E s n := setRow_heap w g _ _ _ _ h
end Go.Proofs.YtbkeejapongmlaaGreatDoor
