import Derived.Test.YtlepbncaicpmjaaRF
namespace Go.Proofs.Ytlepbncaicpmjaa
set_option maxRecDepth 100000
open Go.RowKit
set_option linter.unusedVariables false

/-- A lane's row. -/
def lK (k : List Int) : List Int := [76] ++ k
def lV (S C N D E s n : Int) : List Int := ((((([S] ++ be 4 C) ++ be 4 N) ++ be 8 D) ++ be 8 E) ++ pt s n)
def lRK (k : List Int) (S C N s n : Int) : List Int := if lok k.length S C N s n then lK k else []
def lRV (k : List Int) (S C N D E s n : Int) : List Int := if lok k.length S C N s n then lV S C N D E s n else []
def lRE (k : List Int) (S C N s n : Int) : Int := if lok k.length S C N s n then 0 else 114
theorem own_one (w : World) (z : Int) (base : Nat) (hb : base ≤ w.heap.size) : (w.alloc (.cells #[.int .u8 z] 5)).ownsRow base 5 1 (.slice (some ⟨w.heap.size, 0, none⟩) 1 1) 1 (cells [z]) :=
  World.ownsRow_lit w #[.int .u8 z] 1 hb (by unfold maxLen; omega) rfl
/-- Bytes of one's own, in memory made since W. -/
structure St (W w : World) (v : Value) (X : List Int) : Prop where
  own : w.ownsRow W.heap.size 5 1 v X.length (cells X)
  bel : Below W.heap.size W w
theorem St.call {W w w' : World} {v : Value} {X : List Int} (h : St W w v X) (g : Below w.heap.size w w') : St W w' v X := ⟨own_bel h.own g, bel_bel h.bel h.bel.size g⟩
theorem St.one (W : World) (z : Int) : St W (W.alloc (.cells #[.int .u8 z] 5)) (.slice (some ⟨W.heap.size, 0, none⟩) 1 1) [z] := ⟨own_one W z _ (Nat.le_refl _), (Below.refl _ _).alloc (Nat.le_refl _) _⟩
theorem wpList_appS {W w : World} {ops : Array Oper} {rest : List Oper} {o : Oper} {act : Act} {Q : Exit → Act → World → Prop} (hgd : o.guard = none) (s x : Operand)
    (ho : o.op = .call { callee := .builtin .append, args := #[s, x], argTypes := #[36, 36] })
    (v : Value) (X : List Int) (hs : act.eval s = v) (hst : St W w v X)
    (a : Option Addr) (m c : Nat) (zs : List Int) (hx : act.eval x = .slice a m c) (hb : Bs w a m zs) (hnm : X.length + m ≤ 140737488355328)
    (h : ∀ v' w', St W w' v' (X ++ zs) → wpList Try.prog ops Q rest (act.put o.dst v') w') : wpList Try.prog ops Q (o :: rest) act w := by
  refine wpList_appT hgd s x ho W.heap.size v X.length X hs hst.own a m c zs hx hb hnm hst.bel.size fun v' w' o' g' => h v' w' ⟨?_, ?_⟩
  · rw [List.length_append, hb.1]
    exact o'
  · exact hst.bel.grown g' hst.bel.size (fun p hp => (hst.own.lt p hp).1)
theorem two_fz {w : World} {g : Nat} {a b : Value} {T : TypeId} (h : w.heap[g]? = some (.cells #[a, b] T (0, 0))) (i : Nat) : w.frozen? ⟨g, i, none⟩ = false := by simp [World.frozen?, h]
end Go.Proofs.Ytlepbncaicpmjaa
namespace Go.Proofs.Ytlepbncaicpmjaa
set_option maxRecDepth 100000
open Go.RowKit
set_option linter.unusedVariables false

theorem results_ln {fn : Func} {p u : Tmp} (h : fn.results = #[.cell p 48, .tmp u]) (tmps : Array Value) (w : World) (g : Nat) (a : Option Addr) (m c : Nat) (S C N D E s n : Int) (v : Value)
    (hp : tmps.getD p undef = .pointer (some ⟨g, 0, none⟩)) (hv : tmps.getD u undef = v) (hm : Lm w g a m c S C N D E s n) :
    (results fn tmps).run Try.prog w = .ok (.tuple #[.agg #[.slice a m c, .int .i64 S, .int .i64 C, .int .i64 N, .int .u64 D, .int .u64 E, .int .i64 s, .int .i64 n], v]) w := by
  rw [results_cell_tmp h, hp, hv]
  have c0 := hm.c0
  have c1 := hm.c1
  have c2 := hm.c2
  have c3 := hm.c3
  have c4 := hm.c4
  have c5 := hm.c5
  have c6 := hm.c6
  have c7 := hm.c7
  go_simp
/-- Two lanes, the same. -/
def slE (k l : List Int) (S C N D E s n S' C' N' D' E' s' n' : Int) : Bool := decide (k = l ∧ S = S' ∧ C = C' ∧ N = N' ∧ D = D' ∧ E = E' ∧ s = s' ∧ n = n')
set_option maxHeartbeats 1000000 in
/-- The document's SameLane. -/
theorem sameLane_ (ka kb : Option Addr) (kn kc ln lc : Nat) (k l : List Int) (S C N D E s n S' C' N' D' E' s' n' : Int) (w : World) (hk : Bs w ka kn k) (hl : Bs w kb ln l) (h1 : kn ≤ maxLen) (h2 : ln ≤ maxLen) :
    Calls Try.prog 16 #[.agg #[.slice ka kn kc, .int .i64 S, .int .i64 C, .int .i64 N, .int .u64 D, .int .u64 E, .int .i64 s, .int .i64 n], .agg #[.slice kb ln lc, .int .i64 S', .int .i64 C', .int .i64 N', .int .u64 D', .int .u64 E', .int .i64 s', .int .i64 n']] w fun e w' => e = .returned (.bool (slE k l S C N D E s n S' C' N' D' E' s' n')) ∧ Below w.heap.size w w' := by
  have B1 := lnew w ka kn kc S C N D E s n
  have B2 := B1.alloc (B := w.heap.size) (by simp) (.cells #[.slice kb ln lc, .int .i64 S', .int .i64 C', .int .i64 N', .int .u64 D', .int .u64 E', .int .i64 s', .int .i64 n'] 48)
  have m1 := (Lm.new w ka kn kc S C N D E s n).kept (lnew _ kb ln lc S' C' N' D' E' s' n')
  have m2 := Lm.new (w.alloc (.cells #[.slice ka kn kc, .int .i64 S, .int .i64 C, .int .i64 N, .int .u64 D, .int .u64 E, .int .i64 s, .int .i64 n] 48)) kb ln lc S' C' N' D' E' s' n'
  rw [World.size_alloc] at m2
  obtain ⟨r, HR⟩ : ∃ r, Hid (slE k l S C N D E s n S' C' N' D' E' s' n' = r) := ⟨_, rfl⟩
  rw [HR.out]
  obtain ⟨p, HP⟩ : ∃ p, Hid (sameB k l = p) := ⟨_, rfl⟩
  obtain ⟨q, HQ⟩ : ∃ p, Hid (sme s n s' n' = p) := ⟨_, rfl⟩
  have HR2 : Hid ((p && q && decide (S = S' ∧ C = C' ∧ N = N' ∧ D = D' ∧ E = E')) = r) := by
    show _ = _
    rw [← HR.out, ← HP.out, ← HQ.out]
    unfold slE sameB sme
    by_cases e1 : k = l <;> by_cases e2 : s = s' ∧ n = n' <;> by_cases e3 : S = S' ∧ C = C' ∧ N = N' ∧ D = D' ∧ E = E' <;> simp [e1, e2, e3]
    all_goals grind
  clear HR
  have ks := same_d ka kb kn kc ln lc k l _ (hk.below B2) (hl.below B2) h1 h2
  rw [HP.out] at ks
  have HB2 := hid B2
  have HM1 := hid m1
  have HM2 := hid m2
  clear B1 B2 m1 m2 hk hl
  go_enter Try.func16, Try.ntmps16
  go_wp2_with fail
  refine ks.mono ?_
  rintro e w1 ⟨rfl, d1⟩
  have HB3 := hid (bel_bel HB2.out HB2.out.size d1.below)
  have n1 := HM1.out.at (d1.at _)
  have n2 := HM2.out.at (d1.at _)
  have a6 := n1.c6
  have a7 := n1.c7
  have b6 := n2.c6
  have b7 := n2.c7
  have HM1 := hid n1
  have HM2 := hid n2
  clear d1 n1 n2 ks HB2
  go_wp2_with fail
  have kt := sameStamp_ s n s' n' w1
  rw [HQ.out] at kt
  refine kt.mono ?_
  rintro e w2 ⟨rfl, g2⟩
  have HB4 := hid (bel_bel HB3.out HB3.out.size g2)
  have n1 := HM1.out.kept g2
  have n2 := HM2.out.kept g2
  have a1 := n1.c1
  have a2 := n1.c2
  have a3 := n1.c3
  have a4 := n1.c4
  have a5 := n1.c5
  have b1 := n2.c1
  have b2 := n2.c2
  have b3 := n2.c3
  have b4 := n2.c4
  have b5 := n2.c5
  clear a6 a7 b6 b7 n1 n2 HM1 HM2 g2 kt HB3 HP HQ
  cases p
  · have HF : Hid (false = r) := HR2.out
    clear HR2
    go_wp2_with fail
    all_goals
      go_ret
      exact ⟨ret_bool HF.out, HB4.out⟩
  · cases q
    · have HF : Hid (false = r) := HR2.out
      clear HR2
      go_wp2_with fail
      all_goals
        go_ret
        exact ⟨ret_bool HF.out, HB4.out⟩
    · have HF : Hid (decide (S = S' ∧ C = C' ∧ N = N' ∧ D = D' ∧ E = E') = r) := HR2.out
      clear HR2
      go_wp2_with fail
      all_goals
        go_ret
        refine ⟨ret_bool ?_, HB4.out⟩
        rw [← HF.out]
        first
          | exact (decide_eq_true (by omega)).symm
          | exact (decide_eq_false (by omega)).symm
          | exact decide_eq_decide.2 (by omega)
end Go.Proofs.Ytlepbncaicpmjaa
namespace Go.Proofs.Ytlepbncaicpmjaa
set_option maxRecDepth 100000
open Go.RowKit
set_option linter.unusedVariables false

theorem Lm.key {w : World} {g : Nat} {a : Option Addr} {m c : Nat} {S C N D E s n : Int} (h : Lm w g a m c S C N D E s n) (a' : Option Addr) (m' c' : Nat) : Lm (w.setCell ⟨g, 0, none⟩ (.slice a' m' c')) g a' m' c' S C N D E s n := by
  unfold Lm at *
  simp [World.setCell, Array.getElem?_modify, h]
theorem Lm.fz {w : World} {g : Nat} {a : Option Addr} {m c : Nat} {S C N D E s n : Int} (h : Lm w g a m c S C N D E s n) (i : Nat) : w.frozen? ⟨g, i, none⟩ = false := by unfold Lm at h; simp [World.frozen?, h]
theorem sizeln : (Try.prog.info? 48).map (·.size) = some 8 := by kernel_rfl
theorem wpList_sln {ops : Array Oper} {rest : List Oper} {o : Oper} {act : Act} {w : World} {Q : Exit → Act → World → Prop} (hgd : o.guard = none) (hdst : o.dst = none) (x y : Operand) (ho : o.op = .store 48 x y)
    (g : Nat) (a : Option Addr) (m c : Nat) (S C N D E s n : Int) (hx : act.eval x = .pointer (some ⟨g, 0, none⟩)) (hy : act.eval y = .agg #[.slice a m c, .int .i64 S, .int .i64 C, .int .i64 N, .int .u64 D, .int .u64 E, .int .i64 s, .int .i64 n])
    {a0 : Option Addr} {m0 c0 : Nat} {S0 C0 N0 D0 E0 s0 n0 : Int} (hg : Lm w g a0 m0 c0 S0 C0 N0 D0 E0 s0 n0)
    (h : wpList Try.prog ops Q rest act (w.setRow g #[.slice a m c, .int .i64 S, .int .i64 C, .int .i64 N, .int .u64 D, .int .u64 E, .int .i64 s, .int .i64 n])) : wpList Try.prog ops Q (o :: rest) act w := by
  refine wpList_store_row hgd _ x y ho g #[.slice a m c, .int .i64 S, .int .i64 C, .int .i64 N, .int .u64 D, .int .u64 E, .int .i64 s, .int .i64 n] hx hy _ _ hg sizeln rfl (by simp [Value.oneCell']) ?_
  rw [hdst]
  exact h
theorem Lm.row {w : World} {g : Nat} {a0 : Option Addr} {m0 c0 : Nat} {S0 C0 N0 D0 E0 s0 n0 : Int} (h : Lm w g a0 m0 c0 S0 C0 N0 D0 E0 s0 n0) (a : Option Addr) (m c : Nat) (S C N D E s n : Int) : Lm (w.setRow g #[.slice a m c, .int .i64 S, .int .i64 C, .int .i64 N, .int .u64 D, .int .u64 E, .int .i64 s, .int .i64 n]) g a m c S C N D E s n := setRow_heap w g _ _ _ _ h
end Go.Proofs.Ytlepbncaicpmjaa
