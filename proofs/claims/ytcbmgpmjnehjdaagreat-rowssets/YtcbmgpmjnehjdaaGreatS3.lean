import Derived.Test.YtcbmgpmjnehjdaaGreatSMath
import Derived.Test.YtcbmgpmjnehjdaaGreatABytes
import Derived.Laws.ResultCell
import Derived.Laws.Tables
namespace Go.Proofs.YtcbmgpmjnehjdaaGreat
set_option maxRecDepth 100000
open Go.RowKit
set_option linter.unusedVariables false

theorem snew1 (w : World) (s n : Int) : Below w.heap.size w (w.alloc (.cells #[.int .i64 s, .int .i64 n] 62)) := (Below.refl _ _).alloc (Nat.le_refl _) _
theorem snew2 (w : World) (s n s' n' : Int) : Below w.heap.size w ((w.alloc (.cells #[.int .i64 s, .int .i64 n] 62)).alloc (.cells #[.int .i64 s', .int .i64 n'] 62)) := (snew1 w s n).alloc (by simp) _
set_option maxHeartbeats 400000 in
theorem refValid_ (s n : Int) (w : World) :
    Calls Tryz.prog 145 #[.agg #[.int .i64 s, .int .i64 n]] w fun e w' => e = .returned (.bool (vld s n)) ∧ Below w.heap.size w w' := by
  have B0 := snew1 w s n
  go_enter Tryz.func145, Tryz.ntmps145
  go_wp2_with fail
  all_goals
    go_ret
    refine ⟨ret_bool ?_, B0⟩
    unfold vld
    first
      | exact (decide_eq_true (by omega)).symm
      | exact (decide_eq_false (by omega)).symm
      | exact decide_eq_decide.2 (by omega)
/-- Are the two one? -/
def sme (s n s' n' : Int) : Bool := decide (s = s' ∧ n = n')
set_option maxHeartbeats 400000 in
theorem sameStamp_ (s n s' n' : Int) (w : World) :
    Calls Tryz.prog 74 #[.agg #[.int .i64 s, .int .i64 n], .agg #[.int .i64 s', .int .i64 n']] w fun e w' => e = .returned (.bool (sme s n s' n')) ∧ Below w.heap.size w w' := by
  go_enter Tryz.func74, Tryz.ntmps74
  go_wp2_with fail
  all_goals
    go_ret
    refine ⟨ret_bool ?_, snew2 w _ _ _ _⟩
    unfold sme
    first
      | exact (decide_eq_true (by omega)).symm
      | exact (decide_eq_false (by omega)).symm
      | exact decide_eq_decide.2 (by omega)
      | (rw [← Bool.decide_eq_true (_ == _)]; exact decide_eq_decide.2 (by rw [beq_iff_eq]; omega))
/-- The stamp next above. -/
def nok (s n : Int) : Bool := vld s n && !big s n
def ns (s n : Int) : Int := if nok s n then (if n = 999999999 then s + 1 else s) else 0
def nn (s n : Int) : Int := if nok s n then (if n = 999999999 then 0 else n + 1) else 0
theorem results_st {fn : Func} {p u : Tmp} (h : fn.results = #[.cell p 62, .tmp u]) (tmps : Array Value) (w : World) (g : Nat) (s n : Int) (v : Value)
    (hp : tmps.getD p undef = .pointer (some ⟨g, 0, none⟩)) (hv : tmps.getD u undef = v) (h0 : w.cell? ⟨g, 0, none⟩ = some (.int .i64 s)) (h1 : w.cell? ⟨g, 1, none⟩ = some (.int .i64 n)) :
    (results fn tmps).run Tryz.prog w = .ok (.tuple #[.agg #[.int .i64 s, .int .i64 n], v]) w := by
  rw [results_cell_tmp h, hp, hv]
  go_simp
/-- A stamp in a variable. -/
def Sm (w : World) (g : Nat) (s n : Int) : Prop := w.heap[g]? = some (.cells #[.int .i64 s, .int .i64 n] 62 (0, 0))
theorem Sm.lt {w : World} {g : Nat} {s n : Int} (h : Sm w g s n) : g < w.heap.size := (Array.getElem?_eq_some_iff.1 h).1
theorem Sm.c0 {w : World} {g : Nat} {s n : Int} (h : Sm w g s n) : w.cell? ⟨g, 0, none⟩ = some (.int .i64 s) := (cell_of_row w g 0 _ _ (0, 0) h).trans rfl
theorem Sm.c1 {w : World} {g : Nat} {s n : Int} (h : Sm w g s n) : w.cell? ⟨g, 1, none⟩ = some (.int .i64 n) := (cell_of_row w g 1 _ _ (0, 0) h).trans rfl
theorem Sm.fz {w : World} {g : Nat} {s n : Int} (h : Sm w g s n) (i : Nat) : w.frozen? ⟨g, i, none⟩ = false := by unfold Sm at h; simp [World.frozen?, h]
theorem Sm.kept {w w' : World} {g : Nat} {s n : Int} (h : Sm w g s n) (hb : Below w.heap.size w w') : Sm w' g s n := by
  have := h.lt
  unfold Sm at *; rw [hb.block g this]; exact h
theorem Sm.new (w : World) (s n : Int) : Sm (w.alloc (.cells #[.int .i64 s, .int .i64 n] 62)) w.heap.size s n := heap_alloc_new w _
theorem Sm.alloc {w : World} {g : Nat} {s n : Int} (h : Sm w g s n) (o : Obj) : Sm (w.alloc o) g s n := by
  have := h.lt
  unfold Sm at *; rw [Below.heap_alloc _ _ _ this]; exact h
theorem Sm.row {w : World} {g : Nat} {s n : Int} (h : Sm w g s n) (s' n' : Int) : Sm (w.setRow g #[.int .i64 s', .int .i64 n']) g s' n' := setRow_heap w g _ _ _ _ h
theorem sizest : (Tryz.prog.info? 62).map (·.size) = some 2 := by kernel_rfl
theorem wpList_sst {ops : Array Oper} {rest : List Oper} {o : Oper} {a : Act} {w : World} {Q : Exit → Act → World → Prop} (hgd : o.guard = none) (hdst : o.dst = none) (x y : Operand) (ho : o.op = .store 62 x y)
    (g : Nat) (s n : Int) (hx : a.eval x = .pointer (some ⟨g, 0, none⟩)) (hy : a.eval y = .agg #[.int .i64 s, .int .i64 n]) (s0 n0 : Int) (hg : Sm w g s0 n0)
    (h : wpList Tryz.prog ops Q rest a (w.setRow g #[.int .i64 s, .int .i64 n])) : wpList Tryz.prog ops Q (o :: rest) a w := by
  refine wpList_store_row hgd _ x y ho g #[.int .i64 s, .int .i64 n] hx hy _ _ hg sizest rfl (by simp [Value.oneCell']) ?_
  rw [hdst]
  exact h
theorem snew3 (w : World) (s n s' n' : Int) : Sm ((w.alloc (.cells #[.int .i64 s, .int .i64 n] 62)).alloc (.cells #[.int .i64 s', .int .i64 n'] 62)) w.heap.size s n ∧ Sm ((w.alloc (.cells #[.int .i64 s, .int .i64 n] 62)).alloc (.cells #[.int .i64 s', .int .i64 n'] 62)) (w.heap.size + 1) s' n' := by
  refine ⟨(Sm.new w s n).alloc _, ?_⟩
  have := Sm.new (w.alloc (.cells #[.int .i64 s, .int .i64 n] 62)) s' n'
  simpa using this
theorem ret_st {a b a' b' : Int} {c c' : Bool} (h1 : a = a') (h2 : b = b') (h3 : c = c') : Ending.returned (.tuple #[.agg #[.int .i64 a, .int .i64 b], .bool c]) = .returned (.tuple #[.agg #[.int .i64 a', .int .i64 b'], .bool c']) := by rw [h1, h2, h3]
end Go.Proofs.YtcbmgpmjnehjdaaGreat
namespace Go.Proofs.YtcbmgpmjnehjdaaGreat
set_option maxRecDepth 100000
open Go.RowKit
set_option linter.unusedVariables false

theorem be_get (k : Nat) (x : Int) : ∀ j, j < k → (be k x).getD j 0 = x / 256 ^ (k - 1 - j) % 256 := by
  induction k with
  | zero => intro j h; omega
  | succ k ih =>
    intro j hj
    rw [be]
    cases j with
    | zero => simp
    | succ j => rw [List.getD_cons_succ, ih j (by omega), show k + 1 - 1 - (j + 1) = k - 1 - j from by omega]
theorem Sm.at {w w' : World} {g : Nat} {s n : Int} (h : Sm w g s n) (e : w'.heap[g]? = w.heap[g]?) : Sm w' g s n := by unfold Sm at *; rw [e]; exact h
theorem own_le {w : World} {B B' e s n : Nat} {v : Value} {xs : List Value} (h : w.ownsRow B e s v n xs) (hB : B' ≤ B) : w.ownsRow B' e s v n xs := by
  obtain ⟨h1, h2⟩ := h
  refine ⟨h1, ?_⟩
  rcases h2 with h2 | ⟨g, cap, cur, e1, hb, r⟩
  · exact .inl h2
  · exact .inr ⟨g, cap, cur, e1, Nat.le_trans hB hb, r⟩
theorem pow_256 (m : Nat) : (256 : Int) ^ m = 2 ^ (8 * m) := by rw [Int.pow_mul]; rfl
set_option maxHeartbeats 1000000 in
theorem refPut_ (s n : Int) (w : World) (hs : -9223372036854775808 ≤ s ∧ s ≤ 9223372036854775807) (hn : -9223372036854775808 ≤ n ∧ n ≤ 9223372036854775807) :
    Calls Tryz.prog 112 #[.agg #[.int .i64 s, .int .i64 n]] w fun e w' => ∃ v, e = .returned v ∧ w'.ownsRow w.heap.size 5 1 v (pt s n).length (cells (pt s n)) ∧ Below w.heap.size w w' := by
  obtain ⟨i, hi, hz0, hz1, hz2⟩ := info_parts info5
  have B0 := snew1 w s n
  have m0 := Sm.new w s n
  go_enter Tryz.func112, Tryz.ntmps112
  go_wp2_with fail
  refine (refValid_ s n _).mono ?_
  rintro e w1 ⟨rfl, g2⟩
  have m0 := m0.kept g2
  have B0 := bel_bel B0 B0.size g2
  clear g2
  cases hv : vld s n with
  | false =>
    go_wp2_with fail
    go_ret
    have e : pt s n = [] := by unfold pt; rw [hv]; rfl
    rw [e]
    exact ⟨_, rfl, World.ownsRow_nil _ _ _ _, B0⟩
  | true =>
    have e : pt s n = be 8 s ++ be 4 n := by unfold pt; rw [hv]; rfl
    have HE := hid e
    have hv' := of_decide_eq_true (show decide _ = true from hv)
    obtain ⟨p1, p2, p3⟩ := hv'
    have HTL : Hid ((be 8 s ++ be 4 n).length = 12) := by show _ = _; rw [List.length_append, be_length, be_length]
    have HT0 : Hid (∀ j, j < 8 → (be 8 s ++ be 4 n).getD j 0 = s / 2 ^ (56 - 8 * j) % 256) := fun j hj => by
      have e : (be 8 s ++ be 4 n).getD j 0 = (be 8 s).getD j 0 := by simp only [List.getD, List.getElem?_append_left (show j < (be 8 s).length by rw [be_length]; exact hj)]
      rw [e, be_get 8 s j hj, pow_256, show 8 * (8 - 1 - j) = 56 - 8 * j from by omega]
    have HT8 : Hid (∀ j, j < 4 → (be 8 s ++ be 4 n).getD (8 + j) 0 = n / 2 ^ (24 - 8 * j) % 256) := fun j hj => by
      have e : (be 8 s ++ be 4 n).getD (8 + j) 0 = (be 4 n).getD j 0 := by
        have l8 : (be 8 s).length = 8 := be_length 8 s
        simp only [List.getD, List.getElem?_append_right (show (be 8 s).length ≤ 8 + j by omega), l8, Nat.add_sub_cancel_left]
      rw [e, be_get 4 n j hj, pow_256, show 8 * (4 - 1 - j) = 24 - 8 * j from by omega]
    generalize be 8 s ++ be 4 n = T at *
    clear hv e
    go_wp2_with fail
    go_loopw [4, 5] (fun v i wr => ∃ j : Nat, j ≤ 8 ∧ i = .int .i64 j ∧ wr.ownsRow (w.heap.size + 1) 5 1 v (j) (cells (T.take (j))) ∧ Sm wr w.heap.size s n ∧ Below w.heap.size w wr) (fun _ i _ => 8 - (intOf i).toNat)
    case atStart => exact ⟨0, by omega, rfl, World.ownsRow_nil _ _ _ _, m0, B0⟩
    case round =>
      clear m0 B0
      obtain ⟨j, hj, rfl, hown, m0, B0⟩ := hrel
      have hsz := B0.size
      have hml := m0.lt
      by_cases hlt : j < 8
      · have hjI : (j : Int) < 8 := by omega
        have cc := m0.c0
        have HZ : Hid (s / 2 ^ (56 - 8 * j) % 256 = T.getD (j) 0) := (HT0.out j hlt).symm
        have HS : Hid (cells (T.take (j)) ++ [.int .u8 (s / 2 ^ (56 - 8 * j) % 256)] = cells (T.take (j + 1))) := by
          show _ = _
          rw [HZ.out]
          exact cells_take_succ T (j) (by rw [HTL.out]; omega)
        have HO := hid hown
        obtain ⟨z, hz⟩ : ∃ z, s / 2 ^ (56 - 8 * j) % 256 = z := ⟨_, rfl⟩
        rw [hz] at HS
        clear HZ
        go_wp2_with (at_builtin; refine wpList_append_own _ rfl _ _ 52 rfl (w.heap.size + 1) 5 i (.int .u8 0) 1 1 Tryz.underlying52 hi hz0 hz1 hz2 rfl (by decide) _ _ _ rfl (hown.alloc _) ⟨wr.heap.size, 0, none⟩ 1 1 [.int .u8 z] rfl rfl ?c1 ?c2 ?c3 ?c4 ?c5 ?_)
        case c1 =>
          intro j u hj
          match j, hj with
          | 0, hj => simp at hj; subst hj; simp [Addr.add]
        case c2 => intro u hu; simp at hu; subst hu; rfl
        case c3 => unfold maxLen; omega
        case c4 => omega
        case c5 => simp; omega
        intro v' w2 hown' hgrow _
        have hown2 : w2.ownsRow (w.heap.size + 1) 5 1 v' (j + 1) (cells (T.take (j + 1))) := by rw [← HS.out]; exact hown'
        have B2 : Below w.heap.size w w2 := (B0.alloc (by omega) _).grown hgrow (by simp; omega) fun q hq => by have := (HO.out.lt q hq).1; omega
        have m2 : Sm w2 w.heap.size s n := (m0.alloc (.cells #[.int .u8 z] 5)).at (hgrow.block _ (by simp; omega) (fun e => by have := (HO.out.lt w.heap.size e.symm).1; omega))
        clear hown' hgrow hown HO HS cc m0 B0
        go_wp2_with fail
        go_roundw
        case rel => exact ⟨j + 1, by omega, by go_num, hown2, m2, B2⟩
        case measure => simp [intOf]; omega
      · have hge : ¬ (j : Int) < 8 := by omega
        rw [show j = 8 from by omega] at hown
        clear hlt hj
        obtain ⟨wo, rfl⟩ : ∃ wo, wo = wr := ⟨_, rfl⟩
        go_wp2_with fail
        go_loopw [4, 6] (fun v i wr => ∃ j : Nat, j ≤ 4 ∧ i = .int .i64 j ∧ wr.ownsRow (w.heap.size + 1) 5 1 v (8 + j) (cells (T.take (8 + j))) ∧ Sm wr w.heap.size s n ∧ Below w.heap.size w wr) (fun _ i _ => 4 - (intOf i).toNat)
        case atStart => exact ⟨0, by omega, rfl, hown, m0, B0⟩
        case round =>
          clear m0 B0 hown
          obtain ⟨j, hj, rfl, hown, m0, B0⟩ := hrel
          have hsz := B0.size
          have hml := m0.lt
          by_cases hlt : j < 4
          · have hjI : (j : Int) < 4 := by omega
            have cc := m0.c1
            have HZ : Hid (n / 2 ^ (24 - 8 * j) % 256 = T.getD (8 + j) 0) := (HT8.out j hlt).symm
            have HS : Hid (cells (T.take (8 + j)) ++ [.int .u8 (n / 2 ^ (24 - 8 * j) % 256)] = cells (T.take (8 + j + 1))) := by
              show _ = _
              rw [HZ.out]
              exact cells_take_succ T (8 + j) (by rw [HTL.out]; omega)
            have HO := hid hown
            obtain ⟨z, hz⟩ : ∃ z, n / 2 ^ (24 - 8 * j) % 256 = z := ⟨_, rfl⟩
            rw [hz] at HS
            clear HZ
            go_wp2_with (at_builtin; refine wpList_append_own _ rfl _ _ 52 rfl (w.heap.size + 1) 5 i (.int .u8 0) 1 1 Tryz.underlying52 hi hz0 hz1 hz2 rfl (by decide) _ _ _ rfl (hown.alloc _) ⟨wr.heap.size, 0, none⟩ 1 1 [.int .u8 z] rfl rfl ?c1 ?c2 ?c3 ?c4 ?c5 ?_)
            case c1 =>
              intro j u hj
              match j, hj with
              | 0, hj => simp at hj; subst hj; simp [Addr.add]
            case c2 => intro u hu; simp at hu; subst hu; rfl
            case c3 => unfold maxLen; omega
            case c4 => omega
            case c5 => simp; omega
            intro v' w2 hown' hgrow _
            have hown2 : w2.ownsRow (w.heap.size + 1) 5 1 v' (8 + j + 1) (cells (T.take (8 + j + 1))) := by rw [← HS.out]; exact hown'
            have B2 : Below w.heap.size w w2 := (B0.alloc (by omega) _).grown hgrow (by simp; omega) fun q hq => by have := (HO.out.lt q hq).1; omega
            have m2 : Sm w2 w.heap.size s n := (m0.alloc (.cells #[.int .u8 z] 5)).at (hgrow.block _ (by simp; omega) (fun e => by have := (HO.out.lt w.heap.size e.symm).1; omega))
            clear hown' hgrow hown HO HS cc m0 B0
            go_wp2_with fail
            go_roundw
            case rel => exact ⟨j + 1, by omega, by go_num, hown2, m2, B2⟩
            case measure => simp [intOf]; omega
          · have hge : ¬ (j : Int) < 4 := by omega
            rw [show j = 4 from by omega] at hown
            clear hlt hj
            rw [List.take_of_length_le (by rw [HTL.out]; exact Nat.le_refl _)] at hown
            go_wp2_with fail
            go_ret
            exact ⟨_, rfl, by rw [HE.out, HTL.out]; exact own_le hown (Nat.le_succ _), B0⟩
end Go.Proofs.YtcbmgpmjnehjdaaGreat
namespace Go.Proofs.YtcbmgpmjnehjdaaGreat
set_option maxRecDepth 100000
open Go.RowKit
set_option linter.unusedVariables false

theorem val_take (l : List Int) (j : Nat) (h : j < l.length) : val (l.take (j + 1)) = val (l.take j) * 256 + l.getD j 0 := by
  rw [List.take_succ_eq_append_getElem h, val_snoc]
  simp [List.getD, h]
theorem getD_byte6 {zs : List Int} (h : ∀ z ∈ zs, 0 ≤ z ∧ z ≤ 255) (i : Nat) : 0 ≤ zs.getD i 0 ∧ zs.getD i 0 ≤ 255 := by
  simp only [List.getD]
  cases e : zs[i]? with
  | none => simp
  | some z => exact h z (List.mem_of_getElem? e)
theorem val_up (l : List Int) (hb : ∀ z ∈ l, 0 ≤ z ∧ z ≤ 255) (k : Nat) : ∀ j, j ≤ k → val (l.take j) ≤ val (l.take k) := by
  induction k with
  | zero => intro j hj; rw [show j = 0 from by omega]; exact Int.le_refl _
  | succ k ih =>
    intro j hj
    by_cases e : j = k + 1
    · rw [e]; exact Int.le_refl _
    · have h1 := ih j (by omega)
      have h2 := (val_bound (l.take k) (fun z hz => hb z (List.mem_of_mem_take hz))).1
      by_cases hk : k < l.length
      · rw [val_take l k hk]
        have := getD_byte6 hb k
        omega
      · rw [List.take_of_length_le (show l.length ≤ k + 1 by omega)]
        rw [List.take_of_length_le (show l.length ≤ k by omega)] at h1
        exact h1
theorem gs_first (l : List Int) (hb : ∀ z ∈ l, 0 ≤ z ∧ z ≤ 255) (hl : l.length = 12) : gs l ≤ 9223372036854775807 ↔ l.getD 0 0 ≤ 127 := by
  match l, hl with
  | a :: r, hl =>
    have ha := hb a (by simp)
    have hr := val_bound (r.take 7) (fun z hz => hb z (by simp [List.mem_of_mem_take hz]))
    have e : gs (a :: r) = a * 256 ^ (r.take 7).length + val (r.take 7) := by
      unfold gs
      rw [List.take_succ_cons, val_cons]
    have hl7 : (r.take 7).length = 7 := by simp at hl; simp; omega
    rw [hl7] at e hr
    rw [e]
    show _ ↔ a ≤ 127
    have : (256 : Int) ^ 7 = 72057594037927936 := by decide
    omega
theorem ret_g {a b a' b' c c' : Int} (h1 : a = a') (h2 : b = b') (h3 : c = c') : Ending.returned (.tuple #[.agg #[.int .i64 a, .int .i64 b], .int .i64 c]) = .returned (.tuple #[.agg #[.int .i64 a', .int .i64 b'], .int .i64 c']) := by rw [h1, h2, h3]
def qs (l : List Int) : Int := if gok l then gs l else 0
def qn (l : List Int) : Int := if gok l then gn l else 0
def qe (l : List Int) : Int := if gok l then 0 else 60
theorem q_bad {l : List Int} (h : gok l = false) : 0 = qs l ∧ 0 = qn l ∧ 60 = qe l := by unfold qs qn qe; rw [h]; exact ⟨rfl, rfl, rfl⟩
theorem q_good {l : List Int} (h : gok l = true) : gs l = qs l ∧ gn l = qn l ∧ 0 = qe l := by unfold qs qn qe; rw [h]; exact ⟨rfl, rfl, rfl⟩
set_option maxHeartbeats 1000000 in
theorem refGet_ (a : Option Addr) (n c : Nat) (zs : List Int) (w : World) (hb : Bs w a n zs) (hn : n ≤ maxLen) :
    Calls Tryz.prog 68 #[.slice a n c] w fun e w' => e = .returned (.tuple #[.agg #[.int .i64 (qs zs), .int .i64 (qn zs)], .int .i64 (qe zs)]) ∧ Below w.heap.size w w' := by
  have B0 := snew1 w 0 0
  have m0 := Sm.new w 0 0
  unfold maxLen at hn
  by_cases h12 : n = 12
  · subst h12
    obtain ⟨hl, hby, hcs⟩ := hb
    obtain ⟨b, off, rfl, hc⟩ : ∃ b off, a = some ⟨b, off, none⟩ ∧ ∀ i, i < 12 → w.cell? ⟨b, off + i, none⟩ = some (.int .u8 (zs.getD i 0)) := by
      rcases hcs with h | h
      · omega
      · exact h
    have HC := hid hc
    have HLB : Hid (b < w.heap.size) := World.block_lt_of_cell? w _ (hc 0 (by omega))
    have z0 := (B0.cell HLB.out).trans (hc 0 (by omega))
    rw [Nat.add_zero] at z0
    have HB := hid hby
    have HL := hid hl
    clear hc hcs hl hby
    have HF := hid (gs_first zs HB.out HL.out)
    by_cases h1 : zs.getD 0 0 ≤ 127
    · have HG : Hid (gs zs ≤ 9223372036854775807) := HF.out.2 h1
      have h1' : ¬ (127 : Int) < zs.getD 0 0 := by omega
      have HU : Hid (∀ j, j ≤ 8 → val (zs.take j) ≤ 9223372036854775807) := fun j hj => Int.le_trans (val_up zs HB.out 8 j hj) HG.out
      generalize zs.getD 0 0 = y0 at *
      go_enter Tryz.func68, Tryz.ntmps68
      go_wp2_with fail
      clear z0 h1 h1'
      generalize w.alloc (.cells #[.int .i64 0, .int .i64 0] 62) = w1 at *
      go_loop [4, 5] (fun v i => ∃ j : Nat, j ≤ 8 ∧ i = .int .i64 j ∧ v = .int .i64 (val (zs.take j))) (fun _ i => 8 - (intOf i).toNat)
      case atStart => exact ⟨0, by omega, rfl, rfl⟩
      case round =>
        obtain ⟨j, hj, rfl, rfl⟩ := hrel
        by_cases hlt : j < 8
        · have hjI : (j : Int) < 8 := by omega
          have cc := (B0.cell HLB.out).trans (HC.out j (by omega))
          have HV := hid (val_take zs j (by rw [HL.out]; omega))
          have u1 := HU.out (j + 1) (by omega)
          have u0 := (val_bound (zs.take j) (fun z hz => HB.out z (List.mem_of_mem_take hz))).1
          have ub := getD_byte6 HB.out j
          rw [HV.out] at u1
          obtain ⟨V, HV2⟩ : ∃ V, Hid (val (zs.take j) = V) := ⟨_, rfl⟩
          rw [HV2.out] at u0 u1 ⊢
          generalize zs.getD j 0 = y at *
          go_wp2_with fail
          go_round
          case rel => exact ⟨j + 1, by omega, by go_num, by rw [HV.out, HV2.out]⟩
          case measure => simp [intOf]; omega
        · have hge : ¬ (j : Int) < 8 := by omega
          have e8 : val (zs.take j) = gs zs := by unfold gs; rw [show j = 8 from by omega]
          rw [e8]
          clear e8
          have HGV : Hid (0 ≤ gs zs) := (val_bound (zs.take 8) (fun z hz => HB.out z (List.mem_of_mem_take hz))).1
          obtain ⟨V, HV2⟩ : ∃ V, Hid (gs zs = V) := ⟨_, rfl⟩
          rw [HV2.out]
          have HBD : Hid (∀ z ∈ zs.drop 8, 0 ≤ z ∧ z ≤ 255) := fun z hz => HB.out z (List.mem_of_mem_drop hz)
          have HLD : Hid ((zs.drop 8).length = 4) := by show _ = _; rw [List.length_drop, HL.out]
          go_wp2_with fail
          go_loop [6, 7] (fun v i => ∃ m : Nat, m ≤ 4 ∧ i = .int .i64 ((8 : Int) + m) ∧ v = .int .i64 (val ((zs.drop 8).take m))) (fun _ i => 12 - (intOf i).toNat)
          case atStart => exact ⟨0, by omega, rfl, rfl⟩
          case round =>
            obtain ⟨m, hm, rfl, rfl⟩ := hrel
            by_cases hlt : m < 4
            · have hjI : (8 : Int) + (m : Int) < 12 := by omega
              have cc := (B0.cell HLB.out).trans (HC.out (8 + m) (by omega))
              rw [show zs.getD (8 + m) 0 = (zs.drop 8).getD m 0 from by simp only [List.getD, List.getElem?_drop]] at cc
              have HV := hid (val_take (zs.drop 8) m (by rw [HLD.out]; omega))
              have u0 := val_bound ((zs.drop 8).take m) (fun z hz => HBD.out z (List.mem_of_mem_take hz))
              have ul : ((zs.drop 8).take m).length = m := by rw [List.length_take, HLD.out]; omega
              rw [ul] at u0
              have up : (256 : Int) ^ m ≤ 16777216 := by
                have : m = 0 ∨ m = 1 ∨ m = 2 ∨ m = 3 := by omega
                rcases this with rfl | rfl | rfl | rfl <;> decide
              have ub := getD_byte6 HBD.out m
              obtain ⟨U, HU2⟩ : ∃ U, Hid (val ((zs.drop 8).take m) = U) := ⟨_, rfl⟩
              rw [HU2.out] at u0 ⊢
              have u1 : 0 ≤ U ∧ U < 16777216 := by omega
              generalize (zs.drop 8).getD m 0 = y at *
              clear u0 up ul
              go_wp2_with fail
              go_round
              case rel => exact ⟨m + 1, by omega, by go_num, by rw [HV.out, HU2.out]⟩
              case measure => simp [intOf]; omega
            · have hge : ¬ (8 : Int) + (m : Int) < 12 := by omega
              have e4 : val ((zs.drop 8).take m) = gn zs := by unfold gn; rw [List.take_of_length_le (by rw [HLD.out]; omega)]
              rw [e4]
              clear e4
              by_cases hbig : 999999999 < gn zs
              · have HE : Hid (gok zs = false) := decide_eq_false fun h => by have := h.2.2; omega
                obtain ⟨U, HU2⟩ : ∃ U, Hid (gn zs = U) := ⟨_, rfl⟩
                rw [HU2.out] at hbig ⊢
                go_wp2_with (refine wpList_sst rfl rfl _ _ rfl w.heap.size 0 0 rfl rfl 0 0 (by with_reducible exact m0) ?_)
                refine bodyPost_ret (v := .tuple #[.agg #[.int .i64 0, .int .i64 0], .int .i64 60]) ?_ rfl ⟨ret_g (q_bad HE.out).1 (q_bad HE.out).2.1 (q_bad HE.out).2.2, bel_row B0 (Nat.le_refl _) _⟩
                exact results_st rfl _ _ w.heap.size 0 0 _ rfl rfl (m0.row 0 0).c0 (m0.row 0 0).c1
              · have HE : Hid (gok zs = true) := decide_eq_true ⟨HL.out, HG.out, by omega⟩
                obtain ⟨U, HU2⟩ : ∃ U, Hid (gn zs = U) := ⟨_, rfl⟩
                rw [HU2.out] at hbig ⊢
                go_wp2_with (refine wpList_sst rfl rfl _ _ rfl w.heap.size V U rfl rfl 0 0 (by with_reducible exact m0) ?_)
                refine bodyPost_ret (v := .tuple #[.agg #[.int .i64 V, .int .i64 U], .int .i64 0]) ?_ rfl ⟨ret_g (HV2.out.symm.trans (q_good HE.out).1) (HU2.out.symm.trans (q_good HE.out).2.1) (q_good HE.out).2.2, bel_row B0 (Nat.le_refl _) _⟩
                exact results_st rfl _ _ w.heap.size V U _ rfl rfl (m0.row _ _).c0 (m0.row _ _).c1
    · have HE : Hid (gok zs = false) := decide_eq_false fun h => h1 (HF.out.1 h.2.1)
      have h1' : (127 : Int) < zs.getD 0 0 := by omega
      generalize zs.getD 0 0 = y0 at *
      go_enter Tryz.func68, Tryz.ntmps68
      go_wp2_with (refine wpList_sst rfl rfl _ _ rfl w.heap.size 0 0 rfl rfl 0 0 (by with_reducible exact m0) ?_)
      refine bodyPost_ret (v := .tuple #[.agg #[.int .i64 0, .int .i64 0], .int .i64 60]) ?_ rfl ⟨ret_g (q_bad HE.out).1 (q_bad HE.out).2.1 (q_bad HE.out).2.2, bel_row B0 (Nat.le_refl _) _⟩
      exact results_st rfl _ _ w.heap.size 0 0 _ rfl rfl (m0.row 0 0).c0 (m0.row 0 0).c1
  · have HE : Hid (gok zs = false) := decide_eq_false fun h => h12 (by rw [← hb.1]; exact h.1)
    have e1 : ((n : Int) != 12) = true := by simpa using fun h => h12 (by omega)
    clear h12
    go_enter Tryz.func68, Tryz.ntmps68
    go_wp2_with (refine wpList_sst rfl rfl _ _ rfl w.heap.size 0 0 rfl rfl 0 0 (by with_reducible exact m0) ?_)
    refine bodyPost_ret (v := .tuple #[.agg #[.int .i64 0, .int .i64 0], .int .i64 60]) ?_ rfl ⟨ret_g (q_bad HE.out).1 (q_bad HE.out).2.1 (q_bad HE.out).2.2, bel_row B0 (Nat.le_refl _) _⟩
    exact results_st rfl _ _ w.heap.size 0 0 _ rfl rfl (m0.row 0 0).c0 (m0.row 0 0).c1
end Go.Proofs.YtcbmgpmjnehjdaaGreat
