import Derived.Test.YtnjfckijpbgagaaQ3
import Derived.Test.YtnjfckijpbgagaaNA
import Derived.Test.YtnjfckijpbgagaaH1
import Derived.Test.YtnjfckijpbgagaaQ6
import Derived.Lib.AppendZerosOnto
import Derived.Lib.Walk
import Derived.Test.YtnjfckijpbgagaaNP
namespace Go.Proofs.Ytnjfckijpbgagaa
set_option maxRecDepth 100000
open Go.RowKit
set_option linter.unusedVariables false

/-- append of bytes that came in, nil or not, to a row of one's own that is not nil. -/
theorem wpList_app9 {w : World} {ops : Array Oper} {rest : List Oper} {o : Oper} {act : Act} {Q : Exit → Act → World → Prop} (hgd : o.guard = none) (s x : Operand)
    (ho : o.op = .call { callee := .builtin .append, args := #[s, x], argTypes := #[22, 22] })
    (base : Nat) (v : Value) (n : Nat) (X : List Int) (hs : act.eval s = v) (hown : w.ownsRow base 5 1 v n (cells X)) (hv : ¬ v = .slice none 0 0)
    (a : Option Addr) (m c : Nat) (zs : List Int) (hx : act.eval x = .slice a m c) (hb : Bs w a m zs) (hnm : n + m ≤ 140737488355328) (hbase : base ≤ w.heap.size)
    (h : ∀ v' w', w'.ownsRow base 5 1 v' (n + m) (cells (X ++ zs)) → w.grownBy w' v.ownBlock → ¬ v' = .slice none 0 0 → wpList Try.prog ops Q rest (act.put o.dst v') w') : wpList Try.prog ops Q (o :: rest) act w := by
  obtain ⟨i5, hi, hz0, hz1, hz2⟩ := info_parts info5
  have hb1 := hb.1
  cases a with
  | some ad =>
    refine wpList_append_own _ hgd s x 22 ho base 5 i5 (.int .u8 0) 1 1 Try.underlying22 hi hz0 hz1 hz2 rfl (by decide) v n _ hs hown ad m c (cells zs) hx (by rw [cells_len7, Nat.mul_one, hb1]) (fun j u hj => ?_) (cells_one7 zs) (by unfold maxLen; omega) (by omega) hbase (fun v' w' h1 h2 h3 => h v' w' (by rw [← cells_app7]; exact h1) h2 (fun e => hv (h3.1 e).1))
    have hj' : j < zs.length := by
      have := (List.getElem?_eq_some_iff.1 hj).1
      rwa [cells_len7] at this
    rcases hb.2.2 with h0 | ⟨b, off, e, hc⟩
    · omega
    · obtain rfl := Option.some.inj e
      rw [Addr.add_lit, hc j (by omega), ← hj]
      simp [cells, List.getD, hj']
  | none =>
    have hm0 : m = 0 := by
      rcases hb.2.2 with h0 | ⟨b, off, e, _⟩
      · exact h0
      · cases e
    subst hm0
    have hz : zs = [] := List.eq_nil_of_length_eq_zero hb1
    subst hz
    obtain ⟨g, cap, rfl, hnc⟩ : ∃ g cap, v = .slice (some ⟨g, 0, none⟩) n cap ∧ n ≤ cap := by
      rcases hown.2 with ⟨e, _⟩ | ⟨g, cap, cur, e, _, _, h1, _⟩
      · exact absurd e hv
      · exact ⟨g, cap, e, h1⟩
    refine wpList_plain hgd fun _ hK => ?_
    have hr : (Builtin.append_ #[22, 22] o.type #[.slice (some ⟨g, 0, none⟩) n cap, .slice none 0 c]).run Try.prog w = .ok (.slice (some ⟨g, 0, none⟩) n cap) w := by
      simp [Builtin.append_, run_underlying Try.underlying22, sizeOf, typeInfo, hi, Builtin.lenOf, Builtin.firstCells, hnc, storeCells]
    unfold Oper.wp execOp
    simp only [ho, resolve, invoke, builtin, Sem.run_bind, Sem.run_pure, Result.andThen_ok, List.map_toArray, List.map_cons, List.map_nil, hs, hx, hr]
    refine hK _ _ (h _ _ (by rw [List.append_nil]; exact hown) ⟨rfl, rfl, rfl, Nat.le_refl _, fun _ _ _ => rfl⟩ (by simp))
set_option maxHeartbeats 1000000 in
/-- slices.Grow(nil, n). -/
theorem grow_ (n : Nat) (w : World) (h0 : 0 < n) (hn : n ≤ 1000000) :
    Calls Try.prog 62 #[.slice none 0 0, .int .i64 n] w fun e w' => ∃ v, e = .returned v ∧ w'.ownsRow w.heap.size 5 1 v 0 (cells []) ∧ ¬ v = .slice none 0 0 ∧ Below w.heap.size w w' := by
  obtain ⟨i5, hi, hz0, hz1, hz2⟩ := info_parts info5
  have hrz := fun ty => Lib.run_append_nil_zeros (P := Try.prog) w 22 3 ty 5 i5 (.int .u8 0) .i64 .i64 Try.underlying22 Try.underlying3 hi hz0 n h0 (by omega) (by omega) (by rw [hz2]; omega)
  have hGn : n ≤ grownCap w n 0 5 := grownCap_ge w _ _ _
  have hG63 := grownCap_le_maxLen w n 0 5 (by unfold maxLen; omega)
  obtain ⟨G, hG⟩ : ∃ G, G = grownCap w n 0 5 := ⟨_, rfl⟩
  rw [← hG] at hrz hGn hG63
  have hGm := hG63
  unfold maxLen at hG63
  have h1 : ¬ ((n : Int) < 0) := by omega
  have h4 : (n : Int) > 0 := by omega
  clear hG
  go_enter Try.func62, Try.ntmps62
  go_wp2_with (at_builtin; refine Lib.wpList_append_run _ rfl _ _ _ _ rfl _ _ rfl rfl _ _ (hrz _) ?_)
  all_goals
    go_ret
    refine ⟨_, rfl, ⟨rfl, .inr ⟨w.heap.size, G, _, rfl, Nat.le_refl _, heap_alloc_new _ _, Nat.zero_le _, hGm, ?_, rfl⟩⟩, by simp, ?_⟩
    · simp [Builtin.zeroCells]
      omega
    · have hA := (Below.refl w.heap.size w).alloc (Nat.le_refl _) (.cells (Builtin.zeroCells #[.int .u8 0] n ++ Builtin.zeroCells #[.int .u8 0] (G - n)) 5)
      exact ⟨hA.os, hA.tape, hA.output, hA.size, hA.block⟩
/-- The first k lists, one behind another. -/
def fl (Z : Nat → List Int) : Nat → List Int
  | 0 => []
  | k + 1 => fl Z k ++ Z k
theorem fl_le {Z : Nat → List Int} {k : Nat} (h : ∀ i, i < k → (Z i).length ≤ 10000) : ∀ j, j ≤ k → (fl Z j).length ≤ 10000 * j
  | 0, _ => by simp [fl]
  | j + 1, hj => by
    have h1 := fl_le h j (by omega)
    have h2 := h j (by omega)
    rw [fl, List.length_append]
    omega
theorem fl_pos {Z : Nat → List Int} (h : 0 < (Z 0).length) : ∀ j, 0 < j → 0 < (fl Z j).length
  | 1, _ => by simpa [fl] using h
  | j + 2, _ => by
    have h1 := fl_pos h (j + 1) (by omega)
    rw [fl, List.length_append]
    omega
set_option maxHeartbeats 1000000 in
theorem concat_ (b k : Nat) (A : Nat → Option Addr) (Ns Cs : Nat → Nat) (Z : Nat → List Int) (w : World) (hc : ∀ i, i < k → w.cell? ⟨b, i, none⟩ = some (.slice (A i) (Ns i) (Cs i))) (hb : ∀ i, i < k → Bs w (A i) (Ns i) (Z i)) (hk0 : 0 < k) (hk : k ≤ 10) (hn : ∀ i, i < k → Ns i ≤ 10000) (h0 : 0 < Ns 0) :
    Calls Try.prog 39 #[.slice (some ⟨b, 0, none⟩) k k] w fun e w' => ∃ v, e = .returned v ∧ w'.ownsRow w.heap.size 5 1 v (fl Z k).length (cells (fl Z k)) ∧ Below w.heap.size w w' := by
  have HL : Hid (∀ i, i < k → (Z i).length = Ns i) := fun i hi => (hb i hi).1
  have HF : Hid (∀ j, j ≤ k → (fl Z j).length ≤ 10000 * j) := fl_le (fun i hi => by rw [HL.out i hi]; exact hn i hi)
  have HP : Hid (∀ j, 0 < j → 0 < (fl Z j).length) := fl_pos (by rw [HL.out 0 hk0]; exact h0)
  have HC := hid hc
  have HB := hid hb
  have HN := hid hn
  clear hc hb hn
  go_enter Try.func39, Try.ntmps39
  go_wp2_with fail
  go_loop [3, 5, 11] (fun x _ i => ∃ j : Nat, j ≤ k ∧ x = .int .i64 ((fl Z j).length : Nat) ∧ i = .int .i64 j) (fun _ _ i => k - (intOf i).toNat)
  case atStart => exact ⟨0, by omega, rfl, rfl⟩
  case round =>
    obtain ⟨j, hj, rfl, rfl⟩ := hrel
    by_cases hlt : j < k
    · have hI : (j : Int) < (k : Int) := by omega
      have c0 := HC.out j hlt
      have hx := HF.out j hj
      have hy := HN.out j hlt
      have HX : Hid ((fl Z (j + 1)).length = (fl Z j).length + Ns j) := by
        show _ = _
        rw [fl, List.length_append, HL.out j hlt]
      generalize (fl Z j).length = X at *
      have hX0 : ¬ ((X : Int) + (Ns j : Int) < 0) := by omega
      clear hlt
      go_wp2
      go_round
      case rel => exact ⟨j + 1, by omega, by rw [HX.out]; go_num, by go_num⟩
      case measure => simp [intOf]; omega
    · have hI : ¬ (j : Int) < (k : Int) := by omega
      obtain rfl : j = k := by omega
      have hp := HP.out j hk0
      have hq := HF.out j (Nat.le_refl _)
      have kg := fun w => grow_ (fl Z j).length w hp (by omega)
      go_wp2_with fail
      refine (kg _).mono ?_
      rintro e w1 ⟨v1, rfl, o1, hv1, g1⟩
      clear kg
      go_wp2_with fail
      go_loopw [6, 8, 27] (fun v _ i wr => ∃ m : Nat, m ≤ j ∧ i = .int .i64 m ∧ wr.ownsRow w.heap.size 5 1 v (fl Z m).length (cells (fl Z m)) ∧ ¬ v = .slice none 0 0 ∧ Below w.heap.size w wr) (fun _ _ i _ => j - (intOf i).toNat)
      case atStart => exact ⟨0, by omega, rfl, o1, hv1, g1⟩
      case round =>
        obtain ⟨m, hm, rfl, hown, hv, hbl⟩ := hrel
        by_cases hlm : m < j
        · have hIm : (m : Int) < (j : Int) := by omega
          have c0 := (hbl.cell (World.block_lt_of_cell? w _ (HC.out m hlm))).trans (HC.out m hlm)
          have hbm := (HB.out m hlm).below hbl
          have hx := HF.out m hm
          have hy := HN.out m hlm
          have HX : Hid ((fl Z (m + 1)).length = (fl Z m).length + Ns m) := by
            show _ = _
            rw [fl, List.length_append, HL.out m hlm]
          have HFL : Hid (fl Z (m + 1) = fl Z m ++ Z m) := rfl
          generalize fl Z m = Y at *
          clear hlm
          go_wp2_with (at_builtin; refine wpList_app9 rfl _ _ rfl w.heap.size _ Y.length Y rfl hown hv (A m) (Ns m) (Cs m) (Z m) rfl hbm (by omega) hbl.size ?_; intro v' w6 o6 j6 hv6)
          have f6 : Below w.heap.size w w6 := hbl.grown j6 hbl.size fun p hp => (hown.lt p hp).1
          go_roundw
          case rel => exact ⟨m + 1, by omega, by go_num, by rw [HX.out, HFL.out]; exact o6, hv6, f6⟩
          case measure => simp [intOf]; omega
        · have hIm : ¬ (m : Int) < (j : Int) := by omega
          obtain rfl : m = j := by omega
          go_wp2_with fail
          go_ret
          exact ⟨_, rfl, hown, hbl⟩
/-- bytes.Clone of a slice that is not nil. -/
theorem bclone_ (x : Addr) (n c : Nat) (zs : List Int) (w : World) (hb : Bs w (some x) n zs) (hn : n ≤ 1000000) :
    Calls Try.prog 44 #[.slice (some x) n c] w fun en w' => ∃ v, en = .returned v ∧ w'.ownsRow w.heap.size 5 1 v n (cells zs) ∧ Below w.heap.size w w' := by
  obtain ⟨i, hi, hz0, hz1, hz2⟩ := info_parts info5
  have heq := Go.Lib.run_eql_slice_nil (P := Try.prog) w 22 5 (some x) n c 0 0 Try.underlying22
  simp only [Option.isNone] at heq
  go_enter Try.func44, Try.ntmps44
  go_wp2_with (at_builtin; (refine wpList_append_own _ rfl _ _ 22 rfl w.heap.size 5 i (.int .u8 0) 1 1 Try.underlying22 hi hz0 hz1 hz2 rfl (by decide) _ 0 [] rfl (World.ownsRow_made w _ 0 (Nat.le_refl _) (by unfold maxLen; omega) (by simp)) x n c (cells zs) rfl (by rw [cells_length, hb.1, Nat.mul_one]) (hb.src1 (World.grownBy_alloc w _ _)) (cells_one zs) (by unfold maxLen; omega) (by omega) (by simp) ?_); intro v' w1 hown hg hv)
  have hg' : (w.alloc (.cells #[] 5)).grownBy w1 (some w.heap.size) := hg
  go_ret
  refine ⟨_, rfl, by simpa using hown, below_of_grown (grown_past hg')⟩
theorem addrSize_ (f : Int) (w : World) : Calls Try.prog 42 #[.int .u8 f] w fun e w' => e = .returned (.int .i64 (if f = 4 then 4 else if f = 6 then 16 else 0)) ∧ w' = w := by
  by_cases h4 : f = 4
  · subst h4
    go_enter Try.func42, Try.ntmps42
    go_wp2_with fail
    go_ret
    exact ⟨rfl, rfl⟩
  · rw [if_neg h4]
    have e4 : (f == 4) = false := by simpa using h4
    by_cases h6 : f = 6
    · subst h6
      go_enter Try.func42, Try.ntmps42
      go_wp2_with fail
      go_ret
      exact ⟨rfl, rfl⟩
    · rw [if_neg h6]
      have e6 : (f == 6) = false := by simpa using h6
      clear h4 h6
      go_enter Try.func42, Try.ntmps42
      go_wp2_with fail
      go_ret
      exact ⟨rfl, rfl⟩
end Go.Proofs.Ytnjfckijpbgagaa
namespace Go.Proofs.Ytnjfckijpbgagaa
set_option maxRecDepth 100000
open Go.RowKit
set_option linter.unusedVariables false

theorem q_whole {f : Int} {m : Nat} {zs : List Int} (h : f = 4 ∧ m = 4 ∨ f = 6 ∧ m = 16) (hl : zs.length = m) (hb : ∀ z ∈ zs, 0 ≤ z ∧ z ≤ 255) :
    qF (f :: (8 * m : Nat) :: zs) = f ∧ qH (f :: (8 * m : Nat) :: zs) = ah zs ∧ qL (f :: (8 * m : Nat) :: zs) = alP zs := by
  have hv := val_bound zs hb
  have hg : gk (f :: ((8 * m : Nat) : Int) :: zs) = true ∧ g0 (f :: ((8 * m : Nat) : Int) :: zs) = f ∧ gs7 (f :: ((8 * m : Nat) : Int) :: zs) = zs := by
    rcases h with ⟨rfl, rfl⟩ | ⟨rfl, rfl⟩
    · have g4 : gmP (4 :: ((32 : Nat) : Int) :: zs) = 4 := by
        show nb 4 / 8 = 4
        rfl
      have e1 : gs7 (4 :: ((32 : Nat) : Int) :: zs) = zs := by
        unfold gs7
        rw [g4]
        show zs.take 4 = zs
        exact List.take_of_length_le (by omega)
      refine ⟨?_, rfl, e1⟩
      unfold gk
      rw [e1, g4]
      have hva : va 4 (ah zs) (alP zs) = true := by
        rw [hl] at hv
        have e : (256 : Int) ^ 4 = 4294967296 := by decide
        refine decide_eq_true (.inr ⟨rfl, ?_, ?_⟩)
        · unfold ah
          omega
        · unfold alP
          omega
      have h2 : vp 4 (ah zs) (alP zs) ((32 : Nat) : Int) = true := by
        unfold vp
        rw [hva, Bool.true_and, show nb 4 = 32 from rfl]
        refine decide_eq_true ⟨by omega, by omega, ?_⟩
        rw [Int.toNat_natCast, Nat.sub_self, Int.pow_zero]
        exact Int.emod_one _
      have h3 : vp (g0 (4 :: ((32 : Nat) : Int) :: zs)) (ah zs) (alP zs) ((4 :: ((32 : Nat) : Int) :: zs).getD 1 0) = true := h2
      rw [h3, Bool.and_true]
      refine decide_eq_true ⟨by simp, by decide, ?_⟩
      show 2 + 4 ≤ zs.length + 1 + 1
      omega
    · have g4 : gmP (6 :: ((128 : Nat) : Int) :: zs) = 16 := by
        show nb 6 / 8 = 16
        rfl
      have e1 : gs7 (6 :: ((128 : Nat) : Int) :: zs) = zs := by
        unfold gs7
        rw [g4]
        show zs.take 16 = zs
        exact List.take_of_length_le (by omega)
      refine ⟨?_, rfl, e1⟩
      unfold gk
      rw [e1, g4]
      have hva : va 6 (ah zs) (alP zs) = true := by
        exact decide_eq_true (.inl rfl)
      have h2 : vp 6 (ah zs) (alP zs) ((128 : Nat) : Int) = true := by
        unfold vp
        rw [hva, Bool.true_and, show nb 6 = 128 from rfl]
        refine decide_eq_true ⟨by omega, by omega, ?_⟩
        rw [Int.toNat_natCast, Nat.sub_self, Int.pow_zero]
        exact Int.emod_one _
      have h3 : vp (g0 (6 :: ((128 : Nat) : Int) :: zs)) (ah zs) (alP zs) ((6 :: ((128 : Nat) : Int) :: zs).getD 1 0) = true := h2
      rw [h3, Bool.and_true]
      refine decide_eq_true ⟨by simp, by decide, ?_⟩
      show 2 + 16 ≤ zs.length + 1 + 1
      omega
  obtain ⟨q1, q2, q3, _⟩ := q7_good hg.1
  rw [q1, q2, q3, hg.2.1, hg.2.2]
  exact ⟨rfl, rfl, rfl⟩
set_option maxHeartbeats 1000000 in
theorem readAddr4 (x : Addr) (c : Nat) (zs : List Int) (w : World) (hb : Bs w (some x) 4 zs) :
    Calls Try.prog 43 #[.int .u8 4, .slice (some x) 4 c] w fun e w' => e = .returned (.agg #[.int .i64 4, .int .u64 (ah zs), .int .u64 (alP zs)]) ∧ Below w.heap.size w w' := by
  have hl := hb.1
  have hby := hb.2.1
  obtain ⟨q1, q2, q3⟩ := q_whole (f := 4) (m := 4) (zs := zs) (by decide) hl hby
  have HF : Hid (fl (fun i => if i = 0 then [4, 32] else zs) 2 = 4 :: 32 :: zs) := rfl
  have HQ : Hid (qF (4 :: 32 :: zs) = 4 ∧ qH (4 :: 32 :: zs) = ah zs ∧ qL (4 :: 32 :: zs) = alP zs) := ⟨q1, q2, q3⟩
  have HBY : Hid (∀ z ∈ (4 : Int) :: 32 :: zs, 0 ≤ z ∧ z ≤ 255) := by
    intro z hz
    rcases List.mem_cons.1 hz with rfl | hz
    · decide
    · rcases List.mem_cons.1 hz with rfl | hz
      · decide
      · exact hby z hz
  have B0 := anew w 0 0 0
  have m0 := Am.new w 0 0 0
  have HL : Hid (((4 : Int) :: 32 :: zs).length = 6) := by
    show _ = _
    rw [List.length_cons, List.length_cons, hl]
  have kc := concat_ (w.heap.size + 1 + 1) 2 (fun i => if i = 0 then some ⟨w.heap.size + 1, 0, none⟩ else some x) (fun i => if i = 0 then 2 else 4) (fun i => if i = 0 then 2 else c) (fun i => if i = 0 then [4, 32] else zs)
    (((w.alloc (.cells #[.int .i64 0, .int .u64 0, .int .u64 0] 43)).alloc (.cells #[.int .u8 4, .int .u8 32] 5)).alloc (.cells #[.slice (some ⟨w.heap.size + 1, 0, none⟩) 2 2, .slice (some x) 4 c] 22))
    (fun i hi => by
      have : i = 0 ∨ i = 1 := by omega
      have hh : (((w.alloc (.cells #[.int .i64 0, .int .u64 0, .int .u64 0] 43)).alloc (.cells #[.int .u8 4, .int .u8 32] 5)).alloc (.cells #[.slice (some ⟨w.heap.size + 1, 0, none⟩) 2 2, .slice (some x) 4 c] 22)).heap[w.heap.size + 1 + 1]? = some (.cells #[.slice (some ⟨w.heap.size + 1, 0, none⟩) 2 2, .slice (some x) 4 c] 22 (0, 0)) := by
        have := heap_alloc_new ((w.alloc (.cells #[.int .i64 0, .int .u64 0, .int .u64 0] 43)).alloc (.cells #[.int .u8 4, .int .u8 32] 5)) (.cells #[.slice (some ⟨w.heap.size + 1, 0, none⟩) 2 2, .slice (some x) 4 c] 22)
        rwa [World.size_alloc, World.size_alloc] at this
      rcases this with rfl | rfl
      · exact (cell_of_row _ _ 0 _ _ (0, 0) hh).trans rfl
      · exact (cell_of_row _ _ 1 _ _ (0, 0) hh).trans rfl)
    (fun i hi => by
      have : i = 0 ∨ i = 1 := by omega
      have BA := (((Below.refl w.heap.size w).alloc (Nat.le_refl _) (.cells #[.int .i64 0, .int .u64 0, .int .u64 0] 43)).alloc (by simp) (.cells #[.int .u8 4, .int .u8 32] 5)).alloc (by simp; omega) (.cells #[.slice (some ⟨w.heap.size + 1, 0, none⟩) 2 2, .slice (some x) 4 c] 22)
      rcases this with rfl | rfl
      · refine ⟨rfl, fun z hz => ?_, .inr ⟨w.heap.size + 1, 0, rfl, fun j hj => ?_⟩⟩
        · simp at hz
          omega
        · have hh := heap_alloc_new (w.alloc (.cells #[.int .i64 0, .int .u64 0, .int .u64 0] 43)) (.cells #[.int .u8 4, .int .u8 32] 5)
          rw [World.size_alloc] at hh
          have h2 := (Below.heap_alloc ((w.alloc (.cells #[.int .i64 0, .int .u64 0, .int .u64 0] 43)).alloc (.cells #[.int .u8 4, .int .u8 32] 5)) (.cells #[.slice (some ⟨w.heap.size + 1, 0, none⟩) 2 2, .slice (some x) 4 c] 22) (w.heap.size + 1) (by simp)).trans hh
          have : j = 0 ∨ j = 1 := by
            have hj' : j < 2 := hj
            omega
          rcases this with rfl | rfl
          · exact (cell_of_row _ _ 0 _ _ (0, 0) h2).trans rfl
          · exact (cell_of_row _ _ 1 _ _ (0, 0) h2).trans rfl
      · exact hb.below BA)
    (by decide) (by decide) (fun i hi => by
      have : i = 0 ∨ i = 1 := by omega
      rcases this with rfl | rfl <;> simp) (by decide)
  rw [HF.out, HL.out] at kc
  have B1 := hid ((B0.alloc (by simp) (.cells #[.int .u8 4, .int .u8 32] 5)).alloc (by simp; omega) (.cells #[.slice (some ⟨w.heap.size + 1, 0, none⟩) 2 2, .slice (some x) 4 c] 22))
  have M1 := hid ((m0.alloc (.cells #[.int .u8 4, .int .u8 32] 5)).alloc (.cells #[.slice (some ⟨w.heap.size + 1, 0, none⟩) 2 2, .slice (some x) 4 c] 22))
  clear B0 m0 hb
  go_enter Try.func43, Try.ntmps43
  go_wp2_with fail
  refine kc.mono ?_
  rintro e w1 ⟨v, rfl, o1, g1⟩
  obtain ⟨a1, c1, rfl, y1, h1, h2, h3⟩ := own_form o1 HBY.out
  have m1 := M1.out.kept g1
  have b1 := bel_bel B1.out B1.out.size g1
  have kg := get_ a1 6 c1 (4 :: 32 :: zs) w1 y1 h1 h2 h3 (by have := m1.lt; omega) (by decide)
  rw [HQ.out.1, HQ.out.2.1, HQ.out.2.2] at kg
  clear kc o1 g1 M1 B1 y1
  go_wp2_with fail
  refine kg.mono ?_
  rintro e w2 ⟨rfl, g2⟩
  generalize qB (4 :: 32 :: zs) = B at *
  generalize qN (4 :: 32 :: zs) = N at *
  generalize qE (4 :: 32 :: zs) = E at *
  obtain ⟨H, HH⟩ : ∃ H, Hid (ah zs = H) := ⟨_, rfl⟩
  obtain ⟨L, HLl⟩ : ∃ L, Hid (alP zs = L) := ⟨_, rfl⟩
  rw [HH.out, HLl.out]
  have m2 := hid ((m1.kept g2).alloc (.cells #[.int .i64 4, .int .u64 H, .int .u64 L, .int .i64 B] 112))
  have b2 := hid ((bel_bel b1 b1.size g2).alloc (bel_bel b1 b1.size g2).size (.cells #[.int .i64 4, .int .u64 H, .int .u64 L, .int .i64 B] 112))
  clear m1 b1 g2 kg
  go_wp2_with (with_reducible show wpList _ _ _ (_ :: _) _ _; refine wpList_sa rfl rfl _ _ rfl w.heap.size 4 H L rfl rfl 0 0 0 (by with_reducible exact m2.out) ?_)
  refine bodyPost_ret (v := .agg #[.int .i64 4, .int .u64 H, .int .u64 L]) ?_ rfl ⟨by rw [HH.out, HLl.out], bel_row b2.out (Nat.le_refl _) _⟩
  exact results_a rfl _ _ w.heap.size 4 H L rfl (m2.out.row 4 H L)
set_option maxHeartbeats 1000000 in
theorem readAddr16 (x : Addr) (c : Nat) (zs : List Int) (w : World) (hb : Bs w (some x) 16 zs) :
    Calls Try.prog 43 #[.int .u8 6, .slice (some x) 16 c] w fun e w' => e = .returned (.agg #[.int .i64 6, .int .u64 (ah zs), .int .u64 (alP zs)]) ∧ Below w.heap.size w w' := by
  have hl := hb.1
  have hby := hb.2.1
  obtain ⟨q1, q2, q3⟩ := q_whole (f := 6) (m := 16) (zs := zs) (by decide) hl hby
  have HF : Hid (fl (fun i => if i = 0 then [6, 128] else zs) 2 = 6 :: 128 :: zs) := rfl
  have HQ : Hid (qF (6 :: 128 :: zs) = 6 ∧ qH (6 :: 128 :: zs) = ah zs ∧ qL (6 :: 128 :: zs) = alP zs) := ⟨q1, q2, q3⟩
  have HBY : Hid (∀ z ∈ (6 : Int) :: 128 :: zs, 0 ≤ z ∧ z ≤ 255) := by
    intro z hz
    rcases List.mem_cons.1 hz with rfl | hz
    · decide
    · rcases List.mem_cons.1 hz with rfl | hz
      · decide
      · exact hby z hz
  have B0 := anew w 0 0 0
  have m0 := Am.new w 0 0 0
  have HL : Hid (((6 : Int) :: 128 :: zs).length = 18) := by
    show _ = _
    rw [List.length_cons, List.length_cons, hl]
  have kc := concat_ (w.heap.size + 1 + 1) 2 (fun i => if i = 0 then some ⟨w.heap.size + 1, 0, none⟩ else some x) (fun i => if i = 0 then 2 else 16) (fun i => if i = 0 then 2 else c) (fun i => if i = 0 then [6, 128] else zs)
    (((w.alloc (.cells #[.int .i64 0, .int .u64 0, .int .u64 0] 43)).alloc (.cells #[.int .u8 6, .int .u8 128] 5)).alloc (.cells #[.slice (some ⟨w.heap.size + 1, 0, none⟩) 2 2, .slice (some x) 16 c] 22))
    (fun i hi => by
      have : i = 0 ∨ i = 1 := by omega
      have hh : (((w.alloc (.cells #[.int .i64 0, .int .u64 0, .int .u64 0] 43)).alloc (.cells #[.int .u8 6, .int .u8 128] 5)).alloc (.cells #[.slice (some ⟨w.heap.size + 1, 0, none⟩) 2 2, .slice (some x) 16 c] 22)).heap[w.heap.size + 1 + 1]? = some (.cells #[.slice (some ⟨w.heap.size + 1, 0, none⟩) 2 2, .slice (some x) 16 c] 22 (0, 0)) := by
        have := heap_alloc_new ((w.alloc (.cells #[.int .i64 0, .int .u64 0, .int .u64 0] 43)).alloc (.cells #[.int .u8 6, .int .u8 128] 5)) (.cells #[.slice (some ⟨w.heap.size + 1, 0, none⟩) 2 2, .slice (some x) 16 c] 22)
        rwa [World.size_alloc, World.size_alloc] at this
      rcases this with rfl | rfl
      · exact (cell_of_row _ _ 0 _ _ (0, 0) hh).trans rfl
      · exact (cell_of_row _ _ 1 _ _ (0, 0) hh).trans rfl)
    (fun i hi => by
      have : i = 0 ∨ i = 1 := by omega
      have BA := (((Below.refl w.heap.size w).alloc (Nat.le_refl _) (.cells #[.int .i64 0, .int .u64 0, .int .u64 0] 43)).alloc (by simp) (.cells #[.int .u8 6, .int .u8 128] 5)).alloc (by simp; omega) (.cells #[.slice (some ⟨w.heap.size + 1, 0, none⟩) 2 2, .slice (some x) 16 c] 22)
      rcases this with rfl | rfl
      · refine ⟨rfl, fun z hz => ?_, .inr ⟨w.heap.size + 1, 0, rfl, fun j hj => ?_⟩⟩
        · simp at hz
          omega
        · have hh := heap_alloc_new (w.alloc (.cells #[.int .i64 0, .int .u64 0, .int .u64 0] 43)) (.cells #[.int .u8 6, .int .u8 128] 5)
          rw [World.size_alloc] at hh
          have h2 := (Below.heap_alloc ((w.alloc (.cells #[.int .i64 0, .int .u64 0, .int .u64 0] 43)).alloc (.cells #[.int .u8 6, .int .u8 128] 5)) (.cells #[.slice (some ⟨w.heap.size + 1, 0, none⟩) 2 2, .slice (some x) 16 c] 22) (w.heap.size + 1) (by simp)).trans hh
          have : j = 0 ∨ j = 1 := by
            have hj' : j < 2 := hj
            omega
          rcases this with rfl | rfl
          · exact (cell_of_row _ _ 0 _ _ (0, 0) h2).trans rfl
          · exact (cell_of_row _ _ 1 _ _ (0, 0) h2).trans rfl
      · exact hb.below BA)
    (by decide) (by decide) (fun i hi => by
      have : i = 0 ∨ i = 1 := by omega
      rcases this with rfl | rfl <;> simp) (by decide)
  rw [HF.out, HL.out] at kc
  have B1 := hid ((B0.alloc (by simp) (.cells #[.int .u8 6, .int .u8 128] 5)).alloc (by simp; omega) (.cells #[.slice (some ⟨w.heap.size + 1, 0, none⟩) 2 2, .slice (some x) 16 c] 22))
  have M1 := hid ((m0.alloc (.cells #[.int .u8 6, .int .u8 128] 5)).alloc (.cells #[.slice (some ⟨w.heap.size + 1, 0, none⟩) 2 2, .slice (some x) 16 c] 22))
  clear B0 m0 hb
  go_enter Try.func43, Try.ntmps43
  go_wp2_with fail
  refine kc.mono ?_
  rintro e w1 ⟨v, rfl, o1, g1⟩
  obtain ⟨a1, c1, rfl, y1, h1, h2, h3⟩ := own_form o1 HBY.out
  have m1 := M1.out.kept g1
  have b1 := bel_bel B1.out B1.out.size g1
  have kg := get_ a1 18 c1 (6 :: 128 :: zs) w1 y1 h1 h2 h3 (by have := m1.lt; omega) (by decide)
  rw [HQ.out.1, HQ.out.2.1, HQ.out.2.2] at kg
  clear kc o1 g1 M1 B1 y1
  go_wp2_with fail
  refine kg.mono ?_
  rintro e w2 ⟨rfl, g2⟩
  generalize qB (6 :: 128 :: zs) = B at *
  generalize qN (6 :: 128 :: zs) = N at *
  generalize qE (6 :: 128 :: zs) = E at *
  obtain ⟨H, HH⟩ : ∃ H, Hid (ah zs = H) := ⟨_, rfl⟩
  obtain ⟨L, HLl⟩ : ∃ L, Hid (alP zs = L) := ⟨_, rfl⟩
  rw [HH.out, HLl.out]
  have m2 := hid ((m1.kept g2).alloc (.cells #[.int .i64 6, .int .u64 H, .int .u64 L, .int .i64 B] 112))
  have b2 := hid ((bel_bel b1 b1.size g2).alloc (bel_bel b1 b1.size g2).size (.cells #[.int .i64 6, .int .u64 H, .int .u64 L, .int .i64 B] 112))
  clear m1 b1 g2 kg
  go_wp2_with (with_reducible show wpList _ _ _ (_ :: _) _ _; refine wpList_sa rfl rfl _ _ rfl w.heap.size 6 H L rfl rfl 0 0 0 (by with_reducible exact m2.out) ?_)
  refine bodyPost_ret (v := .agg #[.int .i64 6, .int .u64 H, .int .u64 L]) ?_ rfl ⟨by rw [HH.out, HLl.out], bel_row b2.out (Nat.le_refl _) _⟩
  exact results_a rfl _ _ w.heap.size 6 H L rfl (m2.out.row 6 H L)
end Go.Proofs.Ytnjfckijpbgagaa
