import Derived.Test.YtnjfckijpbgagaaHA
import Derived.Test.YtnjfckijpbgagaaH4
namespace Go.Proofs.Ytnjfckijpbgagaa
set_option maxRecDepth 100000
open Go.RowKit
set_option linter.unusedVariables false

theorem sizey : (Try.prog.info? 45).map (·.size) = some 7 := by kernel_rfl
theorem Ym.row {w : World} {g : Nat} {F H L F' H' L' : Int} {s : Value} (h : Ym w g F H L F' H' L' s) (F2 H2 L2 F3 H3 L3 : Int) (s' : Value) : Ym (w.setRow g #[.int .i64 F2, .int .u64 H2, .int .u64 L2, .int .i64 F3, .int .u64 H3, .int .u64 L3, s']) g F2 H2 L2 F3 H3 L3 s' := setRow_heap w g _ _ _ _ h
theorem Ym.fz {w : World} {g : Nat} {F H L F' H' L' : Int} {s : Value} (h : Ym w g F H L F' H' L' s) (i : Nat) : w.frozen? ⟨g, i, none⟩ = false := by unfold Ym at h; simp [World.frozen?, h]
theorem Ym.set7 {w : World} {g : Nat} {F H L F' H' L' : Int} {s : Value} (h : Ym w g F H L F' H' L' s) (F2 H2 L2 F3 H3 L3 : Int) (s' : Value) : Ym (((((((w.setCell ⟨g, 0, none⟩ (.int .i64 F2)).setCell ⟨g, 1, none⟩ (.int .u64 H2)).setCell ⟨g, 2, none⟩ (.int .u64 L2)).setCell ⟨g, 3, none⟩ (.int .i64 F3)).setCell ⟨g, 4, none⟩ (.int .u64 H3)).setCell ⟨g, 5, none⟩ (.int .u64 L3)).setCell ⟨g, 6, none⟩ s') g F2 H2 L2 F3 H3 L3 s' := by
  unfold Ym at *
  simp [World.setCell, Array.getElem?_modify, h]
theorem own_set {w : World} {B e s n g : Nat} {v : Value} {xs : List Value} (h : w.ownsRow B e s v n xs) (hne : ∀ k, v.ownBlock = some k → k ≠ g) (i : Nat) (x : Value) : (w.setCell ⟨g, i, none⟩ x).ownsRow B e s v n xs := by
  obtain ⟨h1, h2⟩ := h
  refine ⟨h1, ?_⟩
  rcases h2 with h2 | ⟨g', cap, cur, rfl, hb, hg, h3⟩
  · exact .inl h2
  · refine .inr ⟨g', cap, cur, rfl, hb, ?_, h3⟩
    rw [Below.heap_setCell _ _ _ _ (hne g' rfl)]
    exact hg
theorem wpList_sy {ops : Array Oper} {rest : List Oper} {o : Oper} {a : Act} {w : World} {Q : Exit → Act → World → Prop} (hgd : o.guard = none) (hdst : o.dst = none) (x y : Operand) (ho : o.op = .store 45 x y)
    (g : Nat) (F H L F' H' L' : Int) (a1 : Option Addr) (n1 c1 : Nat) (hx : a.eval x = .pointer (some ⟨g, 0, none⟩)) (hy : a.eval y = .agg #[.int .i64 F, .int .u64 H, .int .u64 L, .int .i64 F', .int .u64 H', .int .u64 L', .slice a1 n1 c1]) (F0 H0 L0 F1 H1 L1 : Int) (s0 : Value) (hg : Ym w g F0 H0 L0 F1 H1 L1 s0)
    (h : wpList Try.prog ops Q rest a (w.setRow g #[.int .i64 F, .int .u64 H, .int .u64 L, .int .i64 F', .int .u64 H', .int .u64 L', .slice a1 n1 c1])) : wpList Try.prog ops Q (o :: rest) a w := by
  refine wpList_store_row hgd _ x y ho g #[.int .i64 F, .int .u64 H, .int .u64 L, .int .i64 F', .int .u64 H', .int .u64 L', .slice a1 n1 c1] hx hy _ _ hg sizey rfl (by simp [Value.oneCell']) ?_
  rw [hdst]
  exact h
theorem results_y2 {fn : Func} {p u : Tmp} (h : fn.results = #[.cell p 45, .tmp u]) (tmps : Array Value) (w : World) (g : Nat) (F H L F' H' L' : Int) (s x : Value)
    (hp : tmps.getD p undef = .pointer (some ⟨g, 0, none⟩)) (hu : tmps.getD u undef = x) (hg : Ym w g F H L F' H' L' s) :
    (results fn tmps).run Try.prog w = .ok (.tuple #[.agg #[.int .i64 F, .int .u64 H, .int .u64 L, .int .i64 F', .int .u64 H', .int .u64 L', s], x]) w := by
  have hl := run_loadVar_row (P := Try.prog) w g 45 45 #[.int .i64 F, .int .u64 H, .int .u64 L, .int .i64 F', .int .u64 H', .int .u64 L', s] (0, 0) _ hg Try.underlying45 rfl sizey
  have hp' : tmps[p]?.getD undef = .pointer (some ⟨g, 0, none⟩) := by simpa using hp
  have hu' : tmps[u]?.getD undef = x := by simpa using hu
  simp [results, h, hp', hu', asAddr, hl]
/-- What GetPayload answers, in memory of its own. -/
def Wo (b : Nat) (zs : List Int) (e : Ending) (w' : World) : Prop := ∃ a m c, e = .returned (.tuple #[.agg #[.int .i64 (zZ zs (af (yN zs))), .int .u64 (zZ zs (ah (zS zs))), .int .u64 (zZ zs (alP (zS zs))), .int .i64 (zZ zs (af (yN zs))), .int .u64 (zZ zs (ah (zD zs))), .int .u64 (zZ zs (alP (zD zs))), .slice a m c], .int .i64 (zE zs)]) ∧ w'.ownsRow b 5 1 (.slice a m c) m (cells (zB zs))
theorem Wo.bad {b : Nat} {zs : List Int} (h : zOk zs = false) (w' : World) : Wo b zs (.returned (.tuple #[.agg #[.int .i64 0, .int .u64 0, .int .u64 0, .int .i64 0, .int .u64 0, .int .u64 0, .slice none 0 0], .int .i64 90])) w' := by
  unfold Wo zZ zB zE
  rw [h]
  exact ⟨none, 0, 0, rfl, World.ownsRow_nil _ _ _ _⟩
theorem zOk_no {zs : List Int} (h : yN zs = 0 ∨ zs.length < 1 + 2 * yN zs ∨ 1280 < zs.length) : zOk zs = false := decide_eq_false (by omega)
set_option maxHeartbeats 8000000 in
theorem getPayload_ (a : Option Addr) (n c : Nat) (zs : List Int) (w : World) (hb : Bs w a n zs) (hnc : n ≤ c) (hc : c ≤ maxLen) :
    Calls Try.prog 20 #[.slice a n c] w fun e w' => Wo w.heap.size zs e w' ∧ Below w.heap.size w w' := by
  have B0 := ynew w 0 0 0 0 0 0 (.slice none 0 0)
  have m0 := Ym.new w 0 0 0 0 0 0 (.slice none 0 0)
  have hl := hb.1
  have hcm := hc
  unfold maxLen at hcm
  by_cases hn0 : n = 0
  · subst hn0
    have HN : Hid (zOk zs = false) := zOk_no (.inl (by unfold yN; rw [if_pos hl]))
    clear hb
    go_enter Try.func20, Try.ntmps20
    go_wp2_with (with_reducible show wpList _ _ _ (_ :: _) _ _; refine wpList_sy rfl rfl _ _ rfl w.heap.size 0 0 0 0 0 0 none 0 0 rfl rfl 0 0 0 0 0 0 (.slice none 0 0) (by with_reducible exact m0) ?_)
    refine bodyPost_ret (v := .tuple #[.agg #[.int .i64 0, .int .u64 0, .int .u64 0, .int .i64 0, .int .u64 0, .int .u64 0, .slice none 0 0], .int .i64 90]) ?_ rfl ⟨Wo.bad HN.out _, bel_row B0 (Nat.le_refl _) _⟩
    exact results_y2 rfl _ _ w.heap.size 0 0 0 0 0 0 _ _ rfl rfl (m0.row 0 0 0 0 0 0 _)
  · have e0 : ((n : Int) == 0) = false := by simpa using hn0
    by_cases hn1 : 1280 < n
    · have HN : Hid (zOk zs = false) := zOk_no (.inr (.inr (by omega)))
      have hI : (1280 : Int) < (n : Int) := by omega
      clear hb hn0
      go_enter Try.func20, Try.ntmps20
      go_wp2_with (with_reducible show wpList _ _ _ (_ :: _) _ _; refine wpList_sy rfl rfl _ _ rfl w.heap.size 0 0 0 0 0 0 none 0 0 rfl rfl 0 0 0 0 0 0 (.slice none 0 0) (by with_reducible exact m0) ?_)
      refine bodyPost_ret (v := .tuple #[.agg #[.int .i64 0, .int .u64 0, .int .u64 0, .int .i64 0, .int .u64 0, .int .u64 0, .slice none 0 0], .int .i64 90]) ?_ rfl ⟨Wo.bad HN.out _, bel_row B0 (Nat.le_refl _) _⟩
      exact results_y2 rfl _ _ w.heap.size 0 0 0 0 0 0 _ _ rfl rfl (m0.row 0 0 0 0 0 0 _)
    · have hI : ¬ (1280 : Int) < (n : Int) := by omega
      obtain ⟨b, off, rfl, hcq⟩ : ∃ b off, a = some ⟨b, off, none⟩ ∧ ∀ i, i < n → w.cell? ⟨b, off + i, none⟩ = some (.int .u8 (zs.getD i 0)) := by
        rcases hb.2.2 with h | h
        · omega
        · exact h
      have hz0 := hcq 0 (by omega)
      rw [Nat.add_zero] at hz0
      have hzb := getD_byte6 hb.2.1 0
      have hblt := World.block_lt_of_cell? w _ hz0
      obtain ⟨s1, s2⟩ := cut_bs (m := 1) hb (by omega)
      have k1 := fun w => cut_ b off n c 1 w (by omega) hnc hc
      have hyn : Hid (yN zs = if zs.getD 0 0 = 4 then 4 else if zs.getD 0 0 = 6 then 16 else 0) := by
        show _ = _
        unfold yN
        rw [if_neg (by omega)]
      obtain ⟨f, Hf⟩ : ∃ f, Hid (zs.getD 0 0 = f) := ⟨_, rfl⟩
      rw [Hf.out] at hz0 hzb hyn
      have k2 := fun w => addrSize_ f w
      obtain ⟨off1, Hoff⟩ : ∃ x, Hid ((if n = 1 then off else off + 1) = x) := ⟨_, rfl⟩
      rw [Hoff.out] at k1 s2
      replace hz0 := (B0.cell hblt).trans hz0
      have S2 := hid (s2.below B0)
      clear hcq s1 s2 hn0 hn1 hb
      go_enter Try.func20, Try.ntmps20
      go_wp2_with fail
      refine (k1 _).mono ?_
      rintro e w1 ⟨rfl, nq, rfl⟩
      replace m0 : Ym ((w.alloc (.cells #[.int .i64 0, .int .u64 0, .int .u64 0, .int .i64 0, .int .u64 0, .int .u64 0, .slice none 0 0] 45)).drewN nq) w.heap.size 0 0 0 0 0 0 (.slice none 0 0) := m0
      replace B0 := bel_drawn B0 nq
      replace S2 : Hid (Bs ((w.alloc (.cells #[.int .i64 0, .int .u64 0, .int .u64 0, .int .i64 0, .int .u64 0, .int .u64 0, .slice none 0 0] 45)).drewN nq) (some ⟨b, off1, none⟩) (n - 1) (zs.drop 1)) := S2.out.below (bel_drawn (Below.refl _ _) nq)
      replace hz0 : ((w.alloc (.cells #[.int .i64 0, .int .u64 0, .int .u64 0, .int .i64 0, .int .u64 0, .int .u64 0, .slice none 0 0] 45)).drewN nq).cell? ⟨b, off, none⟩ = some (.int .u8 f) := hz0
      generalize (w.alloc (.cells #[.int .i64 0, .int .u64 0, .int .u64 0, .int .i64 0, .int .u64 0, .int .u64 0, .slice none 0 0] 45)).drewN nq = w1 at *
      clear k1
      go_wp2_with fail
      refine (k2 _).mono ?_
      rintro e w2 ⟨rfl, hw⟩
      obtain rfl := hw.symm
      clear hw k2
      have BADN : ∀ w2, yN zs = 0 ∨ zs.length < 1 + 2 * yN zs → Wo w.heap.size zs (.returned (.tuple #[.agg #[.int .i64 0, .int .u64 0, .int .u64 0, .int .i64 0, .int .u64 0, .int .u64 0, .slice none 0 0], .int .i64 90])) w2 := fun w2 h => Wo.bad (zOk_no (by omega)) w2
      have HBAD := hid BADN
      clear BADN
      by_cases h4 : f = 4
      · subst h4
        rw [if_pos rfl] at hyn ⊢
        by_cases hr : n - 1 < 8
        · have hrI : ((n - 1 : Nat) : Int) < 8 := by omega
          have HW := hid (fun w2 => HBAD.out w2 (.inr (by rw [hyn.out]; omega)))
          clear hr
          go_wp2_with (with_reducible show wpList _ _ _ (_ :: _) _ _; refine wpList_sy rfl rfl _ _ rfl w.heap.size 0 0 0 0 0 0 none 0 0 rfl rfl 0 0 0 0 0 0 (.slice none 0 0) (by with_reducible exact m0) ?_)
          refine bodyPost_ret (v := .tuple #[.agg #[.int .i64 0, .int .u64 0, .int .u64 0, .int .i64 0, .int .u64 0, .int .u64 0, .slice none 0 0], .int .i64 90]) ?_ rfl ⟨HW.out _, bel_row B0 (Nat.le_refl _) _⟩
          exact results_y2 rfl _ _ w.heap.size 0 0 0 0 0 0 _ _ rfl rfl (m0.row 0 0 0 0 0 0 _)
        · have hrI : ¬ ((n - 1 : Nat) : Int) < 8 := by omega
          have HN : Hid (zOk zs = true) := decide_eq_true (by rw [hyn.out]; omega)
          have hmx1 : n - 1 ≤ maxLen := by unfold maxLen; omega
          have k3 := fun w => cut_ b off1 (n - 1) (n - 1) 4 w (by omega) (Nat.le_refl _) hmx1
          obtain ⟨A1, R2⟩ := cut_bs (m := 4) S2.out (by omega)
          obtain ⟨off2, Hoff2⟩ : ∃ x, Hid ((if n - 1 = 4 then off1 else off1 + 4) = x) := ⟨_, rfl⟩
          rw [Hoff2.out] at k3 R2
          have k4 := fun w => cut_ b off2 (n - 1 - 4) (n - 1 - 4) 4 w (by omega) (Nat.le_refl _) (by unfold maxLen; omega)
          obtain ⟨A2, R3⟩ := cut_bs (m := 4) R2 (by omega)
          obtain ⟨off3, Hoff3⟩ : ∃ x, Hid ((if n - 1 - 4 = 4 then off2 else off2 + 4) = x) := ⟨_, rfl⟩
          rw [Hoff3.out] at k4 R3
          have HS : Hid ((zs.drop 1).take 4 = zS zs) := by
            show _ = _
            unfold zS
            rw [hyn.out]
          have HD : Hid (((zs.drop 1).drop 4).take 4 = zD zs) := by
            show _ = _
            unfold zD
            rw [hyn.out, List.drop_drop]
          have HZB : Hid (((zs.drop 1).drop 4).drop 4 = zB zs) := by
            show _ = _
            unfold zB
            rw [HN.out, if_pos rfl, hyn.out, List.drop_drop, List.drop_drop]
          rw [HS.out] at A1
          rw [HD.out] at A2
          rw [HZB.out] at R3
          have X1 := hid A1
          have X2 := hid A2
          have X3 := hid R3
          have HVAL : Hid (∀ a m cc w2, w2.ownsRow w.heap.size 5 1 (.slice a m cc) m (cells (zB zs)) → Wo w.heap.size zs (.returned (.tuple #[.agg #[.int .i64 4, .int .u64 (ah (zS zs)), .int .u64 (alP (zS zs)), .int .i64 4, .int .u64 (ah (zD zs)), .int .u64 (alP (zD zs)), .slice a m cc], .int .i64 0])) w2) := fun a m cc w2 ho => by
            refine ⟨a, m, cc, ?_, ho⟩
            unfold zZ zE
            rw [HN.out, hyn.out]
            rfl
          have kr1 := fun w hb => readAddr4 ⟨b, off1, none⟩ 4 (zS zs) w hb
          have kr2 := fun w hb => readAddr4 ⟨b, off2, none⟩ 4 (zD zs) w hb
          have kcl := fun w hb => bclone_ ⟨b, off3, none⟩ (n - 1 - 4 - 4) (n - 1 - 4 - 4) (zB zs) w hb (by omega)
          have HBY : Hid (∀ z ∈ zB zs, 0 ≤ z ∧ z ≤ 255) := R3.2.1
          obtain ⟨H, HH⟩ : ∃ H, Hid (ah (zS zs) = H) := ⟨_, rfl⟩
          obtain ⟨L, HL⟩ : ∃ H, Hid (alP (zS zs) = H) := ⟨_, rfl⟩
          obtain ⟨H', HH'⟩ : ∃ H, Hid (ah (zD zs) = H) := ⟨_, rfl⟩
          obtain ⟨L', HL'⟩ : ∃ H, Hid (alP (zD zs) = H) := ⟨_, rfl⟩
          simp only [HH.out, HL.out] at kr1 HVAL
          simp only [HH'.out, HL'.out] at kr2 HVAL
          clear A1 A2 R2 R3 hr S2
          go_wp2_with fail
          refine (k3 _).mono ?_
          rintro e w2 ⟨rfl, nq, rfl⟩
          replace m0 : Ym (w1.drewN nq) w.heap.size 0 0 0 0 0 0 (.slice none 0 0) := m0
          replace B0 := bel_drawn B0 nq
          replace X1 := hid (X1.out.below (bel_drawn (Below.refl _ _) nq))
          replace X2 := hid (X2.out.below (bel_drawn (Below.refl _ _) nq))
          replace X3 := hid (X3.out.below (bel_drawn (Below.refl _ _) nq))
          replace hz0 : (w1.drewN nq).cell? ⟨b, off, none⟩ = some (.int .u8 4) := hz0
          generalize w1.drewN nq = w2 at *
          clear k3
          go_wp2_with fail
          refine (k4 _).mono ?_
          rintro e w3 ⟨rfl, nq, rfl⟩
          replace m0 : Ym (w2.drewN nq) w.heap.size 0 0 0 0 0 0 (.slice none 0 0) := m0
          replace B0 := bel_drawn B0 nq
          replace X1 := hid (X1.out.below (bel_drawn (Below.refl _ _) nq))
          replace X2 := hid (X2.out.below (bel_drawn (Below.refl _ _) nq))
          replace X3 := hid (X3.out.below (bel_drawn (Below.refl _ _) nq))
          replace hz0 : (w2.drewN nq).cell? ⟨b, off, none⟩ = some (.int .u8 4) := hz0
          generalize w2.drewN nq = w3 at *
          clear k4
          go_wp2_with fail
          have hlw := m0.lt
          have hbw := B0.size
          have hb3 : b < w3.heap.size := by omega
          have hbne : ¬ b = w.heap.size := by omega
          have hbne2 : ¬ w.heap.size = b := by omega
          have M0 := hid m0
          have BB := hid B0
          clear m0 B0
          go_region_held (fun wx => wx.cell? ⟨b, off, none⟩ = some (.int .u8 4)) (go_keep) (first | (go_at_call 44; refine (kcl _ X3c.out).mono ?_; rintro e w6 ⟨v6, rfl, o6, g6⟩; obtain ⟨a6, c6, rfl, _, _⟩ := own_form o6 HBY.out; have m6 := ((Ym.kept (by exact M0.out) G4.out).kept G5.out).kept g6; have q0 := m6.c0; have q1 := m6.c1; have q2 := m6.c2; have q3 := m6.c3; have q4 := m6.c4; have q5 := m6.c5; have q6 := m6.c6; have f0 := m6.fz 0; have f1 := m6.fz 1; have f2 := m6.fz 2; have f3 := m6.fz 3; have f4 := m6.fz 4; have f5 := m6.fz 5; have f6 := m6.fz 6; have M6 := hid m6; clear m6; have y0 := (g6.cell (p := ⟨b, off, none⟩) (by have := G4.out.size; have := G5.out.size; exact Nat.lt_of_lt_of_le hb3 (Nat.le_trans G4.out.size G5.out.size))).trans y0) | (go_at_call 43; have HQ := G4; refine (kr2 _ X2b.out).mono ?_; rintro e w5 ⟨rfl, g5⟩; have y0 := (g5.cell (p := ⟨b, off, none⟩) (Nat.lt_of_lt_of_le hb3 G4.out.size)).trans y0; have G5 := hid g5; have X3c := hid (X3b.out.below g5); clear g5) | (go_at_call 43; refine (kr1 _ (by exact X1.out)).mono ?_; rintro e w4 ⟨rfl, g4⟩; have y0 := (g4.cell (p := ⟨b, off, none⟩) hb3).trans hz0; have X2b := hid (Bs.below (by exact X2.out) g4); have X3b := hid (Bs.below (by exact X3.out) g4); have G4 := hid g4; clear g4))
          have B3 : Below w.heap.size w w3.drew := ⟨BB.out.os, BB.out.tape, BB.out.output, BB.out.size, BB.out.block⟩
          have B4 := bel_bel B3 B3.size G4.out
          have B5 := bel_bel B4 B4.size G5.out
          have B6 := bel_bel B5 B5.size g6
          have hw5 : w.heap.size < w5.heap.size := Nat.lt_of_lt_of_le hlw (Nat.le_trans G4.out.size G5.out.size)
          have m7 := M6.out.set7 4 H L 4 H' L' (.slice a6 (n - 1 - 4 - 4) c6)
          have B7 := ((((((B6.setCell (p := ⟨w.heap.size, 0, none⟩) (Nat.le_refl _) (.int .i64 4)).setCell (p := ⟨w.heap.size, 1, none⟩) (Nat.le_refl _) (.int .u64 H)).setCell (p := ⟨w.heap.size, 2, none⟩) (Nat.le_refl _) (.int .u64 L)).setCell (p := ⟨w.heap.size, 3, none⟩) (Nat.le_refl _) (.int .i64 4)).setCell (p := ⟨w.heap.size, 4, none⟩) (Nat.le_refl _) (.int .u64 H')).setCell (p := ⟨w.heap.size, 5, none⟩) (Nat.le_refl _) (.int .u64 L')).setCell (p := ⟨w.heap.size, 6, none⟩) (Nat.le_refl _) (.slice a6 (n - 1 - 4 - 4) c6)
          have hne : ∀ k, (Value.slice a6 (n - 1 - 4 - 4) c6).ownBlock = some k → k ≠ w.heap.size := fun k hk => by
            have := (o6.lt k hk).1
            omega
          have o7 := own_le7 (own_set (own_set (own_set (own_set (own_set (own_set (own_set o6 hne 0 (.int .i64 4)) hne 1 (.int .u64 H)) hne 2 (.int .u64 L)) hne 3 (.int .i64 4)) hne 4 (.int .u64 H')) hne 5 (.int .u64 L')) hne 6 (.slice a6 (n - 1 - 4 - 4) c6)) (Nat.le_of_lt hw5)
          have HO := hid (HVAL.out a6 (n - 1 - 4 - 4) c6 _ o7)
          have M7 := hid m7
          have H7 := hid B7
          clear q0 q1 q2 q3 q4 q5 q6 f0 f1 f2 f3 f4 f5 f6 M6 y0 o6 g6 B3 B4 B5 B6 m7 B7 o7
          go_wp2_with fail
          refine bodyPost_ret (v := .tuple #[.agg #[.int .i64 4, .int .u64 H, .int .u64 L, .int .i64 4, .int .u64 H', .int .u64 L', .slice a6 (n - 1 - 4 - 4) c6], .int .i64 0]) ?_ rfl ⟨HO.out, H7.out⟩
          exact results_y2 rfl _ _ w.heap.size 4 H L 4 H' L' _ _ rfl rfl M7.out
      · by_cases h6 : f = 6
        · subst h6
          rw [if_neg h4, if_pos rfl] at hyn ⊢
          clear h4
          by_cases hr : n - 1 < 32
          · have hrI : ((n - 1 : Nat) : Int) < 32 := by omega
            have HW := hid (fun w2 => HBAD.out w2 (.inr (by rw [hyn.out]; omega)))
            clear hr
            go_wp2_with (with_reducible show wpList _ _ _ (_ :: _) _ _; refine wpList_sy rfl rfl _ _ rfl w.heap.size 0 0 0 0 0 0 none 0 0 rfl rfl 0 0 0 0 0 0 (.slice none 0 0) (by with_reducible exact m0) ?_)
            refine bodyPost_ret (v := .tuple #[.agg #[.int .i64 0, .int .u64 0, .int .u64 0, .int .i64 0, .int .u64 0, .int .u64 0, .slice none 0 0], .int .i64 90]) ?_ rfl ⟨HW.out _, bel_row B0 (Nat.le_refl _) _⟩
            exact results_y2 rfl _ _ w.heap.size 0 0 0 0 0 0 _ _ rfl rfl (m0.row 0 0 0 0 0 0 _)
          · have hrI : ¬ ((n - 1 : Nat) : Int) < 32 := by omega
            have HN : Hid (zOk zs = true) := decide_eq_true (by rw [hyn.out]; omega)
            have hmx1 : n - 1 ≤ maxLen := by unfold maxLen; omega
            have k3 := fun w => cut_ b off1 (n - 1) (n - 1) 16 w (by omega) (Nat.le_refl _) hmx1
            obtain ⟨A1, R2⟩ := cut_bs (m := 16) S2.out (by omega)
            obtain ⟨off2, Hoff2⟩ : ∃ x, Hid ((if n - 1 = 16 then off1 else off1 + 16) = x) := ⟨_, rfl⟩
            rw [Hoff2.out] at k3 R2
            have k4 := fun w => cut_ b off2 (n - 1 - 16) (n - 1 - 16) 16 w (by omega) (Nat.le_refl _) (by unfold maxLen; omega)
            obtain ⟨A2, R3⟩ := cut_bs (m := 16) R2 (by omega)
            obtain ⟨off3, Hoff3⟩ : ∃ x, Hid ((if n - 1 - 16 = 16 then off2 else off2 + 16) = x) := ⟨_, rfl⟩
            rw [Hoff3.out] at k4 R3
            have HS : Hid ((zs.drop 1).take 16 = zS zs) := by
              show _ = _
              unfold zS
              rw [hyn.out]
            have HD : Hid (((zs.drop 1).drop 16).take 16 = zD zs) := by
              show _ = _
              unfold zD
              rw [hyn.out, List.drop_drop]
            have HZB : Hid (((zs.drop 1).drop 16).drop 16 = zB zs) := by
              show _ = _
              unfold zB
              rw [HN.out, if_pos rfl, hyn.out, List.drop_drop, List.drop_drop]
            rw [HS.out] at A1
            rw [HD.out] at A2
            rw [HZB.out] at R3
            have X1 := hid A1
            have X2 := hid A2
            have X3 := hid R3
            have HVAL : Hid (∀ a m cc w2, w2.ownsRow w.heap.size 5 1 (.slice a m cc) m (cells (zB zs)) → Wo w.heap.size zs (.returned (.tuple #[.agg #[.int .i64 6, .int .u64 (ah (zS zs)), .int .u64 (alP (zS zs)), .int .i64 6, .int .u64 (ah (zD zs)), .int .u64 (alP (zD zs)), .slice a m cc], .int .i64 0])) w2) := fun a m cc w2 ho => by
              refine ⟨a, m, cc, ?_, ho⟩
              unfold zZ zE
              rw [HN.out, hyn.out]
              rfl
            have kr1 := fun w hb => readAddr16 ⟨b, off1, none⟩ 16 (zS zs) w hb
            have kr2 := fun w hb => readAddr16 ⟨b, off2, none⟩ 16 (zD zs) w hb
            have kcl := fun w hb => bclone_ ⟨b, off3, none⟩ (n - 1 - 16 - 16) (n - 1 - 16 - 16) (zB zs) w hb (by omega)
            have HBY : Hid (∀ z ∈ zB zs, 0 ≤ z ∧ z ≤ 255) := R3.2.1
            obtain ⟨H, HH⟩ : ∃ H, Hid (ah (zS zs) = H) := ⟨_, rfl⟩
            obtain ⟨L, HL⟩ : ∃ H, Hid (alP (zS zs) = H) := ⟨_, rfl⟩
            obtain ⟨H', HH'⟩ : ∃ H, Hid (ah (zD zs) = H) := ⟨_, rfl⟩
            obtain ⟨L', HL'⟩ : ∃ H, Hid (alP (zD zs) = H) := ⟨_, rfl⟩
            simp only [HH.out, HL.out] at kr1 HVAL
            simp only [HH'.out, HL'.out] at kr2 HVAL
            clear A1 A2 R2 R3 hr S2
            go_wp2_with fail
            refine (k3 _).mono ?_
            rintro e w2 ⟨rfl, nq, rfl⟩
            replace m0 : Ym (w1.drewN nq) w.heap.size 0 0 0 0 0 0 (.slice none 0 0) := m0
            replace B0 := bel_drawn B0 nq
            replace X1 := hid (X1.out.below (bel_drawn (Below.refl _ _) nq))
            replace X2 := hid (X2.out.below (bel_drawn (Below.refl _ _) nq))
            replace X3 := hid (X3.out.below (bel_drawn (Below.refl _ _) nq))
            replace hz0 : (w1.drewN nq).cell? ⟨b, off, none⟩ = some (.int .u8 6) := hz0
            generalize w1.drewN nq = w2 at *
            clear k3
            go_wp2_with fail
            refine (k4 _).mono ?_
            rintro e w3 ⟨rfl, nq, rfl⟩
            replace m0 : Ym (w2.drewN nq) w.heap.size 0 0 0 0 0 0 (.slice none 0 0) := m0
            replace B0 := bel_drawn B0 nq
            replace X1 := hid (X1.out.below (bel_drawn (Below.refl _ _) nq))
            replace X2 := hid (X2.out.below (bel_drawn (Below.refl _ _) nq))
            replace X3 := hid (X3.out.below (bel_drawn (Below.refl _ _) nq))
            replace hz0 : (w2.drewN nq).cell? ⟨b, off, none⟩ = some (.int .u8 6) := hz0
            generalize w2.drewN nq = w3 at *
            clear k4
            go_wp2_with fail
            have hlw := m0.lt
            have hbw := B0.size
            have hb3 : b < w3.heap.size := by omega
            have hbne : ¬ b = w.heap.size := by omega
            have hbne2 : ¬ w.heap.size = b := by omega
            have M0 := hid m0
            have BB := hid B0
            clear m0 B0
            go_region_held (fun wx => wx.cell? ⟨b, off, none⟩ = some (.int .u8 6)) (go_keep) (first | (go_at_call 44; refine (kcl _ X3c.out).mono ?_; rintro e w6 ⟨v6, rfl, o6, g6⟩; obtain ⟨a6, c6, rfl, _, _⟩ := own_form o6 HBY.out; have m6 := ((Ym.kept (by exact M0.out) G4.out).kept G5.out).kept g6; have q0 := m6.c0; have q1 := m6.c1; have q2 := m6.c2; have q3 := m6.c3; have q4 := m6.c4; have q5 := m6.c5; have q6 := m6.c6; have f0 := m6.fz 0; have f1 := m6.fz 1; have f2 := m6.fz 2; have f3 := m6.fz 3; have f4 := m6.fz 4; have f5 := m6.fz 5; have f6 := m6.fz 6; have M6 := hid m6; clear m6; have y0 := (g6.cell (p := ⟨b, off, none⟩) (by have := G4.out.size; have := G5.out.size; exact Nat.lt_of_lt_of_le hb3 (Nat.le_trans G4.out.size G5.out.size))).trans y0) | (go_at_call 43; have HQ := G4; refine (kr2 _ X2b.out).mono ?_; rintro e w5 ⟨rfl, g5⟩; have y0 := (g5.cell (p := ⟨b, off, none⟩) (Nat.lt_of_lt_of_le hb3 G4.out.size)).trans y0; have G5 := hid g5; have X3c := hid (X3b.out.below g5); clear g5) | (go_at_call 43; refine (kr1 _ (by exact X1.out)).mono ?_; rintro e w4 ⟨rfl, g4⟩; have y0 := (g4.cell (p := ⟨b, off, none⟩) hb3).trans hz0; have X2b := hid (Bs.below (by exact X2.out) g4); have X3b := hid (Bs.below (by exact X3.out) g4); have G4 := hid g4; clear g4))
            have B3 : Below w.heap.size w w3.drew := ⟨BB.out.os, BB.out.tape, BB.out.output, BB.out.size, BB.out.block⟩
            have B4 := bel_bel B3 B3.size G4.out
            have B5 := bel_bel B4 B4.size G5.out
            have B6 := bel_bel B5 B5.size g6
            have hw5 : w.heap.size < w5.heap.size := Nat.lt_of_lt_of_le hlw (Nat.le_trans G4.out.size G5.out.size)
            have m7 := M6.out.set7 6 H L 6 H' L' (.slice a6 (n - 1 - 16 - 16) c6)
            have B7 := ((((((B6.setCell (p := ⟨w.heap.size, 0, none⟩) (Nat.le_refl _) (.int .i64 6)).setCell (p := ⟨w.heap.size, 1, none⟩) (Nat.le_refl _) (.int .u64 H)).setCell (p := ⟨w.heap.size, 2, none⟩) (Nat.le_refl _) (.int .u64 L)).setCell (p := ⟨w.heap.size, 3, none⟩) (Nat.le_refl _) (.int .i64 6)).setCell (p := ⟨w.heap.size, 4, none⟩) (Nat.le_refl _) (.int .u64 H')).setCell (p := ⟨w.heap.size, 5, none⟩) (Nat.le_refl _) (.int .u64 L')).setCell (p := ⟨w.heap.size, 6, none⟩) (Nat.le_refl _) (.slice a6 (n - 1 - 16 - 16) c6)
            have hne : ∀ k, (Value.slice a6 (n - 1 - 16 - 16) c6).ownBlock = some k → k ≠ w.heap.size := fun k hk => by
              have := (o6.lt k hk).1
              omega
            have o7 := own_le7 (own_set (own_set (own_set (own_set (own_set (own_set (own_set o6 hne 0 (.int .i64 6)) hne 1 (.int .u64 H)) hne 2 (.int .u64 L)) hne 3 (.int .i64 6)) hne 4 (.int .u64 H')) hne 5 (.int .u64 L')) hne 6 (.slice a6 (n - 1 - 16 - 16) c6)) (Nat.le_of_lt hw5)
            have HO := hid (HVAL.out a6 (n - 1 - 16 - 16) c6 _ o7)
            have M7 := hid m7
            have H7 := hid B7
            clear q0 q1 q2 q3 q4 q5 q6 f0 f1 f2 f3 f4 f5 f6 M6 y0 o6 g6 B3 B4 B5 B6 m7 B7 o7
            go_wp2_with fail
            refine bodyPost_ret (v := .tuple #[.agg #[.int .i64 6, .int .u64 H, .int .u64 L, .int .i64 6, .int .u64 H', .int .u64 L', .slice a6 (n - 1 - 16 - 16) c6], .int .i64 0]) ?_ rfl ⟨HO.out, H7.out⟩
            exact results_y2 rfl _ _ w.heap.size 6 H L 6 H' L' _ _ rfl rfl M7.out
        · rw [if_neg h4, if_neg h6] at hyn ⊢
          clear h4 h6
          go_wp2_with (with_reducible show wpList _ _ _ (_ :: _) _ _; refine wpList_sy rfl rfl _ _ rfl w.heap.size 0 0 0 0 0 0 none 0 0 rfl rfl 0 0 0 0 0 0 (.slice none 0 0) (by with_reducible exact m0) ?_)
          refine bodyPost_ret (v := .tuple #[.agg #[.int .i64 0, .int .u64 0, .int .u64 0, .int .i64 0, .int .u64 0, .int .u64 0, .slice none 0 0], .int .i64 90]) ?_ rfl ⟨HBAD.out _ (.inl hyn.out), bel_row B0 (Nat.le_refl _) _⟩
          exact results_y2 rfl _ _ w.heap.size 0 0 0 0 0 0 _ _ rfl rfl (m0.row 0 0 0 0 0 0 _)
end Go.Proofs.Ytnjfckijpbgagaa
