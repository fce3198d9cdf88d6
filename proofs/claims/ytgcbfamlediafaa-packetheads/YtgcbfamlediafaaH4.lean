import Derived.Test.YtgcbfamlediafaaH2
import Derived.Test.YtgcbfamlediafaaQ2
namespace Go.Proofs.Ytgcbfamlediafaa
set_option maxRecDepth 100000
open Go.RowKit
set_option linter.unusedVariables false

/-- A packet taken apart, in a variable. -/
def Tm (w : World) (g : Nat) (T K G C : Int) (s u : Value) : Prop := w.heap[g]? = some (.cells #[.int .i64 T, .int .i64 K, .int .i64 G, .int .u64 C, s, u] 73 (0, 0))
section
variable {w w' : World} {g : Nat} {T K G C : Int} {s u : Value}
theorem Tm.lt (h : Tm w g T K G C s u) : g < w.heap.size := (Array.getElem?_eq_some_iff.1 h).1
theorem Tm.c0 (h : Tm w g T K G C s u) : w.cell? ⟨g, 0, none⟩ = some (.int .i64 T) := (cell_of_row w g 0 _ _ (0, 0) h).trans rfl
theorem Tm.c1 (h : Tm w g T K G C s u) : w.cell? ⟨g, 1, none⟩ = some (.int .i64 K) := (cell_of_row w g 1 _ _ (0, 0) h).trans rfl
theorem Tm.c2 (h : Tm w g T K G C s u) : w.cell? ⟨g, 2, none⟩ = some (.int .i64 G) := (cell_of_row w g 2 _ _ (0, 0) h).trans rfl
theorem Tm.c3 (h : Tm w g T K G C s u) : w.cell? ⟨g, 3, none⟩ = some (.int .u64 C) := (cell_of_row w g 3 _ _ (0, 0) h).trans rfl
theorem Tm.c4 (h : Tm w g T K G C s u) : w.cell? ⟨g, 4, none⟩ = some s := (cell_of_row w g 4 _ _ (0, 0) h).trans rfl
theorem Tm.c5 (h : Tm w g T K G C s u) : w.cell? ⟨g, 5, none⟩ = some u := (cell_of_row w g 5 _ _ (0, 0) h).trans rfl
theorem Tm.at (h : Tm w g T K G C s u) (e : w'.heap[g]? = w.heap[g]?) : Tm w' g T K G C s u := by unfold Tm at *; rw [e]; exact h
theorem Tm.kept (h : Tm w g T K G C s u) (hb : Below w.heap.size w w') : Tm w' g T K G C s u := h.at (hb.block g h.lt)
theorem Tm.new (w : World) (T K G C : Int) (s u : Value) : Tm (w.alloc (.cells #[.int .i64 T, .int .i64 K, .int .i64 G, .int .u64 C, s, u] 73)) w.heap.size T K G C s u := heap_alloc_new w _
theorem Tm.alloc (h : Tm w g T K G C s u) (o : Obj) : Tm (w.alloc o) g T K G C s u := h.at (Below.heap_alloc _ _ _ h.lt)
theorem Tm.row (h : Tm w g T K G C s u) (T' K' G' C' : Int) (s' u' : Value) : Tm (w.setRow g #[.int .i64 T', .int .i64 K', .int .i64 G', .int .u64 C', s', u']) g T' K' G' C' s' u' := setRow_heap w g _ _ _ _ h
end
theorem tnew (w : World) (T K G C : Int) (s u : Value) : Below w.heap.size w (w.alloc (.cells #[.int .i64 T, .int .i64 K, .int .i64 G, .int .u64 C, s, u] 73)) := (Below.refl _ _).alloc (Nat.le_refl _) _
theorem sizet : (Try.prog.info? 73).map (·.size) = some 6 := by kernel_rfl
theorem wpList_stt {ops : Array Oper} {rest : List Oper} {o : Oper} {a : Act} {w : World} {Q : Exit → Act → World → Prop} (hgd : o.guard = none) (hdst : o.dst = none) (x y : Operand) (ho : o.op = .store 73 x y)
    (g : Nat) (T K G C : Int) (s1 s2 u1 u2 : Nat) (sa ua : Option Addr) (hx : a.eval x = .pointer (some ⟨g, 0, none⟩)) (hy : a.eval y = .agg #[.int .i64 T, .int .i64 K, .int .i64 G, .int .u64 C, .slice sa s1 s2, .slice ua u1 u2]) (T0 K0 G0 C0 : Int) (s0 u0 : Value) (hg : Tm w g T0 K0 G0 C0 s0 u0)
    (h : wpList Try.prog ops Q rest a (w.setRow g #[.int .i64 T, .int .i64 K, .int .i64 G, .int .u64 C, .slice sa s1 s2, .slice ua u1 u2])) : wpList Try.prog ops Q (o :: rest) a w := by
  refine wpList_store_row hgd _ x y ho g #[.int .i64 T, .int .i64 K, .int .i64 G, .int .u64 C, .slice sa s1 s2, .slice ua u1 u2] hx hy _ _ hg sizet rfl (by simp [Value.oneCell']) ?_
  rw [hdst]
  exact h
theorem results_t2 {fn : Func} {p q : Tmp} (h : fn.results = #[.cell p 73, .tmp q]) (tmps : Array Value) (w : World) (g : Nat) (T K G C : Int) (s u x : Value)
    (hp : tmps.getD p undef = .pointer (some ⟨g, 0, none⟩)) (hq : tmps.getD q undef = x) (hg : Tm w g T K G C s u) :
    (results fn tmps).run Try.prog w = .ok (.tuple #[.agg #[.int .i64 T, .int .i64 K, .int .i64 G, .int .u64 C, s, u], x]) w := by
  have hl := run_loadVar_row (P := Try.prog) w g 73 73 #[.int .i64 T, .int .i64 K, .int .i64 G, .int .u64 C, s, u] (0, 0) _ hg Try.underlying73 rfl sizet
  have hp' : tmps[p]?.getD undef = .pointer (some ⟨g, 0, none⟩) := by simpa using hp
  have hq' : tmps[q]?.getD undef = x := by simpa using hq
  simp [results, h, hp', hq', asAddr, hl]
/-- What part answers. -/
def Po (zs : List Int) (e : Ending) (w' : World) : Prop := ∃ a1 c1 a2 n2, e = .returned (.tuple #[.agg #[.int .i64 (gZ zs (gT zs)), .int .i64 (gZ zs (gK zs)), .int .i64 (gZ zs (gG zs)), .int .u64 (gZ zs (gC zs)), .slice a1 c1 c1, .slice a2 n2 n2], .int .i64 (gE zs)]) ∧ (gOk zs = true → c1 = 20 ∧ n2 = zs.length - 20 ∧ Bs w' a1 20 (zs.take 20) ∧ Bs w' a2 n2 (zs.drop 20))
theorem Po.bad {zs : List Int} (h : gOk zs = false) (w' : World) : Po zs (.returned (.tuple #[.agg #[.int .i64 0, .int .i64 0, .int .i64 0, .int .u64 0, .slice none 0 0, .slice none 0 0], .int .i64 90])) w' := by
  refine ⟨none, 0, none, 0, ?_, fun h' => by rw [h] at h'; cases h'⟩
  unfold gZ gE
  rw [h]
  rfl
theorem cut_bs {w : World} {b off n m : Nat} {zs : List Int} (h : Bs w (some ⟨b, off, none⟩) n zs) (hm : m ≤ n) : Bs w (some ⟨b, off, none⟩) m (zs.take m) ∧ Bs w (some ⟨b, if n = m then off else off + m, none⟩) (n - m) (zs.drop m) := by
  refine ⟨h.cut hm, ?_⟩
  have hl := h.1
  refine ⟨by rw [List.length_drop]; omega, fun z hz => h.2.1 z (List.mem_of_mem_drop hz), ?_⟩
  rcases h.2.2 with h0 | ⟨b', off', e, hc⟩
  · exact .inl (by omega)
  · simp only [Option.some.injEq, Addr.mk.injEq] at e
    obtain ⟨rfl, rfl, _⟩ := e
    by_cases hnm : n = m
    · exact .inl (by omega)
    · rw [if_neg hnm]
      refine .inr ⟨b, off + m, rfl, fun i hi => ?_⟩
      rw [Nat.add_assoc, hc (m + i) (by omega)]
      simp only [List.getD, List.getElem?_drop]
set_option maxHeartbeats 2000000 in
theorem part_ (a : Option Addr) (n c : Nat) (zs : List Int) (w : World) (hb : Bs w a n zs) (hnc : n ≤ c) (hc : c ≤ maxLen) :
    Calls Try.prog 36 #[.slice a n c] w fun e w' => Po zs e w' ∧ Below w.heap.size w w' := by
  have m0 := Tm.new w 0 0 0 0 (.slice none 0 0) (.slice none 0 0)
  have B0 := tnew w 0 0 0 0 (.slice none 0 0) (.slice none 0 0)
  have hl := hb.1
  have HBY := hid hb.2.1
  have hcm := hc
  unfold maxLen at hcm
  by_cases hn : n < 20
  · have HE : Hid (gOk zs = false) := by
      show _ = _
      unfold gOk
      rw [decide_eq_false (by omega), Bool.false_and]
    have hI : (n : Int) < 20 := by omega
    clear hb
    go_enter Try.func36, Try.ntmps36
    go_wp2_with (with_reducible show wpList _ _ _ (_ :: _) _ _; refine wpList_stt rfl rfl _ _ rfl w.heap.size 0 0 0 0 0 0 0 0 none none rfl rfl 0 0 0 0 _ _ (by with_reducible exact m0) ?_)
    refine bodyPost_ret (v := .tuple #[.agg #[.int .i64 0, .int .i64 0, .int .i64 0, .int .u64 0, .slice none 0 0, .slice none 0 0], .int .i64 90]) ?_ rfl ⟨Po.bad HE.out _, bel_row B0 (Nat.le_refl _) _⟩
    exact results_t2 rfl _ _ w.heap.size 0 0 0 0 _ _ _ rfl rfl (m0.row 0 0 0 0 _ _)
  · have hI : ¬ (n : Int) < 20 := by omega
    obtain ⟨b, off, rfl, hcq⟩ : ∃ b off, a = some ⟨b, off, none⟩ ∧ True := by
      rcases hb.2.2 with h | ⟨b, off, h, _⟩
      · omega
      · exact ⟨b, off, h, trivial⟩
    have HG := hid (gOk_eq HBY.out (by omega))
    have k1 := fun w => cut_ b off n c 20 w (by omega) hnc hc
    obtain ⟨s1, s2⟩ := cut_bs (m := 20) hb (by omega)
    obtain ⟨off2, Hoff⟩ : ∃ x, Hid ((if n = 20 then off else off + 20) = x) := ⟨_, rfl⟩
    rw [Hoff.out] at k1 s2
    have hlt : (zs.take 20).length = 20 := by rw [List.length_take]; omega
    have k2 := fun w hb => readHead_ (some ⟨b, off, none⟩) 20 (zs.take 20) w hb (by omega)
    have HZ : Hid (zr (zs.take 20) = zr zs ∧ gT (zs.take 20) = gT zs ∧ gK (zs.take 20) = gK zs ∧ gG (zs.take 20) = gG zs ∧ gC (zs.take 20) = gC zs) := by
      match zs, hl with
      | [], hl => simp at hl; omega
      | [_], hl => simp at hl; omega
      | [_, _], hl => simp at hl; omega
      | [_, _, _], hl => simp at hl; omega
      | x :: y :: z :: u :: t, hl =>
        refine ⟨rfl, rfl, ?_, ?_, ?_⟩
        · show val ((t.take 16).take 4) = val (t.take 4)
          rw [List.take_take]
          rfl
        · show val (((t.take 16).drop 4).take 4) = val ((t.drop 4).take 4)
          rw [List.drop_take, List.take_take]
          rfl
        · show val (((t.take 16).drop 8).take 8) = val ((t.drop 8).take 8)
          rw [List.drop_take, List.take_take]
          rfl
    replace s1 := s1.below B0
    have s2' := s2.below B0
    have S2 := hid s2
    have S1 := hid ((hb.cut (show 20 ≤ n by omega)))
    have k3 := fun T K G C w => validHead_ T K G C w
    have k4 := fun T (z : Int) w => fitsC_ T z w
    clear hb s2 s2'
    go_enter Try.func36, Try.ntmps36
    go_wp2_with fail
    refine (k1 _).mono ?_
    rintro e w1 ⟨rfl, nq, rfl⟩
    replace m0 : Tm ((w.alloc (.cells #[.int .i64 0, .int .i64 0, .int .i64 0, .int .u64 0, .slice none 0 0, .slice none 0 0] 73)).drewN nq) w.heap.size 0 0 0 0 (.slice none 0 0) (.slice none 0 0) := m0
    replace B0 := bel_drawn B0 nq
    replace s1 := s1.below (bel_drawn (Below.refl _ _) nq)
    generalize (w.alloc (.cells #[.int .i64 0, .int .i64 0, .int .i64 0, .int .u64 0, .slice none 0 0, .slice none 0 0] 73)).drewN nq = w1 at *
    clear k1
    go_wp2_with fail
    refine (k2 _ s1).mono ?_
    rintro e w2 ⟨T, K, G, C, E, rfl, hR, g2⟩
    have HR := hid hR
    clear hR k2 s1
    replace m0 := m0.kept g2
    replace B0 := bel_bel B0 B0.size g2
    clear g2
    have hw2 := m0.lt
    rcases HR.out with ⟨hz, rfl, hT⟩ | ⟨hz, rfl, hT⟩
    · have HT := hid hT
      have HZ1 : Hid (zr zs = true) := HZ.out.1.symm.trans hz
      clear hT HR hz
      replace m0 := (m0.alloc (.cells #[.int .i64 T, .int .i64 K, .int .i64 G, .int .u64 C] 24)).alloc (.cells #[.int .i64 T, .int .i64 K, .int .i64 G, .int .u64 C, .slice (some ⟨b, off, none⟩) 20 20, .slice (some ⟨b, off2, none⟩) (n - 20) (n - 20)] 73)
      replace B0 := (B0.alloc B0.size (.cells #[.int .i64 T, .int .i64 K, .int .i64 G, .int .u64 C] 24)).alloc (by have := B0.size; simp; omega) (.cells #[.int .i64 T, .int .i64 K, .int .i64 G, .int .u64 C, .slice (some ⟨b, off, none⟩) 20 20, .slice (some ⟨b, off2, none⟩) (n - 20) (n - 20)] 73)
      have m1 := Tm.new (w2.alloc (.cells #[.int .i64 T, .int .i64 K, .int .i64 G, .int .u64 C] 24)) T K G C (.slice (some ⟨b, off, none⟩) 20 20) (.slice (some ⟨b, off2, none⟩) (n - 20) (n - 20))
      rw [World.size_alloc] at m1
      have M0 := hid m0
      have M1 := hid m1
      have BB := hid B0
      clear m0 m1 B0
      go_wp2_with fail
      have m0 := M0.out
      have m1 := M1.out
      have B0 := BB.out
      clear M0 M1 BB
      refine (k3 T K G C _).mono ?_
      rintro e w3 ⟨rfl, g2⟩
      replace m0 := m0.kept g2
      replace m1 := m1.kept g2
      replace B0 := bel_bel B0 B0.size g2
      clear g2 k3
      have d0 := m1.c0
      have d5 := m1.c5
      have HOK : Hid (gOk zs = (hOk T K G C && fit T ((zs.length : Int) - 36))) := by
        show _ = _
        rw [HG.out, HZ1.out, Bool.true_and, HT.out.1, HT.out.2.1, HT.out.2.2.1, HT.out.2.2.2, HZ.out.2.1, HZ.out.2.2.1, HZ.out.2.2.2.1, HZ.out.2.2.2.2]
      cases hh : hOk T K G C with
      | false =>
        have HE : Hid (gOk zs = false) := by
          show _ = _
          rw [HOK.out, hh, Bool.false_and]
        clear hh HOK d0 d5 k4
        go_wp2_with (with_reducible show wpList _ _ _ (_ :: _) _ _; refine wpList_stt rfl rfl _ _ rfl w.heap.size 0 0 0 0 0 0 0 0 none none rfl rfl 0 0 0 0 _ _ (by with_reducible exact m0) ?_)
        refine bodyPost_ret (v := .tuple #[.agg #[.int .i64 0, .int .i64 0, .int .i64 0, .int .u64 0, .slice none 0 0, .slice none 0 0], .int .i64 90]) ?_ rfl ⟨Po.bad HE.out _, bel_row B0 (Nat.le_refl _) _⟩
        exact results_t2 rfl _ _ w.heap.size 0 0 0 0 _ _ _ rfl rfl (m0.row 0 0 0 0 _ _)
      | true =>
        have HH := hid hh
        clear hh
        have hcast : ((n - 20 : Nat) : Int) - 16 = (zs.length : Int) - 36 := by omega
        have HC := hid hcast
        clear hcast
        go_wp2_with fail
        rw [HC.out]
        refine (k4 T ((zs.length : Int) - 36) _).mono ?_
        rintro e w4 ⟨rfl, hw⟩
        obtain rfl := hw.symm
        clear hw k4 d0 d5
        cases hf : fit T ((zs.length : Int) - 36) with
        | false =>
          have HE : Hid (gOk zs = false) := by
            show _ = _
            rw [HOK.out, hf, Bool.and_false]
          clear hf HOK
          go_wp2_with (with_reducible show wpList _ _ _ (_ :: _) _ _; refine wpList_stt rfl rfl _ _ rfl w.heap.size 0 0 0 0 0 0 0 0 none none rfl rfl 0 0 0 0 _ _ (by with_reducible exact m0) ?_)
          refine bodyPost_ret (v := .tuple #[.agg #[.int .i64 0, .int .i64 0, .int .i64 0, .int .u64 0, .slice none 0 0, .slice none 0 0], .int .i64 90]) ?_ rfl ⟨Po.bad HE.out _, bel_row B0 (Nat.le_refl _) _⟩
          exact results_t2 rfl _ _ w.heap.size 0 0 0 0 _ _ _ rfl rfl (m0.row 0 0 0 0 _ _)
        | true =>
          have HE : Hid (gOk zs = true) := by
            show _ = _
            rw [HOK.out, hf, HH.out, Bool.and_true]
          clear hf HOK
          have c0 := m1.c0
          have c1 := m1.c1
          have c2 := m1.c2
          have c3 := m1.c3
          have c4 := m1.c4
          have c5 := m1.c5
          go_wp2_with (with_reducible show wpList _ _ _ (_ :: _) _ _; refine wpList_stt rfl rfl _ _ rfl w.heap.size T K G C 20 20 (n - 20) (n - 20) (some ⟨b, off, none⟩) (some ⟨b, off2, none⟩) rfl rfl 0 0 0 0 _ _ (by with_reducible exact m0) ?_)
          refine bodyPost_ret (v := .tuple #[.agg #[.int .i64 T, .int .i64 K, .int .i64 G, .int .u64 C, .slice (some ⟨b, off, none⟩) 20 20, .slice (some ⟨b, off2, none⟩) (n - 20) (n - 20)], .int .i64 0]) ?_ rfl ⟨⟨some ⟨b, off, none⟩, 20, some ⟨b, off2, none⟩, n - 20, ?_, fun _ => ⟨rfl, by rw [hl], ?_, ?_⟩⟩, bel_row B0 (Nat.le_refl _) _⟩
          · exact results_t2 rfl _ _ w.heap.size T K G C _ _ _ rfl rfl (m0.row T K G C _ _)
          · unfold gZ gE
            rw [HE.out, if_pos rfl, if_pos rfl, if_pos rfl, if_pos rfl, if_pos rfl, HT.out.1, HT.out.2.1, HT.out.2.2.1, HT.out.2.2.2, HZ.out.2.1, HZ.out.2.2.1, HZ.out.2.2.2.1, HZ.out.2.2.2.2]
          · exact S1.out.below (bel_row B0 (Nat.le_refl _) _)
          · exact S2.out.below (bel_row B0 (Nat.le_refl _) _)
    · have HZ1 : Hid (zr zs = false) := HZ.out.1.symm.trans hz
      have HE : Hid (gOk zs = false) := by
        show _ = _
        rw [HG.out, HZ1.out, Bool.false_and]
      clear hT HR hz
      replace m0 := (m0.alloc (.cells #[.int .i64 T, .int .i64 K, .int .i64 G, .int .u64 C] 24)).alloc (.cells #[.int .i64 T, .int .i64 K, .int .i64 G, .int .u64 C, .slice (some ⟨b, off, none⟩) 20 20, .slice (some ⟨b, off2, none⟩) (n - 20) (n - 20)] 73)
      replace B0 := (B0.alloc B0.size (.cells #[.int .i64 T, .int .i64 K, .int .i64 G, .int .u64 C] 24)).alloc (by have := B0.size; simp; omega) (.cells #[.int .i64 T, .int .i64 K, .int .i64 G, .int .u64 C, .slice (some ⟨b, off, none⟩) 20 20, .slice (some ⟨b, off2, none⟩) (n - 20) (n - 20)] 73)
      have M0 := hid m0
      have BB := hid B0
      clear m0 B0
      go_wp2_with (with_reducible show wpList _ _ _ (_ :: _) _ _; refine wpList_stt rfl rfl _ _ rfl w.heap.size 0 0 0 0 0 0 0 0 none none rfl rfl 0 0 0 0 _ _ (by with_reducible exact M0.out) ?_)
      refine bodyPost_ret (v := .tuple #[.agg #[.int .i64 0, .int .i64 0, .int .i64 0, .int .u64 0, .slice none 0 0, .slice none 0 0], .int .i64 90]) ?_ rfl ⟨Po.bad HE.out _, bel_row BB.out (Nat.le_refl _) _⟩
      exact results_t2 rfl _ _ w.heap.size 0 0 0 0 _ _ _ rfl rfl (M0.out.row 0 0 0 0 _ _)
set_option maxHeartbeats 2000000 in
theorem getHead_ (a : Option Addr) (n c : Nat) (zs : List Int) (w : World) (hb : Bs w a n zs) (hnc : n ≤ c) (hc : c ≤ maxLen) :
    Calls Try.prog 17 #[.slice a n c] w fun e w' => e = .returned (.tuple #[.agg #[.int .i64 (gZ zs (gT zs)), .int .i64 (gZ zs (gK zs)), .int .i64 (gZ zs (gG zs)), .int .u64 (gZ zs (gC zs))], .int .i64 (gE zs)]) ∧ Below w.heap.size w w' := by
  have m0 := Hm.new w 0 0 0 0
  have B0 := hnew w 0 0 0 0
  have k := part_ a n c zs _ (hb.below B0) hnc hc
  obtain ⟨T, HT⟩ : ∃ x, Hid (gZ zs (gT zs) = x) := ⟨_, rfl⟩
  obtain ⟨K, HK⟩ : ∃ x, Hid (gZ zs (gK zs) = x) := ⟨_, rfl⟩
  obtain ⟨G, HG⟩ : ∃ x, Hid (gZ zs (gG zs) = x) := ⟨_, rfl⟩
  obtain ⟨C, HC⟩ : ∃ x, Hid (gZ zs (gC zs) = x) := ⟨_, rfl⟩
  obtain ⟨E, HE⟩ : ∃ x, Hid (gE zs = x) := ⟨_, rfl⟩
  unfold Po at k
  rw [HT.out, HK.out, HG.out, HC.out, HE.out] at k
  go_enter Try.func17, Try.ntmps17
  go_wp2_with fail
  refine k.mono ?_
  rintro e w1 ⟨⟨a1, n1, a2, n2, rfl, _⟩, g2⟩
  replace m0 := m0.kept g2
  replace B0 := bel_bel B0 B0.size g2
  have m2 := hid (m0.alloc (.cells #[.int .i64 T, .int .i64 K, .int .i64 G, .int .u64 C, .slice a1 n1 n1, .slice a2 n2 n2] 73))
  have B2 := hid (B0.alloc B0.size (.cells #[.int .i64 T, .int .i64 K, .int .i64 G, .int .u64 C, .slice a1 n1 n1, .slice a2 n2 n2] 73))
  clear g2 k hb m0 B0
  go_wp2_with (with_reducible show wpList _ _ _ (_ :: _) _ _; refine wpList_sh rfl rfl _ _ rfl w.heap.size T K G C rfl rfl 0 0 0 0 (by with_reducible exact m2.out) ?_)
  refine bodyPost_ret (v := .tuple #[.agg #[.int .i64 T, .int .i64 K, .int .i64 G, .int .u64 C], .int .i64 E]) ?_ rfl ⟨by rw [HT.out, HK.out, HG.out, HC.out, HE.out], bel_row B2.out (Nat.le_refl _) _⟩
  exact results_h2 rfl _ _ w.heap.size T K G C _ rfl rfl (m2.out.row T K G C)
end Go.Proofs.Ytgcbfamlediafaa
