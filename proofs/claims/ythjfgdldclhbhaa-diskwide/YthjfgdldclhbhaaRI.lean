import Derived.Test.YthjfgdldclhbhaaRG
namespace Go.Proofs.Ythjfgdldclhbhaa
set_option maxRecDepth 100000
open Go.RowKit Go.Shelf
set_option linter.unusedVariables false

theorem fcs_snoc : ∀ (l : List (Int × Int)) (f : Int × Int), fcs (l ++ [f]) = fcs l ++ [.int .i64 f.1, .int .i64 f.2]
  | [], f => rfl
  | p :: l, f => by
    show Value.int .i64 p.1 :: .int .i64 p.2 :: fcs (l ++ [f]) = _
    rw [fcs_snoc l f]
    rfl
theorem fcs_take {fs : List (Int × Int)} {j : Nat} (h : j < fs.length) : fcs (fs.take (j + 1)) = fcs (fs.take j) ++ [.int .i64 (fs.getD j (0, 0)).1, .int .i64 (fs.getD j (0, 0)).2] := by
  rw [List.take_add_one, List.getElem?_eq_getElem h]
  show fcs (fs.take j ++ [fs[j]]) = _
  rw [fcs_snoc]
  simp [List.getD, h]
theorem wpList_appF {ops : Array Oper} {rest : List Oper} {o : Oper} {a : Act} {w : World} {Q : Exit → Act → World → Prop} (hgd : o.guard = none) (s x : Operand)
    (ho : o.op = .call { callee := .builtin .append, args := #[s, x], argTypes := #[31, 31] }) (B : Nat) (v : Value) (n : Nat) (xs : List Value) (A K : Int) (gb : Nat)
    (hs : a.eval s = v) (hown : w.ownsRow B 71 2 v n xs) (hx : a.eval x = .slice (some ⟨gb, 0, none⟩) 1 1) (hc0 : w.cell? ⟨gb, 0, none⟩ = some (.int .i64 A)) (hc1 : w.cell? ⟨gb, 1, none⟩ = some (.int .i64 K)) (hn : (n + 1) * 16 ≤ 140737488355328) (hB : B ≤ w.heap.size)
    (h : ∀ v' w', Hid (w'.ownsRow B 71 2 v' (n + 1) (xs ++ [.int .i64 A, .int .i64 K])) → Hid (w.grownBy w' v.ownBlock) → wpList Try.prog ops Q rest (a.put o.dst v') w') : wpList Try.prog ops Q (o :: rest) a w := by
  obtain ⟨i, hi, hz0, hz1, hz2⟩ := info_parts info71
  refine wpList_append_own _ hgd s x 31 ho B 71 i _ 2 16 Try.underlying31 hi hz0 hz1 hz2 rfl (by decide) v n xs hs hown ⟨gb, 0, none⟩ 1 1 [.int .i64 A, .int .i64 K] hx rfl ?_ ?_ (by unfold maxLen; omega) hn hB ?_
  · intro j u hj
    match j, hj with
    | 0, hj => simp at hj; subst hj; exact hc0
    | 1, hj => simp at hj; subst hj; exact hc1
  · intro u hu
    simp at hu
    rcases hu with rfl | rfl <;> rfl
  · intro v' w' h1 h2 _
    exact h v' w' h1 h2
theorem bel_own {w0 w w' : World} {t : TypeId} {n sz : Nat} {v : Value} {xs : List Value} (B : Below w0.heap.size w0 w) (o : w.ownsRow w0.heap.size t sz v n xs) (G : w.grownBy w' v.ownBlock) : Below w0.heap.size w0 w' :=
  ⟨G.os.trans B.os, G.tape.trans B.tape, G.output.trans B.output, Nat.le_trans B.size G.size, fun b hb => (G.block b (Nat.lt_of_lt_of_le hb B.size) (fun q => by
    have := (o.lt b q.symm).1
    omega)).trans (B.block b hb)⟩
set_option maxHeartbeats 1000000 in
/-- The same faults in new memory. -/
theorem rfaults_ (a : Option Addr) (m c : Nat) (fs : List (Int × Int)) (w : World) (h : Fs w a m fs) (hm : m * 16 ≤ 140737488355328) :
    Calls Try.prog 69 #[.slice a m c] w fun en w' => ∃ v, en = .returned v ∧ w'.ownsRow w.heap.size 71 2 v m (fcs fs) ∧ Below w.heap.size w w' := by
  have hl := h.1
  have HF := hid h
  have hm2 : m ≤ 140737488355328 := by omega
  clear h
  go_enter Try.func69, Try.ntmps69
  go_wp2_with fail
  go_loopw [3, 4] (fun u i wr => ∃ j : Nat, j ≤ m ∧ i = .int .i64 j ∧ wr.ownsRow w.heap.size 71 2 u j (fcs (fs.take j)) ∧ Below w.heap.size w wr) (fun _ i _ => m - (intOf i).toNat)
  case atStart => exact ⟨0, Nat.zero_le _, rfl, World.ownsRow_nil _ _ _ _, Below.refl _ _⟩
  case round =>
    obtain ⟨j, hj, rfl, ho, hb⟩ := hrel
    rename_i u3 _
    by_cases hlt : j < m
    · have hjI : (j : Int) < (m : Int) := by omega
      obtain ⟨b, off, rfl, hcs⟩ := HF.out.cells hlt hb
      obtain ⟨x0, x1⟩ := hcs j hlt
      have HT := hid (fcs_take (show j < fs.length by omega))
      generalize fs.getD j (0, 0) = f at *
      obtain ⟨A, K⟩ := f
      simp only at *
      have BA : Below wr.heap.size wr (wr.alloc (.cells #[.int .i64 A, .int .i64 K] 71)) := (Below.refl _ _).alloc (Nat.le_refl _) _
      have OA := hid (ho.alloc (.cells #[.int .i64 A, .int .i64 K] 71))
      have HB := hid (bel_bel hb hb.size BA)
      have hsz : w.heap.size ≤ (wr.alloc (.cells #[.int .i64 A, .int .i64 K] 71)).heap.size := HB.out.size
      clear ho hb hcs BA
      go_wp2_with (at_builtin; refine wpList_appF rfl _ _ rfl w.heap.size _ j (fcs (fs.take j)) A K wr.heap.size rfl (by exact OA.out) rfl (by exact (cells2_new wr _ _ _).1) (by exact (cells2_new wr _ _ _).2) (by omega) hsz ?_; intro v' w' o' G'; have HB2 := hid (bel_own HB.out OA.out G'.out))
      go_roundw
      case rel => exact ⟨j + 1, by omega, by go_num, by rw [HT.out]; exact o'.out, HB2.out⟩
      case measure => simp [intOf]; omega
    · have hjI : ¬ (j : Int) < (m : Int) := by omega
      have hjm : j = m := by omega
      subst hjm
      rw [List.take_of_length_le (by omega)] at ho
      have HO := hid ho
      have HB := hid hb
      clear ho hb
      go_wp2_with fail
      go_ret
      exact ⟨_, rfl, HO.out, HB.out⟩
end Go.Proofs.Ythjfgdldclhbhaa
namespace Go.Proofs.Ythjfgdldclhbhaa
set_option maxRecDepth 100000
open Go.RowKit Go.Shelf
set_option linter.unusedVariables false

theorem Rk.s4 {w : World} {e : Nat} {s : St} {N : Nat → Prop} {gl : Nat} {cur : Array Value} {pa : Option Addr} {pc : Nat} {I : List It} {fa fa' : Option Addr} {fc fc' : Nat} {fs fs' : List (Int × Int)} (h : Rk w e s N gl cur pa pc I fa fc fs) (o : w.ownsRow 0 71 2 (.slice fa' fs'.length fc') fs'.length (fcs fs')) (fl : fs'.length ≤ 140737488355328) (fk : ∀ f ∈ fs', f.2 = 1 ∨ f.2 = 2) (nf : ∀ q, (Value.slice fa' fs'.length fc').ownBlock = some q → N q) :
    Rk (w.setCell ⟨e, 4, none⟩ (.slice fa' fs'.length fc')) e { s with F := lookF fs' } N gl cur pa pc I fa' fc' fs' :=
  h.re (s' := { s with F := lookF fs' }) (h.set 4 _) (fun b _ hb _ _ => Below.heap_setCell _ _ _ _ hb) rfl rfl (own_at' h.own (fun q hq => by
    obtain ⟨c, hc⟩ := own_ty h.own hq
    exact h.oth 4 _ hc (by decide))) (fun x hx => by
    obtain ⟨h0, h1, ⟨c, h2⟩, h3⟩ := h.it x hx
    have := h.oth 4 (.slice fa' fs'.length fc') h2 (by decide)
    exact ⟨h0, h1.at this, ⟨c, this.trans h2⟩, h3⟩) h.ip (own_at' o (fun q hq => by
    obtain ⟨c, hc⟩ := own_ty o hq
    exact h.oth 4 _ hc (by decide))) fl fk rfl h.np nf
/-- Faults whose first j are well, and apart. -/
structure Ge (fs : List (Int × Int)) (j : Nat) : Prop where
  w : ∀ i, i < j → Wl (fs.getD i (0, 0))
  a : ∀ i, i < j → ∀ k, k < i → (fs.getD k (0, 0)).1 ≠ (fs.getD i (0, 0)).1
theorem Ge.ok {fs : List (Int × Int)} (h : Ge fs fs.length) : okF fs := by
  refine ⟨fun f hf => ?_, List.pairwise_iff_getElem.2 fun i j hi hj hij => ?_⟩
  · obtain ⟨i, hi, rfl⟩ := List.getElem_of_mem hf
    have := h.w i hi
    simpa [List.getD, hi, Wl] using this
  · have := h.a j hj i hij
    simpa [List.getD, hi, hj] using this
theorem arE_no {s : St} {fs : List (Int × Int)} (h : ¬ okF fs) : arE s fs = 105 ∧ arS s fs = s := by
  unfold arE arS
  rw [if_neg h, if_neg (fun q => h q.1)]
  exact ⟨rfl, rfl⟩
set_option maxHeartbeats 8000000 in
theorem rarm_ (e : Nat) (s : St) (N : Nat → Prop) (gl : Nat) (cur : Array Value) (pa : Option Addr) (pc : Nat) (I : List It) (fa : Option Addr) (fc : Nat) (fs0 : List (Int × Int)) (a1 : Option Addr) (m c1 : Nat) (fs : List (Int × Int)) (w : World) (h : Rk w e s N gl cur pa pc I fa fc fs0) (hN : ∀ b, w.heap.size ≤ b → N b) (hf : Fs w a1 m fs) (hm : m * 16 ≤ 140737488355328) :
    Calls Try.prog 71 #[.pointer (some ⟨e, 0, none⟩), .slice a1 m c1] w fun en w' => en = .returned (.int .i64 (arE s fs)) ∧ Rd w' e (arS s fs) N ∧ Fr N w w' := by
  have hl := hf.1
  have HF := hid hf
  have HR := hid h
  have HNN := hid hN
  have hm2 : m ≤ 140737488355328 := by omega
  obtain ⟨E, HE⟩ : ∃ E, Hid (arE s fs = E) := ⟨_, rfl⟩
  obtain ⟨S', HS⟩ : ∃ S', Hid (arS s fs = S') := ⟨_, rfl⟩
  rw [HE.out, HS.out]
  have HNO : Hid (¬ okF fs → E = 105 ∧ S' = s) := fun q => by
    have := arE_no (s := s) q
    rw [HE.out, HS.out] at this
    exact this
  clear h hf hN
  go_enter Try.func71, Try.ntmps71
  go_wp2_with fail
  go_loopw [5] (fun i wr => ∃ j : Nat, j ≤ m ∧ i = .int .i64 j ∧ Drawn w wr ∧ Ge fs j) (fun i _ => m - (intOf i).toNat)
  case atStart => exact ⟨0, Nat.zero_le _, rfl, ⟨rfl, rfl, rfl, rfl⟩, ⟨fun i hi => by omega, fun i hi => by omega⟩⟩
  case round =>
    obtain ⟨j, hj, rfl, hd, hg⟩ := hrel
    have HD := hid hd
    have HG := hid hg
    by_cases hlt : j < m
    · have hjI : (j : Int) < (m : Int) := by omega
      obtain ⟨b, off, rfl, hc⟩ := HF.out.cells hlt hd.below
      obtain ⟨x0, x1⟩ := hc j hlt
      have HWL : Hid (okF fs → Wl (fs.getD j (0, 0))) := fun h => okF_wl h (by omega)
      unfold Wl at HWL
      have HGS : Hid (Wl (fs.getD j (0, 0)) → (∀ k, k < j → (fs.getD k (0, 0)).1 ≠ (fs.getD j (0, 0)).1) → Ge fs (j + 1)) := fun g2 g3 => by
        refine ⟨fun i hi => ?_, fun i hi k hk => ?_⟩
        · by_cases h : i = j
          · rw [h]; exact g2
          · exact HG.out.w i (by omega)
        · by_cases h : i = j
          · rw [h]; exact g3 k (by omega)
          · exact HG.out.a i (by omega) k hk
      unfold Wl at HGS
      obtain ⟨A, HA⟩ : ∃ A, Hid ((fs.getD j (0, 0)).1 = A) := ⟨_, rfl⟩
      obtain ⟨K, HK⟩ : ∃ K, Hid ((fs.getD j (0, 0)).2 = K) := ⟨_, rfl⟩
      rw [HA.out] at x0 HWL
      rw [HK.out] at x1 HWL
      simp only [HA.out, HK.out] at HGS
      have HRD : Hid (Rd wr e s N) := ⟨_, _, _, _, _, _, _, _, HR.out.below hd.below⟩
      have HFR : Hid (Fr N w wr) := Fr.ofB hd.below
      clear hd hc hg
      have cs : (A < 1 ∨ (¬ A < 1 ∧ (K != 1) = true ∧ (K != 2) = true)) ∨ (¬ A < 1 ∧ (K != 1) = false) ∨ (¬ A < 1 ∧ (K != 1) = true ∧ (K != 2) = false) := by
        by_cases q1 : A < 1
        · exact .inl (.inl q1)
        · by_cases q2 : K = 1
          · exact .inr (.inl ⟨q1, by simpa using q2⟩)
          · by_cases q3 : K = 2
            · exact .inr (.inr ⟨q1, by simpa using q2, by simpa using q3⟩)
            · exact .inl (.inr ⟨q1, by simpa using q2, by simpa using q3⟩)
      rcases cs with cs | cs
      · have HEQ := hid (HNO.out (fun ho => by
          have hw := HWL.out ho
          rcases cs with q | ⟨_, q1, q2⟩
          · omega
          · simp at q1 q2
            omega))
        clear HGS HWL
        rcases cs with q1 | ⟨q1, q2, q3⟩
        all_goals
          go_wp2_with fail
          go_ret
          exact ⟨by rw [HEQ.out.1]; rfl, by rw [HEQ.out.2]; exact HRD.out, HFR.out⟩
      · have HW : Hid (1 ≤ A ∧ (K = 1 ∨ K = 2)) := by
          show _ ∧ _
          rcases cs with ⟨q1, q2⟩ | ⟨q1, q2, q3⟩
          · simp at q2
            omega
          · simp at q3
            omega
        clear HWL HRD HFR
        rcases cs with ⟨q1, q2⟩ | ⟨q1, q2, q3⟩
        all_goals
          go_wp2_with fail
          go_loopw [6] (fun k wx => ∃ t : Nat, t ≤ j ∧ k = .int .i64 t ∧ Drawn w wx ∧ ∀ k, k < t → (fs.getD k (0, 0)).1 ≠ A) (fun k _ => j - (intOf k).toNat)
          case atStart => exact ⟨0, Nat.zero_le _, rfl, HD.out, fun k hk => by omega⟩
          case round =>
            clear x0 x1
            obtain ⟨t, ht, rfl, hd, hno⟩ := hrel
            have HD2 := hid hd
            have HNO2 := hid hno
            by_cases hgo : t < j
            · have p1I : (t : Int) < (j : Int) := by omega
              have ptI : (t : Int) < (m : Int) := by omega
              obtain ⟨b', off', eb, hc⟩ := HF.out.cells hlt hd.below
              obtain ⟨rfl, rfl⟩ : b = b' ∧ off = off' := by simpa using eb
              have y0 := (hc t (by omega)).1
              have z0 := (hc j hlt).1
              rw [HA.out] at z0
              have HNE : Hid (okF fs → (fs.getD t (0, 0)).1 ≠ A) := fun ho => by
                have := okF_ne ho (show j < fs.length by omega) hgo
                rwa [HA.out] at this
              obtain ⟨B, HB⟩ : ∃ B, Hid ((fs.getD t (0, 0)).1 = B) := ⟨_, rfl⟩
              rw [HB.out] at y0 HNE
              have HRD : Hid (Rd wr e s N) := ⟨_, _, _, _, _, _, _, _, HR.out.below hd.below⟩
              have HFR : Hid (Fr N w wr) := Fr.ofB hd.below
              clear hd hc eb hno
              by_cases hBA : B = A
              · have te : (B == A) = true := by simpa using hBA
                have HEQ := hid (HNO.out (fun ho => HNE.out ho hBA))
                go_wp2_with fail
                go_quiet (fail)
                go_wp2_with fail
                go_ret
                refine ⟨by rw [HEQ.out.1]; rfl, ?_, ⟨HFR.out.os, HFR.out.tape, HFR.out.output, HFR.out.size, HFR.out.same⟩⟩
                rw [HEQ.out.2]
                obtain ⟨r1, r2, r3, r4, r5, r6, r7, r8, r9⟩ := HRD.out
                exact ⟨r1, r2, r3, r4, r5, r6, r7, r8, r9.keep (fun _ _ _ => rfl) (fun _ h _ => h)⟩
              · have te : (B == A) = false := by simpa using hBA
                go_wp2_with fail
                go_quiet (fail)
                go_wp2_with fail
                go_roundw
                case rel => exact ⟨t + 1, by omega, by go_num, ⟨HD2.out.os, HD2.out.tape, HD2.out.output, HD2.out.heap⟩, fun k hk => by
                  by_cases h : k = t
                  · rw [h, HB.out]; exact hBA
                  · exact HNO2.out k (by omega)⟩
                case measure => simp [intOf]; omega
            · have p1I : ¬ (t : Int) < (j : Int) := by omega
              have HNX := hid (HGS.out HW.out (fun k hk => HNO2.out k (by omega)))
              clear hd hno
              go_wp2_with fail
              go_roundw
              case rel => exact ⟨j + 1, by omega, by go_num, HD2.out, HNX.out⟩
              case measure => simp [intOf]; omega
    · have hjI : ¬ (j : Int) < (m : Int) := by omega
      have hok : okF fs := Ge.ok (by have := HG.out; rw [show j = fs.length by omega] at this; exact this)
      have R1 := HR.out.below hd.below
      have c3 := R1.c3
      have HR1 := hid R1
      cases hon : s.on with
      | false =>
        have HE1 : Hid (E = 104) := by show _ = _; rw [← HE.out]; unfold arE; rw [if_pos hok, if_neg (by rw [hon]; decide)]
        have HE2 : Hid (S' = s) := by show _ = _; rw [← HS.out]; unfold arS; rw [if_neg (fun q => by rw [hon] at q; cases q.2)]
        rw [hon] at c3
        have HFR : Hid (Fr N w wr) := Fr.ofB hd.below
        clear hd hg R1
        go_wp2_with fail
        go_ret
        exact ⟨by rw [HE1.out]; rfl, by rw [HE2.out]; exact ⟨_, _, _, _, _, _, _, _, HR1.out⟩, HFR.out⟩
      | true =>
        have HE1 : Hid (E = 0) := by show _ = _; rw [← HE.out]; unfold arE; rw [if_pos hok, if_pos hon]
        have HE2 : Hid (S' = { s with F := lookF fs, c := 0 }) := by show _ = _; rw [← HS.out]; unfold arS; rw [if_pos ⟨hok, hon⟩]
        rw [hon] at c3
        have kf := rfaults_ a1 m c1 fs wr (HF.out.below hd.below) hm
        have HFR : Hid (Fr N w wr) := Fr.ofB hd.below
        have HFK : Hid (∀ f ∈ fs, f.2 = 1 ∨ f.2 = 2) := fun f hf => (hok.1 f hf).2
        clear hd hg R1
        go_wp2_with fail
        refine kf.mono ?_
        rintro en w5 ⟨v5, rfl, o5, g5⟩
        obtain ⟨fa5, fc5, rfl, _, _, _, _⟩ := Fs.ofOwn o5
        have R5 := HR1.out.below g5
        have F5 := HFR.out.below g5
        have hszz := HFR.out.size
        rw [← hl] at o5
        have R6 := R5.s4 (own_mono o5 (Nat.zero_le _)) (by omega) HFK.out (fun q hq => HNN.out q (by have := (o5.lt q hq).1; omega))
        have R7 := R6.s5 0
        rw [hl] at R6 R7
        have f4 := R5.fz 4
        have f5 := R5.fz 5
        have c4 := R5.c4
        have c5 := R5.c5
        have RF : Hid (Rd ((w5.setCell ⟨e, 4, none⟩ (.slice fa5 m fc5)).setCell ⟨e, 5, none⟩ (.int .i64 0)) e { s with F := lookF fs, c := 0 } N) := ⟨_, _, _, _, _, _, _, _, R7⟩
        have FF := hid (F5.trans (Fr.of (grown_set (grown_set (grown_refl w5 (some e)) 4 (.slice fa5 m fc5)) 5 (.int .i64 0)) R5.ne))
        clear kf o5 g5 R5 F5 R6 R7
        go_wp2_with fail
        go_ret
        exact ⟨by rw [HE1.out]; rfl, by rw [HE2.out]; exact RF.out, FF.out⟩
end Go.Proofs.Ythjfgdldclhbhaa
