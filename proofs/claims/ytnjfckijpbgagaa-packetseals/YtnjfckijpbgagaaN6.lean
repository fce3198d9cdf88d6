import Derived.Test.YtnjfckijpbgagaaN5
namespace Go.Proofs.Ytnjfckijpbgagaa
set_option maxRecDepth 100000
open Go.RowKit
set_option linter.unusedVariables false

theorem sizek9 : (Try.prog.info? 27).map (·.size) = some 5 := by kernel_rfl
theorem Km.row {w : World} {g : Nat} {T K G C : Int} {s : Value} (h : Km w g T K G C s) (T' K' G' C' : Int) (s' : Value) : Km (w.setRow g #[.int .i64 T', .int .i64 K', .int .i64 G', .int .u64 C', s']) g T' K' G' C' s' := setRow_heap w g _ _ _ _ h
theorem wpList_sk {ops : Array Oper} {rest : List Oper} {o : Oper} {a : Act} {w : World} {Q : Exit → Act → World → Prop} (hgd : o.guard = none) (hdst : o.dst = none) (x y : Operand) (ho : o.op = .store 27 x y)
    (g : Nat) (T K G C : Int) (a1 : Option Addr) (n1 c1 : Nat) (hx : a.eval x = .pointer (some ⟨g, 0, none⟩)) (hy : a.eval y = .agg #[.int .i64 T, .int .i64 K, .int .i64 G, .int .u64 C, .slice a1 n1 c1]) (T0 K0 G0 C0 : Int) (s0 : Value) (hg : Km w g T0 K0 G0 C0 s0)
    (h : wpList Try.prog ops Q rest a (w.setRow g #[.int .i64 T, .int .i64 K, .int .i64 G, .int .u64 C, .slice a1 n1 c1])) : wpList Try.prog ops Q (o :: rest) a w := by
  refine wpList_store_row hgd _ x y ho g #[.int .i64 T, .int .i64 K, .int .i64 G, .int .u64 C, .slice a1 n1 c1] hx hy _ _ hg sizek9 rfl (by simp [Value.oneCell']) ?_
  rw [hdst]
  exact h
theorem results_k2 {fn : Func} {p u : Tmp} (h : fn.results = #[.cell p 27, .tmp u]) (tmps : Array Value) (w : World) (g : Nat) (T K G C : Int) (s x : Value)
    (hp : tmps.getD p undef = .pointer (some ⟨g, 0, none⟩)) (hu : tmps.getD u undef = x) (hg : Km w g T K G C s) :
    (results fn tmps).run Try.prog w = .ok (.tuple #[.agg #[.int .i64 T, .int .i64 K, .int .i64 G, .int .u64 C, s], x]) w := by
  have hl := run_loadVar_row (P := Try.prog) w g 27 27 #[.int .i64 T, .int .i64 K, .int .i64 G, .int .u64 C, s] (0, 0) _ hg Try.underlying27 rfl sizek9
  have hp' : tmps[p]?.getD undef = .pointer (some ⟨g, 0, none⟩) := by simpa using hp
  have hu' : tmps[u]?.getD undef = x := by simpa using hu
  simp [results, h, hp', hu', asAddr, hl]
theorem grown_row (w : World) (g : Nat) (ds : Array Value) : w.grownBy (w.setRow g ds) (some g) := ⟨rfl, rfl, rfl, by simp, fun k _ hk => setRow_other w g k ds (fun e => hk (by rw [e]))⟩
/-- Bytes lie apart from a packet in a variable. -/
theorem Bs.apart {w : World} {a : Option Addr} {m g : Nat} {zs : List Int} {T K G C : Int} {b : Option Addr} {n c : Nat} (h : Bs w a m zs) (k : Km w g T K G C (.slice b n c)) : Off a m (some g) := by
  rcases h.2.2 with h0 | ⟨q, off, e, hc⟩
  · exact .inl h0
  · by_cases hm : m = 0
    · exact .inl hm
    · refine .inr (fun x hx hg => ?_)
      rw [e] at hx
      cases hx
      cases hg
      have h0 := hc 0 (by omega)
      rw [Nat.add_zero, cell_of_row w _ off _ _ (0, 0) k] at h0
      match off, h0 with
      | 0, h0 => simp at h0
      | 1, h0 => simp at h0
      | 2, h0 => simp at h0
      | 3, h0 => simp at h0
      | 4, h0 => simp at h0
      | _ + 5, h0 => simp at h0
/-- What Open answers. -/
def Uo (ks : List Int) (S : Int) (zs : List Int) (e : Ending) (w' : World) : Prop := ∃ a m c, e = .returned (.tuple #[.agg #[.int .i64 (uZ ks S zs (gT zs)), .int .i64 (uZ ks S zs (gK zs)), .int .i64 (uZ ks S zs (gG zs)), .int .u64 (uZ ks S zs (gC zs)), .slice a m c], .bool (uOk ks S zs)]) ∧ Bs w' a m (uB ks S zs) ∧ m ≤ 65536
theorem Uo.bad {ks : List Int} {S : Int} {zs : List Int} (h : uOk ks S zs = false) (w' : World) : Uo ks S zs (.returned (.tuple #[.agg #[.int .i64 0, .int .i64 0, .int .i64 0, .int .u64 0, .slice none 0 0], .bool false])) w' := by
  unfold Uo uZ uB
  rw [h]
  exact ⟨none, 0, 0, rfl, Bs.none0 _ _, by omega⟩
set_option maxHeartbeats 2000000 in
theorem refOpen9_ (a0 : Option Addr) (n0 c0 : Nat) (ks : List Int) (S : Int) (a1 : Option Addr) (n1 c1 : Nat) (zs : List Int) (w : World) (hb0 : Bs w a0 n0 ks) (hb1 : Bs w a1 n1 zs) (hn0 : n0 ≤ maxLen) (hc1 : n1 ≤ c1) (hm1 : c1 ≤ maxLen) :
    Calls Try.prog 16 #[.slice a0 n0 c0, .int .i64 S, .slice a1 n1 c1] w fun e w' => Uo ks S zs e w' ∧ Below w.heap.size w w' := by
  have B0 := knew w 0 0 0 0 (.slice none 0 0)
  have m0 := Km.new w 0 0 0 0 (.slice none 0 0)
  have l0 := hb0.1
  have l1 := hb1.1
  have kg := refGetHead_ a1 n1 c1 zs _ (hb1.below B0) hc1 hm1
  unfold maxLen at hn0 hm1
  have HU : Hid (uOk ks S zs = (decide (ks.length = 32 ∧ (S = 0 ∨ S = 1)) && (gOk zs && oB (nt ks) (nt (nRow S (gG zs) (gC zs))) (nt (zs.take 20)) (nt (zs.drop 20))))) := rfl
  have HU : Hid (uOk ks S zs = (decide (ks.length = 32 ∧ (S = 0 ∨ S = 1)) && (gOk zs && oB (nt ks) (nt (nRow S (gG zs) (gC zs))) (nt (zs.take 20)) (nt (zs.drop 20))))) := rfl
  have HU : Hid (uOk ks S zs = (decide (ks.length = 32 ∧ (S = 0 ∨ S = 1)) && (gOk zs && oB (nt ks) (nt (nRow S (gG zs) (gC zs))) (nt (zs.take 20)) (nt (zs.drop 20))))) := rfl
  have HU : Hid (uOk ks S zs = (decide (ks.length = 32 ∧ (S = 0 ∨ S = 1)) && (gOk zs && oB (nt ks) (nt (nRow S (gG zs) (gC zs))) (nt (zs.take 20)) (nt (zs.drop 20))))) := rfl
  have HU : Hid (uOk ks S zs = (decide (ks.length = 32 ∧ (S = 0 ∨ S = 1)) && (gOk zs && oB (nt ks) (nt (nRow S (gG zs) (gC zs))) (nt (zs.take 20)) (nt (zs.drop 20))))) := rfl
  go_enter Try.func16, Try.ntmps16
  go_wp2_with fail
  refine kg.mono ?_
  rintro e w1 ⟨rfl, g2⟩
  have m1 := (m0.kept g2).alloc (.cells #[.int .i64 (gZ zs (gT zs)), .int .i64 (gZ zs (gK zs)), .int .i64 (gZ zs (gG zs)), .int .u64 (gZ zs (gC zs))] 25)
  have B1 := (bel_bel B0 B0.size g2).alloc (Nat.le_trans B0.size g2.size) (.cells #[.int .i64 (gZ zs (gT zs)), .int .i64 (gZ zs (gK zs)), .int .i64 (gZ zs (gG zs)), .int .u64 (gZ zs (gC zs))] 25)
  have h1 := Hm.new w1 (gZ zs (gT zs)) (gZ zs (gK zs)) (gZ zs (gG zs)) (gZ zs (gC zs))
  have hgp : w.heap.size < w1.heap.size := (m0.kept g2).lt
  clear m0 B0 g2 kg
  by_cases h32 : n0 = 32
  · subst h32
    by_cases hS : 0 ≤ S ∧ S ≤ 1
    · obtain ⟨hS0, hS1⟩ := hS
      rw [decide_eq_true ⟨l0, by omega⟩, Bool.true_and] at HU
      cases hg : gOk zs with
      | false =>
        rw [hg, Bool.false_and] at HU
        have e1 : gE zs = 90 := by unfold gE; rw [hg]; rfl
        rw [e1]
        clear e1 hg h1
        go_wp2_with (refine wpList_sk rfl rfl _ _ rfl w.heap.size 0 0 0 0 none 0 0 rfl rfl 0 0 0 0 (.slice none 0 0) (by with_reducible exact m1) ?_)
        refine bodyPost_ret (v := .tuple #[.agg #[.int .i64 0, .int .i64 0, .int .i64 0, .int .u64 0, .slice none 0 0], .bool false]) ?_ rfl ⟨Uo.bad HU.out _, bel_row B1 (Nat.le_refl _) _⟩
        exact results_k2 rfl _ _ w.heap.size 0 0 0 0 (.slice none 0 0) _ rfl rfl (m1.row 0 0 0 0 (.slice none 0 0))
      | true =>
        rw [hg, Bool.true_and] at HU
        have e1 : gE zs = 0 := by unfold gE; rw [hg]; rfl
        have e2 : ∀ x, gZ zs x = x := fun x => by unfold gZ; rw [hg]; rfl
        simp only [e2] at m1 B1 h1 ⊢
        rw [e1]
        have hgo := hg
        unfold gOk at hgo
        simp only [Bool.and_eq_true] at hgo
        obtain ⟨q1, q2, q3, q4⟩ := hgo
        obtain ⟨p1, p2, p3, p4, p5, p6, p7⟩ := hOk_in q2
        have hl36 : 36 ≤ n1 := by have := of_decide_eq_true q1; omega
        have hnle : n1 ≤ 65552 := by
          unfold fit at q4
          split at q4
          · have := of_decide_eq_true q4
            omega
          · have := of_decide_eq_true q4
            omega
        have hC : InU (gC zs) := ⟨(val4 hb1.2.1 12 8 (by omega)).1, by omega⟩
        have e4 : nB S (gG zs) (gC zs) = nRow S (gG zs) (gC zs) := by
          have e3 : nOk S (gG zs) (gC zs) = true := decide_eq_true ⟨by omega, p5, p6, p7⟩
          unfold nB
          rw [e3]
          rfl
        have HUZ : Hid (∀ b, uOk ks S zs = b → b = true → ∀ x, uZ ks S zs x = x) := fun b h h' x => by unfold uZ; rw [h, h']; rfl
        have kn := fun w => refNonce_ S (gG zs) (gC zs) w hC
        rw [e4, nRow_length] at kn
        obtain ⟨b, off, rfl, hcq⟩ : ∃ b off, a1 = some ⟨b, off, none⟩ ∧ ∀ i, i < n1 → w.cell? ⟨b, off + i, none⟩ = some (.int .u8 (zs.getD i 0)) := by
          rcases hb1.2.2 with h0 | h
          · omega
          · exact h
        have HBS : Hid (Bs w (some ⟨b, off, none⟩) 20 (zs.take 20)) := ⟨by rw [List.length_take]; omega, fun z hz => hb1.2.1 z (List.mem_of_mem_take hz), .inr ⟨b, off, rfl, fun i hi => by
          rw [hcq i (by omega)]
          simp only [List.getD, List.getElem?_take, if_pos hi]⟩⟩
        have HBD : Hid (Bs w (some ⟨b, off + 20, none⟩) (n1 - 20) (zs.drop 20)) := ⟨by rw [List.length_drop]; omega, fun z hz => hb1.2.1 z (List.mem_of_mem_drop hz), .inr ⟨b, off + 20, rfl, fun i hi => by
          rw [Nat.add_assoc, hcq (20 + i) (by omega)]
          simp only [List.getD, List.getElem?_drop]⟩⟩
        have HYB := hid hb1.2.1
        have HYK := hid hb0.2.1
        have HK0 := hid hb0
        have c0' := h1.c0
        have c1' := h1.c1
        have c2' := h1.c2
        have c3' := h1.c3
        clear e1 e2 e4 hg q1 q2 q3 q4 p1 p2 p3 p4 p5 p6 p7 hcq hb0 hb1
        go_wp2_with fail
        refine (kn _).mono ?_
        rintro e w3 ⟨vn, rfl, o3, g3⟩
        obtain ⟨an, dn, rfl, yn, _⟩ := own_form o3 (nRow_byte S (gG zs) (gC zs))
        replace m1 := m1.kept g3
        replace h1 := h1.kept g3
        replace B1 := bel_bel B1 B1.size g3
        have ko := refOpenAny_ a0 32 c0 (nt ks) an 12 dn (nt (nRow S (gG zs) (gC zs))) (some ⟨b, off, none⟩) 20 c1 (nt (zs.take 20)) (some ⟨b, off + 20, none⟩) (n1 - 20) (c1 - 20) (nt (zs.drop 20)) w3.drew (by rw [ic_nt HYK.out]; exact HK0.out.below (bel_drew1P B1)) (by rw [ic_nt (nRow_byte _ _ _)]; exact yn.below (bel_drew1P (Below.refl _ _))) (by rw [ic_nt (fun z hz => HYB.out z (List.mem_of_mem_take hz))]; exact HBS.out.below (bel_drew1P B1)) (by rw [ic_nt (fun z hz => HYB.out z (List.mem_of_mem_drop hz))]; exact HBD.out.below (bel_drew1P B1)) (nt_lt HYK.out) (nt_lt (nRow_byte _ _ _)) (nt_lt (fun z hz => HYB.out z (List.mem_of_mem_take hz))) (nt_lt (fun z hz => HYB.out z (List.mem_of_mem_drop hz))) (by unfold maxLen; omega) (by unfold maxLen; omega) (by unfold maxLen; omega) (by unfold maxLen; omega) (by omega)
        have HUB : Hid (oB (nt ks) (nt (nRow S (gG zs) (gC zs))) (nt (zs.take 20)) (nt (zs.drop 20)) = true → uB ks S zs = ic (oP (nt ks) (nt (nRow S (gG zs) (gC zs))) (nt (zs.take 20)) (nt (zs.drop 20)))) := fun h => by
          unfold uB
          rw [HU.out, h]
          rfl
        generalize oB (nt ks) (nt (nRow S (gG zs) (gC zs))) (nt (zs.take 20)) (nt (zs.drop 20)) = q at *
        have hc20 : (20 : Int) ≤ (c1 : Int) := by omega
        have hn20 : (20 : Int) ≤ (n1 : Int) := by omega
        have hne20 : ¬ c1 = 20 := by omega
        have hsub : (n1 : Int) - 20 = ((n1 - 20 : Nat) : Int) := by omega
        clear kn g3 o3 yn c0' c1' c2' c3'
        go_wp2_with fail
        refine wp_region_held_drew (S := fun wx => Below w.heap.size w wx) (by kernel_rfl) (bel_drew1P B1) (fun hHeld => ?_)
        replace m1 : Km w3.drew w.heap.size 0 0 0 0 (.slice none 0 0) := m1
        replace h1 : Hm w3.drew w1.heap.size (gT zs) (gK zs) (gG zs) (gC zs) := h1
        replace B1 := bel_drew1P B1
        generalize w3.drew = w3d at *
        refine take_toP 0 41 (.slice a0 32 c0) rfl rfl (by kernel_rfl) (by kernel_rfl) (by kernel_rfl) (fun _ _ _ h => h) (Or.inl ⟨by kernel_rfl, fun w' h => ?_⟩) hHeld ?_
        · go_simp
        try simp only [List.setIfInBounds_toArray, List.set_cons_zero, List.set_cons_succ]
        refine take_toP 1 42 (.slice an 12 dn) rfl rfl (by kernel_rfl) (by kernel_rfl) (by kernel_rfl) (fun _ _ _ h => h) (Or.inl ⟨by kernel_rfl, fun w' h => ?_⟩) hHeld ?_
        · go_simp
        try simp only [List.setIfInBounds_toArray, List.set_cons_zero, List.set_cons_succ]
        refine take_toP 2 43 (.slice (some ⟨b, off, none⟩) n1 c1) rfl rfl (by kernel_rfl) (by kernel_rfl) (by kernel_rfl) (fun _ _ _ h => h) (Or.inl ⟨by kernel_rfl, fun w' h => ?_⟩) hHeld ?_
        · go_simp
        try simp only [List.setIfInBounds_toArray, List.set_cons_zero, List.set_cons_succ]
        refine take_toP 3 44 (.slice (some ⟨b, off, none⟩) 20 c1) rfl rfl (by kernel_rfl) (by kernel_rfl) (by kernel_rfl) (fun _ _ _ h => h) (Or.inl ⟨by kernel_rfl, fun w' h => ?_⟩) hHeld ?_
        · go_simp
        try simp only [List.setIfInBounds_toArray, List.set_cons_zero, List.set_cons_succ]
        refine take_toP 4 45 (.slice (some ⟨b, off, none⟩) n1 c1) rfl rfl (by kernel_rfl) (by kernel_rfl) (by kernel_rfl) (fun _ _ _ h => h) (Or.inl ⟨by kernel_rfl, fun w' h => ?_⟩) hHeld ?_
        · go_simp
        try simp only [List.setIfInBounds_toArray, List.set_cons_zero, List.set_cons_succ]
        refine take_toP 5 46 (.slice (some ⟨b, off + 20, none⟩) (n1 - 20) (c1 - 20)) rfl rfl (by kernel_rfl) (by kernel_rfl) (by kernel_rfl) (fun _ _ _ h => h) (Or.inl ⟨by kernel_rfl, fun w' h => ?_⟩) hHeld ?_
        · go_simp
        try simp only [List.setIfInBounds_toArray, List.set_cons_zero, List.set_cons_succ]
        refine wpAnyH_ready (rs := [6]) (by kernel_rfl) (by simp) ?_
        refine AllReadyH.cons rfl (fun K' hK' => ?_) AllReadyH.nil
        rw [if_pos (by kernel_rfl)]
        go_wp2_with fail
        refine ko.mono ?_
        rintro e w4 ⟨a4, m4, d4, rfl, y4, z4, g4⟩
        replace m1 := m1.kept g4
        replace h1 := h1.kept g4
        replace B1 := bel_bel B1 B1.size g4
        clear ko g4 hHeld
        try go_wp2_with fail
        refine hK'.out _ _ B1 (fun hHeld => ?_)
        clear hK' K'
        try simp only [Act.put, List.setIfInBounds_toArray, List.set_cons_zero, List.set_cons_succ]
        refine take_toP 7 40 (.tuple #[.slice a4 m4 d4, .bool q]) rfl rfl (by kernel_rfl) (by kernel_rfl) (by kernel_rfl) (fun _ _ _ h => h) (Or.inl ⟨by kernel_rfl, fun w' h => ?_⟩) hHeld ?_
        · go_simp
        try simp only [List.setIfInBounds_toArray, List.set_cons_zero, List.set_cons_succ]
        refine take_toP 8 48 (.slice a4 m4 d4) rfl rfl (by kernel_rfl) (by kernel_rfl) (by kernel_rfl) (fun _ _ _ h => h) (Or.inl ⟨by kernel_rfl, fun w' h => ?_⟩) hHeld ?_
        · go_simp
        try simp only [List.setIfInBounds_toArray, List.set_cons_zero, List.set_cons_succ]
        refine take_toP 9 49 (.bool q) rfl rfl (by kernel_rfl) (by kernel_rfl) (by kernel_rfl) (fun _ _ _ h => h) (Or.inl ⟨by kernel_rfl, fun w' h => ?_⟩) hHeld ?_
        · go_simp
        try simp only [List.setIfInBounds_toArray, List.set_cons_zero, List.set_cons_succ]
        refine take_toP 10 11 (.slice a4 m4 d4) rfl rfl (by kernel_rfl) (by kernel_rfl) (by kernel_rfl) (fun _ _ _ h => h) (Or.inl ⟨by kernel_rfl, fun w' h => ?_⟩) hHeld ?_
        · go_simp
        try simp only [List.setIfInBounds_toArray, List.set_cons_zero, List.set_cons_succ]
        refine take_toP 11 12 (.bool q) rfl rfl (by kernel_rfl) (by kernel_rfl) (by kernel_rfl) (fun _ _ _ h => h) (Or.inl ⟨by kernel_rfl, fun w' h => ?_⟩) hHeld ?_
        · go_simp
        try simp only [List.setIfInBounds_toArray, List.set_cons_zero, List.set_cons_succ]
        refine wpAnyH_done (by kernel_rfl) ?_ _
        clear hHeld
        cases q with
        | false =>
          go_wp2_with (refine wpList_sk rfl rfl _ _ rfl w.heap.size 0 0 0 0 none 0 0 rfl rfl 0 0 0 0 (.slice none 0 0) (by with_reducible exact m1) ?_)
          refine bodyPost_ret (v := .tuple #[.agg #[.int .i64 0, .int .i64 0, .int .i64 0, .int .u64 0, .slice none 0 0], .bool false]) ?_ rfl ⟨Uo.bad HU.out _, bel_row B1 (Nat.le_refl _) _⟩
          exact results_k2 rfl _ _ w.heap.size 0 0 0 0 (.slice none 0 0) _ rfl rfl (m1.row 0 0 0 0 (.slice none 0 0))
        | true =>
          have HZ := hid (HUZ.out true HU.out rfl)
          have HE : Hid (Uo ks S zs (.returned (.tuple #[.agg #[.int .i64 (gT zs), .int .i64 (gK zs), .int .i64 (gG zs), .int .u64 (gC zs), .slice a4 m4 d4], .bool true])) (w4.setRow w.heap.size #[.int .i64 (gT zs), .int .i64 (gK zs), .int .i64 (gG zs), .int .u64 (gC zs), .slice a4 m4 d4])) := by
            show Uo _ _ _ _ _
            unfold Uo
            simp only [HZ.out, HU.out, HUB.out rfl]
            exact ⟨a4, m4, d4, rfl, y4.kept (grown_row w4 w.heap.size _) (y4.apart m1), z4⟩
          have c0' := h1.c0
          have c1' := h1.c1
          have c2' := h1.c2
          have c3' := h1.c3
          go_wp2_with (refine wpList_sk rfl rfl _ _ rfl w.heap.size (gT zs) (gK zs) (gG zs) (gC zs) a4 m4 d4 rfl rfl 0 0 0 0 (.slice none 0 0) (by with_reducible exact m1) ?_)
          refine bodyPost_ret (v := .tuple #[.agg #[.int .i64 (gT zs), .int .i64 (gK zs), .int .i64 (gG zs), .int .u64 (gC zs), .slice a4 m4 d4], .bool true]) ?_ rfl ⟨HE.out, bel_row B1 (Nat.le_refl _) _⟩
          exact results_k2 rfl _ _ w.heap.size (gT zs) (gK zs) (gG zs) (gC zs) (.slice a4 m4 d4) _ rfl rfl (m1.row _ _ _ _ _)
    · rw [decide_eq_false (fun h => hS (by omega)), Bool.false_and] at HU
      generalize gE zs = q at *
      clear h1
      by_cases h0 : S < 0
      · go_wp2_with (refine wpList_sk rfl rfl _ _ rfl w.heap.size 0 0 0 0 none 0 0 rfl rfl 0 0 0 0 (.slice none 0 0) (by with_reducible exact m1) ?_)
        refine bodyPost_ret (v := .tuple #[.agg #[.int .i64 0, .int .i64 0, .int .i64 0, .int .u64 0, .slice none 0 0], .bool false]) ?_ rfl ⟨Uo.bad HU.out _, bel_row B1 (Nat.le_refl _) _⟩
        exact results_k2 rfl _ _ w.heap.size 0 0 0 0 (.slice none 0 0) _ rfl rfl (m1.row 0 0 0 0 (.slice none 0 0))
      · have h1 : 1 < S := by omega
        go_wp2_with (refine wpList_sk rfl rfl _ _ rfl w.heap.size 0 0 0 0 none 0 0 rfl rfl 0 0 0 0 (.slice none 0 0) (by with_reducible exact m1) ?_)
        refine bodyPost_ret (v := .tuple #[.agg #[.int .i64 0, .int .i64 0, .int .i64 0, .int .u64 0, .slice none 0 0], .bool false]) ?_ rfl ⟨Uo.bad HU.out _, bel_row B1 (Nat.le_refl _) _⟩
        exact results_k2 rfl _ _ w.heap.size 0 0 0 0 (.slice none 0 0) _ rfl rfl (m1.row 0 0 0 0 (.slice none 0 0))
  · rw [decide_eq_false (fun h => h32 (by omega)), Bool.false_and] at HU
    have hI : ((n0 : Int) != 32) = true := by rw [bne_iff_ne]; omega
    generalize gE zs = q at *
    clear h1
    go_wp2_with (refine wpList_sk rfl rfl _ _ rfl w.heap.size 0 0 0 0 none 0 0 rfl rfl 0 0 0 0 (.slice none 0 0) (by with_reducible exact m1) ?_)
    refine bodyPost_ret (v := .tuple #[.agg #[.int .i64 0, .int .i64 0, .int .i64 0, .int .u64 0, .slice none 0 0], .bool false]) ?_ rfl ⟨Uo.bad HU.out _, bel_row B1 (Nat.le_refl _) _⟩
    exact results_k2 rfl _ _ w.heap.size 0 0 0 0 (.slice none 0 0) _ rfl rfl (m1.row 0 0 0 0 (.slice none 0 0))
end Go.Proofs.Ytnjfckijpbgagaa
