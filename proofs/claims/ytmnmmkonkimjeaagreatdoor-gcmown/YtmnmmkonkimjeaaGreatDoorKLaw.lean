import Derived.Test.YtmnmmkonkimjeaaGreatDoorKOwn
namespace Go.Proofs.YtmnmmkonkimjeaaGreatDoor
open Go.RowKit
set_option linter.unusedVariables false
set_option maxRecDepth 100000

theorem Ob.front {w : World} {B g p c n : Nat} {L M : List Nat} (h : Ob w B g p c (L ++ M)) (hy : ∀ x ∈ L ++ M, x < 256) (hl : L.length = n) (hn : n ≤ p) : Bs w (some ⟨g, 0, none⟩) n (ic L) := by
  have := bs_front (h.bs hy) hn
  rwa [← hl, List.take_left, hl] at this
theorem app_lt {L M : List Nat} (h1 : ∀ x ∈ L, x < 256) (h2 : ∀ x ∈ M, x < 256) : ∀ x ∈ L ++ M, x < 256 := fun x hx => by
  rcases List.mem_append.1 hx with h | h
  · exact h1 x h
  · exact h2 x h
theorem gw_start {w0 w : World} {k gk ck gn cn gr : Nat} {ks ns : List Nat} (h : Bk w k 0 (.slice none 0 0) (.slice none 0 0) (.slice none 0 0)) (hk : w0.heap.size ≤ k) (key : Ob w w0.heap.size gk 72 ck ks) (nce : Ob w w0.heap.size gn 52 cn ns) (hgr : gr < w.heap.size) (h1 : gk ≠ gn) (h2 : gk ≠ gr) (h3 : gn ≠ gr) (fr : Below w0.heap.size w0 w) :
    Gw w0 w k w.heap.size gk ck gn cn gr 0 w.heap.size ks ns (fun _ => ⟨none, 0, 0⟩) (fun _ => ⟨none, 0, 0⟩) :=
  ⟨⟨.slice none 0 0, .slice none 0 0, h, own_nil _ _ _, own_nil _ _ _, fun q hq => by simp [Value.ownBlock] at hq, fun i hi => by omega, fun i hi => by omega, fun i j hi => by omega⟩, hk, fun i hi => by omega, fun i hi => by omega, fun i hi => by omega, key, nce, by have := key.lt; have := nce.lt; have := fr.size; omega, fr⟩
/-! Two marks behind a list. -/
theorem two_new (w : World) : ∀ (q : Nat) u, ([.int .u8 47, .int .u8 11] : List Value)[q]? = some u → (w.alloc (.cells #[.int .u8 47, .int .u8 11] 5)).cell? ((⟨w.heap.size, 0, none⟩ : Addr).add q) = some u := by
  intro q u hq
  rw [Addr.add_mid, Nat.zero_add, cell_of_row _ _ q _ 5 (0, 0) (heap_alloc_new w _)]
  simpa using hq
theorem two_one : ∀ u ∈ ([.int .u8 47, .int .u8 11] : List Value), u.oneCell' = true := by
  intro u hu
  simp at hu
  rcases hu with rfl | rfl <;> rfl
theorem two_ob {w : World} {B g n c : Nat} {xs : List Nat} (h : w.ownsRow B 5 1 (.slice (some ⟨g, 0, none⟩) (n + 2) c) (n + 2) (cells (ic xs) ++ [.int .u8 47, .int .u8 11])) : Ob w B g (n + 2) c (xs ++ [47, 11]) := by
  unfold Ob
  have e : cells (ic (xs ++ [47, 11])) = cells (ic xs) ++ [.int .u8 47, .int .u8 11] := by simp [cells, ic]
  rw [e]
  exact h
theorem Ob.cell {w : World} {B g n c : Nat} {xs : List Nat} (h : Ob w B g n c xs) (hy : ∀ x ∈ xs, x < 256) (i : Nat) (hi : i < n) : w.cell? ⟨g, i, none⟩ = some (.int .u8 (xs.getD i 0 : Nat)) := by
  obtain ⟨b, off, e, hc⟩ := (h.bs hy).byte i hi
  simp at e
  obtain ⟨rfl, rfl⟩ := e
  rwa [Nat.zero_add] at hc
theorem two_at0 {xs : List Nat} {n : Nat} (h : xs.length = n) : (xs ++ [47, 11]).getD n 0 = 47 := by subst h; simp [List.getD]
theorem two_at1 {xs : List Nat} {n : Nat} (h : xs.length = n) : (xs ++ [47, 11]).getD (n + 1) 0 = 11 := by subst h; simp [List.getD]
theorem two_app {i5 : TypeInfo} {w6 : World} {B gr tn cap : Nat} {tt : List Nat} (hi : Tryz.prog.info? 5 = some i5) (hz1 : i5.size = 1) (ho : Ob (w6.alloc (.cells #[.int .u8 47, .int .u8 11] 5)) B gr tn cap tt) (hP : tn + 2 ≤ cap)
    {ops : Array Oper} {rest : List Oper} {o : Oper} {a : Act} {Q : Exit → Act → World → Prop} (hg : o.guard = none) (s x : Operand) (hop : o.op = Op.call { callee := Callee.builtin Builtin.append, args := #[s, x], argTypes := #[22, 22] }) (hs : a.eval s = .slice (some ⟨gr, 0, none⟩) tn cap) (hx : a.eval x = .slice (some ⟨w6.heap.size, 0, none⟩) 2 2)
    (hK : ∀ w', w'.ownsRow B 5 1 (.slice (some ⟨gr, 0, none⟩) (tn + 2) cap) (tn + 2) (cells (ic tt) ++ [.int .u8 47, .int .u8 11]) → (w6.alloc (.cells #[.int .u8 47, .int .u8 11] 5)).grownBy w' (some gr) → wpList Tryz.prog ops Q rest (a.put o.dst (.slice (some ⟨gr, 0, none⟩) (tn + 2) cap)) w') : wpList Tryz.prog ops Q (o :: rest) a (w6.alloc (.cells #[.int .u8 47, .int .u8 11] 5)) :=
  wpList_append_fits _ hg s x 22 hop B 5 i5 1 Tryz.underlying22 hi hz1 gr tn cap _ hs ho ⟨w6.heap.size, 0, none⟩ 2 2 [.int .u8 47, .int .u8 11] hx rfl (two_new w6) two_one hP hK
theorem two_own {i5 : TypeInfo} {w6 : World} {B n : Nat} {v : Value} {xs : List Nat} (hi : Tryz.prog.info? 5 = some i5) (hz0 : i5.zero = some (.int .u8 0)) (hz1 : i5.size = 1) (hz2 : i5.bytes = 1) (ho : w6.ownsRow B 5 1 v n (cells (ic xs))) (hn : n + 2 ≤ 1000000) (hB : B ≤ w6.heap.size)
    {ops : Array Oper} {rest : List Oper} {o : Oper} {a : Act} {Q : Exit → Act → World → Prop} (hg : o.guard = none) (s x : Operand) (hop : o.op = Op.call { callee := Callee.builtin Builtin.append, args := #[s, x], argTypes := #[22, 22] }) (hs : a.eval s = v) (hx : a.eval x = .slice (some ⟨w6.heap.size, 0, none⟩) 2 2)
    (hK : ∀ g cap w', Ob w' B g (n + 2) cap (xs ++ [47, 11]) → n + 2 ≤ cap → cap ≤ maxLen → Below B w6 w' → wpList Tryz.prog ops Q rest (a.put o.dst (.slice (some ⟨g, 0, none⟩) (n + 2) cap)) w') : wpList Tryz.prog ops Q (o :: rest) a (w6.alloc (.cells #[.int .u8 47, .int .u8 11] 5)) := by
  have ho' := ho.alloc (.cells #[.int .u8 47, .int .u8 11] 5)
  refine wpList_append_own _ hg s x 22 hop B 5 i5 (.int .u8 0) 1 1 Tryz.underlying22 hi hz0 hz1 hz2 rfl (by decide) v n _ hs ho' ⟨w6.heap.size, 0, none⟩ 2 2 [.int .u8 47, .int .u8 11] hx rfl (two_new w6) two_one (by unfold maxLen; omega) (by omega) (by simp; omega) ?_
  intro v' w' hown hgrow _
  have e : cells (ic xs) ++ [.int .u8 47, .int .u8 11] = cells (ic (xs ++ [47, 11])) := by simp [cells, ic]
  rw [e] at hown
  have hb : Below B w6 w' := ((Below.refl B w6).alloc hB _).grown hgrow (by simp; omega) (fun q hq => (ho.lt q hq).1)
  obtain ⟨g, cap, rfl, h1, h2, _, _, _⟩ := own_head hown (by omega)
  exact hK g cap w' hown h1 h2 hb
/-- The key, its first q bytes turned. -/
def yk (q : Nat) (t : List Nat) : List Nat := (List.range t.length).map fun i => if i < q then t.getD i 0 ^^^ 85 else t.getD i 0
theorem yk_length (q : Nat) (t : List Nat) : (yk q t).length = t.length := by simp [yk]
theorem yk_get (q : Nat) (t : List Nat) (i : Nat) (h : i < t.length) : (yk q t).getD i 0 = if i < q then t.getD i 0 ^^^ 85 else t.getD i 0 := by simp [yk, List.getD, h]
theorem yk_zero (t : List Nat) : yk 0 t = t := by
  refine list_ext (yk_length 0 t) fun i hi => ?_
  rw [yk_length] at hi
  rw [yk_get 0 t i hi, if_neg (by omega)]
theorem yk_lt {t : List Nat} (h : ∀ x ∈ t, x < 256) (q : Nat) : ∀ x ∈ yk q t, x < 256 := by
  intro x hx
  obtain ⟨i, _, rfl⟩ := List.mem_map.1 hx
  split
  · exact xor_lt8 (getD_lt h _) (by omega)
  · exact getD_lt h _
theorem yk_step (q : Nat) (t M : List Nat) (h : q < t.length) : (yk q t ++ M).set q (t.getD q 0 ^^^ 85) = yk (q + 1) t ++ M := by
  rw [List.set_append_left _ _ (by rw [yk_length]; exact h)]
  congr 1
  refine list_ext (by rw [List.length_set, yk_length, yk_length]) fun i hi => ?_
  rw [List.length_set, yk_length] at hi
  rw [yk_get (q + 1) t i hi]
  by_cases e : i = q
  · subst e
    rw [if_pos (by omega)]
    simp [List.getD, yk_length, h]
  · have : ((yk q t).set q (t.getD q 0 ^^^ 85)).getD i 0 = (yk q t).getD i 0 := by
      simp only [List.getD, List.getElem?_set, if_neg (show ¬ q = i from fun h => e h.symm)]
    rw [this, yk_get q t i hi]
    by_cases h1 : i < q
    · rw [if_pos h1, if_pos (by omega)]
    · rw [if_neg h1, if_neg (by omega)]
theorem yk_at (q : Nat) (t M : List Nat) (h : q < t.length) : (yk q t ++ M).getD q 0 = t.getD q 0 := by
  have : (yk q t ++ M).getD q 0 = (yk q t).getD q 0 := by simp only [List.getD, List.getElem?_append_left (show q < (yk q t).length by rw [yk_length]; exact h)]
  rw [this, yk_get q t q h, if_neg (by omega)]
theorem Ob.fz {w : World} {B g n c : Nat} {xs : List Nat} (h : Ob w B g n c xs) (i : Nat) : w.frozen? ⟨g, i, none⟩ = false := by
  obtain ⟨_, cur, hc⟩ := h.blk
  simp [World.frozen?, hc]
theorem nat_lt {zs : List Int} (h : ∀ z ∈ zs, 0 ≤ z ∧ z ≤ 255) : ∀ x ∈ zs.map Int.toNat, x < 256 := by
  intro x hx
  obtain ⟨z, hz, rfl⟩ := List.mem_map.1 hx
  have := h z hz
  omega
set_option maxHeartbeats 1000000 in
theorem gcmOwn_not (a0 a1 a2 : Option Addr) (n0 c0 n1 c1 n2 c2 : Nat) (w : World) (h0 : n0 ≤ maxLen) (h1 : n1 ≤ maxLen) (h2 : n2 ≤ maxLen) (hn : n0 ≠ 32 ∨ n1 ≠ 12 ∨ 40 < n2) :
    Calls Tryz.prog 3 #[.slice a0 n0 c0, .slice a1 n1 c1, .slice a2 n2 c2] w fun e w' => e = .returned (.bool true) ∧ Below w.heap.size w w' := by
  unfold maxLen at h0 h1 h2
  go_enter Tryz.func3, Tryz.ntmps3
  go_wp2_with fail
  refine (first_ w).mono ?_
  rintro e w1 ⟨rfl, B0⟩
  by_cases e0 : n0 = 32
  · have b0 : ((n0 : Int) != 32) = false := by simp [e0]
    by_cases e1 : n1 = 12
    · have b1 : ((n1 : Int) != 12) = false := by simp [e1]
      have b2 : decide ((40 : Int) < (n2 : Int)) = true := decide_eq_true (by omega)
      clear hn
      go_wp2_with fail
      go_ret
      exact ⟨rfl, B0⟩
    · have b1 : ((n1 : Int) != 12) = true := by simpa using fun h => e1 (by omega)
      clear hn
      go_wp2_with fail
      go_ret
      exact ⟨rfl, B0⟩
  · have b0 : ((n0 : Int) != 32) = true := by simpa using fun h => e0 (by omega)
    clear hn
    go_wp2_with fail
    go_ret
    exact ⟨rfl, B0⟩
set_option maxHeartbeats 4000000 in
theorem gcmOwn_yes (a0 a1 a2 : Option Addr) (c0 c1 n2 c2 : Nat) (t0 t1 : List Nat) (A : Nat → Option Addr) (N C : Nat → Nat) (L : Nat → List Nat) (w : World) (hb0 : Bs w a0 32 (ic t0)) (hb1 : Bs w a1 12 (ic t1)) (HY0 : Hid (∀ x ∈ t0, x < 256)) (HY1 : Hid (∀ x ∈ t1, x < 256)) (ht : Tx w a2 n2 A N C L) (hn2 : n2 ≤ 40) :
    Calls Tryz.prog 3 #[.slice a0 32 c0, .slice a1 12 c1, .slice a2 n2 c2] w fun e w' => e = .returned (.bool true) ∧ Below w.heap.size w w' := by
  have HL0 : Hid (t0.length = 32) := by have := hb0.1; rw [ic_length] at this; exact this
  have HL1 : Hid (t1.length = 12) := by have := hb1.1; rw [ic_length] at this; exact this
  have HYM := hid (sp_lt 47 11 40)
  have r0 := fun w hb => roomy_ a0 32 c0 t0 w hb HY0.out (by omega)
  have r1 := fun w hb => roomy_ a1 12 c1 t1 w hb HY1.out (by omega)
  obtain ⟨M, HM⟩ : ∃ M, Hid (sp 47 11 40 = M) := ⟨_, rfl⟩
  rw [HM.out] at HYM
  simp only [HM.out] at r0 r1
  have d2 : decide ((40 : Int) < (n2 : Int)) = false := decide_eq_false (by omega)
  have HT := hid ht
  have HB0 := hid hb0
  have HB1 := hid hb1
  clear ht hb0 hb1
  obtain ⟨i5, hi, hz0, hz1, hz2⟩ := info_parts info5
  go_enter Tryz.func3, Tryz.ntmps3
  go_wp2_with fail
  refine (first_ w).mono ?_
  rintro e w1 ⟨rfl, B0⟩
  go_wp2_with (refine wpList_book rfl rfl ?_)
  generalize hbc : bookCells 0 (.slice none 0 0) (.slice none 0 0) (.slice none 0 0) = bc at *
  have NB : Hid (Bk (w1.alloc (.cells bc 43)) w1.heap.size 0 (.slice none 0 0) (.slice none 0 0) (.slice none 0 0)) := by rw [← hbc]; exact new_book w1
  have hk : w.heap.size ≤ w1.heap.size := B0.size
  have B0 : Below w.heap.size w (w1.alloc (.cells bc 43)) := B0.alloc B0.size _
  clear hbc
  generalize w1.heap.size = k at *
  generalize w1.alloc (.cells bc 43) = w2 at *
  refine (r0 _ (HB0.out.below B0)).mono ?_
  rintro e w3 ⟨gk, ck, rfl, q1, ok, q2, q3, g2⟩
  have NB : Hid (Bk w3 k 0 (.slice none 0 0) (.slice none 0 0) (.slice none 0 0)) := NB.out.at (g2.block k NB.out.lt)
  have ok := ok.le B0.size
  have B0 := bel_bel B0 B0.size g2
  clear g2 d2
  go_wp2_with fail
  refine (r1 _ (HB1.out.below B0)).mono ?_
  rintro e w4 ⟨gn, cn, rfl, q4, on, q5, q6, g2⟩
  have NB : Hid (Bk w4 k 0 (.slice none 0 0) (.slice none 0 0) (.slice none 0 0)) := NB.out.at (g2.block k NB.out.lt)
  have hkn : gk ≠ gn := by have := ok.lt; omega
  have ok := ok.kept g2
  have on := on.le B0.size
  have B0 := bel_bel B0 B0.size g2
  unfold maxLen at q3 q6
  have x1 : (32 : Int) ≤ (ck : Int) := by omega
  have x2 : ¬ ck = 0 := by omega
  have x3 : (12 : Int) ≤ (cn : Int) := by omega
  have x4 : ¬ cn = 0 := by omega
  have hs4 := B0.size
  clear g2
  go_wp2_with (at_make; refine wpList_make_own _ rfl _ _ 22 rfl w.heap.size 5 i5 (.int .u8 0) 1 Tryz.underlying22 hi hz0 hz1 .i64 .i64 _ 8000 rfl rfl (by omega) (by rw [hz2]; omega) (by unfold maxLen; omega) hs4 ?_; intro w5 hown hg2; have g2 := below_of_grown hg2; clear hg2)
  have orr : Ob w5 w.heap.size w4.heap.size 0 8000 [] := hown
  have hgr := orr.lt
  have GW : Hid (Gw w w5 k w5.heap.size gk ck gn cn w4.heap.size 0 w5.heap.size (t0 ++ M) (t1 ++ M) (fun _ => ⟨none, 0, 0⟩) (fun _ => ⟨none, 0, 0⟩)) :=
    gw_start (NB.out.at (g2.block k NB.out.lt)) hk (ok.kept g2) (on.kept g2) hgr hkn (by have := ok.lt; omega) (by have := on.lt; omega) (bel_bel B0 B0.size g2)
  clear hown g2 NB ok on B0 hkn hs4 q1 q4 x1 x2 x3 x4 hi hz0 hz1 hz2
  generalize w4.heap.size = gr at *
  generalize hB1 : w5.heap.size = B1 at *
  clear hB1
  go_loopw [13, 14] (fun v i wr => ∃ (j p S : Nat) (xs : List Nat) (E G : Nat → Ent), j ≤ n2 ∧ Hid (∀ l, l < j → N l ≤ 2000) ∧ i = .int .i64 j ∧ v = .slice (some ⟨gr, 0, none⟩) p 8000 ∧ Ob wr w.heap.size gr p 8000 xs ∧ Gw w wr k B1 gk ck gn cn gr (4 * j) S (t0 ++ M) (t1 ++ M) E G) (fun _ i _ => n2 - (intOf i).toNat)
  case atStart => exact ⟨0, 0, B1, [], _, _, by omega, fun l hl => by omega, rfl, rfl, orr, GW.out⟩
  case round =>
    clear orr GW hgr
    obtain ⟨j, p, S, xs, E, G, hj, HNN, rfl, rfl, orr, gw⟩ := hrel
    by_cases hlt : j < n2
    · have hlI : (j : Int) < (n2 : Int) := by omega
      obtain ⟨tb, toff, ta, tn, tc, tt, rfl, HNJ, hcell, hbt, htc, htm, hnil, hyt⟩ : ∃ tb toff ta tn tc tt, a2 = some ⟨tb, toff, none⟩ ∧ Hid (N j = tn) ∧ w.cell? ⟨tb, toff + j, none⟩ = some (.slice ta tn tc) ∧ Bs w ta tn (ic tt) ∧ tn ≤ tc ∧ tc ≤ maxLen ∧ (ta = none → tc = 0) ∧ ∀ x ∈ tt, x < 256 := by
        rcases HT.out with h | ⟨b, off, e, h⟩
        · omega
        · exact ⟨b, off, _, _, _, _, e, rfl, h j hlt⟩
      have HCELL := hid hcell
      have HLB : Hid (tb < w.heap.size) := World.block_lt_of_cell? w _ hcell
      have HBT := hid hbt
      have HYT := hid hyt
      have HTL : Hid (tt.length = tn) := by have := hbt.1; rw [ic_length] at this; exact this
      unfold maxLen at htm
      have hcr := (gw.fr.cell HLB.out).trans HCELL.out
      clear hcell hbt hyt
      by_cases hbig : 2000 < tn
      · have hbI : (2000 : Int) < (tn : Int) := by omega
        go_wp2_with fail
        go_ret
        exact ⟨rfl, gw.fr⟩
      have hbI : ¬ (2000 : Int) < (tn : Int) := by omega
      go_wp2_with fail
      have gw := gw.below (w' := wr.drew) ⟨rfl, rfl, rfl, Nat.le_refl _, fun _ _ => rfl⟩
      have orr := orr.drew
      have oz := orr.zero
      have hcr := (gw.fr.cell HLB.out).trans HCELL.out
      have hbd := HBT.out.below gw.fr
      have hnil' := hid hnil
      clear hnil
      go_region_law (refine step_app0 rfl _ _ rfl w.heap.size gr 8000 rfl (by with_reducible exact oz) ta tn tc tt rfl (by with_reducible exact hbd) hnil'.out htc (by omega) ?_; intro w6 o6 hg6)
      have gw := gw.room orr hg6
      clear hg6 oz orr hbd hcr
      have gw := gw.below (w' := w6.alloc (.cells #[.int .u8 47, .int .u8 11] 5)) ((Below.refl _ _).alloc (Nat.le_refl _) _)
      have HO6 := hid (o6.alloc (.cells #[.int .u8 47, .int .u8 11] 5))
      obtain ⟨i5, hi, hz0, hz1, hz2⟩ := info_parts info5
      have hP : tn + 2 ≤ 8000 := by omega
      have HGW := hid gw
      have hcr := (gw.fr.cell HLB.out).trans HCELL.out
      clear gw o6
      have HI5 := hid hi
      have HZ5 := hid hz1
      clear hi hz0 hz1 hz2
      have hq1 : (tn : Int) ≤ 8000 := by omega
      go_wp2_with (at_builtin; refine two_app HI5.out HZ5.out HO6.out hP rfl _ _ rfl rfl rfl ?_; intro w7 hown hg; have gw := HGW.out.room HO6.out hg; have hcr := (gw.fr.cell HLB.out).trans HCELL.out; clear hg)
      have orr : Ob w7 w.heap.size gr (tn + 2) 8000 (tt ++ [47, 11]) := two_ob hown
      clear hown HGW HO6 hP hq1
      have HML : Hid (∀ x ∈ tt ++ [47, 11], x < 256) := app_lt HYT.out (by simp)
      have HKY : Hid (∀ x ∈ t0 ++ M, x < 256) := app_lt HY0.out HYM.out
      have HNY : Hid (∀ x ∈ t1 ++ M, x < 256) := app_lt HY1.out HYM.out
      have ks := fun w h0 h1 h2 => seal_own (some ⟨gk, 0, none⟩) (some ⟨gn, 0, none⟩) (some ⟨gr, 0, none⟩) (some ⟨gr, 0, none⟩) ck cn tn 8000 tn 8000 t0 t1 tt tt w h0 h1 h2 h2 HY0.out HY1.out HYT.out HYT.out (by omega) (by omega) (by omega) (by unfold maxLen; omega) (by omega) (by unfold maxLen; omega)
      have ko := fun ge ce w h0 h1 h2 h3 hce hcm => open_own (some ⟨gk, 0, none⟩) (some ⟨gn, 0, none⟩) (some ⟨gr, 0, none⟩) (some ⟨ge, 0, none⟩) ck cn tn 8000 tn ce t0 t1 tt (sl (kf t0) t1 tt tt) w h0 h1 h2 h3 HY0.out HY1.out HYT.out (sl_lt (kf_lt HY0.out) HY1.out HYT.out) (by omega) (by omega) hce (by omega) (by unfold maxLen; omega) hcm
      have e1 : (sl (kf t0) t1 tt tt).take tn = st (kf t0) t1 tt := by
        unfold sl
        rw [List.take_append_of_le_length (by rw [st_length, HTL.out]; exact Nat.le_refl _), List.take_of_length_le (by rw [st_length, HTL.out]; exact Nat.le_refl _)]
      have e2 : (sl (kf t0) t1 tt tt).drop tn = tl (kf t0) t1 tt (st (kf t0) t1 tt) := by
        unfold sl
        rw [← HTL.out, ← st_length (kf t0) t1 tt, List.drop_left]
      have HSLL : Hid ((sl (kf t0) t1 tt tt).length = tn + 16) := by show _ = _; rw [sl_length, HTL.out]
      have HSY : Hid (∀ x ∈ sl (kf t0) t1 tt tt, x < 256) := sl_lt (kf_lt HY0.out) HY1.out HYT.out
      simp only [e1, e2, st_st] at ko
      clear e1 e2
      generalize tl (kf t0) t1 tt (st (kf t0) t1 tt) = TL at *
      generalize sl (kf t0) t1 tt tt = SL at *
      refine (ks _ (gw.key.front HKY.out HL0.out (by omega)) (gw.nce.front HNY.out HL1.out (by omega)) (orr.front HML.out HTL.out (by omega))).mono ?_
      rintro e w8 ⟨ga, rfl, oa, g2⟩
      have hga := oa.blk.1
      have oa := oa.le gw.fr.size
      have hsa := gw.lt
      have orr := orr.kept g2
      have gw := gw.below g2
      have hcr := (gw.fr.cell HLB.out).trans HCELL.out
      clear g2 
      go_wp2_with fail
      refine (ks _ (gw.key.front HKY.out HL0.out (by omega)) (gw.nce.front HNY.out HL1.out (by omega)) (orr.front HML.out HTL.out (by omega))).mono ?_
      rintro e w9 ⟨gb, rfl, ob, g2⟩
      have hgb : ga < gb := by have := oa.lt; have := ob.blk.1; omega
      have ob := ob.le gw.fr.size
      have orr := orr.kept g2
      have oa := oa.kept g2
      have gw := gw.below g2
      have hcr := (gw.fr.cell HLB.out).trans HCELL.out
      clear g2 ks
      go_wp2_with fail
      refine (same_yes (some ⟨ga, 0, none⟩) (some ⟨gb, 0, none⟩) (tn + 16) (tn + 16) (tn + 16) (tn + 16) (ic SL) w9 (oa.bs HSY.out) (ob.bs HSY.out) (by omega) (by omega)).mono ?_
      rintro e w10 ⟨rfl, D⟩
      have g2 := D.below
      have orr := orr.kept g2
      have oa := oa.kept g2
      have ob := ob.kept g2
      have gw := gw.below g2
      have hcr := (gw.fr.cell HLB.out).trans HCELL.out
      clear g2 D
      go_wp2_with fail
      refine (same_yes (some ⟨gr, 0, none⟩) ta tn 8000 tn tc (ic tt) w10 (orr.front HML.out HTL.out (by omega)) (HBT.out.below gw.fr) (by omega) (by omega)).mono ?_
      rintro e w11 ⟨rfl, D⟩
      have g2 := D.below
      have orr := orr.kept g2
      have oa := oa.kept g2
      have ob := ob.kept g2
      have gw := gw.below g2
      have hcr := (gw.fr.cell HLB.out).trans HCELL.out
      clear g2 D
      go_wp2_with fail
      refine (num_ 0 _).mono ?_
      rintro e w12 ⟨rfl, rfl⟩
      go_wp2_with fail
      refine (num_ 0 _).mono ?_
      rintro e w13 ⟨rfl, rfl⟩
      have z1 := orr.cell HML.out tn (by omega)
      have z2 := orr.cell HML.out (tn + 1) (by omega)
      rw [two_at0 HTL.out] at z1
      rw [two_at1 HTL.out] at z2
      have y1 : (tn : Int) < (tn : Int) + 2 := by omega
      have y2 : (tn : Int) + 1 < (tn : Int) + 2 := by omega
      go_wp2_with fail
      have HAS := hid (oa.bs HSY.out)
      have hs13 := gw.fr.size
      clear z1 z2 y1 y2
      refine (refBytes (some ⟨ga, 0, none⟩) (tn + 16) (tn + 16) (ic SL) _ HAS.out (by omega)).mono ?_
      rintro e w14 ⟨v, rfl, ho, B4⟩
      have HO4 := hid ho
      have HB4 := hid B4
      have hsz4 := B4.size
      obtain ⟨i5, hi, hz0, hz1, hz2⟩ := info_parts info5
      have HI5 := hid hi
      have HZ0 := hid hz0
      have HZ1 := hid hz1
      have HZ2 := hid hz2
      clear hi hz0 hz1 hz2 ho B4 HAS
      go_wp2_with (at_builtin; refine two_own HI5.out HZ0.out HZ1.out HZ2.out HO4.out (by omega) hsz4 rfl _ _ rfl rfl rfl ?_; intro ge ce w15 oe he1 he2 g3; have g2 := HB4.out.trans g3; have x5 : (tn : Int) + 16 ≤ (ce : Int) := (by omega); have x6 : ¬ ce = 0 := (by omega); unfold maxLen at he2)
      have oe := oe.le hs13
      clear g3 HO4 HB4 hsz4 HI5 HZ0 HZ1 HZ2
      have orr := orr.kept g2
      have oa := oa.kept g2
      have ob := ob.kept g2
      have gw := gw.below g2
      have hcr := (gw.fr.cell HLB.out).trans HCELL.out
      clear g2 x5 x6
      have HEY : Hid (∀ x ∈ SL ++ [47, 11], x < 256) := app_lt HSY.out (by simp)
      refine (ko ge ce _ (gw.key.front HKY.out HL0.out (by omega)) (gw.nce.front HNY.out HL1.out (by omega)) (orr.front HML.out HTL.out (by omega)) (oe.front HEY.out HSLL.out (by omega)) (by omega) (by unfold maxLen; omega)).mono ?_
      rintro e w16 ⟨g2, hor⟩
      obtain ⟨gt, rfl, ot⟩ : ∃ g, e = .returned (.tuple #[.slice (some ⟨g, 0, none⟩) tn (tn + 16), .bool true]) ∧ Ob w16 w15.heap.size g tn (tn + 16) tt := by
        rcases hor with ⟨_, h⟩ | ⟨h, _⟩
        · exact h
        · exact absurd rfl h
      have hgt : gb < gt := by have := ob.lt; have := ot.blk.1; omega
      have ot := ot.le gw.fr.size
      have orr := orr.kept g2
      have oa := oa.kept g2
      have ob := ob.kept g2
      have oe := oe.kept g2
      have gw := gw.below g2
      have hcr := (gw.fr.cell HLB.out).trans HCELL.out
      clear g2 hor
      have x5 : (tn : Int) + 16 ≤ (ce : Int) := by omega
      have x6 : ¬ ce = 0 := by omega
      go_wp2_with fail
      refine (ko ge ce _ (gw.key.front HKY.out HL0.out (by omega)) (gw.nce.front HNY.out HL1.out (by omega)) (orr.front HML.out HTL.out (by omega)) (oe.front HEY.out HSLL.out (by omega)) (by omega) (by unfold maxLen; omega)).mono ?_
      rintro e w17 ⟨g2, hor⟩
      obtain ⟨gu, rfl, ou⟩ : ∃ g, e = .returned (.tuple #[.slice (some ⟨g, 0, none⟩) tn (tn + 16), .bool true]) ∧ Ob w17 w16.heap.size g tn (tn + 16) tt := by
        rcases hor with ⟨_, h⟩ | ⟨h, _⟩
        · exact h
        · exact absurd rfl h
      have hgu : gt < gu := by have := ot.lt; have := ou.blk.1; omega
      have ou := ou.le gw.fr.size
      have orr := orr.kept g2
      have oa := oa.kept g2
      have ob := ob.kept g2
      have oe := oe.kept g2
      have ot := ot.kept g2
      have gw := gw.below g2
      have hcr := (gw.fr.cell HLB.out).trans HCELL.out
      clear g2 hor x5 x6 ko
      go_wp2_with fail
      refine (same_yes (some ⟨gt, 0, none⟩) ta tn (tn + 16) tn tc (ic tt) w17 (ot.bs HYT.out) (HBT.out.below gw.fr) (by omega) (by omega)).mono ?_
      rintro e w18 ⟨rfl, D⟩
      have g2 := D.below
      have orr := orr.kept g2
      have oa := oa.kept g2
      have ob := ob.kept g2
      have oe := oe.kept g2
      have ot := ot.kept g2
      have ou := ou.kept g2
      have gw := gw.below g2
      have hcr := (gw.fr.cell HLB.out).trans HCELL.out
      clear g2 D
      go_wp2_with fail
      refine (same_yes (some ⟨gu, 0, none⟩) ta tn (tn + 16) tn tc (ic tt) w18 (ou.bs HYT.out) (HBT.out.below gw.fr) (by omega) (by omega)).mono ?_
      rintro e w19 ⟨rfl, D⟩
      have g2 := D.below
      have orr := orr.kept g2
      have oa := oa.kept g2
      have ob := ob.kept g2
      have oe := oe.kept g2
      have ot := ot.kept g2
      have ou := ou.kept g2
      have gw := gw.below g2
      have hcr := (gw.fr.cell HLB.out).trans HCELL.out
      clear g2 D
      have x5 : (tn : Int) + 16 ≤ (ce : Int) := by omega
      have x6 : ¬ ce = 0 := by omega
      go_wp2_with fail
      refine (same_yes (some ⟨ge, 0, none⟩) (some ⟨ga, 0, none⟩) (tn + 16) ce (tn + 16) (tn + 16) (ic SL) w19 (oe.front HEY.out HSLL.out (by omega)) (oa.bs HSY.out) (by omega) (by omega)).mono ?_
      rintro e w20 ⟨rfl, D⟩
      have g2 := D.below
      have orr := orr.kept g2
      have oa := oa.kept g2
      have ob := ob.kept g2
      have oe := oe.kept g2
      have ot := ot.kept g2
      have ou := ou.kept g2
      have gw := gw.below g2
      have hcr := (gw.fr.cell HLB.out).trans HCELL.out
      clear g2 D
      have z1 := oe.cell HEY.out (tn + 16) (by omega)
      have z2 := oe.cell HEY.out (tn + 16 + 1) (by omega)
      rw [two_at0 HSLL.out] at z1
      rw [two_at1 HSLL.out] at z2
      have y1 : (tn : Int) + 16 < (tn : Int) + 16 + 2 := by omega
      have y2 : (tn : Int) + 16 + 1 < (tn : Int) + 16 + 2 := by omega
      have hSa : S ≤ ga := by omega
      clear oe x5 x6
      go_wp2_with fail
      clear z1 z2 y1 y2
      clear hcr
      refine (gw_tell gw oa HSY.out (by omega) (by omega) (by omega)).mono ?_
      rintro e w21 ⟨rfl, ⟨E1, G1, gw1⟩, hsz, tl1⟩
      have orr := tl1 _ _ _ _ orr
      have oa := tl1 _ _ _ _ oa
      have ob := tl1 _ _ _ _ ob
      have ot := tl1 _ _ _ _ ot
      have ou := tl1 _ _ _ _ ou
      have gw := gw1
      clear gw1 tl1 hsz
      go_wp2_with fail
      refine (gw_tell gw ob HSY.out (by omega) (by omega) (by omega)).mono ?_
      rintro e w22 ⟨rfl, ⟨E1, G1, gw1⟩, hsz, tl1⟩
      have orr := tl1 _ _ _ _ orr
      have oa := tl1 _ _ _ _ oa
      have ob := tl1 _ _ _ _ ob
      have ot := tl1 _ _ _ _ ot
      have ou := tl1 _ _ _ _ ou
      have gw := gw1
      clear gw1 tl1 hsz
      go_wp2_with fail
      refine (gw_tell gw ot HYT.out (by omega) (by omega) (by omega)).mono ?_
      rintro e w23 ⟨rfl, ⟨E1, G1, gw1⟩, hsz, tl1⟩
      have orr := tl1 _ _ _ _ orr
      have oa := tl1 _ _ _ _ oa
      have ob := tl1 _ _ _ _ ob
      have ot := tl1 _ _ _ _ ot
      have ou := tl1 _ _ _ _ ou
      have gw := gw1
      clear gw1 tl1 hsz
      go_wp2_with fail
      refine (gw_tell gw ou HYT.out (by omega) (by omega) (by omega)).mono ?_
      rintro e w24 ⟨rfl, ⟨E1, G1, gw1⟩, hsz, tl1⟩
      have orr := tl1 _ _ _ _ orr
      have oa := tl1 _ _ _ _ oa
      have ob := tl1 _ _ _ _ ob
      have ot := tl1 _ _ _ _ ot
      have ou := tl1 _ _ _ _ ou
      have gw := gw1
      clear gw1 tl1 hsz
      go_wp2_with fail
      go_roundw
      case rel => exact ⟨j + 1, tn + 2, gu + 1, tt ++ [47, 11], _, _, by omega, fun l hl => by
        by_cases e : l = j
        · rw [e, HNJ.out]; omega
        · exact HNN.out l (by omega), by go_num, rfl, orr, by rw [show 4 * (j + 1) = 4 * j + 1 + 1 + 1 + 1 from by omega]; exact gw⟩
      case measure => simp [intOf]; omega
    · have hge : ¬ (j : Int) < (n2 : Int) := by omega
      have HKY : Hid (∀ x ∈ t0 ++ M, x < 256) := app_lt HY0.out HYM.out
      have HNY : Hid (∀ x ∈ t1 ++ M, x < 256) := app_lt HY1.out HYM.out
      have HNA : Hid (∀ l, l < n2 → N l ≤ 2000) := fun l hl => HNN.out l (by omega)
      go_wp2_with fail
      refine (gw_finish gw (by omega)).mono ?_
      rintro e wf ⟨rfl, E', F', fw⟩
      clear gw orr
      go_wp2_with fail
      refine (r0 _ (HB0.out.below fw.fr)).mono ?_
      rintro e wg ⟨g1, d1, rfl, _, o1, _, _, g2⟩
      have fw := fw.below g2
      clear g2 r0
      go_wp2_with fail
      refine (same_yes (some ⟨gk, 0, none⟩) (some ⟨g1, 0, none⟩) 72 ck 72 d1 (ic (t0 ++ M)) _ (fw.key.bs HKY.out) (o1.bs HKY.out) (by omega) (by omega)).mono ?_
      rintro e wh ⟨rfl, D⟩
      have fw := fw.below D.below
      clear D o1
      go_wp2_with fail
      refine (r1 _ (HB1.out.below fw.fr)).mono ?_
      rintro e wi ⟨g1', d1', rfl, _, o1, _, _, g2⟩
      have fw := fw.below g2
      clear g2 r1
      go_wp2_with fail
      refine (same_yes (some ⟨gn, 0, none⟩) (some ⟨g1', 0, none⟩) 52 cn 52 d1' (ic (t1 ++ M)) _ (fw.nce.bs HNY.out) (o1.bs HNY.out) (by omega) (by omega)).mono ?_
      rintro e wj ⟨rfl, D⟩
      have fw := fw.below D.below
      clear D o1
      go_wp2_with fail
      obtain ⟨wo, rfl⟩ : ∃ wo, wo = wr := ⟨_, rfl⟩
      go_loopw [30] (fun i wr => ∃ q : Nat, q ≤ 32 ∧ i = .int .i64 q ∧ Fw w wr k B1 gk ck gn cn (4 * j) (yk q t0 ++ M) (t1 ++ M) E' F') (fun i _ => 32 - (intOf i).toNat)
      case atStart => exact ⟨0, by omega, rfl, by rw [yk_zero]; exact fw⟩
      case round =>
        clear fw
        obtain ⟨q, hq, rfl, fw⟩ := hrel
        by_cases hlq : q < 32
        · have c1 := fw.key.cell (app_lt (yk_lt HY0.out q) HYM.out) q (by omega)
          have f1 := fw.key.fz q
          rw [yk_at q t0 M (by rw [HL0.out]; exact hlq)] at c1
          have hly := getD_lt HY0.out q
          have x1 : bits .xor .u8 (t0.getD q 0 : Int) 85 = ((t0.getD q 0 ^^^ 85 : Nat) : Int) := u8x hly (show 85 < 256 by omega)
          have fw1 := fw.set q (t0.getD q 0 ^^^ 85)
          rw [yk_step q t0 M (by rw [HL0.out]; exact hlq)] at fw1
          have hqI : (q : Int) < 32 := by omega
          generalize t0.getD q 0 ^^^ 85 = y at *
          generalize t0.getD q 0 = x at *
          clear fw
          go_wp2_with fail
          go_roundw
          case rel => exact ⟨q + 1, by omega, by go_num, fw1⟩
          case measure => simp [intOf]; omega
        · have hqI : ¬ (q : Int) < 32 := by omega
          rw [show q = 32 from by omega] at fw
          have HY3 : Hid (∀ x ∈ yk 32 t0, x < 256) := yk_lt HY0.out 32
          have HL3 : Hid ((yk 32 t0).length = 32) := by show _ = _; rw [yk_length, HL0.out]
          generalize yk 32 t0 = t3 at *
          have HK3 : Hid (∀ x ∈ t3 ++ M, x < 256) := app_lt HY3.out HYM.out
          go_wp2_with fail
          obtain ⟨wp, rfl⟩ : ∃ wp, wp = wr := ⟨_, rfl⟩
          go_loopw [28, 31] (fun v i wr => ∃ q : Nat, q ≤ n2 ∧ i = .int .i64 q ∧ v = .bool true ∧ Fw w wr k B1 gk ck gn cn (4 * j) (t3 ++ M) (t1 ++ M) E' F') (fun _ i _ => n2 - (intOf i).toNat)
          case atStart => exact ⟨0, by omega, rfl, rfl, fw⟩
          case round =>
            clear fw
            obtain ⟨l, hl, rfl, rfl, fw⟩ := hrel
            by_cases hll : l < n2
            · have hlI : (l : Int) < (n2 : Int) := by omega
              obtain ⟨tb, toff, ta, tn, tc, tt, rfl, htn, hcell, hbt, htc, htm, hnil, hyt⟩ : ∃ tb toff ta tn tc tt, a2 = some ⟨tb, toff, none⟩ ∧ tn ≤ 2000 ∧ w.cell? ⟨tb, toff + l, none⟩ = some (.slice ta tn tc) ∧ Bs w ta tn (ic tt) ∧ tn ≤ tc ∧ tc ≤ maxLen ∧ (ta = none → tc = 0) ∧ ∀ x ∈ tt, x < 256 := by
                rcases HT.out with h | ⟨b, off, e, h⟩
                · omega
                · exact ⟨b, off, _, _, _, _, e, HNA.out l hll, h l hll⟩
              have HCELL := hid hcell
              have HLB : Hid (tb < w.heap.size) := World.block_lt_of_cell? w _ hcell
              have HBT := hid hbt
              have HYT := hid hyt
              have ks := fun w h0 h1 h2 => seal_own (some ⟨gk, 0, none⟩) (some ⟨gn, 0, none⟩) ta ta ck cn tn tc tn tc t3 t1 tt tt w h0 h1 h2 h2 HY3.out HY1.out HYT.out HYT.out (by omega) (by omega) htc htm htc htm
              have kr := fun w h0 h1 h2 => refSeal_ (some ⟨gk, 0, none⟩) (some ⟨gn, 0, none⟩) ta ta ck cn tn tc tn tc t3 t1 tt tt w h0 h1 h2 h2 HY3.out HY1.out HYT.out HYT.out (by omega) (by omega)
              have HSY : Hid (∀ x ∈ sl (kf t3) t1 tt tt, x < 256) := sl_lt (kf_lt HY3.out) HY1.out HYT.out
              generalize sl (kf t3) t1 tt tt = SL at *
              unfold maxLen at htm
              clear hcell hbt hyt hnil
              have hcr := (fw.fr.cell HLB.out).trans HCELL.out
              go_wp2_with fail
              have fw := fw.below (w' := wr.drew) ⟨rfl, rfl, rfl, Nat.le_refl _, fun _ _ => rfl⟩
              have hcr := (fw.fr.cell HLB.out).trans HCELL.out
              have h0 := fw.key.front HK3.out HL3.out (by omega)
              have h1 := fw.nce.front HNY.out HL1.out (by omega)
              have h2 := HBT.out.below fw.fr
              go_region_held (fun wx => wx.cell? ⟨tb, toff + l, none⟩ = some (.slice ta tn tc)) (go_keep) ((go_at_call 6; refine (ks _ h0 h1 h2).mono ?_; rintro e w4 ⟨ga, rfl, oa, g2⟩; have fw := fw.below g2; have y0 := (fw.fr.cell HLB.out).trans HCELL.out))
              have oa := oa.bs HSY.out
              clear g2 ks h0 h1 h2 y0 hcr
              have hcr := (fw.fr.cell HLB.out).trans HCELL.out
              go_wp2_with fail
              have fw := fw.below (w' := w4.drew) ⟨rfl, rfl, rfl, Nat.le_refl _, fun _ _ => rfl⟩
              have oa : Bs w4.drew (some ⟨ga, 0, none⟩) (tn + 16) (ic SL) := oa
              have hcr := (fw.fr.cell HLB.out).trans HCELL.out
              have h0 := fw.key.front HK3.out HL3.out (by omega)
              have h1 := fw.nce.front HNY.out HL1.out (by omega)
              have h2 := HBT.out.below fw.fr
              go_region_held (fun wx => wx.cell? ⟨tb, toff + l, none⟩ = some (.slice ta tn tc)) (go_keep) ((go_at_call 13; refine (kr _ h0 h1 h2).mono ?_; rintro e w5 ⟨v5, rfl, ho5, g2⟩; have fw := fw.below g2; have oa := oa.below g2; have y0 := (fw.fr.cell HLB.out).trans HCELL.out))
              obtain ⟨ra, rc, rfl, rb, _, _, _⟩ := own_form ho5 (ic_bytes HSY.out)
              clear g2 kr h0 h1 h2 y0 hcr ho5
              go_wp2_with fail
              refine (same_yes (some ⟨ga, 0, none⟩) ra (tn + 16) (tn + 16) (tn + 16) rc (ic SL) _ oa rb (by omega) (by omega)).mono ?_
              rintro e w6 ⟨rfl, D⟩
              have fw := fw.below D.below
              clear D oa rb
              go_wp2_with fail
              go_roundw
              case rel => exact ⟨l + 1, by omega, by go_num, rfl, fw⟩
              case measure => simp [intOf]; omega
            · have hlI : ¬ (l : Int) < (n2 : Int) := by omega
              go_wp2_with fail
              refine (fw_holds fw (by omega)).mono ?_
              rintro e wz ⟨rfl, hw⟩
              obtain rfl := hw.symm
              clear hw
              go_wp2_with fail
              go_ret
              exact ⟨rfl, fw.fr⟩
theorem gcmOwn_ (a0 : Option Addr) (n0 c0 : Nat) (z0 : List Int) (a1 : Option Addr) (n1 c1 : Nat) (z1 : List Int) (a2 : Option Addr) (n2 c2 : Nat) (A : Nat → Option Addr) (N C : Nat → Nat) (L : Nat → List Nat) (w : World) (hb0 : Bs w a0 n0 z0) (hb1 : Bs w a1 n1 z1) (ht : Tx w a2 n2 A N C L) (h0 : n0 ≤ maxLen) (h1 : n1 ≤ maxLen) (h2 : n2 ≤ maxLen) :
    Calls Tryz.prog 3 #[.slice a0 n0 c0, .slice a1 n1 c1, .slice a2 n2 c2] w fun e w' => e = .returned (.bool true) ∧ Below w.heap.size w w' := by
  by_cases hn : n0 ≠ 32 ∨ n1 ≠ 12 ∨ 40 < n2
  · exact gcmOwn_not a0 a1 a2 n0 c0 n1 c1 n2 c2 w h0 h1 h2 hn
  · obtain rfl : n0 = 32 := by omega
    obtain rfl : n1 = 12 := by omega
    have y0 : Hid (∀ x ∈ z0.map Int.toNat, x < 256) := nat_lt hb0.2.1
    have y1 : Hid (∀ x ∈ z1.map Int.toNat, x < 256) := nat_lt hb1.2.1
    rw [← ic_toNat hb0.2.1] at hb0
    rw [← ic_toNat hb1.2.1] at hb1
    exact gcmOwn_yes a0 a1 a2 c0 c1 n2 c2 _ _ A N C L w hb0 hb1 y0 y1 ht (by omega)
end Go.Proofs.YtmnmmkonkimjeaaGreatDoor
