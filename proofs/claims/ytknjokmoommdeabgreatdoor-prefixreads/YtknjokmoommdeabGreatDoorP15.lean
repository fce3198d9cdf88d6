import Derived.Test.YtknjokmoommdeabGreatDoorP14
namespace Go.Proofs.YtknjokmoommdeabGreatDoor
set_option maxRecDepth 100000
open Go.RowKit
set_option linter.unusedVariables false

/-! The address that a text seems to say. -/
/-- A row of texts. -/
def Tx (w : World) (g : Nat) (ls : List (List Nat)) : Prop := ∃ o, w.heap[g]? = some o ∧ ∀ w' : World, w'.heap[g]? = some o → ∀ i, i < ls.length → w'.cell? ⟨g, i, none⟩ = some (.string (sb (ls.getD i [])))
theorem Tx.cell {w : World} {g : Nat} {ls : List (List Nat)} (h : Tx w g ls) (i : Nat) (hi : i < ls.length) : w.cell? ⟨g, i, none⟩ = some (.string (sb (ls.getD i []))) := by
  obtain ⟨o, h1, h2⟩ := h
  exact h2 w h1 i hi
theorem Tx.at {w w' : World} {g : Nat} {ls : List (List Nat)} (h : Tx w g ls) (e : w'.heap[g]? = w.heap[g]?) : Tx w' g ls := by
  obtain ⟨o, h1, h2⟩ := h
  exact ⟨o, e.trans h1, h2⟩
theorem Tx.lt {w : World} {g : Nat} {ls : List (List Nat)} (h : Tx w g ls) : g < w.heap.size := by
  obtain ⟨o, h1, _⟩ := h
  exact (Array.getElem?_eq_some_iff.1 h1).1
theorem Tx.kept {w w' : World} {g : Nat} {ls : List (List Nat)} (h : Tx w g ls) (hb : Below w.heap.size w w') : Tx w' g ls := h.at (hb.block g h.lt)
theorem own_texts {w : World} {base n : Nat} {v : Value} {ls : List (List Nat)} (h : w.ownsRow base 9 1 v n (tv ls)) (hn : 0 < n) : ∃ g cap, v = .slice (some ⟨g, 0, none⟩) n cap ∧ n ≤ cap ∧ cap ≤ maxLen ∧ base ≤ g ∧ Tx w g ls := by
  obtain ⟨h1, h2⟩ := h
  rw [tv_length, Nat.mul_one] at h1
  rcases h2 with ⟨_, h⟩ | ⟨g, cap, cur, rfl, hb, hg, hnc, hcm, hs, ht⟩
  · omega
  · refine ⟨g, cap, rfl, hnc, hcm, hb, _, hg, fun w' hw i hi => ?_⟩
    rw [cell_of_row w' g i _ _ _ hw]
    have hh : (tv ls)[i]? = some (.string (sb (ls.getD i []))) := by
      simp [tv, List.getD, hi]
    rw [← hh, ← ht, Nat.mul_one, List.getElem?_take_of_lt (by omega)]
    simp
/-- The bytes that a text's parts say. -/
def e1 (x : List Nat) : Int := nm 10 x % 256
def e2 (x : List Nat) : List Int := [Int.tdiv (nm 16 x) 256, nm 16 x % 256]
def gB (l : List Nat) : List Int := if (cu 46 l).length = 4 then (cu 46 l).map e1 else if 8 ≤ (cu 58 l).length then ((cu 58 l).take 8).flatMap e2 else []
def gF (l : List Nat) : Int := if (gB l).length = 0 then 0 else af (gB l).length
theorem e1_in (x : List Nat) : 0 ≤ e1 x ∧ e1 x ≤ 255 := by unfold e1; omega
theorem e2_in (x : List Nat) : ∀ z ∈ e2 x, 0 ≤ z ∧ z ≤ 255 := by
  have h := nm_in 16 (by decide) (by decide) x
  have h2 : 0 ≤ Int.tdiv (nm 16 x) 256 ∧ Int.tdiv (nm 16 x) 256 ≤ 255 := by
    by_cases h0 : 0 ≤ nm 16 x
    · rw [Int.tdiv_eq_ediv_of_nonneg h0]; omega
    · rw [show nm 16 x = -1 by omega]; decide
  intro z hz
  unfold e2 at hz
  simp at hz
  rcases hz with rfl | rfl
  · exact h2
  · omega
theorem e2_len (ls : List (List Nat)) : (ls.flatMap e2).length = 2 * ls.length := by
  induction ls with
  | nil => rfl
  | cons x l ih =>
    rw [List.flatMap_cons, List.length_append, ih]
    simp [e2]
    omega
theorem gB_len (l : List Nat) : (gB l).length = 0 ∨ (gB l).length = 4 ∨ (gB l).length = 16 := by
  unfold gB
  split
  · rename_i h
    rw [List.length_map, h]
    exact .inr (.inl rfl)
  · split
    · rw [e2_len, List.length_take]
      omega
    · exact .inl rfl
theorem gB_byte (l : List Nat) : ∀ z ∈ gB l, 0 ≤ z ∧ z ≤ 255 := by
  intro z hz
  unfold gB at hz
  split at hz
  · obtain ⟨x, _, rfl⟩ := List.mem_map.1 hz
    exact e1_in x
  · split at hz
    · obtain ⟨x, _, h⟩ := List.mem_flatMap.1 hz
      exact e2_in x z h
    · cases hz
theorem cu_pos (c : Nat) (l : List Nat) : 0 < (cu c l).length := by
  unfold cu
  generalize ([] : List Nat) = cur
  induction l generalizing cur with
  | nil => simp [cq]
  | cons x l ih =>
    unfold cq
    split
    · simp
    · exact ih _
theorem getD_out7 (ls : List (List Nat)) (i : Nat) (h : ls.length ≤ i) : ls.getD i [] = [] := by
  unfold List.getD
  rw [List.getElem?_eq_none h]
  rfl
theorem take_texts (ls : List (List Nat)) (j : Nat) (h : j < ls.length) : ls.take (j + 1) = ls.take j ++ [ls.getD j []] := by
  rw [List.take_succ_eq_append_getElem h]
  simp [List.getD, h]
theorem cu_lt (c : Nat) (l : List Nat) (hy : ∀ x ∈ l, x < 256) (i : Nat) : ∀ x ∈ (cu c l).getD i [], x < 256 := by
  intro x hx
  by_cases hi : i < (cu c l).length
  · have : (cu c l).getD i [] = (cu c l)[i] := by simp [List.getD, hi]
    rw [this] at hx
    exact cq_sign c l (· < 256) hy [] (fun x hx => by cases hx) _ (List.getElem_mem hi) x hx
  · rw [getD_out7 _ _ (by omega)] at hx
    cases hx
theorem cu_short (c : Nat) (l : List Nat) (i : Nat) : ((cu c l).getD i []).length ≤ l.length := by
  by_cases hi : i < (cu c l).length
  · have : (cu c l).getD i [] = (cu c l)[i] := by simp [List.getD, hi]
    rw [this]
    have := cq_short c l [] _ (List.getElem_mem hi)
    simpa using this
  · rw [getD_out7 _ _ (by omega)]
    simp
theorem two_src (w : World) (X Y : Value) (t : TypeId) : ∀ (j : Nat) (u : Value), [X, Y][j]? = some u → (w.alloc (.cells #[X, Y] t)).cell? ((⟨w.heap.size, 0, none⟩ : Addr).add j) = some u := by
  intro j u hu
  have hj : j = 0 ∨ j = 1 := by
    have := (List.getElem?_eq_some_iff.1 hu).1
    simp at this
    omega
  rw [Addr.add_lit, Nat.zero_add, cell_of_row _ w.heap.size j _ _ (0, 0) (heap_alloc_new w _)]
  rcases hj with rfl | rfl <;> exact hu
theorem cells_map_succ (ls : List (List Nat)) (j : Nat) (h : j < ls.length) : cells ((ls.take j).map e1) ++ [.int .u8 (e1 (ls.getD j []))] = cells ((ls.take (j + 1)).map e1) := by
  rw [take_texts ls j h, List.map_append]
  unfold cells
  rw [List.map_append]
  rfl
theorem cells_flat_succ (ls : List (List Nat)) (j : Nat) (h : j < ls.length) : cells ((ls.take j).flatMap e2) ++ [.int .u8 (Int.tdiv (nm 16 (ls.getD j [])) 256), .int .u8 (nm 16 (ls.getD j []) % 256)] = cells ((ls.take (j + 1)).flatMap e2) := by
  rw [take_texts ls j h, List.flatMap_append]
  unfold cells
  rw [List.map_append]
  rfl
set_option maxHeartbeats 2000000 in
theorem refGuess_ (l : List Nat) (w : World) (hy : ∀ x ∈ l, x < 256) (hlen : l.length ≤ 64) :
    Calls Tryz.prog 23 #[.string (sb l)] w fun e w' => e = .returned (.agg #[.int .i64 (gF l), .int .u64 (ah (gB l)), .int .u64 (al (gB l))]) ∧ Below w.heap.size w w' := by
  obtain ⟨i5, hi, hz0, hz1, hz2⟩ := info_parts info5
  have HY := hid hy
  have hml : l.length ≤ maxLen := by unfold maxLen; omega
  have k1 := fun w => refParts_ l 46 w hy hlen (by decide)
  have k2 := fun w => refParts_ l 58 w hy hlen (by decide)
  have kn := fun c i w => refNumber10_ ((cu c l).getD i []) w (cu_lt c l hy i) (Nat.le_trans (cu_short c l i) hml)
  have km := fun c i w => refNumber16_ ((cu c l).getD i []) w (cu_lt c l hy i) (Nat.le_trans (cu_short c l i) hml)
  have HG : Hid (gB l = if (cu 46 l).length = 4 then (cu 46 l).map e1 else if 8 ≤ (cu 58 l).length then ((cu 58 l).take 8).flatMap e2 else []) := rfl
  have HF : Hid (gF l = if (gB l).length = 0 then 0 else af (gB l).length) := rfl
  have HGB := hid (gB_byte l)
  clear hy hml
  have hp1 := cu_pos 46 l
  have hp2 := cu_pos 58 l
  generalize sb l = S at *
  go_enter Tryz.func23, Tryz.ntmps23
  go_wp2_with fail
  refine (k1 _).mono ?_
  rintro e w1 ⟨v, rfl, ho, g2⟩
  have m0 := (Am.new w 0 0 0).kept g2
  have B0 := bel_bel (anew w 0 0 0) (anew w 0 0 0).size g2
  obtain ⟨gl, cl, rfl, h1, hcl, hgl, ht⟩ := own_texts ho hp1
  unfold maxLen at hcl
  clear ho k1 g2 hgl
  by_cases h4 : (cu 46 l).length = 4
  · have HGE : Hid (gB l = (cu 46 l).map e1) := by show _ = _; rw [HG.out, if_pos h4]
    have HFE : Hid (gF l = 4) := by show _ = _; rw [HF.out, HGE.out, List.length_map, h4]; rfl
    have kq := fun i w => kn 46 i w
    clear HG HF k2 kn km hp1 hp2
    generalize cu 46 l = ls at *
    rw [h4] at h1 ⊢
    have hg1 := ht.lt
    go_wp2_with fail
    go_loopw [3, 5] (fun v i wr => ∃ j : Nat, j ≤ 4 ∧ i = .int .i64 j ∧ wr.ownsRow w1.heap.size 5 1 v j (cells ((ls.take j).map e1)) ∧ Tx wr gl ls ∧ Am wr w.heap.size 0 0 0 ∧ Below w.heap.size w wr ∧ w1.heap.size ≤ wr.heap.size) (fun _ i _ => 4 - (intOf i).toNat)
    case atStart => exact ⟨0, by omega, rfl, World.ownsRow_nil _ _ _ _, ht, m0, B0, Nat.le_refl _⟩
    case round =>
      have hm1 := m0.lt
      clear ht m0 B0
      obtain ⟨j, hj, rfl, hown, ht, m0, B0, hs⟩ := hrel
      by_cases hlt : j < 4
      · have hI : (j : Int) < 4 := by omega
        have cb := ht.cell j (by omega)
        have HSS := hid (cells_map_succ ls j (by omega))
        have HE1 : Hid (e1 (ls.getD j []) = nm 10 (ls.getD j []) % 256) := rfl
        have hnm := nm_in 10 (by decide) (by decide) (ls.getD j [])
        have kj := kq j
        clear kq
        generalize ls.getD j [] = x at *
        rw [HE1.out] at HSS
        generalize nm 10 x = N at *
        generalize sb x = T at *
        go_wp2_with fail
        refine (kj _).mono ?_
        rintro e w2 ⟨rfl, rfl⟩
        clear kj cb HE1
        have HO := hid hown
        have hw : IntKind.u8.wrap N = N % 256 := IntKind.wrap_u8 N
        obtain ⟨wo, hwo⟩ : ∃ wo, wo = w2 := ⟨_, rfl⟩
        go_wp2_with (at_builtin; go_loud (refine wpList_append_own _ rfl _ _ 41 rfl w1.heap.size 5 i5 (.int .u8 0) 1 1 Tryz.underlying41 hi hz0 hz1 hz2 rfl (by decide) _ _ _ rfl (hown.alloc _) ⟨w2.heap.size, 0, none⟩ 1 1 [.int .u8 (N % 256)] rfl rfl ?c1 ?c2 ?c3 ?c4 ?c5 ?_))
        case c1 => exact one_src _ _ _
        case c2 => intro u hu; rw [List.mem_singleton.1 hu]; rfl
        case c3 => unfold maxLen; omega
        case c4 => omega
        case c5 => simp <;> omega
        intro v' w6 hown' hgrow _
        have hown2 : w6.ownsRow w1.heap.size 5 1 v' (j + 1) (cells ((ls.take (j + 1)).map e1)) := by rw [← HSS.out, List.map_take]; exact hown'
        have hs0 := B0.size
        have B3 : Below w.heap.size w w6 := (B0.alloc (by omega) _).grown hgrow (by simp; omega) fun p hp => by have := (HO.out.lt p hp).1; omega
        have m2 : Am w6 w.heap.size 0 0 0 := (m0.alloc (.cells #[.int .u8 (N % 256)] 5)).at (hgrow.block _ (by simp; omega) (fun e => by have := (HO.out.lt w.heap.size e.symm).1; omega))
        have t2 : Tx w6 gl ls := (ht.kept ((Below.refl _ _).alloc (Nat.le_refl _) (.cells #[.int .u8 (N % 256)] 5))).at (hgrow.block _ (by simp; omega) (fun e => by have := (HO.out.lt gl e.symm).1; omega))
        have hs6 : w1.heap.size ≤ w6.heap.size := by have := hgrow.size; simp at this; omega
        clear hown' hgrow HO HSS hown B0 m0 ht
        go_wp2_with fail
        go_roundw
        case rel => exact ⟨j + 1, by omega, by go_num, hown2, t2, m2, B3, hs6⟩
        case measure => simp [intOf]; omega
      · have hI : ¬ (j : Int) < 4 := by omega
        obtain rfl : j = 4 := by omega
        rw [List.take_of_length_le (by omega), ← HGE.out] at hown
        obtain ⟨gb, cb, rfl, hb1, hb2, hbg, hh, hbl⟩ := own_head hown (by decide)
        unfold maxLen at hb2
        have k5 := refAddr_ gb 0 4 cb (gB l) wr hbl (.inl rfl) HGB.out (fun i hi => by rw [Nat.zero_add]; exact hh.cell i (by omega))
        clear hown kq HGB HGE
        go_wp2_with fail
        refine k5.mono ?_
        rintro e w5 ⟨rfl, g2⟩
        replace m0 := m0.kept g2
        replace B0 := bel_bel B0 B0.size g2
        clear g2 k5 hh ht
        rw [show af 4 = 4 from rfl]
        obtain ⟨X, HX⟩ : ∃ X, Hid (ah (gB l) = X) := ⟨_, rfl⟩
        obtain ⟨Y, HY2⟩ : ∃ Y, Hid (al (gB l) = Y) := ⟨_, rfl⟩
        rw [HX.out, HY2.out]
        go_wp2_with (refine wpList_sa rfl rfl _ _ rfl w.heap.size 4 X Y rfl rfl 0 0 0 (by with_reducible exact m0) ?_)
        refine bodyPost_ret (results_a rfl _ _ w.heap.size 4 X Y rfl (m0.row _ _ _)) rfl ⟨by rw [HFE.out, HX.out, HY2.out], bel_row B0 (Nat.le_refl _) _⟩
  · have n4 : ((((cu 46 l).length : Nat) : Int) == 4) = false := by simp; omega
    replace HG : Hid (gB l = if 8 ≤ (cu 58 l).length then ((cu 58 l).take 8).flatMap e2 else []) := by show _ = _; rw [HG.out, if_neg h4]
    have kq := fun i w => km 58 i w
    have hm4 : (cu 46 l).length ≤ 65 := by have := cq_len 46 l []; unfold cu; omega
    clear kn km hp1 h4
    generalize (cu 46 l).length = n46 at *
    go_wp2_with fail
    refine (k2 _).mono ?_
    rintro e w3 ⟨v, rfl, ho, g2⟩
    replace m0 := m0.kept g2
    replace B0 := bel_bel B0 B0.size g2
    clear ht
    obtain ⟨gk2, ck, rfl, hk1, hk2, hkg, ht⟩ := own_texts ho hp2
    unfold maxLen at hk2
    clear ho k2 g2 hkg n4 hm4 h1 hcl
    have hgs := ht.lt
    generalize cu 58 l = ls at *
    obtain ⟨n, HN⟩ : ∃ n, Hid (ls.length = n) := ⟨_, rfl⟩
    rw [HN.out] at hk1 hp2 HG ⊢
    go_wp2_with fail
    go_loopw [3, 7] (fun v i wr => ∃ j : Nat, j ≤ n ∧ j ≤ 8 ∧ i = .int .i64 j ∧ wr.ownsRow w3.heap.size 5 1 v (2 * j) (cells ((ls.take j).flatMap e2)) ∧ Tx wr gk2 ls ∧ Am wr w.heap.size 0 0 0 ∧ Below w.heap.size w wr ∧ w3.heap.size ≤ wr.heap.size) (fun _ i _ => 8 - (intOf i).toNat)
    case atStart => exact ⟨0, by omega, by omega, rfl, World.ownsRow_nil _ _ _ _, ht, m0, B0, Nat.le_refl _⟩
    case round =>
      have hm1 := m0.lt
      clear ht m0 B0
      obtain ⟨j, hjn, hj, rfl, hown, ht, m0, B0, hs⟩ := hrel
      by_cases hlt : j < n ∧ j < 8
      · have d1 : decide ((j : Int) < (n : Int)) = true := by simp; omega
        have d2 : decide ((j : Int) < 8) = true := by simp; omega
        have cb := ht.cell j (by rw [HN.out]; omega)
        have HSS := hid (cells_flat_succ ls j (by rw [HN.out]; omega))
        have hnm := nm_in 16 (by decide) (by decide) (ls.getD j [])
        have kj := kq j
        clear kq
        generalize ls.getD j [] = x at *
        generalize nm 16 x = N at *
        generalize sb x = T at *
        go_wp2_with fail
        refine (kj _).mono ?_
        rintro e w4 ⟨rfl, rfl⟩
        clear kj cb
        have HO := hid hown
        have hw : IntKind.u8.wrap N = N % 256 := IntKind.wrap_u8 N
        have hq : 0 ≤ Int.tdiv N 256 ∧ Int.tdiv N 256 ≤ 255 := by
          by_cases h0 : 0 ≤ N
          · rw [Int.tdiv_eq_ediv_of_nonneg h0]; omega
          · rw [show N = -1 by omega]; decide
        have hM : Int.tdiv N 256 % 256 = Int.tdiv N 256 := by omega
        rw [← hM] at HSS
        clear hM hq
        go_wp2_with (at_builtin; go_loud (refine wpList_append_own _ rfl _ _ 41 rfl w3.heap.size 5 i5 (.int .u8 0) 1 1 Tryz.underlying41 hi hz0 hz1 hz2 rfl (by decide) _ _ _ rfl (hown.alloc _) ⟨w4.heap.size, 0, none⟩ 2 2 [.int .u8 (Int.tdiv N 256 % 256), .int .u8 (N % 256)] rfl rfl ?c1 ?c2 ?c3 ?c4 ?c5 ?_))
        case c1 => exact two_src _ _ _ _
        case c2 => intro u hu; simp at hu; rcases hu with rfl | rfl <;> rfl
        case c3 => unfold maxLen; omega
        case c4 => omega
        case c5 => simp <;> omega
        intro v' w6 hown' hgrow _
        have hown2 : w6.ownsRow w3.heap.size 5 1 v' (2 * (j + 1)) (cells ((ls.take (j + 1)).flatMap e2)) := by rw [← HSS.out]; exact hown'
        have hs0 := B0.size
        have B3 : Below w.heap.size w w6 := (B0.alloc (by omega) _).grown hgrow (by simp; omega) fun p hp => by have := (HO.out.lt p hp).1; omega
        have m2 : Am w6 w.heap.size 0 0 0 := (m0.alloc (.cells #[.int .u8 (Int.tdiv N 256 % 256), .int .u8 (N % 256)] 5)).at (hgrow.block _ (by simp; omega) (fun e => by have := (HO.out.lt w.heap.size e.symm).1; omega))
        have t2 : Tx w6 gk2 ls := (ht.kept ((Below.refl _ _).alloc (Nat.le_refl _) (.cells #[.int .u8 (Int.tdiv N 256 % 256), .int .u8 (N % 256)] 5))).at (hgrow.block _ (by simp; omega) (fun e => by have := (HO.out.lt gk2 e.symm).1; omega))
        have hs6 : w3.heap.size ≤ w6.heap.size := by have := hgrow.size; simp at this; omega
        clear hown' hgrow HO HSS hown B0 m0 ht
        go_wp2_with fail
        go_roundw
        case rel => exact ⟨j + 1, by omega, by omega, by go_num, hown2, t2, m2, B3, hs6⟩
        case measure => simp [intOf]; omega
      · by_cases h8 : j = 8
        · subst h8
          have HGE : Hid (gB l = (ls.take 8).flatMap e2) := by show _ = _; rw [HG.out, if_pos (by omega)]
          have HFE : Hid (gF l = 6) := by show _ = _; rw [HF.out, HGE.out, e2_len, List.length_take, HN.out, show min 8 n = 8 by omega]; rfl
          rw [← HGE.out] at hown
          obtain ⟨gb, cb, rfl, hb1, hb2, hbg, hh, hbl⟩ := own_head hown (by decide)
          unfold maxLen at hb2
          have k5 := refAddr_ gb 0 16 cb (gB l) wr hbl (.inr rfl) HGB.out (fun i hi => by rw [Nat.zero_add]; exact hh.cell i (by omega))
          clear hown kq HGB HGE HG HF
          by_cases h8n : 8 < n
          · have d8 : decide ((8 : Int) < (n : Int)) = true := by simp; omega
            go_wp2_with fail
            refine k5.mono ?_
            rintro e w5 ⟨rfl, g2⟩
            replace m0 := m0.kept g2
            replace B0 := bel_bel B0 B0.size g2
            clear g2 k5 hh ht
            rw [show af 16 = 6 from rfl]
            obtain ⟨X, HX⟩ : ∃ X, Hid (ah (gB l) = X) := ⟨_, rfl⟩
            obtain ⟨Y, HY2⟩ : ∃ Y, Hid (al (gB l) = Y) := ⟨_, rfl⟩
            rw [HX.out, HY2.out]
            go_wp2_with (refine wpList_sa rfl rfl _ _ rfl w.heap.size 6 X Y rfl rfl 0 0 0 (by with_reducible exact m0) ?_)
            refine bodyPost_ret (results_a rfl _ _ w.heap.size 6 X Y rfl (m0.row _ _ _)) rfl ⟨by rw [HFE.out, HX.out, HY2.out], bel_row B0 (Nat.le_refl _) _⟩
          · have d8 : decide ((8 : Int) < (n : Int)) = false := by simp; omega
            go_wp2_with fail
            refine k5.mono ?_
            rintro e w5 ⟨rfl, g2⟩
            replace m0 := m0.kept g2
            replace B0 := bel_bel B0 B0.size g2
            clear g2 k5 hh ht
            rw [show af 16 = 6 from rfl]
            obtain ⟨X, HX⟩ : ∃ X, Hid (ah (gB l) = X) := ⟨_, rfl⟩
            obtain ⟨Y, HY2⟩ : ∃ Y, Hid (al (gB l) = Y) := ⟨_, rfl⟩
            rw [HX.out, HY2.out]
            go_wp2_with (refine wpList_sa rfl rfl _ _ rfl w.heap.size 6 X Y rfl rfl 0 0 0 (by with_reducible exact m0) ?_)
            refine bodyPost_ret (results_a rfl _ _ w.heap.size 6 X Y rfl (m0.row _ _ _)) rfl ⟨by rw [HFE.out, HX.out, HY2.out], bel_row B0 (Nat.le_refl _) _⟩
        · have hI : ¬ (j : Int) < (n : Int) := by omega
          obtain rfl : j = n := by omega
          have HGE : Hid (gB l = []) := by show _ = _; rw [HG.out, if_neg (by omega)]
          have HFE : Hid (gF l = 0 ∧ ah (gB l) = 0 ∧ al (gB l) = 0) := by show _; rw [HF.out, HGE.out]; exact ⟨rfl, rfl, rfl⟩
          obtain ⟨gb, cb, rfl, hb1, hb2, hbg, hh, hbl⟩ := own_head hown (by omega)
          unfold maxLen at hb2
          have d1 : decide ((j : Int) < (j : Int)) = false := by simp
          have d16 : (((2 * j : Nat) : Int) == 16) = false := by simp; omega
          have d17 : ((2 * (j : Int)) == 16) = false := by simp; omega
          clear hown kq HGB HGE HG HF hh ht
          go_wp2_with (refine wpList_sa rfl rfl _ _ rfl w.heap.size 0 0 0 rfl rfl 0 0 0 (by with_reducible exact m0) ?_)
          refine bodyPost_ret (results_a rfl _ _ w.heap.size 0 0 0 rfl (m0.row _ _ _)) rfl ⟨by rw [HFE.out.1, HFE.out.2.1, HFE.out.2.2], bel_row B0 (Nat.le_refl _) _⟩
end Go.Proofs.YtknjokmoommdeabGreatDoor
