import Derived.Test.YtgcbfamlediafaaRefE
import Derived.Test.YtgcbfamlediafaaRefD
namespace Go.Proofs.Ytgcbfamlediafaa
set_option maxRecDepth 100000
open Go.RowKit
set_option linter.unusedVariables false

theorem own_gen {w w' : World} {B e s n : Nat} {v : Value} {xs : List Value} (h : w.ownsRow B e s v n xs) (hq : ∀ g, B ≤ g → g < w.heap.size → w'.heap[g]? = w.heap[g]?) : w'.ownsRow B e s v n xs := by
  obtain ⟨h1, h2⟩ := h
  refine ⟨h1, ?_⟩
  rcases h2 with h2 | ⟨g, cap, cur, e1, hb, hg, r⟩
  · exact .inl h2
  · exact .inr ⟨g, cap, cur, e1, hb, by rw [hq g hb (Array.getElem?_eq_some_iff.1 hg).1]; exact hg, r⟩
theorem own_le {w : World} {B B' e s n : Nat} {v : Value} {xs : List Value} (h : w.ownsRow B e s v n xs) (hB : B' ≤ B) : w.ownsRow B' e s v n xs := by
  obtain ⟨h1, h2⟩ := h
  refine ⟨h1, ?_⟩
  rcases h2 with h2 | ⟨g, cap, cur, e1, hb, r⟩
  · exact .inl h2
  · exact .inr ⟨g, cap, cur, e1, by omega, r⟩
theorem own_kept {w w' : World} {B e s n : Nat} {v : Value} {xs : List Value} (h : w.ownsRow B e s v n xs) (hb : Below w.heap.size w w') : w'.ownsRow B e s v n xs := own_gen h fun g _ hg => hb.block g hg
theorem own_orow {w : World} {B e s n g' : Nat} {v : Value} {xs : List Value} (h : w.ownsRow B e s v n xs) (hg : g' < B) (ds : Array Value) : (w.setRow g' ds).ownsRow B e s v n xs := own_gen h fun g hB _ => setRow_other w g' g ds (by omega)
theorem bel_drw {B : Nat} {a b : World} (h : Below B a b) : Below B a b.drew := h.trans ⟨rfl, rfl, rfl, Nat.le_refl _, fun _ _ => rfl⟩
theorem st_more (k : Nat → Nat) (nz t : List Nat) (j : Nat) (h : j < t.length) : cells (ic ((st k nz t).take j)) ++ [.int .u8 ((st k nz t).getD j 0 : Nat)] = cells (ic ((st k nz t).take (j + 1))) := by
  have hl : j < (st k nz t).length := by rw [st_length]; exact h
  rw [List.take_succ_eq_append_getElem hl, ic_append, cells_append]
  simp [cells, ic, List.getD, hl]
theorem Ci.kept {w w' : World} {g : Nat} {k : Nat → Nat} (h : Ci w g k) (hb : Below w.heap.size w w') : Ci w' g k := h.keep hb h.lt

set_option maxHeartbeats 2000000 in
theorem streamed_ (g : Nat) (k : Nat → Nat) (a : Option Addr) (cap : Nat) (nz : List Nat) (a2 : Option Addr) (n cap2 : Nat) (t : List Nat) (w : World) (hc : Ci w g k) (hk : ∀ j, k j < 256) (hb : Bs w a 12 (ic nz)) (hnz : ∀ x ∈ nz, x < 256) (ht : Bs w a2 n (ic t)) (hby : ∀ x ∈ t, x < 256) (hn : n ≤ 1000000000) :
    Calls Try.prog 62 #[.pointer (some ⟨g, 0, none⟩), .slice a 12 cap, .slice a2 n cap2] w fun e w' => ∃ v, e = .returned v ∧ w'.ownsRow w.heap.size 5 1 v n (cells (ic (st k nz t))) ∧ Below w.heap.size w w' := by
  obtain ⟨i, hi, hz0, hz1, hz2⟩ := info_parts info5
  have HL : Hid (t.length = n) := by have := ht.1; rw [ic_length] at this; exact this
  have HK := hid hk
  have HNZ := hid hnz
  have HBY := hid hby
  have hgl := hc.lt
  clear hk hnz hby
  obtain ⟨A0, B0⟩ := new1 w (av fun _ => 0)
  go_enter Try.func62, Try.ntmps62
  go_wp2_with fail
  rw [zeros16a]
  generalize w.alloc (.cells (av fun _ => 0) 98) = w1 at *
  go_loopw [7, 9] (fun v i wr => ∃ (j : Nat) (S : Nat → Nat), j ≤ n ∧ i = .int .i64 j ∧ wr.ownsRow (w.heap.size + 1) 5 1 v j (cells (ic ((st k nz t).take j))) ∧ Ar wr w.heap.size (av S) ∧ Hid (¬ j % 16 = 0 → ∀ i, S i = bl k (cb nz (2 + j / 16)) 14 i) ∧ Below w.heap.size w wr) (fun _ i _ => n - (intOf i).toNat)
  case atStart => exact ⟨0, fun _ => 0, by omega, rfl, World.ownsRow_nil _ _ _ _, A0, fun h => absurd rfl h, B0⟩
  case round =>
    obtain ⟨j, S, hj, rfl, hown, aS, HSS, b0⟩ := hrel
    obtain ⟨v, rfl⟩ : ∃ v, v = u7 := ⟨_, rfl⟩
    clear A0 B0
    by_cases hlt : j < n
    · obtain ⟨b, off, rfl, hcell⟩ := ht.byte j hlt
      by_cases h16 : j % 16 = 0
      · have kc := fun w hb => counter_ a cap nz (2 + j / 16) w hb (by omega)
        have kb := fun w hc => refBlock_ g k (cb nz (2 + j / 16)) w hc HK.out (cb_lt HNZ.out _)
        rw [show ((2 + j / 16 : Nat) : Int) = 2 + (j : Int) / 16 from by omega] at kc
        obtain ⟨S1, HS1⟩ : ∃ S1, Hid (bl k (cb nz (2 + j / 16)) 14 = S1) := ⟨_, rfl⟩
        rw [HS1.out] at kb
        have HSx : Hid (S1 (j % 16) = sx k nz j) := by show _ = _; rw [← HS1.out]; rfl
        have HS2 : Hid (¬ (j + 1) % 16 = 0 → ∀ i, S1 i = bl k (cb nz (2 + (j + 1) / 16)) 14 i) := fun h i => by rw [← HS1.out, show (j + 1) / 16 = j / 16 from by omega]
        clear HS1 HSS
        generalize cb nz (2 + j / 16) = C at *
        have e16 : (j : Int) % 16 = 0 := by omega
        have s0 := b0.size
        go_wp2_with fail
        refine (kc _ (hb.below b0)).mono ?_
        rintro e w2 ⟨rfl, g2⟩
        have hown := (own_kept hown g2).alloc (.cells (av C) 98)
        have aS := (aS.kept g2).alloc (.cells (av C) 98)
        have A2 := Ar.new w2 (av C)
        have b0 := bel_bel b0 s0 g2
        have b0 := b0.alloc b0.size (.cells (av C) 98)
        clear g2 kc s0
        go_wp2_with (first | (refine wpList_stna rfl rfl _ _ rfl _ _ _ rfl rfl rfl (by rfl) ?_) | (refine wpList_lda rfl _ rfl _ rfl _ (by with_reducible exact A2) ?_))
        generalize w2.heap.size = g2 at *
        generalize w2.alloc (.cells (av C) 98) = w4 at *
        have s0 := b0.size
        refine (kb _ (hc.keep b0 hgl)).mono ?_
        rintro e w5 ⟨rfl, g5⟩
        have hown := own_orow (own_kept hown g5) (g' := w.heap.size) (by omega) (av S1)
        have aS' := aS.kept g5
        have aS := aS'.row (av S1)
        have b0 := bel_row (bel_bel b0 s0 g5) (g := w.heap.size) (Nat.le_refl _) (av S1)
        clear g5 kb s0 A2 e16
        go_wp2_with (refine wpList_sta rfl rfl _ _ rfl w.heap.size S1 rfl rfl _ (by with_reducible exact aS') ?_)
        clear aS'
        generalize w5.setRow w.heap.size (av S1) = w6 at *
        have hl1 := World.block_lt_of_cell? w _ hcell
        have ct := (b0.cell hl1).trans hcell
        have cs := aS.byte (j % 16) (by omega)
        have HN : Hid (cells (ic ((st k nz t).take j)) ++ [.int .u8 ((st k nz t).getD j 0 : Nat)] = cells (ic ((st k nz t).take (j + 1)))) := st_more k nz t j (by rw [HL.out]; exact hlt)
        have HG : Hid ((st k nz t).getD j 0 = t.getD j 0 ^^^ S1 (j % 16)) := by show _ = _; rw [HSx.out, st_get _ _ _ _ (by rw [HL.out]; exact hlt)]
        have lx : t.getD j 0 < 256 := getD_lt HBY.out _
        have ly : S1 (j % 16) < 256 := by rw [HSx.out]; exact sx_lt HK.out HNZ.out j
        have x1 := u8x lx ly
        rw [← HG.out] at x1
        obtain ⟨r, Hr⟩ : ∃ r, Hid (j % 16 = r) := ⟨_, rfl⟩
        have em : (j : Int).tmod 16 = (r : Int) := by rw [← Hr.out, Int.tmod_eq_emod_of_nonneg (by omega)]; omega
        have hr16 : r < 16 := by rw [← Hr.out]; omega
        have hr16i : (r : Int) < 16 := by omega
        rw [Hr.out] at cs x1
        clear HSx HG lx ly hcell Hr
        generalize (st k nz t).getD j 0 = z at *
        generalize t.getD j 0 = x at *
        generalize S1 r = y at *
        have ct2 : (w6.alloc (.cells #[.int .u8 (z : Nat)] 5)).cell? ⟨b, off + j, none⟩ = some (.int .u8 (x : Nat)) := by rw [World.cell?_alloc_lt _ _ _ (World.block_lt_of_cell? w6 _ ct)]; exact ct
        have HO : Hid ((w6.alloc (.cells #[.int .u8 (z : Nat)] 5)).drew.ownsRow (w.heap.size + 1) 5 1 v j (cells (ic ((st k nz t).take j)))) := hown.alloc _
        have s1 := b0.size
        have l1 := aS.lt
        go_region_law (refine step_append_lies _ rfl (.tmp 28) (.tmp 38) 25 rfl (w.heap.size + 1) 5 i (.int .u8 0) 1 1 Try.underlying25 hi hz0 hz1 hz2 rfl (by decide) v j _ rfl HO.out ⟨w6.heap.size, 0, none⟩ 1 1 [.int .u8 (z : Nat)] rfl rfl (fun j u hj => by
            match j, hj with
            | 0, hj => simp at hj; subst hj; simp [Addr.add]) (by intro u hu; simp at hu; subst hu; rfl) (by omega) (by unfold maxLen; omega) (by omega) (by simp; omega) _ rfl ?_; intro g' cap' w3 hown' hgrow hat hltg)
        all_goals
          have aS2 : Ar w3 w.heap.size (av S1) := by
            have h0 : Ar ((w6.alloc (.cells #[.int .u8 (z : Nat)] 5)).drew) w.heap.size (av S1) := aS.alloc _
            unfold Ar at *
            rw [hgrow.block _ (by simp; omega) (fun e => by have := (HO.out.lt _ e.symm).1; omega)]
            exact h0
          have b2 : Below w.heap.size w w3 := (bel_drw (b0.alloc s1 (.cells #[.int .u8 (z : Nat)] 5))).grown hgrow (by simp; omega) fun q hq => by have := (HO.out.lt q hq).1; omega
          rw [HN.out] at hown'
          clear hgrow hat hltg HO HN ct cs ct2 x1 hown aS b0 em
          go_wp2_with fail
          go_roundw
          case rel => exact ⟨j + 1, S1, by omega, by go_num, hown', aS2, HS2, b2⟩
          case measure => simp [intOf]; omega
      · have HSx : Hid (S (j % 16) = sx k nz j) := HSS.out h16 _
        have HS2 : Hid (¬ (j + 1) % 16 = 0 → ∀ i, S i = bl k (cb nz (2 + (j + 1) / 16)) 14 i) := fun h => by rw [show (j + 1) / 16 = j / 16 from by omega]; exact HSS.out h16
        have e16 : ¬ (j : Int) % 16 = 0 := by omega
        have e16b : ((j : Int) % 16 == 0) = false := by simpa using e16
        have hl1 := World.block_lt_of_cell? w _ hcell
        have ct := (b0.cell hl1).trans hcell
        have cs := aS.byte (j % 16) (by omega)
        have HN : Hid (cells (ic ((st k nz t).take j)) ++ [.int .u8 ((st k nz t).getD j 0 : Nat)] = cells (ic ((st k nz t).take (j + 1)))) := st_more k nz t j (by rw [HL.out]; exact hlt)
        have HG : Hid ((st k nz t).getD j 0 = t.getD j 0 ^^^ S (j % 16)) := by show _ = _; rw [HSx.out, st_get _ _ _ _ (by rw [HL.out]; exact hlt)]
        have lx : t.getD j 0 < 256 := getD_lt HBY.out _
        have ly : S (j % 16) < 256 := by rw [HSx.out]; exact sx_lt HK.out HNZ.out j
        have x1 := u8x lx ly
        rw [← HG.out] at x1
        obtain ⟨r, Hr⟩ : ∃ r, Hid (j % 16 = r) := ⟨_, rfl⟩
        have em : (j : Int).tmod 16 = (r : Int) := by rw [← Hr.out, Int.tmod_eq_emod_of_nonneg (by omega)]; omega
        have hr16 : r < 16 := by rw [← Hr.out]; omega
        have hr16i : (r : Int) < 16 := by omega
        rw [Hr.out] at cs x1
        have er : ¬ (r : Int) = 0 := by rw [← Hr.out]; omega
        have erb : ((r : Int) == 0) = false := by simpa using er
        clear HSx HG lx ly hcell Hr
        generalize (st k nz t).getD j 0 = z at *
        generalize t.getD j 0 = x at *
        generalize S r = y at *
        have ct2 : (wr.alloc (.cells #[.int .u8 (z : Nat)] 5)).cell? ⟨b, off + j, none⟩ = some (.int .u8 (x : Nat)) := by rw [World.cell?_alloc_lt _ _ _ (World.block_lt_of_cell? wr _ ct)]; exact ct
        have HO : Hid ((wr.alloc (.cells #[.int .u8 (z : Nat)] 5)).drew.ownsRow (w.heap.size + 1) 5 1 v j (cells (ic ((st k nz t).take j)))) := hown.alloc _
        have s1 := b0.size
        have l1 := aS.lt
        go_wp2_with fail
        go_region_law (refine step_append_lies _ rfl (.tmp 28) (.tmp 38) 25 rfl (w.heap.size + 1) 5 i (.int .u8 0) 1 1 Try.underlying25 hi hz0 hz1 hz2 rfl (by decide) v j _ rfl HO.out ⟨wr.heap.size, 0, none⟩ 1 1 [.int .u8 (z : Nat)] rfl rfl (fun j u hj => by
            match j, hj with
            | 0, hj => simp at hj; subst hj; simp [Addr.add]) (by intro u hu; simp at hu; subst hu; rfl) (by omega) (by unfold maxLen; omega) (by omega) (by simp; omega) _ rfl ?_; intro g' cap' w3 hown' hgrow hat hltg)
        all_goals
          have aS2 : Ar w3 w.heap.size (av S) := by
            have h0 : Ar ((wr.alloc (.cells #[.int .u8 (z : Nat)] 5)).drew) w.heap.size (av S) := aS.alloc _
            unfold Ar at *
            rw [hgrow.block _ (by simp; omega) (fun e => by have := (HO.out.lt _ e.symm).1; omega)]
            exact h0
          have b2 : Below w.heap.size w w3 := (bel_drw (b0.alloc s1 (.cells #[.int .u8 (z : Nat)] 5))).grown hgrow (by simp; omega) fun q hq => by have := (HO.out.lt q hq).1; omega
          rw [HN.out] at hown'
          clear hgrow hat hltg HO HN ct cs ct2 x1 hown aS b0 em
          go_wp2_with fail
          go_roundw
          case rel => exact ⟨j + 1, S, by omega, by go_num, hown', aS2, HS2, b2⟩
          case measure => simp [intOf]; omega
    · have hge : ¬ (j : Int) < (n : Int) := by omega
      have e : j = n := by omega
      rw [e, List.take_of_length_le (by rw [st_length, HL.out]; exact Nat.le_refl _)] at hown
      clear e
      go_wp2_with fail
      go_ret
      exact ⟨_, rfl, own_le hown (by omega), b0⟩
end Go.Proofs.Ytgcbfamlediafaa
