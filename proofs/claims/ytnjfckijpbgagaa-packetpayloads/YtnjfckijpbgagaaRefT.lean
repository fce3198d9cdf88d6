import Derived.Test.YtnjfckijpbgagaaRefC
import Derived.Test.YtnjfckijpbgagaaRefG
namespace Go.Proofs.Ytnjfckijpbgagaa
set_option maxRecDepth 100000
open Go.RowKit
set_option linter.unusedVariables false

set_option maxRecDepth 100000 in
set_option maxHeartbeats 4000000 in
theorem refBlock_ (g : Nat) (k f : Nat → Nat) (w : World) (hc : Ci w g k) (hk : ∀ j, k j < 256) (hf : ∀ i, i < 16 → f i < 256) :
    Calls Try.prog 80 #[.pointer (some ⟨g, 0, none⟩), .agg (av f)] w fun e w' => e = .returned (.agg (av (bl k f 14))) ∧ Below w.heap.size w w' := by
  have hgl := hc.lt
  have C1 := fun w hc => keyed_ g 0 k f w hc (by omega) hk hf
  rw [show xk k 0 f = bl k f 0 from rfl] at C1
  obtain ⟨A0, A1, B0⟩ := new2 w (av f) (av fun _ => 0)
  go_enter Try.func80, Try.ntmps80
  go_wp2_with (refine wpList_lda rfl _ rfl w.heap.size rfl _ (by exact A0) ?_)
  rw [zeros16a]
  generalize (w.alloc (.cells (av f) 96)).alloc (.cells (av fun _ => 0) 96) = w1 at *
  have S0 := B0.size
  have l1 := A1.lt
  refine (C1 _ (hc.keep B0 hgl)).mono ?_
  rintro e w2 ⟨rfl, g2⟩
  have A1 := (A1.kept g2).alloc (.cells (av (bl k f 0)) 96)
  have A2 := Ar.new w2 (av (bl k f 0))
  have S2 := g2.size
  have B0 := bel_bel B0 S0 g2
  have B0 := B0.alloc B0.size (.cells (av (bl k f 0)) 96)
  clear g2 C1 A0 S0
  have hn : w.heap.size + 1 < w2.heap.size := by omega
  go_wp2_with (refine wpList_stna rfl rfl _ _ rfl _ _ _ rfl rfl rfl (by rfl) ?_)
  generalize hgb : w2.heap.size = gb at *
  generalize w2.alloc (.cells (av (bl k f 0)) 96) = w3 at *
  clear hgb l1 S2
  go_loopw [6] (fun i wr => ∃ q : Nat, q ≤ 14 ∧ i = .int .i64 ((q : Int) + 1) ∧ Ar wr (w.heap.size + 1) (av fun _ => 0) ∧ Ar wr gb (av (bl k f q)) ∧ Below w.heap.size w wr) (fun i _ => 15 - (intOf i).toNat)
  case atStart => exact ⟨0, by omega, rfl, A1, A2, B0⟩
  case round =>
    obtain ⟨q, hq, rfl, a1, a2, b0⟩ := hrel
    clear A1 A2 B0
    by_cases hlt : q < 14
    · have hfl := bl_lt hk hf q
      have S := b0.size
      have HN : Hid (bl k f (q + 1) = xk k (q + 1) (if q + 1 < 14 then mx (tn (bl k f q)) else tn (bl k f q))) := rfl
      have k1 := fun w hc => turned_ g k (bl k f q) w hc hfl
      have k2 := fun w hc => mixed_ g k (tn (bl k f q)) w hc (tn_lt hfl)
      have k3 := fun w hc => keyed_ g (q + 1) k (if q + 1 < 14 then mx (tn (bl k f q)) else tn (bl k f q)) w hc (by omega) hk (by split; exact mx_lt (tn_lt hfl); exact tn_lt hfl)
      rw [← HN.out, show ((q + 1 : Nat) : Int) = (q : Int) + 1 from rfl] at k3
      go_wp2_with (refine wpList_lda rfl _ rfl gb rfl _ (by exact a2) ?_)
      refine (k1 _ (hc.keep b0 hgl)).mono ?_
      rintro e wa ⟨rfl, g2⟩
      have a1 := (a1.kept g2).orow (g' := gb) (by omega) (av (tn (bl k f q)))
      have a2' := a2.kept g2
      have a2 := a2'.row (av (tn (bl k f q)))
      have b0 := bel_row (bel_bel b0 S g2) (g := gb) (by omega) (av (tn (bl k f q)))
      have S := b0.size
      clear g2 k1
      by_cases h14 : q + 1 < 14
      · have i14 : (q : Int) + 1 < 14 := by omega
        simp only [if_pos h14] at k3
        obtain ⟨n, Hn⟩ : ∃ n, Hid (bl k f (q + 1) = n) := ⟨_, rfl⟩
        rw [Hn.out] at k3
        clear HN
        generalize tn (bl k f q) = t at *
        generalize mx t = m at *
        go_wp2_with (first | (refine wpList_sta rfl rfl _ _ rfl gb t rfl rfl _ (by exact a2') ?_) | (refine wpList_lda rfl _ rfl gb rfl _ (by exact a2) ?_))
        clear a2'
        generalize wa.setRow gb (av t) = wb at *
        refine (k2 _ (hc.keep b0 hgl)).mono ?_
        rintro e wc ⟨rfl, g2⟩
        have a1 := (a1.kept g2).orow (g' := gb) (by omega) (av m)
        have a2' := a2.kept g2
        have a2 := a2'.row (av m)
        have b0 := bel_row (bel_bel b0 S g2) (g := gb) (by omega) (av m)
        have S := b0.size
        clear g2 k2
        go_wp2_with (first | (refine wpList_sta rfl rfl _ _ rfl gb m rfl rfl _ (by exact a2') ?_) | (refine wpList_lda rfl _ rfl gb rfl _ (by exact a2) ?_))
        clear a2'
        generalize wc.setRow gb (av m) = wd at *
        refine (k3 _ (hc.keep b0 hgl)).mono ?_
        rintro e we ⟨rfl, g2⟩
        have a1 := (a1.kept g2).orow (g' := gb) (by omega) (av n)
        have a2' := a2.kept g2
        have a2 := a2'.row (av n)
        have b0 := bel_row (bel_bel b0 S g2) (g := gb) (by omega) (av n)
        clear g2 k3 S
        go_wp2_with (refine wpList_sta rfl rfl _ _ rfl gb n rfl rfl _ (by exact a2') ?_)
        go_roundw
        case rel => exact ⟨q + 1, by omega, by go_num, a1, by rw [Hn.out]; exact a2, b0⟩
        case measure => simp [intOf]; omega
      · have i14 : ¬ (q : Int) + 1 < 14 := by omega
        simp only [if_neg h14] at k3
        obtain ⟨n, Hn⟩ : ∃ n, Hid (bl k f (q + 1) = n) := ⟨_, rfl⟩
        rw [Hn.out] at k3
        clear HN
        generalize tn (bl k f q) = t at *
        go_wp2_with (first | (refine wpList_sta rfl rfl _ _ rfl gb t rfl rfl _ (by exact a2') ?_) | (refine wpList_lda rfl _ rfl gb rfl _ (by exact a2) ?_))
        clear a2'
        generalize wa.setRow gb (av t) = wb at *
        refine (k3 _ (hc.keep b0 hgl)).mono ?_
        rintro e we ⟨rfl, g2⟩
        have a1 := (a1.kept g2).orow (g' := gb) (by omega) (av n)
        have a2' := a2.kept g2
        have a2 := a2'.row (av n)
        have b0 := bel_row (bel_bel b0 S g2) (g := gb) (by omega) (av n)
        clear g2 k3 k2 S
        go_wp2_with (refine wpList_sta rfl rfl _ _ rfl gb n rfl rfl _ (by exact a2') ?_)
        go_roundw
        case rel => exact ⟨q + 1, by omega, by go_num, a1, by rw [Hn.out]; exact a2, b0⟩
        case measure => simp [intOf]; omega
    · obtain rfl : q = 14 := by omega
      go_wp2_with (first | (refine wpList_lda rfl _ rfl gb rfl _ (by exact a2) ?_) | (refine wpList_sta rfl rfl _ _ rfl (w.heap.size + 1) (bl k f 14) rfl rfl _ (by exact a1) ?_))
      refine bodyPost_ret (v := .agg (av (bl k f 14))) ?_ rfl ⟨rfl, bel_row b0 (by omega) _⟩
      exact results_av rfl _ _ (w.heap.size + 1) (bl k f 14) rfl (a1.row _)
end Go.Proofs.Ytnjfckijpbgagaa
namespace Go.Proofs.Ytnjfckijpbgagaa
set_option maxRecDepth 100000
open Go.RowKit
set_option linter.unusedVariables false

theorem own_gen {w w' : World} {B e s n : Nat} {v : Value} {xs : List Value} (h : w.ownsRow B e s v n xs) (hq : ∀ g, B ≤ g → g < w.heap.size → w'.heap[g]? = w.heap[g]?) : w'.ownsRow B e s v n xs := by
  obtain ⟨h1, h2⟩ := h
  refine ⟨h1, ?_⟩
  rcases h2 with h2 | ⟨g, cap, cur, e1, hb, hg, r⟩
  · exact .inl h2
  · exact .inr ⟨g, cap, cur, e1, hb, by rw [hq g hb (Array.getElem?_eq_some_iff.1 hg).1]; exact hg, r⟩
theorem own_le {w : World} {B B' e s n : Nat} {v : Value} {xs : List Value} (h : w.ownsRow B e s v n xs) (hB : B' ≤ B) : w.ownsRow B' e s v n xs := by
  obtain ⟨h1, h2⟩ := h
  refine ⟨h1, ?_⟩
  rcases h2 with h2 | ⟨g, cap, cur, e1, hb, r⟩
  · exact .inl h2
  · exact .inr ⟨g, cap, cur, e1, by omega, r⟩
theorem own_kept {w w' : World} {B e s n : Nat} {v : Value} {xs : List Value} (h : w.ownsRow B e s v n xs) (hb : Below w.heap.size w w') : w'.ownsRow B e s v n xs := own_gen h fun g _ hg => hb.block g hg
theorem own_orow {w : World} {B e s n g' : Nat} {v : Value} {xs : List Value} (h : w.ownsRow B e s v n xs) (hg : g' < B) (ds : Array Value) : (w.setRow g' ds).ownsRow B e s v n xs := own_gen h fun g hB _ => setRow_other w g' g ds (by omega)
theorem bel_drw {B : Nat} {a b : World} (h : Below B a b) : Below B a b.drew := h.trans ⟨rfl, rfl, rfl, Nat.le_refl _, fun _ _ => rfl⟩
theorem st_more (k : Nat → Nat) (nz t : List Nat) (j : Nat) (h : j < t.length) : cells (ic ((st k nz t).take j)) ++ [.int .u8 ((st k nz t).getD j 0 : Nat)] = cells (ic ((st k nz t).take (j + 1))) := by
  have hl : j < (st k nz t).length := by rw [st_length]; exact h
  rw [List.take_succ_eq_append_getElem hl, ic_append, cells_append]
  simp [cells, ic, List.getD, hl]
theorem Ci.kept {w w' : World} {g : Nat} {k : Nat → Nat} (h : Ci w g k) (hb : Below w.heap.size w w') : Ci w' g k := h.keep hb h.lt

set_option maxHeartbeats 2000000 in
theorem streamed_ (g : Nat) (k : Nat → Nat) (a : Option Addr) (cap : Nat) (nz : List Nat) (a2 : Option Addr) (n cap2 : Nat) (t : List Nat) (w : World) (hc : Ci w g k) (hk : ∀ j, k j < 256) (hb : Bs w a 12 (ic nz)) (hnz : ∀ x ∈ nz, x < 256) (ht : Bs w a2 n (ic t)) (hby : ∀ x ∈ t, x < 256) (hn : n ≤ 1000000000) :
    Calls Try.prog 57 #[.pointer (some ⟨g, 0, none⟩), .slice a 12 cap, .slice a2 n cap2] w fun e w' => ∃ v, e = .returned v ∧ w'.ownsRow w.heap.size 5 1 v n (cells (ic (st k nz t))) ∧ Below w.heap.size w w' := by
  obtain ⟨i, hi, hz0, hz1, hz2⟩ := info_parts info5
  have HL : Hid (t.length = n) := by have := ht.1; rw [ic_length] at this; exact this
  have HK := hid hk
  have HNZ := hid hnz
  have HBY := hid hby
  have hgl := hc.lt
  clear hk hnz hby
  obtain ⟨A0, B0⟩ := new1 w (av fun _ => 0)
  go_enter Try.func57, Try.ntmps57
  go_wp2_with fail
  rw [zeros16a]
  generalize w.alloc (.cells (av fun _ => 0) 96) = w1 at *
  go_loopw [7, 9] (fun v i wr => ∃ (j : Nat) (S : Nat → Nat), j ≤ n ∧ i = .int .i64 j ∧ wr.ownsRow (w.heap.size + 1) 5 1 v j (cells (ic ((st k nz t).take j))) ∧ Ar wr w.heap.size (av S) ∧ Hid (¬ j % 16 = 0 → ∀ i, S i = bl k (cb nz (2 + j / 16)) 14 i) ∧ Below w.heap.size w wr) (fun _ i _ => n - (intOf i).toNat)
  case atStart => exact ⟨0, fun _ => 0, by omega, rfl, World.ownsRow_nil _ _ _ _, A0, fun h => absurd rfl h, B0⟩
  case round =>
    obtain ⟨j, S, hj, rfl, hown, aS, HSS, b0⟩ := hrel
    obtain ⟨v, rfl⟩ : ∃ v, v = u7 := ⟨_, rfl⟩
    clear A0 B0
    by_cases hlt : j < n
    · obtain ⟨b, off, rfl, hcell⟩ := ht.byte j hlt
      by_cases h16 : j % 16 = 0
      · have kc := fun w hb => counter_ a cap nz (2 + j / 16) w hb (by omega)
        have kb := fun w hc => refBlock_ g k (cb nz (2 + j / 16)) w hc HK.out (cb_lt HNZ.out _)
        rw [show ((2 + j / 16 : Nat) : Int) = 2 + (j : Int) / 16 from by omega] at kc
        obtain ⟨S1, HS1⟩ : ∃ S1, Hid (bl k (cb nz (2 + j / 16)) 14 = S1) := ⟨_, rfl⟩
        rw [HS1.out] at kb
        have HSx : Hid (S1 (j % 16) = sx k nz j) := by show _ = _; rw [← HS1.out]; rfl
        have HS2 : Hid (¬ (j + 1) % 16 = 0 → ∀ i, S1 i = bl k (cb nz (2 + (j + 1) / 16)) 14 i) := fun h i => by rw [← HS1.out, show (j + 1) / 16 = j / 16 from by omega]
        clear HS1 HSS
        generalize cb nz (2 + j / 16) = C at *
        have e16 : (j : Int) % 16 = 0 := by omega
        have s0 := b0.size
        go_wp2_with fail
        refine (kc _ (hb.below b0)).mono ?_
        rintro e w2 ⟨rfl, g2⟩
        have hown := (own_kept hown g2).alloc (.cells (av C) 96)
        have aS := (aS.kept g2).alloc (.cells (av C) 96)
        have A2 := Ar.new w2 (av C)
        have b0 := bel_bel b0 s0 g2
        have b0 := b0.alloc b0.size (.cells (av C) 96)
        clear g2 kc s0
        go_wp2_with (first | (refine wpList_stna rfl rfl _ _ rfl _ _ _ rfl rfl rfl (by rfl) ?_) | (refine wpList_lda rfl _ rfl _ rfl _ (by with_reducible exact A2) ?_))
        generalize w2.heap.size = g2 at *
        generalize w2.alloc (.cells (av C) 96) = w4 at *
        have s0 := b0.size
        refine (kb _ (hc.keep b0 hgl)).mono ?_
        rintro e w5 ⟨rfl, g5⟩
        have hown := own_orow (own_kept hown g5) (g' := w.heap.size) (by omega) (av S1)
        have aS' := aS.kept g5
        have aS := aS'.row (av S1)
        have b0 := bel_row (bel_bel b0 s0 g5) (g := w.heap.size) (Nat.le_refl _) (av S1)
        clear g5 kb s0 A2 e16
        go_wp2_with (refine wpList_sta rfl rfl _ _ rfl w.heap.size S1 rfl rfl _ (by with_reducible exact aS') ?_)
        clear aS'
        generalize w5.setRow w.heap.size (av S1) = w6 at *
        have hl1 := World.block_lt_of_cell? w _ hcell
        have ct := (b0.cell hl1).trans hcell
        have cs := aS.byte (j % 16) (by omega)
        have HN : Hid (cells (ic ((st k nz t).take j)) ++ [.int .u8 ((st k nz t).getD j 0 : Nat)] = cells (ic ((st k nz t).take (j + 1)))) := st_more k nz t j (by rw [HL.out]; exact hlt)
        have HG : Hid ((st k nz t).getD j 0 = t.getD j 0 ^^^ S1 (j % 16)) := by show _ = _; rw [HSx.out, st_get _ _ _ _ (by rw [HL.out]; exact hlt)]
        have lx : t.getD j 0 < 256 := getD_lt HBY.out _
        have ly : S1 (j % 16) < 256 := by rw [HSx.out]; exact sx_lt HK.out HNZ.out j
        have x1 := u8x lx ly
        rw [← HG.out] at x1
        obtain ⟨r, Hr⟩ : ∃ r, Hid (j % 16 = r) := ⟨_, rfl⟩
        have em : (j : Int).tmod 16 = (r : Int) := by rw [← Hr.out, Int.tmod_eq_emod_of_nonneg (by omega)]; omega
        have hr16 : r < 16 := by rw [← Hr.out]; omega
        have hr16i : (r : Int) < 16 := by omega
        rw [Hr.out] at cs x1
        clear HSx HG lx ly hcell Hr
        generalize (st k nz t).getD j 0 = z at *
        generalize t.getD j 0 = x at *
        generalize S1 r = y at *
        have ct2 : (w6.alloc (.cells #[.int .u8 (z : Nat)] 5)).cell? ⟨b, off + j, none⟩ = some (.int .u8 (x : Nat)) := by rw [World.cell?_alloc_lt _ _ _ (World.block_lt_of_cell? w6 _ ct)]; exact ct
        have HO : Hid ((w6.alloc (.cells #[.int .u8 (z : Nat)] 5)).drew.ownsRow (w.heap.size + 1) 5 1 v j (cells (ic ((st k nz t).take j)))) := hown.alloc _
        have s1 := b0.size
        have l1 := aS.lt
        go_region_law (refine step_append_lies _ rfl (.tmp 28) (.tmp 38) 22 rfl (w.heap.size + 1) 5 i (.int .u8 0) 1 1 Try.underlying22 hi hz0 hz1 hz2 rfl (by decide) v j _ rfl HO.out ⟨w6.heap.size, 0, none⟩ 1 1 [.int .u8 (z : Nat)] rfl rfl (fun j u hj => by
            match j, hj with
            | 0, hj => simp at hj; subst hj; simp [Addr.add]) (by intro u hu; simp at hu; subst hu; rfl) (by omega) (by unfold maxLen; omega) (by omega) (by simp; omega) _ rfl ?_; intro g' cap' w3 hown' hgrow hat hltg)
        all_goals
          have aS2 : Ar w3 w.heap.size (av S1) := by
            have h0 : Ar ((w6.alloc (.cells #[.int .u8 (z : Nat)] 5)).drew) w.heap.size (av S1) := aS.alloc _
            unfold Ar at *
            rw [hgrow.block _ (by simp; omega) (fun e => by have := (HO.out.lt _ e.symm).1; omega)]
            exact h0
          have b2 : Below w.heap.size w w3 := (bel_drw (b0.alloc s1 (.cells #[.int .u8 (z : Nat)] 5))).grown hgrow (by simp; omega) fun q hq => by have := (HO.out.lt q hq).1; omega
          rw [HN.out] at hown'
          clear hgrow hat hltg HO HN ct cs ct2 x1 hown aS b0 em
          go_wp2_with fail
          go_roundw
          case rel => exact ⟨j + 1, S1, by omega, by go_num, hown', aS2, HS2, b2⟩
          case measure => simp [intOf]; omega
      · have HSx : Hid (S (j % 16) = sx k nz j) := HSS.out h16 _
        have HS2 : Hid (¬ (j + 1) % 16 = 0 → ∀ i, S i = bl k (cb nz (2 + (j + 1) / 16)) 14 i) := fun h => by rw [show (j + 1) / 16 = j / 16 from by omega]; exact HSS.out h16
        have e16 : ¬ (j : Int) % 16 = 0 := by omega
        have e16b : ((j : Int) % 16 == 0) = false := by simpa using e16
        have hl1 := World.block_lt_of_cell? w _ hcell
        have ct := (b0.cell hl1).trans hcell
        have cs := aS.byte (j % 16) (by omega)
        have HN : Hid (cells (ic ((st k nz t).take j)) ++ [.int .u8 ((st k nz t).getD j 0 : Nat)] = cells (ic ((st k nz t).take (j + 1)))) := st_more k nz t j (by rw [HL.out]; exact hlt)
        have HG : Hid ((st k nz t).getD j 0 = t.getD j 0 ^^^ S (j % 16)) := by show _ = _; rw [HSx.out, st_get _ _ _ _ (by rw [HL.out]; exact hlt)]
        have lx : t.getD j 0 < 256 := getD_lt HBY.out _
        have ly : S (j % 16) < 256 := by rw [HSx.out]; exact sx_lt HK.out HNZ.out j
        have x1 := u8x lx ly
        rw [← HG.out] at x1
        obtain ⟨r, Hr⟩ : ∃ r, Hid (j % 16 = r) := ⟨_, rfl⟩
        have em : (j : Int).tmod 16 = (r : Int) := by rw [← Hr.out, Int.tmod_eq_emod_of_nonneg (by omega)]; omega
        have hr16 : r < 16 := by rw [← Hr.out]; omega
        have hr16i : (r : Int) < 16 := by omega
        rw [Hr.out] at cs x1
        have er : ¬ (r : Int) = 0 := by rw [← Hr.out]; omega
        have erb : ((r : Int) == 0) = false := by simpa using er
        clear HSx HG lx ly hcell Hr
        generalize (st k nz t).getD j 0 = z at *
        generalize t.getD j 0 = x at *
        generalize S r = y at *
        have ct2 : (wr.alloc (.cells #[.int .u8 (z : Nat)] 5)).cell? ⟨b, off + j, none⟩ = some (.int .u8 (x : Nat)) := by rw [World.cell?_alloc_lt _ _ _ (World.block_lt_of_cell? wr _ ct)]; exact ct
        have HO : Hid ((wr.alloc (.cells #[.int .u8 (z : Nat)] 5)).drew.ownsRow (w.heap.size + 1) 5 1 v j (cells (ic ((st k nz t).take j)))) := hown.alloc _
        have s1 := b0.size
        have l1 := aS.lt
        go_wp2_with fail
        go_region_law (refine step_append_lies _ rfl (.tmp 28) (.tmp 38) 22 rfl (w.heap.size + 1) 5 i (.int .u8 0) 1 1 Try.underlying22 hi hz0 hz1 hz2 rfl (by decide) v j _ rfl HO.out ⟨wr.heap.size, 0, none⟩ 1 1 [.int .u8 (z : Nat)] rfl rfl (fun j u hj => by
            match j, hj with
            | 0, hj => simp at hj; subst hj; simp [Addr.add]) (by intro u hu; simp at hu; subst hu; rfl) (by omega) (by unfold maxLen; omega) (by omega) (by simp; omega) _ rfl ?_; intro g' cap' w3 hown' hgrow hat hltg)
        all_goals
          have aS2 : Ar w3 w.heap.size (av S) := by
            have h0 : Ar ((wr.alloc (.cells #[.int .u8 (z : Nat)] 5)).drew) w.heap.size (av S) := aS.alloc _
            unfold Ar at *
            rw [hgrow.block _ (by simp; omega) (fun e => by have := (HO.out.lt _ e.symm).1; omega)]
            exact h0
          have b2 : Below w.heap.size w w3 := (bel_drw (b0.alloc s1 (.cells #[.int .u8 (z : Nat)] 5))).grown hgrow (by simp; omega) fun q hq => by have := (HO.out.lt q hq).1; omega
          rw [HN.out] at hown'
          clear hgrow hat hltg HO HN ct cs ct2 x1 hown aS b0 em
          go_wp2_with fail
          go_roundw
          case rel => exact ⟨j + 1, S, by omega, by go_num, hown', aS2, HS2, b2⟩
          case measure => simp [intOf]; omega
    · have hge : ¬ (j : Int) < (n : Int) := by omega
      have e : j = n := by omega
      rw [e, List.take_of_length_le (by rw [st_length, HL.out]; exact Nat.le_refl _)] at hown
      clear e
      go_wp2_with fail
      go_ret
      exact ⟨_, rfl, own_le hown (by omega), b0⟩
end Go.Proofs.Ytnjfckijpbgagaa
