import Derived.Test.YtnjfckijpbgagaaRefT
namespace Go.Proofs.Ytnjfckijpbgagaa
set_option maxRecDepth 100000
open Go.RowKit
set_option linter.unusedVariables false

theorem e8_get (n j : Nat) (hj : j < 8) : (((e8 (8 * n)).getD j 0 : Nat) : Int) = 8 * (n : Int) / 2 ^ (56 - 8 * j) % 256 := by
  have e : (e8 (8 * n)).getD j 0 = 8 * n / 2 ^ (56 - 8 * j) % 256 := by simp [e8, List.getD, hj]
  rw [e, ← shr_cast, Int.natCast_mul]
  rfl
theorem ic_more (p l : List Nat) (j : Nat) (h : j < l.length) : cells (ic (p ++ l.take j)) ++ [.int .u8 (l.getD j 0 : Nat)] = cells (ic (p ++ l.take (j + 1))) := by
  rw [List.take_succ_eq_append_getElem h, ← List.append_assoc, ic_append (p ++ l.take j), cells_append]
  simp [cells, ic, List.getD, h]

set_option maxRecDepth 100000 in
set_option maxHeartbeats 2000000 in
theorem tag_ (g : Nat) (k : Nat → Nat) (a : Option Addr) (cap : Nat) (nz : List Nat) (a2 : Option Addr) (n2 cap2 : Nat) (ad : List Nat) (a3 : Option Addr) (n3 cap3 : Nat) (c : List Nat) (w : World) (hc : Ci w g k) (hk : ∀ j, k j < 256) (hb : Bs w a 12 (ic nz)) (hnz : ∀ x ∈ nz, x < 256) (had : Bs w a2 n2 (ic ad)) (hab : ∀ x ∈ ad, x < 256) (hct : Bs w a3 n3 (ic c)) (hcb : ∀ x ∈ c, x < 256) (hn2 : n2 ≤ 1000000000) (hn3 : n3 ≤ 1000000000) :
    Calls Try.prog 58 #[.pointer (some ⟨g, 0, none⟩), .slice a 12 cap, .slice a2 n2 cap2, .slice a3 n3 cap3] w fun e w' => e = .returned (.agg (av (tg k nz ad c))) ∧ Below w.heap.size w w' := by
  obtain ⟨i, hi, hz0, hz1, hz2⟩ := info_parts info5
  have hgl := hc.lt
  have HLA : Hid (ad.length = n2) := by have := had.1; rw [ic_length] at this; exact this
  have HLC : Hid (c.length = n3) := by have := hct.1; rw [ic_length] at this; exact this
  have lH := bl_lt hk (f := fun _ => 0) (fun _ _ => by omega) 14
  have kb0 := fun w hc => refBlock_ g k (fun _ => 0) w hc hk (fun _ _ => by omega)
  have kc := fun w hb => counter_ a cap nz 1 w hb (by omega)
  have kb1 := fun w hc => refBlock_ g k (cb nz 1) w hc hk (cb_lt hnz 1)
  have lF := bl_lt hk (cb_lt hnz 1) 14
  have HT : Hid (tg k nz ad c = fun i => fo (bl k (fun _ => 0) 14) (e8 (8 * n2) ++ e8 (8 * n3)) (fo (bl k (fun _ => 0) 14) c (fo (bl k (fun _ => 0) 14) ad fun _ => 0)) i ^^^ bl k (cb nz 1) 14 i) := by
    show _ = _
    rw [← HLA.out, ← HLC.out]
    rfl
  rw [HT.out]
  clear HT HLA HLC
  generalize bl k (fun _ => 0) 14 = H at *
  generalize bl k (cb nz 1) 14 = F1 at *
  generalize cb nz 1 = C at *
  have kf1 := fun w hb => folded_ (fun _ => 0) H a2 n2 cap2 ad w hb hn2 (fun _ _ => by omega) lH hab
  have l1 := fo_lt (h := H) (b := ad) (z := fun _ => 0) (fun _ _ => by omega)
  generalize fo H ad (fun _ => 0) = z1 at *
  have kf2 := fun w hb => folded_ z1 H a3 n3 cap3 c w hb hn3 l1 lH hcb
  have l2 := fo_lt (h := H) (b := c) (z := z1) l1
  generalize fo H c z1 = z2 at *
  have kf3 := fun a cap w hb => folded_ z2 H a 16 cap (e8 (8 * n2) ++ e8 (8 * n3)) w hb (by omega) l2 lH (fun x hx => by
    rcases List.mem_append.1 hx with h | h
    · exact e8_lt _ x h
    · exact e8_lt _ x h)
  have l3 := fo_lt (h := H) (b := e8 (8 * n2) ++ e8 (8 * n3)) (z := z2) l2
  generalize fo H (e8 (8 * n2) ++ e8 (8 * n3)) z2 = z3 at *
  have kx := fun w => refXorA_ z3 F1 w l3 lF
  obtain ⟨R, HR⟩ : ∃ R, Hid ((fun i => z3 i ^^^ F1 i) = R) := ⟨_, rfl⟩
  rw [HR.out] at kx ⊢
  clear l1 l2 l3 lH lF HR
  obtain ⟨A0, A1, B0⟩ := new2 w (av fun _ => 0) (av fun _ => 0)
  go_enter Try.func58, Try.ntmps58
  go_wp2_with (refine wpList_lda rfl _ rfl (w.heap.size + 1) rfl _ (by with_reducible exact A1) ?_)
  rw [zeros16a]
  generalize (w.alloc (.cells (av fun _ => 0) 96)).alloc (.cells (av fun _ => 0) 96) = w1 at *
  have s0 := B0.size
  have sz := A1.lt
  refine (kb0 _ (hc.keep B0 hgl)).mono ?_
  rintro e w2 ⟨rfl, g2⟩
  have sg := g2.size
  have A0 := (A0.kept g2).alloc (.cells (av H) 96)
  have A1 := (A1.kept g2).alloc (.cells (av H) 96)
  have A2 := Ar.new w2 (av H)
  have B0 := bel_bel B0 s0 g2
  have B0 := B0.alloc B0.size (.cells (av H) 96)
  have hgh : w.heap.size + 1 < w2.heap.size := by omega
  clear g2 kb0 s0 sz sg
  go_wp2_with (first | (refine wpList_stna rfl rfl _ _ rfl _ _ _ rfl rfl rfl (by rfl) ?_) | (refine wpList_lda rfl _ rfl (w.heap.size + 1) rfl _ (by with_reducible exact A1) ?_) | (refine wpList_lda rfl _ rfl w2.heap.size rfl _ (by with_reducible exact A2) ?_))
  generalize w2.heap.size = gh at *
  generalize w2.alloc (.cells (av H) 96) = w3 at *
  have s0 := B0.size
  have sh := A2.lt
  refine (kf1 _ (had.below B0)).mono ?_
  rintro e w4 ⟨rfl, g2⟩
  have sg := g2.size
  have A0 := (A0.kept g2).alloc (.cells (av z1) 96)
  have A2 := (A2.kept g2).alloc (.cells (av z1) 96)
  have A3 := Ar.new w4 (av z1)
  have B0 := bel_bel B0 s0 g2
  have B0 := B0.alloc B0.size (.cells (av z1) 96)
  have hgz : gh < w4.heap.size := by omega
  clear g2 kf1 s0 sh sg A1
  go_wp2_with (first | (refine wpList_stna rfl rfl _ _ rfl _ _ _ rfl rfl rfl (by rfl) ?_) | (refine wpList_lda rfl _ rfl w4.heap.size rfl _ (by with_reducible exact A3) ?_) | (refine wpList_lda rfl _ rfl gh rfl _ (by with_reducible exact A2) ?_))
  generalize w4.heap.size = gz at *
  generalize w4.alloc (.cells (av z1) 96) = w5 at *
  have s0 := B0.size
  refine (kf2 _ (hct.below B0)).mono ?_
  rintro e w6 ⟨rfl, g2⟩
  have A0 := (A0.kept g2).orow (g' := gz) (by omega) (av z2)
  have A2 := (A2.kept g2).orow (g' := gz) (by omega) (av z2)
  have A3' := A3.kept g2
  have A3 := A3'.row (av z2)
  have B0 := bel_row (bel_bel B0 s0 g2) (g := gz) (by omega) (av z2)
  clear g2 kf2 s0
  go_wp2_with (refine wpList_sta rfl rfl _ _ rfl gz z2 rfl rfl _ (by with_reducible exact A3') ?_)
  clear A3'
  generalize w6.setRow gz (av z2) = wl at *
  go_loopw [12, 13] (fun v i wr => ∃ j : Nat, j ≤ 8 ∧ i = .int .i64 j ∧ wr.ownsRow wl.heap.size 5 1 v j (cells (ic ([] ++ (e8 (8 * n2)).take j))) ∧ Below wl.heap.size wl wr) (fun _ i _ => 8 - (intOf i).toNat)
  case atStart => exact ⟨0, by omega, rfl, World.ownsRow_nil _ _ _ _, Below.refl _ _⟩
  case round =>
    obtain ⟨j, hj, rfl, hown, bl0⟩ := hrel
    obtain ⟨v, rfl⟩ : ∃ v, v = u12 := ⟨_, rfl⟩
    have hsz := bl0.size
    by_cases hlt : j < 8
    · have HC : Hid ((((e8 (8 * n2)).getD j 0 : Nat) : Int) = 8 * (n2 : Int) / 2 ^ (56 - 8 * j) % 256) := e8_get n2 j hlt
      have HN : Hid (cells (ic ([] ++ (e8 (8 * n2)).take j)) ++ [.int .u8 ((e8 (8 * n2)).getD j 0 : Nat)] = cells (ic ([] ++ (e8 (8 * n2)).take (j + 1)))) := ic_more ([]) (e8 (8 * n2)) j (by rw [e8_length]; exact hlt)
      rw [HC.out] at HN
      generalize ([] ++ (e8 (8 * n2)).take j) = lj at *
      go_wp2_with (at_builtin; refine wpList_append_own _ rfl _ _ 22 rfl wl.heap.size 5 i (.int .u8 0) 1 1 Try.underlying22 hi hz0 hz1 hz2 rfl (by decide) _ _ _ rfl (hown.alloc _) ⟨wr.heap.size, 0, none⟩ 1 1 [.int .u8 (8 * (n2 : Int) / 2 ^ (56 - 8 * j) % 256)] rfl rfl ?c1 ?c2 ?c3 ?c4 ?c5 ?_)
      case c1 =>
        intro j u hj
        match j, hj with
        | 0, hj => simp at hj; subst hj; simp [Addr.add]
      case c2 => intro u hu; simp at hu; subst hu; rfl
      case c3 => unfold maxLen; omega
      case c4 => omega
      case c5 => simp; omega
      intro v' w1' hown' hgrow _
      have hown2 : w1'.ownsRow wl.heap.size 5 1 v' (j + 1) (cells (ic ([] ++ (e8 (8 * n2)).take (j + 1)))) := by rw [← HN.out]; exact hown'
      have bl2 : Below wl.heap.size wl w1' := (bl0.alloc (by omega) _).grown hgrow (by simp; omega) fun q hq => (hown.lt q hq).1
      clear hown' hgrow hown HN HC
      go_wp2_with fail
      go_roundw
      case rel => exact ⟨j + 1, by omega, by go_num, hown2, bl2⟩
      case measure => simp [intOf]; omega
    · have hge : ¬ (j : Int) < 8 := by omega
      rw [show j = 8 from by omega, List.take_of_length_le (by rw [e8_length]; omega), List.nil_append] at hown
      clear hlt hj
      obtain ⟨wo, rfl⟩ : ∃ wo, wo = wr := ⟨_, rfl⟩
      go_wp2_with fail
      go_loopw [12, 14] (fun v i wr => ∃ j : Nat, j ≤ 8 ∧ i = .int .i64 j ∧ wr.ownsRow wl.heap.size 5 1 v (8 + j) (cells (ic (e8 (8 * n2) ++ (e8 (8 * n3)).take j))) ∧ Below wl.heap.size wl wr) (fun _ i _ => 8 - (intOf i).toNat)
      case atStart => exact ⟨0, by omega, rfl, by rw [List.take_zero, List.append_nil]; exact hown, bl0⟩
      case round =>
        clear hown bl0
        obtain ⟨j, hj, rfl, hown, bl0⟩ := hrel
        obtain ⟨v, rfl⟩ : ∃ v, v = u12 := ⟨_, rfl⟩
        have hsz := bl0.size
        by_cases hlt : j < 8
        · have HC : Hid ((((e8 (8 * n3)).getD j 0 : Nat) : Int) = 8 * (n3 : Int) / 2 ^ (56 - 8 * j) % 256) := e8_get n3 j hlt
          have HN : Hid (cells (ic (e8 (8 * n2) ++ (e8 (8 * n3)).take j)) ++ [.int .u8 ((e8 (8 * n3)).getD j 0 : Nat)] = cells (ic (e8 (8 * n2) ++ (e8 (8 * n3)).take (j + 1)))) := ic_more (e8 (8 * n2)) (e8 (8 * n3)) j (by rw [e8_length]; exact hlt)
          rw [HC.out] at HN
          generalize (e8 (8 * n2) ++ (e8 (8 * n3)).take j) = lj at *
          go_wp2_with (at_builtin; refine wpList_append_own _ rfl _ _ 22 rfl wl.heap.size 5 i (.int .u8 0) 1 1 Try.underlying22 hi hz0 hz1 hz2 rfl (by decide) _ _ _ rfl (hown.alloc _) ⟨wr.heap.size, 0, none⟩ 1 1 [.int .u8 (8 * (n3 : Int) / 2 ^ (56 - 8 * j) % 256)] rfl rfl ?c1 ?c2 ?c3 ?c4 ?c5 ?_)
          case c1 =>
            intro j u hj
            match j, hj with
            | 0, hj => simp at hj; subst hj; simp [Addr.add]
          case c2 => intro u hu; simp at hu; subst hu; rfl
          case c3 => unfold maxLen; omega
          case c4 => omega
          case c5 => simp; omega
          intro v' w1' hown' hgrow _
          have hown2 : w1'.ownsRow wl.heap.size 5 1 v' (8 + (j + 1)) (cells (ic (e8 (8 * n2) ++ (e8 (8 * n3)).take (j + 1)))) := by rw [← HN.out]; exact hown'
          have bl2 : Below wl.heap.size wl w1' := (bl0.alloc (by omega) _).grown hgrow (by simp; omega) fun q hq => (hown.lt q hq).1
          clear hown' hgrow hown HN HC
          go_wp2_with fail
          go_roundw
          case rel => exact ⟨j + 1, by omega, by go_num, hown2, bl2⟩
          case measure => simp [intOf]; omega
        · have hge2 : ¬ (j : Int) < 8 := by omega
          rw [show j = 8 from by omega, List.take_of_length_le (by rw [e8_length]; omega)] at hown
          obtain ⟨ka, kcap, rfl, kbs, _⟩ := own_form hown (ic_bytes (fun x hx => by
            rcases List.mem_append.1 hx with h | h
            · exact e8_lt _ x h
            · exact e8_lt _ x h))
          have A0 := A0.kept bl0
          have A2 := A2.kept bl0
          have A3 := A3.kept bl0
          have B0 := bel_bel B0 B0.size bl0
          have s0 := B0.size
          clear hlt hj hown hsz bl0
          go_wp2_with (first | (refine wpList_lda rfl _ rfl gz rfl _ (by with_reducible exact A3) ?_) | (refine wpList_lda rfl _ rfl gh rfl _ (by with_reducible exact A2) ?_))
          refine (kf3 ka kcap _ kbs).mono ?_
          rintro e w7 ⟨rfl, g2⟩
          have A0 := (A0.kept g2).orow (g' := gz) (by omega) (av z3)
          have A3' := A3.kept g2
          have A3 := A3'.row (av z3)
          have B0 := bel_row (bel_bel B0 s0 g2) (g := gz) (by omega) (av z3)
          clear g2 kf3 s0 kbs A2
          go_wp2_with (refine wpList_sta rfl rfl _ _ rfl gz z3 rfl rfl _ (by with_reducible exact A3') ?_)
          clear A3'
          generalize w7.setRow gz (av z3) = w8 at *
          have s0 := B0.size
          refine (kc _ (hb.below B0)).mono ?_
          rintro e w9 ⟨rfl, g2⟩
          have A0 := (A0.kept g2).alloc (.cells (av C) 96)
          have A3 := (A3.kept g2).alloc (.cells (av C) 96)
          have A4 := Ar.new w9 (av C)
          have B0 := bel_bel B0 s0 g2
          have B0 := B0.alloc B0.size (.cells (av C) 96)
          clear g2 kc s0
          go_wp2_with (first | (refine wpList_stna rfl rfl _ _ rfl _ _ _ rfl rfl rfl (by rfl) ?_) | (refine wpList_lda rfl _ rfl w9.heap.size rfl _ (by with_reducible exact A4) ?_))
          generalize w9.heap.size = g9 at *
          generalize w9.alloc (.cells (av C) 96) = w10 at *
          have s0 := B0.size
          refine (kb1 _ (hc.keep B0 hgl)).mono ?_
          rintro e w11 ⟨rfl, g2⟩
          have A0 := (A0.kept g2).alloc (.cells (av F1) 96)
          have A3 := (A3.kept g2).alloc (.cells (av F1) 96)
          have A5 := Ar.new w11 (av F1)
          have B0 := bel_bel B0 s0 g2
          have B0 := B0.alloc B0.size (.cells (av F1) 96)
          clear g2 kb1 s0 A4
          go_wp2_with (first | (refine wpList_stna rfl rfl _ _ rfl _ _ _ rfl rfl rfl (by rfl) ?_) | (refine wpList_lda rfl _ rfl gz rfl _ (by with_reducible exact A3) ?_) | (refine wpList_lda rfl _ rfl w11.heap.size rfl _ (by with_reducible exact A5) ?_))
          generalize w11.heap.size = g11 at *
          generalize w11.alloc (.cells (av F1) 96) = w12 at *
          have s0 := B0.size
          refine (kx _).mono ?_
          rintro e w13 ⟨rfl, g2⟩
          have A0' := A0.kept g2
          have B0 := bel_bel B0 s0 g2
          clear g2 kx s0 A3 A5
          go_wp2_with (refine wpList_sta rfl rfl _ _ rfl w.heap.size R rfl rfl _ (by with_reducible exact A0') ?_)
          refine bodyPost_ret (v := .agg (av R)) ?_ rfl ⟨rfl, bel_row B0 (Nat.le_refl _) _⟩
          exact results_av rfl _ _ w.heap.size R rfl (A0'.row _)
end Go.Proofs.Ytnjfckijpbgagaa
