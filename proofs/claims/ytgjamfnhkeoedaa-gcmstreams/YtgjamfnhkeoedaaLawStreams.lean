import Derived.Test.YtgjamfnhkeoedaaLawSeals
namespace Go.Proofs.Ytgjamfnhkeoedaa
open Go.RowKit
set_option linter.unusedVariables false

/-- Every byte turned by x and by its place. -/
def tu (t : List Nat) (x : Nat) : List Nat := (List.range t.length).map fun i => t.getD i 0 ^^^ x ^^^ i % 256
theorem tu_length (t : List Nat) (x : Nat) : (tu t x).length = t.length := by simp [tu]
theorem tu_get (t : List Nat) (x i : Nat) (h : i < t.length) : (tu t x).getD i 0 = t.getD i 0 ^^^ x ^^^ i % 256 := by simp [tu, List.getD, h]
theorem tu_lt {t : List Nat} {x : Nat} (ht : ∀ z ∈ t, z < 256) (hx : x < 256) : ∀ z ∈ tu t x, z < 256 := by
  intro z hz
  obtain ⟨i, _, rfl⟩ := List.mem_map.1 hz
  exact xor_lt8 (xor_lt8 (getD_lt ht _) hx) (Nat.mod_lt _ (by omega))
theorem sl_get (k : Nat → Nat) (nz ad t : List Nat) (i : Nat) (h : i < t.length) : (sl k nz ad t).getD i 0 = t.getD i 0 ^^^ sx k nz i := by
  rw [← st_get k nz t i h]
  unfold sl
  simp only [List.getD, List.getElem?_append_left (show i < (st k nz t).length by rw [st_length]; exact h)]
theorem xor_four (a b s : Nat) : (a ^^^ s) ^^^ (b ^^^ s) = a ^^^ b := by
  rw [Nat.xor_comm b s, ← Nat.xor_assoc, Nat.xor_assoc a s s, Nat.xor_self, Nat.xor_zero]
set_option maxRecDepth 100000 in
set_option maxHeartbeats 1000000 in
theorem gcmStreams_not (a0 : Option Addr) (n0 c0 : Nat) (a1 : Option Addr) (n1 c1 : Nat) (a2 : Option Addr) (n2 c2 : Nat) (a3 : Option Addr) (n3 c3 : Nat) (a4 : Option Addr) (n4 c4 : Nat) (x : Nat) (w : World) (hn0 : n0 ≤ 140737488351232) (hn1 : n1 ≤ 140737488351232) (hn2 : n2 ≤ 140737488351232) (hn3 : n3 ≤ 140737488351232) (hn4 : n4 ≤ 140737488351232) (hn : n0 ≠ 32 ∨ n1 ≠ 12 ∨ 2000 < n2 ∨ 2000 < n3 ∨ 2000 < n4) :
    Calls Try.prog 7 #[.slice a0 n0 c0, .slice a1 n1 c1, .slice a2 n2 c2, .slice a3 n3 c3, .slice a4 n4 c4, .int .u8 x] w fun e w' => e = .returned (.bool true) ∧ Below w.heap.size w w' := by
  go_enter Try.func7, Try.ntmps7
  go_wp2_with fail
  refine (first_ w).mono ?_
  rintro e w1 ⟨rfl, B0⟩
  by_cases e0 : n0 = 32
  · have b0 : ((n0 : Int) != 32) = false := by simp [show n0 = 32 from by omega]
    by_cases e1 : n1 = 12
    · have b1 : ((n1 : Int) != 12) = false := by simp [show n1 = 12 from by omega]
      by_cases e2 : ¬ 2000 < n2
      · have b2 : decide ((2000 : Int) < (n2 : Int)) = false := decide_eq_false (by omega)
        by_cases e3 : ¬ 2000 < n3
        · have b3 : decide ((2000 : Int) < (n3 : Int)) = false := decide_eq_false (by omega)
          have b4 : decide ((2000 : Int) < (n4 : Int)) = true := decide_eq_true (by omega)
          clear hn
          go_wp2_with fail
          go_ret
          exact ⟨rfl, B0⟩
        · have b3 : decide ((2000 : Int) < (n3 : Int)) = true := decide_eq_true (by omega)
          clear hn
          go_wp2_with fail
          go_ret
          exact ⟨rfl, B0⟩
      · have b2 : decide ((2000 : Int) < (n2 : Int)) = true := decide_eq_true (by omega)
        clear hn
        go_wp2_with fail
        go_ret
        exact ⟨rfl, B0⟩
    · have b1 : ((n1 : Int) != 12) = true := by simpa using fun h => e1 (by omega)
      clear hn
      go_wp2_with fail
      go_ret
      exact ⟨rfl, B0⟩
  · have b0 : ((n0 : Int) != 32) = true := by simpa using fun h => e0 (by omega)
    clear hn
    go_wp2_with fail
    go_ret
    exact ⟨rfl, B0⟩
set_option maxRecDepth 100000 in
set_option maxHeartbeats 4000000 in
theorem gcmStreams_yes (a0 a1 a2 a3 a4 : Option Addr) (c0 c1 n2 c2 n3 c3 n4 c4 : Nat) (t0 t1 t2 t3 t4 : List Nat) (x : Nat) (w : World) (hb0 : Bs w a0 32 (ic t0)) (hb1 : Bs w a1 12 (ic t1)) (hb2 : Bs w a2 n2 (ic t2)) (hb3 : Bs w a3 n3 (ic t3)) (hb4 : Bs w a4 n4 (ic t4)) (HY0 : Hid (∀ x ∈ t0, x < 256)) (HY1 : Hid (∀ x ∈ t1, x < 256)) (HY2 : Hid (∀ x ∈ t2, x < 256)) (HY3 : Hid (∀ x ∈ t3, x < 256)) (HY4 : Hid (∀ x ∈ t4, x < 256)) (hx : x < 256) (hn2 : n2 ≤ 2000) (hn3 : n3 ≤ 2000) (hn4 : n4 ≤ 2000) (hc2 : n2 ≤ c2) (hm2 : c2 ≤ maxLen) (hc3 : n3 ≤ c3) (hm3 : c3 ≤ maxLen) (hc4 : n4 ≤ c4) (hm4 : c4 ≤ maxLen) :
    Calls Try.prog 7 #[.slice a0 32 c0, .slice a1 12 c1, .slice a2 n2 c2, .slice a3 n3 c3, .slice a4 n4 c4, .int .u8 x] w fun e w' => e = .returned (.bool true) ∧ Below w.heap.size w w' := by
  obtain ⟨i, hi, hz0, hz1, hz2⟩ := info_parts info5
  have HL : Hid (t4.length = n4) := by have := hb4.1; rw [ic_length] at this; exact this
  have HYU := hid (tu_lt HY4.out hx)
  have d2 : decide ((2000 : Int) < (n2 : Int)) = false := decide_eq_false (by omega)
  have d3 : decide ((2000 : Int) < (n3 : Int)) = false := decide_eq_false (by omega)
  have d4 : decide ((2000 : Int) < (n4 : Int)) = false := decide_eq_false (by omega)
  go_enter Try.func7, Try.ntmps7
  go_wp2_with fail
  refine (first_ w).mono ?_
  rintro e w1 ⟨rfl, B0⟩
  go_wp2_with fail
  clear d2 d3 d4
  go_loopw [14, 15] (fun v i wr => ∃ j : Nat, j ≤ n4 ∧ i = .int .i64 j ∧ wr.ownsRow w.heap.size 5 1 v j (cells (ic ((tu t4 x).take j))) ∧ Below w.heap.size w wr) (fun _ i _ => n4 - (intOf i).toNat)
  case atStart => exact ⟨0, by omega, rfl, World.ownsRow_nil _ _ _ _, B0⟩
  case round =>
    clear B0
    obtain ⟨j, hj, rfl, hown, B0⟩ := hrel
    obtain ⟨v, rfl⟩ : ∃ v, v = u14 := ⟨_, rfl⟩
    have hsz := B0.size
    by_cases hlt : j < n4
    · obtain ⟨b, off, rfl, hcell⟩ := hb4.byte j hlt
      have ct := (B0.cell (World.block_lt_of_cell? w _ hcell)).trans hcell
      have HN : Hid (cells (ic ([] ++ (tu t4 x).take j)) ++ [.int .u8 ((tu t4 x).getD j 0 : Nat)] = cells (ic ([] ++ (tu t4 x).take (j + 1)))) := ic_more [] (tu t4 x) j (by rw [tu_length, HL.out]; exact hlt)
      rw [List.nil_append, List.nil_append] at HN
      have HG := hid (tu_get t4 x j (by rw [HL.out]; exact hlt))
      have ly := getD_lt HY4.out j
      obtain ⟨r, Hr⟩ : ∃ r, Hid (j % 256 = r) := ⟨_, rfl⟩
      have em : (j : Int) % 256 = (r : Int) := by rw [← Hr.out]; omega
      have lr : r < 256 := by rw [← Hr.out]; omega
      have x1 := u8x ly hx
      have x2 := u8x (xor_lt8 ly hx) lr
      rw [← Hr.out, ← HG.out, Hr.out] at x2
      clear hcell HG Hr
      generalize (tu t4 x).getD j 0 = z at *
      generalize t4.getD j 0 ^^^ x = q at *
      generalize t4.getD j 0 = y at *
      go_wp2_with (at_builtin; refine wpList_append_own _ rfl _ _ 22 rfl w.heap.size 5 i (.int .u8 0) 1 1 Try.underlying22 hi hz0 hz1 hz2 rfl (by decide) _ _ _ rfl (hown.alloc _) ⟨wr.heap.size, 0, none⟩ 1 1 [.int .u8 (z : Nat)] rfl rfl ?c1 ?c2 ?c3 ?c4 ?c5 ?_)
      case c1 =>
        intro j u hj
        match j, hj with
        | 0, hj => simp at hj; subst hj; simp [Addr.add]
      case c2 => intro u hu; simp at hu; subst hu; rfl
      case c3 => unfold maxLen; omega
      case c4 => omega
      case c5 => simp; omega
      intro v' w2 hown' hgrow _
      have hown2 : w2.ownsRow w.heap.size 5 1 v' (j + 1) (cells (ic ((tu t4 x).take (j + 1)))) := by rw [← HN.out]; exact hown'
      have B2 : Below w.heap.size w w2 := (B0.alloc hsz _).grown hgrow (by simp; omega) fun q hq => (hown.lt q hq).1
      clear hown' hgrow hown HN ct x1 x2 em B0
      go_wp2_with fail
      go_roundw
      case rel => exact ⟨j + 1, by omega, by go_num, hown2, B2⟩
      case measure => simp [intOf]; omega
    · have hge : ¬ (j : Int) < (n4 : Int) := by omega
      have e : j = n4 := by omega
      rw [e, List.take_of_length_le (by rw [tu_length, HL.out]; exact Nat.le_refl _)] at hown
      obtain ⟨ua, ucap, rfl, ub, hu1, hu2, _⟩ := own_form hown (ic_bytes HYU.out)
      clear hown e hlt hj hsz
      have k1 := fun w h0 h1 h2' h3' => seal_ a0 a1 a2 a4 c0 c1 n2 c2 n4 c4 t0 t1 t2 t4 w h0 h1 h2' h3' HY0.out HY1.out HY2.out HY4.out (by omega) (by omega) hc2 hm2 hc4 hm4
      have k2 := fun w h0 h1 h2' h3' => seal_ a0 a1 a3 ua c0 c1 n3 c3 n4 ucap t0 t1 t3 (tu t4 x) w h0 h1 h2' h3' HY0.out HY1.out HY3.out HYU.out (by omega) (by omega) hc3 hm3 hu1 hu2
      have HA : Hid (∀ i, i < n4 → (sl (kf t0) t1 t2 t4).getD i 0 ^^^ (sl (kf t0) t1 t3 (tu t4 x)).getD i 0 = t4.getD i 0 ^^^ (tu t4 x).getD i 0) := fun i hi => by
        rw [sl_get _ _ _ _ i (by rw [HL.out]; exact hi), sl_get _ _ _ _ i (by rw [tu_length, HL.out]; exact hi), xor_four]
      have HB1 : Hid (∀ y ∈ sl (kf t0) t1 t2 t4, y < 256) := sl_lt (kf_lt HY0.out) HY1.out HY4.out
      have HB2 : Hid (∀ y ∈ sl (kf t0) t1 t3 (tu t4 x), y < 256) := sl_lt (kf_lt HY0.out) HY1.out HYU.out
      generalize sl (kf t0) t1 t2 t4 = La at *
      generalize sl (kf t0) t1 t3 (tu t4 x) = Lb at *
      generalize tu t4 x = tt at *
      obtain ⟨wo, rfl⟩ : ∃ wo, wo = wr := ⟨_, rfl⟩
      go_wp2_with fail
      refine (k1 _ (hb0.below B0) (hb1.below B0) (hb2.below B0) (hb4.below B0)).mono ?_
      rintro e w2 ⟨sa, scap, rfl, sb, _, _, g2⟩
      have ub := ub.below g2
      have B0 := bel_bel B0 B0.size g2
      clear g2 k1
      go_wp2_with fail
      refine (k2 _ (hb0.below B0) (hb1.below B0) (hb3.below B0) ub).mono ?_
      rintro e w3 ⟨qa, qcap, rfl, qb, _, _, g2⟩
      have ub := ub.below g2
      have sb := sb.below g2
      have B0 := bel_bel B0 B0.size g2
      have tb := hb4.below B0
      clear g2 k2
      go_wp2_with fail
      refine (num_ 0 _).mono ?_
      rintro e w4 ⟨rfl, rfl⟩
      go_wp2_with fail
      refine (num_ 0 _).mono ?_
      rintro e w5 ⟨rfl, rfl⟩
      go_wp2_with fail
      go_loopw [20] (fun i wr => ∃ q nq : Nat, q ≤ n4 ∧ i = .int .i64 q ∧ wr = w5.drewN nq) (fun i _ => n4 - (intOf i).toNat)
      case atStart => exact ⟨0, 0, by omega, rfl, rfl⟩
      case round =>
        obtain ⟨q, nq, hq, rfl, rfl⟩ := hrel
        by_cases hlt : q < n4
        · obtain ⟨b1, o1, rfl, e1⟩ := sb.byte q (by omega)
          obtain ⟨b2, o2, rfl, e2⟩ := qb.byte q (by omega)
          obtain ⟨b3, o3, rfl, e3⟩ := tb.byte q hlt
          obtain ⟨b4, o4, rfl, e4⟩ := ub.byte q hlt
          have x1 := u8x (getD_lt HB1.out q) (getD_lt HB2.out q)
          have x2 := u8x (getD_lt HY4.out q) (getD_lt HYU.out q)
          rw [HA.out q hlt] at x1
          generalize La.getD q 0 = ya at *
          generalize Lb.getD q 0 = yb at *
          generalize t4.getD q 0 ^^^ tt.getD q 0 = yx at *
          generalize t4.getD q 0 = yc at *
          generalize tt.getD q 0 = yd at *
          have hne : ((yx : Int) != (yx : Int)) = false := by simp
          have h16 : (q : Int) < (n4 : Int) + 16 := by omega
          clear sb qb tb ub
          go_wp2_with fail
          go_quiet (fail)
          go_wp2_with fail
          go_roundw
          case rel => exact ⟨q + 1, _, by omega, by go_num, rfl⟩
          case measure => simp [intOf]; omega
        · have hge2 : ¬ (q : Int) < (n4 : Int) := by omega
          go_wp2_with fail
          go_ret
          exact ⟨rfl, bel_drawn B0 _⟩
theorem gcmStreams_ (a0 : Option Addr) (n0 c0 : Nat) (z0 : List Int) (a1 : Option Addr) (n1 c1 : Nat) (z1 : List Int) (a2 : Option Addr) (n2 c2 : Nat) (z2 : List Int) (a3 : Option Addr) (n3 c3 : Nat) (z3 : List Int) (a4 : Option Addr) (n4 c4 : Nat) (z4 : List Int) (x : Nat) (w : World) (hb0 : Bs w a0 n0 z0) (hn0 : n0 ≤ 140737488351232) (hb1 : Bs w a1 n1 z1) (hn1 : n1 ≤ 140737488351232) (hb2 : Bs w a2 n2 z2) (hn2 : n2 ≤ 140737488351232) (hb3 : Bs w a3 n3 z3) (hn3 : n3 ≤ 140737488351232) (hb4 : Bs w a4 n4 z4) (hn4 : n4 ≤ 140737488351232) (hx : x < 256) (hc2 : n2 ≤ c2) (hm2 : c2 ≤ maxLen) (hc3 : n3 ≤ c3) (hm3 : c3 ≤ maxLen) (hc4 : n4 ≤ c4) (hm4 : c4 ≤ maxLen) :
    Calls Try.prog 7 #[.slice a0 n0 c0, .slice a1 n1 c1, .slice a2 n2 c2, .slice a3 n3 c3, .slice a4 n4 c4, .int .u8 x] w fun e w' => e = .returned (.bool true) ∧ Below w.heap.size w w' := by
  obtain ⟨t0, rfl, HY0⟩ := as_nat hb0.2.1
  obtain ⟨t1, rfl, HY1⟩ := as_nat hb1.2.1
  obtain ⟨t2, rfl, HY2⟩ := as_nat hb2.2.1
  obtain ⟨t3, rfl, HY3⟩ := as_nat hb3.2.1
  obtain ⟨t4, rfl, HY4⟩ := as_nat hb4.2.1
  by_cases hn : n0 ≠ 32 ∨ n1 ≠ 12 ∨ 2000 < n2 ∨ 2000 < n3 ∨ 2000 < n4
  · exact gcmStreams_not a0 n0 c0 a1 n1 c1 a2 n2 c2 a3 n3 c3 a4 n4 c4 x w hn0 hn1 hn2 hn3 hn4 hn
  · obtain rfl : n0 = 32 := by omega
    obtain rfl : n1 = 12 := by omega
    exact gcmStreams_yes a0 a1 a2 a3 a4 c0 c1 n2 c2 n3 c3 n4 c4 t0 t1 t2 t3 t4 x w hb0 hb1 hb2 hb3 hb4 HY0 HY1 HY2 HY3 HY4 hx (by omega) (by omega) (by omega) hc2 hm2 hc3 hm3 hc4 hm4
end Go.Proofs.Ytgjamfnhkeoedaa
