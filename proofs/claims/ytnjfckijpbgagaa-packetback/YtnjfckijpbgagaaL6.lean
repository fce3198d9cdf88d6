import Derived.Test.YtnjfckijpbgagaaN5
import Derived.Test.YtnjfckijpbgagaaL3
import Derived.Test.YtnjfckijpbgagaaHB
namespace Go.Proofs.Ytnjfckijpbgagaa
set_option maxRecDepth 100000
open Go.RowKit
set_option linter.unusedVariables false

theorem ah_in {l : List Int} (hb : ∀ z ∈ l, 0 ≤ z ∧ z ≤ 255) (hl : l.length ≤ 16) : InU (ah l) ∧ InU (alP l) := by
  have hv := val_bound l hb
  have hp : (256 : Int) ^ l.length ≤ 340282366920938463463374607431768211456 := by
    have e : (340282366920938463463374607431768211456 : Int) = 256 ^ 16 := by decide
    rw [e]
    exact_mod_cast Nat.pow_le_pow_right (by decide : 0 < 256) hl
  unfold InU ah alP
  omega
theorem af_in (m : Nat) : InI (af m) := by
  unfold af InI
  split <;> omega
set_option maxHeartbeats 16000000 in
theorem packetBack_ (a0 : Option Addr) (n0 c0 : Nat) (ks : List Int) (S T K G C : Int) (a1 : Option Addr) (n1 c1 : Nat) (zs : List Int) (a2 : Option Addr) (n2 c2 : Nat) (bs : List Int) (w : World) (hb0 : Bs w a0 n0 ks) (hb1 : Bs w a1 n1 zs) (hb2 : Bs w a2 n2 bs) (hn0 : n0 ≤ 140737488351232) (hc1 : n1 ≤ c1) (hm1 : c1 ≤ maxLen) (hn1 : n1 ≤ 140737488351232) (hc2 : n2 ≤ c2) (hm2 : c2 ≤ maxLen) (hn2 : n2 ≤ 140737488351232) (hC : InU C) :
    Calls Try.prog 7 #[.slice a0 n0 c0, .int .i64 S, .agg #[.int .i64 T, .int .i64 K, .int .i64 G, .int .u64 C, .slice a1 n1 c1], .slice a2 n2 c2] w fun e w' => e = .returned (.bool true) ∧ Below w.heap.size w w' := by
  have hx0 : n0 ≤ maxLen := by unfold maxLen; omega
  have hx1 : n1 ≤ maxLen := by unfold maxLen; omega
  have hx2 : n2 ≤ maxLen := by unfold maxLen; omega
  have HY0 := hid hb0.2.1
  have HY1 := hid hb1.2.1
  have HY2 := hid hb2.2.1
  have kS := fun w h0 h1 => seal9_ a0 n0 c0 ks S T K G C a1 n1 c1 zs w h0 h1 hx0 hc1 hm1 hC
  have HOS := hid (open_sealed (ks := ks) (S := S) (T := T) (K := K) (G := G) (C := C) (zs := zs) hb0.2.1 hb1.2.1 hC.1)
  have HSB := hid (sB_byte S T K G C hb0.2.1 hb1.2.1)
  have HZU : ∀ x y, Hid (uOk ks S x = true → uZ ks S x y = y) := fun x y h => by unfold uZ; rw [h]; rfl
  obtain ⟨V, HV⟩ : ∃ x, Hid (sB ks S T K G C zs = x) := ⟨_, rfl⟩
  obtain ⟨E, HE⟩ : ∃ x, Hid (sE ks S T K G C zs = x) := ⟨_, rfl⟩
  simp only [HV.out, HE.out] at kS HOS HSB
  have kV := fun x c w h0 h1 h2 h3 => open9_ a0 n0 c0 ks S x V.length c V w h0 h1 hx0 h2 h3
  have kO := fun w h0 h1 => open9_ a0 n0 c0 ks S a2 n2 c2 bs w h0 h1 hx0 hc2 hm2
  have kG := fun w h => getPayload_ a2 n2 c2 bs w h hc2 hm2
  have HM := hid (Km.new w T K G C (.slice a1 n1 c1))
  have HBB := hid (knew w T K G C (.slice a1 n1 c1))
  have HB0 := hid hb0
  have HB1 := hid hb1
  have HB2 := hid hb2
  clear hb0 hb1 hb2
  go_enter Try.func7, Try.ntmps7
  go_wp2_with fail
  refine (first_ _).mono ?_
  rintro e w1 ⟨rfl, g1⟩
  have m1 := HM.out.kept g1
  have b1 := bel_bel HBB.out HBB.out.size g1
  have d0 := m1.c0
  have d1 := m1.c1
  have d2 := m1.c2
  have d3 := m1.c3
  have d4 := m1.c4
  clear g1 HM HBB
  go_wp2_with fail
  clear d0 d1 d2 d3 d4
  refine (kS _ (HB0.out.below b1) (HB1.out.below b1)).mono ?_
  rintro e w2 ⟨v2, rfl, o2, g2⟩
  obtain ⟨x2, r2, rfl, y2, i2, j2, _⟩ := own_form o2 HSB.out
  replace m1 := m1.kept g2
  replace b1 := bel_bel b1 b1.size g2
  clear o2 g2 kS
  by_cases hE0 : E = 0
  · obtain ⟨u1, u2, u3, u4, u5, u6⟩ := HOS.out hE0
    unfold Vo at kV
    simp only [(HZU V _).out u1, u1, u2, u3, u4, u5, u6] at kV
    subst hE0
    clear u1 u2 u3 u4 u5 u6
    go_wp2_with (go_at_call 13; refine (num_ 0 _).mono ?_; rintro e wn ⟨rfl, hw⟩; obtain rfl := hw.symm; clear hw)
    refine (kV x2 r2 w2 (HB0.out.below b1) y2 i2 j2).mono ?_
    rintro e w3 ⟨⟨a3, n3, c3, rfl, o3, hm3⟩, g3⟩
    obtain ⟨a4, c4, q3, y3, i3, j3, _⟩ := own_form o3 HY1.out
    obtain ⟨rfl, -, rfl⟩ : a3 = a4 ∧ n3 = n3 ∧ c3 = c4 := by simpa using q3
    replace m1 := m1.kept g3
    replace b1 := bel_bel b1 b1.size g3
    have BA := (Below.refl w3.heap.size w3).alloc (Nat.le_refl _) (.cells #[.int .i64 T, .int .i64 K, .int .i64 G, .int .u64 C, .slice a3 n3 c3] 27)
    have N3 : Hid (Km (w3.alloc (.cells #[.int .i64 T, .int .i64 K, .int .i64 G, .int .u64 C, .slice a3 n3 c3] 27)) w3.heap.size T K G C (.slice a3 n3 c3)) := Km.new w3 _ _ _ _ _
    have M3 := hid (m1.kept BA)
    have Y3 := hid (y3.below BA)
    have B3 := hid (bel_bel b1 b1.size BA)
    clear o3 g3 y2 y3 m1 b1 BA q3 kV
    have d0 := M3.out.c0
    have d1 := M3.out.c1
    have d2 := M3.out.c2
    have d3 := M3.out.c3
    go_wp2_with fail
    clear d0 d1 d2 d3
    refine (sameHead_ T K G C _).mono ?_
    rintro e w4 ⟨rfl, g4⟩
    have m4 := M3.out.kept g4
    have n4 := N3.out.kept g4
    have y4 := Y3.out.below g4
    have b1 := bel_bel B3.out B3.out.size g4
    clear g4 M3 N3 Y3 B3
    have d4 := m4.c4
    have e4 := n4.c4
    go_wp2_with fail
    clear d4 e4
    refine (same_d a1 a3 n1 c1 n3 c3 zs zs w4 (HB1.out.below b1) y4 hx1 (by unfold maxLen; omega)).mono ?_
    rintro e w2 ⟨rfl, d6⟩
    replace b1 := bel_bel b1 b1.size d6.below
    rw [sameB_self]
    clear y4 m4 n4 d6
    go_wp2_with fail
    refine (kO _ (HB0.out.below b1) (HB2.out.below b1)).mono ?_
    rintro e w5 ⟨⟨a5, n5, c5, rfl, o5, hm5⟩, g5⟩
    replace b1 := bel_bel b1 b1.size g5
    clear kO g5
    cases hu : uOk ks S bs with
    | true =>
      obtain ⟨p1, p2⟩ := seal_opened HY0.out HY2.out hu
      have ez : ∀ x, uZ ks S bs x = x := fun x => (HZU bs x).out hu
      have HUB : Hid (∀ z ∈ uB ks S bs, 0 ≤ z ∧ z ≤ 255) := by
        show ∀ z ∈ _, _
        unfold uB
        rw [hu, if_pos rfl]
        unfold oP
        split
        · exact ic_bytes (st_lt (kf_lt (nt_lt HY0.out)) (nt_lt (nRow_byte _ _ _)) (fun x hx => nt_lt (fun z hz => HY2.out z (List.mem_of_mem_drop hz)) x (List.mem_of_mem_take hx)))
        · intro z hz
          simp [ic] at hz
      obtain ⟨a6, c6, q6, y5, i5, j5, _⟩ := own_form o5 HUB.out
      obtain ⟨rfl, -, rfl⟩ : a5 = a6 ∧ n5 = n5 ∧ c5 = c6 := by simpa using q6
      have hCC : InU (gC bs) := by
        have hg := hu
        unfold uOk at hg
        rw [Bool.and_eq_true, Bool.and_eq_true] at hg
        have hgg := hg.2.1
        unfold gOk at hgg
        rw [Bool.and_eq_true] at hgg
        have hlen := of_decide_eq_true hgg.1
        have hv := val4 HY2.out 12 8 (by omega)
        exact ⟨hv.1, by have := hv.2; have e : (256 : Int) ^ 8 = 18446744073709551616 := (by decide); unfold gC; omega⟩
      rw [ez, ez, ez, ez]
      have kT := fun w h0 h1 => seal9_ a0 n0 c0 ks S (gT bs) (gK bs) (gG bs) (gC bs) a5 n5 c5 (uB ks S bs) w h0 h1 hx0 i5 j5 hCC
      rw [p1, p2, HB2.out.1] at kT
      obtain ⟨T2, HT2⟩ : ∃ x, Hid (gT bs = x) := ⟨_, rfl⟩
      obtain ⟨K2, HK2⟩ : ∃ x, Hid (gK bs = x) := ⟨_, rfl⟩
      obtain ⟨G2, HG2⟩ : ∃ x, Hid (gG bs = x) := ⟨_, rfl⟩
      obtain ⟨C2, HC2⟩ : ∃ x, Hid (gC bs = x) := ⟨_, rfl⟩
      simp only [HT2.out, HK2.out, HG2.out, HC2.out] at kT ⊢
      have BA := (Below.refl w5.heap.size w5).alloc (Nat.le_refl _) (.cells #[.int .i64 T2, .int .i64 K2, .int .i64 G2, .int .u64 C2, .slice a5 n5 c5] 27)
      have M5 : Hid (Km (w5.alloc (.cells #[.int .i64 T2, .int .i64 K2, .int .i64 G2, .int .u64 C2, .slice a5 n5 c5] 27)) w5.heap.size T2 K2 G2 C2 (.slice a5 n5 c5)) := Km.new w5 _ _ _ _ _
      have Y5 := hid (y5.below BA)
      have B5 := hid (bel_bel b1 b1.size BA)
      clear o5 b1 y5 BA p1 p2 ez hu q6 hCC
      go_wp2_with fail
      refine (kT _ (HB0.out.below B5.out) Y5.out).mono ?_
      rintro e w6 ⟨v6, rfl, o6, g6⟩
      obtain ⟨a6, c6, rfl, y6, i6, j6, _⟩ := own_form o6 HY2.out
      have b6 := bel_bel B5.out B5.out.size g6
      clear kT o6 g6 M5 Y5 B5
      go_wp2_with fail
      refine (same_d a6 a2 n2 c6 n2 c2 bs bs w6 y6 (HB2.out.below b6) hx2 hx2).mono ?_
      rintro e w7 ⟨rfl, d7⟩
      have b1 := bel_bel b6 b6.size d7.below
      rw [sameB_self]
      clear y6 b6 d7
      go_wp2_with (go_at_call 13; refine (num_ 0 _).mono ?_; rintro e wn ⟨rfl, hw⟩; obtain rfl := hw.symm; clear hw)
      refine (kG _ (HB2.out.below b1)).mono ?_
      rintro e w7 ⟨⟨a7, n7, c7, rfl, o7⟩, g7⟩
      replace b1 := bel_bel b1 b1.size g7
      cases hz : zOk bs with
      | true =>
        obtain ⟨p1, p2⟩ := put_got HY2.out hz
        obtain ⟨q1, q2, q3⟩ := zOk_in hz
        have ez : ∀ x, zZ bs x = x := fun x => by unfold zZ; rw [hz]; rfl
        have ee : zE bs = 0 := by unfold zE; rw [hz]; rfl
        have HZY : Hid (∀ z ∈ zB bs, 0 ≤ z ∧ z ≤ 255) := by
          show ∀ z ∈ _, _
          unfold zB
          rw [hz, if_pos rfl]
          exact fun z hm => HY2.out z (List.mem_of_mem_drop hm)
        obtain ⟨a8, c8, q8, y8, i8, j8, _⟩ := own_form o7 HZY.out
        obtain ⟨rfl, -, rfl⟩ : a7 = a8 ∧ n7 = n7 ∧ c7 = c8 := by simpa using q8
        have hn7 : n7 ≤ 1280 := by
          rw [← y8.1]
          unfold zB
          rw [hz, if_pos rfl, List.length_drop]
          omega
        have iS := ah_in (l := zS bs) (fun z hm => HY2.out z (List.mem_of_mem_drop (List.mem_of_mem_take hm))) (by unfold zS; rw [List.length_take]; omega)
        have iD := ah_in (l := zD bs) (fun z hm => HY2.out z (List.mem_of_mem_drop (List.mem_of_mem_take hm))) (by unfold zD; rw [List.length_take]; omega)
        have iF := af_in (yN bs)
        rw [ez, ez, ez, ez, ez, ee]
        have kP := fun w h => putPayload_ (af (yN bs)) (ah (zS bs)) (alP (zS bs)) (af (yN bs)) (ah (zD bs)) (alP (zD bs)) a7 n7 c7 (zB bs) w h (by omega) iF iS.1 iS.2 iF iD.1 iD.2
        rw [p1, p2] at kP
        obtain ⟨F, HF⟩ : ∃ x, Hid (af (yN bs) = x) := ⟨_, rfl⟩
        obtain ⟨H, HH⟩ : ∃ x, Hid (ah (zS bs) = x) := ⟨_, rfl⟩
        obtain ⟨L, HL⟩ : ∃ x, Hid (alP (zS bs) = x) := ⟨_, rfl⟩
        obtain ⟨H', HH'⟩ : ∃ x, Hid (ah (zD bs) = x) := ⟨_, rfl⟩
        obtain ⟨L', HL'⟩ : ∃ x, Hid (alP (zD bs) = x) := ⟨_, rfl⟩
        simp only [HF.out, HH.out, HL.out, HH'.out, HL'.out] at kP ⊢
        have BA := (Below.refl w7.heap.size w7).alloc (Nat.le_refl _) (.cells #[.int .i64 F, .int .u64 H, .int .u64 L, .int .i64 F, .int .u64 H', .int .u64 L', .slice a7 n7 c7] 45)
        have M8 : Hid (Ym (w7.alloc (.cells #[.int .i64 F, .int .u64 H, .int .u64 L, .int .i64 F, .int .u64 H', .int .u64 L', .slice a7 n7 c7] 45)) w7.heap.size F H L F H' L' (.slice a7 n7 c7)) := Ym.new w7 _ _ _ _ _ _ _
        have Y8 := hid (y8.below BA)
        have B8 := hid (bel_bel b1 b1.size BA)
        have hbl : bs.length = n2 := HB2.out.1
        rw [hbl] at kP
        clear o7 g7 b1 y8 BA p1 p2 ez ee hz q1 q2 q3 q8 iS iD iF kG
        go_wp2_with (go_at_call 13; refine (num_ 0 _).mono ?_; rintro e wn ⟨rfl, hw⟩; obtain rfl := hw.symm; clear hw)
        refine (kP _ Y8.out).mono ?_
        rintro e w8 ⟨v8, rfl, o8, g8⟩
        obtain ⟨a9, c9, rfl, y9, i9, j9, _⟩ := own_form o8 HY2.out
        have b8 := bel_bel B8.out B8.out.size g8
        clear kP o8 g8 M8 Y8 B8
        go_wp2_with fail
        refine (same_d a9 a2 n2 c9 n2 c2 bs bs w8 y9 (HB2.out.below b8) hx2 hx2).mono ?_
        rintro e w9 ⟨rfl, d9⟩
        have b9 := bel_bel b8 b8.size d9.below
        rw [sameB_self]
        clear y9 b8 d9
        go_wp2_with (go_at_call 13; refine (num_ 0 _).mono ?_; rintro e wn ⟨rfl, hw⟩; obtain rfl := hw.symm; clear hw)
        go_ret
        exact ⟨rfl, b9⟩
      | false =>
        have ee : zE bs = 90 := by unfold zE; rw [hz]; rfl
        rw [ee]
        generalize zZ bs (af (yN bs)) = F at *
        generalize zZ bs (ah (zS bs)) = H at *
        generalize zZ bs (alP (zS bs)) = L at *
        generalize zZ bs (ah (zD bs)) = H' at *
        generalize zZ bs (alP (zD bs)) = L' at *
        have B8 := hid (b1.alloc b1.size (.cells #[.int .i64 F, .int .u64 H, .int .u64 L, .int .i64 F, .int .u64 H', .int .u64 L', .slice a7 n7 c7] 45))
        clear o7 g7 b1 ee hz kG
        go_wp2_with (go_at_call 13; refine (num_ 90 _).mono ?_; rintro e wn ⟨rfl, hw⟩; obtain rfl := hw.symm; clear hw)
        go_ret
        exact ⟨rfl, B8.out⟩
    | false =>
      generalize uZ ks S bs (gT bs) = T2 at *
      generalize uZ ks S bs (gK bs) = K2 at *
      generalize uZ ks S bs (gG bs) = G2 at *
      generalize uZ ks S bs (gC bs) = C2 at *
      have B5 := hid (b1.alloc b1.size (.cells #[.int .i64 T2, .int .i64 K2, .int .i64 G2, .int .u64 C2, .slice a5 n5 c5] 27))
      clear o5 b1 hu
      go_wp2_with fail
      have b1 := B5.out
      clear B5
      refine (kG _ (HB2.out.below b1)).mono ?_
      rintro e w7 ⟨⟨a7, n7, c7, rfl, o7⟩, g7⟩
      replace b1 := bel_bel b1 b1.size g7
      cases hz : zOk bs with
      | true =>
        obtain ⟨p1, p2⟩ := put_got HY2.out hz
        obtain ⟨q1, q2, q3⟩ := zOk_in hz
        have ez : ∀ x, zZ bs x = x := fun x => by unfold zZ; rw [hz]; rfl
        have ee : zE bs = 0 := by unfold zE; rw [hz]; rfl
        have HZY : Hid (∀ z ∈ zB bs, 0 ≤ z ∧ z ≤ 255) := by
          show ∀ z ∈ _, _
          unfold zB
          rw [hz, if_pos rfl]
          exact fun z hm => HY2.out z (List.mem_of_mem_drop hm)
        obtain ⟨a8, c8, q8, y8, i8, j8, _⟩ := own_form o7 HZY.out
        obtain ⟨rfl, -, rfl⟩ : a7 = a8 ∧ n7 = n7 ∧ c7 = c8 := by simpa using q8
        have hn7 : n7 ≤ 1280 := by
          rw [← y8.1]
          unfold zB
          rw [hz, if_pos rfl, List.length_drop]
          omega
        have iS := ah_in (l := zS bs) (fun z hm => HY2.out z (List.mem_of_mem_drop (List.mem_of_mem_take hm))) (by unfold zS; rw [List.length_take]; omega)
        have iD := ah_in (l := zD bs) (fun z hm => HY2.out z (List.mem_of_mem_drop (List.mem_of_mem_take hm))) (by unfold zD; rw [List.length_take]; omega)
        have iF := af_in (yN bs)
        rw [ez, ez, ez, ez, ez, ee]
        have kP := fun w h => putPayload_ (af (yN bs)) (ah (zS bs)) (alP (zS bs)) (af (yN bs)) (ah (zD bs)) (alP (zD bs)) a7 n7 c7 (zB bs) w h (by omega) iF iS.1 iS.2 iF iD.1 iD.2
        rw [p1, p2] at kP
        obtain ⟨F, HF⟩ : ∃ x, Hid (af (yN bs) = x) := ⟨_, rfl⟩
        obtain ⟨H, HH⟩ : ∃ x, Hid (ah (zS bs) = x) := ⟨_, rfl⟩
        obtain ⟨L, HL⟩ : ∃ x, Hid (alP (zS bs) = x) := ⟨_, rfl⟩
        obtain ⟨H', HH'⟩ : ∃ x, Hid (ah (zD bs) = x) := ⟨_, rfl⟩
        obtain ⟨L', HL'⟩ : ∃ x, Hid (alP (zD bs) = x) := ⟨_, rfl⟩
        simp only [HF.out, HH.out, HL.out, HH'.out, HL'.out] at kP ⊢
        have BA := (Below.refl w7.heap.size w7).alloc (Nat.le_refl _) (.cells #[.int .i64 F, .int .u64 H, .int .u64 L, .int .i64 F, .int .u64 H', .int .u64 L', .slice a7 n7 c7] 45)
        have M8 : Hid (Ym (w7.alloc (.cells #[.int .i64 F, .int .u64 H, .int .u64 L, .int .i64 F, .int .u64 H', .int .u64 L', .slice a7 n7 c7] 45)) w7.heap.size F H L F H' L' (.slice a7 n7 c7)) := Ym.new w7 _ _ _ _ _ _ _
        have Y8 := hid (y8.below BA)
        have B8 := hid (bel_bel b1 b1.size BA)
        have hbl : bs.length = n2 := HB2.out.1
        rw [hbl] at kP
        clear o7 g7 b1 y8 BA p1 p2 ez ee hz q1 q2 q3 q8 iS iD iF kG
        go_wp2_with (go_at_call 13; refine (num_ 0 _).mono ?_; rintro e wn ⟨rfl, hw⟩; obtain rfl := hw.symm; clear hw)
        refine (kP _ Y8.out).mono ?_
        rintro e w8 ⟨v8, rfl, o8, g8⟩
        obtain ⟨a9, c9, rfl, y9, i9, j9, _⟩ := own_form o8 HY2.out
        have b8 := bel_bel B8.out B8.out.size g8
        clear kP o8 g8 M8 Y8 B8
        go_wp2_with fail
        refine (same_d a9 a2 n2 c9 n2 c2 bs bs w8 y9 (HB2.out.below b8) hx2 hx2).mono ?_
        rintro e w9 ⟨rfl, d9⟩
        have b9 := bel_bel b8 b8.size d9.below
        rw [sameB_self]
        clear y9 b8 d9
        go_wp2_with (go_at_call 13; refine (num_ 0 _).mono ?_; rintro e wn ⟨rfl, hw⟩; obtain rfl := hw.symm; clear hw)
        go_ret
        exact ⟨rfl, b9⟩
      | false =>
        have ee : zE bs = 90 := by unfold zE; rw [hz]; rfl
        rw [ee]
        generalize zZ bs (af (yN bs)) = F at *
        generalize zZ bs (ah (zS bs)) = H at *
        generalize zZ bs (alP (zS bs)) = L at *
        generalize zZ bs (ah (zD bs)) = H' at *
        generalize zZ bs (alP (zD bs)) = L' at *
        have B8 := hid (b1.alloc b1.size (.cells #[.int .i64 F, .int .u64 H, .int .u64 L, .int .i64 F, .int .u64 H', .int .u64 L', .slice a7 n7 c7] 45))
        clear o7 g7 b1 ee hz kG
        go_wp2_with (go_at_call 13; refine (num_ 90 _).mono ?_; rintro e wn ⟨rfl, hw⟩; obtain rfl := hw.symm; clear hw)
        go_ret
        exact ⟨rfl, B8.out⟩
  · have hE1 : (E == 0) = false := by simpa using hE0
    clear hE0
    go_wp2_with (go_at_call 13; refine (num_ E _).mono ?_; rintro e wn ⟨rfl, hw⟩; obtain rfl := hw.symm; clear hw)
    clear y2 m1 kV
    refine (kO _ (HB0.out.below b1) (HB2.out.below b1)).mono ?_
    rintro e w5 ⟨⟨a5, n5, c5, rfl, o5, hm5⟩, g5⟩
    replace b1 := bel_bel b1 b1.size g5
    clear kO g5
    cases hu : uOk ks S bs with
    | true =>
      obtain ⟨p1, p2⟩ := seal_opened HY0.out HY2.out hu
      have ez : ∀ x, uZ ks S bs x = x := fun x => (HZU bs x).out hu
      have HUB : Hid (∀ z ∈ uB ks S bs, 0 ≤ z ∧ z ≤ 255) := by
        show ∀ z ∈ _, _
        unfold uB
        rw [hu, if_pos rfl]
        unfold oP
        split
        · exact ic_bytes (st_lt (kf_lt (nt_lt HY0.out)) (nt_lt (nRow_byte _ _ _)) (fun x hx => nt_lt (fun z hz => HY2.out z (List.mem_of_mem_drop hz)) x (List.mem_of_mem_take hx)))
        · intro z hz
          simp [ic] at hz
      obtain ⟨a6, c6, q6, y5, i5, j5, _⟩ := own_form o5 HUB.out
      obtain ⟨rfl, -, rfl⟩ : a5 = a6 ∧ n5 = n5 ∧ c5 = c6 := by simpa using q6
      have hCC : InU (gC bs) := by
        have hg := hu
        unfold uOk at hg
        rw [Bool.and_eq_true, Bool.and_eq_true] at hg
        have hgg := hg.2.1
        unfold gOk at hgg
        rw [Bool.and_eq_true] at hgg
        have hlen := of_decide_eq_true hgg.1
        have hv := val4 HY2.out 12 8 (by omega)
        exact ⟨hv.1, by have := hv.2; have e : (256 : Int) ^ 8 = 18446744073709551616 := (by decide); unfold gC; omega⟩
      rw [ez, ez, ez, ez]
      have kT := fun w h0 h1 => seal9_ a0 n0 c0 ks S (gT bs) (gK bs) (gG bs) (gC bs) a5 n5 c5 (uB ks S bs) w h0 h1 hx0 i5 j5 hCC
      rw [p1, p2, HB2.out.1] at kT
      obtain ⟨T2, HT2⟩ : ∃ x, Hid (gT bs = x) := ⟨_, rfl⟩
      obtain ⟨K2, HK2⟩ : ∃ x, Hid (gK bs = x) := ⟨_, rfl⟩
      obtain ⟨G2, HG2⟩ : ∃ x, Hid (gG bs = x) := ⟨_, rfl⟩
      obtain ⟨C2, HC2⟩ : ∃ x, Hid (gC bs = x) := ⟨_, rfl⟩
      simp only [HT2.out, HK2.out, HG2.out, HC2.out] at kT ⊢
      have BA := (Below.refl w5.heap.size w5).alloc (Nat.le_refl _) (.cells #[.int .i64 T2, .int .i64 K2, .int .i64 G2, .int .u64 C2, .slice a5 n5 c5] 27)
      have M5 : Hid (Km (w5.alloc (.cells #[.int .i64 T2, .int .i64 K2, .int .i64 G2, .int .u64 C2, .slice a5 n5 c5] 27)) w5.heap.size T2 K2 G2 C2 (.slice a5 n5 c5)) := Km.new w5 _ _ _ _ _
      have Y5 := hid (y5.below BA)
      have B5 := hid (bel_bel b1 b1.size BA)
      clear o5 b1 y5 BA p1 p2 ez hu q6 hCC
      go_wp2_with fail
      refine (kT _ (HB0.out.below B5.out) Y5.out).mono ?_
      rintro e w6 ⟨v6, rfl, o6, g6⟩
      obtain ⟨a6, c6, rfl, y6, i6, j6, _⟩ := own_form o6 HY2.out
      have b6 := bel_bel B5.out B5.out.size g6
      clear kT o6 g6 M5 Y5 B5
      go_wp2_with fail
      refine (same_d a6 a2 n2 c6 n2 c2 bs bs w6 y6 (HB2.out.below b6) hx2 hx2).mono ?_
      rintro e w7 ⟨rfl, d7⟩
      have b1 := bel_bel b6 b6.size d7.below
      rw [sameB_self]
      clear y6 b6 d7
      go_wp2_with (go_at_call 13; refine (num_ 0 _).mono ?_; rintro e wn ⟨rfl, hw⟩; obtain rfl := hw.symm; clear hw)
      refine (kG _ (HB2.out.below b1)).mono ?_
      rintro e w7 ⟨⟨a7, n7, c7, rfl, o7⟩, g7⟩
      replace b1 := bel_bel b1 b1.size g7
      cases hz : zOk bs with
      | true =>
        obtain ⟨p1, p2⟩ := put_got HY2.out hz
        obtain ⟨q1, q2, q3⟩ := zOk_in hz
        have ez : ∀ x, zZ bs x = x := fun x => by unfold zZ; rw [hz]; rfl
        have ee : zE bs = 0 := by unfold zE; rw [hz]; rfl
        have HZY : Hid (∀ z ∈ zB bs, 0 ≤ z ∧ z ≤ 255) := by
          show ∀ z ∈ _, _
          unfold zB
          rw [hz, if_pos rfl]
          exact fun z hm => HY2.out z (List.mem_of_mem_drop hm)
        obtain ⟨a8, c8, q8, y8, i8, j8, _⟩ := own_form o7 HZY.out
        obtain ⟨rfl, -, rfl⟩ : a7 = a8 ∧ n7 = n7 ∧ c7 = c8 := by simpa using q8
        have hn7 : n7 ≤ 1280 := by
          rw [← y8.1]
          unfold zB
          rw [hz, if_pos rfl, List.length_drop]
          omega
        have iS := ah_in (l := zS bs) (fun z hm => HY2.out z (List.mem_of_mem_drop (List.mem_of_mem_take hm))) (by unfold zS; rw [List.length_take]; omega)
        have iD := ah_in (l := zD bs) (fun z hm => HY2.out z (List.mem_of_mem_drop (List.mem_of_mem_take hm))) (by unfold zD; rw [List.length_take]; omega)
        have iF := af_in (yN bs)
        rw [ez, ez, ez, ez, ez, ee]
        have kP := fun w h => putPayload_ (af (yN bs)) (ah (zS bs)) (alP (zS bs)) (af (yN bs)) (ah (zD bs)) (alP (zD bs)) a7 n7 c7 (zB bs) w h (by omega) iF iS.1 iS.2 iF iD.1 iD.2
        rw [p1, p2] at kP
        obtain ⟨F, HF⟩ : ∃ x, Hid (af (yN bs) = x) := ⟨_, rfl⟩
        obtain ⟨H, HH⟩ : ∃ x, Hid (ah (zS bs) = x) := ⟨_, rfl⟩
        obtain ⟨L, HL⟩ : ∃ x, Hid (alP (zS bs) = x) := ⟨_, rfl⟩
        obtain ⟨H', HH'⟩ : ∃ x, Hid (ah (zD bs) = x) := ⟨_, rfl⟩
        obtain ⟨L', HL'⟩ : ∃ x, Hid (alP (zD bs) = x) := ⟨_, rfl⟩
        simp only [HF.out, HH.out, HL.out, HH'.out, HL'.out] at kP ⊢
        have BA := (Below.refl w7.heap.size w7).alloc (Nat.le_refl _) (.cells #[.int .i64 F, .int .u64 H, .int .u64 L, .int .i64 F, .int .u64 H', .int .u64 L', .slice a7 n7 c7] 45)
        have M8 : Hid (Ym (w7.alloc (.cells #[.int .i64 F, .int .u64 H, .int .u64 L, .int .i64 F, .int .u64 H', .int .u64 L', .slice a7 n7 c7] 45)) w7.heap.size F H L F H' L' (.slice a7 n7 c7)) := Ym.new w7 _ _ _ _ _ _ _
        have Y8 := hid (y8.below BA)
        have B8 := hid (bel_bel b1 b1.size BA)
        have hbl : bs.length = n2 := HB2.out.1
        rw [hbl] at kP
        clear o7 g7 b1 y8 BA p1 p2 ez ee hz q1 q2 q3 q8 iS iD iF kG
        go_wp2_with (go_at_call 13; refine (num_ 0 _).mono ?_; rintro e wn ⟨rfl, hw⟩; obtain rfl := hw.symm; clear hw)
        refine (kP _ Y8.out).mono ?_
        rintro e w8 ⟨v8, rfl, o8, g8⟩
        obtain ⟨a9, c9, rfl, y9, i9, j9, _⟩ := own_form o8 HY2.out
        have b8 := bel_bel B8.out B8.out.size g8
        clear kP o8 g8 M8 Y8 B8
        go_wp2_with fail
        refine (same_d a9 a2 n2 c9 n2 c2 bs bs w8 y9 (HB2.out.below b8) hx2 hx2).mono ?_
        rintro e w9 ⟨rfl, d9⟩
        have b9 := bel_bel b8 b8.size d9.below
        rw [sameB_self]
        clear y9 b8 d9
        go_wp2_with (go_at_call 13; refine (num_ 0 _).mono ?_; rintro e wn ⟨rfl, hw⟩; obtain rfl := hw.symm; clear hw)
        go_ret
        exact ⟨rfl, b9⟩
      | false =>
        have ee : zE bs = 90 := by unfold zE; rw [hz]; rfl
        rw [ee]
        generalize zZ bs (af (yN bs)) = F at *
        generalize zZ bs (ah (zS bs)) = H at *
        generalize zZ bs (alP (zS bs)) = L at *
        generalize zZ bs (ah (zD bs)) = H' at *
        generalize zZ bs (alP (zD bs)) = L' at *
        have B8 := hid (b1.alloc b1.size (.cells #[.int .i64 F, .int .u64 H, .int .u64 L, .int .i64 F, .int .u64 H', .int .u64 L', .slice a7 n7 c7] 45))
        clear o7 g7 b1 ee hz kG
        go_wp2_with (go_at_call 13; refine (num_ 90 _).mono ?_; rintro e wn ⟨rfl, hw⟩; obtain rfl := hw.symm; clear hw)
        go_ret
        exact ⟨rfl, B8.out⟩
    | false =>
      generalize uZ ks S bs (gT bs) = T2 at *
      generalize uZ ks S bs (gK bs) = K2 at *
      generalize uZ ks S bs (gG bs) = G2 at *
      generalize uZ ks S bs (gC bs) = C2 at *
      have B5 := hid (b1.alloc b1.size (.cells #[.int .i64 T2, .int .i64 K2, .int .i64 G2, .int .u64 C2, .slice a5 n5 c5] 27))
      clear o5 b1 hu
      go_wp2_with fail
      have b1 := B5.out
      clear B5
      refine (kG _ (HB2.out.below b1)).mono ?_
      rintro e w7 ⟨⟨a7, n7, c7, rfl, o7⟩, g7⟩
      replace b1 := bel_bel b1 b1.size g7
      cases hz : zOk bs with
      | true =>
        obtain ⟨p1, p2⟩ := put_got HY2.out hz
        obtain ⟨q1, q2, q3⟩ := zOk_in hz
        have ez : ∀ x, zZ bs x = x := fun x => by unfold zZ; rw [hz]; rfl
        have ee : zE bs = 0 := by unfold zE; rw [hz]; rfl
        have HZY : Hid (∀ z ∈ zB bs, 0 ≤ z ∧ z ≤ 255) := by
          show ∀ z ∈ _, _
          unfold zB
          rw [hz, if_pos rfl]
          exact fun z hm => HY2.out z (List.mem_of_mem_drop hm)
        obtain ⟨a8, c8, q8, y8, i8, j8, _⟩ := own_form o7 HZY.out
        obtain ⟨rfl, -, rfl⟩ : a7 = a8 ∧ n7 = n7 ∧ c7 = c8 := by simpa using q8
        have hn7 : n7 ≤ 1280 := by
          rw [← y8.1]
          unfold zB
          rw [hz, if_pos rfl, List.length_drop]
          omega
        have iS := ah_in (l := zS bs) (fun z hm => HY2.out z (List.mem_of_mem_drop (List.mem_of_mem_take hm))) (by unfold zS; rw [List.length_take]; omega)
        have iD := ah_in (l := zD bs) (fun z hm => HY2.out z (List.mem_of_mem_drop (List.mem_of_mem_take hm))) (by unfold zD; rw [List.length_take]; omega)
        have iF := af_in (yN bs)
        rw [ez, ez, ez, ez, ez, ee]
        have kP := fun w h => putPayload_ (af (yN bs)) (ah (zS bs)) (alP (zS bs)) (af (yN bs)) (ah (zD bs)) (alP (zD bs)) a7 n7 c7 (zB bs) w h (by omega) iF iS.1 iS.2 iF iD.1 iD.2
        rw [p1, p2] at kP
        obtain ⟨F, HF⟩ : ∃ x, Hid (af (yN bs) = x) := ⟨_, rfl⟩
        obtain ⟨H, HH⟩ : ∃ x, Hid (ah (zS bs) = x) := ⟨_, rfl⟩
        obtain ⟨L, HL⟩ : ∃ x, Hid (alP (zS bs) = x) := ⟨_, rfl⟩
        obtain ⟨H', HH'⟩ : ∃ x, Hid (ah (zD bs) = x) := ⟨_, rfl⟩
        obtain ⟨L', HL'⟩ : ∃ x, Hid (alP (zD bs) = x) := ⟨_, rfl⟩
        simp only [HF.out, HH.out, HL.out, HH'.out, HL'.out] at kP ⊢
        have BA := (Below.refl w7.heap.size w7).alloc (Nat.le_refl _) (.cells #[.int .i64 F, .int .u64 H, .int .u64 L, .int .i64 F, .int .u64 H', .int .u64 L', .slice a7 n7 c7] 45)
        have M8 : Hid (Ym (w7.alloc (.cells #[.int .i64 F, .int .u64 H, .int .u64 L, .int .i64 F, .int .u64 H', .int .u64 L', .slice a7 n7 c7] 45)) w7.heap.size F H L F H' L' (.slice a7 n7 c7)) := Ym.new w7 _ _ _ _ _ _ _
        have Y8 := hid (y8.below BA)
        have B8 := hid (bel_bel b1 b1.size BA)
        have hbl : bs.length = n2 := HB2.out.1
        rw [hbl] at kP
        clear o7 g7 b1 y8 BA p1 p2 ez ee hz q1 q2 q3 q8 iS iD iF kG
        go_wp2_with (go_at_call 13; refine (num_ 0 _).mono ?_; rintro e wn ⟨rfl, hw⟩; obtain rfl := hw.symm; clear hw)
        refine (kP _ Y8.out).mono ?_
        rintro e w8 ⟨v8, rfl, o8, g8⟩
        obtain ⟨a9, c9, rfl, y9, i9, j9, _⟩ := own_form o8 HY2.out
        have b8 := bel_bel B8.out B8.out.size g8
        clear kP o8 g8 M8 Y8 B8
        go_wp2_with fail
        refine (same_d a9 a2 n2 c9 n2 c2 bs bs w8 y9 (HB2.out.below b8) hx2 hx2).mono ?_
        rintro e w9 ⟨rfl, d9⟩
        have b9 := bel_bel b8 b8.size d9.below
        rw [sameB_self]
        clear y9 b8 d9
        go_wp2_with (go_at_call 13; refine (num_ 0 _).mono ?_; rintro e wn ⟨rfl, hw⟩; obtain rfl := hw.symm; clear hw)
        go_ret
        exact ⟨rfl, b9⟩
      | false =>
        have ee : zE bs = 90 := by unfold zE; rw [hz]; rfl
        rw [ee]
        generalize zZ bs (af (yN bs)) = F at *
        generalize zZ bs (ah (zS bs)) = H at *
        generalize zZ bs (alP (zS bs)) = L at *
        generalize zZ bs (ah (zD bs)) = H' at *
        generalize zZ bs (alP (zD bs)) = L' at *
        have B8 := hid (b1.alloc b1.size (.cells #[.int .i64 F, .int .u64 H, .int .u64 L, .int .i64 F, .int .u64 H', .int .u64 L', .slice a7 n7 c7] 45))
        clear o7 g7 b1 ee hz kG
        go_wp2_with (go_at_call 13; refine (num_ 90 _).mono ?_; rintro e wn ⟨rfl, hw⟩; obtain rfl := hw.symm; clear hw)
        go_ret
        exact ⟨rfl, B8.out⟩
end Go.Proofs.Ytnjfckijpbgagaa
