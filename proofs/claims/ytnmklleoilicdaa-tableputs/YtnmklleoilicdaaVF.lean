import Derived.Test.YtnmklleoilicdaaVP
import Derived.Test.YtnmklleoilicdaaVQ
import Derived.Test.YtnmklleoilicdaaVB
namespace Go.Proofs.Ytnmklleoilicdaa
set_option maxRecDepth 100000
open Go.RowKit Go.Shelf Go.Maps
set_option linter.unusedVariables false
attribute [local go_sem ↓] Go.wp_at_zero Go.wp_at_succ

theorem getD_app {x r : List Int} {T j : Nat} (h : x.length = T) : (x ++ r).getD (T + j) 0 = r.getD j 0 := by
  subst h
  simp only [List.getD]
  rw [List.getElem?_append_right (by omega)]
  congr 2
  omega
theorem Okb.right {x r : List Int} (h : Okb (x ++ r)) : Okb r := fun z hz => h z (by simp [hz])
theorem set3a {w : World} {q : Nat} {x0 x1 x2 v : Value} {T : TypeId} (h : w.heap[q]? = some (.cells #[x0, x1, x2] T (0, 0))) : (w.setCell ⟨q, 0, none⟩ v).heap[q]? = some (.cells #[v, x1, x2] T (0, 0)) := by
  simp [World.setCell, Array.getElem?_modify, h]
theorem set3b {w : World} {q : Nat} {x0 x1 x2 v : Value} {T : TypeId} (h : w.heap[q]? = some (.cells #[x0, x1, x2] T (0, 0))) : (w.setCell ⟨q, 1, none⟩ v).heap[q]? = some (.cells #[x0, v, x2] T (0, 0)) := by
  simp [World.setCell, Array.getElem?_modify, h]
theorem bs_at {w : World} {b off n c m p : Nat} {zs : List Int} (h : Bs w (some ⟨b, off, none⟩) n zs) (hnc : n ≤ c) (hp : m + p ≤ n) : Bs w (some ⟨b, if c = m then off else off + m, none⟩) p ((zs.drop m).take p) := by
  refine ⟨by have := h.1; simp; omega, fun z hz => h.2.1 z (List.mem_of_mem_drop (List.mem_of_mem_take hz)), ?_⟩
  by_cases hp0 : p = 0
  · exact .inl hp0
  rcases h.2.2 with h0 | ⟨b', off', e, hc⟩
  · omega
  · obtain ⟨rfl, rfl⟩ : b = b' ∧ off = off' := by simpa using e
    rw [if_neg (by omega)]
    refine .inr ⟨b, off + m, rfl, fun i hi => ?_⟩
    rw [Nat.add_assoc, hc (m + i) (by omega)]
    simp only [List.getD, List.getElem?_take, if_pos hi, List.getElem?_drop]
set_option maxHeartbeats 1000000 in
/-- The document's GetSets. -/
theorem rgets_ (a : Option Addr) (n c : Nat) (zs : List Int) (w : World) (hv : Vs w (fun x => x < w.heap.size) a n c zs) (hn : n ≤ 100000) :
    Calls Try.prog 47 #[.slice a n c] w fun e w' => (∃ l a' m c', gs zs = some l ∧ e = .returned (.tuple #[.slice a' m c', .int .i64 0]) ∧ Sl w' (fun x => w.heap.size ≤ x) a' m l ∧ m ≤ c' ∧ c' ≤ maxLen ∧ (a' = none → c' = 0) ∧ Below w.heap.size w w') ∨ (gs zs = none ∧ e = .returned (.tuple #[.slice none 0 0, .int .i64 114]) ∧ Below w.heap.size w w') := by
  have HB := hid hv.bs
  have HZ : Hid (zs.length = n) := hv.bs.1
  have HOB : Hid (Okb zs) := hv.bs.2.1
  have hnc := hv.nc
  have hcm := hv.cm
  unfold maxLen at hcm
  clear hv
  go_enter Try.func47, Try.ntmps47
  go_wp2_with fail
  go_loopw [4, 5] (fun v i wr => ∃ (ds : List SD) (T : Nat) (r : List Int), i = .int .i64 T ∧ T + r.length = n ∧ Hid (Sw w wr v ds) ∧ Hid (okFrom [] (ds.map (·.s)) = true) ∧ Hid (enc (ds.map (·.s)) ++ r = zs)) (fun _ i _ => n - (intOf i).toNat)
  case atStart => exact ⟨[], 0, zs, rfl, by rw [Nat.zero_add]; exact HZ.out, ⟨World.ownsRow_nil _ _ _ _, fun d hd => by simp at hd, Below.refl _ _⟩, rfl, rfl⟩
  case round =>
    obtain ⟨ds, T, r, rfl, hTr, HS, HO, HE⟩ := hrel
    by_cases hlt : T < n
    · have hI : (T : Int) < n := by omega
      have HEL : Hid ((enc (ds.map (·.s))).length = T) := by have h := congrArg List.length HE.out; rw [List.length_append, HZ.out] at h; show _ = _; omega
      have HR0 : Hid (r ≠ []) := fun e => by rw [e] at hTr; simp at hTr; omega
      have HG : Hid (∀ j, zs.getD (T + j) 0 = r.getD j 0) := fun j => by rw [← HE.out]; exact getD_app HEL.out
      have HOR : Hid (Okb r) := Okb.right (x := enc (ds.map (·.s))) (by rw [HE.out]; exact HOB.out)
      obtain ⟨b, off, rfl, hc⟩ : ∃ b off, a = some ⟨b, off, none⟩ ∧ ∀ i, i < n → wr.cell? ⟨b, off + i, none⟩ = some (.int .u8 (zs.getD i 0)) := by
        rcases (HB.out.below HS.out.bel).2.2 with h0 | h
        · omega
        · exact h
      have HBR := hid (HB.out.below HS.out.bel)
      have hcell : ∀ j, T + j < n → wr.cell? ⟨b, off + (T + j), none⟩ = some (.int .u8 (r.getD j 0)) := fun j hj => by rw [hc (T + j) hj, HG.out j]
      have hby : ∀ j, 0 ≤ r.getD j 0 ∧ r.getD j 0 ≤ 255 := fun j => okb_at HOR.out j
      clear hc
      by_cases h4 : n < T + 4
      · have e1 : (n : Int) - T < 4 := by omega
        have HF := hid (dg_few HO.out HE.out HR0.out (by omega))
        clear hcell hby
        go_wp2_with fail
        go_ret2
        exact .inr ⟨HF.out, rfl, HS.out.bel⟩
      have e1 : ¬ (n : Int) - T < 4 := by omega
      have c0 := hcell 0 (by omega)
      rw [Nat.add_zero] at c0
      obtain ⟨x, HX⟩ : ∃ x, Hid (r.getD 0 0 = x) := ⟨_, rfl⟩
      have hx := hby 0
      rw [HX.out] at c0 hx
      by_cases h1 : 1 < x
      · have e2 : x > 1 := h1
        have HF := hid (dg_short HO.out HE.out HR0.out (.inr (by rw [HX.out]; exact h1)))
        clear hcell hby
        go_wp2_with fail
        go_ret2
        exact .inr ⟨HF.out, rfl, HS.out.bel⟩
      have e2 : ¬ x > 1 := h1
      have c1 := hcell 1 (by omega)
      have c2 := hcell 2 (by omega)
      have c3 := hcell 3 (by omega)
      have b1 := hby 1
      have b2 := hby 2
      have b3 := hby 3
      obtain ⟨K, HK⟩ : ∃ K, Hid (dgK r = K) := ⟨_, rfl⟩
      obtain ⟨V, HV⟩ : ∃ V, Hid (dgV r = V) := ⟨_, rfl⟩
      have hK : r.getD 1 0 = (K : Int) := by rw [← HK.out]; unfold dgK; omega
      have hV : r.getD 2 0 * 256 + r.getD 3 0 = (V : Int) := by rw [← HV.out]; unfold dgV; omega
      rw [hK] at c1
      obtain ⟨y2, Hy2⟩ : ∃ x, Hid (r.getD 2 0 = x) := ⟨_, rfl⟩
      obtain ⟨y3, Hy3⟩ : ∃ x, Hid (r.getD 3 0 = x) := ⟨_, rfl⟩
      rw [Hy2.out] at c2 hV b2
      rw [Hy3.out] at c3 hV b3
      have hK255 : K ≤ 255 := by rw [hK] at b1; omega
      have hV6 : V ≤ 65535 := by omega
      obtain ⟨T1, HT1⟩ : ∃ x : Nat, Hid (T + 1 = x) := ⟨_, rfl⟩
      obtain ⟨T2, HT2⟩ : ∃ x : Nat, Hid (T + 2 = x) := ⟨_, rfl⟩
      obtain ⟨T3, HT3⟩ : ∃ x : Nat, Hid (T + 3 = x) := ⟨_, rfl⟩
      have t1 : (T : Int) + 1 = T1 := by have := HT1.out; omega
      have t2 : (T : Int) + 2 = T2 := by have := HT2.out; omega
      have t3 : (T : Int) + 3 = T3 := by have := HT3.out; omega
      have l1 : (T1 : Int) < n := by omega
      have l2 : (T2 : Int) < n := by omega
      have l3 : (T3 : Int) < n := by omega
      rw [HT1.out] at c1
      rw [HT2.out] at c2
      rw [HT3.out] at c3
      clear hcell hby hK b1
      by_cases h5 : n < T + 4 + K + V
      · have e3 : (n : Int) - T - 4 < (K : Int) + V := by omega
        have HF := hid (dg_short HO.out HE.out HR0.out (.inl (by rw [HK.out, HV.out]; omega)))
        go_wp2_with fail
        go_region
        go_wp2_with fail
        go_ret2
        exact .inr ⟨HF.out, rfl, bel_bel HS.out.bel HS.out.bel.size (below_drew wr)⟩
      have e3 : ¬ (n : Int) - T - 4 < (K : Int) + V := by omega
      go_wp2_with fail
      go_region
      have HS1 := hid (HS.out.below (below_drew wr))
      have c0' : wr.drew.cell? ⟨b, off + T, none⟩ = some (.int .u8 x) := c0
      have HC0 := hid c0'
      clear c0 c0' c1 c2 c3 HS
      have HBR1 : Hid (Bs wr.drew (some ⟨b, off, none⟩) n zs) := HBR.out.below (below_drew wr)
      generalize wr.drew = w1 at *
      have c0 := HC0.out
      obtain ⟨s, HSS⟩ : ∃ s, Hid (dgS r = s) := ⟨_, rfl⟩
      have hln := dg_len (r := r) (by rw [HK.out, HV.out]; omega)
      rw [HSS.out, HK.out, HV.out] at hln
      have HON : Hid ((mayS s && lx (lkey [] (ds.map (·.s))) s.k) = true → okFrom [] (ds.map (·.s) ++ [s]) = true ∧ enc (ds.map (·.s) ++ [s]) ++ r.drop (4 + K + V) = zs) := fun h => by
        have := dg_on HOR.out HO.out HE.out (by rw [HK.out, HV.out]; omega) (by rw [HX.out]; omega) (by rw [HSS.out]; exact h)
        rw [HSS.out, HK.out, HV.out] at this
        exact this
      have HNO : Hid ((mayS s && lx (lkey [] (ds.map (·.s))) s.k) = false → gs zs = none) := fun h => dg_bad HO.out HE.out HR0.out (by rw [HSS.out]; exact h)
      obtain ⟨T4, HT4⟩ : ∃ x : Nat, Hid (T + 4 = x) := ⟨_, rfl⟩
      obtain ⟨M5, HM5⟩ : ∃ x : Nat, Hid (T4 + K = x) := ⟨_, rfl⟩
      obtain ⟨M6, HM6⟩ : ∃ x : Nat, Hid (M5 + V = x) := ⟨_, rfl⟩
      have hT4 := HT4.out
      have hM5 := HM5.out
      have hM6 := HM6.out
      have t4 : (T : Int) + 4 = T4 := by omega
      have t5 : (T4 : Int) + K = M5 := by omega
      have t6 : (M5 : Int) + V = M6 := by omega
      have u1 : (0 : Int) ≤ (T4 : Int) := by omega
      have u2' : (T4 : Int) ≤ (M5 : Int) := by omega
      have u3' : (M5 : Int) ≤ (c : Int) := by omega
      have u4' : (M5 : Int) ≤ (M6 : Int) := by omega
      have u5 : (M6 : Int) ≤ (c : Int) := by omega
      have u6 : (0 : Int) ≤ (M5 : Int) := by omega
      have i1 : ((M5 : Int) - (T4 : Int)).toNat = K := by omega
      have i2 : M5 - T4 = K := by omega
      have i3 : ((M6 : Int) - (M5 : Int)).toNat = V := by omega
      have i4 : M6 - M5 = V := by omega
      have HSK : Hid (s.k = (zs.drop T4).take K) := by
        show _ = _
        rw [← HSS.out, ← HE.out, ← hT4]
        unfold dgS
        rw [HK.out, List.drop_append, HEL.out]
        simp [List.drop_of_length_le, HEL.out]
      have HSVv : Hid (s.v = (zs.drop M5).take V) := by
        show _ = _
        rw [← HSS.out, ← HE.out, ← hM5, ← hT4]
        unfold dgS
        rw [HK.out, HV.out, List.drop_append, HEL.out, List.drop_drop, show T + 4 + K - T = 4 + K by omega]
        simp [List.drop_of_length_le, HEL.out, show T ≤ T + 4 + K by omega]
      obtain ⟨o4, Ho4⟩ : ∃ o, Hid ((if c = T4 then off else off + T4) = o) := ⟨_, rfl⟩
      obtain ⟨o5', Ho5⟩ : ∃ o, Hid ((if c = M5 then off else off + M5) = o) := ⟨_, rfl⟩
      have r4 : (if c = T4 then some (⟨b, off, none⟩ : Addr) else some ⟨b, off + T4, none⟩) = some ⟨b, o4, none⟩ := by rw [← Ho4.out]; split <;> rfl
      have r5 : (if c = M5 then some (⟨b, off, none⟩ : Addr) else some ⟨b, off + M5, none⟩) = some ⟨b, o5', none⟩ := by rw [← Ho5.out]; split <;> rfl
      have HBK : Hid (∀ wx, Below w.heap.size w wx → Bs wx (some ⟨b, o4, none⟩) K s.k) := fun wx hb => by rw [HSK.out, ← Ho4.out]; exact bs_at (HB.out.below hb) hnc (by omega)
      have HBV : Hid (∀ wx, Below w.heap.size w wx → Bs wx (some ⟨b, o5', none⟩) V s.v) := fun wx hb => by rw [HSVv.out, ← Ho5.out]; exact bs_at (HB.out.below hb) hnc (by omega)
      obtain ⟨g, HGG⟩ : ∃ g, Hid (s.g = g) := ⟨_, rfl⟩
      have hg : (x == 0) = g := by
        rw [← HGG.out, ← HSS.out]
        unfold dgS
        simp only
        rw [HX.out]
        by_cases h : x = 0
        · subst h; rfl
        · rw [decide_eq_false h]; exact beq_eq_false_iff_ne.2 h
      obtain ⟨kk, vv, g'⟩ := s
      obtain rfl : g' = g := HGG.out
      simp only at hln HBK HBV HON HNO
      have HKL := hid hln.1
      have HVL := hid hln.2
      clear hT4 hM5 hM6 hln HSK HSVv HBR1 HBR HG HGG
      obtain ⟨al, cl, hv, hsl, -, -, -⟩ := Sl.ofOwn (V := fun x => w.heap.size ≤ x) HS1.out.own (fun d hd => (HS1.out.sv d hd).wide fun x _ h => h.1) (fun x hx => hx)
      subst hv
      obtain ⟨m, HM⟩ : ∃ m, Hid (ds.length = m) := ⟨_, rfl⟩
      have HSE : Hid (Value.slice al ds.length cl = Value.slice al m cl) := by rw [HM.out]; rfl
      rw [HSE.out] at HS1
      rw [HM.out] at hsl
      have HSL := hid hsl
      have hm5 : m ≤ 100000 := by
        have h1 := enc_len_le (ds.map (·.s))
        rw [HEL.out, List.length_map, HM.out] at h1
        omega
      have HOL : Hid (∀ x, (Value.slice al m cl).ownBlock = some x → x < w1.heap.size) := fun x e => (HS1.out.own.lt x e).2
      clear hsl
      rw [HM.out]
      have HA1 := hid ((Below.refl w1.heap.size w1).alloc (Nat.le_refl _) (.cells #[.slice none 0 0, .slice none 0 0, .bool g'] 37))
      have HN1 := hid (heap_alloc_new w1 (.cells #[.slice none 0 0, .slice none 0 0, .bool g'] 37))
      have HBL := hid HS1.out.bel
      have HSB := hid HS1.out.bel.size
      have kB : Hid (∀ wx, Below w1.heap.size w1 wx → Below w.heap.size w wx) := fun wx h => bel_bel HBL.out HSB.out h
      have HK1 : Hid (Okb kk) := (HBK.out w1 HBL.out).2.1
      have HK2 : Hid (Okb vv) := (HBV.out w1 HBL.out).2.1
      have k1 := fun wx (hb : Below w1.heap.size w1 wx) => refBytes (some ⟨b, o4, none⟩) K (c - T4) kk wx (HBK.out _ (kB.out _ hb)) (by omega)
      have k2 := fun wx (hb : Below w1.heap.size w1 wx) => refBytes (some ⟨b, o5', none⟩) V (c - M5) vv wx (HBV.out _ (kB.out _ hb)) (by omega)
      go_wp2_with fail
      refine (k1 _ HA1.out).mono ?_
      rintro e w3 ⟨v3, rfl, ow3, g3⟩
      obtain ⟨p1, q1, rfl, vs1⟩ := Vs.ofOwn ow3 HK1.out
      have HN3 := hid ((g3.block w1.heap.size (by simp)).trans HN1.out)
      have HB3 := hid (bel_bel HA1.out HA1.out.size g3)
      have HV1 : Hid (Vs w3 (fun x => w1.heap.size < x) p1 K q1 kk) := vs1.wide fun x _ hx => by simp at hx; omega
      clear k1 ow3 g3 vs1 HA1 HN1 c0 HC0 r4
      have f0 : w3.frozen? ⟨w1.heap.size, 0, none⟩ = false := by simp [World.frozen?, HN3.out]
      have z0 : w3.cell? ⟨w1.heap.size, 0, none⟩ = some (.slice none 0 0) := by rw [cell_of_row w3 w1.heap.size 0 _ 37 (0, 0) HN3.out]; rfl
      have HN4 := hid (set3a (v := .slice p1 K q1) HN3.out)
      have HB4 := hid (HB3.out.setCell (p := ⟨w1.heap.size, 0, none⟩) (Nat.le_refl _) (.slice p1 K q1))
      have HV4 := hid (HV1.out.step (w' := w3.setCell ⟨w1.heap.size, 0, none⟩ (.slice p1 K q1)) fun x _ (hx : w1.heap.size < x) _ => Below.heap_setCell _ _ _ _ (by first | (show x ≠ w1.heap.size; omega) | (show w1.heap.size ≠ x; omega)))
      go_wp2_with fail
      clear f0 z0
      generalize w3.setCell ⟨w1.heap.size, 0, none⟩ (.slice p1 K q1) = w4 at *
      refine (k2 _ HB4.out).mono ?_
      rintro e w5 ⟨v5, rfl, ow5, g5⟩
      obtain ⟨p2, q2, rfl, vs2⟩ := Vs.ofOwn ow5 HK2.out
      have hgs : w1.heap.size < w4.heap.size := (Array.getElem?_eq_some_iff.1 HN4.out).1
      have HN5 := hid ((g5.block w1.heap.size hgs).trans HN4.out)
      have HB5 := hid (bel_bel HB4.out HB4.out.size g5)
      have HV5 := hid (HV4.out.lift g5 (fun _ _ h => h))
      have HV2 : Hid (Vs w5 (fun x => w1.heap.size < x) p2 V q2 vv) := vs2.wide fun x _ hx => by omega
      clear k2 ow5 g5 vs2 HN4 HB4 HV4 HN3 HB3 HV1 r5 hgs
      have f1 : w5.frozen? ⟨w1.heap.size, 1, none⟩ = false := by simp [World.frozen?, HN5.out]
      have z0 : w5.cell? ⟨w1.heap.size, 1, none⟩ = some (.slice none 0 0) := by rw [cell_of_row w5 w1.heap.size 1 _ 37 (0, 0) HN5.out]; rfl
      have HN6 := hid (set3b (v := .slice p2 V q2) HN5.out)
      have HB6 := hid (HB5.out.setCell (p := ⟨w1.heap.size, 1, none⟩) (Nat.le_refl _) (.slice p2 V q2))
      have HV1 := hid (HV5.out.step (w' := w5.setCell ⟨w1.heap.size, 1, none⟩ (.slice p2 V q2)) fun x _ (hx : w1.heap.size < x) _ => Below.heap_setCell _ _ _ _ (by first | (show x ≠ w1.heap.size; omega) | (show w1.heap.size ≠ x; omega)))
      have HV2 := hid (HV2.out.step (w' := w5.setCell ⟨w1.heap.size, 1, none⟩ (.slice p2 V q2)) fun x _ (hx : w1.heap.size < x) _ => Below.heap_setCell _ _ _ _ (by first | (show x ≠ w1.heap.size; omega) | (show w1.heap.size ≠ x; omega)))
      go_wp2_with fail
      clear f1 z0
      generalize w5.setCell ⟨w1.heap.size, 1, none⟩ (.slice p2 V q2) = w6 at *
      clear HN5 HB5 HV5
      have HS6 := hid (HS1.out.below HB6.out)
      have HSL := hid (HSL.out.below HB6.out)
      have HWV : Hid (∀ x, w1.heap.size < x → w.heap.size ≤ x ∧ (Value.slice al m cl).ownBlock ≠ some x) := fun x hx => ⟨by have := HSB.out; omega, fun e => by have := HOL.out x e; omega⟩
      have HV1 := hid (HV1.out.wide fun x _ hx => HWV.out x hx)
      have HV2 := hid (HV2.out.wide fun x _ hx => HWV.out x hx)
      have HC0 : Hid (w6.cell? ⟨w1.heap.size, 0, none⟩ = some (.slice p1 K q1)) := by show _ = _; rw [cell_of_row w6 w1.heap.size 0 _ 37 (0, 0) HN6.out]; rfl
      have HC1 : Hid (w6.cell? ⟨w1.heap.size, 1, none⟩ = some (.slice p2 V q2)) := by show _ = _; rw [cell_of_row w6 w1.heap.size 1 _ 37 (0, 0) HN6.out]; rfl
      have HC2 : Hid (w6.cell? ⟨w1.heap.size, 2, none⟩ = some (.bool g')) := by show _ = _; rw [cell_of_row w6 w1.heap.size 2 _ 37 (0, 0) HN6.out]; rfl
      have hm := fun wx => rmay_ p1 p2 q1 q2 ⟨kk, vv, g'⟩ wx (by show kk.length ≤ _; rw [HKL.out]; unfold maxLen; omega) (by show vv.length ≤ _; rw [HVL.out]; unfold maxLen; omega)
      simp only [HKL.out, HVL.out] at hm
      clear HN6 HS1 HBL kB HB6 HOL HWV HBK HBV
      cases hmay : mayS ⟨kk, vv, g'⟩ with
      | false =>
        have HN := hid (HNO.out (by rw [hmay]; rfl))
        rw [hmay] at hm
        clear hmay HNO HON
        refine wp_quietC (Bw w6) (by kernel_rfl) (by kernel_rfl) (Bw.drew w6) ?_
        repeat (first | go_big_quiet_skip | (go_big_quiet_want; go_big_quiet_op; first | go_big_quiet_on | (apply Exists.intro; refine ⟨fun wq hq => ?_, ?_⟩; (· first | (with_reducible rfl) | (go_at_call 42; exact (hm _).mono fun _ _ h => ⟨h.1, hq.on h.2⟩) | (have q0 := hq.cell HC0.out; have q1 := hq.cell HC1.out; have q2 := hq.cell HC2.out; go_simp; rfl) | rfl); go_big_quiet_on)))
        refine wpQuiet_nil ?_
        intro w7 s7
        go_wp2_with fail
        go_ret2
        exact .inr ⟨HN.out, rfl, (HS6.out.below s7).bel⟩
      | true =>
        have hkp := mayS_key hmay
        rw [hmay] at hm HNO HON
        simp only at hkp
        rw [HKL.out] at hkp
        clear hmay
        by_cases hm0 : m = 0
        · have HD0 : Hid (ds = []) := List.eq_nil_of_length_eq_zero (by rw [HM.out]; exact hm0)
          have HY := hid (HON.out (by
            rw [HD0.out]
            show (true && lx [] kk) = true
            rw [lx_nil, decide_eq_true (by rw [HKL.out]; omega)]
            rfl))
          have hd0 : decide ((m : Int) > 0) = false := decide_eq_false (by omega)
          have hd1 : ¬ (0 : Int) < m := by omega
          have hd2 : decide (0 < m) = false := decide_eq_false (by omega)
          have HM0 := hid hm0
          clear HNO HON hm0
          refine wp_quietC (Bw w6) (by kernel_rfl) (by kernel_rfl) (Bw.drew w6) ?_
          repeat (first | go_big_quiet_skip | (go_big_quiet_want; go_big_quiet_op; first | go_big_quiet_on | (apply Exists.intro; refine ⟨fun wq hq => ?_, ?_⟩; (· first | (with_reducible rfl) | (go_at_call 42; exact (hm _).mono fun _ _ h => ⟨h.1, hq.on h.2⟩) | (have q0 := hq.cell HC0.out; have q1 := hq.cell HC1.out; have q2 := hq.cell HC2.out; go_simp; rfl) | rfl); go_big_quiet_on)))
          refine wpQuiet_nil ?_
          intro w7 s7
          have HS7 := hid (HS6.out.below s7)
          have x0 := Bw.cell s7 HC0.out
          have x1 := Bw.cell s7 HC1.out
          have x2 := Bw.cell s7 HC2.out
          have HW1 := hid (HV1.out.lift s7 (fun _ _ h => h))
          have HW2 := hid (HV2.out.lift s7 (fun _ _ h => h))
          clear s7 HS6 HC0 HC1 HC2 HV1 HV2 hm
          have HOA := hid (HS7.out.own.alloc (.cells #[.slice p1 K q1, .slice p2 V q2, .bool g'] 37))
          have HNW : Hid (∀ j u, (sdc ⟨p1, q1, p2, q2, ⟨kk, vv, g'⟩⟩)[j]? = some u → (w7.alloc (.cells #[.slice p1 K q1, .slice p2 V q2, .bool g'] 37)).cell? ⟨w7.heap.size, j, none⟩ = some u) := fun j u hj => by
            rw [cell_of_row _ w7.heap.size j _ 37 (0, 0) (heap_alloc_new w7 _)]
            simp only [sdc, HKL.out, HVL.out] at hj
            simpa using hj
          have HSZ : Hid (w.heap.size ≤ (w7.alloc (.cells #[.slice p1 K q1, .slice p2 V q2, .bool g'] 37)).heap.size) := by have := HS7.out.bel.size; show _ ≤ _; simp; omega
          go_wp2_with (at_builtin; refine wpList_appSet rfl _ _ rfl w.heap.size _ ds rfl (by exact HOA.out) w7.heap.size ⟨p1, q1, p2, q2, ⟨kk, vv, g'⟩⟩ rfl (by exact HNW.out) (by have := HM.out; omega) (by exact HSZ.out) ?_; intro v5 w5 o5 g5 l5; have HO5 := hid o5; have HG5 := hid g5; have HL5 := hid l5; clear o5 g5 l5 HNW)
          have HSV : Hid (SV w7 (fun x => w.heap.size ≤ x ∧ (Value.slice al m cl).ownBlock ≠ some x) ⟨p1, q1, p2, q2, ⟨kk, vv, g'⟩⟩) := by
            refine ⟨?_, ?_⟩
            · show Vs _ _ _ kk.length _ _
              rw [HKL.out]; exact HW1.out
            · show Vs _ _ _ vv.length _ _
              rw [HVL.out]; exact HW2.out
          have HS8 := hid (HS7.out.app HSV.out HO5.out HG5.out HL5.out)
          clear x0 x1 x2 HOA HSZ HO5 HG5 HL5 HSV HS7 HW1 HW2
          go_roundw
          case rel => exact ⟨ds ++ [⟨p1, q1, p2, q2, ⟨kk, vv, g'⟩⟩], M6, r.drop (4 + K + V), by go_num, by rw [List.length_drop]; omega, HS8, by rw [List.map_append]; exact HY.out.1, by rw [List.map_append]; exact HY.out.2⟩
          case measure => simp [intOf]; omega
        · obtain ⟨i, HMI⟩ : ∃ i, Hid (m = i + 1) := ⟨m - 1, by show _ = _; omega⟩
          have hgt : (m : Int) > 0 := by omega
          have hgt2 : 0 < m := by omega
          have hgt3 : decide (0 < m) = true := decide_eq_true hgt2
          have hm1 : (m : Int) - 1 = i := by have := HMI.out; omega
          have hin : ¬ (i : Int) < 0 := by omega
          have hwr : IntKind.i64.wrap (i : Int) = i := by simp [IntKind.wrap, IntKind.bits, IntKind.signed]; omega
          have hilt : i < m := by have := HMI.out; omega
          have hiI : (i : Int) < m := by omega
          obtain ⟨bl, of', kb, lc, vb, uc, ln, un, rfl, hln, hun, z0, z1, z2, y1, y2'⟩ := HSL.out.at hilt
          have hiL : i < (ds.map (·.s)).length := by rw [List.length_map, HM.out]; exact hilt
          have HLK : Hid (lkey [] (ds.map (·.s)) = ((ds.map (fun d : SD => d.s)).getD i default).k) := by
            have h := lkey_at hiL
            rw [List.take_of_length_le (by rw [List.length_map, HM.out]; have := HMI.out; omega)] at h
            exact h
          have hki := mayS_key (may_of HO.out _ (getD_mem hiL))
          rw [← hln] at hki
          obtain ⟨si, HSI⟩ : ∃ s : Sx, Hid ((ds.map (fun d : SD => d.s)).getD i default = s) := ⟨_, rfl⟩
          rw [HSI.out] at HLK y1
          rw [HLK.out] at HON HNO
          have HD0 := hid z0
          have HP1 := hid y1
          clear hln hun z0 z1 z2 y1 y2' hiL
          cases hlx : lx si.k kk with
          | false =>
            have HN := hid (HNO.out (by rw [hlx]; rfl))
            have kl := fun wx (hq : Bw w6 wx) => r_less lc q1 false hq HP1.out.bs HV1.out.bs (by omega) (by omega) (by omega) (by omega) hlx
            clear hlx HON HNO
            refine wp_quietC (Bw w6) (by kernel_rfl) (by kernel_rfl) (Bw.drew w6) ?_
            repeat (first | go_big_quiet_skip | (go_big_quiet_want; go_big_quiet_op; first | go_big_quiet_on | (apply Exists.intro; refine ⟨fun wq hq => ?_, ?_⟩; (· first | (with_reducible rfl) | (go_at_call 42; exact (hm _).mono fun _ _ h => ⟨h.1, hq.on h.2⟩) | (go_at_call 43; exact kl _ hq) | (have q0 := hq.cell HC0.out; have q1 := hq.cell HC1.out; have q2 := hq.cell HC2.out; have q3 := hq.cell HD0.out; go_simp; rfl) | rfl); go_big_quiet_on)))
            refine wpQuiet_nil ?_
            intro w7 s7
            go_wp2_with fail
            go_ret2
            exact .inr ⟨HN.out, rfl, (HS6.out.below s7).bel⟩
          | true =>
            have HY := hid (HON.out (by rw [hlx]; rfl))
            have kl := fun wx (hq : Bw w6 wx) => r_less lc q1 true hq HP1.out.bs HV1.out.bs (by omega) (by omega) (by omega) (by omega) hlx
            clear hlx HON HNO
            refine wp_quietC (Bw w6) (by kernel_rfl) (by kernel_rfl) (Bw.drew w6) ?_
            repeat (first | go_big_quiet_skip | (go_big_quiet_want; go_big_quiet_op; first | go_big_quiet_on | (apply Exists.intro; refine ⟨fun wq hq => ?_, ?_⟩; (· first | (with_reducible rfl) | (go_at_call 42; exact (hm _).mono fun _ _ h => ⟨h.1, hq.on h.2⟩) | (go_at_call 43; exact kl _ hq) | (have q0 := hq.cell HC0.out; have q1 := hq.cell HC1.out; have q2 := hq.cell HC2.out; have q3 := hq.cell HD0.out; go_simp; rfl) | rfl); go_big_quiet_on)))
            refine wpQuiet_nil ?_
            intro w7 s7
            clear kl
            have HS7 := hid (HS6.out.below s7)
            have x0 := Bw.cell s7 HC0.out
            have x1 := Bw.cell s7 HC1.out
            have x2 := Bw.cell s7 HC2.out
            have HW1 := hid (HV1.out.lift s7 (fun _ _ h => h))
            have HW2 := hid (HV2.out.lift s7 (fun _ _ h => h))
            clear s7 HS6 HC0 HC1 HC2 HV1 HV2 hm
            have HOA := hid (HS7.out.own.alloc (.cells #[.slice p1 K q1, .slice p2 V q2, .bool g'] 37))
            have HNW : Hid (∀ j u, (sdc ⟨p1, q1, p2, q2, ⟨kk, vv, g'⟩⟩)[j]? = some u → (w7.alloc (.cells #[.slice p1 K q1, .slice p2 V q2, .bool g'] 37)).cell? ⟨w7.heap.size, j, none⟩ = some u) := fun j u hj => by
              rw [cell_of_row _ w7.heap.size j _ 37 (0, 0) (heap_alloc_new w7 _)]
              simp only [sdc, HKL.out, HVL.out] at hj
              simpa using hj
            have HSZ : Hid (w.heap.size ≤ (w7.alloc (.cells #[.slice p1 K q1, .slice p2 V q2, .bool g'] 37)).heap.size) := by have := HS7.out.bel.size; show _ ≤ _; simp; omega
            go_wp2_with (at_builtin; refine wpList_appSet rfl _ _ rfl w.heap.size _ ds rfl (by exact HOA.out) w7.heap.size ⟨p1, q1, p2, q2, ⟨kk, vv, g'⟩⟩ rfl (by exact HNW.out) (by have := HM.out; omega) (by exact HSZ.out) ?_; intro v5 w5 o5 g5 l5; have HO5 := hid o5; have HG5 := hid g5; have HL5 := hid l5; clear o5 g5 l5 HNW)
            have HSV : Hid (SV w7 (fun x => w.heap.size ≤ x ∧ (Value.slice (some ⟨bl, of', none⟩) m cl).ownBlock ≠ some x) ⟨p1, q1, p2, q2, ⟨kk, vv, g'⟩⟩) := by
              refine ⟨?_, ?_⟩
              · show Vs _ _ _ kk.length _ _
                rw [HKL.out]; exact HW1.out
              · show Vs _ _ _ vv.length _ _
                rw [HVL.out]; exact HW2.out
            have HS8 := hid (HS7.out.app HSV.out HO5.out HG5.out HL5.out)
            clear x0 x1 x2 HOA HSZ HO5 HG5 HL5 HSV HS7 HW1 HW2
            go_roundw
            case rel => exact ⟨ds ++ [⟨p1, q1, p2, q2, ⟨kk, vv, g'⟩⟩], M6, r.drop (4 + K + V), by go_num, by rw [List.length_drop]; omega, HS8, by rw [List.map_append]; exact HY.out.1, by rw [List.map_append]; exact HY.out.2⟩
            case measure => simp [intOf]; omega
    · have hI : ¬ (T : Int) < n := by omega
      obtain rfl : r = [] := List.eq_nil_of_length_eq_zero (by omega)
      have HF := hid (dg_end HO.out HE.out)
      obtain ⟨al, cl, hv, hsl, hlc, hlm, hln⟩ := Sl.ofOwn (V := fun x => w.heap.size ≤ x) HS.out.own (fun d hd => (HS.out.sv d hd).wide fun x _ h => h.1) (fun x hx => hx)
      subst hv
      have HSL := hid hsl
      have H1 := hid hlc
      have H2 := hid hlm
      have H3 := hid hln
      have HBL := hid HS.out.bel
      obtain ⟨m, HM⟩ : ∃ m, Hid (ds.length = m) := ⟨_, rfl⟩
      rw [HM.out] at HSL H1
      clear hlt HS hsl hlc hlm hln HE HO
      rw [HM.out]
      go_wp2_with fail
      go_ret2
      first | exact .inl ⟨_, al, m, cl, HF.out, rfl, HSL.out, H1.out, H2.out, H3.out, HBL.out⟩ | exact .inl ⟨_, HF.out, al, m, cl, rfl, HSL.out, H1.out, H2.out, H3.out, HBL.out⟩
end Go.Proofs.Ytnmklleoilicdaa
