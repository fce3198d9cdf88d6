import Derived.Test.YtbdkmjjjafbaoaaV9
namespace Go.Proofs.Ytbdkmjjjafbaoaa
open Go.RowKit
set_option linter.unusedVariables false
set_option maxRecDepth 100000

/-- So many numbers that rise by one. -/
def up (F : Int) (n : Nat) : List Int := (List.range n).map fun (k : Nat) => F + (k : Int)
theorem up_succ (F : Int) (n : Nat) : up F n ++ [F + (n : Int)] = up F (n + 1) := by simp [up, List.range_succ]
theorem up_len (F : Int) (n : Nat) : (up F n).length = n := by simp [up]
theorem up_mem {F : Int} {n : Nat} {x : Int} : x ∈ up F n ↔ ∃ k : Nat, k < n ∧ F + (k : Int) = x := by simp [up]
theorem up_nodup (F : Int) (n : Nat) : (up F n).Nodup := by
  unfold up
  rw [List.nodup_iff_pairwise_ne, List.pairwise_map]
  exact (List.nodup_range (n := n)).imp fun h e => h (by omega)
/-- An order that is disturbed within blocks of 32. -/
structure Dist (F : Int) (n : Nat) (xs : List Int) : Prop where
  perm : xs.Perm (up F n)
  blk : ∀ i : Nat, i < n → F + 32 * ((i / 32 : Nat) : Int) ≤ xs.getD i 0 ∧ xs.getD i 0 ≤ F + 32 * ((i / 32 : Nat) : Int) + 31
theorem Dist.len {F : Int} {n : Nat} {xs : List Int} (h : Dist F n xs) : xs.length = n := by rw [h.perm.length_eq, up_len]
theorem Dist.first (F : Int) (n : Nat) : Dist F n (up F n) := ⟨List.Perm.refl _, fun i hi => by
  have : (up F n).getD i 0 = F + (i : Int) := by simp [up, List.getD, hi]
  rw [this]; omega⟩
theorem Dist.swap {F : Int} {n a b k : Nat} {xs : List Int} (h : Dist F n xs) (hk : 32 * k + 32 ≤ n) (ha : 32 * k ≤ a ∧ a < 32 * k + 32) (hb : 32 * k ≤ b ∧ b < 32 * k + 32) : Dist F n ((xs.set a (xs.getD b 0)).set b (xs.getD a 0)) := by
  have hl := h.len
  have ga : xs.getD a 0 = xs[a]'(by omega) := by simp [List.getD, show a < xs.length by omega]
  have gb : xs.getD b 0 = xs[b]'(by omega) := by simp [List.getD, show b < xs.length by omega]
  have hp := @List.set_set_perm Int xs a b (by omega) (by omega)
  refine ⟨by rw [ga, gb]; exact hp.trans h.perm, fun i hi => ?_⟩
  have hA := h.blk a (by omega)
  have hB := h.blk b (by omega)
  rw [getD_set _ _ _ _ (by simp; omega), getD_set _ _ _ _ (by omega)]
  have e1 : a / 32 = k := by omega
  have e2 : b / 32 = k := by omega
  rw [e1] at hA
  rw [e2] at hB
  split
  · rename_i e; rw [e, e2]; exact hA
  · split
    · rename_i e; rw [e, e1]; exact hB
    · exact h.blk i hi
theorem Dist.mem {F : Int} {n : Nat} {xs : List Int} (h : Dist F n xs) {i : Nat} (hi : i < n) : F ≤ xs.getD i 0 ∧ xs.getD i 0 < F + n := by
  have hl := h.len
  have : xs.getD i 0 ∈ xs := by rw [show xs.getD i 0 = xs[i]'(by omega) from by simp [List.getD, show i < xs.length by omega]]; exact List.getElem_mem _
  obtain ⟨k, hk, e⟩ := up_mem.1 (h.perm.mem_iff.1 this)
  omega
theorem Dist.takes {F W : Int} {n : Nat} {xs : List Int} (h : Dist F n xs) (hW : 64 ≤ W) {i : Nat} (hi : i < n) : tkB F W (xs.take i) (xs.getD i 0) = true := by
  have hl := h.len
  refine tk_iff.2 ⟨(h.mem hi).1, fun t ht => ?_⟩
  obtain ⟨k, hk, e⟩ := List.mem_iff_getElem.1 ht
  have hk2 : k < i := by simp at hk; omega
  have e2 : xs.getD k 0 = t := by rw [← e]; simp [List.getD, show k < xs.length by omega]
  have h1 := h.blk k (by omega)
  have h2 := h.blk i hi
  refine ⟨fun e3 => ?_, by rw [← e2]; omega⟩
  have hnd := (h.perm.nodup_iff.2 (up_nodup F n))
  have hne := List.pairwise_iff_getElem.1 (List.nodup_iff_pairwise_ne.1 hnd) k i (by omega) (by omega) hk2
  have g1 : xs.getD k 0 = xs[k]'(by omega) := by simp [List.getD, show k < xs.length by omega]
  have g2 : xs.getD i 0 = xs[i]'(by omega) := by simp [List.getD, show i < xs.length by omega]
  exact hne (by rw [← g1, ← g2, e2, e3])
theorem take_next {xs : List Int} {i : Nat} (hi : i < xs.length) : xs.take i ++ [xs.getD i 0] = xs.take (i + 1) := by
  rw [show xs.getD i 0 = xs[i] from by simp [List.getD, hi]]
  exact List.take_append_getElem hi
theorem tk_in_false {F W : Int} {T : List Int} {c : Int} (h : c ∈ T) : tkB F W T c = false := tk_false.2 fun q => (q.2 c h).1 rfl
theorem rem32 (s : Int) : ∃ q : Nat, q < 32 ∧ (s.tmod 32 + 32).tmod 32 = (q : Int) := by
  have h1 := Int.lt_tmod_of_pos s (show (0 : Int) < 32 by omega)
  have h2 := Int.tmod_lt_of_pos s (show (0 : Int) < 32 by omega)
  have e : (s.tmod 32 + 32).tmod 32 = (s.tmod 32 + 32) % 32 := Int.tmod_eq_emod_of_nonneg (by omega)
  exact ⟨((s.tmod 32 + 32) % 32).toNat, by omega, by omega⟩
theorem Uo.set {w wr : World} {xs : List Int} {b n c : Nat} (h : Uo w wr (.slice (some ⟨b, 0, none⟩) n c) xs) (i : Nat) (x : Int) : Uo w (wr.setCell ⟨b, i, none⟩ (.int .u64 x)) (.slice (some ⟨b, 0, none⟩) n c) (xs.set i x) := by
  have h0 : wr.ownsRow w.heap.size 22 1 _ xs.length (cu xs) := h
  show World.ownsRow _ _ _ _ _ _ _
  rw [List.length_set]
  refine ⟨by simp [cu], ?_⟩
  rcases h0.2 with ⟨e, _⟩ | ⟨g, cap, cur, e, hg, hc, h1, h2, h3, h4⟩
  · simp at e
  · have e1 : b = g := by injection e with e1 _ _; injection Option.some.inj e1
    refine .inr ⟨g, cap, cur.setIfInBounds i (.int .u64 x), e, hg, ?_, h1, h2, by simp [h3], ?_⟩
    · rw [e1, setCell_eq_setRow wr g i cur _ (0, 0) _ hc]
      exact setRow_heap wr g cur _ _ _ hc
    · rw [Array.toList_setIfInBounds, List.take_set, h4]
      simp [cu]
theorem Oq.set {w wr : World} {p g : Nat} {F : Int} {m : Nat} {T xs : List Int} {b n c : Nat} (h : Oq w wr p g F m T (.slice (some ⟨b, 0, none⟩) n c) xs) (i : Nat) (x : Int) : Oq w (wr.setCell ⟨b, i, none⟩ (.int .u64 x)) p g F m T (.slice (some ⟨b, 0, none⟩) n c) (xs.set i x) := by
  have hb : w.heap.size ≤ b := (h.row.lt rfl).1
  have hf : Fx (fun k => k = b) wr (wr.setCell ⟨b, i, none⟩ (.int .u64 x)) := Fx.set (X := fun k => k = b) (Fx.refl _ _) rfl _
  exact ⟨h.hw.fx hf (fun e => h.n1 (by rw [e]; rfl)) (fun e => h.n2 (by rw [e]; rfl)) (fun k e => by rw [e]; exact hb), h.row.set i x, h.n1, h.n2⟩
theorem Uo.fz {w wr : World} {xs : List Int} {b n c : Nat} (h : Uo w wr (.slice (some ⟨b, 0, none⟩) n c) xs) (i : Nat) : wr.frozen? ⟨b, i, none⟩ = false := by
  have h0 : wr.ownsRow w.heap.size 22 1 _ xs.length (cu xs) := h
  rcases h0.2 with ⟨e, _⟩ | ⟨g, cap, cur, e, hg, hc, h1, h2, h3, h4⟩
  · simp at e
  · have e1 : b = g := by injection e with e1 _ _; injection Option.some.inj e1
    rw [e1]; simp [World.frozen?, hc]
theorem Uo.cell {w wr : World} {xs : List Int} {b n c : Nat} (h : Uo w wr (.slice (some ⟨b, 0, none⟩) n c) xs) {i : Nat} (hi : i < xs.length) : wr.cell? ⟨b, i, none⟩ = some (.int .u64 (xs.getD i 0)) := by
  obtain ⟨a, c2, e, hf⟩ := h.form
  rcases hf with hf | ⟨b2, rfl, hf⟩
  · omega
  · injection e with e1 e2 e3
    have := Option.some.inj e1
    injection this with e4
    rw [e4]; exact hf i hi
set_option maxHeartbeats 16000000 in
/-- WindowOrder. -/
theorem windowOrder_ (F width many : Int) (a : Option Addr) (n cp : Nat) (l : List Int) (w : World) (hF : u64r F) (hw : i64r width) (hmr : i64r many) (hl : Ics w a n l) :
    Calls Try.prog 8 #[.int .u64 F, .int .i64 width, .int .i64 many, .slice a n cp] w fun e w' => e = .returned (.bool true) ∧ Below w.heap.size w w' := by
  have HL := hid hl
  unfold i64r at hmr
  clear hl
  by_cases hfit : fitP width
  case neg =>
    have HN := hid hfit
    have kq := fun wx => fits_ width wx hw (nofit_q hfit)
    go_enter Try.func8, Try.ntmps8
    go_wp2_with fail
    refine (known_ w).mono ?_
    rintro e w1 ⟨rfl, g1⟩
    have kn := new_no F width w1 hw HN.out
    have HG1 := hid g1
    clear hfit g1
    go_wp2_with fail
    refine kn.mono ?_
    rintro e w2 ⟨rfl, rfl⟩
    have kq2 := kq w2
    clear kq
    go_wp2_with fail
    refine kq2.mono ?_
    rintro e w3 ⟨rfl, rfl⟩
    go_wp2_with fail
    go_ret
    exact ⟨rfl, HG1.out⟩
  obtain ⟨m, hwd, hm1, hm2⟩ := fit_of hfit
  have HFF := hid hF
  have HWD : Hid (width = 64 * (m : Int) ∧ 1 ≤ m ∧ m ≤ 16) := ⟨hwd, hm1, hm2⟩
  clear hfit hwd hm1 hm2 hF
  go_enter Try.func8, Try.ntmps8
  go_wp2_with fail
  refine (known_ w).mono ?_
  rintro e w1 ⟨rfl, g1⟩
  have kn := newW (w0 := w) HFF.out HWD.out.1 HWD.out.2.1 HWD.out.2.2 g1
  clear g1
  go_wp2_with fail
  refine kn.mono ?_
  rintro e w2 ⟨p, g, rfl, h, hb2, hp2, hg2⟩
  have H2 := hid h
  clear kn h hb2 hp2 hg2
  have HBL := hid H2.out.bel
  have hfr := HFF.out
  unfold u64r at hfr
  by_cases q1 : many < 1
  · go_wp2_with fail
    go_ret
    exact ⟨rfl, HBL.out⟩
  by_cases q2 : 600 < many
  · go_wp2_with fail
    go_ret
    exact ⟨rfl, HBL.out⟩
  by_cases q3 : 18446744073709551014 < F
  · go_wp2_with fail
    go_ret
    exact ⟨rfl, HBL.out⟩
  obtain ⟨N, hN⟩ : ∃ N : Nat, many = N := ⟨many.toNat, by omega⟩
  subst hN
  have hN1 : 1 ≤ N := by omega
  have hN2 : N ≤ 600 := by omega
  have hF2 : F ≤ 18446744073709551014 := by omega
  have H3 := hid (Oq.of H2.out)
  clear H2 HBL hmr
  go_wp2_with fail
  go_loopw [11, 10] (fun i v wr => ∃ j : Nat, j ≤ N ∧ i = .int .i64 j ∧ Hid (Oq w wr p g F m [] v (up F j))) (fun i _ _ => N - (intOf i).toNat)
  case atStart => exact ⟨0, by omega, rfl, H3⟩
  case round =>
    clear H3
    obtain ⟨j, hj, rfl, HO⟩ := hrel
    obtain ⟨W1, HW1⟩ : ∃ z, Hid (wr = z) := ⟨_, rfl⟩
    rw [HW1.out] at HO ⊢
    clear HW1
    by_cases hlt : j < N
    · have hjI : (j : Int) < N := by omega
      have hjw : IntKind.u64.wrap (j : Int) = j := by rw [IntKind.wrap_u64]; omega
      obtain ⟨x, hx⟩ : ∃ x, F + (j : Int) = x := ⟨_, rfl⟩
      have hadd : IntKind.u64.wrap (F + (j : Int)) = x := by rw [IntKind.wrap_u64]; omega
      have HX := hid hx
      have HLN : Hid ((up F j).length ≤ 100000) := by show _ ≤ _; rw [up_len]; omega
      clear hx
      go_upto_region 11 with (at_builtin; refine wpList_appU (w0 := w) (wr := W1) rfl _ _ rfl u10 (up F j) x rfl HO.out.row rfl HLN.out HO.out.hw.bel.size ?_; intro v' w9 hu hg hs hy; have HU := hid hu; have HG := hid hg; have HY := hid hy; clear hu hg hs hy)
      have H9 := hid (HO.out.app HU.out HG.out HY.out)
      rw [← HX.out, up_succ] at H9
      clear HU HG HY HO
      go_wp2_with fail
      go_roundw
      case rel => exact ⟨j + 1, by omega, by go_num, H9⟩
      case measure => simp [intOf]; omega
    · have hjI : ¬ (j : Int) < N := by omega
      obtain rfl : j = N := by omega
      obtain ⟨av, cv, hv, hf⟩ := HO.out.row.form
      rw [up_len] at hv hf
      subst hv
      rcases hf with hf | ⟨b, rfl, -⟩
      · omega
      have HD0 := hid (Dist.first F j)
      clear hj hlt
      go_wp2_with fail
      go_loopw [12] (fun i wr => ∃ (k : Nat) (xs : List Int), 32 * k ≤ j ∧ i = .int .i64 ((32 * k : Nat) : Int) ∧ Hid (Oq w wr p g F m [] (.slice (some ⟨b, 0, none⟩) j cv) xs) ∧ Hid (Dist F j xs)) (fun i _ => j + 1 - (intOf i).toNat)
      case atStart => exact ⟨0, _, by omega, rfl, HO, HD0⟩
      case round =>
        clear HO HD0
        obtain ⟨k, xs, hk, rfl, HO, HD⟩ := hrel
        obtain ⟨i, hi⟩ : ∃ i, 32 * k = i := ⟨_, rfl⟩
        rw [hi]
        have hi6 : i ≤ 600 := by omega
        have hiw : IntKind.i64.wrap ((i : Int) + 31) = (i : Int) + 31 := by rw [IntKind.wrap_i64]; omega
        by_cases hlt : (i : Int) + 31 < j ∧ i < n
        case pos =>
          obtain ⟨h1, h2⟩ := hlt
          have h2I : (i : Int) < n := by omega
          obtain ⟨b2, off2, rfl, hcell, hxr⟩ := HL.out.get HO.out.hw.bel h2
          obtain ⟨x, HX⟩ : ∃ x, Hid (l.getD i 0 = x) := ⟨_, rfl⟩
          rw [HX.out] at hcell hxr
          unfold i64r at hxr
          obtain ⟨qa, ha, hae⟩ := rem32 x
          obtain ⟨s2, hs2⟩ : ∃ s, x.tdiv 32 = s := ⟨_, rfl⟩
          obtain ⟨qb, hb, hbe⟩ := rem32 s2
          have t1 := Int.lt_tmod_of_pos x (show (0 : Int) < 32 by omega)
          have t2 := Int.tmod_lt_of_pos x (show (0 : Int) < 32 by omega)
          have t3 := Int.lt_tmod_of_pos s2 (show (0 : Int) < 32 by omega)
          have t4 := Int.tmod_lt_of_pos s2 (show (0 : Int) < 32 by omega)
          have hs3 := Int.mul_tdiv_add_tmod x 32
          have hs2w : IntKind.i64.wrap (x.tdiv 32) = s2 := by rw [hs2] at hs3 ⊢; rw [IntKind.wrap_i64]; omega
          clear hs3
          obtain ⟨y1, hy1⟩ : ∃ y, x.tmod 32 + 32 = y := ⟨_, rfl⟩
          obtain ⟨y2, hy2⟩ : ∃ y, s2.tmod 32 + 32 = y := ⟨_, rfl⟩
          have hy1w : IntKind.i64.wrap (x.tmod 32 + 32) = y1 := by rw [IntKind.wrap_i64]; omega
          have hy2w : IntKind.i64.wrap (s2.tmod 32 + 32) = y2 := by rw [IntKind.wrap_i64]; omega
          rw [hy1] at hae
          rw [hy2] at hbe
          have hae2 : y1 % 32 = (qa : Int) := by rw [← hae]; exact (Int.tmod_eq_emod_of_nonneg (by omega)).symm
          have hbe2 : y2 % 32 = (qb : Int) := by rw [← hbe]; exact (Int.tmod_eq_emod_of_nonneg (by omega)).symm
          obtain ⟨A, hA⟩ : ∃ A, i + qa = A := ⟨_, rfl⟩
          obtain ⟨B, hB⟩ : ∃ B, i + qb = B := ⟨_, rfl⟩
          have hAw : IntKind.i64.wrap ((i : Int) + (qa : Int)) = A := by rw [IntKind.wrap_i64]; omega
          have hBw : IntKind.i64.wrap ((i : Int) + (qb : Int)) = B := by rw [IntKind.wrap_i64]; omega
          have hAl : (A : Int) < j := by omega
          have hBl : (B : Int) < j := by omega
          have hlen := HD.out.len
          have d1 := HO.out.row.cell (i := A) (by omega)
          have d2 := HO.out.row.cell (i := B) (by omega)
          have HN : Hid (Dist F j ((xs.set A (xs.getD B 0)).set B (xs.getD A 0)) ∧ 32 * (k + 1) ≤ j) := ⟨HD.out.swap (k := k) (by omega) (by omega) (by omega), by omega⟩
          have HS : Hid (Oq w (((wr.setCell ⟨b, A, none⟩ (.int .u64 (xs.getD B 0))).setCell ⟨b, B, none⟩ (.int .u64 (xs.getD A 0))).drew) p g F m [] (.slice (some ⟨b, 0, none⟩) j cv) ((xs.set A (xs.getD B 0)).set B (xs.getD A 0))) := ((HO.out.set A (xs.getD B 0)).set B (xs.getD A 0)).drawn 1
          have d3 := (HO.out.set A (xs.getD B 0)).row.cell (i := B) (by simp; omega)
          have d4 := HO.out.row.fz A
          have d5 := HO.out.row.fz B
          obtain ⟨xa, Hxa⟩ : ∃ x, Hid (xs.getD A 0 = x) := ⟨_, rfl⟩
          obtain ⟨xb, Hxb⟩ : ∃ x, Hid (xs.getD B 0 = x) := ⟨_, rfl⟩
          rw [Hxa.out] at d1 HN HS
          rw [Hxb.out] at d2 d3 HN HS
          have HI := hid hi
          clear hi hy1 hy2 hA hB hs2 hlen HO HD hk
          go_wp2_with fail
          go_region
          all_goals
            go_wp2_with fail
            go_roundw
            case rel => exact ⟨k + 1, _, HN.out.2, by rw [← HI.out]; go_num, HS, HN.out.1⟩
            case measure => simp [intOf]; omega
        case neg =>
          have hor : (i : Int) + 31 < j ∧ ¬ (i : Int) < n ∨ ¬ (i : Int) + 31 < j := by omega
          clear hlt hi hk
          have H15 : Hid (∀ wr', wr' = wr → Oq w wr' p g F m (xs.take 0) (.slice (some ⟨b, 0, none⟩) j cv) xs) := fun _ e => by rw [e]; exact HO.out
          have hlen := HD.out.len
          rcases hor with ⟨hjI, h2⟩ | hjI
          all_goals
            go_wp2_with fail
            go_loopw [15] (fun i wr => ∃ k : Nat, k ≤ j ∧ i = .int .i64 k ∧ Hid (Oq w wr p g F m (xs.take k) (.slice (some ⟨b, 0, none⟩) j cv) xs)) (fun i _ => j - (intOf i).toNat)
            case atStart => exact ⟨0, by omega, rfl, H15.out _ rfl⟩
            case round =>
              clear HO H15
              obtain ⟨k, hk, rfl, HO⟩ := hrel
              by_cases hlt : k < j
              · have hkI : (k : Int) < j := by omega
                have hcell := HO.out.row.cell (i := k) (by omega)
                have hxr := HD.out.mem hlt
                have HTK := hid (HD.out.takes (W := 64 * (m : Int)) (by have := HWD.out; omega) hlt)
                have HTN := hid (take_next (xs := xs) (i := k) (by omega))
                have HMM : Hid (xs.getD k 0 ∈ xs.take (k + 1)) := by show _ ∈ _; rw [← HTN.out]; simp
                obtain ⟨x, HX⟩ : ∃ x, Hid (xs.getD k 0 = x) := ⟨_, rfl⟩
                rw [HX.out] at hcell hxr HTK HTN HMM
                have HXR : Hid (u64r x) := ⟨by omega, by omega⟩
                have km := HO.out.mark HXR.out HTK.out ((mk_yes HTK.out).trans HTN.out)
                clear hxr
                go_wp2_with fail
                refine km.mono ?_
                rintro e w4 ⟨rfl, h4⟩
                have hcell4 := h4.row.cell (i := k) (by omega)
                rw [HX.out] at hcell4
                have km2 := h4.mark HXR.out (tk_in_false HMM.out) (mk_no (tk_in_false HMM.out))
                clear km h4 hcell
                go_wp2_with fail
                refine km2.mono ?_
                rintro e w5 ⟨rfl, h5⟩
                have H5 := hid h5
                clear km2 h5 hcell4
                go_wp2_with fail
                go_roundw
                case rel => exact ⟨k + 1, by omega, by go_num, H5⟩
                case measure => simp [intOf]; omega
              · have hkI : ¬ (k : Int) < j := by omega
                have HAll : Hid (∀ k : Nat, k < j → F + (k : Int) ∈ xs.take j) := fun k hk => by
                  rw [List.take_of_length_le (by omega)]
                  exact HD.out.perm.mem_iff.2 (up_mem.2 ⟨k, hk, rfl⟩)
                obtain rfl : k = j := by omega
                have H6 := hid HO.out.hw
                clear HO hlt hk
                go_wp2_with fail
                go_loopw [18] (fun i wr => ∃ z : Nat, z ≤ k ∧ i = .int .i64 z ∧ Hid (Hw w wr p g F m (xs.take k))) (fun i _ => k - (intOf i).toNat)
                case atStart => exact ⟨0, by omega, rfl, H6⟩
                case round =>
                  clear H6
                  obtain ⟨z, hz, rfl, HT⟩ := hrel
                  by_cases hlt : z < k
                  · have hzI : (z : Int) < k := by omega
                    have hzw : IntKind.u64.wrap (z : Int) = z := by rw [IntKind.wrap_u64]; omega
                    have HIN := hid (HAll.out z hlt)
                    obtain ⟨x, hx⟩ : ∃ x, F + (z : Int) = x := ⟨_, rfl⟩
                    have hadd : IntKind.u64.wrap (F + (z : Int)) = x := by rw [IntKind.wrap_u64]; omega
                    have hxr : u64r x := ⟨by omega, by omega⟩
                    rw [hx] at HIN
                    have kt := takesH HT.out hxr (tk_in_false HIN.out)
                    clear hx hxr
                    go_wp2_with fail
                    refine kt.mono ?_
                    rintro e w4 ⟨rfl, h4⟩
                    have H4 := hid h4
                    clear kt h4
                    go_wp2_with fail
                    go_roundw
                    case rel => exact ⟨z + 1, by omega, by go_num, H4⟩
                    case measure => simp [intOf]; omega
                  · have hzI : ¬ (z : Int) < k := by omega
                    have HB := hid HT.out.bel
                    go_wp2_with fail
                    go_ret
                    exact ⟨rfl, HB.out⟩
end Go.Proofs.Ytbdkmjjjafbaoaa
