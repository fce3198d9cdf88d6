import Derived.Test.YtbkeejapongmlaaGreatDoorLP
import Derived.Deep.Cut
import Derived.Deep.RegionHeld
import Derived.Deep.RegionHeldLaw
namespace Go.Proofs.YtbkeejapongmlaaGreatDoor
set_option maxRecDepth 100000
open Go.RowKit
set_option linter.unusedVariables false

/-- What is asked of package lane. -/
abbrev LL : Prop := Lc 18 10 20 6 7 11 8 12 13
def K32 : List Int := (List.range 32).map fun i : Nat => (1 + (i : Int))
theorem K32_len : K32.length = 32 := by simp [K32]
theorem K32_okb : Okb K32 := by
  intro z hz
  obtain ⟨i, hi, rfl⟩ := List.mem_map.1 hz
  have := List.mem_range.1 hi
  omega
theorem made_zeros17 (n : Nat) : (madeCells (Value.int .u8 0).cells (n * 1)).toList = cells (List.replicate n 0) := by
  simp [madeCells, cells, Value.cells, Nat.mod_one, List.map_const']
theorem below_of_grown17 {w w1 : World} (h : w.grownBy w1 none) : Below w.heap.size w w1 := (Below.refl w.heap.size w).grown h (Nat.le_refl _) (fun q e => by cases e)
theorem num17_ (x : Int) (w : World) : Calls Tryz.prog 19 #[.int .i64 x] w fun e w' => e = .returned (.int .i64 x) ∧ w' = w := by
  go_enter Tryz.func19, Tryz.ntmps19
  go_wp2
  go_ret
  exact ⟨rfl, rfl⟩
theorem Rl1.use {w w' : World} {R : Ln} {e : Ending} (h : Rl1 w R e w') {k : List Int} {S C N D E s n : Int} {m : Nat} (hR : R = ⟨k, S, C, N, D, E, s, n⟩) (hm : k.length = m) : ∃ ka kc, e = .returned (.agg #[.slice ka m kc, .int .i64 S, .int .i64 C, .int .i64 N, .int .u64 D, .int .u64 E, .int .i64 s, .int .i64 n]) ∧ Vs w' (fun x => w.heap.size ≤ x) ka m kc k ∧ Below w.heap.size w w' := by
  subst hR hm
  obtain ⟨v, rfl, ka, kc, rfl, h1, h2⟩ := h
  exact ⟨ka, kc, rfl, h1, h2⟩
theorem Rl2.use {w w' : World} {R : Ln} {e : Ending} {x : Value} (h : Rl2 w R x e w') {k : List Int} {S C N D E s n : Int} {m : Nat} (hR : R = ⟨k, S, C, N, D, E, s, n⟩) (hm : k.length = m) : ∃ ka kc, e = .returned (.tuple #[.agg #[.slice ka m kc, .int .i64 S, .int .i64 C, .int .i64 N, .int .u64 D, .int .u64 E, .int .i64 s, .int .i64 n], x]) ∧ Vs w' (fun x => w.heap.size ≤ x) ka m kc k ∧ Below w.heap.size w w' := by
  subst hR hm
  obtain ⟨v, rfl, ka, kc, rfl, h1, h2⟩ := h
  exact ⟨ka, kc, rfl, h1, h2⟩
theorem Rl3.use {w w' : World} {R : Ln} {e : Ending} {x y : Value} (h : Rl3 w R x y e w') {k : List Int} {S C N D E s n : Int} {m : Nat} (hR : R = ⟨k, S, C, N, D, E, s, n⟩) (hm : k.length = m) : ∃ ka kc, e = .returned (.tuple #[.agg #[.slice ka m kc, .int .i64 S, .int .i64 C, .int .i64 N, .int .u64 D, .int .u64 E, .int .i64 s, .int .i64 n], x, y]) ∧ Vs w' (fun x => w.heap.size ≤ x) ka m kc k ∧ Below w.heap.size w w' := by
  subst hR hm
  obtain ⟨v, rfl, ka, kc, rfl, h1, h2⟩ := h
  exact ⟨ka, kc, rfl, h1, h2⟩
def K7 (w : World) (K : List Int) (e : Ending) (w' : World) : Prop := ∃ ka kc, e = .returned (.slice ka 32 kc) ∧ Vs w' (fun x => w.heap.size ≤ x) ka 32 kc K ∧ Below w.heap.size w w'
set_option maxHeartbeats 2000000 in
/-- The law's key(1). -/
theorem key17_ (w : World) : Calls Tryz.prog 16 #[.int .u8 1] w fun e w' => K7 w K32 e w' := by
  obtain ⟨i, hi, hz0, hz1, hz2⟩ := info_parts info5
  go_enter Tryz.func16, Tryz.ntmps16
  go_wp2_with (at_make; refine wpList_make_full _ rfl _ _ 22 rfl w.heap.size 5 i (.int .u8 0) 1 Tryz.underlying22 hi hz0 hz1 .i64 .i64 _ _ 32 rfl rfl rfl rfl (by rw [hz2]; omega) (by unfold maxLen; omega) (Nat.le_refl _) ?_; intro w1 hown hg1; rw [made_zeros17] at hown; have HO := hid hown; have HG := hid (below_of_grown17 hg1); clear hown hg1)
  have HY0 : Hid (Yr w1 w.heap.size 32 (List.replicate 32 0)) := by
    obtain ⟨g, c, e, hy, -⟩ := Yr.ofOwn HO.out (by intro z hz; obtain rfl := List.eq_of_mem_replicate hz; omega) (by omega)
    obtain ⟨rfl, -⟩ : w.heap.size = g ∧ 32 = c := by simpa using e
    exact hy
  clear HO
  go_loopw [4] (fun i wr => ∃ (j : Nat) (ys : List Int), j ≤ 32 ∧ i = .int .i64 j ∧ Hid (Yr wr w.heap.size 32 ys) ∧ Hid (Below w.heap.size w wr) ∧ Hid (ys.length = 32 ∧ ∀ t, t < j → ys.getD t 0 = 1 + (t : Int))) (fun i _ => 32 - (intOf i).toNat)
  case atStart => exact ⟨0, _, by omega, rfl, HY0, HG, ⟨by simp, fun t ht => by omega⟩⟩
  case round =>
    clear HY0 HG
    obtain ⟨j, ys, hj, rfl, HY, HB, HT⟩ := hrel
    by_cases hlt : j < 32
    · have hI : (j : Int) < 32 := by omega
      have c0 := HY.out.cell hlt
      have f0 := HY.out.fz j
      have HY2 := hid (HY.out.set (z := 1 + (j : Int)) hlt (by omega))
      have HB2 := hid (HB.out.setCell (p := ⟨w.heap.size, j, none⟩) (Nat.le_refl _) (.int .u8 (1 + (j : Int))))
      have HT2 : Hid ((ys.set j (1 + (j : Int))).length = 32 ∧ ∀ t, t < j + 1 → (ys.set j (1 + (j : Int))).getD t 0 = 1 + (t : Int)) := by
        refine ⟨by rw [List.length_set]; exact HT.out.1, fun t ht => ?_⟩
        have hl := HT.out.1
        by_cases e : t = j
        · subst e
          simp [List.getD, hl, hlt]
        · have := HT.out.2 t (by omega)
          simp only [List.getD] at this ⊢
          rw [List.getElem?_set_ne (Ne.symm e)]
          exact this
      have hw8 : (j : Int) % 256 = j := by omega
      have hw9 : (1 + (j : Int)) % 256 = 1 + (j : Int) := by omega
      clear HY HB HT hlt
      go_wp2_with fail
      go_roundw
      case rel => exact ⟨j + 1, _, by omega, by go_num, HY2, HB2, HT2⟩
      case measure => simp [intOf]; omega
    · have hI : ¬ (j : Int) < 32 := by omega
      obtain rfl : j = 32 := by omega
      have hys : ys = K32 := by
        refine List.ext_getElem (by rw [HT.out.1, K32_len]) fun t h1 h2 => ?_
        have h := HT.out.2 t (by rw [HT.out.1] at h1; exact h1)
        rw [show ys.getD t 0 = ys[t] from by simp [List.getD, h1]] at h
        rw [h]
        simp [K32]
      subst hys
      have HV := hid (HY.out.vs32 (by unfold maxLen; omega) (by omega))
      clear HY HT hlt
      go_wp2_with fail
      go_ret
      exact ⟨_, _, rfl, HV.out.wide fun x _ hx => (by rw [hx]; exact Nat.le_refl _), HB.out⟩
set_option maxHeartbeats 8000000 in
/-- The law's known: the document's example. -/
theorem known_ (ll : LL) (w : World) : Calls Tryz.prog 4 #[] w fun e w' => e = .returned (.bool true) ∧ Below w.heap.size w w' := by
  have hK := K32_len
  have hKO := K32_okb
  obtain ⟨K, hKK⟩ : ∃ K, K = K32 := ⟨_, rfl⟩
  have kk := fun wx => key17_ wx
  rw [← hKK] at hK hKO
  rw [← hKK] at kk
  have I0 : ∀ x : Int, x = x := fun _ => rfl
  clear hKK
  have kn := fun wx => num17_ 0 wx
  go_enter Tryz.func4, Tryz.ntmps4
  go_wp2_with fail
  refine (kk _).mono ?_
  rintro e w0 ⟨ka, kc, rfl, vk, gk⟩
  have HW0 : Hid (Below w.heap.size w w0) := gk
  have k1 := ll.new ka 32 kc K 0 w0 vk.bs (by omega) (by unfold i64r; omega)
  clear vk gk
  go_wp2_with fail
  refine k1.mono ?_
  intro e y1 hy
  have eR : newL K 0 = ⟨K, 0, 1, 0, 0, 0, 0, 0⟩ := by simp [newL, hK]
  obtain ⟨aa, ca, rfl, va, ga⟩ := hy.use eR hK
  have HLa := hid (Lm.new y1 aa 32 ca 0 1 0 0 0 0 0)
  have HVa := hid (va.step (w' := y1.alloc (.cells #[.slice aa 32 ca, .int .i64 0, .int .i64 1, .int .i64 0, .int .u64 0, .int .u64 0, .int .i64 0, .int .i64 0] 27)) fun x hx _ _ => (lnew y1 aa 32 ca 0 1 0 0 0 0 0).block x hx)
  have HBa : Hid (Bw w0 (y1.alloc (.cells #[.slice aa 32 ca, .int .i64 0, .int .i64 1, .int .i64 0, .int .u64 0, .int .u64 0, .int .i64 0, .int .i64 0] 27))) := Bw.on ga (lnew y1 aa 32 ca 0 1 0 0 0 0 0)
  obtain ⟨za, HZa⟩ : ∃ y, Hid (y1.alloc (.cells #[.slice aa 32 ca, .int .i64 0, .int .i64 1, .int .i64 0, .int .u64 0, .int .u64 0, .int .i64 0, .int .i64 0] 27) = y) := ⟨_, rfl⟩
  obtain ⟨pa, HPa⟩ : ∃ y, Hid (y1.heap.size = y) := ⟨_, rfl⟩
  rw [HZa.out] at HLa HVa HBa
  rw [HPa.out] at HLa
  clear hy eR va ga
  go_upto_region 2 with fail
  rw [HZa.out, HPa.out]
  clear HZa HPa
  have HW1 : Hid (Below w.heap.size w za) := bel_bel HW0.out HW0.out.size HBa.out
  clear HW0 HBa
  have k2 := ll.reserve aa 32 ca K 0 1 0 0 0 0 0 0 10 za ⟨HVa.out.bs, by omega, by unfold i64r; omega, by unfold i64r; omega, by unfold i64r; omega, by unfold u64r; omega, by unfold u64r; omega, by unfold i64r; omega, by unfold i64r; omega⟩ (by unfold u64r; omega) (by unfold i64r; omega)
  have e0 := HLa.out.c0
  have e1 := HLa.out.c1
  have e2 := HLa.out.c2
  have e3 := HLa.out.c3
  have e4 := HLa.out.c4
  have e5 := HLa.out.c5
  have e6 := HLa.out.c6
  have e7 := HLa.out.c7
  go_wp2_with fail
  refine k2.mono ?_
  intro e y2 hy
  clear k2 e0 e1 e2 e3 e4 e5 e6 e7
  have eR : resL ⟨K, 0, 1, 0, 0, 0, 0, 0⟩ 0 10 = ⟨K, 0, 1, 0, 10, 0, 0, 0⟩ := by simp [resL, resB, lokL, lok, blk, upN, vld, hK]
  obtain ⟨ab, cb, rfl, vb, gb⟩ := hy.use eR hK
  have HLb := hid (Lm.new y2 ab 32 cb 0 1 0 10 0 0 0)
  have HVb := hid (vb.step (w' := y2.alloc (.cells #[.slice ab 32 cb, .int .i64 0, .int .i64 1, .int .i64 0, .int .u64 10, .int .u64 0, .int .i64 0, .int .i64 0] 27)) fun x hx _ _ => (lnew y2 ab 32 cb 0 1 0 10 0 0 0).block x hx)
  have HBb : Hid (Bw za (y2.alloc (.cells #[.slice ab 32 cb, .int .i64 0, .int .i64 1, .int .i64 0, .int .u64 10, .int .u64 0, .int .i64 0, .int .i64 0] 27))) := Bw.on gb (lnew y2 ab 32 cb 0 1 0 10 0 0 0)
  obtain ⟨zb, HZb⟩ : ∃ y, Hid (y2.alloc (.cells #[.slice ab 32 cb, .int .i64 0, .int .i64 1, .int .i64 0, .int .u64 10, .int .u64 0, .int .i64 0, .int .i64 0] 27) = y) := ⟨_, rfl⟩
  obtain ⟨pb, HPb⟩ : ∃ y, Hid (y2.heap.size = y) := ⟨_, rfl⟩
  rw [HZb.out] at HLb HVb HBb
  rw [HPb.out] at HLb
  clear hy eR vb gb
  go_upto_region 3 with fail
  rw [HZb.out, HPb.out]
  clear HZb HPb
  replace HLa := hid (HLa.out.kept HBb.out)
  replace HVa := hid (HVa.out.step fun x hx _ _ => Below.block HBb.out x hx)
  have HW2 : Hid (Below w.heap.size w zb) := bel_bel HW1.out HW1.out.size HBb.out
  clear HW1 HBb
  have k3 := ll.propose ab 32 cb K 0 1 0 10 0 0 0 zb ⟨HVb.out.bs, by omega, by unfold i64r; omega, by unfold i64r; omega, by unfold i64r; omega, by unfold u64r; omega, by unfold u64r; omega, by unfold i64r; omega, by unfold i64r; omega⟩
  have e0 := HLb.out.c0
  have e1 := HLb.out.c1
  have e2 := HLb.out.c2
  have e3 := HLb.out.c3
  have e4 := HLb.out.c4
  have e5 := HLb.out.c5
  have e6 := HLb.out.c6
  have e7 := HLb.out.c7
  go_wp2_with fail
  refine k3.mono ?_
  intro e y3 hy
  clear k3 e0 e1 e2 e3 e4 e5 e6 e7
  have eR : prpL ⟨K, 0, 1, 0, 10, 0, 0, 0⟩ = ⟨K, 0, 1, 2, 10, 0, 0, 0⟩ := by simp [prpL, agnB, abN, lokL, lok, vld, hK]
  have eG : prpG ⟨K, 0, 1, 0, 10, 0, 0, 0⟩ = 2 := by simp [prpG, agnB, abN, lokL, lok, vld, hK]
  have eE : agnE ⟨K, 0, 1, 0, 10, 0, 0, 0⟩ = 0 := by simp [agnE, abN, lokL, lok, vld, hK]
  rw [eG, eE] at hy
  obtain ⟨ac, cc, rfl, vc, gc⟩ := hy.use eR hK
  have HLc := hid (Lm.new y3 ac 32 cc 0 1 2 10 0 0 0)
  have HVc := hid (vc.step (w' := y3.alloc (.cells #[.slice ac 32 cc, .int .i64 0, .int .i64 1, .int .i64 2, .int .u64 10, .int .u64 0, .int .i64 0, .int .i64 0] 27)) fun x hx _ _ => (lnew y3 ac 32 cc 0 1 2 10 0 0 0).block x hx)
  have HBc : Hid (Bw zb (y3.alloc (.cells #[.slice ac 32 cc, .int .i64 0, .int .i64 1, .int .i64 2, .int .u64 10, .int .u64 0, .int .i64 0, .int .i64 0] 27))) := Bw.on gc (lnew y3 ac 32 cc 0 1 2 10 0 0 0)
  obtain ⟨zc, HZc⟩ : ∃ y, Hid (y3.alloc (.cells #[.slice ac 32 cc, .int .i64 0, .int .i64 1, .int .i64 2, .int .u64 10, .int .u64 0, .int .i64 0, .int .i64 0] 27) = y) := ⟨_, rfl⟩
  obtain ⟨pc, HPc⟩ : ∃ y, Hid (y3.heap.size = y) := ⟨_, rfl⟩
  rw [HZc.out] at HLc HVc HBc
  rw [HPc.out] at HLc
  clear hy eR vc gc
  go_upto_region 4 with fail
  rw [HZc.out, HPc.out]
  clear HZc HPc
  replace HLa := hid (HLa.out.kept HBc.out)
  replace HVa := hid (HVa.out.step fun x hx _ _ => Below.block HBc.out x hx)
  replace HLb := hid (HLb.out.kept HBc.out)
  replace HVb := hid (HVb.out.step fun x hx _ _ => Below.block HBc.out x hx)
  have HW3 : Hid (Below w.heap.size w zc) := bel_bel HW2.out HW2.out.size HBc.out
  clear HW2 HBc
  have k4 := ll.opened ac 32 cc K 0 1 2 10 0 0 0 2 0 10 zc ⟨HVc.out.bs, by omega, by unfold i64r; omega, by unfold i64r; omega, by unfold i64r; omega, by unfold u64r; omega, by unfold u64r; omega, by unfold i64r; omega, by unfold i64r; omega⟩ (by unfold i64r; omega) (by unfold u64r; omega) (by unfold i64r; omega)
  have e0 := HLc.out.c0
  have e1 := HLc.out.c1
  have e2 := HLc.out.c2
  have e3 := HLc.out.c3
  have e4 := HLc.out.c4
  have e5 := HLc.out.c5
  have e6 := HLc.out.c6
  have e7 := HLc.out.c7
  go_wp2_with fail
  refine k4.mono ?_
  intro e y4 hy
  clear k4 e0 e1 e2 e3 e4 e5 e6 e7
  have eR : opnL ⟨K, 0, 1, 2, 10, 0, 0, 0⟩ 2 0 10 = ⟨K, 0, 2, 2, 11, 10, 0, 0⟩ := by simp [opnL, opnB, lokL, lok, blk, upN, vld, hK]
  obtain ⟨ad, cd, rfl, vd, gd⟩ := hy.use eR hK
  have HLd := hid (Lm.new y4 ad 32 cd 0 2 2 11 10 0 0)
  have HVd := hid (vd.step (w' := y4.alloc (.cells #[.slice ad 32 cd, .int .i64 0, .int .i64 2, .int .i64 2, .int .u64 11, .int .u64 10, .int .i64 0, .int .i64 0] 27)) fun x hx _ _ => (lnew y4 ad 32 cd 0 2 2 11 10 0 0).block x hx)
  have HBd : Hid (Bw zc (y4.alloc (.cells #[.slice ad 32 cd, .int .i64 0, .int .i64 2, .int .i64 2, .int .u64 11, .int .u64 10, .int .i64 0, .int .i64 0] 27))) := Bw.on gd (lnew y4 ad 32 cd 0 2 2 11 10 0 0)
  obtain ⟨zd, HZd⟩ : ∃ y, Hid (y4.alloc (.cells #[.slice ad 32 cd, .int .i64 0, .int .i64 2, .int .i64 2, .int .u64 11, .int .u64 10, .int .i64 0, .int .i64 0] 27) = y) := ⟨_, rfl⟩
  obtain ⟨pd, HPd⟩ : ∃ y, Hid (y4.heap.size = y) := ⟨_, rfl⟩
  rw [HZd.out] at HLd HVd HBd
  rw [HPd.out] at HLd
  clear hy eR vd gd
  go_upto_region 5 with fail
  rw [HZd.out, HPd.out]
  clear HZd HPd
  replace HLa := hid (HLa.out.kept HBd.out)
  replace HVa := hid (HVa.out.step fun x hx _ _ => Below.block HBd.out x hx)
  replace HLb := hid (HLb.out.kept HBd.out)
  replace HVb := hid (HVb.out.step fun x hx _ _ => Below.block HBd.out x hx)
  replace HLc := hid (HLc.out.kept HBd.out)
  replace HVc := hid (HVc.out.step fun x hx _ _ => Below.block HBd.out x hx)
  have HW4 : Hid (Below w.heap.size w zd) := bel_bel HW3.out HW3.out.size HBd.out
  clear HW3 HBd
  have k5 := ll.answered ad 32 cd K 0 2 2 11 10 0 0 3 7 5 0 10 zd ⟨HVd.out.bs, by omega, by unfold i64r; omega, by unfold i64r; omega, by unfold i64r; omega, by unfold u64r; omega, by unfold u64r; omega, by unfold i64r; omega, by unfold i64r; omega⟩ (by unfold i64r; omega) (by unfold u64r; omega) (by unfold i64r; omega) (by unfold i64r; omega) (by unfold i64r; omega)
  have e0 := HLd.out.c0
  have e1 := HLd.out.c1
  have e2 := HLd.out.c2
  have e3 := HLd.out.c3
  have e4 := HLd.out.c4
  have e5 := HLd.out.c5
  have e6 := HLd.out.c6
  have e7 := HLd.out.c7
  go_wp2_with fail
  refine k5.mono ?_
  intro e y5 hy
  clear k5 e0 e1 e2 e3 e4 e5 e6 e7
  have eR : ansL ⟨K, 0, 2, 2, 11, 10, 0, 0⟩ 3 7 5 0 10 = ⟨K, 0, 3, 2, 10, 17, 5, 0⟩ := by simp [ansL, ansB, ansC, lokL, lok, blk, upN, vld, lss, hK]
  have eN : ansN ⟨K, 0, 2, 2, 11, 10, 0, 0⟩ 3 7 5 0 10 = 0 := by simp [ansN, ansB, ansC, lokL, lok, blk, vld, lss, hK]
  rw [eN] at hy
  obtain ⟨af, cf, rfl, vf, gf⟩ := hy.use eR hK
  have HLf := hid (Lm.new y5 af 32 cf 0 3 2 10 17 5 0)
  have HVf := hid (vf.step (w' := y5.alloc (.cells #[.slice af 32 cf, .int .i64 0, .int .i64 3, .int .i64 2, .int .u64 10, .int .u64 17, .int .i64 5, .int .i64 0] 27)) fun x hx _ _ => (lnew y5 af 32 cf 0 3 2 10 17 5 0).block x hx)
  have HBf : Hid (Bw zd (y5.alloc (.cells #[.slice af 32 cf, .int .i64 0, .int .i64 3, .int .i64 2, .int .u64 10, .int .u64 17, .int .i64 5, .int .i64 0] 27))) := Bw.on gf (lnew y5 af 32 cf 0 3 2 10 17 5 0)
  obtain ⟨zf, HZf⟩ : ∃ y, Hid (y5.alloc (.cells #[.slice af 32 cf, .int .i64 0, .int .i64 3, .int .i64 2, .int .u64 10, .int .u64 17, .int .i64 5, .int .i64 0] 27) = y) := ⟨_, rfl⟩
  obtain ⟨pf, HPf⟩ : ∃ y, Hid (y5.heap.size = y) := ⟨_, rfl⟩
  rw [HZf.out] at HLf HVf HBf
  rw [HPf.out] at HLf
  clear hy eR vf gf
  go_upto_region 6 with fail
  rw [HZf.out, HPf.out]
  clear HZf HPf
  replace HLa := hid (HLa.out.kept HBf.out)
  replace HVa := hid (HVa.out.step fun x hx _ _ => Below.block HBf.out x hx)
  replace HLb := hid (HLb.out.kept HBf.out)
  replace HVb := hid (HVb.out.step fun x hx _ _ => Below.block HBf.out x hx)
  replace HLc := hid (HLc.out.kept HBf.out)
  replace HVc := hid (HVc.out.step fun x hx _ _ => Below.block HBf.out x hx)
  replace HLd := hid (HLd.out.kept HBf.out)
  replace HVd := hid (HVd.out.step fun x hx _ _ => Below.block HBf.out x hx)
  have HW5 : Hid (Below w.heap.size w zf) := bel_bel HW4.out HW4.out.size HBf.out
  clear HW4 HBf
  have k6 := ll.again af 32 cf K 0 3 2 10 17 5 0 zf ⟨HVf.out.bs, by omega, by unfold i64r; omega, by unfold i64r; omega, by unfold i64r; omega, by unfold u64r; omega, by unfold u64r; omega, by unfold i64r; omega, by unfold i64r; omega⟩
  have e0 := HLf.out.c0
  have e1 := HLf.out.c1
  have e2 := HLf.out.c2
  have e3 := HLf.out.c3
  have e4 := HLf.out.c4
  have e5 := HLf.out.c5
  have e6 := HLf.out.c6
  have e7 := HLf.out.c7
  go_wp2_with fail
  refine k6.mono ?_
  intro e y6 hy
  clear k6 e0 e1 e2 e3 e4 e5 e6 e7
  have eR : agnL ⟨K, 0, 3, 2, 10, 17, 5, 0⟩ = ⟨K, 0, 4, 2, 0, 0, 5, 0⟩ := by simp [agnL, agnB, abN, lokL, lok, vld, hK]
  have eE : agnE ⟨K, 0, 3, 2, 10, 17, 5, 0⟩ = 0 := by simp [agnE, abN, lokL, lok, vld, hK]
  rw [eE] at hy
  obtain ⟨ah, ch, rfl, vh, gh⟩ := hy.use eR hK
  have HLh := hid (Lm.new y6 ah 32 ch 0 4 2 0 0 5 0)
  have HVh := hid (vh.step (w' := y6.alloc (.cells #[.slice ah 32 ch, .int .i64 0, .int .i64 4, .int .i64 2, .int .u64 0, .int .u64 0, .int .i64 5, .int .i64 0] 27)) fun x hx _ _ => (lnew y6 ah 32 ch 0 4 2 0 0 5 0).block x hx)
  have HBh : Hid (Bw zf (y6.alloc (.cells #[.slice ah 32 ch, .int .i64 0, .int .i64 4, .int .i64 2, .int .u64 0, .int .u64 0, .int .i64 5, .int .i64 0] 27))) := Bw.on gh (lnew y6 ah 32 ch 0 4 2 0 0 5 0)
  obtain ⟨zh, HZh⟩ : ∃ y, Hid (y6.alloc (.cells #[.slice ah 32 ch, .int .i64 0, .int .i64 4, .int .i64 2, .int .u64 0, .int .u64 0, .int .i64 5, .int .i64 0] 27) = y) := ⟨_, rfl⟩
  obtain ⟨ph, HPh⟩ : ∃ y, Hid (y6.heap.size = y) := ⟨_, rfl⟩
  rw [HZh.out] at HLh HVh HBh
  rw [HPh.out] at HLh
  clear hy eR vh gh
  go_upto_region 7 with fail
  rw [HZh.out, HPh.out]
  clear HZh HPh
  replace HLa := hid (HLa.out.kept HBh.out)
  replace HVa := hid (HVa.out.step fun x hx _ _ => Below.block HBh.out x hx)
  replace HLb := hid (HLb.out.kept HBh.out)
  replace HVb := hid (HVb.out.step fun x hx _ _ => Below.block HBh.out x hx)
  replace HLc := hid (HLc.out.kept HBh.out)
  replace HVc := hid (HVc.out.step fun x hx _ _ => Below.block HBh.out x hx)
  replace HLd := hid (HLd.out.kept HBh.out)
  replace HVd := hid (HVd.out.step fun x hx _ _ => Below.block HBh.out x hx)
  replace HLf := hid (HLf.out.kept HBh.out)
  replace HVf := hid (HVf.out.step fun x hx _ _ => Below.block HBh.out x hx)
  have HW6 : Hid (Below w.heap.size w zh) := bel_bel HW5.out HW5.out.size HBh.out
  clear HW5 HBh
  have k7 := ll.raise af 32 cf K 0 3 2 10 17 5 0 17 10 zh ⟨HVf.out.bs, by omega, by unfold i64r; omega, by unfold i64r; omega, by unfold i64r; omega, by unfold u64r; omega, by unfold u64r; omega, by unfold i64r; omega, by unfold i64r; omega⟩ (by unfold u64r; omega) (by unfold i64r; omega)
  have e0 := HLf.out.c0
  have e1 := HLf.out.c1
  have e2 := HLf.out.c2
  have e3 := HLf.out.c3
  have e4 := HLf.out.c4
  have e5 := HLf.out.c5
  have e6 := HLf.out.c6
  have e7 := HLf.out.c7
  go_wp2_with fail
  refine k7.mono ?_
  intro e y7 hy
  clear k7 e0 e1 e2 e3 e4 e5 e6 e7
  have eR : rseL ⟨K, 0, 3, 2, 10, 17, 5, 0⟩ 17 10 = ⟨K, 0, 3, 2, 10, 27, 5, 0⟩ := by simp [rseL, rseB, lokL, lok, blk, upN, vld, hK]
  obtain ⟨aj, cj, rfl, vj, gj⟩ := hy.use eR hK
  have HLj := hid (Lm.new y7 aj 32 cj 0 3 2 10 27 5 0)
  have HVj := hid (vj.step (w' := y7.alloc (.cells #[.slice aj 32 cj, .int .i64 0, .int .i64 3, .int .i64 2, .int .u64 10, .int .u64 27, .int .i64 5, .int .i64 0] 27)) fun x hx _ _ => (lnew y7 aj 32 cj 0 3 2 10 27 5 0).block x hx)
  have HBj : Hid (Bw zh (y7.alloc (.cells #[.slice aj 32 cj, .int .i64 0, .int .i64 3, .int .i64 2, .int .u64 10, .int .u64 27, .int .i64 5, .int .i64 0] 27))) := Bw.on gj (lnew y7 aj 32 cj 0 3 2 10 27 5 0)
  obtain ⟨zj, HZj⟩ : ∃ y, Hid (y7.alloc (.cells #[.slice aj 32 cj, .int .i64 0, .int .i64 3, .int .i64 2, .int .u64 10, .int .u64 27, .int .i64 5, .int .i64 0] 27) = y) := ⟨_, rfl⟩
  obtain ⟨pj, HPj⟩ : ∃ y, Hid (y7.heap.size = y) := ⟨_, rfl⟩
  rw [HZj.out] at HLj HVj HBj
  rw [HPj.out] at HLj
  clear hy eR vj gj
  go_upto_region 8 with fail
  rw [HZj.out, HPj.out]
  clear HZj HPj
  replace HLa := hid (HLa.out.kept HBj.out)
  replace HVa := hid (HVa.out.step fun x hx _ _ => Below.block HBj.out x hx)
  replace HLb := hid (HLb.out.kept HBj.out)
  replace HVb := hid (HVb.out.step fun x hx _ _ => Below.block HBj.out x hx)
  replace HLc := hid (HLc.out.kept HBj.out)
  replace HVc := hid (HVc.out.step fun x hx _ _ => Below.block HBj.out x hx)
  replace HLd := hid (HLd.out.kept HBj.out)
  replace HVd := hid (HVd.out.step fun x hx _ _ => Below.block HBj.out x hx)
  replace HLf := hid (HLf.out.kept HBj.out)
  replace HVf := hid (HVf.out.step fun x hx _ _ => Below.block HBj.out x hx)
  replace HLh := hid (HLh.out.kept HBj.out)
  replace HVh := hid (HVh.out.step fun x hx _ _ => Below.block HBj.out x hx)
  have HW7 : Hid (Below w.heap.size w zj) := bel_bel HW6.out HW6.out.size HBj.out
  clear HW6 HBj
  have e0 := HLa.out.c0
  have e1 := HLa.out.c1
  have e2 := HLa.out.c2
  have e3 := HLa.out.c3
  have e4 := HLa.out.c4
  have e5 := HLa.out.c5
  have e6 := HLa.out.c6
  have e7 := HLa.out.c7
  have BW0 : Bw zj { zj with drawn := zj.drawn + 1 } := Bw.drew zj
  have ks : ∀ (wx : World) (qa : Option Addr) (qc : Nat), Bw zj wx → Vs wx (fun x => zj.heap.size ≤ x) qa 32 qc K → Calls Tryz.prog 17 #[.agg #[.slice aa 32 ca, .int .i64 0, .int .i64 1, .int .i64 0, .int .u64 0, .int .u64 0, .int .i64 0, .int .i64 0], .agg #[.slice qa 32 qc, .int .i64 0, .int .i64 1, .int .i64 0, .int .u64 0, .int .u64 0, .int .i64 0, .int .i64 0]] wx fun e w' => e = .returned (.bool true) ∧ Below wx.heap.size wx w' := fun wx qa qc hb hv => by
    have h := sameLane_ aa qa 32 ca 32 qc K K 0 1 0 0 0 0 0 0 1 0 0 0 0 0 wx (HVa.out.bs.below hb) hv.bs (by unfold maxLen; omega) (by unfold maxLen; omega)
    rw [show slE K K 0 1 0 0 0 0 0 0 1 0 0 0 0 0 = true from by simp [slE]] at h
    exact h
  have kq : ∀ (wx : World), Bw zj wx → Calls Tryz.prog 16 #[.int .u8 1] wx fun e w' => ∃ ka kc, e = .returned (.slice ka 32 kc) ∧ Vs w' (fun x => zj.heap.size ≤ x) ka 32 kc K ∧ Below wx.heap.size wx w' := fun wx hb => (kk wx).mono fun e w' ⟨ka, kc, h1, h2, h3⟩ => ⟨ka, kc, h1, h2.wide fun x _ hx => Nat.le_trans (Below.size hb) hx, h3⟩
  go_region_held (fun wx => wx.cell? ⟨pa, 0, none⟩ = some (.slice aa 32 ca) ∧ wx.cell? ⟨pa, 1, none⟩ = some (.int .i64 0) ∧ wx.cell? ⟨pa, 2, none⟩ = some (.int .i64 1) ∧ wx.cell? ⟨pa, 3, none⟩ = some (.int .i64 0) ∧ wx.cell? ⟨pa, 4, none⟩ = some (.int .u64 0) ∧ wx.cell? ⟨pa, 5, none⟩ = some (.int .u64 0) ∧ wx.cell? ⟨pa, 6, none⟩ = some (.int .i64 0) ∧ wx.cell? ⟨pa, 7, none⟩ = some (.int .i64 0)) (go_keep) (first | (go_at_call 17; refine (ks _ qa qc G1 HQ.out).mono ?_; rintro en tt0 ⟨rfl, g2⟩; have G2 := Bw.on G1 g2; have i0 := Bw.cell G2 e0; have i1 := Bw.cell G2 e1; have i2 := Bw.cell G2 e2; have i3 := Bw.cell G2 e3; have i4 := Bw.cell G2 e4; have i5 := Bw.cell G2 e5; have i6 := Bw.cell G2 e6; have i7 := Bw.cell G2 e7; have HG2 := hid G2; clear g2) | (go_at_call 16; refine (kq _ BW0).mono ?_; rintro en ss0 ⟨qa, qc, rfl, vq, g1⟩; have G1 := Bw.on BW0 g1; have j0 := Bw.cell G1 e0; have j1 := Bw.cell G1 e1; have j2 := Bw.cell G1 e2; have j3 := Bw.cell G1 e3; have j4 := Bw.cell G1 e4; have j5 := Bw.cell G1 e5; have j6 := Bw.cell G1 e6; have j7 := Bw.cell G1 e7; have HQ := hid vq; clear vq g1))
  clear ks kq BW0 G1 G2 HQ e0 i0 j0 e1 i1 j1 e2 i2 j2 e3 i3 j3 e4 i4 j4 e5 i5 j5 e6 i6 j6 e7 i7 j7
  replace HLd := hid (HLd.out.kept HG2.out)
  replace HVd := hid (HVd.out.step fun x hx _ _ => Below.block HG2.out x hx)
  replace HLf := hid (HLf.out.kept HG2.out)
  replace HVf := hid (HVf.out.step fun x hx _ _ => Below.block HG2.out x hx)
  replace HLh := hid (HLh.out.kept HG2.out)
  replace HVh := hid (HVh.out.step fun x hx _ _ => Below.block HG2.out x hx)
  replace HLj := hid (HLj.out.kept HG2.out)
  replace HVj := hid (HVj.out.step fun x hx _ _ => Below.block HG2.out x hx)
  have HX0 : Hid (Below w.heap.size w tt0) := bel_bel HW7.out HW7.out.size HG2.out
  clear HW7 HG2
  have HW8 := HX0
  clear HX0
  go_upto_region 9 with fail
  have e0 := HLd.out.c0
  have e1 := HLd.out.c1
  have e2 := HLd.out.c2
  have e3 := HLd.out.c3
  have e4 := HLd.out.c4
  have e5 := HLd.out.c5
  have e6 := HLd.out.c6
  have e7 := HLd.out.c7
  have BW0 : Bw tt0 { tt0 with drawn := tt0.drawn + 1 } := Bw.drew tt0
  have ks : ∀ (wx : World) (qa : Option Addr) (qc : Nat), Bw tt0 wx → Vs wx (fun x => tt0.heap.size ≤ x) qa 32 qc K → Calls Tryz.prog 17 #[.agg #[.slice ad 32 cd, .int .i64 0, .int .i64 2, .int .i64 2, .int .u64 11, .int .u64 10, .int .i64 0, .int .i64 0], .agg #[.slice qa 32 qc, .int .i64 0, .int .i64 2, .int .i64 2, .int .u64 11, .int .u64 10, .int .i64 0, .int .i64 0]] wx fun e w' => e = .returned (.bool true) ∧ Below wx.heap.size wx w' := fun wx qa qc hb hv => by
    have h := sameLane_ ad qa 32 cd 32 qc K K 0 2 2 11 10 0 0 0 2 2 11 10 0 0 wx (HVd.out.bs.below hb) hv.bs (by unfold maxLen; omega) (by unfold maxLen; omega)
    rw [show slE K K 0 2 2 11 10 0 0 0 2 2 11 10 0 0 = true from by simp [slE]] at h
    exact h
  have kq : ∀ (wx : World), Bw tt0 wx → Calls Tryz.prog 16 #[.int .u8 1] wx fun e w' => ∃ ka kc, e = .returned (.slice ka 32 kc) ∧ Vs w' (fun x => tt0.heap.size ≤ x) ka 32 kc K ∧ Below wx.heap.size wx w' := fun wx hb => (kk wx).mono fun e w' ⟨ka, kc, h1, h2, h3⟩ => ⟨ka, kc, h1, h2.wide fun x _ hx => Nat.le_trans (Below.size hb) hx, h3⟩
  go_region_held (fun wx => wx.cell? ⟨pd, 0, none⟩ = some (.slice ad 32 cd) ∧ wx.cell? ⟨pd, 1, none⟩ = some (.int .i64 0) ∧ wx.cell? ⟨pd, 2, none⟩ = some (.int .i64 2) ∧ wx.cell? ⟨pd, 3, none⟩ = some (.int .i64 2) ∧ wx.cell? ⟨pd, 4, none⟩ = some (.int .u64 11) ∧ wx.cell? ⟨pd, 5, none⟩ = some (.int .u64 10) ∧ wx.cell? ⟨pd, 6, none⟩ = some (.int .i64 0) ∧ wx.cell? ⟨pd, 7, none⟩ = some (.int .i64 0)) (go_keep) (first | (go_at_call 17; refine (ks _ qa qc G1 HQ.out).mono ?_; rintro en tt1 ⟨rfl, g2⟩; have G2 := Bw.on G1 g2; have i0 := Bw.cell G2 e0; have i1 := Bw.cell G2 e1; have i2 := Bw.cell G2 e2; have i3 := Bw.cell G2 e3; have i4 := Bw.cell G2 e4; have i5 := Bw.cell G2 e5; have i6 := Bw.cell G2 e6; have i7 := Bw.cell G2 e7; have HG2 := hid G2; clear g2) | (go_at_call 16; refine (kq _ BW0).mono ?_; rintro en ss1 ⟨qa, qc, rfl, vq, g1⟩; have G1 := Bw.on BW0 g1; have j0 := Bw.cell G1 e0; have j1 := Bw.cell G1 e1; have j2 := Bw.cell G1 e2; have j3 := Bw.cell G1 e3; have j4 := Bw.cell G1 e4; have j5 := Bw.cell G1 e5; have j6 := Bw.cell G1 e6; have j7 := Bw.cell G1 e7; have HQ := hid vq; clear vq g1))
  clear ks kq BW0 G1 G2 HQ e0 i0 j0 e1 i1 j1 e2 i2 j2 e3 i3 j3 e4 i4 j4 e5 i5 j5 e6 i6 j6 e7 i7 j7
  replace HLf := hid (HLf.out.kept HG2.out)
  replace HVf := hid (HVf.out.step fun x hx _ _ => Below.block HG2.out x hx)
  replace HLh := hid (HLh.out.kept HG2.out)
  replace HVh := hid (HVh.out.step fun x hx _ _ => Below.block HG2.out x hx)
  replace HLj := hid (HLj.out.kept HG2.out)
  replace HVj := hid (HVj.out.step fun x hx _ _ => Below.block HG2.out x hx)
  have HX1 : Hid (Below w.heap.size w tt1) := bel_bel HW8.out HW8.out.size HG2.out
  clear HW8 HG2
  have HW9 := HX1
  clear HX1
  go_upto_region 10 with fail
  have e0 := HLf.out.c0
  have e1 := HLf.out.c1
  have e2 := HLf.out.c2
  have e3 := HLf.out.c3
  have e4 := HLf.out.c4
  have e5 := HLf.out.c5
  have e6 := HLf.out.c6
  have e7 := HLf.out.c7
  have BW0 : Bw tt1 { tt1 with drawn := tt1.drawn + 1 } := Bw.drew tt1
  have ks : ∀ (wx : World) (qa : Option Addr) (qc : Nat), Bw tt1 wx → Vs wx (fun x => tt1.heap.size ≤ x) qa 32 qc K → Calls Tryz.prog 17 #[.agg #[.slice af 32 cf, .int .i64 0, .int .i64 3, .int .i64 2, .int .u64 10, .int .u64 17, .int .i64 5, .int .i64 0], .agg #[.slice qa 32 qc, .int .i64 0, .int .i64 3, .int .i64 2, .int .u64 10, .int .u64 17, .int .i64 5, .int .i64 0]] wx fun e w' => e = .returned (.bool true) ∧ Below wx.heap.size wx w' := fun wx qa qc hb hv => by
    have h := sameLane_ af qa 32 cf 32 qc K K 0 3 2 10 17 5 0 0 3 2 10 17 5 0 wx (HVf.out.bs.below hb) hv.bs (by unfold maxLen; omega) (by unfold maxLen; omega)
    rw [show slE K K 0 3 2 10 17 5 0 0 3 2 10 17 5 0 = true from by simp [slE]] at h
    exact h
  have kq : ∀ (wx : World), Bw tt1 wx → Calls Tryz.prog 16 #[.int .u8 1] wx fun e w' => ∃ ka kc, e = .returned (.slice ka 32 kc) ∧ Vs w' (fun x => tt1.heap.size ≤ x) ka 32 kc K ∧ Below wx.heap.size wx w' := fun wx hb => (kk wx).mono fun e w' ⟨ka, kc, h1, h2, h3⟩ => ⟨ka, kc, h1, h2.wide fun x _ hx => Nat.le_trans (Below.size hb) hx, h3⟩
  go_region_held (fun wx => wx.cell? ⟨pf, 0, none⟩ = some (.slice af 32 cf) ∧ wx.cell? ⟨pf, 1, none⟩ = some (.int .i64 0) ∧ wx.cell? ⟨pf, 2, none⟩ = some (.int .i64 3) ∧ wx.cell? ⟨pf, 3, none⟩ = some (.int .i64 2) ∧ wx.cell? ⟨pf, 4, none⟩ = some (.int .u64 10) ∧ wx.cell? ⟨pf, 5, none⟩ = some (.int .u64 17) ∧ wx.cell? ⟨pf, 6, none⟩ = some (.int .i64 5) ∧ wx.cell? ⟨pf, 7, none⟩ = some (.int .i64 0)) (go_keep) (first | (go_at_call 17; refine (ks _ qa qc G1 HQ.out).mono ?_; rintro en tt2 ⟨rfl, g2⟩; have G2 := Bw.on G1 g2; have i0 := Bw.cell G2 e0; have i1 := Bw.cell G2 e1; have i2 := Bw.cell G2 e2; have i3 := Bw.cell G2 e3; have i4 := Bw.cell G2 e4; have i5 := Bw.cell G2 e5; have i6 := Bw.cell G2 e6; have i7 := Bw.cell G2 e7; have HG2 := hid G2; clear g2) | (go_at_call 16; refine (kq _ BW0).mono ?_; rintro en ss2 ⟨qa, qc, rfl, vq, g1⟩; have G1 := Bw.on BW0 g1; have j0 := Bw.cell G1 e0; have j1 := Bw.cell G1 e1; have j2 := Bw.cell G1 e2; have j3 := Bw.cell G1 e3; have j4 := Bw.cell G1 e4; have j5 := Bw.cell G1 e5; have j6 := Bw.cell G1 e6; have j7 := Bw.cell G1 e7; have HQ := hid vq; clear vq g1))
  clear ks kq BW0 G1 G2 HQ e0 i0 j0 e1 i1 j1 e2 i2 j2 e3 i3 j3 e4 i4 j4 e5 i5 j5 e6 i6 j6 e7 i7 j7
  replace HLh := hid (HLh.out.kept HG2.out)
  replace HVh := hid (HVh.out.step fun x hx _ _ => Below.block HG2.out x hx)
  replace HLj := hid (HLj.out.kept HG2.out)
  replace HVj := hid (HVj.out.step fun x hx _ _ => Below.block HG2.out x hx)
  have HX2 : Hid (Below w.heap.size w tt2) := bel_bel HW9.out HW9.out.size HG2.out
  clear HW9 HG2
  have HW10 := HX2
  clear HX2
  go_upto_region 11 with fail
  have e0 := HLh.out.c0
  have e1 := HLh.out.c1
  have e2 := HLh.out.c2
  have e3 := HLh.out.c3
  have e4 := HLh.out.c4
  have e5 := HLh.out.c5
  have e6 := HLh.out.c6
  have e7 := HLh.out.c7
  have BW0 : Bw tt2 { tt2 with drawn := tt2.drawn + 1 } := Bw.drew tt2
  have ks : ∀ (wx : World) (qa : Option Addr) (qc : Nat), Bw tt2 wx → Vs wx (fun x => tt2.heap.size ≤ x) qa 32 qc K → Calls Tryz.prog 17 #[.agg #[.slice ah 32 ch, .int .i64 0, .int .i64 4, .int .i64 2, .int .u64 0, .int .u64 0, .int .i64 5, .int .i64 0], .agg #[.slice qa 32 qc, .int .i64 0, .int .i64 4, .int .i64 2, .int .u64 0, .int .u64 0, .int .i64 5, .int .i64 0]] wx fun e w' => e = .returned (.bool true) ∧ Below wx.heap.size wx w' := fun wx qa qc hb hv => by
    have h := sameLane_ ah qa 32 ch 32 qc K K 0 4 2 0 0 5 0 0 4 2 0 0 5 0 wx (HVh.out.bs.below hb) hv.bs (by unfold maxLen; omega) (by unfold maxLen; omega)
    rw [show slE K K 0 4 2 0 0 5 0 0 4 2 0 0 5 0 = true from by simp [slE]] at h
    exact h
  have kq : ∀ (wx : World), Bw tt2 wx → Calls Tryz.prog 16 #[.int .u8 1] wx fun e w' => ∃ ka kc, e = .returned (.slice ka 32 kc) ∧ Vs w' (fun x => tt2.heap.size ≤ x) ka 32 kc K ∧ Below wx.heap.size wx w' := fun wx hb => (kk wx).mono fun e w' ⟨ka, kc, h1, h2, h3⟩ => ⟨ka, kc, h1, h2.wide fun x _ hx => Nat.le_trans (Below.size hb) hx, h3⟩
  go_region_held (fun wx => wx.cell? ⟨ph, 0, none⟩ = some (.slice ah 32 ch) ∧ wx.cell? ⟨ph, 1, none⟩ = some (.int .i64 0) ∧ wx.cell? ⟨ph, 2, none⟩ = some (.int .i64 4) ∧ wx.cell? ⟨ph, 3, none⟩ = some (.int .i64 2) ∧ wx.cell? ⟨ph, 4, none⟩ = some (.int .u64 0) ∧ wx.cell? ⟨ph, 5, none⟩ = some (.int .u64 0) ∧ wx.cell? ⟨ph, 6, none⟩ = some (.int .i64 5) ∧ wx.cell? ⟨ph, 7, none⟩ = some (.int .i64 0)) (go_keep) (first | (go_at_call 17; refine (ks _ qa qc G1 HQ.out).mono ?_; rintro en tt3 ⟨rfl, g2⟩; have G2 := Bw.on G1 g2; have i0 := Bw.cell G2 e0; have i1 := Bw.cell G2 e1; have i2 := Bw.cell G2 e2; have i3 := Bw.cell G2 e3; have i4 := Bw.cell G2 e4; have i5 := Bw.cell G2 e5; have i6 := Bw.cell G2 e6; have i7 := Bw.cell G2 e7; have HG2 := hid G2; clear g2) | (go_at_call 16; refine (kq _ BW0).mono ?_; rintro en ss3 ⟨qa, qc, rfl, vq, g1⟩; have G1 := Bw.on BW0 g1; have j0 := Bw.cell G1 e0; have j1 := Bw.cell G1 e1; have j2 := Bw.cell G1 e2; have j3 := Bw.cell G1 e3; have j4 := Bw.cell G1 e4; have j5 := Bw.cell G1 e5; have j6 := Bw.cell G1 e6; have j7 := Bw.cell G1 e7; have HQ := hid vq; clear vq g1))
  clear ks kq BW0 G1 G2 HQ e0 i0 j0 e1 i1 j1 e2 i2 j2 e3 i3 j3 e4 i4 j4 e5 i5 j5 e6 i6 j6 e7 i7 j7
  replace HLj := hid (HLj.out.kept HG2.out)
  replace HVj := hid (HVj.out.step fun x hx _ _ => Below.block HG2.out x hx)
  have HLh2 := hid (HLh.out.kept HG2.out)
  have HVh2 := hid (HVh.out.step fun x hx _ _ => Below.block HG2.out x hx)
  have HX3 : Hid (Below w.heap.size w tt3) := bel_bel HW10.out HW10.out.size HG2.out
  clear HW10 HG2
  have HW11 := HX3
  clear HX3
  go_upto_region 12 with fail
  have e0 := HLh2.out.c0
  have e1 := HLh2.out.c1
  have e2 := HLh2.out.c2
  have e3 := HLh2.out.c3
  have e4 := HLh2.out.c4
  have e5 := HLh2.out.c5
  have e6 := HLh2.out.c6
  have e7 := HLh2.out.c7
  have kv := ll.valid ah 32 ch K 0 4 2 0 0 5 0 tt3 (by unfold maxLen; omega) (by unfold i64r; omega) (by unfold i64r; omega)
  rw [show lok 32 0 4 2 5 0 = true from by simp [lok, vld]] at kv
  go_wp2_with fail
  refine kv.mono ?_
  rintro e u1 ⟨rfl, gv⟩
  have HWv : Hid (Below w.heap.size w u1) := bel_bel HW11.out HW11.out.size gv
  have j5 := (HLj.out.kept gv).c5
  have ku := ll.up 3 1 u1 (by unfold u64r; omega) (by unfold i64r; omega)
  rw [show upN 3 1 = 4 from by simp [upN, blk]] at ku
  clear kv gv e0 e1 e2 e3 e4 e5 e6 e7
  go_wp2_with (first | (go_at_call 19; refine (kn _).mono ?_; rintro en wn ⟨rfl, rfl⟩) | fail)
  refine ku.mono ?_
  rintro e u2 ⟨rfl, gu⟩
  have HWu : Hid (Below w.heap.size w u2) := bel_bel HWv.out HWv.out.size gu
  clear ku gu
  go_wp2_with fail
  go_ret
  exact ⟨rfl, HWu.out⟩
end Go.Proofs.YtbkeejapongmlaaGreatDoor
