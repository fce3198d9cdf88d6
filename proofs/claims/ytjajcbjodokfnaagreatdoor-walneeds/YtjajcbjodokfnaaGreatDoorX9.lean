import Derived.Test.YtjajcbjodokfnaaGreatDoorX8
namespace Go.Proofs.YtjajcbjodokfnaaGreatDoor
set_option maxRecDepth 100000
open Go.RowKit Go.Shelf
set_option linter.unusedVariables false
set_option linter.unusedSimpArgs false
attribute [local go_sem] Oper.semAt_some

set_option maxHeartbeats 4000000 in
theorem pieces_nil (e q p : Nat) (ad : Option Addr) (c : Nat) (w : World) :
    Calls Tryz.prog 88 #[.int .i64 e, .int .i64 q, .int .i64 p, .slice ad 0 c] w fun en w' => ∃ v, en = .returned v ∧ w'.ownsRow w.heap.size 40 5 v 0 [] ∧ Below w.heap.size w w' := by
  have hmx : Tryz.prog.follows .mixedOrders = true := by kernel_rfl
  refine (callsIn_wide (n := 9)).1 ?_
  refine callsIn_of_wp_marks Tryz.func88 rfl trivial ?_ rfl
  simp only [Tryz.ntmps88, List.size_toArray, List.length_cons, List.length_nil, Nat.reduceAdd, Nat.reduceSub, Array.replicate_succ, Array.replicate_zero, List.push_toArray, List.append_toArray, List.nil_append, List.cons_append]
  gi_wp2_with (refine ⟨trivial, ?_⟩; gi_at_call 124; refine (callsIn_wide.2 (chunk_ _ _ _ _)).mono ?_; rintro e0 w2 ⟨rfl, hw2⟩)
  clear hw2
  obtain ⟨W2, HW2⟩ : ∃ W2, Hid ((((((w.alloc (.cells #[.int .i64 e] 3)).alloc (.cells #[.int .i64 q] 3)).alloc (.cells #[.int .i64 p] 3)).alloc (.cells #[.slice none 0 0] 121)).alloc (.cells #[.slice ad 0 c] 33)).alloc (.cells #[.int .i64 480] 3) = W2) := ⟨_, rfl⟩
  have sz2 : W2.heap.size = w.heap.size + 1 + 1 + 1 + 1 + 1 + 1 := by rw [← HW2.out]; simp
  have bel2 : Below w.heap.size w W2 := by
    rw [← HW2.out]
    exact ((((((Below.refl _ _).alloc (Nat.le_refl _) _).alloc (by simp) _).alloc (by simp; omega) _).alloc (by simp; omega) _).alloc (by simp; omega) _).alloc (by simp; omega) _
  have b0 : Boxed W2 w.heap.size 3 (.int .i64 e) := by
    rw [← HW2.out]
    exact (((((Boxed.new w 3 (.int .i64 e)).alloc _).alloc _).alloc _).alloc _).alloc _
  have b1 : Boxed W2 (w.heap.size + 1) 3 (.int .i64 q) := by
    rw [← HW2.out]
    have := ((((Boxed.new (w.alloc (.cells #[.int .i64 e] 3)) 3 (.int .i64 q)).alloc (.cells #[.int .i64 p] 3)).alloc (.cells #[.slice none 0 0] 121)).alloc (.cells #[.slice ad 0 c] 33)).alloc (.cells #[.int .i64 480] 3)
    simpa using this
  have b2 : Boxed W2 (w.heap.size + 1 + 1) 3 (.int .i64 p) := by
    rw [← HW2.out]
    have := (((Boxed.new ((w.alloc (.cells #[.int .i64 e] 3)).alloc (.cells #[.int .i64 q] 3)) 3 (.int .i64 p)).alloc (.cells #[.slice none 0 0] 121)).alloc (.cells #[.slice ad 0 c] 33)).alloc (.cells #[.int .i64 480] 3)
    simpa using this
  have b3 : Boxed W2 (w.heap.size + 1 + 1 + 1) 121 (.slice none 0 0) := by
    rw [← HW2.out]
    have := ((Boxed.new (((w.alloc (.cells #[.int .i64 e] 3)).alloc (.cells #[.int .i64 q] 3)).alloc (.cells #[.int .i64 p] 3)) 121 (.slice none 0 0)).alloc (.cells #[.slice ad 0 c] 33)).alloc (.cells #[.int .i64 480] 3)
    simpa using this
  have b4 : Boxed W2 (w.heap.size + 1 + 1 + 1 + 1) 33 (.slice ad 0 c) := by
    rw [← HW2.out]
    have := (Boxed.new ((((w.alloc (.cells #[.int .i64 e] 3)).alloc (.cells #[.int .i64 q] 3)).alloc (.cells #[.int .i64 p] 3)).alloc (.cells #[.slice none 0 0] 121)) 33 (.slice ad 0 c)).alloc (.cells #[.int .i64 480] 3)
    simpa using this
  have b5 : Boxed W2 (w.heap.size + 1 + 1 + 1 + 1 + 1) 3 (.int .i64 480) := by
    rw [← HW2.out]
    have := Boxed.new (((((w.alloc (.cells #[.int .i64 e] 3)).alloc (.cells #[.int .i64 q] 3)).alloc (.cells #[.int .i64 p] 3)).alloc (.cells #[.slice none 0 0] 121)).alloc (.cells #[.slice ad 0 c] 33)) 3 (.int .i64 480)
    simpa using this
  rw [HW2.out]
  clear HW2
  generalize g5 : w.heap.size + 1 + 1 + 1 + 1 + 1 = B5 at *
  generalize g4 : w.heap.size + 1 + 1 + 1 + 1 = B4 at *
  generalize g3 : w.heap.size + 1 + 1 + 1 = B3 at *
  generalize g2 : w.heap.size + 1 + 1 = B2 at *
  generalize g1 : w.heap.size + 1 = B1 at *
  obtain ⟨B0, HB0⟩ : ∃ B0, Hid (w.heap.size = B0) := ⟨_, rfl⟩
  have hB0 := HB0.out
  rw [hB0] at b0 ⊢
  have hB3 : B3 < W2.heap.size := by omega
  have hB03 : B0 < B3 ∧ B1 < B3 ∧ B2 < B3 := by omega
  have P2 : Pi w W2.heap.size B0 B1 B2 B3 e q p [] W2 := ⟨b0, b1, b2, ⟨_, b3, World.ownsRow_nil _ _ _ _⟩, bel2, Nat.le_refl _⟩
  have c4 := b4.cell
  have c5 := b5.cell
  have hB45 : B4 < W2.heap.size ∧ B5 < W2.heap.size ∧ B3 < B4 ∧ B3 < B5 := by omega
  have hseq : SeqStopsK Fence.wide 8 Tryz.prog 151 #[.pointer (some ⟨B4, 0, none⟩), .pointer (some ⟨B5, 0, none⟩)] (fun x : Nat => #[ckv 0 0 0 x]) (Kp2 B4 B5) (fun ys => ys = []) (fun _ => True) 0 W2 := fun lp J Jx W hW hA _ hY hJ0 =>
    (chunk1_nil 8 lp B4 B5 ad c J W ((hW.cell (p := ⟨B4, 0, none⟩) hB45.1).trans c4) hJ0).mono fun e W' ⟨he, hj⟩ => ⟨he, .inl ⟨_, rfl, hj⟩⟩
  clear b0 b1 b2 b3 b4 b5 c4 c5 g1 g2 g3 g4 g5 sz2
  refine with_act (fun A hA => ?_)
  refine wpIn_rangeFunc_ownH rfl (by omega) (gf := 151) (lb := #[.pointer (some ⟨B4, 0, none⟩), .pointer (some ⟨B5, 0, none⟩)]) (by rw [hA]; rfl) trivial (enters_of Tryz.func151 (by kernel_rfl) rfl) hseq Kp2.trans
    (fun W l o o' hl ho _ _ => ⟨World.putObj_heap_other (by omega), World.putObj_heap_other (by omega)⟩) (Below.refl _ _) (fun _ => rfl)
    (fun pre W => Pi w W2.heap.size B0 B1 B2 B3 e q p [] W)
    (fun c pre W => False)
    (fun pre X Y row hs hg hr => hs.non bel2.size hg hr)
    (fun c pre X Y row hs hg hr => hs)
    P2
    (fun x a' W => a' = { tmps := (A.tmps.setIfInBounds 13 (ckv 0 0 0 x)).setIfInBounds 10 (ckv 0 0 0 x), defers := [] })
    (fun x a' _ X Y row hs hg hr => hs)
    ?assign ?body ?done ?stop
  case assign =>
    subst hA
    rintro lp pre x W K hI hK
    gi_wp2
    refine hK _ _ (KeepsFrom.refl _ _) ⟨rfl, rfl⟩ hI ?_
    simp only [List.setIfInBounds_toArray, List.set_cons_zero, List.set_cons_succ]
  case body =>
    rintro lp pre x a' W hlp _ hI ha hlt'
    omega
  case done =>
    subst hA
    rintro D ys W hD hys hI hK
    obtain ⟨b0, b1, b2, ⟨v, b3, ho⟩, bel, hsz⟩ := hI
    have c3 := b3.cell
    have HO := hid ho
    have HBEL := hid bel
    clear ho b0 b1 b2 bel
    gi_wp2
    refine ⟨by simp, .inl ⟨_, _, rfl, run_takeDeferred hK, ?_⟩⟩
    have BF := HBEL.out.trans (belowK_b (w := w) (Nat.le_refl _) _ D _ (.deferred none) (by omega) hK rfl rfl)
    refine ⟨v, ?_, ⟨_, rfl, ?_, BF⟩⟩
    · simp [results, Tryz.f88, go_sem]
    · exact own_mono (own_non (B := 0) HO.out (grownBy_putObj' _ D (.deferred none)) (fun r er => by cases er; exact ⟨Nat.zero_le _, _, hK, rfl⟩)) (by have := bel2.size; omega)
  case stop =>
    rintro D c pre W hD _ hf
    exact hf.elim
theorem plst_mem {b off e q p n K : Nat} {tx : List Int} {y : Sx} (h : y ∈ plst b off e q p n tx (List.range K)) : ∃ i, i < K ∧ y = pent b off e q p n tx i i := by
  rw [plst_range] at h
  obtain ⟨i, hi, rfl⟩ := List.mem_map.1 h
  exact ⟨i, by simpa using hi, rfl⟩
theorem bs_piece {w : World} {b off n : Nat} {tx : List Int} (h : Bs w (some ⟨b, off, none⟩) n tx) (i : Nat) (hi : i < pcN n) : Bs w (some ⟨b, off + 480 * i, none⟩) (min 480 (n - 480 * i)) (pce tx i) := by
  have hlt := pcN_lt hi
  have := bs_sl h (480 * i) (min 480 (n - 480 * i)) (by omega)
  have e1 : sl tx (480 * i) (min 480 (n - 480 * i)) = pce tx i := by
    unfold sl pce
    apply List.ext_getElem?
    intro j
    have hl := h.1
    simp only [List.getElem?_take, List.getElem?_drop]
    by_cases h1 : j < min 480 (n - 480 * i)
    · rw [if_pos h1, if_pos (by omega)]
    · rw [if_neg h1]
      by_cases h2 : j < 480
      · rw [if_pos h2, List.getElem?_eq_none (by omega)]
      · rw [if_neg h2]
  rw [e1] at this
  exact this
/-- The sectors of a string, as a list. -/
theorem pieces_ (e q p : Nat) (a : Option Addr) (n c : Nat) (tx : List Int) (w : World) (hb : Bs w a n tx) (hn : n ≤ 2000000) (hnc : n ≤ c) (hcm : c ≤ maxLen) (he : mq e) (hq : mq q) (hp : p + pcN n ≤ 8192) :
    Calls Tryz.prog 88 #[.int .i64 e, .int .i64 q, .int .i64 p, .slice a n c] w fun en w' => ∃ bb c' xs, en = .returned (.slice bb (pcN n) c') ∧ pcN n ≤ c' ∧ c' ≤ maxLen ∧ Sl w' bb (pcN n) xs ∧ Hid (xs.map (·.x) = pcl e q p tx (pcN n)) ∧ Sb w' xs ∧ (∀ y ∈ xs, ∀ ad, y.a = some ad → ∃ ad0, a = some ad0 ∧ 0 < n ∧ ad.block = ad0.block) ∧ (∀ ad, bb = some ad → w.heap.size ≤ ad.block) ∧ Below w.heap.size w w' := by
  by_cases h0 : n = 0
  · subst h0
    refine (pieces_nil e q p a c w).mono ?_
    rintro en w' ⟨v, rfl, o, g⟩
    obtain ⟨bb, c', rfl, h1, h2, h3⟩ := own_slice o
    exact ⟨bb, c', [], rfl, h1, h2, ⟨rfl, .inl rfl⟩, rfl, (fun y hy => by cases hy), (fun y hy => by cases hy), fun ad ha => (h3 ad ha).2, g⟩
  · obtain ⟨b, off, rfl⟩ : ∃ b off, a = some ⟨b, off, none⟩ := by
      rcases hb.2.2 with h | ⟨b, off, h, _⟩
      · exact absurd h h0
      · exact ⟨b, off, h⟩
    refine (pieces_some e q p b off n c tx w hb (by omega) hn hnc hcm he hq (by omega)).mono ?_
    rintro en w' ⟨v, rfl, o, g⟩
    obtain ⟨bb, c', rfl, h1, h2, h3⟩ := own_slice o
    refine ⟨bb, c', plst b off e q p n tx (List.range (pcN n)), rfl, h1, h2, ⟨by rw [plst_length, List.length_range], ?_⟩, plst_sec _ _ _ _ _ _ _ _, fun y hy => ?_, fun y hy ad ha => ?_, fun ad ha => (h3 ad ha).2, g⟩
    · obtain ⟨o1, o2⟩ := o
      rcases o2 with ⟨_, o2⟩ | ⟨g0, cap, cur, e0, hb0, hg0, hnc0, hcm0, hs0, ht0⟩
      · exact .inl o2
      · obtain ⟨rfl, -, rfl⟩ : bb = some ⟨g0, 0, none⟩ ∧ True ∧ c' = cap := by simpa using e0
        refine .inr ⟨g0, 0, rfl, fun i u hu => ?_⟩
        rw [Nat.zero_add, cell_of_row w' g0 i cur _ (0, 0) hg0]
        have hi : i < (scs (plst b off e q p n tx (List.range (pcN n)))).length := (List.getElem?_eq_some_iff.1 hu).1
        rw [← ht0, List.getElem?_take, if_pos (by rw [scs_length, plst_length, List.length_range] at hi; exact hi)] at hu
        simpa using hu
    · obtain ⟨i, hi, rfl⟩ := plst_mem hy
      refine ⟨(bs_piece hb i hi).below g, isT2, ⟨?_, ?_⟩, ⟨?_, ?_⟩, ⟨?_, ?_⟩, ?_⟩ <;> simp only [pent] <;> unfold mq at * <;> omega
    · obtain ⟨i, hi, rfl⟩ := plst_mem hy
      simp only [pent] at ha
      obtain rfl := Option.some.inj ha
      exact ⟨_, rfl, by omega, rfl⟩
theorem wrl_pcl {N e q p k : Nat} {tx : List Int} {xs : List Sx} (h : xs.map (·.x) = pcl e q p tx k) : wrl N xs = pw N e q p tx k := by
  have e1 : wrl N xs = (xs.map (·.x)).map (fun x => (hom N x, ps x)) := by unfold wrl; rw [List.map_map]; rfl
  rw [e1, h]
  unfold pcl pw
  rw [List.map_map]
  refine List.map_congr_left (fun i _ => ?_)
  simp only [Function.comp, hom]
  rw [if_neg t1_t2.symm]
  simp only [Int.toNat_natCast]
theorem pcl_mem {e q p k : Nat} {tx : List Int} {xs : List Sx} (h : xs.map (·.x) = pcl e q p tx k) {y : Sx} (hy : y ∈ xs) : ∃ i, i < k ∧ y.x = ⟨t2, e, q, (p + i : Nat), pce tx i⟩ := by
  have : y.x ∈ pcl e q p tx k := by rw [← h]; exact List.mem_map_of_mem hy
  unfold pcl at this
  obtain ⟨i, hi, h2⟩ := List.mem_map.1 this
  exact ⟨i, by simpa using hi, h2.symm⟩
theorem hom_t2 (N e p : Nat) (q : Int) (l : List Int) : hom N ⟨t2, e, q, p, l⟩ = sct N e p := by unfold hom; rw [if_neg t1_t2.symm]; simp only [Int.toNat_natCast]
end Go.Proofs.YtjajcbjodokfnaaGreatDoor
