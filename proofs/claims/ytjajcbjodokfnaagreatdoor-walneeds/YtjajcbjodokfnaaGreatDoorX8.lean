import Derived.Test.YtjajcbjodokfnaaGreatDoorX7
namespace Go.Proofs.YtjajcbjodokfnaaGreatDoor
set_option maxRecDepth 100000
open Go.RowKit Go.Shelf
set_option linter.unusedVariables false
set_option linter.unusedSimpArgs false
attribute [local go_sem] Oper.semAt_some

theorem infoS : (Tryz.prog.info? 40).map (fun i => (i.zero, i.size, i.bytes)) = some (some (.agg #[.string ⟨#[]⟩, .int .i64 0, .int .i64 0, .int .i64 0, .slice none 0 0]), 5, 64) := by kernel_rfl
theorem own_slice {w : World} {B n sz : Nat} {t : TypeId} {v : Value} {xs : List Value} (h : w.ownsRow B t sz v n xs) : ∃ a c, v = .slice a n c ∧ n ≤ c ∧ c ≤ maxLen ∧ (∀ ad, a = some ad → ad = ⟨ad.block, 0, none⟩ ∧ B ≤ ad.block) := by
  obtain ⟨h1, h2⟩ := h
  rcases h2 with ⟨rfl, h⟩ | ⟨g, cap, cur, rfl, hb, hg, hnc, hcm, hs, ht⟩
  · subst h
    exact ⟨none, 0, rfl, Nat.le_refl _, by unfold maxLen; omega, fun ad ha => by cases ha⟩
  · exact ⟨some ⟨g, 0, none⟩, cap, rfl, hnc, hcm, fun ad ha => by obtain rfl := Option.some.inj ha; exact ⟨rfl, hb⟩⟩
/-- The j-th sector of a list of pieces, of the piece x. -/
def pent (b off e q p n : Nat) (tx : List Int) (j x : Nat) : Sx := ⟨⟨t2, e, q, (p + j : Nat), pce tx x⟩, some ⟨b, off + 480 * x, none⟩, min 480 (n - 480 * x), min 480 (n - 480 * x)⟩
def plst (b off e q p n : Nat) (tx : List Int) (pre : List Nat) : List Sx := pre.zipIdx.map fun y => pent b off e q p n tx y.2 y.1
theorem plst_snoc (b off e q p n : Nat) (tx : List Int) (pre : List Nat) (x : Nat) : plst b off e q p n tx (pre ++ [x]) = plst b off e q p n tx pre ++ [pent b off e q p n tx pre.length x] := by
  unfold plst
  rw [List.zipIdx_append, List.map_append]
  simp
theorem plst_length (b off e q p n : Nat) (tx : List Int) (pre : List Nat) : (plst b off e q p n tx pre).length = pre.length := by unfold plst; simp
theorem plst_range (b off e q p n : Nat) (tx : List Int) (K : Nat) : plst b off e q p n tx (List.range K) = (List.range K).map fun i => pent b off e q p n tx i i := by
  induction K with
  | zero => rfl
  | succ K ih => rw [List.range_succ, plst_snoc, ih, List.map_append, List.length_range]; rfl
/-- The sectors that the pieces of a string are. -/
def pcl (e q p : Nat) (tx : List Int) (k : Nat) : List Sec := (List.range k).map fun i => ⟨t2, e, q, (p + i : Nat), pce tx i⟩
theorem plst_sec (b off e q p n : Nat) (tx : List Int) (K : Nat) : (plst b off e q p n tx (List.range K)).map (·.x) = pcl e q p tx K := by
  rw [plst_range, List.map_map]
  rfl
/-- While the pieces are gathered. -/
structure Pi (w : World) (S B0 B1 B2 B3 e q p : Nat) (L : List Sx) (W : World) : Prop where
  b0 : Boxed W B0 3 (.int .i64 e)
  b1 : Boxed W B1 3 (.int .i64 q)
  b2 : Boxed W B2 3 (.int .i64 p)
  out : ∃ v, Boxed W B3 121 v ∧ W.ownsRow S 40 5 v L.length (scs L)
  bel : Below w.heap.size w W
  sz : S ≤ W.heap.size
theorem own_non {X Y : World} {B S n sz : Nat} {t : TypeId} {v : Value} {xs : List Value} {row : Option Nat} (h : X.ownsRow S t sz v n xs) (hg : X.grownBy Y row) (hr : ∀ r, row = some r → B ≤ r ∧ ∃ o : Obj, X.heap[r]? = some o ∧ o.isCells = false) : Y.ownsRow S t sz v n xs :=
  own_at' h (fun g e => by
    obtain ⟨cur, hc⟩ := own_ty h e
    refine hg.block g (Array.getElem?_eq_some_iff.1 hc).1 (fun q => ?_)
    obtain ⟨_, o, ho, hoc⟩ := hr g q.symm
    rw [hc] at ho
    cases ho
    cases hoc)
theorem boxed_non {X Y : World} {B b : Nat} {t : TypeId} {v : Value} {row : Option Nat} (h : Boxed X b t v) (hg : X.grownBy Y row) (hr : ∀ r, row = some r → B ≤ r ∧ ∃ o : Obj, X.heap[r]? = some o ∧ o.isCells = false) : Boxed Y b t v :=
  h.kept hg (fun q => by
    obtain ⟨_, o, ho, hoc⟩ := hr b q.symm
    rw [show X.heap[b]? = _ from h] at ho
    cases ho
    cases hoc)
theorem Pi.non {w X Y : World} {B S B0 B1 B2 B3 e q p : Nat} {L : List Sx} {row : Option Nat} (h : Pi w S B0 B1 B2 B3 e q p L X) (hB : w.heap.size ≤ B) (hg : X.grownBy Y row) (hr : ∀ r, row = some r → B ≤ r ∧ ∃ o : Obj, X.heap[r]? = some o ∧ o.isCells = false) : Pi w S B0 B1 B2 B3 e q p L Y := by
  obtain ⟨v, o1, o2⟩ := h.out
  exact ⟨boxed_non h.b0 hg hr, boxed_non h.b1 hg hr, boxed_non h.b2 hg hr, ⟨v, boxed_non o1 hg hr, own_non o2 hg hr⟩, h.bel.grown hg h.bel.size (fun k e => Nat.le_trans hB (hr k e).1), Nat.le_trans h.sz hg.size⟩
set_option maxHeartbeats 4000000 in
theorem pieces_some (e q p b off n c : Nat) (tx : List Int) (w : World) (hb : Bs w (some ⟨b, off, none⟩) n tx) (h0 : 0 < n) (hn : n ≤ 2000000) (hnc : n ≤ c) (hcm : c ≤ maxLen) (he : mq e) (hq : mq q) (hp : p ≤ 10000) :
    Calls Tryz.prog 88 #[.int .i64 e, .int .i64 q, .int .i64 p, .slice (some ⟨b, off, none⟩) n c] w fun en w' => ∃ v, en = .returned v ∧ w'.ownsRow w.heap.size 40 5 v (pcN n) (scs (plst b off e q p n tx (List.range (pcN n)))) ∧ Below w.heap.size w w' := by
  have hmx : Tryz.prog.follows .mixedOrders = true := by kernel_rfl
  have hK5 : pcN n ≤ 4200 := by unfold pcN; omega
  refine (callsIn_wide (n := 9)).1 ?_
  refine callsIn_of_wp_marks Tryz.func88 rfl trivial ?_ rfl
  simp only [Tryz.ntmps88, List.size_toArray, List.length_cons, List.length_nil, Nat.reduceAdd, Nat.reduceSub, Array.replicate_succ, Array.replicate_zero, List.push_toArray, List.append_toArray, List.nil_append, List.cons_append]
  gi_wp2_with (refine ⟨trivial, ?_⟩; gi_at_call 124; refine (callsIn_wide.2 (chunk_ _ _ _ _)).mono ?_; rintro e0 w2 ⟨rfl, hw2⟩)
  clear hw2
  obtain ⟨W2, HW2⟩ : ∃ W2, Hid ((((((w.alloc (.cells #[.int .i64 e] 3)).alloc (.cells #[.int .i64 q] 3)).alloc (.cells #[.int .i64 p] 3)).alloc (.cells #[.slice none 0 0] 121)).alloc (.cells #[.slice (some ⟨b, off, none⟩) n c] 33)).alloc (.cells #[.int .i64 480] 3) = W2) := ⟨_, rfl⟩
  have sz2 : W2.heap.size = w.heap.size + 1 + 1 + 1 + 1 + 1 + 1 := by rw [← HW2.out]; simp
  have bel2 : Below w.heap.size w W2 := by
    rw [← HW2.out]
    exact ((((((Below.refl _ _).alloc (Nat.le_refl _) _).alloc (by simp) _).alloc (by simp; omega) _).alloc (by simp; omega) _).alloc (by simp; omega) _).alloc (by simp; omega) _
  have b0 : Boxed W2 w.heap.size 3 (.int .i64 e) := by
    rw [← HW2.out]
    exact (((((Boxed.new w 3 (.int .i64 e)).alloc _).alloc _).alloc _).alloc _).alloc _
  have b1 : Boxed W2 (w.heap.size + 1) 3 (.int .i64 q) := by
    rw [← HW2.out]
    have := ((((Boxed.new (w.alloc (.cells #[.int .i64 e] 3)) 3 (.int .i64 q)).alloc (.cells #[.int .i64 p] 3)).alloc (.cells #[.slice none 0 0] 121)).alloc (.cells #[.slice (some ⟨b, off, none⟩) n c] 33)).alloc (.cells #[.int .i64 480] 3)
    simpa using this
  have b2 : Boxed W2 (w.heap.size + 1 + 1) 3 (.int .i64 p) := by
    rw [← HW2.out]
    have := (((Boxed.new ((w.alloc (.cells #[.int .i64 e] 3)).alloc (.cells #[.int .i64 q] 3)) 3 (.int .i64 p)).alloc (.cells #[.slice none 0 0] 121)).alloc (.cells #[.slice (some ⟨b, off, none⟩) n c] 33)).alloc (.cells #[.int .i64 480] 3)
    simpa using this
  have b3 : Boxed W2 (w.heap.size + 1 + 1 + 1) 121 (.slice none 0 0) := by
    rw [← HW2.out]
    have := ((Boxed.new (((w.alloc (.cells #[.int .i64 e] 3)).alloc (.cells #[.int .i64 q] 3)).alloc (.cells #[.int .i64 p] 3)) 121 (.slice none 0 0)).alloc (.cells #[.slice (some ⟨b, off, none⟩) n c] 33)).alloc (.cells #[.int .i64 480] 3)
    simpa using this
  have b4 : Boxed W2 (w.heap.size + 1 + 1 + 1 + 1) 33 (.slice (some ⟨b, off, none⟩) n c) := by
    rw [← HW2.out]
    have := (Boxed.new ((((w.alloc (.cells #[.int .i64 e] 3)).alloc (.cells #[.int .i64 q] 3)).alloc (.cells #[.int .i64 p] 3)).alloc (.cells #[.slice none 0 0] 121)) 33 (.slice (some ⟨b, off, none⟩) n c)).alloc (.cells #[.int .i64 480] 3)
    simpa using this
  have b5 : Boxed W2 (w.heap.size + 1 + 1 + 1 + 1 + 1) 3 (.int .i64 480) := by
    rw [← HW2.out]
    have := Boxed.new (((((w.alloc (.cells #[.int .i64 e] 3)).alloc (.cells #[.int .i64 q] 3)).alloc (.cells #[.int .i64 p] 3)).alloc (.cells #[.slice none 0 0] 121)).alloc (.cells #[.slice (some ⟨b, off, none⟩) n c] 33)) 3 (.int .i64 480)
    simpa using this
  rw [HW2.out]
  clear HW2
  generalize g5 : w.heap.size + 1 + 1 + 1 + 1 + 1 = B5 at *
  generalize g4 : w.heap.size + 1 + 1 + 1 + 1 = B4 at *
  generalize g3 : w.heap.size + 1 + 1 + 1 = B3 at *
  generalize g2 : w.heap.size + 1 + 1 = B2 at *
  generalize g1 : w.heap.size + 1 = B1 at *
  obtain ⟨B0, HB0⟩ : ∃ B0, Hid (w.heap.size = B0) := ⟨_, rfl⟩
  have hB0 := HB0.out
  rw [hB0] at b0 ⊢
  have hB3 : B3 < W2.heap.size := by omega
  have hB03 : B0 < B3 ∧ B1 < B3 ∧ B2 < B3 := by omega
  have P2 : Pi w W2.heap.size B0 B1 B2 B3 e q p [] W2 := ⟨b0, b1, b2, ⟨_, b3, World.ownsRow_nil _ _ _ _⟩, bel2, Nat.le_refl _⟩
  have c4 := b4.cell
  have c5 := b5.cell
  have hB45 : B4 < W2.heap.size ∧ B5 < W2.heap.size ∧ B3 < B4 ∧ B3 < B5 := by omega
  have hseq : SeqStopsK Fence.wide 8 Tryz.prog 151 #[.pointer (some ⟨B4, 0, none⟩), .pointer (some ⟨B5, 0, none⟩)] (fun x : Nat => #[ckv b off n x]) (Kp2 B4 B5) (fun ys => ys = List.range (pcN n)) (fun _ => True) (pcN n) W2 := fun lp J Jx W hW hA _ hY hJ0 =>
    chunk1_in 8 (by omega) lp B4 B5 b off n c (by omega) hnc hcm J Jx (fun pre X Y hj hg => hA pre X Y none hj hg (fun r e => by cases e)) hY W ((hW.cell (p := ⟨B4, 0, none⟩) hB45.1).trans c4) ((hW.cell (p := ⟨B5, 0, none⟩) hB45.2.1).trans c5) hJ0
  have hs2 := bel2.size
  clear b0 b1 b2 b3 b4 b5 c4 c5 g1 g2 g3 g4 g5 sz2
  refine with_act (fun A hA => ?_)
  refine wpIn_rangeFunc_ownH rfl (by omega) (gf := 151) (lb := #[.pointer (some ⟨B4, 0, none⟩), .pointer (some ⟨B5, 0, none⟩)]) (by rw [hA]; rfl) trivial (enters_of Tryz.func151 (by kernel_rfl) rfl) hseq Kp2.trans
    (fun W l o o' hl ho _ _ => ⟨World.putObj_heap_other (by omega), World.putObj_heap_other (by omega)⟩) (Below.refl _ _) (fun _ => rfl)
    (fun pre W => Pi w W2.heap.size B0 B1 B2 B3 e q p (plst b off e q p n tx pre) W)
    (fun c pre W => False)
    (fun pre X Y row hs hg hr => hs.non bel2.size hg hr)
    (fun c pre X Y row hs hg hr => hs)
    P2
    (fun x a' W => a' = { tmps := (A.tmps.setIfInBounds 13 (ckv b off n x)).setIfInBounds 10 (ckv b off n x), defers := [] })
    (fun x a' _ X Y row hs hg hr => hs)
    ?assign ?body ?done ?stop
  case assign =>
    subst hA
    rintro lp pre x W K hI hK
    gi_wp2
    refine hK _ _ (KeepsFrom.refl _ _) ⟨rfl, rfl⟩ hI ?_
    simp only [List.setIfInBounds_toArray, List.set_cons_zero, List.set_cons_succ]
  case body =>
    subst hA
    rintro lp pre x a' W hlp _ hI ha hlt'
    simp only [List.setIfInBounds_toArray, List.set_cons_zero, List.set_cons_succ, ckv] at ha
    subst ha
    obtain ⟨b0, b1, b2, ⟨v, b3, ho⟩, bel, hsz⟩ := hI
    have hpl := plst_length b off e q p n tx pre
    have HSN := hid (plst_snoc b off e q p n tx pre x)
    rw [hpl] at ho
    obtain ⟨av, cv, rfl, hvc, hvm, hva⟩ := own_slice ho
    generalize plst b off e q p n tx pre = L at *
    obtain ⟨m, Hm⟩ : ∃ m, Hid (pre.length = m) := ⟨_, rfl⟩
    rw [Hm.out] at ho hvc hlt' HSN hpl b3
    obtain ⟨i, hi, hz0, hz1, hz2⟩ := info_parts infoS
    have c0 := b0.cell
    have c1 := b1.cell
    have c2 := b2.cell
    have c3 := b3.cell
    obtain ⟨pj, Hpj⟩ : ∃ pj : Nat, Hid (p + m = pj) := ⟨_, rfl⟩
    have hpj : (p : Int) + (m : Int) = (pj : Int) := by have := Hpj.out; omega
    have hpj2 : pj ≤ 20000 := by have := Hpj.out; omega
    obtain ⟨ox, Hox⟩ : ∃ ox, Hid (off + 480 * x = ox) := ⟨_, rfl⟩
    obtain ⟨mn, Hmn⟩ : ∃ mn, Hid (min 480 (n - 480 * x) = mn) := ⟨_, rfl⟩
    have HSN2 : Hid (plst b off e q p n tx (pre ++ [x]) = L ++ [⟨⟨t2, e, q, pj, pce tx x⟩, some ⟨b, ox, none⟩, mn, mn⟩]) := by
      show _ = _
      rw [HSN.out]
      unfold pent
      rw [Hpj.out, Hox.out, Hmn.out]
    rw [Hox.out, Hmn.out]
    have ho2 : (W.alloc (.cells #[.string t2, .int .i64 e, .int .i64 q, .int .i64 pj, .slice (some ⟨b, ox, none⟩) mn mn] 40)).ownsRow W2.heap.size 40 5 (.slice av m cv) m (scs L) := own_at' ho (fun g eg => by
      obtain ⟨cur, hc⟩ := own_ty ho eg
      exact Below.heap_alloc _ _ _ (Array.getElem?_eq_some_iff.1 hc).1)
    have mn0 := Sm.new W t2 e q pj (.slice (some ⟨b, ox, none⟩) mn mn)
    have hwsz : W2.heap.size ≤ (W.alloc (.cells #[.string t2, .int .i64 e, .int .i64 q, .int .i64 pj, .slice (some ⟨b, ox, none⟩) mn mn] 40)).heap.size := by rw [World.size_alloc]; omega
    have HT2 : Hid ((⟨#[67, 86, 68, 49]⟩ : ByteArray) = t2) := rfl
    have HMN := hid mn0
    have HO2 := hid ho2
    have HWS := hid hwsz
    clear mn0 ho2 hwsz
    gi_wp2_with (gi_at_builtin; refine wpListIn_append_own _ rfl _ _ 121 rfl W2.heap.size 40 i _ 5 64 Tryz.underlying121 hi hz0 hz1 hz2 rfl (by decide) (.slice av m cv) m (scs L) rfl (by exact HO2.out) ⟨W.heap.size, 0, none⟩ 1 1 [.string t2, .int .i64 e, .int .i64 q, .int .i64 pj, .slice (some ⟨b, ox, none⟩) mn mn] rfl rfl ?c1 ?c2 (by unfold maxLen at *; omega) (by omega) (by exact HWS.out) ?_)
    case c1 =>
      intro j u hj
      rw [Addr.add_lit, Nat.zero_add]
      match j, hj with
      | 0, hj => simp at hj; subst hj; exact HMN.out.c0
      | 1, hj => simp at hj; subst hj; exact HMN.out.c1
      | 2, hj => simp at hj; subst hj; exact HMN.out.c2
      | 3, hj => simp at hj; subst hj; exact HMN.out.c3
      | 4, hj => simp at hj; subst hj; exact HMN.out.c4
      | j + 5, hj => simp at hj
    case c2 =>
      intro u hu
      simp at hu
      rcases hu with rfl | rfl | rfl | rfl | rfl <;> rfl
    intro v' w1 hown hg hv
    obtain ⟨a7, c7, rfl, _, _, _⟩ := own_slice hown
    clear hv
    have gal : W.grownBy (W.alloc (.cells #[.string t2, .int .i64 e, .int .i64 q, .int .i64 pj, .slice (some ⟨b, ox, none⟩) mn mn] 40)) none := World.grownBy_alloc W _ _
    have hnb : ∀ k, (Value.slice av m cv).ownBlock = some k → W2.heap.size ≤ k := fun k ek => (ho.lt k ek).1
    have kp : ∀ k, k < W2.heap.size → w1.heap[k]? = W.heap[k]? := fun k hk => (hg.block k (by rw [World.size_alloc]; omega) (fun ek => by have := hnb k ek.symm; omega)).trans (Below.heap_alloc _ _ _ (by omega))
    have x0 : Boxed w1 B0 3 (.int .i64 e) := (kp B0 (by omega)).trans b0
    have x1 : Boxed w1 B1 3 (.int .i64 q) := (kp B1 (by omega)).trans b1
    have x2 : Boxed w1 B2 3 (.int .i64 p) := (kp B2 (by omega)).trans b2
    have x3 : Boxed w1 B3 121 (.slice av m cv) := (kp B3 hB3).trans b3
    have y3 := x3.cell
    have f3 := x3.frozen
    have sz1 : W2.heap.size ≤ w1.heap.size := by have := hg.size; rw [World.size_alloc] at this; omega
    have HKF : Hid (KeepsFrom W2.heap.size W w1) := by
      refine (KeepsOthers.alloc W _).from _ |>.trans (KeepsOthers.of_grownBy hg (fun j o ej hj => ?_) |>.from _)
      obtain ⟨cur, hc⟩ := own_ty HO2.out ej
      have h2 : some o = some (Obj.cells cur 40 (0, 0)) := hj.symm.trans hc
      cases h2
      rfl
    have HFIN : Hid (Pi w W2.heap.size B0 B1 B2 B3 e q p (plst b off e q p n tx (pre ++ [x])) (w1.setCell ⟨B3, 0, none⟩ (.slice a7 (m + 1) c7))) := by
      show Pi _ _ _ _ _ _ _ _ _ _ _
      rw [HSN2.out]
      refine ⟨x0.other (by omega) _, x1.other (by omega) _, x2.other (by omega) _, ⟨_, x3.set _, ?_⟩, ?_, by simpa using sz1⟩
      · rw [List.length_append, hpl, scs_app]
        refine own_at' hown (fun g eg => Below.heap_setCell _ _ _ _ (fun e2 => ?_))
        have h1 := (hown.lt g eg).1
        simp only at e2
        omega
      · refine Below.setCell (bel.trans ⟨hg.os.trans gal.os, hg.tape.trans gal.tape, hg.output.trans gal.output, Nat.le_trans gal.size hg.size, fun k hk => kp k (by have := bel2.size; omega)⟩) ?_ _
        show w.heap.size ≤ B3
        omega
    have HK4 : Hid (Kp2 B4 B5 W (w1.setCell ⟨B3, 0, none⟩ (.slice a7 (m + 1) c7))) := ⟨(Below.heap_setCell _ _ _ _ (by show B4 ≠ B3; omega)).trans (kp B4 (by omega)), (Below.heap_setCell _ _ _ _ (by show B5 ≠ B3; omega)).trans (kp B5 (by omega))⟩
    have HKG := hid (HKF.out.trans ((KeepsOthers.setCell w1 ⟨B3, 0, none⟩ (.slice a7 (m + 1) c7)).from _))
    clear hg hown kp x0 x1 x2 x3 b0 b1 b2 b3 bel HKF ho c0 c1 c2 c3
    gi_wp2
    exact ⟨HKG.out, HK4.out, HFIN.out⟩
  case done =>
    subst hA
    rintro D ys W hD hys hI hK
    subst hys
    obtain ⟨b0, b1, b2, ⟨v, b3, ho⟩, bel, hsz⟩ := hI
    have c3 := b3.cell
    rw [plst_length, List.length_range] at ho
    have HO := hid ho
    have HBEL := hid bel
    clear ho b0 b1 b2 bel
    gi_wp2
    refine ⟨by simp, .inl ⟨_, _, rfl, run_takeDeferred hK, ?_⟩⟩
    have BF := HBEL.out.trans (belowK_b (w := w) (Nat.le_refl _) _ D _ (.deferred none) (by omega) hK rfl rfl)
    refine ⟨v, ?_, ⟨_, rfl, ?_, BF⟩⟩
    · simp [results, Tryz.f88, go_sem]
    · exact own_mono (own_non (B := 0) HO.out (grownBy_putObj' _ D (.deferred none)) (fun r er => by cases er; exact ⟨Nat.zero_le _, _, hK, rfl⟩)) (by have := bel2.size; omega)
  case stop =>
    rintro D c pre W hD _ hf
    exact hf.elim
end Go.Proofs.YtjajcbjodokfnaaGreatDoor
