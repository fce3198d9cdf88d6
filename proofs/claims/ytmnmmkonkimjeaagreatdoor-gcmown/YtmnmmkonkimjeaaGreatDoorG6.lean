import Derived.Test.YtmnmmkonkimjeaaGreatDoorG4
import Derived.Test.YtmnmmkonkimjeaaGreatDoorRefT
namespace Go.Proofs.YtmnmmkonkimjeaaGreatDoor
open Go.RowKit
set_option linter.unusedVariables false
set_option maxRecDepth 100000

/-- A list of one's own at the head of block g. -/
def Ob (w : World) (B g p cap : Nat) (xs : List Nat) : Prop := w.ownsRow B 5 1 (.slice (some ⟨g, 0, none⟩) p cap) p (cells (ic xs))
theorem Ob.blk {w : World} {B g p cap : Nat} {xs : List Nat} (h : Ob w B g p cap xs) : B ≤ g ∧ ∃ cur, w.heap[g]? = some (.cells cur 5 (0, 0)) := by
  obtain ⟨h1, h2⟩ := h
  rcases h2 with ⟨e, _⟩ | ⟨g', cap', cur, e, hb, hg, _⟩
  · simp at e
  · simp at e
    obtain ⟨rfl, rfl⟩ := e
    exact ⟨hb, cur, hg⟩
theorem Ob.lt {w : World} {B g p cap : Nat} {xs : List Nat} (h : Ob w B g p cap xs) : g < w.heap.size := by
  obtain ⟨_, cur, hg⟩ := h.blk
  exact (Array.getElem?_eq_some_iff.1 hg).1
theorem Ob.at {w w' : World} {B g p cap : Nat} {xs : List Nat} (h : Ob w B g p cap xs) (e : w'.heap[g]? = w.heap[g]?) : Ob w' B g p cap xs := by
  unfold Ob at *
  obtain ⟨h1, h2⟩ := h
  refine ⟨h1, ?_⟩
  rcases h2 with h2 | ⟨g', cap', cur, e', hb, hg, r⟩
  · exact .inl h2
  · refine .inr ⟨g', cap', cur, e', hb, ?_, r⟩
    simp at e'
    obtain ⟨rfl, rfl⟩ := e'
    rw [e]; exact hg
theorem Ob.kept {w w' : World} {B g p cap : Nat} {xs : List Nat} (h : Ob w B g p cap xs) (hb : Below w.heap.size w w') : Ob w' B g p cap xs := h.at (hb.block g h.lt)
theorem Ob.alloc {w : World} {B g p cap : Nat} {xs : List Nat} (h : Ob w B g p cap xs) (o : Obj) : Ob (w.alloc o) B g p cap xs := h.at (Below.heap_alloc _ _ _ h.lt)
theorem Ob.grown {w w' : World} {B g g' p cap : Nat} {xs : List Nat} (h : Ob w B g p cap xs) (hg : w.grownBy w' (some g')) (hn : g ≠ g') : Ob w' B g p cap xs := h.at (hg.block g h.lt (fun e => hn (Option.some.inj e)))
theorem Ob.omid {w : World} {B g g' p cap : Nat} {xs : List Nat} (h : Ob w B g p cap xs) (hn : g ≠ g') (o : Nat) (vs : List Value) : Ob (w.setCells g' o vs) B g p cap xs := h.at (heap_setCells_other g' g hn _ _ _)
theorem Ob.drew {w : World} {B g p cap : Nat} {xs : List Nat} (h : Ob w B g p cap xs) : Ob w.drew B g p cap xs := h
theorem Ct.drew {w : World} {g n : Nat} (h : Ct w g n) : Ct w.drew g n := h
theorem Ct.grown {w w' : World} {g g' n : Nat} (h : Ct w g n) (hg : w.grownBy w' (some g')) (hn : g ≠ g') : Ct w' g n := by
  have := h.lt
  unfold Ct at *; rw [hg.block g this (fun e => hn (Option.some.inj e))]; exact h
theorem st_take {k : Nat → Nat} {nz t : List Nat} {p mm : Nat} : (st k nz t).take p ++ ((st k nz t).drop p).take mm = (st k nz t).take (p + mm) := by
  rw [List.take_add]
theorem run_front (t n e : Nat) (hu : Tryz.prog.underlying t = some (.array n e)) (hs : (Tryz.prog.info? e).map (·.size) = some 1) (g m : Nat) (hm : m ≤ n) (hn : 0 < n) (w : World) :
    (Instr.sliceAt t (.pointer (some ⟨g, 0, none⟩)) none (some (.int .i64 (m : Int))) none).run Tryz.prog w = .ok (.slice (some ⟨g, 0, none⟩) m n) w := by
  have h1 : (0 : Int) ≤ (m : Int) ∧ (m : Int) ≤ (n : Int) := by omega
  have h2 : (0 : Int) ≤ 0 ∧ (0 : Int) ≤ (m : Int) := by omega
  have e1 : ((m : Int)).toNat = m := by omega
  have e3 : ¬ n = 0 := by omega
  simp only [Instr.sliceAt, Sem.run_bind, run_underlying hu, Result.andThen_ok, Instr.sureAddr, Sem.run_pure, Instr.sliceBounds, Instr.sliceBound, asIntOf, if_pos h1, e1, run_sizeOf hs, if_neg e3, Addr.add_mid, Nat.zero_add, Nat.mul_one, Nat.sub_zero]
set_option maxHeartbeats 2000000 in
theorem hide_ (gc : Nat) (k : Nat → Nat) (nz : List Nat) (a : Option Addr) (n cap : Nat) (t : List Nat) (w : World) (cc : Cp w gc k) (hk : ∀ j, k j < 256) (hl : nz.length = 12) (hy : ∀ x ∈ nz, x < 256) (hb : Bs w a n (ic t)) (hnc : n ≤ cap) (hcm : cap ≤ maxLen) (hyt : ∀ x ∈ t, x < 256) (hn : n ≤ 65536) :
    Calls Tryz.prog 17 #[.agg (sv gc (fb nz)), .slice a n cap] w fun e w' => ∃ g, e = .returned (.slice (some ⟨g, 0, none⟩) n (n + 16)) ∧ Ob w' w.heap.size g n (n + 16) (st k nz t) ∧ Below w.heap.size w w' := by
  obtain ⟨i, hi, hz0, hz1, hz2⟩ := info_parts info5
  have hgl := cc.lt
  have HTL : Hid (t.length = n) := by have := hb.1; rw [ic_length] at this; exact this
  have HB := hid hb
  unfold maxLen at hcm
  obtain ⟨S0, B0⟩ := snew w gc (fb nz)
  have cc := cc.kept B0
  have ks := fun w => stream_ gc (fb nz) w
  have kn := fun gs gn x w S0 C0 cc hx hne => stream1_ gs gn gc x k nz w S0 C0 cc hk hl hy hx hne
  obtain ⟨f, Hf⟩ : ∃ f, Hid (fb nz = f) := ⟨_, rfl⟩
  simp only [Hf.out] at ks kn
  rw [Hf.out] at S0 B0 cc ⊢
  have HK := hid hk
  have HY := hid hy
  have HYT := hid hyt
  clear hk hy hyt hb hl
  go_enter Tryz.func17, Tryz.ntmps17
  go_wp2_with (first | (at_make; refine wpList_make_own _ rfl _ _ 22 rfl w.heap.size 5 i (.int .u8 0) 1 Tryz.underlying22 hi hz0 hz1 .i64 .i64 _ (n + 16) rfl rfl (by omega) (by rw [hz2]; omega) (by unfold maxLen; omega) (by simp) ?_; intro w2 hown hg2; have g2 := below_of_grown hg2; have S0 := S0.kept g2; have cc := cc.kept g2; have B0 := bel_bel B0 B0.size g2; clear hg2 g2) | (refine wpList_lds rfl _ rfl w.heap.size rfl gc f (by with_reducible exact S0) ?_))
  simp only [World.size_alloc] at hown ⊢
  have O0 : Ob w2 w.heap.size (w.heap.size + 1) 0 (n + 16) [] := hown
  have hgs := O0.lt
  clear hown hi hz0 hz1 hz2
  refine (ks _).mono ?_
  rintro e w3 ⟨rfl, S1, C1, g2⟩
  have O0 := O0.kept g2
  have cc := cc.kept g2
  have B0 := bel_bel B0 B0.size g2
  have B0s := B0.size
  clear g2 ks S0
  generalize w2.heap.size = gs at *
  go_wp2_with fail
  go_loopw [1, 5] (fun v o wr => ∃ (r p m c : Nat) (a' : Option Addr), p + m = n ∧ (m = 0 ∨ p = 16 * r) ∧ r ≤ n ∧ m ≤ c ∧ c ≤ 9223372036854775807 ∧ v = .slice a' m c ∧ o = .slice (some ⟨w.heap.size + 1, 0, none⟩) p (n + 16) ∧ Bs w a' m (ic (t.drop p)) ∧ Ob wr w.heap.size (w.heap.size + 1) p (n + 16) ((st k nz t).take p) ∧ Se wr gs gc f ∧ Ct wr (gs + 1) (2 + r) ∧ Cp wr gc k ∧ Below w.heap.size w wr) (fun v _ _ => match v with | .slice _ m _ => m | _ => 0)
  case atStart => exact ⟨0, 0, n, cap, a, by omega, .inr rfl, by omega, hnc, by omega, rfl, rfl, by rw [List.drop_zero]; exact HB.out, O0, S1, C1, cc, B0⟩
  case round =>
    clear O0 S1 C1 cc B0 HB
    obtain ⟨r, p, m, c, a', hpm, hmp, hrn, hmc, hcc, rfl, rfl, hb, o0, s0, c0, cc, b0⟩ := hrel
    have HPM := hid hpm
    by_cases hlt : 0 < m
    · have hlI : (0 : Int) < (m : Int) := by omega
      have hp : p = 16 * r := by omega
      obtain ⟨mm, emm, hmm, hm16, hor⟩ := min_le m
      have hyd : ∀ x ∈ t.drop p, x < 256 := fun x hx => HYT.out x (List.mem_of_mem_drop hx)
      have hv := bl_lt HK.out (cb_lt HY.out (2 + r)) 14
      have kf := fun w hb => firstBlock_ a' m c mm (t.drop p) w hb (by unfold maxLen; omega) emm
      have kx := fun w => xor16_ (fb (t.drop p)) (bl k (cb nz (2 + r)) 14) w (fun i _ => fb_lt hyd i) hv
      have knr := fun w S C cc => kn gs (gs + 1) (2 + r) w S C cc (by omega) (by omega)
      have HX : Hid (∀ i, i < mm → xr (fb (t.drop p)) (bl k (cb nz (2 + r)) 14) i = (((st k nz t).drop p).take mm).getD i 0) := fun i hi => by
        rw [hp, st_blk k nz t r i (by omega) (by rw [HTL.out]; omega)]
        simp only [List.getD, List.getElem?_take, if_pos hi, List.getElem?_drop]
      have HLL : Hid ((((st k nz t).drop p).take mm).length = mm) := by
        show _ = _
        rw [List.length_take, List.length_drop, st_length, HTL.out]; omega
      have HLY : Hid (∀ x ∈ ((st k nz t).drop p).take mm, x < 256) := fun x hx => st_lt HK.out HY.out HYT.out x (List.mem_of_mem_drop (List.mem_of_mem_take hx))
      have HST : Hid ((st k nz t).take p ++ ((st k nz t).drop p).take mm = (st k nz t).take (p + mm)) := st_take
      obtain ⟨a2', ha2, hb2⟩ : ∃ a2', (if c = mm then a' else Option.map (fun x => x.add mm) a') = a2' ∧ Bs w a2' (m - mm) (ic (t.drop (p + mm))) := by
        refine ⟨_, rfl, ?_⟩
        have := bs_rest hb hmc hmm
        rwa [List.drop_drop] at this
      have H2 : Hid (Bs w a2' (m - mm) (ic (t.drop (p + mm)))) := hb2
      have hbr := hb.below b0
      have HOR : Hid (m - mm = 0 ∨ p + mm = 16 * (r + 1)) := by show _ ∨ _; omega
      have HMM : Hid (0 < mm) := by show 0 < mm; omega
      generalize xr (fb (t.drop p)) (bl k (cb nz (2 + r)) 14) = xx at *
      generalize bl k (cb nz (2 + r)) 14 = sb at *
      generalize fb (t.drop p) = blk at *
      have hgn := c0.lt
      have HRN : Hid (r + 1 ≤ n) := by show _ ≤ _; omega
      clear hv hyd hb hb2 emm hor hp hmp hpm hrn
      go_wp2_with fail
      refine (kf _ hbr).mono ?_
      rintro e w4 ⟨rfl, g2⟩
      have o0 := o0.kept g2
      have s0 := s0.kept g2
      have c0 := c0.kept g2
      have cc := cc.kept g2
      have b0 := bel_bel b0 b0.size g2
      have hgb := c0.lt
      clear g2 kf hbr
      have o0 := o0.alloc (.cells (rw8 16 blk) 63)
      have s0 := s0.alloc (.cells (rw8 16 blk) 63)
      have c0 := c0.alloc (.cells (rw8 16 blk) 63)
      have cc := cc.alloc (.cells (rw8 16 blk) 63)
      have a3 := Rw.new w4 63 16 blk
      have b0 := b0.alloc b0.size (.cells (rw8 16 blk) 63)
      go_wp2_with (first | (refine wpList_al rfl _ rfl 16 (by exact zeroa) ?_) | (refine wpList_stnr rfl rfl _ _ rfl _ _ blk rfl rfl rfl (by simp [rw8_size]) ?_))
      generalize w4.heap.size = gb at *
      generalize w4.alloc (.cells (rw8 16 blk) 63) = w5 at *
      refine wp_region_held_drew (S := fun wx => True) (by kernel_rfl) trivial (fun hHeld => ?_)
      have o0 := o0.drew
      have s0 := s0.drew
      have c0 := c0.drew
      have cc := cc.drew
      have a3 := a3.drew
      have b0 := bel_drew1 b0
      generalize w5.drew = wd at *
      refine take_to 1 24 (.func (.func 113) #[] #[.pointer (some ⟨gs, 0, none⟩), .pointer (some ⟨gs + 1, 0, none⟩)]) rfl rfl (by kernel_rfl) (by kernel_rfl) (by kernel_rfl) (fun _ _ _ h => h) (Or.inl ⟨by rfl, fun w' _ => ?_⟩) hHeld ?_
      · go_simp
      try simp only [List.setIfInBounds_toArray, List.set_cons_zero, List.set_cons_succ]
      refine wpAnyH_ready (rs := [0, 2]) (by kernel_rfl) (by simp) ?_
      refine AllReadyH.cons rfl (fun K hK => ?_) (AllReadyH.cons rfl (fun K hK => ?_) AllReadyH.nil)
      · rw [if_pos (by rfl)]
        refine wp_ldw (some 23) rfl _ _ rfl _ rfl _ 16 _ (by with_reducible exact a3) _ under16 rfl size16 ?_
        refine hK.out _ _ trivial (fun hHeld => ?_)
        clear hK K
        try simp only [Act.put, List.setIfInBounds_toArray, List.set_cons_zero, List.set_cons_succ]
        refine wpAnyH_ready (rs := [2]) (by kernel_rfl) (by simp) ?_
        refine AllReadyH.cons rfl (fun K hK => ?_) AllReadyH.nil
        rw [if_pos (by rfl)]
        go_wp2_with fail
        refine (knr _ s0 c0 cc).mono ?_
        rintro e wa ⟨rfl, C1, g2⟩
        have o0 := o0.grown g2 (by omega)
        have s0 := s0.grown g2 (by omega)
        have cc := cc.grown g2 (by omega)
        have a3 := a3.grown g2 (by omega)
        have c0 := C1
        have b0 := bel_grown b0 b0.size (by omega) g2
        clear g2 hHeld C1
        try go_wp2_with fail
        refine hK.out _ _ trivial (fun hHeld => ?_)
        clear hK K
        try simp only [Act.put, List.setIfInBounds_toArray, List.set_cons_zero, List.set_cons_succ]
        refine wpAnyH_ready (rs := [3]) (by kernel_rfl) (by simp) ?_
        refine AllReadyH.cons rfl (fun K hK => ?_) AllReadyH.nil
        rw [if_pos (by rfl)]
        go_wp2_with fail
        refine (kx _).mono ?_
        rintro e wb ⟨rfl, g2⟩
        have o0 := o0.kept g2
        have s0 := s0.kept g2
        have c0 := c0.kept g2
        have cc := cc.kept g2
        have a3 := a3.kept g2
        have b0 := bel_bel b0 b0.size g2
        clear g2 hHeld
        try go_wp2_with fail
        refine hK.out _ _ trivial (fun hHeld => ?_)
        clear hK K
        try simp only [Act.put, List.setIfInBounds_toArray, List.set_cons_zero, List.set_cons_succ]
        refine wpAnyH_ready (rs := [4]) (by kernel_rfl) (by simp) ?_
        refine AllReadyH.cons rfl (fun K hK => ?_) AllReadyH.nil
        rw [if_pos (by rfl)]
        refine wp_stm rfl _ _ _ rfl (gb) 0 rfl 16 xx rfl _ _ _ (by with_reducible exact a3) (by omega) size16 ?_
        have o0 := o0.omid (g' := gb) (by omega) 0 (rw8 16 xx).toList
        have s0 := s0.omid (g' := gb) (by omega) 0 (rw8 16 xx).toList
        have c0 := c0.omid (g' := gb) (by omega) 0 (rw8 16 xx).toList
        have cc := cc.omid (g' := gb) (by omega) 0 (rw8 16 xx).toList
        have a3 := a3.whole xx
        have b0 := bel_cells (B := w.heap.size) (g := gb) (by omega) (rw8 16 xx).toList 0 _ b0
        refine hK.out _ _ trivial (fun hHeld => ?_)
        clear hK K
        try simp only [Act.put, List.setIfInBounds_toArray, List.set_cons_zero, List.set_cons_succ]
        generalize wb.setCells (gb) 0 (rw8 16 xx).toList = we at *
        refine wpAnyH_done (by kernel_rfl) ?_ _
        clear hHeld kx knr
        have L1 := (a3.bs 0 mm (((st k nz t).drop p).take mm) (by omega) HLL.out HLY.out (fun i hi => by rw [Nat.zero_add]; exact HX.out i hi)).src1 (grown_self _ none)
        have L2 : (cells (ic (((st k nz t).drop p).take mm))).length = mm * 1 := by rw [cells_length, ic_length, HLL.out, Nat.mul_one]
        have L3 := cells_one (ic (((st k nz t).drop p).take mm))
        obtain ⟨ps, Hps⟩ : ∃ ps, Hid (cells (ic (((st k nz t).drop p).take mm)) = ps) := ⟨_, rfl⟩
        rw [Hps.out] at L1 L2 L3
        have HL1 := hid L1
        have HL2 := hid L2
        have HL3 := hid L3
        have HO0 := hid o0
        have HP2 : p + mm ≤ n + 16 := by have := HPM.out; omega
        clear L1 L2 L3 o0 a3
        obtain ⟨i, hi, hz0, hz1, hz2⟩ := info_parts info5
        have hsl := fun w => run_front 63 16 5 under16 size1 gb mm hm16 (by omega) w
        go_wp2_with (at_builtin; refine wpList_append_fits _ rfl _ _ 22 rfl w.heap.size 5 i 1 Tryz.underlying22 hi hz1 (w.heap.size + 1) p (n + 16) _ rfl HO0.out ⟨gb, 0, none⟩ mm 16 ps rfl HL2.out HL1.out HL3.out HP2 ?_; intro w6 hown hg; have s0 := s0.grown hg (by omega); have c0 := c0.grown hg (by omega); have cc := cc.grown hg (by omega); have b0 := bel_grown b0 b0.size (by omega) hg; clear hg hi hz0 hz1 hz2 hsl)
        have o0 : Ob w6 w.heap.size (w.heap.size + 1) (p + mm) (n + 16) ((st k nz t).take (p + mm)) := by
          rw [← Hps.out, ← cells_append, ← ic_append, HST.out] at hown
          exact hown
        go_roundw
        case rel => exact ⟨r + 1, p + mm, m - mm, c - mm, a2', by have := HPM.out; omega, HOR.out, HRN.out, by omega, by omega, rfl, rfl, H2.out, o0, s0, c0, cc, b0⟩
        case measure => show m - mm < m; have := HMM.out; omega
      · rw [if_pos (by rfl)]
        go_wp2_with fail
        refine (knr _ s0 c0 cc).mono ?_
        rintro e wa ⟨rfl, C1, g2⟩
        have o0 := o0.grown g2 (by omega)
        have s0 := s0.grown g2 (by omega)
        have cc := cc.grown g2 (by omega)
        have a3 := a3.grown g2 (by omega)
        have c0 := C1
        have b0 := bel_grown b0 b0.size (by omega) g2
        clear g2 hHeld C1
        try go_wp2_with fail
        refine hK.out _ _ trivial (fun hHeld => ?_)
        clear hK K
        try simp only [Act.put, List.setIfInBounds_toArray, List.set_cons_zero, List.set_cons_succ]
        refine wpAnyH_ready (rs := [0]) (by kernel_rfl) (by simp) ?_
        refine AllReadyH.cons rfl (fun K hK => ?_) AllReadyH.nil
        rw [if_pos (by rfl)]
        refine wp_ldw (some 23) rfl _ _ rfl _ rfl _ 16 _ (by with_reducible exact a3) _ under16 rfl size16 ?_
        refine hK.out _ _ trivial (fun hHeld => ?_)
        clear hK K
        try simp only [Act.put, List.setIfInBounds_toArray, List.set_cons_zero, List.set_cons_succ]
        refine wpAnyH_ready (rs := [3]) (by kernel_rfl) (by simp) ?_
        refine AllReadyH.cons rfl (fun K hK => ?_) AllReadyH.nil
        rw [if_pos (by rfl)]
        go_wp2_with fail
        refine (kx _).mono ?_
        rintro e wb ⟨rfl, g2⟩
        have o0 := o0.kept g2
        have s0 := s0.kept g2
        have c0 := c0.kept g2
        have cc := cc.kept g2
        have a3 := a3.kept g2
        have b0 := bel_bel b0 b0.size g2
        clear g2 hHeld
        try go_wp2_with fail
        refine hK.out _ _ trivial (fun hHeld => ?_)
        clear hK K
        try simp only [Act.put, List.setIfInBounds_toArray, List.set_cons_zero, List.set_cons_succ]
        refine wpAnyH_ready (rs := [4]) (by kernel_rfl) (by simp) ?_
        refine AllReadyH.cons rfl (fun K hK => ?_) AllReadyH.nil
        rw [if_pos (by rfl)]
        refine wp_stm rfl _ _ _ rfl (gb) 0 rfl 16 xx rfl _ _ _ (by with_reducible exact a3) (by omega) size16 ?_
        have o0 := o0.omid (g' := gb) (by omega) 0 (rw8 16 xx).toList
        have s0 := s0.omid (g' := gb) (by omega) 0 (rw8 16 xx).toList
        have c0 := c0.omid (g' := gb) (by omega) 0 (rw8 16 xx).toList
        have cc := cc.omid (g' := gb) (by omega) 0 (rw8 16 xx).toList
        have a3 := a3.whole xx
        have b0 := bel_cells (B := w.heap.size) (g := gb) (by omega) (rw8 16 xx).toList 0 _ b0
        refine hK.out _ _ trivial (fun hHeld => ?_)
        clear hK K
        try simp only [Act.put, List.setIfInBounds_toArray, List.set_cons_zero, List.set_cons_succ]
        generalize wb.setCells (gb) 0 (rw8 16 xx).toList = we at *
        refine wpAnyH_done (by kernel_rfl) ?_ _
        clear hHeld kx knr
        have L1 := (a3.bs 0 mm (((st k nz t).drop p).take mm) (by omega) HLL.out HLY.out (fun i hi => by rw [Nat.zero_add]; exact HX.out i hi)).src1 (grown_self _ none)
        have L2 : (cells (ic (((st k nz t).drop p).take mm))).length = mm * 1 := by rw [cells_length, ic_length, HLL.out, Nat.mul_one]
        have L3 := cells_one (ic (((st k nz t).drop p).take mm))
        obtain ⟨ps, Hps⟩ : ∃ ps, Hid (cells (ic (((st k nz t).drop p).take mm)) = ps) := ⟨_, rfl⟩
        rw [Hps.out] at L1 L2 L3
        have HL1 := hid L1
        have HL2 := hid L2
        have HL3 := hid L3
        have HO0 := hid o0
        have HP2 : p + mm ≤ n + 16 := by have := HPM.out; omega
        clear L1 L2 L3 o0 a3
        obtain ⟨i, hi, hz0, hz1, hz2⟩ := info_parts info5
        have hsl := fun w => run_front 63 16 5 under16 size1 gb mm hm16 (by omega) w
        go_wp2_with (at_builtin; refine wpList_append_fits _ rfl _ _ 22 rfl w.heap.size 5 i 1 Tryz.underlying22 hi hz1 (w.heap.size + 1) p (n + 16) _ rfl HO0.out ⟨gb, 0, none⟩ mm 16 ps rfl HL2.out HL1.out HL3.out HP2 ?_; intro w6 hown hg; have s0 := s0.grown hg (by omega); have c0 := c0.grown hg (by omega); have cc := cc.grown hg (by omega); have b0 := bel_grown b0 b0.size (by omega) hg; clear hg hi hz0 hz1 hz2 hsl)
        have o0 : Ob w6 w.heap.size (w.heap.size + 1) (p + mm) (n + 16) ((st k nz t).take (p + mm)) := by
          rw [← Hps.out, ← cells_append, ← ic_append, HST.out] at hown
          exact hown
        go_roundw
        case rel => exact ⟨r + 1, p + mm, m - mm, c - mm, a2', by have := HPM.out; omega, HOR.out, HRN.out, by omega, by omega, rfl, rfl, H2.out, o0, s0, c0, cc, b0⟩
        case measure => show m - mm < m; have := HMM.out; omega
    · obtain rfl : m = 0 := by omega
      have e : (st k nz t).take p = st k nz t := List.take_of_length_le (by rw [st_length, HTL.out]; omega)
      obtain rfl : p = n := by omega
      rw [e] at o0
      clear e hmp
      go_wp2_with fail
      go_ret
      exact ⟨_, rfl, o0, b0⟩
end Go.Proofs.YtmnmmkonkimjeaaGreatDoor
namespace Go.Proofs.YtmnmmkonkimjeaaGreatDoor
open Go.RowKit
set_option linter.unusedVariables false
set_option maxRecDepth 100000

theorem built0 : Tryz.prog.built 63 [] = some (av fun _ => 0) := by kernel_rfl
theorem Se.rng0 {w : World} {g gc : Nat} {f : Nat → Nat} (h : Se w g gc f) : w.rangeAt g 0 (sv gc f).toList := fun j v hv => by
  rw [Nat.zero_add, cell_of_row w g j _ _ (0, 0) h]
  simpa using hv
theorem yields_se {ops : Array Oper} {S : World → Prop} {o : Oper} {a : Act} (hw : Region.wanted o (yielded ops a.tmps) = true) (x : Operand) (ho : o.op = .load 60 x) (g gc : Nat) (f : Nat → Nat) (hx : a.eval x = .pointer (some ⟨g, 0, none⟩))
    (hS : ∀ w, S w → Se w g gc f) : YieldsIf Tryz.prog ops S o (.agg (sv gc f)) a := by
  obtain ⟨d, hu, hd⟩ := Option.map_eq_some_iff.1 unders
  have := yieldsIf_load_mid (P := Tryz.prog) (ops := ops) (S := S) hw _ x ho g 0 hx (sv gc f).toList d (fun w h => (hS w h).rng0) hu hd (by rw [Array.length_toList, sv_size]; exact sizes)
  simpa using this
set_option maxHeartbeats 2000000 in
theorem tag5_ (gc : Nat) (k : Nat → Nat) (nz : List Nat) (a2 : Option Addr) (n2 c2 : Nat) (ad : List Nat) (a3 : Option Addr) (n3 c3 : Nat) (ct : List Nat) (w : World) (cc : Cp w gc k) (hk : ∀ j, k j < 256) (hl : nz.length = 12) (hy : ∀ x ∈ nz, x < 256) (hb2 : Bs w a2 n2 (ic ad)) (hc2 : n2 ≤ c2) (hm2 : c2 ≤ maxLen) (hy2 : ∀ x ∈ ad, x < 256) (hb3 : Bs w a3 n3 (ic ct)) (hc3 : n3 ≤ c3) (hm3 : c3 ≤ maxLen) (hy3 : ∀ x ∈ ct, x < 256) (hn2 : n2 ≤ 65536) (hn3 : n3 ≤ 65536) :
    Calls Tryz.prog 18 #[.agg (sv gc (fb nz)), .slice a2 n2 c2, .slice a3 n3 c3] w fun e w' => e = .returned (.agg (rw8 16 (tg k nz ad ct))) ∧ Below w.heap.size w w' := by
  have hl2 : ad.length = n2 := by have := hb2.1; rwa [ic_length] at this
  have hl3 : ct.length = n3 := by have := hb3.1; rwa [ic_length] at this
  have z0 : ∀ i, i < 16 → (fun _ : Nat => 0) i < 256 := fun _ _ => by show 0 < 256; omega
  have hH := bl_lt hk (f := fun _ => 0) (fun _ _ => by omega) 14
  have kb := fun w cc => block8_ gc k (fun _ => 0) w cc hk (fun _ _ => by omega)
  have kl := fun w => bitLengths_ a2 a3 n2 c2 n3 c3 w hn2 hn3
  have LY : ∀ x ∈ e8 (8 * n2) ++ e8 (8 * n3), x < 256 := fun x hx => by
    rcases List.mem_append.1 hx with h | h
    · exact e8_lt _ x h
    · exact e8_lt _ x h
  have LL : (e8 (8 * n2) ++ e8 (8 * n3)).length = 16 := by rw [List.length_append, e8_length, e8_length]
  have k1 := fun w hb => fold_ (fun _ => 0) (bl k (fun _ => 0) 14) a2 n2 c2 ad w hb hc2 hm2 z0 hH hy2
  have h1 := fo_lt (h := bl k (fun _ => 0) 14) (b := ad) z0
  have k2 := fun w hb => fold_ (fo (bl k (fun _ => 0) 14) ad fun _ => 0) (bl k (fun _ => 0) 14) a3 n3 c3 ct w hb hc3 hm3 h1 hH hy3
  have h2 := fo_lt (h := bl k (fun _ => 0) 14) (b := ct) h1
  have k3 := fun g w hb => fold_ (fo (bl k (fun _ => 0) 14) ct (fo (bl k (fun _ => 0) 14) ad fun _ => 0)) (bl k (fun _ => 0) 14) (some ⟨g, 0, none⟩) 16 16 (e8 (8 * n2) ++ e8 (8 * n3)) w hb (by omega) (by unfold maxLen; omega) h2 hH LY
  have h3 := fo_lt (h := bl k (fun _ => 0) 14) (b := e8 (8 * n2) ++ e8 (8 * n3)) h2
  have kc := fun w cc => counted_ gc 1 k nz w cc hk hl hy (by omega)
  have hC := bl_lt hk (cb_lt hy 1) 14
  have kx := fun w => xor16_ _ _ w h3 hC
  have HT : Hid (xr (fo (bl k (fun _ => 0) 14) (e8 (8 * n2) ++ e8 (8 * n3)) (fo (bl k (fun _ => 0) 14) ct (fo (bl k (fun _ => 0) 14) ad fun _ => 0))) (bl k (cb nz 1) 14) = tg k nz ad ct) := by
    show _ = _
    unfold tg xr
    rw [hl2, hl3]
  rw [HT.out] at kx
  obtain ⟨f, Hf⟩ : ∃ f, Hid (fb nz = f) := ⟨_, rfl⟩
  obtain ⟨tt, Ht⟩ : ∃ f, Hid (tg k nz ad ct = f) := ⟨_, rfl⟩
  rw [Ht.out] at kx ⊢
  simp only [Hf.out] at kc
  rw [Hf.out]
  obtain ⟨E, HE⟩ : ∃ E, Hid (e8 (8 * n2) ++ e8 (8 * n3) = E) := ⟨_, rfl⟩
  obtain ⟨EF, HEF⟩ : ∃ EF, Hid ((fun i => (e8 (8 * n2) ++ e8 (8 * n3)).getD i 0) = EF) := ⟨_, rfl⟩
  have HEG : Hid (∀ i, i < 16 → EF (0 + i) = E.getD i 0) := fun i _ => by rw [← HEF.out, ← HE.out, Nat.zero_add]
  rw [HEF.out] at kl
  rw [HE.out] at LL LY
  simp only [HE.out] at k3 kx h3
  have HLL := hid LL
  have HLY := hid LY
  clear hl2 hl3 h1 h2 h3 hC LL LY z0 HT
  generalize fo (bl k (fun _ => 0) 14) E (fo (bl k (fun _ => 0) 14) ct (fo (bl k (fun _ => 0) 14) ad fun _ => 0)) = s3 at *
  generalize fo (bl k (fun _ => 0) 14) ct (fo (bl k (fun _ => 0) 14) ad fun _ => 0) = s2 at *
  generalize fo (bl k (fun _ => 0) 14) ad (fun _ => 0) = s1 at *
  generalize bl k (cb nz 1) 14 = ctr at *
  generalize bl k (fun _ => 0) 14 = H at *
  have hgl := cc.lt
  obtain ⟨s0, b0⟩ := snew w gc f
  have HB2 := hid hb2
  have HB3 := hid hb3
  have a1 := Rw.new (w.alloc (.cells (sv gc f) 60)) 63 16 (fun _ => 0)
  rw [World.size_alloc] at a1
  have s0 := s0.alloc (.cells (rw8 16 fun _ => 0) 63)
  have b0 := b0.alloc (by simp) (.cells (rw8 16 fun _ => 0) 63)
  have cc := cc.kept b0
  have cp := s0.ptr
  clear hH hb2 hb3 hy2 hy3 hk hy
  go_enter Tryz.func18, Tryz.ntmps18
  go_wp2_with (first | (refine wpList_al rfl _ rfl 16 (by exact zeroa) ?_) | (refine wpList_blda rfl _ rfl [] rfl (fun _ => 0) (by exact built0) ?_))
  generalize (w.alloc (.cells (sv gc f) 60)).alloc (.cells (rw8 16 fun _ => 0) 63) = wa at *
  refine (kb _ cc).mono ?_
  rintro e w1 ⟨rfl, g2⟩
  have bs1 := a1.lt
  have s0 := s0.kept g2
  have a1 := a1.kept g2
  have cc := cc.kept g2
  have b0 := bel_bel b0 b0.size g2
  have l1 := a1.lt
  clear g2 kb cp
  have s0 := s0.alloc (.cells (rw8 16 H) 63)
  have a1 := a1.alloc (.cells (rw8 16 H) 63)
  have cc := cc.alloc (.cells (rw8 16 H) 63)
  have a2r := Rw.new w1 63 16 H
  have b0 := b0.alloc b0.size (.cells (rw8 16 H) 63)
  go_wp2_with (first | (refine wpList_al rfl _ rfl 16 (by exact zeroa) ?_) | (refine wpList_stnr rfl rfl _ _ rfl _ _ H rfl rfl rfl (by simp [rw8_size]) ?_))
  generalize w1.heap.size = gh at *
  generalize w1.alloc (.cells (rw8 16 H) 63) = w2 at *
  refine (kl _).mono ?_
  rintro e w3 ⟨rfl, g2⟩
  have s0 := s0.kept g2
  have a1 := a1.kept g2
  have cc := cc.kept g2
  have a2r := a2r.kept g2
  have b0 := bel_bel b0 b0.size g2
  have l2 := a2r.lt
  clear g2 kl
  have s0 := s0.alloc (.cells (rw8 16 EF) 63)
  have a1 := a1.alloc (.cells (rw8 16 EF) 63)
  have cc := cc.alloc (.cells (rw8 16 EF) 63)
  have a2r := a2r.alloc (.cells (rw8 16 EF) 63)
  have a3r := Rw.new w3 63 16 EF
  have b0 := b0.alloc b0.size (.cells (rw8 16 EF) 63)
  go_wp2_with (first | (refine wpList_al rfl _ rfl 16 (by exact zeroa) ?_) | (refine wpList_stnr rfl rfl _ _ rfl _ _ EF rfl rfl rfl (by simp [rw8_size]) ?_) | (refine wpList_blda rfl _ rfl [] rfl (fun _ => 0) (by exact built0) ?_) | (refine wpList_ldw rfl _ _ rfl _ rfl _ _ 16 _ (by with_reducible exact a2r) (by omega) _ (by exact under16) rfl (by exact size16) ?_))
  generalize w3.heap.size = ge at *
  generalize w3.alloc (.cells (rw8 16 EF) 63) = w4 at *
  refine (k1 _ (HB2.out.below b0)).mono ?_
  rintro e w5 ⟨rfl, g2⟩
  have s0 := s0.kept g2
  have a1 := a1.kept g2
  have cc := cc.kept g2
  have a2r := a2r.kept g2
  have a3r := a3r.kept g2
  have b0 := bel_bel b0 b0.size g2
  have l3 := a3r.lt
  clear g2 k1
  have s0 := s0.alloc (.cells (rw8 16 s1) 63)
  have a1 := a1.alloc (.cells (rw8 16 s1) 63)
  have cc := cc.alloc (.cells (rw8 16 s1) 63)
  have a2r := a2r.alloc (.cells (rw8 16 s1) 63)
  have a3r := a3r.alloc (.cells (rw8 16 s1) 63)
  have a4r := Rw.new w5 63 16 s1
  have b0 := b0.alloc b0.size (.cells (rw8 16 s1) 63)
  go_wp2_with (first | (refine wpList_al rfl _ rfl 16 (by exact zeroa) ?_) | (refine wpList_stnr rfl rfl _ _ rfl _ _ s1 rfl rfl rfl (by simp [rw8_size]) ?_) | (refine wpList_ldw rfl _ _ rfl _ rfl _ _ 16 _ (by with_reducible exact a4r) (by omega) _ (by exact under16) rfl (by exact size16) ?_) | (refine wpList_ldw rfl _ _ rfl _ rfl _ _ 16 _ (by with_reducible exact a2r) (by omega) _ (by exact under16) rfl (by exact size16) ?_))
  generalize w5.heap.size = gt at *
  generalize w5.alloc (.cells (rw8 16 s1) 63) = w6 at *
  refine (k2 _ (HB3.out.below b0)).mono ?_
  rintro e w7 ⟨rfl, g2⟩
  have s0 := s0.kept g2
  have a1 := a1.kept g2
  have cc := cc.kept g2
  have a2r := a2r.kept g2
  have a3r := a3r.kept g2
  have a4r := a4r.kept g2
  have b0 := bel_bel b0 b0.size g2
  clear g2 k2
  go_wp2_with (refine wpList_stm rfl rfl _ _ _ rfl gt 0 rfl 16 s2 rfl _ _ _ (by with_reducible exact a4r) (by omega) (by exact size16) ?_)
  have s0 := s0.omid (g' := gt) (by omega) 0 (rw8 16 s2).toList
  have a1 := a1.omid (g' := gt) (by omega) 0 (rw8 16 s2).toList
  have cc := cc.omid (g' := gt) (by omega) 0 (rw8 16 s2).toList
  have a2r := a2r.omid (g' := gt) (by omega) 0 (rw8 16 s2).toList
  have a3r := a3r.omid (g' := gt) (by omega) 0 (rw8 16 s2).toList
  have a4r := a4r.whole s2
  have b0 := bel_cells (g := gt) (by omega) (rw8 16 s2).toList 0 _ b0
  generalize w7.setCells gt 0 (rw8 16 s2).toList = w8 at *
  refine wp_region_held_drew (S := fun wx => Rw wx gh 63 16 H ∧ Rw wx ge 63 16 EF) (by kernel_rfl) ⟨a2r.drew, a3r.drew⟩ (fun hHeld => ?_)
  have s0 := s0.drew
  have a1 := a1.drew
  have cc := cc.drew
  have a2r := a2r.drew
  have a3r := a3r.drew
  have a4r := a4r.drew
  have b0 := bel_drew1 b0
  generalize w8.drew = wd at *
  refine take_to 1 26 (.agg (rw8 16 H)) rfl rfl (by kernel_rfl) (by kernel_rfl) (by kernel_rfl) (fun _ _ _ h => h) (yields_rng (by rfl) _ _ rfl (gh) 0 16 _ rfl (fun w' h => h.1.rng0) _ under16 rfl size16) hHeld ?_
  try simp only [List.setIfInBounds_toArray, List.set_cons_zero, List.set_cons_succ]
  refine take_to 2 27 (.slice (some ⟨ge, 0, none⟩) 16 16) rfl rfl (by kernel_rfl) (by kernel_rfl) (by kernel_rfl) (fun _ _ _ h => h) (Or.inl ⟨by rfl, fun w' _ => ?_⟩) hHeld ?_
  · go_simp
  try simp only [List.setIfInBounds_toArray, List.set_cons_zero, List.set_cons_succ]
  refine wpAnyH_ready (rs := [0]) (by kernel_rfl) (by simp) ?_
  refine AllReadyH.cons rfl (fun K hK => ?_) AllReadyH.nil
  rw [if_pos (by rfl)]
  refine wp_ldw (some 25) rfl _ _ rfl _ rfl _ 16 _ (by with_reducible exact a4r) _ under16 rfl size16 ?_
  refine hK.out _ _ ⟨a2r, a3r⟩ (fun hHeld => ?_)
  clear hK K
  try simp only [Act.put, List.setIfInBounds_toArray, List.set_cons_zero, List.set_cons_succ]
  refine wpAnyH_ready (rs := [3]) (by kernel_rfl) (by simp) ?_
  refine AllReadyH.cons rfl (fun K hK => ?_) AllReadyH.nil
  rw [if_pos (by rfl)]
  go_wp2_with fail
  refine (k3 ge _ (a3r.bs 0 16 E (by omega) HLL.out HLY.out HEG.out)).mono ?_
  rintro e wx ⟨rfl, g2⟩
  have s0 := s0.kept g2
  have a1 := a1.kept g2
  have cc := cc.kept g2
  have a2r := a2r.kept g2
  have a3r := a3r.kept g2
  have a4r := a4r.kept g2
  have b0 := bel_bel b0 b0.size g2
  clear g2 hHeld
  try go_wp2_with fail
  refine hK.out _ _ ⟨a2r, a3r⟩ (fun hHeld => ?_)
  clear hK K
  try simp only [Act.put, List.setIfInBounds_toArray, List.set_cons_zero, List.set_cons_succ]
  refine wpAnyH_ready (rs := [4]) (by kernel_rfl) (by simp) ?_
  refine AllReadyH.cons rfl (fun K hK => ?_) AllReadyH.nil
  rw [if_pos (by rfl)]
  refine wp_stm rfl _ _ _ rfl (gt) 0 rfl 16 s3 rfl _ _ _ (by with_reducible exact a4r) (by omega) size16 ?_
  have s0 := s0.omid (g' := gt) (by omega) 0 (rw8 16 s3).toList
  have a1 := a1.omid (g' := gt) (by omega) 0 (rw8 16 s3).toList
  have cc := cc.omid (g' := gt) (by omega) 0 (rw8 16 s3).toList
  have a2r := a2r.omid (g' := gt) (by omega) 0 (rw8 16 s3).toList
  have a3r := a3r.omid (g' := gt) (by omega) 0 (rw8 16 s3).toList
  have a4r := a4r.whole s3
  have b0 := bel_cells (B := w.heap.size) (g := gt) (by omega) (rw8 16 s3).toList 0 _ b0
  refine hK.out _ _ ⟨a2r, a3r⟩ (fun hHeld => ?_)
  clear hK K
  try simp only [Act.put, List.setIfInBounds_toArray, List.set_cons_zero, List.set_cons_succ]
  generalize wx.setCells (gt) 0 (rw8 16 s3).toList = we at *
  refine wpAnyH_done (by kernel_rfl) ?_ _
  clear hHeld k3
  go_wp2_with fail
  clear a2r a3r
  refine wp_region_held_drew (S := fun wx => Rw wx gt 63 16 s3 ∧ Se wx w.heap.size gc f) (by kernel_rfl) ⟨a4r.drew, s0.drew⟩ (fun hHeld => ?_)
  have s0 := s0.drew
  have a1 := a1.drew
  have cc := cc.drew
  have a4r := a4r.drew
  have b0 := bel_drew1 b0
  generalize we.drew = wd at *
  refine take_to 0 29 (.agg (rw8 16 s3)) rfl rfl (by kernel_rfl) (by kernel_rfl) (by kernel_rfl) (fun _ _ _ h => h) (yields_rng (by rfl) _ _ rfl (gt) 0 16 _ rfl (fun w' h => h.1.rng0) _ under16 rfl size16) hHeld ?_
  try simp only [List.setIfInBounds_toArray, List.set_cons_zero, List.set_cons_succ]
  refine take_to 1 30 (.agg (sv gc f)) rfl rfl (by kernel_rfl) (by kernel_rfl) (by kernel_rfl) (fun _ _ _ h => h) (yields_se (by rfl) _ rfl (w.heap.size) gc f rfl (fun w' h => h.2)) hHeld ?_
  try simp only [List.setIfInBounds_toArray, List.set_cons_zero, List.set_cons_succ]
  refine wpAnyH_ready (rs := [2]) (by kernel_rfl) (by simp) ?_
  refine AllReadyH.cons rfl (fun K hK => ?_) AllReadyH.nil
  rw [if_pos (by rfl)]
  go_wp2_with fail
  refine (kc _ cc).mono ?_
  rintro e wy ⟨rfl, g2⟩
  have s0 := s0.kept g2
  have a1 := a1.kept g2
  have cc := cc.kept g2
  have a4r := a4r.kept g2
  have b0 := bel_bel b0 b0.size g2
  clear g2 hHeld
  try go_wp2_with fail
  refine hK.out _ _ ⟨a4r, s0⟩ (fun hHeld => ?_)
  clear hK K
  try simp only [Act.put, List.setIfInBounds_toArray, List.set_cons_zero, List.set_cons_succ]
  refine wpAnyH_ready (rs := [3]) (by kernel_rfl) (by simp) ?_
  refine AllReadyH.cons rfl (fun K hK => ?_) AllReadyH.nil
  rw [if_pos (by rfl)]
  go_wp2_with fail
  refine (kx _).mono ?_
  rintro e wz ⟨rfl, g2⟩
  have s0 := s0.kept g2
  have a1 := a1.kept g2
  have cc := cc.kept g2
  have a4r := a4r.kept g2
  have b0 := bel_bel b0 b0.size g2
  clear g2 hHeld
  try go_wp2_with fail
  refine hK.out _ _ ⟨a4r, s0⟩ (fun hHeld => ?_)
  clear hK K
  try simp only [Act.put, List.setIfInBounds_toArray, List.set_cons_zero, List.set_cons_succ]
  refine wpAnyH_ready (rs := [4]) (by kernel_rfl) (by simp) ?_
  refine AllReadyH.cons rfl (fun K hK => ?_) AllReadyH.nil
  rw [if_pos (by rfl)]
  refine wp_stm rfl _ _ _ rfl (w.heap.size + 1) 0 rfl 16 tt rfl _ _ _ (by with_reducible exact a1) (by omega) size16 ?_
  have s0 := s0.omid (g' := w.heap.size + 1) (by omega) 0 (rw8 16 tt).toList
  have cc := cc.omid (g' := w.heap.size + 1) (by omega) 0 (rw8 16 tt).toList
  have a4r := a4r.omid (g' := w.heap.size + 1) (by omega) 0 (rw8 16 tt).toList
  have a1 := a1.whole tt
  have b0 := bel_cells (B := w.heap.size) (g := w.heap.size + 1) (by omega) (rw8 16 tt).toList 0 _ b0
  refine hK.out _ _ ⟨a4r, s0⟩ (fun hHeld => ?_)
  clear hK K
  try simp only [Act.put, List.setIfInBounds_toArray, List.set_cons_zero, List.set_cons_succ]
  generalize wz.setCells (w.heap.size + 1) 0 (rw8 16 tt).toList = wf at *
  refine wpAnyH_done (by kernel_rfl) ?_ _
  clear hHeld kc kx
  go_wp2_with fail
  refine bodyPost_ret (v := .agg (rw8 16 tt)) ?_ rfl ⟨rfl, b0⟩
  exact results_rw rfl _ _ (w.heap.size + 1) 16 tt _ rfl a1 under16 rfl size16
end Go.Proofs.YtmnmmkonkimjeaaGreatDoor
