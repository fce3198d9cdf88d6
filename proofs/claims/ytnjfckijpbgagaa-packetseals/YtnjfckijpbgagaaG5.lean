import Derived.Test.YtnjfckijpbgagaaG4
import Derived.Test.YtnjfckijpbgagaaRefT
namespace Go.Proofs.Ytnjfckijpbgagaa
set_option maxRecDepth 100000
open Go.RowKit
set_option linter.unusedVariables false

/-- A list of one's own at the head of block g. -/
def Ob (w : World) (B g p cap : Nat) (xs : List Nat) : Prop := w.ownsRow B 5 1 (.slice (some ⟨g, 0, none⟩) p cap) p (cells (ic xs))
theorem Ob.blk {w : World} {B g p cap : Nat} {xs : List Nat} (h : Ob w B g p cap xs) : B ≤ g ∧ ∃ cur, w.heap[g]? = some (.cells cur 5 (0, 0)) := by
  obtain ⟨h1, h2⟩ := h
  rcases h2 with ⟨e, _⟩ | ⟨g', cap', cur, e, hb, hg, _⟩
  · simp at e
  · simp at e
    obtain ⟨rfl, rfl⟩ := e
    exact ⟨hb, cur, hg⟩
theorem Ob.lt {w : World} {B g p cap : Nat} {xs : List Nat} (h : Ob w B g p cap xs) : g < w.heap.size := by
  obtain ⟨_, cur, hg⟩ := h.blk
  exact (Array.getElem?_eq_some_iff.1 hg).1
theorem Ob.at {w w' : World} {B g p cap : Nat} {xs : List Nat} (h : Ob w B g p cap xs) (e : w'.heap[g]? = w.heap[g]?) : Ob w' B g p cap xs := by
  unfold Ob at *
  obtain ⟨h1, h2⟩ := h
  refine ⟨h1, ?_⟩
  rcases h2 with h2 | ⟨g', cap', cur, e', hb, hg, r⟩
  · exact .inl h2
  · refine .inr ⟨g', cap', cur, e', hb, ?_, r⟩
    simp at e'
    obtain ⟨rfl, rfl⟩ := e'
    rw [e]; exact hg
theorem Ob.kept {w w' : World} {B g p cap : Nat} {xs : List Nat} (h : Ob w B g p cap xs) (hb : Below w.heap.size w w') : Ob w' B g p cap xs := h.at (hb.block g h.lt)
theorem Ob.alloc {w : World} {B g p cap : Nat} {xs : List Nat} (h : Ob w B g p cap xs) (o : Obj) : Ob (w.alloc o) B g p cap xs := h.at (Below.heap_alloc _ _ _ h.lt)
theorem Ob.grown {w w' : World} {B g g' p cap : Nat} {xs : List Nat} (h : Ob w B g p cap xs) (hg : w.grownBy w' (some g')) (hn : g ≠ g') : Ob w' B g p cap xs := h.at (hg.block g h.lt (fun e => hn (Option.some.inj e)))
theorem Ob.omid {w : World} {B g g' p cap : Nat} {xs : List Nat} (h : Ob w B g p cap xs) (hn : g ≠ g') (o : Nat) (vs : List Value) : Ob (w.setCells g' o vs) B g p cap xs := h.at (heap_setCells_other g' g hn _ _ _)
theorem Ob.drew {w : World} {B g p cap : Nat} {xs : List Nat} (h : Ob w B g p cap xs) : Ob w.drew B g p cap xs := h
theorem Ct.drew {w : World} {g n : Nat} (h : Ct w g n) : Ct w.drew g n := h
theorem Ct.grown {w w' : World} {g g' n : Nat} (h : Ct w g n) (hg : w.grownBy w' (some g')) (hn : g ≠ g') : Ct w' g n := by
  have := h.lt
  unfold Ct at *; rw [hg.block g this (fun e => hn (Option.some.inj e))]; exact h
theorem st_take {k : Nat → Nat} {nz t : List Nat} {p mm : Nat} : (st k nz t).take p ++ ((st k nz t).drop p).take mm = (st k nz t).take (p + mm) := by
  rw [List.take_add]
theorem run_front (t n e : Nat) (hu : Try.prog.underlying t = some (.array n e)) (hs : (Try.prog.info? e).map (·.size) = some 1) (g m : Nat) (hm : m ≤ n) (hn : 0 < n) (w : World) :
    (Instr.sliceAt t (.pointer (some ⟨g, 0, none⟩)) none (some (.int .i64 (m : Int))) none).run Try.prog w = .ok (.slice (some ⟨g, 0, none⟩) m n) w := by
  have h1 : (0 : Int) ≤ (m : Int) ∧ (m : Int) ≤ (n : Int) := by omega
  have h2 : (0 : Int) ≤ 0 ∧ (0 : Int) ≤ (m : Int) := by omega
  have e1 : ((m : Int)).toNat = m := by omega
  have e3 : ¬ n = 0 := by omega
  simp only [Instr.sliceAt, Sem.run_bind, run_underlying hu, Result.andThen_ok, Instr.sureAddr, Sem.run_pure, Instr.sliceBounds, Instr.sliceBound, asIntOf, if_pos h1, e1, run_sizeOf hs, if_neg e3, Addr.add_mid, Nat.zero_add, Nat.mul_one, Nat.sub_zero]
set_option maxHeartbeats 2000000 in
theorem hide_ (gc : Nat) (k : Nat → Nat) (nz : List Nat) (a : Option Addr) (n cap : Nat) (t : List Nat) (w : World) (cc : Cp w gc k) (hk : ∀ j, k j < 256) (hl : nz.length = 12) (hy : ∀ x ∈ nz, x < 256) (hb : Bs w a n (ic t)) (hnc : n ≤ cap) (hcm : cap ≤ maxLen) (hyt : ∀ x ∈ t, x < 256) (hn : n ≤ 65536) :
    Calls Try.prog 53 #[.agg (sv gc (fb nz)), .slice a n cap] w fun e w' => ∃ g, e = .returned (.slice (some ⟨g, 0, none⟩) n (n + 16)) ∧ Ob w' w.heap.size g n (n + 16) (st k nz t) ∧ Below w.heap.size w w' := by
  obtain ⟨i, hi, hz0, hz1, hz2⟩ := info_parts info5
  have hgl := cc.lt
  have HTL : Hid (t.length = n) := by have := hb.1; rw [ic_length] at this; exact this
  have HB := hid hb
  unfold maxLen at hcm
  obtain ⟨S0, B0⟩ := snew w gc (fb nz)
  have cc := cc.kept B0
  have ks := fun w => stream_ gc (fb nz) w
  have kn := fun gs gn x w S0 C0 cc hx hne => stream1_ gs gn gc x k nz w S0 C0 cc hk hl hy hx hne
  obtain ⟨f, Hf⟩ : ∃ f, Hid (fb nz = f) := ⟨_, rfl⟩
  simp only [Hf.out] at ks kn
  rw [Hf.out] at S0 B0 cc ⊢
  have HK := hid hk
  have HY := hid hy
  have HYT := hid hyt
  clear hk hy hyt hb hl
  go_enter Try.func53, Try.ntmps53
  go_wp2_with (first | (at_make; refine wpList_make_own _ rfl _ _ 22 rfl w.heap.size 5 i (.int .u8 0) 1 Try.underlying22 hi hz0 hz1 .i64 .i64 _ (n + 16) rfl rfl (by omega) (by rw [hz2]; omega) (by unfold maxLen; omega) (by simp) ?_; intro w2 hown hg2; have g2 := below_of_grown hg2; have S0 := S0.kept g2; have cc := cc.kept g2; have B0 := bel_bel B0 B0.size g2; clear hg2 g2) | (refine wpList_lds rfl _ rfl w.heap.size rfl gc f (by with_reducible exact S0) ?_))
  simp only [World.size_alloc] at hown ⊢
  have O0 : Ob w2 w.heap.size (w.heap.size + 1) 0 (n + 16) [] := hown
  have hgs := O0.lt
  clear hown hi hz0 hz1 hz2
  refine (ks _).mono ?_
  rintro e w3 ⟨rfl, S1, C1, g2⟩
  have O0 := O0.kept g2
  have cc := cc.kept g2
  have B0 := bel_bel B0 B0.size g2
  have B0s := B0.size
  clear g2 ks S0
  generalize w2.heap.size = gs at *
  go_wp2_with fail
  go_loopw [1, 5] (fun v o wr => ∃ (r p m c : Nat) (a' : Option Addr), p + m = n ∧ (m = 0 ∨ p = 16 * r) ∧ r ≤ n ∧ m ≤ c ∧ c ≤ 9223372036854775807 ∧ v = .slice a' m c ∧ o = .slice (some ⟨w.heap.size + 1, 0, none⟩) p (n + 16) ∧ Bs w a' m (ic (t.drop p)) ∧ Ob wr w.heap.size (w.heap.size + 1) p (n + 16) ((st k nz t).take p) ∧ Se wr gs gc f ∧ Ct wr (gs + 1) (2 + r) ∧ Cp wr gc k ∧ Below w.heap.size w wr) (fun v _ _ => match v with | .slice _ m _ => m | _ => 0)
  case atStart => exact ⟨0, 0, n, cap, a, by omega, .inr rfl, by omega, hnc, by omega, rfl, rfl, by rw [List.drop_zero]; exact HB.out, O0, S1, C1, cc, B0⟩
  case round =>
    clear O0 S1 C1 cc B0 HB
    obtain ⟨r, p, m, c, a', hpm, hmp, hrn, hmc, hcc, rfl, rfl, hb, o0, s0, c0, cc, b0⟩ := hrel
    have HPM := hid hpm
    by_cases hlt : 0 < m
    · have hlI : (0 : Int) < (m : Int) := by omega
      have hp : p = 16 * r := by omega
      obtain ⟨mm, emm, hmm, hm16, hor⟩ := min_le m
      have hyd : ∀ x ∈ t.drop p, x < 256 := fun x hx => HYT.out x (List.mem_of_mem_drop hx)
      have hv := bl_lt HK.out (cb_lt HY.out (2 + r)) 14
      have kf := fun w hb => firstBlock_ a' m c mm (t.drop p) w hb (by unfold maxLen; omega) emm
      have kx := fun w => xor16_ (fb (t.drop p)) (bl k (cb nz (2 + r)) 14) w (fun i _ => fb_lt hyd i) hv
      have knr := fun w S C cc => kn gs (gs + 1) (2 + r) w S C cc (by omega) (by omega)
      have HX : Hid (∀ i, i < mm → xr (fb (t.drop p)) (bl k (cb nz (2 + r)) 14) i = (((st k nz t).drop p).take mm).getD i 0) := fun i hi => by
        rw [hp, st_blk k nz t r i (by omega) (by rw [HTL.out]; omega)]
        simp only [List.getD, List.getElem?_take, if_pos hi, List.getElem?_drop]
      have HLL : Hid ((((st k nz t).drop p).take mm).length = mm) := by
        show _ = _
        rw [List.length_take, List.length_drop, st_length, HTL.out]; omega
      have HLY : Hid (∀ x ∈ ((st k nz t).drop p).take mm, x < 256) := fun x hx => st_lt HK.out HY.out HYT.out x (List.mem_of_mem_drop (List.mem_of_mem_take hx))
      have HST : Hid ((st k nz t).take p ++ ((st k nz t).drop p).take mm = (st k nz t).take (p + mm)) := st_take
      obtain ⟨a2', ha2, hb2⟩ : ∃ a2', (if c = mm then a' else Option.map (fun x => x.add mm) a') = a2' ∧ Bs w a2' (m - mm) (ic (t.drop (p + mm))) := by
        refine ⟨_, rfl, ?_⟩
        have := bs_rest hb hmc hmm
        rwa [List.drop_drop] at this
      have H2 : Hid (Bs w a2' (m - mm) (ic (t.drop (p + mm)))) := hb2
      have hbr := hb.below b0
      have HOR : Hid (m - mm = 0 ∨ p + mm = 16 * (r + 1)) := by show _ ∨ _; omega
      have HMM : Hid (0 < mm) := by show 0 < mm; omega
      generalize xr (fb (t.drop p)) (bl k (cb nz (2 + r)) 14) = xx at *
      generalize bl k (cb nz (2 + r)) 14 = sb at *
      generalize fb (t.drop p) = blk at *
      have hgn := c0.lt
      have HRN : Hid (r + 1 ≤ n) := by show _ ≤ _; omega
      clear hv hyd hb hb2 emm hor hp hmp hpm hrn
      go_wp2_with fail
      refine (kf _ hbr).mono ?_
      rintro e w4 ⟨rfl, g2⟩
      have o0 := o0.kept g2
      have s0 := s0.kept g2
      have c0 := c0.kept g2
      have cc := cc.kept g2
      have b0 := bel_bel b0 b0.size g2
      have hgb := c0.lt
      clear g2 kf hbr
      have o0 := o0.alloc (.cells (rw8 16 blk) 96)
      have s0 := s0.alloc (.cells (rw8 16 blk) 96)
      have c0 := c0.alloc (.cells (rw8 16 blk) 96)
      have cc := cc.alloc (.cells (rw8 16 blk) 96)
      have a3 := Rw.new w4 96 16 blk
      have b0 := b0.alloc b0.size (.cells (rw8 16 blk) 96)
      go_wp2_with (first | (refine wpList_al rfl _ rfl 16 (by exact zeroa) ?_) | (refine wpList_stnr rfl rfl _ _ rfl _ _ blk rfl rfl rfl (by simp [rw8_size]) ?_))
      generalize w4.heap.size = gb at *
      generalize w4.alloc (.cells (rw8 16 blk) 96) = w5 at *
      refine wp_region_held_drew (S := fun wx => True) (by kernel_rfl) trivial (fun hHeld => ?_)
      have o0 := o0.drew
      have s0 := s0.drew
      have c0 := c0.drew
      have cc := cc.drew
      have a3 := a3.drew
      have b0 := bel_drew1 b0
      generalize w5.drew = wd at *
      refine take_to 1 24 (.func (.func 94) #[] #[.pointer (some ⟨gs, 0, none⟩), .pointer (some ⟨gs + 1, 0, none⟩)]) rfl rfl (by kernel_rfl) (by kernel_rfl) (by kernel_rfl) (fun _ _ _ h => h) (Or.inl ⟨by rfl, fun w' _ => ?_⟩) hHeld ?_
      · go_simp
      try simp only [List.setIfInBounds_toArray, List.set_cons_zero, List.set_cons_succ]
      refine wpAnyH_ready (rs := [0, 2]) (by kernel_rfl) (by simp) ?_
      refine AllReadyH.cons rfl (fun K hK => ?_) (AllReadyH.cons rfl (fun K hK => ?_) AllReadyH.nil)
      · rw [if_pos (by rfl)]
        refine wp_ldw (some 23) rfl _ _ rfl _ rfl _ 16 _ (by with_reducible exact a3) _ under16 rfl size16 ?_
        refine hK.out _ _ trivial (fun hHeld => ?_)
        clear hK K
        try simp only [Act.put, List.setIfInBounds_toArray, List.set_cons_zero, List.set_cons_succ]
        refine wpAnyH_ready (rs := [2]) (by kernel_rfl) (by simp) ?_
        refine AllReadyH.cons rfl (fun K hK => ?_) AllReadyH.nil
        rw [if_pos (by rfl)]
        go_wp2_with fail
        refine (knr _ s0 c0 cc).mono ?_
        rintro e wa ⟨rfl, C1, g2⟩
        have o0 := o0.grown g2 (by omega)
        have s0 := s0.grown g2 (by omega)
        have cc := cc.grown g2 (by omega)
        have a3 := a3.grown g2 (by omega)
        have c0 := C1
        have b0 := bel_grown b0 b0.size (by omega) g2
        clear g2 hHeld C1
        try go_wp2_with fail
        refine hK.out _ _ trivial (fun hHeld => ?_)
        clear hK K
        try simp only [Act.put, List.setIfInBounds_toArray, List.set_cons_zero, List.set_cons_succ]
        refine wpAnyH_ready (rs := [3]) (by kernel_rfl) (by simp) ?_
        refine AllReadyH.cons rfl (fun K hK => ?_) AllReadyH.nil
        rw [if_pos (by rfl)]
        go_wp2_with fail
        refine (kx _).mono ?_
        rintro e wb ⟨rfl, g2⟩
        have o0 := o0.kept g2
        have s0 := s0.kept g2
        have c0 := c0.kept g2
        have cc := cc.kept g2
        have a3 := a3.kept g2
        have b0 := bel_bel b0 b0.size g2
        clear g2 hHeld
        try go_wp2_with fail
        refine hK.out _ _ trivial (fun hHeld => ?_)
        clear hK K
        try simp only [Act.put, List.setIfInBounds_toArray, List.set_cons_zero, List.set_cons_succ]
        refine wpAnyH_ready (rs := [4]) (by kernel_rfl) (by simp) ?_
        refine AllReadyH.cons rfl (fun K hK => ?_) AllReadyH.nil
        rw [if_pos (by rfl)]
        refine wp_stm rfl _ _ _ rfl (gb) 0 rfl 16 xx rfl _ _ _ (by with_reducible exact a3) (by omega) size16 ?_
        have o0 := o0.omid (g' := gb) (by omega) 0 (rw8 16 xx).toList
        have s0 := s0.omid (g' := gb) (by omega) 0 (rw8 16 xx).toList
        have c0 := c0.omid (g' := gb) (by omega) 0 (rw8 16 xx).toList
        have cc := cc.omid (g' := gb) (by omega) 0 (rw8 16 xx).toList
        have a3 := a3.whole xx
        have b0 := bel_cells (B := w.heap.size) (g := gb) (by omega) (rw8 16 xx).toList 0 _ b0
        refine hK.out _ _ trivial (fun hHeld => ?_)
        clear hK K
        try simp only [Act.put, List.setIfInBounds_toArray, List.set_cons_zero, List.set_cons_succ]
        generalize wb.setCells (gb) 0 (rw8 16 xx).toList = we at *
        refine wpAnyH_done (by kernel_rfl) ?_ _
        clear hHeld kx knr
        have L1 := (a3.bs 0 mm (((st k nz t).drop p).take mm) (by omega) HLL.out HLY.out (fun i hi => by rw [Nat.zero_add]; exact HX.out i hi)).src1 (grown_self _ none)
        have L2 : (cells (ic (((st k nz t).drop p).take mm))).length = mm * 1 := by rw [cells_length, ic_length, HLL.out, Nat.mul_one]
        have L3 := cells_one (ic (((st k nz t).drop p).take mm))
        obtain ⟨ps, Hps⟩ : ∃ ps, Hid (cells (ic (((st k nz t).drop p).take mm)) = ps) := ⟨_, rfl⟩
        rw [Hps.out] at L1 L2 L3
        have HL1 := hid L1
        have HL2 := hid L2
        have HL3 := hid L3
        have HO0 := hid o0
        have HP2 : p + mm ≤ n + 16 := by have := HPM.out; omega
        clear L1 L2 L3 o0 a3
        obtain ⟨i, hi, hz0, hz1, hz2⟩ := info_parts info5
        have hsl := fun w => run_front 96 16 5 under16 size1 gb mm hm16 (by omega) w
        go_wp2_with (at_builtin; refine wpList_append_fits _ rfl _ _ 22 rfl w.heap.size 5 i 1 Try.underlying22 hi hz1 (w.heap.size + 1) p (n + 16) _ rfl HO0.out ⟨gb, 0, none⟩ mm 16 ps rfl HL2.out HL1.out HL3.out HP2 ?_; intro w6 hown hg; have s0 := s0.grown hg (by omega); have c0 := c0.grown hg (by omega); have cc := cc.grown hg (by omega); have b0 := bel_grown b0 b0.size (by omega) hg; clear hg hi hz0 hz1 hz2 hsl)
        have o0 : Ob w6 w.heap.size (w.heap.size + 1) (p + mm) (n + 16) ((st k nz t).take (p + mm)) := by
          rw [← Hps.out, ← cells_append, ← ic_append, HST.out] at hown
          exact hown
        go_roundw
        case rel => exact ⟨r + 1, p + mm, m - mm, c - mm, a2', by have := HPM.out; omega, HOR.out, HRN.out, by omega, by omega, rfl, rfl, H2.out, o0, s0, c0, cc, b0⟩
        case measure => show m - mm < m; have := HMM.out; omega
      · rw [if_pos (by rfl)]
        go_wp2_with fail
        refine (knr _ s0 c0 cc).mono ?_
        rintro e wa ⟨rfl, C1, g2⟩
        have o0 := o0.grown g2 (by omega)
        have s0 := s0.grown g2 (by omega)
        have cc := cc.grown g2 (by omega)
        have a3 := a3.grown g2 (by omega)
        have c0 := C1
        have b0 := bel_grown b0 b0.size (by omega) g2
        clear g2 hHeld C1
        try go_wp2_with fail
        refine hK.out _ _ trivial (fun hHeld => ?_)
        clear hK K
        try simp only [Act.put, List.setIfInBounds_toArray, List.set_cons_zero, List.set_cons_succ]
        refine wpAnyH_ready (rs := [0]) (by kernel_rfl) (by simp) ?_
        refine AllReadyH.cons rfl (fun K hK => ?_) AllReadyH.nil
        rw [if_pos (by rfl)]
        refine wp_ldw (some 23) rfl _ _ rfl _ rfl _ 16 _ (by with_reducible exact a3) _ under16 rfl size16 ?_
        refine hK.out _ _ trivial (fun hHeld => ?_)
        clear hK K
        try simp only [Act.put, List.setIfInBounds_toArray, List.set_cons_zero, List.set_cons_succ]
        refine wpAnyH_ready (rs := [3]) (by kernel_rfl) (by simp) ?_
        refine AllReadyH.cons rfl (fun K hK => ?_) AllReadyH.nil
        rw [if_pos (by rfl)]
        go_wp2_with fail
        refine (kx _).mono ?_
        rintro e wb ⟨rfl, g2⟩
        have o0 := o0.kept g2
        have s0 := s0.kept g2
        have c0 := c0.kept g2
        have cc := cc.kept g2
        have a3 := a3.kept g2
        have b0 := bel_bel b0 b0.size g2
        clear g2 hHeld
        try go_wp2_with fail
        refine hK.out _ _ trivial (fun hHeld => ?_)
        clear hK K
        try simp only [Act.put, List.setIfInBounds_toArray, List.set_cons_zero, List.set_cons_succ]
        refine wpAnyH_ready (rs := [4]) (by kernel_rfl) (by simp) ?_
        refine AllReadyH.cons rfl (fun K hK => ?_) AllReadyH.nil
        rw [if_pos (by rfl)]
        refine wp_stm rfl _ _ _ rfl (gb) 0 rfl 16 xx rfl _ _ _ (by with_reducible exact a3) (by omega) size16 ?_
        have o0 := o0.omid (g' := gb) (by omega) 0 (rw8 16 xx).toList
        have s0 := s0.omid (g' := gb) (by omega) 0 (rw8 16 xx).toList
        have c0 := c0.omid (g' := gb) (by omega) 0 (rw8 16 xx).toList
        have cc := cc.omid (g' := gb) (by omega) 0 (rw8 16 xx).toList
        have a3 := a3.whole xx
        have b0 := bel_cells (B := w.heap.size) (g := gb) (by omega) (rw8 16 xx).toList 0 _ b0
        refine hK.out _ _ trivial (fun hHeld => ?_)
        clear hK K
        try simp only [Act.put, List.setIfInBounds_toArray, List.set_cons_zero, List.set_cons_succ]
        generalize wb.setCells (gb) 0 (rw8 16 xx).toList = we at *
        refine wpAnyH_done (by kernel_rfl) ?_ _
        clear hHeld kx knr
        have L1 := (a3.bs 0 mm (((st k nz t).drop p).take mm) (by omega) HLL.out HLY.out (fun i hi => by rw [Nat.zero_add]; exact HX.out i hi)).src1 (grown_self _ none)
        have L2 : (cells (ic (((st k nz t).drop p).take mm))).length = mm * 1 := by rw [cells_length, ic_length, HLL.out, Nat.mul_one]
        have L3 := cells_one (ic (((st k nz t).drop p).take mm))
        obtain ⟨ps, Hps⟩ : ∃ ps, Hid (cells (ic (((st k nz t).drop p).take mm)) = ps) := ⟨_, rfl⟩
        rw [Hps.out] at L1 L2 L3
        have HL1 := hid L1
        have HL2 := hid L2
        have HL3 := hid L3
        have HO0 := hid o0
        have HP2 : p + mm ≤ n + 16 := by have := HPM.out; omega
        clear L1 L2 L3 o0 a3
        obtain ⟨i, hi, hz0, hz1, hz2⟩ := info_parts info5
        have hsl := fun w => run_front 96 16 5 under16 size1 gb mm hm16 (by omega) w
        go_wp2_with (at_builtin; refine wpList_append_fits _ rfl _ _ 22 rfl w.heap.size 5 i 1 Try.underlying22 hi hz1 (w.heap.size + 1) p (n + 16) _ rfl HO0.out ⟨gb, 0, none⟩ mm 16 ps rfl HL2.out HL1.out HL3.out HP2 ?_; intro w6 hown hg; have s0 := s0.grown hg (by omega); have c0 := c0.grown hg (by omega); have cc := cc.grown hg (by omega); have b0 := bel_grown b0 b0.size (by omega) hg; clear hg hi hz0 hz1 hz2 hsl)
        have o0 : Ob w6 w.heap.size (w.heap.size + 1) (p + mm) (n + 16) ((st k nz t).take (p + mm)) := by
          rw [← Hps.out, ← cells_append, ← ic_append, HST.out] at hown
          exact hown
        go_roundw
        case rel => exact ⟨r + 1, p + mm, m - mm, c - mm, a2', by have := HPM.out; omega, HOR.out, HRN.out, by omega, by omega, rfl, rfl, H2.out, o0, s0, c0, cc, b0⟩
        case measure => show m - mm < m; have := HMM.out; omega
    · obtain rfl : m = 0 := by omega
      have e : (st k nz t).take p = st k nz t := List.take_of_length_le (by rw [st_length, HTL.out]; omega)
      obtain rfl : p = n := by omega
      rw [e] at o0
      clear e hmp
      go_wp2_with fail
      go_ret
      exact ⟨_, rfl, o0, b0⟩
end Go.Proofs.Ytnjfckijpbgagaa
