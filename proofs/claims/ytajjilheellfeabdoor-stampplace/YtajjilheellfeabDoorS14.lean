import Derived.Test.YtajjilheellfeabDoorSList
import Derived.Test.YtajjilheellfeabDoorS13
import Derived.Laws.BitsAllLaws
namespace Go.Proofs.YtajjilheellfeabDoor
open Go.RowKit
set_option linter.unusedVariables false

def z15 : List Int := [0, 0, 0, 0, 0, 0, 0, 0, 0, 0, 0, 0, 0, 0, 0]
theorem make15 (w : World) : (Instr.makeSlice 30 (.int .i64 15) (.int .i64 15)).run Tryd.prog w = .ok (.slice (some ⟨w.heap.size, 0, none⟩) 15 15) (w.alloc (.cells (cells z15).toArray 5)) := by
  have := run_make_row' (P := Tryd.prog) 30 5 (.int .u8 0) 1 Tryd.underlying30 info5 rfl .i64 .i64 15 (by omega) (by omega) w
  have e : madeCells #[Value.int .u8 0] 15 = (cells z15).toArray := by kernel_rfl
  rw [e] at this
  exact this
theorem Head.at {w w' : World} {g cap : Nat} {ys : List Int} (h : Head w g cap ys) (e : w'.heap[g]? = w.heap[g]?) : Head w' g cap ys := by
  unfold Head at *
  rw [e]
  exact h
theorem Rx.bs {w : World} {g t m : Nat} {zs : List Int} (h : Rx w g t zs) (hm : m ≤ zs.length) (hb : ∀ z ∈ zs, 0 ≤ z ∧ z ≤ 255) : Bs w (some ⟨g, 0, none⟩) m (zs.take m) := by
  refine ⟨by rw [List.length_take]; omega, fun z hz => hb z (List.mem_of_mem_take hz), .inr ⟨g, 0, rfl, fun i hi => ?_⟩⟩
  rw [Nat.zero_add, h.cell i (by omega)]
  simp only [List.getD, List.getElem?_take, if_pos hi]
theorem Rx.alloc {w : World} {g t : Nat} {zs : List Int} (h : Rx w g t zs) (o : Obj) : Rx (w.alloc o) g t zs := h.at (Below.heap_alloc _ _ _ h.lt)
theorem Rx.rowo {w : World} {g g' t : Nat} {zs : List Int} (h : Rx w g t zs) (hn : g ≠ g') (ds : Array Value) : Rx (w.setRow g' ds) g t zs := h.at (setRow_other w g' g ds hn)
theorem getD_mem6 {zs : List Int} {P : Int → Prop} (h : ∀ z ∈ zs, P z) (h0 : P 0) (i : Nat) : P (zs.getD i 0) := by
  simp only [List.getD]
  cases e : zs[i]? with
  | none => exact h0
  | some z => exact h z (List.mem_of_getElem? e)
theorem lj_byte {zs bs : List Int} (hz : ∀ z ∈ zs, 0 ≤ z ∧ z ≤ 255) (hb : ∀ z ∈ bs, 0 ≤ z ∧ z ≤ 255) (off j : Nat) : ∀ z ∈ lj zs off bs j, 0 ≤ z ∧ z ≤ 255 := by
  intro z hm
  obtain ⟨i, _, rfl⟩ := List.mem_map.1 hm
  split
  · exact getD_mem6 (P := fun z => 0 ≤ z ∧ z ≤ 255) hb (by omega) _
  · exact getD_mem6 (P := fun z => 0 ≤ z ∧ z ≤ 255) hz (by omega) _
theorem lj_take {zs bs : List Int} {k : Nat} (hk : k ≤ zs.length) (hb : bs.length = k) : (lj zs 0 bs k).take k = bs := by
  refine list_extI (by rw [List.length_take, lj_length]; omega) fun i hi => ?_
  rw [List.length_take, lj_length] at hi
  have e : ((lj zs 0 bs k).take k).getD i 0 = (lj zs 0 bs k).getD i 0 := by simp only [List.getD, List.getElem?_take, if_pos (show i < k by omega)]
  rw [e, lj_get _ _ _ _ _ (by omega), if_pos (by omega), Nat.sub_zero]
theorem set_byte {zs : List Int} (hz : ∀ z ∈ zs, 0 ≤ z ∧ z ≤ 255) (i : Nat) (x : Int) (hx : 0 ≤ x ∧ x ≤ 255) : ∀ z ∈ zs.set i x, 0 ≤ z ∧ z ≤ 255 := by
  intro z hm
  rcases List.mem_or_eq_of_mem_set hm with h | rfl
  · exact hz z h
  · exact hx
theorem xor128 (y : Int) (h : 0 ≤ y ∧ y ≤ 255) : 0 ≤ bits BinOp.xor .u8 y 128 ∧ bits BinOp.xor .u8 y 128 ≤ 255 := by
  rw [u8_xor y 128 h.1 (by omega) (by omega) (by omega)]
  have : y.toNat ^^^ (128 : Int).toNat < 2 ^ 8 := Nat.xor_lt_two_pow (by omega) (by decide)
  omega
theorem tm12 (x : Int) : ∃ i : Nat, i < 12 ∧ (x.tmod 12 + 12).tmod 12 = i := by
  have h1 := Int.tmod_lt_of_pos x (show (0 : Int) < 12 by omega)
  have h2 := Int.lt_tmod_of_pos x (show (0 : Int) < 12 by omega)
  have h3 := Int.tmod_lt_of_pos (x.tmod 12 + 12) (show (0 : Int) < 12 by omega)
  have h4 := Int.tmod_nonneg (12 : Int) (show 0 ≤ x.tmod 12 + 12 by omega)
  exact ⟨((x.tmod 12 + 12).tmod 12).toNat, by omega, by omega⟩
theorem z15_byte : ∀ z ∈ z15, 0 ≤ z ∧ z ≤ 255 := by decide
set_option maxHeartbeats 3000000 in
set_option maxRecDepth 100000 in
theorem stampPlace_ (a : Option Addr) (n c : Nat) (K N : Nat → Int) (at' : Int) (w : World) (hT : Tb w) (hnc : n ≤ c ∧ c ≤ maxLen) (hL : IsSt w a n K N) (hat : InI at') :
    Calls Tryd.prog 6 #[.slice a n c, .int .i64 at'] w fun e w' => e = .returned (.bool true) ∧ Below w.heap.size w w' := by
  have HL := hid hL
  have hn := hnc.1
  have hc := hnc.2
  unfold maxLen at hc
  obtain ⟨i0, hi0, HI0⟩ : ∃ i0 : Nat, i0 < 12 ∧ Hid ((at'.tmod 12 + 12).tmod 12 = i0) := tm12 at'
  have ha1 := Int.tmod_lt_of_pos at' (show (0 : Int) < 12 by omega)
  have ha2 := Int.lt_tmod_of_pos at' (show (0 : Int) < 12 by omega)
  obtain ⟨hat1, hat2⟩ := hat
  clear hL hnc
  have B0 := Below.refl w.heap.size w
  go_enter Tryd.func6, Tryd.ntmps6
  go_wp2_with fail
  refine (known_ _ (hT.kept B0)).mono ?_
  rintro e w1 ⟨rfl, g2⟩
  replace B0 := bel_bel B0 B0.size g2
  clear g2 hT
  have hmk := make15 w1
  have hsz := B0.size
  go_wp2_with fail
  have r0 : Rx (w1.alloc (.cells (cells z15).toArray 5)) w1.heap.size 5 z15 := heap_alloc_new w1 _
  replace B0 := B0.alloc B0.size (.cells (cells z15).toArray 5)
  generalize w1.alloc (.cells (cells z15).toArray 5) = w2 at *
  clear hmk
  generalize w1.heap.size = g at *
  go_loopw [6] (fun i wr => ∃ (j : Nat) (R : List Int), j ≤ 60 ∧ j ≤ n ∧ i = .int .i64 j ∧ R.length = 15 ∧ Hid (∀ z ∈ R, 0 ≤ z ∧ z ≤ 255) ∧ Rx wr g 5 R ∧ Below w.heap.size w wr) (fun i _ => 60 - (intOf i).toNat)
  case atStart => exact ⟨0, z15, by omega, by omega, rfl, rfl, z15_byte, r0, B0⟩
  case round =>
    clear r0 B0
    obtain ⟨j, R, hj60, hjn, rfl, hR, HRB, r0, B0⟩ := hrel
    by_cases hlt : j < n ∧ j < 60
    · obtain ⟨hl1, hl2⟩ := hlt
      have hI1 : (j : Int) < (n : Int) := by omega
      have hI2 : (j : Int) < 60 := by omega
      obtain ⟨b, off, rfl, HC⟩ : ∃ b off, a = some ⟨b, off, none⟩ ∧ Hid (∀ i, i < n → (w.cell? ⟨b, off + i * 2, none⟩ = some (.int .i64 (K i)) ∧ w.cell? ⟨b, off + i * 2 + 1, none⟩ = some (.int .i64 (N i))) ∧ InI (K i) ∧ InI (N i)) := by
        rcases HL.out with h | ⟨b, off, e, h⟩
        · omega
        · exact ⟨b, off, e, h⟩
      obtain ⟨⟨d0, d1⟩, hK, hN⟩ := HC.out j hl1
      have HLB : Hid (b < w.heap.size) := World.block_lt_of_cell? w _ d0
      have HD0 := hid d0
      have HD1 := hid d1
      have c0 := (B0.cell HLB.out).trans d0
      have c1 := (B0.cell HLB.out).trans d1
      have k1 := fun w => refPut_ (K j) (N j) w hK hN
      have k2 := fun w => sameStamp_ (K j) (N j) (K j) (N j) w
      rw [sme_self] at k2
      have HPB := hid (pt_byte (K j) (N j))
      have HPL := hid (pt_length (K j) (N j))
      have HGP := hid (fun h1 h2 => gok_pt (S := K j) (N := N j) h1 h2)
      clear d0 d1 HL HC
      cases hv : vld (K j) (N j) with
      | false =>
        have e0 : (pt (K j) (N j)).length = 0 := by rw [HPL.out, hv]; rfl
        rw [e0] at k1
        clear HPL HPB HGP e0
        generalize pt (K j) (N j) = L at *
        generalize K j = k at *
        generalize N j = m at *
        go_wp2_with fail
        refine (k1 _).mono ?_
        rintro e w3 ⟨v, rfl, ho, g2⟩
        obtain ⟨pa, pc, rfl⟩ : ∃ pa pc, v = .slice pa 0 pc := by
          rcases ho.2 with ⟨rfl, _⟩ | ⟨_, _, _, rfl, _⟩
          · exact ⟨_, _, rfl⟩
          · exact ⟨_, _, rfl⟩
        replace r0 := r0.kept g2
        replace B0 := bel_bel B0 B0.size g2
        clear g2 ho c0 c1 k1 k2
        go_wp2_with fail
        go_roundw
        case rel => exact ⟨j + 1, R, by omega, by omega, by go_num, hR, HRB, r0, B0⟩
        case measure => simp [intOf]; omega
      | true =>
        have e0 : (pt (K j) (N j)).length = 12 := by rw [HPL.out, hv]; rfl
        obtain ⟨v1, v2, v3⟩ := of_decide_eq_true (show decide _ = true from hv)
        obtain ⟨q1, q2, q3, _, _⟩ := HGP.out ⟨v1, hK.2⟩ ⟨v2, v3⟩
        rw [e0] at k1
        have k3 := fun w hb => get_ (some ⟨g, 0, none⟩) 12 15 (pt (K j) (N j)) w hb (by omega) (by unfold maxLen; omega)
        rw [q1, q2, q3] at k3
        clear HPL HGP q1 q2 q3 v1 v2 v3 hv
        obtain ⟨L, HLL⟩ : ∃ L, Hid (pt (K j) (N j) = L) := ⟨_, rfl⟩
        rw [HLL.out] at e0 HPB
        simp only [HLL.out] at k1 k3
        have HK := hid hK
        have HN := hid hN
        clear hK hN
        obtain ⟨k, Hk⟩ : ∃ k, Hid (K j = k) := ⟨_, rfl⟩
        obtain ⟨m, Hm⟩ : ∃ m, Hid (N j = m) := ⟨_, rfl⟩
        rw [Hk.out, Hm.out] at k1 k2 k3
        rw [Hk.out] at c0 HD0
        rw [Hm.out] at c1 HD1
        go_wp2_with fail
        refine (k1 _).mono ?_
        rintro e w3 ⟨v, rfl, ho, g2⟩
        obtain ⟨gb, cap, rfl, h1, h2, h3, hh, _⟩ := own_head ho (by omega)
        have hgb : g < gb := Nat.lt_of_lt_of_le r0.lt h3
        unfold maxLen at h2
        replace r0 := r0.kept g2
        replace B0 := bel_bel B0 B0.size g2
        clear g2 ho c0 c1 k1 h3
        obtain ⟨w4, rfl⟩ : ∃ w4, w4 = w3 := ⟨_, rfl⟩
        go_wp2_with fail
        go_loopw [8] (fun i wq => ∃ q : Nat, q ≤ 12 ∧ i = .int .i64 q ∧ Rx wq g 5 (lj R 0 L q) ∧ Oth g w4 wq) (fun i _ => 12 - (intOf i).toNat)
        case atStart => exact ⟨0, by omega, rfl, by rw [lj_zero]; exact r0, Oth.refl _ _⟩
        case round =>
          obtain ⟨q, hq, rfl, r1, o1⟩ := hrel
          by_cases hlt : q < 12
          · have hI : (q : Int) < 12 := by omega
            have hq15 : (q : Int) < 15 := by omega
            have cc := r1.cell q (by rw [lj_length]; omega)
            have fz := r1.fz q
            have cb := (hh.at (o1.block gb (by omega))).cell q (by omega)
            have r2 := r1.set q (L.getD q 0)
            have hs := lj_step R 0 L q (by omega)
            rw [Nat.zero_add] at hs
            rw [hs] at r2
            have o2 := o1.set q (.int .u8 (L.getD q 0))
            generalize (lj R 0 L q).getD q 0 = y at *
            generalize L.getD q 0 = x at *
            clear r1 o1 hs
            go_wp2_with fail
            go_roundw
            case rel => exact ⟨q + 1, by omega, by go_num, r2, o2⟩
            case measure => simp [intOf]; omega
          · have hI : ¬ (q : Int) < 12 := by omega
            rw [show q = 12 from by omega] at r1
            replace B0 := o1.below B0 (by omega)
            have HR1 : Hid ((lj R 0 L 12).length = 15) := by show _ = _; rw [lj_length]; exact hR
            have HB1 := hid (lj_byte HRB.out HPB.out 0 12)
            have HT1 : Hid ((lj R 0 L 12).take 12 = L) := lj_take (by omega) e0
            obtain ⟨R1, HRR⟩ : ∃ R1, Hid (lj R 0 L 12 = R1) := ⟨_, rfl⟩
            rw [HRR.out] at r1 HR1 HB1 HT1
            have b1 := r1.bs (m := 12) (by rw [HR1.out]; omega) HB1.out
            rw [HT1.out] at b1
            clear o1 hh r0 hlt
            go_wp2_with fail
            refine (k3 _ b1).mono ?_
            rintro e w5 ⟨rfl, g2⟩
            have hgs := r1.lt
            have hg5 : w.heap.size ≤ w5.heap.size := (B0.trans (by exact ⟨g2.os, g2.tape, g2.output, g2.size, fun k hk => g2.block k (by have := B0.size; omega)⟩ : Below w.heap.size _ w5)).size
            replace r1 := r1.kept g2
            have hg6 := r1.lt
            replace B0 := bel_bel B0 B0.size g2
            clear g2 b1 k3
            have m1 := Sm.new w5 k m
            replace r1 := r1.alloc (.cells #[.int .i64 k, .int .i64 m] 23)
            replace B0 := B0.alloc B0.size (.cells #[.int .i64 k, .int .i64 m] 23)
            go_wp2_with fail
            have HBW := hid B0
            have s0 : Sm (w5.alloc (.cells #[.int .i64 k, .int .i64 m] 23)) w5.heap.size k m ∧ Below w.heap.size w (w5.alloc (.cells #[.int .i64 k, .int .i64 m] 23)) := ⟨m1, B0⟩
            generalize w5.alloc (.cells #[.int .i64 k, .int .i64 m] 23) = w6 at *
            generalize w5.heap.size = gs at *
            clear HBW
            refine wp_region_held_drew (S := fun wx => Sm wx gs k m ∧ Below w.heap.size w wx) (by kernel_rfl) ⟨s0.1.drew, bel_drew1 s0.2⟩ (fun hHeld => ?_)
            clear s0
            replace m1 := m1.drew
            replace r1 := r1.drew
            replace B0 := bel_drew1 B0
            generalize w6.drew = wd at *
            refine take_to 0 52 (.agg #[.int .i64 k, .int .i64 m]) rfl rfl (by kernel_rfl) (by kernel_rfl) (by kernel_rfl) (fun _ _ _ h => h) (Or.inl ⟨by rfl, fun w' h => ?_⟩) hHeld ?_
            · have x0 := h.1.c0
              have x1 := h.1.c1
              go_simp
            try simp only [List.setIfInBounds_toArray, List.set_cons_zero, List.set_cons_succ]
            refine take_to 1 53 (.slice (some ⟨b, off, none⟩) n c) rfl rfl (by kernel_rfl) (by kernel_rfl) (by kernel_rfl) (fun _ _ _ h => h) (Or.inl ⟨by rfl, fun w' _ => ?_⟩) hHeld ?_
            · go_simp
            try simp only [List.setIfInBounds_toArray, List.set_cons_zero, List.set_cons_succ]
            refine take_to 2 54 (.int .i64 (j : Int)) rfl rfl (by kernel_rfl) (by kernel_rfl) (by kernel_rfl) (fun _ _ _ h => h) (Or.inl ⟨by rfl, fun w' _ => ?_⟩) hHeld ?_
            · go_simp
            try simp only [List.setIfInBounds_toArray, List.set_cons_zero, List.set_cons_succ]
            refine take_to 3 55 (.pointer (some ⟨b, off + j * 2, none⟩)) rfl rfl (by kernel_rfl) (by kernel_rfl) (by kernel_rfl) (fun _ _ _ h => h) (Or.inl ⟨by rfl, fun w' _ => ?_⟩) hHeld ?_
            · go_simp
            try simp only [List.setIfInBounds_toArray, List.set_cons_zero, List.set_cons_succ]
            refine take_to 4 56 (.agg #[.int .i64 k, .int .i64 m]) rfl rfl (by kernel_rfl) (by kernel_rfl) (by kernel_rfl) (fun _ _ _ h => h) (Or.inl ⟨by rfl, fun w' h => ?_⟩) hHeld ?_
            · have x0 := (h.2.cell HLB.out).trans HD0.out
              have x1 := (h.2.cell HLB.out).trans HD1.out
              go_simp
            try simp only [List.setIfInBounds_toArray, List.set_cons_zero, List.set_cons_succ]
            refine wpAnyH_ready (rs := [5]) (by kernel_rfl) (by simp) ?_
            refine AllReadyH.cons rfl (fun K' hK' => ?_) AllReadyH.nil
            rw [if_pos (by rfl)]
            go_wp2_with fail
            refine (k2 _).mono ?_
            rintro e w7 ⟨rfl, g2⟩
            replace m1 := m1.kept g2
            replace r1 := r1.kept g2
            replace B0 := bel_bel B0 B0.size g2
            clear g2 hHeld k2
            try go_wp2_with fail
            refine hK'.out _ _ ⟨m1, B0⟩ (fun hHeld => ?_)
            clear hK' K'
            try simp only [Act.put, List.setIfInBounds_toArray, List.set_cons_zero, List.set_cons_succ]
            refine take_to 6 11 (.bool true) rfl rfl (by kernel_rfl) (by kernel_rfl) (by kernel_rfl) (fun _ _ _ h => h) (Or.inl ⟨by rfl, fun w' _ => ?_⟩) hHeld ?_
            · go_simp
            try simp only [List.setIfInBounds_toArray, List.set_cons_zero, List.set_cons_succ]
            refine wpAnyH_done (by kernel_rfl) ?_ _
            clear hHeld HD0 HD1 HLB
            go_wp2_with fail
            refine (num6_ 0 _).mono ?_
            rintro e wx ⟨rfl, rfl⟩
            have hii : (i0 : Int) < 15 := by omega
            have hi0' := HI0.out
            have cc := r1.cell i0 (by rw [HR1.out]; omega)
            have fz := r1.fz i0
            have yb := getD_byte6 HB1.out i0
            generalize R1.getD i0 0 = y at *
            have xb := xor128 y yb
            have r2 := r1.set i0 (bits BinOp.xor .u8 y 128)
            have m2 := m1.oth (g' := g) (i := i0) (v := .int .u8 (bits BinOp.xor .u8 y 128)) (by omega)
            have B2 := B0.setCell (p := ⟨g, i0, none⟩) hsz (.int .u8 (bits BinOp.xor .u8 y 128))
            have HB2 := hid (set_byte HB1.out i0 _ xb)
            have HR2 : Hid ((R1.set i0 (bits BinOp.xor .u8 y 128)).length = 15) := by show _ = _; rw [List.length_set]; exact HR1.out
            clear m1 B0
            go_wp2_with fail
            generalize wx.setCell ⟨g, i0, none⟩ (.int .u8 (bits BinOp.xor .u8 y 128)) = w8 at *
            obtain ⟨R2, HRR2⟩ : ∃ R2, Hid (R1.set i0 (bits BinOp.xor .u8 y 128) = R2) := ⟨_, rfl⟩
            rw [HRR2.out] at r2 HB2 HR2
            have b2 := r2.bs (m := 12) (by rw [HR2.out]; omega) HB2.out
            have k4 := fun w hb => get_ (some ⟨g, 0, none⟩) 12 15 (R2.take 12) w hb (by omega) (by unfold maxLen; omega)
            have k5 := fun w hb => refGet_ (some ⟨g, 0, none⟩) 12 15 (R2.take 12) w hb (by unfold maxLen; omega)
            obtain ⟨A, HA⟩ : ∃ x, Hid (qs (R2.take 12) = x) := ⟨_, rfl⟩
            obtain ⟨C, HC⟩ : ∃ x, Hid (qn (R2.take 12) = x) := ⟨_, rfl⟩
            obtain ⟨E, HE⟩ : ∃ x, Hid (qe (R2.take 12) = x) := ⟨_, rfl⟩
            rw [HA.out, HC.out, HE.out] at k4 k5
            have k6 := fun w => sameStamp_ A C A C w
            rw [sme_self] at k6
            have hee : (E != E) = false := by simp
            clear cc fz r1 yb xb hi0'
            refine (k4 _ b2).mono ?_
            rintro e w9 ⟨rfl, g2⟩
            replace m2 := m2.kept g2
            replace r2 := r2.kept g2
            replace b2 := b2.below g2
            replace B2 := bel_bel B2 B2.size g2
            clear g2 k4
            have hgl : w.heap.size ≤ gs := by omega
            go_wp2_with (refine wpList_sst rfl rfl _ _ rfl gs A C rfl rfl k m (by with_reducible exact m2) ?_; replace m2 := m2.row A C; replace r2 := r2.rowo (g' := gs) (by omega) #[.int .i64 A, .int .i64 C]; replace B2 := bel_row B2 hgl #[.int .i64 A, .int .i64 C]; generalize w9.setRow gs #[.int .i64 A, .int .i64 C] = w10 at *)
            replace b2 := r2.bs (m := 12) (by rw [HR2.out]; omega) HB2.out
            refine (k5 _ b2).mono ?_
            rintro e w11 ⟨rfl, g2⟩
            replace m2 := m2.kept g2
            replace r2 := r2.kept g2
            replace B2 := bel_bel B2 B2.size g2
            clear g2 k5 b2
            have m3 := Sm.new w11 A C
            replace m2 := m2.alloc (.cells #[.int .i64 A, .int .i64 C] 23)
            replace r2 := r2.alloc (.cells #[.int .i64 A, .int .i64 C] 23)
            replace B2 := B2.alloc B2.size (.cells #[.int .i64 A, .int .i64 C] 23)
            have x0 := m2.c0
            have x1 := m2.c1
            have x2 := m3.c0
            have x3 := m3.c1
            go_wp2_with fail
            refine (k6 _).mono ?_
            rintro e w12 ⟨rfl, g2⟩
            replace r2 := r2.kept g2
            replace B2 := bel_bel B2 B2.size g2
            clear g2 k6 m2 m3 x0 x1 x2 x3
            go_wp2_with fail
            refine (num6_ E _).mono ?_
            rintro e wx2 ⟨rfl, rfl⟩
            go_wp2_with fail
            go_roundw
            case rel => exact ⟨j + 1, R2, by omega, by omega, by go_num, HR2.out, HB2, r2, B2⟩
            case measure => simp [intOf]; omega
    · have hd : ¬ (j < n ∧ j < 60) := hlt
      by_cases hjn2 : j < n
      · have hI1 : (j : Int) < (n : Int) := by omega
        have hI2 : ¬ (j : Int) < 60 := by omega
        clear hlt hd
        go_wp2_with fail
        go_ret
        exact ⟨rfl, B0⟩
      · have hI1 : ¬ (j : Int) < (n : Int) := by omega
        clear hlt hd
        go_wp2_with fail
        go_ret
        exact ⟨rfl, B0⟩
end Go.Proofs.YtajjilheellfeabDoor
