import Derived.Test.YtcbmgpmjnehjdaaGreatS3
import Derived.Deep.RegionHeld
import Derived.Laws.CopyOwn
import Derived.Deep.OwnRows
import Derived.Laws.Bits64b
namespace Go.Proofs.YtcbmgpmjnehjdaaGreat
set_option maxRecDepth 100000
open Go.RowKit
set_option linter.unusedVariables false

/-- The numbers of an int. -/
def InIC (x : Int) : Prop := -9223372036854775808 ≤ x ∧ x ≤ 9223372036854775807
def wti (x m : Int) : Bool := decide (0 ≤ x ∧ x ≤ m)
theorem within_ (x m : Int) (w : World) :
    Calls Tryz.prog 147 #[.int .i64 x, .int .i64 m] w fun e w' => e = .returned (.bool (wti x m)) ∧ w' = w := by
  go_enter Tryz.func147, Tryz.ntmps147
  go_wp2_with fail
  all_goals
    go_ret
    refine ⟨ret_bool ?_, rfl⟩
    unfold wti
    first
      | exact (decide_eq_true (by omega)).symm
      | exact (decide_eq_false (by omega)).symm
      | exact decide_eq_decide.2 (by omega)
set_option maxHeartbeats 400000 in
theorem svalid_ (s n : Int) (w : World) (hs : InIC s) (hn : InIC n) :
    Calls Tryz.prog 116 #[.agg #[.int .i64 s, .int .i64 n]] w fun e w' => e = .returned (.bool (vld s n)) ∧ Below w.heap.size w w' := by
  have B0 := snew1 w s n
  have HV : Hid (vld s n = (wti s 9223372036854775807 && wti n 999999999)) := by
    show _ = _
    unfold vld wti InIC at *
    rw [← Bool.decide_and]
    exact decide_eq_decide.2 (by omega)
  go_enter Tryz.func116, Tryz.ntmps116
  go_wp2_with fail
  refine (within_ _ _ _).mono ?_
  rintro e w1 ⟨rfl, rfl⟩
  cases h1 : wti s 9223372036854775807 with
  | false =>
    go_wp2_with fail
    go_ret
    exact ⟨ret_bool (by rw [HV.out, h1]; rfl), B0⟩
  | true =>
    go_wp2_with fail
    refine (within_ _ _ _).mono ?_
    rintro e w1 ⟨rfl, rfl⟩
    go_wp2_with fail
    go_ret
    exact ⟨ret_bool (by rw [HV.out, h1]; rfl), B0⟩
end Go.Proofs.YtcbmgpmjnehjdaaGreat
namespace Go.Proofs.YtcbmgpmjnehjdaaGreat
set_option maxRecDepth 100000
open Go.RowKit
set_option linter.unusedVariables false

/-- A row of bytes in a block of its own. -/
def Rx (w : World) (g t : Nat) (zs : List Int) : Prop := w.heap[g]? = some (.cells (cells zs).toArray t (0, 0))
theorem Rx.lt {w : World} {g t : Nat} {zs : List Int} (h : Rx w g t zs) : g < w.heap.size := (Array.getElem?_eq_some_iff.1 h).1
theorem Rx.cell {w : World} {g t : Nat} {zs : List Int} (h : Rx w g t zs) (i : Nat) (hi : i < zs.length) : w.cell? ⟨g, i, none⟩ = some (.int .u8 (zs.getD i 0)) := by
  rw [cell_of_row w g i _ t (0, 0) h]
  simp [cells, List.getD, hi]
theorem Rx.fz {w : World} {g t : Nat} {zs : List Int} (h : Rx w g t zs) (i : Nat) : w.frozen? ⟨g, i, none⟩ = false := by unfold Rx at h; simp [World.frozen?, h]
theorem Rx.at {w w' : World} {g t : Nat} {zs : List Int} (h : Rx w g t zs) (e : w'.heap[g]? = w.heap[g]?) : Rx w' g t zs := by unfold Rx at *; rw [e]; exact h
theorem Rx.kept {w w' : World} {g t : Nat} {zs : List Int} (h : Rx w g t zs) (hb : Below w.heap.size w w') : Rx w' g t zs := h.at (hb.block g h.lt)
theorem Rx.set {w : World} {g t : Nat} {zs : List Int} (h : Rx w g t zs) (i : Nat) (x : Int) : Rx (w.setCell ⟨g, i, none⟩ (.int .u8 x)) g t (zs.set i x) := by
  unfold Rx at *
  simp [World.setCell, Array.getElem?_modify, h, cells, List.map_set]
theorem setCell_other6 (w : World) (g i j : Nat) (v : Value) (h : j ≠ g) : (w.setCell ⟨g, i, none⟩ v).heap[j]? = w.heap[j]? := by
  simp [World.setCell, Array.getElem?_modify, Ne.symm h]
theorem setCell_size6 (w : World) (g i : Nat) (v : Value) : (w.setCell ⟨g, i, none⟩ v).heap.size = w.heap.size := by simp [World.setCell]
theorem list_extI {a b : List Int} (hl : a.length = b.length) (h : ∀ i, i < a.length → a.getD i 0 = b.getD i 0) : a = b := by
  apply List.ext_getElem hl
  intro i h1 h2
  have := h i h1
  simpa [List.getD, h1, h2] using this
/-- The first j of bs laid down from off on. -/
def lj (zs : List Int) (off : Nat) (bs : List Int) (j : Nat) : List Int := (List.range zs.length).map fun i => if off ≤ i ∧ i < off + j then bs.getD (i - off) 0 else zs.getD i 0
theorem lj_length (zs : List Int) (off : Nat) (bs : List Int) (j : Nat) : (lj zs off bs j).length = zs.length := by simp [lj]
theorem lj_get (zs : List Int) (off : Nat) (bs : List Int) (j i : Nat) (h : i < zs.length) : (lj zs off bs j).getD i 0 = if off ≤ i ∧ i < off + j then bs.getD (i - off) 0 else zs.getD i 0 := by simp [lj, List.getD, h]
theorem lj_zero (zs : List Int) (off : Nat) (bs : List Int) : lj zs off bs 0 = zs := by
  refine list_extI (lj_length _ _ _ _) fun i hi => ?_
  rw [lj_length] at hi
  rw [lj_get _ _ _ _ _ hi, if_neg (by omega)]
theorem lj_step (zs : List Int) (off : Nat) (bs : List Int) (j : Nat) (h : off + j < zs.length) : (lj zs off bs j).set (off + j) (bs.getD j 0) = lj zs off bs (j + 1) := by
  refine list_extI (by rw [List.length_set, lj_length, lj_length]) fun i hi => ?_
  rw [List.length_set, lj_length] at hi
  rw [lj_get _ _ _ _ _ hi]
  by_cases e : i = off + j
  · subst e
    rw [if_pos (by omega), Nat.add_sub_cancel_left]
    simp only [List.getD, List.getElem?_set_self (show off + j < (lj zs off bs j).length by rw [lj_length]; exact hi), Option.getD_some]
  · have : ((lj zs off bs j).set (off + j) (bs.getD j 0)).getD i 0 = (lj zs off bs j).getD i 0 := by simp only [List.getD, List.getElem?_set_ne (Ne.symm e)]
    rw [this, lj_get _ _ _ _ _ hi]
    by_cases h1 : off ≤ i ∧ i < off + j
    · rw [if_pos h1, if_pos (by omega)]
    · rw [if_neg h1, if_neg (by omega)]
/-- What a call that writes into block g alone leaves. -/
structure Oth (g : Nat) (w w' : World) : Prop where
  os : w'.os = w.os
  tape : w'.tape = w.tape
  output : w'.output = w.output
  size : w'.heap.size = w.heap.size
  block : ∀ j, j ≠ g → w'.heap[j]? = w.heap[j]?
theorem Oth.refl (g : Nat) (w : World) : Oth g w w := ⟨rfl, rfl, rfl, rfl, fun _ _ => rfl⟩
theorem Oth.set {g : Nat} {w w' : World} (h : Oth g w w') (i : Nat) (v : Value) : Oth g w (w'.setCell ⟨g, i, none⟩ v) :=
  ⟨h.os, h.tape, h.output, by rw [setCell_size6]; exact h.size, fun j hj => by rw [setCell_other6 _ _ _ _ _ hj]; exact h.block j hj⟩
theorem Oth.below {g B : Nat} {a w w' : World} (h : Oth g w w') (hb : Below B a w) (hB : B ≤ g) : Below B a w' :=
  hb.trans ⟨h.os, h.tape, h.output, Nat.le_of_eq h.size.symm, fun k hk => h.block k (by omega)⟩
set_option maxHeartbeats 400000 in
theorem layNumber_ (g off k cap t : Nat) (zs : List Int) (x : Int) (w : World) (hx : Rx w g t zs) (hk : k ≤ 8) (hk1 : off + k ≤ zs.length) :
    Calls Tryz.prog 119 #[.slice (some ⟨g, off, none⟩) k cap, .int .i64 x] w fun e w' => e = .returned (.tuple #[]) ∧ Rx w' g t (lj zs off (be k x) k) ∧ Oth g w w' := by
  have HX := hid hx
  clear hx
  go_enter Tryz.func119, Tryz.ntmps119
  go_wp2_with fail
  go_loopw [7] (fun i wr => ∃ j : Nat, j ≤ k ∧ i = .int .i64 j ∧ Rx wr g t (lj zs off (be k x) j) ∧ Oth g w wr) (fun i _ => k - (intOf i).toNat)
  case atStart => exact ⟨0, by omega, rfl, by rw [lj_zero]; exact HX.out, Oth.refl _ _⟩
  case round =>
    obtain ⟨j, hj, rfl, hr, ho⟩ := hrel
    by_cases hlt : j < k
    · have hI : (j : Int) < (k : Int) := by omega
      have cc := hr.cell (off + j) (by rw [lj_length]; omega)
      have fz := hr.fz (off + j)
      have h2 := hr.set (off + j) ((be k x).getD j 0)
      rw [lj_step _ _ _ _ (by omega), be_get k x j hlt, pow_256] at h2
      have o2 := ho.set (off + j) (.int .u8 (x / 2 ^ (8 * (k - 1 - j)) % 256))
      have e1 : (k : Int) - 1 - (j : Int) = ((k - 1 - j : Nat) : Int) := by omega
      obtain ⟨m, hm⟩ : ∃ m, k - 1 - j = m := ⟨_, rfl⟩
      have hm8 : m < 8 := by omega
      rw [hm] at h2 o2 e1
      generalize (lj zs off (be k x) j).getD (off + j) 0 = y at *
      clear hr ho
      go_wp2_with fail
      go_roundw
      case rel => exact ⟨j + 1, by omega, by go_num, h2, o2⟩
      case measure => simp [intOf]; omega
    · have hI : ¬ (j : Int) < (k : Int) := by omega
      rw [show j = k from by omega] at hr
      go_wp2_with fail
      refine bodyPost_end (results_none rfl _ _ _) rfl ?_
      exact ⟨rfl, hr, ho⟩
theorem lj_two (s n : Int) : lj (lj (List.replicate 12 0) 0 (be 8 s) 8) 8 (be 4 n) 4 = be 8 s ++ be 4 n := by
  have l8 : (be 8 s).length = 8 := be_length 8 s
  have l4 : (be 4 n).length = 4 := be_length 4 n
  refine list_extI (by rw [lj_length, lj_length, List.length_append, l8, l4]; rfl) fun i hi => ?_
  rw [lj_length, lj_length, List.length_replicate] at hi
  rw [lj_get _ _ _ _ _ (by rw [lj_length, List.length_replicate]; exact hi)]
  by_cases h8 : i < 8
  · rw [if_neg (by omega), lj_get _ _ _ _ _ (by rw [List.length_replicate]; exact hi), if_pos (by omega), Nat.sub_zero]
    simp only [List.getD, List.getElem?_append_left (show i < (be 8 s).length by omega)]
  · rw [if_pos (by omega)]
    simp only [List.getD, List.getElem?_append_right (show (be 8 s).length ≤ i by omega), l8]
/-- What yields its value in every world that meets S may be taken first. -/
theorem take_toC {ops : Array Oper} {Q : Exit → Act → World → Prop} {md : Region.Mode} {S : World → Prop} {oi : Oper} {fuel : Nat} {listed : Array Bool} {a : Act} {w : World} (i d : Nat) (v : Value) (hi : ops[i]? = some oi) (hd : oi.dst = some d)
    (hs : Region.noSelect ops = true) (hf : Region.free md ops listed i = true) (hr : (Region.ready md ops listed).contains i = true)
    (hQ : ∀ c a w, Q (.panic c) (a.put oi.dst v) w → Q (.panic c) a w) (hy : YieldsIf Tryz.prog ops S oi v a) (hS : S w)
    (h : wpAnyH Tryz.prog md ops Q S fuel (listed.setIfInBounds i true) ⟨a.tmps.setIfInBounds d v, a.defers⟩ w) : wpAnyH Tryz.prog md ops Q S (fuel + 1) listed a w :=
  wpAnyH_take hi hs hf hr hQ hy hS (by rw [hd]; exact h)
theorem bel_drew1C {B : Nat} {a b : World} (h : Below B a b) : Below B a b.drew := h.trans ⟨rfl, rfl, rfl, Nat.le_refl _, fun _ _ => rfl⟩
theorem Sm.drew {w : World} {g : Nat} {s n : Int} (h : Sm w g s n) : Sm w.drew g s n := h
theorem Rx.drew {w : World} {g t : Nat} {zs : List Int} (h : Rx w g t zs) : Rx w.drew g t zs := h
theorem Rx.new12 (w : World) (t : Nat) : Rx (w.alloc (.cells #[.int .u8 0, .int .u8 0, .int .u8 0, .int .u8 0, .int .u8 0, .int .u8 0, .int .u8 0, .int .u8 0, .int .u8 0, .int .u8 0, .int .u8 0, .int .u8 0] t)) w.heap.size t (List.replicate 12 0) := heap_alloc_new w _
def z12 : List Int := [0, 0, 0, 0, 0, 0, 0, 0, 0, 0, 0, 0]
theorem make12 (w : World) : (Instr.makeSlice 52 (.int .i64 12) (.int .i64 12)).run Tryz.prog w = .ok (.slice (some ⟨w.heap.size, 0, none⟩) 12 12) (w.alloc (.cells (cells (z12)).toArray 5)) := by
  have := run_make_row' (P := Tryz.prog) 52 5 (.int .u8 0) 1 Tryz.underlying52 info5 rfl .i64 .i64 12 (by omega) (by omega) w
  have e : madeCells #[Value.int .u8 0] 12 = (cells (z12)).toArray := by kernel_rfl
  rw [e] at this
  exact this
theorem cells_len6 (l : List Int) : (cells l).length = l.length := by simp [cells]
theorem cells_one6 (l : List Int) : ∀ v ∈ cells l, v.oneCell' = true := by
  intro v hv
  obtain ⟨z, _, rfl⟩ := List.mem_map.1 hv
  rfl
theorem copy_src {w : World} {g t : Nat} {L : List Int} {o : Obj} (h : Rx w g t L) (hg : g < w.heap.size) (j : Nat) (v : Value) (hv : (cells L)[j]? = some v) : (w.alloc o).cell? ((⟨g, 0, none⟩ : Addr).add j) = some v := by
  have h2 : Rx (w.alloc o) g t L := h.at (Below.heap_alloc _ _ _ hg)
  have hj : j < L.length := by
    have := (List.getElem?_eq_some_iff.1 hv).1
    rwa [cells_len6] at this
  rw [Addr.add_lit, Nat.zero_add, h2.cell j hj]
  rw [← hv]
  simp [cells, List.getD, hj]
theorem splice12 (L : List Int) (h : L.length = 12) : splice (cells (z12)) 0 (cells L) = cells L := by
  unfold splice
  rw [cells_len6, h]
  have : (cells (z12)).drop (0 + 12) = [] := rfl
  rw [this, List.append_nil, List.take_zero, List.nil_append]
theorem own12 {w : World} {g B : Nat} {L : List Int} (h : w.heap[g]? = some (.cells (cells L).toArray 5 (0, 0))) (hl : L.length = 12) (hB : B ≤ g) : w.ownsRow B 5 1 (.slice (some ⟨g, 0, none⟩) 12 12) 12 (cells L) :=
  ⟨by rw [cells_len6, hl], .inr ⟨g, 12, _, rfl, hB, h, Nat.le_refl _, by unfold maxLen; omega, by simp [cells_len6, hl], by
    rw [List.take_of_length_le (by simp [cells_len6, hl])]⟩⟩
set_option maxHeartbeats 1000000 in
theorem sput_ (s n : Int) (w : World) (hs : InIC s) (hn : InIC n) :
    Calls Tryz.prog 80 #[.agg #[.int .i64 s, .int .i64 n]] w fun e w' => ∃ v, e = .returned v ∧ w'.ownsRow w.heap.size 5 1 v (pt s n).length (cells (pt s n)) ∧ Below w.heap.size w w' := by
  have B0 := snew1 w s n
  have m0 := Sm.new w s n
  go_enter Tryz.func80, Tryz.ntmps80
  go_wp2_with fail
  refine (svalid_ s n _ hs hn).mono ?_
  rintro e w1 ⟨rfl, g2⟩
  replace m0 := m0.kept g2
  replace B0 := bel_bel B0 B0.size g2
  clear g2
  cases hv : vld s n with
  | false =>
    go_wp2_with fail
    go_ret
    have e : pt s n = [] := by unfold pt; rw [hv]; rfl
    rw [e]
    exact ⟨_, rfl, World.ownsRow_nil _ _ _ _, B0⟩
  | true =>
    have e : pt s n = be 8 s ++ be 4 n := by unfold pt; rw [hv]; rfl
    have c0 := m0.c0
    have c1 := m0.c1
    have HE := hid e
    clear e
    go_wp2_with fail
    have hg1 : w.heap.size < w1.heap.size := m0.lt
    replace m0 := m0.alloc (.cells #[.int .u8 0, .int .u8 0, .int .u8 0, .int .u8 0, .int .u8 0, .int .u8 0, .int .u8 0, .int .u8 0, .int .u8 0, .int .u8 0, .int .u8 0, .int .u8 0] 169)
    have r0 := Rx.new12 w1 169
    replace B0 := B0.alloc B0.size (.cells #[.int .u8 0, .int .u8 0, .int .u8 0, .int .u8 0, .int .u8 0, .int .u8 0, .int .u8 0, .int .u8 0, .int .u8 0, .int .u8 0, .int .u8 0, .int .u8 0] 169)
    generalize w1.alloc (.cells #[.int .u8 0, .int .u8 0, .int .u8 0, .int .u8 0, .int .u8 0, .int .u8 0, .int .u8 0, .int .u8 0, .int .u8 0, .int .u8 0, .int .u8 0, .int .u8 0] 169) = w2 at *
    generalize w1.heap.size = g at *
    clear c0 c1
    refine wp_region_held_drew (S := fun wx => Sm wx w.heap.size s n) (by kernel_rfl) m0.drew (fun hHeld => ?_)
    replace m0 := m0.drew
    replace r0 := r0.drew
    replace B0 := bel_drew1C B0
    generalize w2.drew = wd at *
    refine take_toC 0 8 (.slice (some ⟨g, 0, none⟩) 8 12) rfl rfl (by kernel_rfl) (by kernel_rfl) (by kernel_rfl) (fun _ _ _ h => h) (Or.inl ⟨by rfl, fun w' _ => ?_⟩) hHeld ?_
    · go_simp
    try simp only [List.setIfInBounds_toArray, List.set_cons_zero, List.set_cons_succ]
    refine take_toC 1 9 (.pointer (some ⟨w.heap.size, 0, none⟩)) rfl rfl (by kernel_rfl) (by kernel_rfl) (by kernel_rfl) (fun _ _ _ h => h) (Or.inl ⟨by rfl, fun w' _ => ?_⟩) hHeld ?_
    · go_simp
    try simp only [List.setIfInBounds_toArray, List.set_cons_zero, List.set_cons_succ]
    refine take_toC 2 10 (.int .i64 s) rfl rfl (by kernel_rfl) (by kernel_rfl) (by kernel_rfl) (fun _ _ _ h => h) (Or.inl ⟨by rfl, fun w' h => ?_⟩) hHeld ?_
    · have cc := Sm.c0 h
      go_simp
    try simp only [List.setIfInBounds_toArray, List.set_cons_zero, List.set_cons_succ]
    refine wpAnyH_ready (rs := [3]) (by kernel_rfl) (by simp) ?_
    refine AllReadyH.cons rfl (fun K hK => ?_) AllReadyH.nil
    rw [if_pos (by rfl)]
    go_wp2_with fail
    refine (layNumber_ g 0 8 12 _ _ s _ r0 (by omega) (by simp)).mono ?_
    rintro e w3 ⟨rfl, r1, o1⟩
    replace m0 := m0.at (o1.block w.heap.size (by omega))
    replace B0 := o1.below B0 (by omega)
    clear o1 r0 hHeld
    try go_wp2_with fail
    refine hK.out _ _ m0 (fun hHeld => ?_)
    clear hK K
    try simp only [Act.put, List.setIfInBounds_toArray, List.set_cons_zero, List.set_cons_succ]
    refine wpAnyH_done (by kernel_rfl) ?_ _
    go_wp2_with fail
    refine wp_region_held_drew (S := fun wx => Sm wx w.heap.size s n) (by kernel_rfl) m0.drew (fun hHeld => ?_)
    replace m0 := m0.drew
    replace r1 := r1.drew
    replace B0 := bel_drew1C B0
    generalize w3.drew = wd at *
    refine take_toC 0 12 (.slice (some ⟨g, 8, none⟩) 4 4) rfl rfl (by kernel_rfl) (by kernel_rfl) (by kernel_rfl) (fun _ _ _ h => h) (Or.inl ⟨by rfl, fun w' _ => ?_⟩) hHeld ?_
    · go_simp
    try simp only [List.setIfInBounds_toArray, List.set_cons_zero, List.set_cons_succ]
    refine take_toC 1 13 (.pointer (some ⟨w.heap.size, 1, none⟩)) rfl rfl (by kernel_rfl) (by kernel_rfl) (by kernel_rfl) (fun _ _ _ h => h) (Or.inl ⟨by rfl, fun w' _ => ?_⟩) hHeld ?_
    · go_simp
    try simp only [List.setIfInBounds_toArray, List.set_cons_zero, List.set_cons_succ]
    refine take_toC 2 14 (.int .i64 n) rfl rfl (by kernel_rfl) (by kernel_rfl) (by kernel_rfl) (fun _ _ _ h => h) (Or.inl ⟨by rfl, fun w' h => ?_⟩) hHeld ?_
    · have cc := Sm.c1 h
      go_simp
    try simp only [List.setIfInBounds_toArray, List.set_cons_zero, List.set_cons_succ]
    refine wpAnyH_ready (rs := [3]) (by kernel_rfl) (by simp) ?_
    refine AllReadyH.cons rfl (fun K hK => ?_) AllReadyH.nil
    rw [if_pos (by rfl)]
    go_wp2_with fail
    refine (layNumber_ g 8 4 4 _ _ n _ r1 (by omega) (by rw [lj_length]; simp)).mono ?_
    rintro e w4 ⟨rfl, r2, o1⟩
    replace m0 := m0.at (o1.block w.heap.size (by omega))
    replace B0 := o1.below B0 (by omega)
    rw [lj_two] at r2
    clear o1 r1 hHeld
    try go_wp2_with fail
    refine hK.out _ _ m0 (fun hHeld => ?_)
    clear hK K
    try simp only [Act.put, List.setIfInBounds_toArray, List.set_cons_zero, List.set_cons_succ]
    refine wpAnyH_done (by kernel_rfl) ?_ _
    clear hHeld m0
    have hL : (be 8 s ++ be 4 n).length = 12 := by rw [List.length_append, be_length, be_length]
    have hmk := make12 w4
    have HL := hid hL
    have HR := hid r2
    have HB := hid B0
    obtain ⟨L, HLL⟩ : ∃ L, Hid (be 8 s ++ be 4 n = L) := ⟨_, rfl⟩
    rw [HLL.out] at HL HR HE
    clear hL r2 B0
    have hg4 : Hid (g < w4.heap.size) := HR.out.lt
    go_wp2_with (refine wpList_copy_splice rfl _ _ _ _ rfl 5 Tryz.underlying52 (by kernel_rfl) _ _ 12 12 12 12 rfl rfl w4.heap.size 0 (cells (z12)) 5 (heap_alloc_new w4 _) (cells L) (by rw [cells_len6, HL.out]; rfl) (fun _ => ⟨rfl, _, rfl, fun j v hv => copy_src HR.out hg4.out j v hv⟩) (by rw [cells_len6, HL.out]; exact Nat.le_refl _) (cells_one6 L) w.heap.size w (HB.out.alloc HB.out.size _) HB.out.size ?_; intro w6 HG hB)
    rw [splice12 L HL.out] at HG
    go_wp2_with fail
    go_ret
    exact ⟨_, rfl, by rw [HE.out, HL.out]; exact own12 HG.out HL.out HB.out.size, hB⟩
end Go.Proofs.YtcbmgpmjnehjdaaGreat
namespace Go.Proofs.YtcbmgpmjnehjdaaGreat
set_option maxRecDepth 100000
open Go.RowKit
set_option linter.unusedVariables false

theorem or8C (v z : Int) (v0 : 0 ≤ v) (v1 : v < 72057594037927936) (z0 : 0 ≤ z) (z1 : z ≤ 255) : bits BinOp.or IntKind.u64 (v * 256) z = v * 256 + z := by
  obtain ⟨a, rfl⟩ := Int.eq_ofNat_of_zero_le v0
  obtain ⟨b, rfl⟩ := Int.eq_ofNat_of_zero_le z0
  have h := bits_or_u64_nat (a * 256) b (by omega) (by omega)
  have e : a * 256 ||| b = a * 256 + b := by
    have := Nat.shiftLeft_add_eq_or_of_lt (a := a) (b := b) (i := 8) (by omega)
    rw [Nat.shiftLeft_eq] at this
    exact this.symm
  rw [e] at h
  rw [show ((a : Int) * 256) = ((a * 256 : Nat) : Int) from by omega, h]
  omega

set_option maxHeartbeats 400000 in
theorem laidNumber_ (b off n c : Nat) (zs : List Int) (w : World) (hl : zs.length = n) (hn : n ≤ 8) (hby : ∀ z ∈ zs, 0 ≤ z ∧ z ≤ 255) (hc : ∀ i, i < n → w.cell? ⟨b, off + i, none⟩ = some (.int .u8 (zs.getD i 0))) :
    Calls Tryz.prog 138 #[.slice (some ⟨b, off, none⟩) n c] w fun e w' => e = .returned (.int .u64 (val zs)) ∧ w' = w := by
  have HC := hid hc
  have HB := hid hby
  have HL := hid hl
  clear hc hby hl
  go_enter Tryz.func138, Tryz.ntmps138
  go_wp2_with fail
  go_loop [3, 8] (fun v i => ∃ j : Nat, j ≤ n ∧ i = .int .i64 j ∧ v = .int .u64 (val (zs.take j))) (fun _ i => n - (intOf i).toNat)
  case atStart => exact ⟨0, by omega, rfl, rfl⟩
  case round =>
    obtain ⟨j, hj, rfl, rfl⟩ := hrel
    by_cases hlt : j < n
    · have hI : (j : Int) < (n : Int) := by omega
      have cc := HC.out j hlt
      have HV := hid (val_take zs j (by rw [HL.out]; omega))
      have u0 := val_bound (zs.take j) (fun z hz => HB.out z (List.mem_of_mem_take hz))
      have ub := getD_byte6 HB.out j
      obtain ⟨V, HV2⟩ : ∃ V, Hid (val (zs.take j) = V) := ⟨_, rfl⟩
      rw [HV2.out] at u0 ⊢
      have hlen : (zs.take j).length = j := by rw [List.length_take, HL.out]; omega
      have hp : (256 : Int) ^ j ≤ 72057594037927936 := by
        have : j = 0 ∨ j = 1 ∨ j = 2 ∨ j = 3 ∨ j = 4 ∨ j = 5 ∨ j = 6 ∨ j = 7 := by omega
        rcases this with rfl | rfl | rfl | rfl | rfl | rfl | rfl | rfl <;> decide
      rw [hlen] at u0
      have hV : V < 72057594037927936 := by omega
      have u00 := u0.1
      generalize zs.getD j 0 = y at *
      have ho := hid (or8C V y u00 hV ub.1 ub.2)
      clear hlen hp u0
      go_wp2_with fail
      go_round
      case rel => exact ⟨j + 1, by omega, by go_num, by rw [HV.out, HV2.out, ho.out]⟩
      case measure => simp [intOf]; omega
    · have hI : ¬ (j : Int) < (n : Int) := by omega
      go_wp2_with fail
      go_ret
      exact ⟨by rw [List.take_of_length_le (by rw [HL.out]; omega)]; rfl, rfl⟩
set_option maxHeartbeats 1000000 in
theorem sget_ (a : Option Addr) (n c : Nat) (zs : List Int) (w : World) (hb : Bs w a n zs) (hnc : n ≤ c) (hcm : c ≤ maxLen) :
    Calls Tryz.prog 99 #[.slice a n c] w fun e w' => e = .returned (.tuple #[.agg #[.int .i64 (qs zs), .int .i64 (qn zs)], .int .i64 (qe zs)]) ∧ Below w.heap.size w w' := by
  have B0 := snew1 w 0 0
  have m0 := Sm.new w 0 0
  unfold maxLen at hcm
  by_cases h12 : n = 12
  · subst h12
    obtain ⟨hl, hby, hcs⟩ := hb
    obtain ⟨b, off, rfl, hc⟩ : ∃ b off, a = some ⟨b, off, none⟩ ∧ ∀ i, i < 12 → w.cell? ⟨b, off + i, none⟩ = some (.int .u8 (zs.getD i 0)) := by
      rcases hcs with h | h
      · omega
      · exact h
    have HC := hid hc
    have HLB : Hid (b < w.heap.size) := World.block_lt_of_cell? w _ (hc 0 (by omega))
    have HB := hid hby
    have HL := hid hl
    clear hc hcs hl hby
    have x1 : (8 : Int) ≤ (c : Int) := by omega
    have HG := hid B0
    go_enter Tryz.func99, Tryz.ntmps99
    go_wp2_with fail
    generalize w.alloc (.cells #[.int .i64 0, .int .i64 0] 62) = w1 at *
    have HC1 : Hid (∀ i, i < 12 → w1.cell? ⟨b, off + i, none⟩ = some (.int .u8 (zs.getD i 0))) := fun i hi => (HG.out.cell HLB.out).trans (HC.out i hi)
    have HB8 : Hid (∀ z ∈ zs.take 8, 0 ≤ z ∧ z ≤ 255) := fun z hz => HB.out z (List.mem_of_mem_take hz)
    have HB4 : Hid (∀ z ∈ zs.drop 8, 0 ≤ z ∧ z ≤ 255) := fun z hz => HB.out z (List.mem_of_mem_drop hz)
    have HL8 : Hid ((zs.take 8).length = 8) := by show _ = _; rw [List.length_take, HL.out]; rfl
    have HL4 : Hid ((zs.drop 8).length = 4) := by show _ = _; rw [List.length_drop, HL.out]
    have k1 := fun w cap hc => laidNumber_ b off 8 cap (zs.take 8) w HL8.out (by omega) HB8.out hc
    have k2 := fun w cap hc => laidNumber_ b (off + 8) 4 cap (zs.drop 8) w HL4.out (by omega) HB4.out hc
    refine wp_region_held_drew (S := fun _ => True) (by kernel_rfl) trivial (fun hHeld => ?_)
    replace m0 := m0.drew
    replace B0 := bel_drew1C B0
    have HC2 : Hid (∀ i, i < 12 → w1.drew.cell? ⟨b, off + i, none⟩ = some (.int .u8 (zs.getD i 0))) := HC1.out
    generalize w1.drew = wd at *
    refine take_toC 0 10 (.slice (some ⟨b, off, none⟩) 12 c) rfl rfl (by kernel_rfl) (by kernel_rfl) (by kernel_rfl) (fun _ _ _ h => h) (Or.inl ⟨by rfl, fun w' _ => ?_⟩) hHeld ?_
    · go_simp
    try simp only [List.setIfInBounds_toArray, List.set_cons_zero, List.set_cons_succ]
    refine take_toC 1 11 (.slice (some ⟨b, off, none⟩) 8 c) rfl rfl (by kernel_rfl) (by kernel_rfl) (by kernel_rfl) (fun _ _ _ h => h) (Or.inl ⟨by rfl, fun w' _ => ?_⟩) hHeld ?_
    · go_simp
    try simp only [List.setIfInBounds_toArray, List.set_cons_zero, List.set_cons_succ]
    refine take_toC 3 13 (.slice (some ⟨b, off, none⟩) 12 c) rfl rfl (by kernel_rfl) (by kernel_rfl) (by kernel_rfl) (fun _ _ _ h => h) (Or.inl ⟨by rfl, fun w' _ => ?_⟩) hHeld ?_
    · go_simp
    try simp only [List.setIfInBounds_toArray, List.set_cons_zero, List.set_cons_succ]
    refine take_toC 4 14 (.slice (some ⟨b, off + 8, none⟩) 4 (c - 8)) rfl rfl (by kernel_rfl) (by kernel_rfl) (by kernel_rfl) (fun _ _ _ h => h) (Or.inl ⟨by rfl, fun w' _ => ?_⟩) hHeld ?_
    · go_simp
      omega
    try simp only [List.setIfInBounds_toArray, List.set_cons_zero, List.set_cons_succ]
    refine wpAnyH_ready (rs := [2]) (by kernel_rfl) (by simp) ?_
    refine AllReadyH.cons rfl (fun K hK => ?_) AllReadyH.nil
    rw [if_pos (by rfl)]
    go_wp2_with fail
    refine (k1 _ _ ?_).mono ?_
    · intro i hi
      rw [HC2.out i (by omega)]
      simp only [List.getD, List.getElem?_take, if_pos hi]
    rintro e w3 ⟨rfl, rfl⟩
    try go_wp2_with fail
    refine hK.out _ _ trivial (fun hHeld => ?_)
    clear hK K
    try simp only [Act.put, List.setIfInBounds_toArray, List.set_cons_zero, List.set_cons_succ]
    refine wpAnyH_ready (rs := [5]) (by kernel_rfl) (by simp) ?_
    refine AllReadyH.cons rfl (fun K hK => ?_) AllReadyH.nil
    rw [if_pos (by rfl)]
    go_wp2_with fail
    refine (k2 _ _ ?_).mono ?_
    · intro i hi
      rw [Nat.add_assoc, HC2.out (8 + i) (by omega)]
      simp only [List.getD, List.getElem?_drop]
    rintro e w3 ⟨rfl, rfl⟩
    try go_wp2_with fail
    refine hK.out _ _ trivial (fun hHeld => ?_)
    clear hK K k1 k2
    try simp only [Act.put, List.setIfInBounds_toArray, List.set_cons_zero, List.set_cons_succ]
    have b8 := val_bound (zs.take 8) HB8.out
    have b4 := val_bound (zs.drop 8) HB4.out
    rw [HL8.out] at b8
    rw [HL4.out] at b4
    have HGK : Hid (gok zs = decide (zs.length = 12 ∧ val (zs.take 8) ≤ 9223372036854775807 ∧ val (zs.drop 8) ≤ 999999999)) := rfl
    have HQG : Hid (gok zs = true → val (zs.take 8) = qs zs ∧ val (zs.drop 8) = qn zs ∧ 0 = qe zs) := fun h => q_good h
    have HQB := hid (q_bad (l := zs))
    generalize val (zs.take 8) = X at *
    generalize val (zs.drop 8) = Y at *
    refine take_toC 6 4 (.int .u64 X) rfl rfl (by kernel_rfl) (by kernel_rfl) (by kernel_rfl) (fun _ _ _ h => h) (Or.inl ⟨by rfl, fun w' _ => ?_⟩) hHeld ?_
    · go_simp
    try simp only [List.setIfInBounds_toArray, List.set_cons_zero, List.set_cons_succ]
    refine take_toC 7 5 (.int .u64 Y) rfl rfl (by kernel_rfl) (by kernel_rfl) (by kernel_rfl) (fun _ _ _ h => h) (Or.inl ⟨by rfl, fun w' _ => ?_⟩) hHeld ?_
    · go_simp
    try simp only [List.setIfInBounds_toArray, List.set_cons_zero, List.set_cons_succ]
    refine wpAnyH_done (by kernel_rfl) ?_ _
    clear hHeld HC HC1 HC2 HG HLB
    by_cases h1 : 9223372036854775807 < X
    · have HE : Hid (gok zs = false) := by show _ = _; rw [HGK.out]; exact decide_eq_false (by omega)
      go_wp2_with (refine wpList_sst rfl rfl _ _ rfl w.heap.size 0 0 rfl rfl 0 0 (by with_reducible exact m0) ?_)
      refine bodyPost_ret (v := .tuple #[.agg #[.int .i64 0, .int .i64 0], .int .i64 60]) ?_ rfl ⟨ret_g (HQB.out HE.out).1 (HQB.out HE.out).2.1 (HQB.out HE.out).2.2, bel_row B0 (Nat.le_refl _) _⟩
      exact results_st rfl _ _ w.heap.size 0 0 _ rfl rfl (m0.row 0 0).c0 (m0.row 0 0).c1
    · by_cases h2 : 999999999 < Y
      · have HE : Hid (gok zs = false) := by show _ = _; rw [HGK.out]; exact decide_eq_false (by omega)
        go_wp2_with (refine wpList_sst rfl rfl _ _ rfl w.heap.size 0 0 rfl rfl 0 0 (by with_reducible exact m0) ?_)
        refine bodyPost_ret (v := .tuple #[.agg #[.int .i64 0, .int .i64 0], .int .i64 60]) ?_ rfl ⟨ret_g (HQB.out HE.out).1 (HQB.out HE.out).2.1 (HQB.out HE.out).2.2, bel_row B0 (Nat.le_refl _) _⟩
        exact results_st rfl _ _ w.heap.size 0 0 _ rfl rfl (m0.row 0 0).c0 (m0.row 0 0).c1
      · have HE : Hid (gok zs = true) := by show _ = _; rw [HGK.out]; exact decide_eq_true ⟨HL.out, by omega, by omega⟩
        have HX := hid (HQG.out HE.out)
        have x0 := b8.1
        have y0 := b4.1
        clear b8 b4
        go_wp2_with (refine wpList_sst rfl rfl _ _ rfl w.heap.size X Y rfl rfl 0 0 (by with_reducible exact m0) ?_)
        refine bodyPost_ret (v := .tuple #[.agg #[.int .i64 X, .int .i64 Y], .int .i64 0]) ?_ rfl ⟨ret_g HX.out.1 HX.out.2.1 HX.out.2.2, bel_row B0 (Nat.le_refl _) _⟩
        exact results_st rfl _ _ w.heap.size X Y _ rfl rfl (m0.row _ _).c0 (m0.row _ _).c1
  · have HE : Hid (gok zs = false) := by
      show _ = _
      unfold gok
      exact decide_eq_false (fun h => h12 (by rw [← hb.1]; exact h.1))
    have d1 : ((n : Int) != 12) = true := bne_iff_ne.2 (by omega)
    clear hb h12
    go_enter Tryz.func99, Tryz.ntmps99
    go_wp2_with (refine wpList_sst rfl rfl _ _ rfl w.heap.size 0 0 rfl rfl 0 0 (by with_reducible exact m0) ?_)
    refine bodyPost_ret (v := .tuple #[.agg #[.int .i64 0, .int .i64 0], .int .i64 60]) ?_ rfl ⟨ret_g (q_bad HE.out).1 (q_bad HE.out).2.1 (q_bad HE.out).2.2, bel_row B0 (Nat.le_refl _) _⟩
    exact results_st rfl _ _ w.heap.size 0 0 _ rfl rfl (m0.row 0 0).c0 (m0.row 0 0).c1
end Go.Proofs.YtcbmgpmjnehjdaaGreat
