import Derived.Test.YtcaecfdeieoenaaTD
import Derived.Test.YtcaecfdeieoenaaQC
import Derived.Shelf.SlSortCmp.NoneTotal
namespace Go.Proofs.Ytcaecfdeieoenaa
set_option maxRecDepth 100000
open Go.RowKit Go.Shelf
set_option linter.unusedVariables false

theorem grow_of {w w' : World} (hb : Below w.heap.size w w') (hd : w.drawn ≤ w'.drawn) : ∃ q os, w' = Go.Sort.grow (w.drewN q) os := by
  refine ⟨w'.drawn - w.drawn, w'.heap.extract w.heap.size w'.heap.size, ?_⟩
  have hh : w'.heap = w.heap ++ w'.heap.extract w.heap.size w'.heap.size := by
    refine Array.ext_getElem? (fun i => ?_)
    rw [Array.getElem?_append]
    split
    · rename_i h
      exact hb.block i h
    · rename_i h
      rw [Array.getElem?_extract]
      have := hb.size
      by_cases hi : i < w'.heap.size
      · rw [if_pos (by omega)]
        congr 1
        omega
      · rw [if_neg (by omega), Array.getElem?_eq_none (by omega)]
  have h1 := hb.os
  have h2 := hb.tape
  have h3 := hb.output
  obtain ⟨heap', tape', drawn', os', output'⟩ := w'
  simp only at hh h1 h2 h3 hd
  subst h1 h2 h3
  unfold Go.Sort.grow
  simp only [World.drewN]
  rw [← hh]
  congr 1
  omega
set_option maxHeartbeats 1000000 in
theorem cmp30_ (x y : Nat × Wy) (w : World) (lx rx ly ry : Value) (nx : Nm w x.1 x.2 lx rx) (ny : Nm w y.1 y.2 ly ry) (hx : x.2.In) (hy : y.2.In) :
    Calls Try.prog 30 #[.pointer (some ⟨x.1, 0, none⟩), .pointer (some ⟨y.1, 0, none⟩)] w fun e w' => e = .returned (.int .i64 (x.2.cm y.2)) ∧ Below w.heap.size w w' ∧ w.drawn ≤ w'.drawn := by
  obtain ⟨xb, x⟩ := x
  obtain ⟨yb, y⟩ := y
  simp only at *
  have kc := fun w => compareD_ x.F x.H x.L x.B y.F y.H y.L y.B w hx.1 hx.2.1 hx.2.2.1 hx.2.2.2.1 hy.1 hy.2.1 hy.2.2.1 hy.2.2.2.1
  have HC : Hid (cp x.F x.H x.L x.B y.F y.H y.L y.B = x.cm y) := rfl
  rw [HC.out] at kc
  go_enter Try.func30, Try.ntmps30
  go_wp2_with fail
  refine wp_region_held_drew (S := fun wx => Nm wx xb x lx rx ∧ Nm wx yb y ly ry) (by kernel_rfl) ⟨nx.drew, ny.drew⟩ (fun hHeld => ?_)
  have D0 : w.drawn ≤ w.drew.drawn := Nat.le_succ _
  have B0 : Below w.heap.size w w.drew := bel_drew1 (Below.refl _ _)
  replace nx := nx.drew
  replace ny := ny.drew
  generalize w.drew = wd at *
  refine take_to 0 5 (.pointer (some ⟨xb, 0, none⟩)) rfl rfl (by kernel_rfl) (by kernel_rfl) (by kernel_rfl) (fun _ _ _ h => h) (Or.inl ⟨by rfl, fun w' h => ?_⟩) hHeld ?_
  · go_simp
  try simp only [List.setIfInBounds_toArray, List.set_cons_zero, List.set_cons_succ]
  refine take_to 1 6 (.pointer (some ⟨xb, 0, none⟩)) rfl rfl (by kernel_rfl) (by kernel_rfl) (by kernel_rfl) (fun _ _ _ h => h) (Or.inl ⟨by rfl, fun w' h => ?_⟩) hHeld ?_
  · go_simp
  try simp only [List.setIfInBounds_toArray, List.set_cons_zero, List.set_cons_succ]
  refine take_to 2 7 (.pointer (some ⟨xb, 0, none⟩)) rfl rfl (by kernel_rfl) (by kernel_rfl) (by kernel_rfl) (fun _ _ _ h => h) (Or.inl ⟨by rfl, fun w' h => ?_⟩) hHeld ?_
  · go_simp
  try simp only [List.setIfInBounds_toArray, List.set_cons_zero, List.set_cons_succ]
  refine take_to 3 8 (.agg #[.int .i64 x.F, .int .u64 x.H, .int .u64 x.L, .int .i64 x.B]) rfl rfl (by kernel_rfl) (by kernel_rfl) (by kernel_rfl) (fun _ _ _ h => h) (Or.inl ⟨by rfl, fun w' h => ?_⟩) hHeld ?_
  · have x0 := Nm.c0 h.1; have x1 := Nm.c1 h.1; have x2 := Nm.c2 h.1; have x3 := Nm.c3 h.1
    go_simp
  try simp only [List.setIfInBounds_toArray, List.set_cons_zero, List.set_cons_succ]
  refine take_to 4 9 (.pointer (some ⟨yb, 0, none⟩)) rfl rfl (by kernel_rfl) (by kernel_rfl) (by kernel_rfl) (fun _ _ _ h => h) (Or.inl ⟨by rfl, fun w' h => ?_⟩) hHeld ?_
  · go_simp
  try simp only [List.setIfInBounds_toArray, List.set_cons_zero, List.set_cons_succ]
  refine take_to 5 10 (.pointer (some ⟨yb, 0, none⟩)) rfl rfl (by kernel_rfl) (by kernel_rfl) (by kernel_rfl) (fun _ _ _ h => h) (Or.inl ⟨by rfl, fun w' h => ?_⟩) hHeld ?_
  · go_simp
  try simp only [List.setIfInBounds_toArray, List.set_cons_zero, List.set_cons_succ]
  refine take_to 6 11 (.pointer (some ⟨yb, 0, none⟩)) rfl rfl (by kernel_rfl) (by kernel_rfl) (by kernel_rfl) (fun _ _ _ h => h) (Or.inl ⟨by rfl, fun w' h => ?_⟩) hHeld ?_
  · go_simp
  try simp only [List.setIfInBounds_toArray, List.set_cons_zero, List.set_cons_succ]
  refine take_to 7 12 (.agg #[.int .i64 y.F, .int .u64 y.H, .int .u64 y.L, .int .i64 y.B]) rfl rfl (by kernel_rfl) (by kernel_rfl) (by kernel_rfl) (fun _ _ _ h => h) (Or.inl ⟨by rfl, fun w' h => ?_⟩) hHeld ?_
  · have x0 := Nm.c0 h.2; have x1 := Nm.c1 h.2; have x2 := Nm.c2 h.2; have x3 := Nm.c3 h.2
    go_simp
  try simp only [List.setIfInBounds_toArray, List.set_cons_zero, List.set_cons_succ]
  refine wpAnyH_ready (rs := [8]) (by kernel_rfl) (by simp) ?_
  refine AllReadyH.cons rfl (fun K hK => ?_) AllReadyH.nil
  rw [if_pos (by rfl)]
  go_wp2_with fail
  refine (kc _).mono ?_
  rintro e wa ⟨rfl, g2, d2⟩
  replace nx := nx.kept g2
  replace ny := ny.kept g2
  replace B0 := bel_bel B0 B0.size g2
  replace D0 := Nat.le_trans D0 d2
  clear hHeld
  try go_wp2_with fail
  refine hK.out _ _ ⟨nx, ny⟩ (fun hHeld => ?_)
  clear hK K
  try simp only [Act.put, List.setIfInBounds_toArray, List.set_cons_zero, List.set_cons_succ]
  refine take_to 9 4 (.int .i64 (x.cm y)) rfl rfl (by kernel_rfl) (by kernel_rfl) (by kernel_rfl) (fun _ _ _ h => h) (Or.inl ⟨by rfl, fun w' h => ?_⟩) hHeld ?_
  · go_simp
  try simp only [List.setIfInBounds_toArray, List.set_cons_zero, List.set_cons_succ]
  refine wpAnyH_done (by kernel_rfl) ?_ _
  go_wp2_with fail
  go_ret
  exact ⟨rfl, B0, D0⟩
/-- The order of nodes. -/
def cfn (zs : List (Nat × Wy)) (x y : { z : Nat × Wy // z ∈ zs }) : Int := x.1.2.cm y.1.2
theorem swo_cfn (zs : List (Nat × Wy)) : Go.Sort.SWO (ltOf (cfn zs)) := by
  constructor
  · intro x
    unfold ltOf cfn
    refine decide_eq_false ?_
    rw [cm_lt]
    omega
  · intro x y z h1 h2
    unfold ltOf cfn at *
    have h1 := of_decide_eq_true h1
    have h2 := of_decide_eq_true h2
    exact decide_eq_true (cm_trans h1 h2)
  · intro x y z h1 h2
    unfold ltOf cfn at *
    have h1 := of_decide_eq_false h1
    have h2 := of_decide_eq_false h2
    refine decide_eq_false ?_
    rw [cm_lt] at *
    omega
theorem heap_sortW {α : Type} [Inhabited α] (enc : α → Value) (w : World) (g m : Nat) (dk : Array α) (os : Array Obj) {k : Nat} (hk : k < w.heap.size) (hn : k ≠ g) : (sortWorld enc w g 0 m dk os).heap[k]? = w.heap[k]? := by
  unfold sortWorld
  rw [Go.Sort.heap_grow_old _ _ (by rw [size_putRow]; exact hk)]
  simp [Go.Sort.putRow, Go.Sort.mapBlock, Go.Sort.ahead, Array.getElem?_modify, Ne.symm hn]
theorem type_sortW {α : Type} [Inhabited α] (enc : α → Value) (w : World) (g m : Nat) (dk : Array α) (os : Array Obj) {cur : Array Value} {t : TypeId} (hg : w.heap[g]? = some (.cells cur t (0, 0))) : ∃ cur', (sortWorld enc w g 0 m dk os).heap[g]? = some (.cells cur' t (0, 0)) := by
  unfold sortWorld
  rw [Go.Sort.heap_grow_old _ _ (by rw [size_putRow]; exact (Array.getElem?_eq_some_iff.1 hg).1)]
  refine ⟨Go.Sort.putCells enc 0 dk cur, ?_⟩
  simp [Go.Sort.putRow, Go.Sort.mapBlock, Go.Sort.ahead, Array.getElem?_modify, hg]
  rfl
set_option maxHeartbeats 1000000 in
theorem sort_ (w : World) (zs : List (Nat × Wy)) (hz : zs ≠ []) (g cap : Nat) (cur : Array Value) (hg : w.heap[g]? = some (.cells cur 73 (0, 0))) (hc : ∀ (j : Nat) (z : Nat × Wy), zs[j]? = some z → cur[j]? = some (Value.pointer (some ⟨z.1, 0, none⟩)))
    (hn : ∀ z ∈ zs, ∃ l r, Nm w z.1 z.2 l r) (hi : ∀ z ∈ zs, z.2.In) (hl : zs.length ≤ 1000000) :
    Calls Try.prog 29 #[.slice (some ⟨g, 0, none⟩) zs.length cap, .func (.func 30) #[] #[]] w fun e w' => e = .returned (.tuple #[]) ∧ ∃ ys : List (Nat × Wy), ys.Perm zs ∧ ys.Pairwise (fun a b => ¬ b.2.cm a.2 < 0) ∧
      (∃ cur', w'.heap[g]? = some (.cells cur' 73 (0, 0)) ∧ ∀ (j : Nat) (z : Nat × Wy), ys[j]? = some z → cur'[j]? = some (Value.pointer (some ⟨z.1, 0, none⟩))) ∧ w.grownBy w' (some g) := by
  have hgl := (Array.getElem?_eq_some_iff.1 hg).1
  have hng : ∀ z ∈ zs, z.1 ≠ g := fun z hz' e => by
    obtain ⟨l, r, h⟩ := hn z hz'
    unfold Nm at h
    rw [e, hg] at h
    simp at h
  obtain ⟨xs, hxs⟩ := subs zs (fun z hz => hz)
  have hxl : xs.length = zs.length := by
    have := congrArg List.length hxs
    rw [List.length_map] at this
    exact this
  obtain ⟨z0, hz0⟩ := List.exists_mem_of_ne_nil zs hz
  have inst : Inhabited { z : Nat × Wy // z ∈ zs } := ⟨⟨z0, hz0⟩⟩
  have hH : Go.Sort.Holds (fun x : { z : Nat × Wy // z ∈ zs } => Value.pointer (some ⟨x.1.1, 0, none⟩)) w g 0 xs.toArray := fun j hj => by
    have hj' : j < xs.length := by simpa using hj
    have e1 : xs.toArray[j]! = xs[j] := by simp [hj']
    have e2 : zs[j]? = some xs[j].1 := (congrArg (fun l => l[j]?) hxs).symm.trans (by simp only [List.getElem?_map, List.getElem?_eq_getElem hj']; rfl)
    refine ⟨?_, by simp [World.frozen?, hg]⟩
    rw [Nat.zero_add, cell_of_row w g j _ _ (0, 0) hg, hc j _ e2, e1]
  have eg : ∀ args w, (callFunc 30 args).run Try.prog w = .ok (.enter 30 args) w := enters_of Try.func30 (by kernel_rfl) rfl
  have hcmp : CmpLays1 Try.prog 30 #[] (fun x : { z : Nat × Wy // z ∈ zs } => Value.pointer (some ⟨x.1.1, 0, none⟩)) (cfn zs) g 0 xs.toArray.size w := fun m os dk hdk x y => by
    obtain ⟨lx, rx, nx⟩ := hn x.1 x.2
    obtain ⟨ly, ry, ny⟩ := hn y.1 y.2
    refine (cmp30_ x.1 y.1 _ lx rx ly ry (nx.at (heap_sortW _ w g m dk os nx.lt (hng _ x.2))) (ny.at (heap_sortW _ w g m dk os ny.lt (hng _ y.2))) (hi _ x.2) (hi _ y.2)).mono ?_
    rintro e w' ⟨rfl, h2, h3⟩
    obtain ⟨q, os', h4⟩ := grow_of h2 h3
    exact ⟨rfl, q, os', h4⟩
  have hS := Any.slices_SortFunc Try.sortL (fun x : { z : Nat × Wy // z ∈ zs } => Value.pointer (some ⟨x.1.1, 0, none⟩)) (fun _ => rfl) (cfn zs) (swo_cfn zs) 30 #[] g 0 cap xs.toArray w eg hcmp hH hgl (by simp; omega)
  have hsz : xs.toArray.size = zs.length := by simpa using hxl
  rw [hsz] at hS
  refine Calls.mono (show Calls Try.prog 29 _ _ _ from hS) ?_
  rintro e w' ⟨rfl, d', n, os, hp, hs, rfl⟩
  have hd : d'.size = zs.length := hp.1.trans hsz
  refine ⟨rfl, d'.toList.map (·.1), ?_, ?_, ?_, ?_⟩
  · have h3 := hp.2.2
    have e1 : d'.extract 0 zs.length = d' := by rw [← hd]; simp
    have e2 : xs.toArray.extract 0 zs.length = xs.toArray := by rw [← hsz]; simp
    rw [e1, e2] at h3
    have := h3.map (·.1)
    rw [hxs] at this
    exact this
  · rw [List.pairwise_map, List.pairwise_iff_getElem]
    intro i j h1 h2 hij
    have hi' : i < d'.size := by simpa using h1
    have hj' : j < d'.size := by simpa using h2
    have := hs i j (Nat.zero_le _) hij (by omega)
    unfold ltOf cfn at this
    rw [getElem!_pos d' j hj', getElem!_pos d' i hi'] at this
    exact of_decide_eq_false this
  · obtain ⟨cur', hc'⟩ := type_sortW (fun x : { z : Nat × Wy // z ∈ zs } => Value.pointer (some ⟨x.1.1, 0, none⟩)) w g n d' os hg
    refine ⟨cur', hc', fun j z hjz => ?_⟩
    have hH' := SW.holds (⟨n, os, rfl⟩ : SW _ w g 0 d' _) hgl hH (by rw [hd, hsz])
    rw [List.getElem?_map] at hjz
    have hj' : j < d'.size := by
      refine Nat.lt_of_not_le (fun hh => ?_)
      rw [List.getElem?_eq_none (by simpa using hh)] at hjz
      cases hjz
    rw [List.getElem?_eq_getElem (by simpa using hj')] at hjz
    simp at hjz
    have := (hH' j hj').1
    rw [Nat.zero_add, cell_of_row _ g j _ _ (0, 0) hc', getElem!_pos d' j hj'] at this
    rw [← hjz]
    exact this
  · refine ⟨rfl, rfl, rfl, ?_, fun k hk hne => heap_sortW _ w g n d' os hk (fun e => hne (by rw [e]))⟩
    exact SW.le (⟨n, os, rfl⟩ : SW _ w g 0 d' _)
end Go.Proofs.Ytcaecfdeieoenaa
