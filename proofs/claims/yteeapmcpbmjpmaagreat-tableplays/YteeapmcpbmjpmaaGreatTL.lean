import Derived.Test.YteeapmcpbmjpmaaGreatTK
import Derived.Test.YteeapmcpbmjpmaaGreatShelf
import Derived.Shelf.SlSortCmp.NoneTotal
namespace Go.Proofs.YteeapmcpbmjpmaaGreat
set_option maxRecDepth 100000
open Go.RowKit Go.Shelf Go.Maps
set_option linter.unusedVariables false

/-! The sort. -/
theorem cmpB_swo {n : Nat} (key : Fin n → List Int) : Go.Sort.SWO (ltOf fun x y => cmpB (key x) (key y)) := by
  constructor
  · intro x
    unfold ltOf
    refine decide_eq_false ?_
    rw [cmpB_lt, lx_self]
    decide
  · intro x y z h1 h2
    unfold ltOf at *
    have h1 := of_decide_eq_true h1
    have h2 := of_decide_eq_true h2
    rw [cmpB_lt] at h1 h2
    refine decide_eq_true ?_
    rw [cmpB_lt]
    exact lx_trans h1 h2
  · intro x y z h1 h2
    unfold ltOf at *
    have h1 := of_decide_eq_false h1
    have h2 := of_decide_eq_false h2
    rw [cmpB_lt] at h1 h2
    refine decide_eq_false ?_
    rw [cmpB_lt]
    intro h3
    cases e : lx (key x) (key y) with
    | true => exact h1 e
    | false =>
      cases f : lx (key y) (key z) with
      | true => exact h2 f
      | false =>
        by_cases q : key x = key y
        · rw [q, f] at h3; cases h3
        · have := lx_trans (lx_of_ne q e) h3
          exact h2 this
theorem ext_all {α : Type} (d : Array α) (n : Nat) (h : d.size = n) : d.extract 0 n = d := by subst h; simp
theorem heap_sortG {α : Type} [Inhabited α] (en : α → List Value) (sz : Nat) (w : World) (g m : Nat) (dk : Array α) (os : Array Obj) {k : Nat} (hk : k < w.heap.size) (hn : k ≠ g) : (sortWorldK en sz w g 0 m dk os).heap[k]? = w.heap[k]? := by
  unfold sortWorldK Go.Sort.putRowK
  rw [Go.Sort.heap_grow_old _ _ (by rw [size_putRow]; exact hk)]
  simp [Go.Sort.putRow, Go.Sort.mapBlock, Go.Sort.ahead, Array.getElem?_modify, Ne.symm hn]
theorem type_sortG {α : Type} [Inhabited α] (en : α → List Value) (sz : Nat) (w : World) (g m : Nat) (dk : Array α) (os : Array Obj) {cur : Array Value} {t : TypeId} (hg : w.heap[g]? = some (.cells cur t (0, 0))) : ∃ cur', (sortWorldK en sz w g 0 m dk os).heap[g]? = some (.cells cur' t (0, 0)) ∧ cur'.size = cur.size := by
  unfold sortWorldK Go.Sort.putRowK
  rw [Go.Sort.heap_grow_old _ _ (by rw [size_putRow]; exact (Array.getElem?_eq_some_iff.1 hg).1)]
  refine ⟨Go.Sort.putCells id 0 (Go.Sort.flatK en sz dk) cur, ?_, by simp [Go.Sort.putCells]⟩
  simp [Go.Sort.putRow, Go.Sort.mapBlock, Go.Sort.ahead, Array.getElem?_modify, hg]
  rfl
theorem size_sortG {α : Type} [Inhabited α] (en : α → List Value) (sz : Nat) (w : World) (g m : Nat) (dk : Array α) (os : Array Obj) : w.heap.size ≤ (sortWorldK en sz w g 0 m dk os).heap.size := SWK.le (⟨m, os, rfl⟩ : SWK en sz w g 0 dk _)
set_option maxHeartbeats 400000 in
theorem cmpR_ (ka va kb vb : Option Addr) (kn kc vn vc ln lc un uc : Nat) (p q : Bool) (k l : List Int) (w : World) (hk : Bs w ka kn k) (hl : Bs w kb ln l) :
    Calls Tryz.prog 77 #[.agg #[.slice ka kn kc, .slice va vn vc], .agg #[.slice kb ln lc, .slice vb un uc]] w fun e w' => e = .returned (.int .i64 (cmpB k l)) ∧ w' = (w.alloc (.cells #[.slice ka kn kc, .slice va vn vc] 55)).alloc (.cells #[.slice kb ln lc, .slice vb un uc] 55) := by
  have k1 := fun wx (h1 : Bs wx ka kn k) (h2 : Bs wx kb ln l) => bcmp_ ka kb kn kc ln lc k l wx h1 h2
  have B : Below w.heap.size w ((w.alloc (.cells #[.slice ka kn kc, .slice va vn vc] 55)).alloc (.cells #[.slice kb ln lc, .slice vb un uc] 55)) := ((Below.refl w.heap.size w).alloc (Nat.le_refl _) _).alloc (by simp) _
  have H1 := hid (hk.below B)
  have H2 := hid (hl.below B)
  clear hk hl B
  go_enter Tryz.func77, Tryz.ntmps77
  go_wp2_with fail
  refine (k1 _ H1.out H2.out).mono ?_
  rintro e w1 ⟨rfl, rfl⟩
  clear k1 H1 H2
  go_wp2_with fail
  go_ret
  exact ⟨rfl, rfl⟩
set_option maxHeartbeats 1000000 in
theorem sortR_ (ds : List RD) (hn : 0 < ds.length) (hm : ds.length ≤ 1000000000) (g cap : Nat) (cur : Array Value) (w : World) (hg : w.heap[g]? = some (.cells cur 55 (0, 0))) (hc : ∀ j u, (rds ds)[j]? = some u → w.cell? ⟨g, j, none⟩ = some u)
    (hk : ∀ d ∈ ds, Bs w d.ka d.s.1.length d.s.1 ∧ (∀ ad, d.ka = some ad → 0 < d.s.1.length → ad.block ≠ g)) :
    Calls Tryz.prog 76 #[.slice (some ⟨g, 0, none⟩) ds.length cap, .func (.func 77) #[] #[]] w fun e w' => e = .returned (.tuple #[]) ∧ ∃ ds' : List RD, ds'.Perm ds ∧ ds'.Pairwise (fun a b => lx b.s.1 a.s.1 = false) ∧ (∀ j u, (rds ds')[j]? = some u → w'.cell? ⟨g, j, none⟩ = some u) ∧ (∃ cur', w'.heap[g]? = some (.cells cur' 55 (0, 0)) ∧ cur'.size = cur.size) ∧ w.grownBy w' (some g) := by
  have hgl := (Array.getElem?_eq_some_iff.1 hg).1
  haveI : Inhabited (Fin ds.length) := ⟨⟨0, hn⟩⟩
  obtain ⟨en, hen⟩ : ∃ en : Fin ds.length → List Value, en = fun i => rdc (ds.get i) := ⟨_, rfl⟩
  obtain ⟨d, hd⟩ : ∃ d : Array (Fin ds.length), d = Array.ofFn id := ⟨_, rfl⟩
  have e3 : d.toList.map (fun i : Fin ds.length => (ds.get i)) = ds := by
    rw [hd]
    simp [List.map_ofFn, Function.comp_def]
  have hds : d.size = ds.length := by rw [hd]; simp
  have hdi : ∀ i (hi : i < ds.length), d[i]! = ⟨i, hi⟩ := fun i hi => by
    rw [getElem!_pos d i (by omega)]
    simp only [hd]
    simp
  have eg : ∀ args w, (callFunc 77 args).run Tryz.prog w = .ok (.enter 77 args) w := enters_of Tryz.func77 (by kernel_rfl) rfl
  have hcmp : CmpLays Tryz.prog 77 #[] en 2 (fun x y => cmpB (ds.get x).s.1 (ds.get y).s.1) g 0 d.size w := fun m os dk _ x y => by
    have hb : ∀ i : Fin ds.length, Bs (sortWorldK en 2 w g 0 m dk os) (ds.get i).ka (ds.get i).s.1.length (ds.get i).s.1 := fun i => by
      have h := hk (ds.get i) (List.get_mem ds i)
      exact h.1.same_block fun ad e hn => heap_sortG en 2 w g m dk os (h.1.at_block e hn).1 (h.2 ad e hn)
    subst hen
    refine (cmpR_ _ _ _ _ _ _ _ _ _ _ _ _ false false _ _ _ (hb x) (hb y)).mono ?_
    rintro e w' ⟨rfl, rfl⟩
    exact ⟨rfl, 0, _, by rw [Go.Sort.alloc_eq_grow, Go.Sort.alloc_eq_grow, Go.Sort.grow_grow]; rfl⟩
  have hH : Go.Sort.HoldsK en 2 w g 0 d := by
    intro k hk'
    have hk' : k < ds.length * 2 := by simpa [hds] using hk'
    refine ⟨?_, by simp [World.frozen?, hg]⟩
    rw [Go.Sort.get_flatK _ _ _ _ (by rw [hds]; exact hk')]
    have hi : k / 2 < ds.length := by omega
    rw [hdi _ hi, hen]
    have hl : (rdc ds[k / 2]).length = 2 := rfl
    have hm' : k % 2 < (rdc ds[k / 2]).length := by rw [hl]; omega
    refine hc _ _ ?_
    have := rds_get ds (k / 2) hi (k % 2) (by omega)
    rw [show k / 2 * 2 + k % 2 = k from by omega] at this
    rw [show 0 + k = k from by omega, this]
    show _ = some ((rdc ds[k / 2])[k % 2]!)
    rw [getElem!_pos (rdc ds[k / 2]) (k % 2) hm', List.getElem?_eq_getElem hm']
  have hS := AnyQ.slices_SortFunc Tryz.sortR 2 Tryz.isAgg55 Tryz.sizeOf55 en (fun x => by rw [hen]; rfl) (fun x v hv => by rw [hen] at hv; exact rds_one [(ds.get x)] v (by simpa [rds] using hv)) (fun x y => cmpB (ds.get x).s.1 (ds.get y).s.1) (cmpB_swo fun i : Fin ds.length => (ds.get i).s.1) 77 #[] g 0 cap d w eg hcmp hH hgl (by omega)
  rw [hds] at hS
  refine Calls.mono (show Calls Tryz.prog 76 _ _ _ from hS) ?_
  rintro e w' ⟨rfl, d', n, os, hp, hs, rfl⟩
  have hd' : d'.size = ds.length := hp.1.trans hds
  have hH' := SWK.holds (⟨n, os, rfl⟩ : SWK en 2 w g 0 d' _) hgl hH (by rw [hd', hds])
  refine ⟨rfl, d'.toList.map (fun i => (ds.get i)), ?_, ?_, ?_, type_sortG en 2 w g n d' os hg, ?_⟩
  · have h3 := hp.2.2
    have e1 : d'.extract 0 ds.length = d' := ext_all d' _ hd'
    have e2 : d.extract 0 ds.length = d := ext_all d _ hds
    rw [e1, e2] at h3
    have h4 := h3.map (fun i : Fin ds.length => (ds.get i))
    rw [e3] at h4
    exact h4
  · rw [List.pairwise_map, List.pairwise_iff_getElem]
    intro i j h1 h2 hij
    have hi' : i < d'.size := by simpa using h1
    have hj' : j < d'.size := by simpa using h2
    have := hs i j (Nat.zero_le _) hij (by omega)
    unfold ltOf at this
    have := of_decide_eq_false this
    rw [cmpB_lt, getElem!_pos d' j hj', getElem!_pos d' i hi'] at this
    simp only [Array.getElem_toList]
    simpa using this
  · intro j u hj
    have hjl := (List.getElem?_eq_some_iff.1 hj).1
    rw [rds_length, List.length_map, Array.length_toList] at hjl
    have hi : j / 2 < d'.size := by omega
    have h1 := (Go.Sort.HoldsK.cell hH' (i := j / 2) (c := j % 2) hi (by omega)).1
    have e1 := rds_get (d'.toList.map (fun i : Fin ds.length => (ds.get i))) (j / 2) (by simpa using hi) (j % 2) (by omega)
    rw [show j / 2 * 2 + j % 2 = j from by omega, hj] at e1
    rw [show 0 + j / 2 * 2 + j % 2 = j from by omega, getElem!_pos d' _ hi] at h1
    rw [h1]
    have hl : ∀ x : RD, (rdc x).length = 2 := fun _ => rfl
    have he : en d'[j / 2] = rdc (ds.get d'[j / 2]) := by rw [hen]
    rw [he, getElem!_pos (rdc (ds.get d'[j / 2])) (j % 2) (by rw [hl]; omega), e1]
    simp
  · exact ⟨rfl, rfl, rfl, size_sortG en 2 w g n d' os, fun k hk hne => heap_sortG en 2 w g n d' os hk (fun e => hne (by rw [e]))⟩
theorem sortR_none (a : Option Addr) (cap : Nat) (w : World) : Calls Tryz.prog 76 #[.slice a 0 cap, .func (.func 77) #[] #[]] w fun e w' => e = .returned (.tuple #[]) ∧ w' = w :=
  AnyF.slices_SortFunc_none Tryz.sortR a cap _ w
set_option maxHeartbeats 400000 in
theorem cmpS_ (ka va kb vb : Option Addr) (kn kc vn vc ln lc un uc : Nat) (p q : Bool) (k l : List Int) (w : World) (hk : Bs w ka kn k) (hl : Bs w kb ln l) :
    Calls Tryz.prog 49 #[.agg #[.slice ka kn kc, .slice va vn vc, .bool p], .agg #[.slice kb ln lc, .slice vb un uc, .bool q]] w fun e w' => e = .returned (.int .i64 (cmpB k l)) ∧ w' = (w.alloc (.cells #[.slice ka kn kc, .slice va vn vc, .bool p] 44)).alloc (.cells #[.slice kb ln lc, .slice vb un uc, .bool q] 44) := by
  have k1 := fun wx (h1 : Bs wx ka kn k) (h2 : Bs wx kb ln l) => bcmp_ ka kb kn kc ln lc k l wx h1 h2
  have B : Below w.heap.size w ((w.alloc (.cells #[.slice ka kn kc, .slice va vn vc, .bool p] 44)).alloc (.cells #[.slice kb ln lc, .slice vb un uc, .bool q] 44)) := ((Below.refl w.heap.size w).alloc (Nat.le_refl _) _).alloc (by simp) _
  have H1 := hid (hk.below B)
  have H2 := hid (hl.below B)
  clear hk hl B
  go_enter Tryz.func49, Tryz.ntmps49
  go_wp2_with fail
  refine (k1 _ H1.out H2.out).mono ?_
  rintro e w1 ⟨rfl, rfl⟩
  clear k1 H1 H2
  go_wp2_with fail
  go_ret
  exact ⟨rfl, rfl⟩
set_option maxHeartbeats 1000000 in
theorem sortS_ (ds : List SD) (hn : 0 < ds.length) (hm : ds.length ≤ 1000000000) (g cap : Nat) (cur : Array Value) (w : World) (hg : w.heap[g]? = some (.cells cur 44 (0, 0))) (hc : ∀ j u, (sds ds)[j]? = some u → w.cell? ⟨g, j, none⟩ = some u)
    (hk : ∀ d ∈ ds, Bs w d.ka d.s.k.length d.s.k ∧ (∀ ad, d.ka = some ad → 0 < d.s.k.length → ad.block ≠ g)) :
    Calls Tryz.prog 48 #[.slice (some ⟨g, 0, none⟩) ds.length cap, .func (.func 49) #[] #[]] w fun e w' => e = .returned (.tuple #[]) ∧ ∃ ds' : List SD, ds'.Perm ds ∧ ds'.Pairwise (fun a b => lx b.s.k a.s.k = false) ∧ (∀ j u, (sds ds')[j]? = some u → w'.cell? ⟨g, j, none⟩ = some u) ∧ (∃ cur', w'.heap[g]? = some (.cells cur' 44 (0, 0)) ∧ cur'.size = cur.size) ∧ w.grownBy w' (some g) := by
  have hgl := (Array.getElem?_eq_some_iff.1 hg).1
  haveI : Inhabited (Fin ds.length) := ⟨⟨0, hn⟩⟩
  obtain ⟨en, hen⟩ : ∃ en : Fin ds.length → List Value, en = fun i => sdc (ds.get i) := ⟨_, rfl⟩
  obtain ⟨d, hd⟩ : ∃ d : Array (Fin ds.length), d = Array.ofFn id := ⟨_, rfl⟩
  have e3 : d.toList.map (fun i : Fin ds.length => (ds.get i)) = ds := by
    rw [hd]
    simp [List.map_ofFn, Function.comp_def]
  have hds : d.size = ds.length := by rw [hd]; simp
  have hdi : ∀ i (hi : i < ds.length), d[i]! = ⟨i, hi⟩ := fun i hi => by
    rw [getElem!_pos d i (by omega)]
    simp only [hd]
    simp
  have eg : ∀ args w, (callFunc 49 args).run Tryz.prog w = .ok (.enter 49 args) w := enters_of Tryz.func49 (by kernel_rfl) rfl
  have hcmp : CmpLays Tryz.prog 49 #[] en 3 (fun x y => cmpB (ds.get x).s.k (ds.get y).s.k) g 0 d.size w := fun m os dk _ x y => by
    have hb : ∀ i : Fin ds.length, Bs (sortWorldK en 3 w g 0 m dk os) (ds.get i).ka (ds.get i).s.k.length (ds.get i).s.k := fun i => by
      have h := hk (ds.get i) (List.get_mem ds i)
      exact h.1.same_block fun ad e hn => heap_sortG en 3 w g m dk os (h.1.at_block e hn).1 (h.2 ad e hn)
    subst hen
    refine (cmpS_ _ _ _ _ _ _ _ _ _ _ _ _ (ds.get x).s.g (ds.get y).s.g _ _ _ (hb x) (hb y)).mono ?_
    rintro e w' ⟨rfl, rfl⟩
    exact ⟨rfl, 0, _, by rw [Go.Sort.alloc_eq_grow, Go.Sort.alloc_eq_grow, Go.Sort.grow_grow]; rfl⟩
  have hH : Go.Sort.HoldsK en 3 w g 0 d := by
    intro k hk'
    have hk' : k < ds.length * 3 := by simpa [hds] using hk'
    refine ⟨?_, by simp [World.frozen?, hg]⟩
    rw [Go.Sort.get_flatK _ _ _ _ (by rw [hds]; exact hk')]
    have hi : k / 3 < ds.length := by omega
    rw [hdi _ hi, hen]
    have hl : (sdc ds[k / 3]).length = 3 := rfl
    have hm' : k % 3 < (sdc ds[k / 3]).length := by rw [hl]; omega
    refine hc _ _ ?_
    have := sds_get ds (k / 3) hi (k % 3) (by omega)
    rw [show k / 3 * 3 + k % 3 = k from by omega] at this
    rw [show 0 + k = k from by omega, this]
    show _ = some ((sdc ds[k / 3])[k % 3]!)
    rw [getElem!_pos (sdc ds[k / 3]) (k % 3) hm', List.getElem?_eq_getElem hm']
  have hS := AnyQ.slices_SortFunc Tryz.sortS 3 Tryz.isAgg44 Tryz.sizeOf44 en (fun x => by rw [hen]; rfl) (fun x v hv => by rw [hen] at hv; exact sds_one [(ds.get x)] v (by simpa [sds] using hv)) (fun x y => cmpB (ds.get x).s.k (ds.get y).s.k) (cmpB_swo fun i : Fin ds.length => (ds.get i).s.k) 49 #[] g 0 cap d w eg hcmp hH hgl (by omega)
  rw [hds] at hS
  refine Calls.mono (show Calls Tryz.prog 48 _ _ _ from hS) ?_
  rintro e w' ⟨rfl, d', n, os, hp, hs, rfl⟩
  have hd' : d'.size = ds.length := hp.1.trans hds
  have hH' := SWK.holds (⟨n, os, rfl⟩ : SWK en 3 w g 0 d' _) hgl hH (by rw [hd', hds])
  refine ⟨rfl, d'.toList.map (fun i => (ds.get i)), ?_, ?_, ?_, type_sortG en 3 w g n d' os hg, ?_⟩
  · have h3 := hp.2.2
    have e1 : d'.extract 0 ds.length = d' := ext_all d' _ hd'
    have e2 : d.extract 0 ds.length = d := ext_all d _ hds
    rw [e1, e2] at h3
    have h4 := h3.map (fun i : Fin ds.length => (ds.get i))
    rw [e3] at h4
    exact h4
  · rw [List.pairwise_map, List.pairwise_iff_getElem]
    intro i j h1 h2 hij
    have hi' : i < d'.size := by simpa using h1
    have hj' : j < d'.size := by simpa using h2
    have := hs i j (Nat.zero_le _) hij (by omega)
    unfold ltOf at this
    have := of_decide_eq_false this
    rw [cmpB_lt, getElem!_pos d' j hj', getElem!_pos d' i hi'] at this
    simp only [Array.getElem_toList]
    simpa using this
  · intro j u hj
    have hjl := (List.getElem?_eq_some_iff.1 hj).1
    rw [sds_length, List.length_map, Array.length_toList] at hjl
    have hi : j / 3 < d'.size := by omega
    have h1 := (Go.Sort.HoldsK.cell hH' (i := j / 3) (c := j % 3) hi (by omega)).1
    have e1 := sds_get (d'.toList.map (fun i : Fin ds.length => (ds.get i))) (j / 3) (by simpa using hi) (j % 3) (by omega)
    rw [show j / 3 * 3 + j % 3 = j from by omega, hj] at e1
    rw [show 0 + j / 3 * 3 + j % 3 = j from by omega, getElem!_pos d' _ hi] at h1
    rw [h1]
    have hl : ∀ x : SD, (sdc x).length = 3 := fun _ => rfl
    have he : en d'[j / 3] = sdc (ds.get d'[j / 3]) := by rw [hen]
    rw [he, getElem!_pos (sdc (ds.get d'[j / 3])) (j % 3) (by rw [hl]; omega), e1]
    simp
  · exact ⟨rfl, rfl, rfl, size_sortG en 3 w g n d' os, fun k hk hne => heap_sortG en 3 w g n d' os hk (fun e => hne (by rw [e]))⟩
theorem sortS_none (a : Option Addr) (cap : Nat) (w : World) : Calls Tryz.prog 48 #[.slice a 0 cap, .func (.func 49) #[] #[]] w fun e w' => e = .returned (.tuple #[]) ∧ w' = w :=
  AnyF.slices_SortFunc_none Tryz.sortS a cap _ w
end Go.Proofs.YteeapmcpbmjpmaaGreat
