import Derived.Test.YthflghjmpellpaaNC
import Derived.Test.YthflghjmpellpaaShelf
import Derived.Shelf.SlSortCmp.NoneTotal
namespace Go.Proofs.Ythflghjmpellpaa
open Go.RowKit Go.Shelf Go.Maps
set_option linter.unusedVariables false
set_option maxRecDepth 100000

/-! The sort. -/
theorem cmpI_lt (x y : Int) : cmpI x y < 0 ↔ x < y := by
  unfold cmpI
  split
  · rename_i h; exact ⟨fun _ => h, fun _ => by decide⟩
  · split <;> constructor <;> intro h <;> omega
theorem cmpI_swo {n : Nat} (key : Fin n → Int) : Go.Sort.SWO (ltOf fun x y => cmpI (key x) (key y)) := by
  constructor
  · intro x
    unfold ltOf
    refine decide_eq_false ?_
    rw [cmpI_lt]
    omega
  · intro x y z h1 h2
    unfold ltOf at *
    have h1 := of_decide_eq_true h1
    have h2 := of_decide_eq_true h2
    rw [cmpI_lt] at h1 h2
    refine decide_eq_true ?_
    rw [cmpI_lt]
    omega
  · intro x y z h1 h2
    unfold ltOf at *
    have h1 := of_decide_eq_false h1
    have h2 := of_decide_eq_false h2
    rw [cmpI_lt] at h1 h2
    refine decide_eq_false ?_
    rw [cmpI_lt]
    omega
theorem ext_all {α : Type} (d : Array α) (n : Nat) (h : d.size = n) : d.extract 0 n = d := by subst h; simp
theorem heap_sortG {α : Type} [Inhabited α] (en : α → List Value) (sz : Nat) (w : World) (g m : Nat) (dk : Array α) (os : Array Obj) {k : Nat} (hk : k < w.heap.size) (hn : k ≠ g) : (sortWorldK en sz w g 0 m dk os).heap[k]? = w.heap[k]? := by
  unfold sortWorldK Go.Sort.putRowK
  rw [Go.Sort.heap_grow_old _ _ (by rw [size_putRow]; exact hk)]
  simp [Go.Sort.putRow, Go.Sort.mapBlock, Go.Sort.ahead, Array.getElem?_modify, Ne.symm hn]
theorem type_sortG {α : Type} [Inhabited α] (en : α → List Value) (sz : Nat) (w : World) (g m : Nat) (dk : Array α) (os : Array Obj) {cur : Array Value} {t : TypeId} (hg : w.heap[g]? = some (.cells cur t (0, 0))) : ∃ cur', (sortWorldK en sz w g 0 m dk os).heap[g]? = some (.cells cur' t (0, 0)) ∧ cur'.size = cur.size := by
  unfold sortWorldK Go.Sort.putRowK
  rw [Go.Sort.heap_grow_old _ _ (by rw [size_putRow]; exact (Array.getElem?_eq_some_iff.1 hg).1)]
  refine ⟨Go.Sort.putCells id 0 (Go.Sort.flatK en sz dk) cur, ?_, by simp [Go.Sort.putCells]⟩
  simp [Go.Sort.putRow, Go.Sort.mapBlock, Go.Sort.ahead, Array.getElem?_modify, hg]
  rfl
theorem size_sortG {α : Type} [Inhabited α] (en : α → List Value) (sz : Nat) (w : World) (g m : Nat) (dk : Array α) (os : Array Obj) : w.heap.size ≤ (sortWorldK en sz w g 0 m dk os).heap.size := SWK.le (⟨m, os, rfl⟩ : SWK en sz w g 0 dk _)
set_option maxHeartbeats 400000 in
theorem cmpF_ (x y : FD) (w : World) :
    Calls Try.prog 20 #[fag x, fag y] w fun e w' => e = .returned (.int .i64 (cmpI x.f.no y.f.no)) ∧ w' = (w.alloc (.cells (fdc x).toArray 34)).alloc (.cells (fdc y).toArray 34) := by
  obtain ⟨⟨no, to, d⟩, a, c⟩ := x
  obtain ⟨⟨no', to', d'⟩, a', c'⟩ := y
  simp only [fag, fv, fdc]
  have kc := fun w => compare_ no no' w
  obtain ⟨q, hq⟩ : ∃ q, cmpI no no' = q := ⟨_, rfl⟩
  rw [hq] at kc ⊢
  generalize d.length = n
  generalize d'.length = n'
  clear hq
  go_enter Try.func20, Try.ntmps20
  go_wp2_with (go_at_call 21; refine (kc _).mono ?_; rintro e w' ⟨rfl, rfl⟩)
  go_ret
  exact ⟨rfl, rfl⟩
set_option maxHeartbeats 1000000 in
theorem sortF_ (ds : List FD) (hn : 0 < ds.length) (hm : ds.length ≤ 1000000000) (g cap : Nat) (cur : Array Value) (w : World) (hg : w.heap[g]? = some (.cells cur 34 (0, 0))) (hc : ∀ j u, (fds ds)[j]? = some u → w.cell? ⟨g, j, none⟩ = some u) :
    Calls Try.prog 19 #[.slice (some ⟨g, 0, none⟩) ds.length cap, .func (.func 20) #[] #[]] w fun e w' => e = .returned (.tuple #[]) ∧ ∃ ds' : List FD, ds'.Perm ds ∧ ds'.Pairwise (fun a b => ¬ b.f.no < a.f.no) ∧ (∀ j u, (fds ds')[j]? = some u → w'.cell? ⟨g, j, none⟩ = some u) ∧ (∃ cur', w'.heap[g]? = some (.cells cur' 34 (0, 0)) ∧ cur'.size = cur.size) ∧ w.grownBy w' (some g) := by
  have hgl := (Array.getElem?_eq_some_iff.1 hg).1
  haveI : Inhabited (Fin ds.length) := ⟨⟨0, hn⟩⟩
  obtain ⟨en, hen⟩ : ∃ en : Fin ds.length → List Value, en = fun i => fdc (ds.get i) := ⟨_, rfl⟩
  obtain ⟨d, hd⟩ : ∃ d : Array (Fin ds.length), d = Array.ofFn id := ⟨_, rfl⟩
  have e3 : d.toList.map (fun i : Fin ds.length => (ds.get i)) = ds := by
    rw [hd]
    simp [List.map_ofFn, Function.comp_def]
  have hds : d.size = ds.length := by rw [hd]; simp
  have hdi : ∀ i (hi : i < ds.length), d[i]! = ⟨i, hi⟩ := fun i hi => by
    rw [getElem!_pos d i (by omega)]
    simp only [hd]
    simp
  have eg : ∀ args w, (callFunc 20 args).run Try.prog w = .ok (.enter 20 args) w := enters_of Try.func20 (by kernel_rfl) rfl
  have hcmp : CmpLays Try.prog 20 #[] en 3 (fun x y => cmpI (ds.get x).f.no (ds.get y).f.no) g 0 d.size w := fun m os dk _ x y => by
    subst hen
    refine (cmpF_ (ds.get x) (ds.get y) _).mono ?_
    rintro e w' ⟨rfl, rfl⟩
    exact ⟨rfl, 0, _, by rw [Go.Sort.alloc_eq_grow, Go.Sort.alloc_eq_grow, Go.Sort.grow_grow]; rfl⟩
  have hH : Go.Sort.HoldsK en 3 w g 0 d := by
    intro k hk'
    have hk' : k < ds.length * 3 := by simpa [hds] using hk'
    refine ⟨?_, by simp [World.frozen?, hg]⟩
    rw [Go.Sort.get_flatK _ _ _ _ (by rw [hds]; exact hk')]
    have hi : k / 3 < ds.length := by omega
    rw [hdi _ hi, hen]
    have hl : (fdc ds[k / 3]).length = 3 := rfl
    have hm' : k % 3 < (fdc ds[k / 3]).length := by rw [hl]; omega
    refine hc _ _ ?_
    have := fds_get ds (k / 3) hi (k % 3) (by omega)
    rw [show k / 3 * 3 + k % 3 = k from by omega] at this
    rw [show 0 + k = k from by omega, this]
    show _ = some ((fdc ds[k / 3])[k % 3]!)
    rw [getElem!_pos (fdc ds[k / 3]) (k % 3) hm', List.getElem?_eq_getElem hm']
  have hS := AnyQ.slices_SortFunc Try.sortF 3 Try.isAgg34 Try.sizeOf34 en (fun x => by rw [hen]; rfl) (fun x v hv => by rw [hen] at hv; exact fds_one [(ds.get x)] v (by simpa [fds] using hv)) (fun x y => cmpI (ds.get x).f.no (ds.get y).f.no) (cmpI_swo fun i : Fin ds.length => (ds.get i).f.no) 20 #[] g 0 cap d w eg hcmp hH hgl (by omega)
  rw [hds] at hS
  refine Calls.mono (show Calls Try.prog 19 _ _ _ from hS) ?_
  rintro e w' ⟨rfl, d', n, os, hp, hs, rfl⟩
  have hd' : d'.size = ds.length := hp.1.trans hds
  have hH' := SWK.holds (⟨n, os, rfl⟩ : SWK en 3 w g 0 d' _) hgl hH (by rw [hd', hds])
  refine ⟨rfl, d'.toList.map (fun i => (ds.get i)), ?_, ?_, ?_, type_sortG en 3 w g n d' os hg, ?_⟩
  · have h3 := hp.2.2
    have e1 : d'.extract 0 ds.length = d' := ext_all d' _ hd'
    have e2 : d.extract 0 ds.length = d := ext_all d _ hds
    rw [e1, e2] at h3
    have h4 := h3.map (fun i : Fin ds.length => (ds.get i))
    rw [e3] at h4
    exact h4
  · rw [List.pairwise_map, List.pairwise_iff_getElem]
    intro i j h1 h2 hij
    have hi' : i < d'.size := by simpa using h1
    have hj' : j < d'.size := by simpa using h2
    have := hs i j (Nat.zero_le _) hij (by omega)
    unfold ltOf at this
    have := of_decide_eq_false this
    rw [cmpI_lt, getElem!_pos d' j hj', getElem!_pos d' i hi'] at this
    simp only [Array.getElem_toList]
    simpa using this
  · intro j u hj
    have hjl := (List.getElem?_eq_some_iff.1 hj).1
    rw [fds_length, List.length_map, Array.length_toList] at hjl
    have hi : j / 3 < d'.size := by omega
    have h1 := (Go.Sort.HoldsK.cell hH' (i := j / 3) (c := j % 3) hi (by omega)).1
    have e1 := fds_get (d'.toList.map (fun i : Fin ds.length => (ds.get i))) (j / 3) (by simpa using hi) (j % 3) (by omega)
    rw [show j / 3 * 3 + j % 3 = j from by omega, hj] at e1
    rw [show 0 + j / 3 * 3 + j % 3 = j from by omega, getElem!_pos d' _ hi] at h1
    rw [h1]
    have hl : ∀ x : FD, (fdc x).length = 3 := fun _ => rfl
    have he : en d'[j / 3] = fdc (ds.get d'[j / 3]) := by rw [hen]
    rw [he, getElem!_pos (fdc (ds.get d'[j / 3])) (j % 3) (by rw [hl]; omega), e1]
    simp
  · exact ⟨rfl, rfl, rfl, size_sortG en 3 w g n d' os, fun k hk hne => heap_sortG en 3 w g n d' os hk (fun e => hne (by rw [e]))⟩
theorem sortF_none (a : Option Addr) (cap : Nat) (w : World) : Calls Try.prog 19 #[.slice a 0 cap, .func (.func 20) #[] #[]] w fun e w' => e = .returned (.tuple #[]) ∧ w' = w :=
  AnyF.slices_SortFunc_none Try.sortF a cap _ w
end Go.Proofs.Ythflghjmpellpaa
