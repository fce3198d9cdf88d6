import Derived.Test.YtlepbncaicpmjaaWH
import Derived.Test.YtlepbncaicpmjaaShelf
import Derived.Shelf.SlSortCmp.NoneTotal
import Derived.Sort.KeysCollected
import Derived.Sort.EncStr
namespace Go.Proofs.Ytlepbncaicpmjaa
set_option maxRecDepth 100000
open Go.RowKit Go.Shelf Go.Maps
set_option linter.unusedVariables false

/-! The sort. -/
theorem cmpB_swo {n : Nat} (key : Fin n → List Int) : Go.Sort.SWO (ltOf fun x y => cmpB (key x) (key y)) := by
  constructor
  · intro x
    unfold ltOf
    refine decide_eq_false ?_
    rw [cmpB_lt, lx_self]
    decide
  · intro x y z h1 h2
    unfold ltOf at *
    have h1 := of_decide_eq_true h1
    have h2 := of_decide_eq_true h2
    rw [cmpB_lt] at h1 h2
    refine decide_eq_true ?_
    rw [cmpB_lt]
    exact lx_trans h1 h2
  · intro x y z h1 h2
    unfold ltOf at *
    have h1 := of_decide_eq_false h1
    have h2 := of_decide_eq_false h2
    rw [cmpB_lt] at h1 h2
    refine decide_eq_false ?_
    rw [cmpB_lt]
    intro h3
    cases e : lx (key x) (key y) with
    | true => exact h1 e
    | false =>
      cases f : lx (key y) (key z) with
      | true => exact h2 f
      | false =>
        by_cases q : key x = key y
        · rw [q, f] at h3; cases h3
        · have := lx_trans (lx_of_ne q e) h3
          exact h2 this
theorem ext_all {α : Type} (d : Array α) (n : Nat) (h : d.size = n) : d.extract 0 n = d := by subst h; simp
theorem heap_sortG {α : Type} [Inhabited α] (en : α → List Value) (sz : Nat) (w : World) (g m : Nat) (dk : Array α) (os : Array Obj) {k : Nat} (hk : k < w.heap.size) (hn : k ≠ g) : (sortWorldK en sz w g 0 m dk os).heap[k]? = w.heap[k]? := by
  unfold sortWorldK Go.Sort.putRowK
  rw [Go.Sort.heap_grow_old _ _ (by rw [size_putRow]; exact hk)]
  simp [Go.Sort.putRow, Go.Sort.mapBlock, Go.Sort.ahead, Array.getElem?_modify, Ne.symm hn]
theorem type_sortG {α : Type} [Inhabited α] (en : α → List Value) (sz : Nat) (w : World) (g m : Nat) (dk : Array α) (os : Array Obj) {cur : Array Value} {t : TypeId} (hg : w.heap[g]? = some (.cells cur t (0, 0))) : ∃ cur', (sortWorldK en sz w g 0 m dk os).heap[g]? = some (.cells cur' t (0, 0)) ∧ cur'.size = cur.size := by
  unfold sortWorldK Go.Sort.putRowK
  rw [Go.Sort.heap_grow_old _ _ (by rw [size_putRow]; exact (Array.getElem?_eq_some_iff.1 hg).1)]
  refine ⟨Go.Sort.putCells id 0 (Go.Sort.flatK en sz dk) cur, ?_, by simp [Go.Sort.putCells]⟩
  simp [Go.Sort.putRow, Go.Sort.mapBlock, Go.Sort.ahead, Array.getElem?_modify, hg]
  rfl
theorem size_sortG {α : Type} [Inhabited α] (en : α → List Value) (sz : Nat) (w : World) (g m : Nat) (dk : Array α) (os : Array Obj) : w.heap.size ≤ (sortWorldK en sz w g 0 m dk os).heap.size := SWK.le (⟨m, os, rfl⟩ : SWK en sz w g 0 dk _)
set_option maxHeartbeats 400000 in
theorem cmpS_ (ka va kb vb : Option Addr) (kn kc vn vc ln lc un uc : Nat) (p q : Bool) (k l : List Int) (w : World) (hk : Bs w ka kn k) (hl : Bs w kb ln l) :
    Calls Try.prog 35 #[.agg #[.slice ka kn kc, .slice va vn vc, .bool p], .agg #[.slice kb ln lc, .slice vb un uc, .bool q]] w fun e w' => e = .returned (.int .i64 (cmpB k l)) ∧ w' = (w.alloc (.cells #[.slice ka kn kc, .slice va vn vc, .bool p] 64)).alloc (.cells #[.slice kb ln lc, .slice vb un uc, .bool q] 64) := by
  have k1 := fun wx (h1 : Bs wx ka kn k) (h2 : Bs wx kb ln l) => bcmp_ ka kb kn kc ln lc k l wx h1 h2
  have B : Below w.heap.size w ((w.alloc (.cells #[.slice ka kn kc, .slice va vn vc, .bool p] 64)).alloc (.cells #[.slice kb ln lc, .slice vb un uc, .bool q] 64)) := ((Below.refl w.heap.size w).alloc (Nat.le_refl _) _).alloc (by simp) _
  have H1 := hid (hk.below B)
  have H2 := hid (hl.below B)
  clear hk hl B
  go_enter Try.func35, Try.ntmps35
  go_wp2_with fail
  refine (k1 _ H1.out H2.out).mono ?_
  rintro e w1 ⟨rfl, rfl⟩
  clear k1 H1 H2
  go_wp2_with fail
  go_ret
  exact ⟨rfl, rfl⟩
set_option maxHeartbeats 1000000 in
theorem sortS_ (ds : List SD) (hn : 0 < ds.length) (hm : ds.length ≤ 1000000000) (g cap : Nat) (cur : Array Value) (w : World) (hg : w.heap[g]? = some (.cells cur 64 (0, 0))) (hc : ∀ j u, (sds ds)[j]? = some u → w.cell? ⟨g, j, none⟩ = some u)
    (hk : ∀ d ∈ ds, Bs w d.ka d.s.k.length d.s.k ∧ (∀ ad, d.ka = some ad → 0 < d.s.k.length → ad.block ≠ g)) :
    Calls Try.prog 34 #[.slice (some ⟨g, 0, none⟩) ds.length cap, .func (.func 35) #[] #[]] w fun e w' => e = .returned (.tuple #[]) ∧ ∃ ds' : List SD, ds'.Perm ds ∧ ds'.Pairwise (fun a b => lx b.s.k a.s.k = false) ∧ (∀ j u, (sds ds')[j]? = some u → w'.cell? ⟨g, j, none⟩ = some u) ∧ (∃ cur', w'.heap[g]? = some (.cells cur' 64 (0, 0)) ∧ cur'.size = cur.size) ∧ w.grownBy w' (some g) := by
  have hgl := (Array.getElem?_eq_some_iff.1 hg).1
  haveI : Inhabited (Fin ds.length) := ⟨⟨0, hn⟩⟩
  obtain ⟨en, hen⟩ : ∃ en : Fin ds.length → List Value, en = fun i => sdc (ds.get i) := ⟨_, rfl⟩
  obtain ⟨d, hd⟩ : ∃ d : Array (Fin ds.length), d = Array.ofFn id := ⟨_, rfl⟩
  have e3 : d.toList.map (fun i : Fin ds.length => (ds.get i)) = ds := by
    rw [hd]
    simp [List.map_ofFn, Function.comp_def]
  have hds : d.size = ds.length := by rw [hd]; simp
  have hdi : ∀ i (hi : i < ds.length), d[i]! = ⟨i, hi⟩ := fun i hi => by
    rw [getElem!_pos d i (by omega)]
    simp only [hd]
    simp
  have eg : ∀ args w, (callFunc 35 args).run Try.prog w = .ok (.enter 35 args) w := enters_of Try.func35 (by kernel_rfl) rfl
  have hcmp : CmpLays Try.prog 35 #[] en 3 (fun x y => cmpB (ds.get x).s.k (ds.get y).s.k) g 0 d.size w := fun m os dk _ x y => by
    have hb : ∀ i : Fin ds.length, Bs (sortWorldK en 3 w g 0 m dk os) (ds.get i).ka (ds.get i).s.k.length (ds.get i).s.k := fun i => by
      have h := hk (ds.get i) (List.get_mem ds i)
      exact h.1.same_block fun ad e hn => heap_sortG en 3 w g m dk os (h.1.at_block e hn).1 (h.2 ad e hn)
    subst hen
    refine (cmpS_ _ _ _ _ _ _ _ _ _ _ _ _ (ds.get x).s.g (ds.get y).s.g _ _ _ (hb x) (hb y)).mono ?_
    rintro e w' ⟨rfl, rfl⟩
    exact ⟨rfl, 0, _, by rw [Go.Sort.alloc_eq_grow, Go.Sort.alloc_eq_grow, Go.Sort.grow_grow]; rfl⟩
  have hH : Go.Sort.HoldsK en 3 w g 0 d := by
    intro k hk'
    have hk' : k < ds.length * 3 := by simpa [hds] using hk'
    refine ⟨?_, by simp [World.frozen?, hg]⟩
    rw [Go.Sort.get_flatK _ _ _ _ (by rw [hds]; exact hk')]
    have hi : k / 3 < ds.length := by omega
    rw [hdi _ hi, hen]
    have hl : (sdc ds[k / 3]).length = 3 := rfl
    have hm' : k % 3 < (sdc ds[k / 3]).length := by rw [hl]; omega
    refine hc _ _ ?_
    have := sds_get ds (k / 3) hi (k % 3) (by omega)
    rw [show k / 3 * 3 + k % 3 = k from by omega] at this
    rw [show 0 + k = k from by omega, this]
    show _ = some ((sdc ds[k / 3])[k % 3]!)
    rw [getElem!_pos (sdc ds[k / 3]) (k % 3) hm', List.getElem?_eq_getElem hm']
  have hS := AnyQ.slices_SortFunc Try.sortS 3 Try.isAgg64 Try.sizeOf64 en (fun x => by rw [hen]; rfl) (fun x v hv => by rw [hen] at hv; exact sds_one [(ds.get x)] v (by simpa [sds] using hv)) (fun x y => cmpB (ds.get x).s.k (ds.get y).s.k) (cmpB_swo fun i : Fin ds.length => (ds.get i).s.k) 35 #[] g 0 cap d w eg hcmp hH hgl (by omega)
  rw [hds] at hS
  refine Calls.mono (show Calls Try.prog 34 _ _ _ from hS) ?_
  rintro e w' ⟨rfl, d', n, os, hp, hs, rfl⟩
  have hd' : d'.size = ds.length := hp.1.trans hds
  have hH' := SWK.holds (⟨n, os, rfl⟩ : SWK en 3 w g 0 d' _) hgl hH (by rw [hd', hds])
  refine ⟨rfl, d'.toList.map (fun i => (ds.get i)), ?_, ?_, ?_, type_sortG en 3 w g n d' os hg, ?_⟩
  · have h3 := hp.2.2
    have e1 : d'.extract 0 ds.length = d' := ext_all d' _ hd'
    have e2 : d.extract 0 ds.length = d := ext_all d _ hds
    rw [e1, e2] at h3
    have h4 := h3.map (fun i : Fin ds.length => (ds.get i))
    rw [e3] at h4
    exact h4
  · rw [List.pairwise_map, List.pairwise_iff_getElem]
    intro i j h1 h2 hij
    have hi' : i < d'.size := by simpa using h1
    have hj' : j < d'.size := by simpa using h2
    have := hs i j (Nat.zero_le _) hij (by omega)
    unfold ltOf at this
    have := of_decide_eq_false this
    rw [cmpB_lt, getElem!_pos d' j hj', getElem!_pos d' i hi'] at this
    simp only [Array.getElem_toList]
    simpa using this
  · intro j u hj
    have hjl := (List.getElem?_eq_some_iff.1 hj).1
    rw [sds_length, List.length_map, Array.length_toList] at hjl
    have hi : j / 3 < d'.size := by omega
    have h1 := (Go.Sort.HoldsK.cell hH' (i := j / 3) (c := j % 3) hi (by omega)).1
    have e1 := sds_get (d'.toList.map (fun i : Fin ds.length => (ds.get i))) (j / 3) (by simpa using hi) (j % 3) (by omega)
    rw [show j / 3 * 3 + j % 3 = j from by omega, hj] at e1
    rw [show 0 + j / 3 * 3 + j % 3 = j from by omega, getElem!_pos d' _ hi] at h1
    rw [h1]
    have hl : ∀ x : SD, (sdc x).length = 3 := fun _ => rfl
    have he : en d'[j / 3] = sdc (ds.get d'[j / 3]) := by rw [hen]
    rw [he, getElem!_pos (sdc (ds.get d'[j / 3])) (j % 3) (by rw [hl]; omega), e1]
    simp
  · exact ⟨rfl, rfl, rfl, size_sortG en 3 w g n d' os, fun k hk hne => heap_sortG en 3 w g n d' os hk (fun e => hne (by rw [e]))⟩
theorem sortS_none (a : Option Addr) (cap : Nat) (w : World) : Calls Try.prog 34 #[.slice a 0 cap, .func (.func 35) #[] #[]] w fun e w' => e = .returned (.tuple #[]) ∧ w' = w :=
  AnyF.slices_SortFunc_none Try.sortS a cap _ w
end Go.Proofs.Ytlepbncaicpmjaa
namespace Go.Proofs.Ytlepbncaicpmjaa
set_option maxRecDepth 100000
open Go.RowKit Go.Shelf Go.Maps
set_option linter.unusedVariables false

theorem ofU_length (l : List UInt8) : (ofU l).length = l.length := by simp [ofU]
/-- []byte(s). -/
theorem run_toB (w : World) (l : List UInt8) (hl : l.length ≤ maxLen) : ∃ w' cap, (convert 9 36 (.string ⟨l.toArray⟩)).run Try.prog w = .ok (.slice (some ⟨w.heap.size, 0, none⟩) l.length cap) w' ∧ Vs w' (fun x => x = w.heap.size) (some ⟨w.heap.size, 0, none⟩) (ofU l).length cap (ofU l) ∧ Below w.heap.size w w' ∧ w.heap.size < w'.heap.size := by
  have hr := run_bytes_of_string (P := Try.prog) w 9 36 5 ⟨l.toArray⟩ Try.underlying9 Try.underlying36 Try.underlying5
  have hs : (⟨l.toArray⟩ : ByteArray).size = l.length := by simp [ByteArray.size]
  rw [hs] at hr
  have hge := grownCap_ge w l.length 0 5
  have hle := grownCap_le_maxLen w l.length 0 5 hl
  refine ⟨_, _, hr, ⟨?_, ?_, hle, (fun e => by cases e), fun ad e _ => by obtain rfl := Option.some.inj e; rfl⟩, ?_, by simp⟩
  · refine ⟨rfl, ofU_okb l, .inr ⟨w.heap.size, 0, rfl, fun i hi => ?_⟩⟩
    rw [ofU_length] at hi
    rw [Nat.zero_add, cell_of_row _ w.heap.size i _ 5 _ (heap_alloc_new w.drew _)]
    simp [bytesRow, hi, ofU, List.getD, Array.getElem?_append]
  · rw [ofU_length]; exact hge
  · exact ⟨rfl, rfl, rfl, by simp, fun k hk => Below.heap_alloc w.drew _ k hk⟩
def mkV (p : Option Addr × Nat × Nat) : Value := .slice p.1 p.2.1 p.2.2
theorem own_ne_iter {w : World} {b r n : Nat} {D : DataW Value} {left : Lit → Bool} {cnt base e sz m : Nat} {v : Value} {xs : List Value} (h : w.ownsRow base e sz v m xs) (hr : w.ranges Try.prog 9 RV b r n D left cnt) : v.ownBlock ≠ some r := by
  obtain ⟨_, _, _, _, _, _, _, _, _, hit, _⟩ := hr
  rcases h.2 with ⟨rfl, _⟩ | ⟨g, cap, cur, rfl, _, hb, _⟩
  · simp [Value.ownBlock]
  · intro e1
    obtain rfl : g = r := by simpa [Value.ownBlock] using e1
    rw [hit] at hb
    cases hb
theorem iter_not_cells {w : World} {b r n : Nat} {D : DataW Value} {left : Lit → Bool} {cnt : Nat} (hr : w.ranges Try.prog 9 RV b r n D left cnt) {a : Option Addr} {m : Nat} {v : List Int} (h : Bs w a m v) {ad : Addr} (e : a = some ad) (hm : 0 < m) : ad.block ≠ r := by
  obtain ⟨_, _, _, _, _, _, _, _, _, hit, _⟩ := hr
  rcases h.2.2 with h0 | ⟨b', off, rfl, hc⟩
  · omega
  · obtain rfl := Option.some.inj e
    intro f
    have f : b' = r := f
    subst f
    have := hc 0 hm
    simp [World.cell?, hit] at this
/-- What has been gathered of a map so far. -/
structure Gth (M : Tab) (left : Lit → Bool) (l : Tab) : Prop where
  mem : ∀ k v, (k, v) ∈ l ↔ (look M k = some v ∧ left (litK k) = false)
  apart : l.Pairwise (fun p q => p.1 ≠ q.1)
theorem Gth.start {w : World} {V : Nat → Prop} {D : DataW Value} {M : Tab} (h : Dm w V D M) (hT : Tok M) : Gth M (Maps.has D) [] := by
  refine ⟨fun k v => ?_, List.Pairwise.nil⟩
  constructor
  · intro h; simp at h
  · rintro ⟨h1, h2⟩
    rw [h.has k (hT.key _ (look_mem h1)).1, h1] at h2
    cases h2
theorem litK_ofU (x : List UInt8) : litK (ofU x) = .string x := by unfold litK; rw [bytesOf_ofU]
theorem Gth.step {M : Tab} {left : Lit → Bool} {l : Tab} (h : Gth M left l) (hT : Tok M) {k v : List Int} (hk : Okb k) (hl : look M k = some v) (hleft : left (litK k) = true) : Gth M (fun z => left z && !z.sameKey (litK k)) (l ++ [(k, v)]) := by
  have hsame : ∀ k', Okb k' → (litK k').sameKey (litK k) = decide (k' = k) := fun k' hk' => by
    by_cases e : k' = k
    · subst e
      rw [decide_eq_true rfl]
      simp [Lit.sameKey, litK]
    · rw [decide_eq_false e]
      exact sameKey_ne fun f => e (litK_inj hk' hk f)
  refine ⟨fun k' v' => ?_, ?_⟩
  · rw [List.mem_append, List.mem_singleton, h.mem k' v']
    constructor
    · rintro (⟨h1, h2⟩ | e)
      · exact ⟨h1, by rw [h2]; rfl⟩
      · obtain ⟨rfl, rfl⟩ : k' = k ∧ v' = v := by simpa using e
        refine ⟨hl, ?_⟩
        rw [hsame k' hk]
        simp
    · rintro ⟨h1, h2⟩
      by_cases e : k' = k
      · subst e
        rw [hl] at h1
        obtain rfl := Option.some.inj h1
        exact .inr rfl
      · left
        refine ⟨h1, ?_⟩
        rw [hsame k' (hT.key _ (look_mem h1)).1, decide_eq_false e] at h2
        simpa using h2
  · rw [List.pairwise_append]
    refine ⟨h.apart, by simp, fun p hp q hq => ?_⟩
    rw [List.mem_singleton] at hq
    subst hq
    intro e
    have := ((h.mem p.1 p.2).1 hp).2
    simp only at e
    rw [e, hleft] at this
    cases this
theorem Gth.done {M : Tab} {left : Lit → Bool} {l l' : Tab} (h : Gth M left l) (hS : Srt M) (hl : ∀ kl, left kl = false) (hp : l'.Perm l) (hs : l'.Pairwise (fun a b => lx b.1 a.1 = false)) : l' = M := by
  refine srt_ext Prod.fst l' M ?_ hS fun x => ?_
  · have ha : l'.Pairwise (fun p q => p.1 ≠ q.1) := (hp.pairwise_iff (fun h => Ne.symm h)).2 h.apart
    exact (hs.and ha).imp fun ⟨h1, h2⟩ => lx_of_ne (Ne.symm h2) h1
  · obtain ⟨k, v⟩ := x
    rw [hp.mem_iff, h.mem k v, srt_mem hS, hl]
    simp
end Go.Proofs.Ytlepbncaicpmjaa
namespace Go.Proofs.Ytlepbncaicpmjaa
set_option maxRecDepth 100000
open Go.RowKit Go.Shelf Go.Maps
set_option linter.unusedVariables false

/-- What has been gathered so far. -/
structure Gs (A T : Sx → Prop) (left : Lit → Bool) (l : List Sx) : Prop where
  mem : ∀ s, s ∈ l ↔ (A s ∨ (T s ∧ left (litK s.k) = false))
  apart : l.Pairwise (fun p q => p.k ≠ q.k)
theorem sameK {k k' : List Int} (hk : Okb k) (hk' : Okb k') : (litK k').sameKey (litK k) = decide (k' = k) := by
  by_cases e : k' = k
  · subst e
    rw [decide_eq_true rfl]
    simp [Lit.sameKey, litK]
  · rw [decide_eq_false e]
    exact sameKey_ne fun f => e (litK_inj hk' hk f)
theorem Gs.add {A T : Sx → Prop} {left : Lit → Bool} {l : List Sx} (h : Gs A T left l) (hT : ∀ s, T s → Okb s.k) (hu : ∀ s s', T s → T s' → s.k = s'.k → s = s') (hA : ∀ s s', A s → T s' → s.k ≠ s'.k) {s0 : Sx} (h0 : T s0) (hl : left (litK s0.k) = true) : Gs A T (fun z => left z && !z.sameKey (litK s0.k)) (l ++ [s0]) := by
  refine ⟨fun s => ?_, ?_⟩
  · rw [List.mem_append, List.mem_singleton, h.mem s]
    constructor
    · rintro ((h1 | ⟨h1, h2⟩) | e)
      · exact .inl h1
      · exact .inr ⟨h1, by rw [h2]; rfl⟩
      · subst e
        refine .inr ⟨h0, ?_⟩
        rw [sameK (hT s h0) (hT s h0)]
        simp
    · rintro (h1 | ⟨h1, h2⟩)
      · exact .inl (.inl h1)
      · by_cases e : s.k = s0.k
        · exact .inr (hu s s0 h1 h0 e)
        · refine .inl (.inr ⟨h1, ?_⟩)
          rw [sameK (hT s0 h0) (hT s h1), decide_eq_false e] at h2
          simpa using h2
  · rw [List.pairwise_append]
    refine ⟨h.apart, by simp, fun p hp q hq => ?_⟩
    rw [List.mem_singleton] at hq
    subst hq
    rcases (h.mem p).1 hp with h1 | ⟨h1, h2⟩
    · exact hA p q h1 h0
    · intro e
      rw [e, hl] at h2
      cases h2
theorem Gs.skip {A T : Sx → Prop} {left : Lit → Bool} {l : List Sx} (h : Gs A T left l) (hT : ∀ s, T s → Okb s.k) {k : List Int} (hk : Okb k) (hn : ∀ s, T s → s.k ≠ k) : Gs A T (fun z => left z && !z.sameKey (litK k)) l := by
  refine ⟨fun s => ?_, h.apart⟩
  rw [h.mem s]
  constructor
  · rintro (h1 | ⟨h1, h2⟩)
    · exact .inl h1
    · exact .inr ⟨h1, by rw [h2]; rfl⟩
  · rintro (h1 | ⟨h1, h2⟩)
    · exact .inl h1
    · refine .inr ⟨h1, ?_⟩
      rw [sameK hk (hT s h1), decide_eq_false (hn s h1)] at h2
      simpa using h2
def T1 (I W : Tab) (s : Sx) : Prop := s.g = false ∧ look I s.k = some s.v ∧ look W s.k ≠ some s.v
def T2 (I W : Tab) (s : Sx) : Prop := s.g = true ∧ s.v = [] ∧ (look W s.k).isSome = true ∧ look I s.k = none
theorem T1_okb {I W : Tab} (hI : Tok I) (s : Sx) (h : T1 I W s) : Okb s.k := (hI.key _ (look_mem h.2.1)).1
theorem T2_okb {I W : Tab} (hW : Tok W) (s : Sx) (h : T2 I W s) : Okb s.k := by
  obtain ⟨v, hv⟩ := Option.isSome_iff_exists.1 h.2.2.1
  exact (hW.key _ (look_mem hv)).1
theorem T1_one {I W : Tab} (s s' : Sx) (h : T1 I W s) (h' : T1 I W s') (e : s.k = s'.k) : s = s' := by
  obtain ⟨k, v, g⟩ := s
  obtain ⟨k', v', g'⟩ := s'
  obtain ⟨h1, h2, _⟩ := h
  obtain ⟨h1', h2', _⟩ := h'
  simp only at *
  subst e h1 h1'
  rw [h2] at h2'
  rw [Option.some.inj h2']
theorem T2_one {I W : Tab} (s s' : Sx) (h : T2 I W s) (h' : T2 I W s') (e : s.k = s'.k) : s = s' := by
  obtain ⟨k, v, g⟩ := s
  obtain ⟨k', v', g'⟩ := s'
  obtain ⟨h1, h2, _⟩ := h
  obtain ⟨h1', h2', _⟩ := h'
  simp only at *
  subst e h1 h1' h2 h2'
  rfl
theorem T12 {I W : Tab} (s s' : Sx) (h : T1 I W s) (h' : T2 I W s') : s.k ≠ s'.k := by
  intro e
  have := h.2.1
  rw [e, h'.2.2.2] at this
  cases this
theorem chg_T {I W : Tab} (s : Sx) : chg1 s.k (look W s.k) (look I s.k) = some s ↔ (T1 I W s ∨ T2 I W s) := by
  obtain ⟨k, v, g⟩ := s
  unfold T1 T2
  simp only
  cases e : look W k with
  | none =>
    cases f : look I k with
    | none => simp [chg1]
    | some u =>
      simp only [chg1, Option.some.injEq, Sx.mk.injEq]
      constructor
      · rintro ⟨_, h2, h3⟩; exact .inl ⟨h3.symm, h2, by simp⟩
      · rintro (⟨h1, h2, _⟩ | ⟨_, _, h, _⟩)
        · exact ⟨trivial, h2, h1.symm⟩
        · cases h
  | some u' =>
    cases f : look I k with
    | none =>
      simp only [chg1, Option.some.injEq, Sx.mk.injEq]
      constructor
      · rintro ⟨_, h2, h3⟩; exact .inr ⟨h3.symm, h2.symm, rfl, trivial⟩
      · rintro (⟨_, h, _⟩ | ⟨h1, h2, _⟩)
        · cases h
        · exact ⟨trivial, h2.symm, h1.symm⟩
    | some u =>
      simp only [chg1]
      by_cases q : u' = u
      · rw [if_pos q]
        constructor
        · intro h; cases h
        · rintro (⟨_, h1, h2⟩ | ⟨_, _, _, h⟩)
          · exact absurd (by rw [q]; exact h1) h2
          · cases h
      · rw [if_neg q]
        simp only [Option.some.injEq, Sx.mk.injEq]
        constructor
        · rintro ⟨_, h2, h3⟩; exact .inl ⟨h3.symm, h2, fun e => q ((Option.some.inj e).trans h2.symm)⟩
        · rintro (⟨h1, h2, _⟩ | ⟨_, _, _, h⟩)
          · exact ⟨trivial, h2, h1.symm⟩
          · cases h
theorem Gs.done {I W : Tab} {left : Lit → Bool} {l l' : List Sx} (h : Gs (T1 I W) (T2 I W) left l) (hW : Srt W) (hl : ∀ kl, left kl = false) (hp : l'.Perm l) (hs : l'.Pairwise (fun a b => lx b.k a.k = false)) : l' = chg W I := by
  refine srt_ext Sx.k l' (chg W I) ?_ (chg_rises hW) fun s => ?_
  · have ha : l'.Pairwise (fun p q => p.k ≠ q.k) := (hp.pairwise_iff (fun h => Ne.symm h)).2 h.apart
    exact (hs.and ha).imp fun ⟨h1, h2⟩ => lx_of_ne (Ne.symm h2) h1
  · rw [hp.mem_iff, h.mem s, mem_chg hW, chg_T, hl]
    simp

/-- An entry of a map, in the tables' words. -/
theorem entry_look {w : World} {V : Nat → Prop} {D : DataW Value} {M : Tab} {x : List UInt8} {va : Option Addr} {vn vc : Nat} {yd : DataW Value} {yp : List MemPlace} (h : Dm w V D M) (hv : RV (mkV (va, vn, vc)) = some (yd, yp)) (hat : ∀ zd, D.atKey (.string x) zd = yd) : ∃ v, look M (ofU x) = some v ∧ Vs w V va vn vc v := by
  obtain ⟨a', n', c', e1, e2⟩ := RV_inv hv
  have e2 : yd = .held (.slice a' n' c') := congrArg Prod.fst e2
  obtain ⟨rfl, rfl, rfl⟩ : va = a' ∧ vn = n' ∧ vc = c' := by simpa [mkV] using e1
  have hh := has_true_of_atKey hat
  rw [← litK_ofU, h.has _ (ofU_okb x)] at hh
  obtain ⟨v, hv'⟩ := Option.isSome_iff_exists.1 hh
  obtain ⟨a, n, c, h1, h2⟩ := h.val _ _ hv'
  rw [litK_ofU] at h1
  have h3 := (h1 yd).symm.trans (hat yd)
  rw [e2] at h3
  obtain ⟨rfl, rfl, rfl⟩ : a = va ∧ n = vn ∧ c = vc := by simpa using h3
  exact ⟨v, hv', h2⟩
end Go.Proofs.Ytlepbncaicpmjaa
