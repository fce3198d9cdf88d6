import Derived.Test.YtjajcbjodokfnaaGreatDoorLA0
import Derived.Test.YtjajcbjodokfnaaGreatDoorShelf
import Derived.Shelf.SlSortCmp.NoneTotal
namespace Go.Proofs.YtjajcbjodokfnaaGreatDoor
set_option maxRecDepth 100000
open Go.RowKit Go.Shelf
set_option linter.unusedVariables false

instance (l : List (Int × Int)) : Decidable (okF l) := by unfold okF; infer_instance
def fcs : List (Int × Int) → List Value
  | [] => []
  | x :: l => .int .i64 x.1 :: .int .i64 x.2 :: fcs l
theorem fcs_length (l : List (Int × Int)) : (fcs l).length = l.length * 2 := by
  induction l with
  | nil => rfl
  | cons x l ih => simp [fcs, ih]; omega
theorem fcs_get (l : List (Int × Int)) : ∀ (j : Nat), j < l.length → (fcs l)[j * 2]? = some (.int .i64 (l.getD j (0, 0)).1) ∧ (fcs l)[j * 2 + 1]? = some (.int .i64 (l.getD j (0, 0)).2) := by
  induction l with
  | nil => intro j h; simp at h
  | cons y l ih =>
    intro j h
    cases j with
    | zero => simp [fcs]
    | succ j =>
      have := ih j (by simpa using h)
      rw [show (j + 1) * 2 = j * 2 + 2 from by omega]
      simpa [fcs] using this
theorem fcs_one (l : List (Int × Int)) : ∀ v ∈ fcs l, v.oneCell' = true := by
  induction l with
  | nil => intro v hv; simp [fcs] at hv
  | cons x l ih =>
    intro v hv
    rcases List.mem_cons.1 hv with rfl | hv
    · rfl
    rcases List.mem_cons.1 hv with rfl | hv
    · rfl
    exact ih v hv
theorem Fs.src {w : World} {ad : Addr} {m : Nat} {fs : List (Int × Int)} (h : Fs w (some ad) m fs) : ∀ j u, (fcs fs)[j]? = some u → w.cell? (ad.add j) = some u := by
  intro j u hj
  have hjl := (List.getElem?_eq_some_iff.1 hj).1
  rw [fcs_length] at hjl
  have hl := h.1
  rcases h.2 with h0 | ⟨b, off, e, hc⟩
  · omega
  · obtain rfl := Option.some.inj e
    rw [Addr.add_lit]
    rcases Nat.mod_two_eq_zero_or_one j with hm | hm
    · obtain ⟨i, rfl⟩ : ∃ i, j = i * 2 := ⟨j / 2, by omega⟩
      rw [(fcs_get fs i (by omega)).1] at hj
      rw [(hc i (by omega)).1]
      exact hj
    · obtain ⟨i, rfl⟩ : ∃ i, j = i * 2 + 1 := ⟨j / 2, by omega⟩
      rw [(fcs_get fs i (by omega)).2] at hj
      have := (hc i (by omega)).2
      rw [show off + (i * 2 + 1) = off + i * 2 + 1 from by omega, this]
      exact hj
theorem Fs.ofOwn {w : World} {B m : Nat} {v : Value} {fs : List (Int × Int)} (h : w.ownsRow B 61 2 v m (fcs fs)) : ∃ a c, v = .slice a m c ∧ Fs w a m fs ∧ m ≤ c ∧ c ≤ maxLen ∧ (∀ ad, a = some ad → ad = ⟨ad.block, 0, none⟩ ∧ B ≤ ad.block ∧ ∃ cur, w.heap[ad.block]? = some (.cells cur 61 (0, 0))) ∧ (a = none → c = 0) := by
  have hl : fs.length = m := by have := h.1; rw [fcs_length] at this; omega
  rcases h.2 with ⟨rfl, rfl⟩ | ⟨g, cap, cur, rfl, hb, hg, hnc, hcm, hs, ht⟩
  · exact ⟨none, 0, rfl, ⟨hl, .inl rfl⟩, Nat.le_refl _, by unfold maxLen; omega, fun ad e => (by cases e), fun _ => rfl⟩
  · refine ⟨_, cap, rfl, ⟨hl, .inr ⟨g, 0, rfl, fun i hi => ?_⟩⟩, hnc, hcm, fun ad e => ?_, fun e => by cases e⟩
    · have q := fcs_get fs i (by omega)
      rw [← ht] at q
      rw [List.getElem?_take, if_pos (by omega), List.getElem?_take, if_pos (by omega)] at q
      rw [Nat.zero_add, cell_of_row w g _ cur _ (0, 0) hg, cell_of_row w g _ cur _ (0, 0) hg]
      simpa using q
    · obtain rfl := Option.some.inj e
      exact ⟨rfl, hb, cur, hg⟩
set_option maxHeartbeats 1000000 in
theorem cloneF_ (a : Option Addr) (m c : Nat) (fs : List (Int × Int)) (w : World) (h : Fs w a m fs) (hm : m * 16 ≤ 140737488355328) :
    Calls Tryz.prog 100 #[.slice a m c] w fun e w' => ∃ v, e = .returned v ∧ w'.ownsRow w.heap.size 61 2 v m (fcs fs) ∧ Below w.heap.size w w' := by
  obtain ⟨i, hi, hz0, hz1, hz2⟩ := info_parts info71
  have heq := Go.Lib.run_eql_slice_nil (P := Tryz.prog) w 37 61 a m c 0 0 Tryz.underlying37
  cases a with
  | none =>
    have hm0 : m = 0 := by
      rcases h.2 with h0 | ⟨b, off, e, _⟩
      · exact h0
      · cases e
    subst hm0
    have hz : fs = [] := List.eq_nil_of_length_eq_zero h.1
    subst hz
    simp only [Option.isNone] at heq
    clear h
    go_enter Tryz.func100, Tryz.ntmps100
    go_wp2_with fail
    go_ret
    exact ⟨_, rfl, World.ownsRow_nil _ _ _ _, Below.refl _ _⟩
  | some x =>
    simp only [Option.isNone] at heq
    have HSRC := hid ((h.below ((Below.refl w.heap.size w).alloc (Nat.le_refl _) (.cells #[] 61))).src)
    have hl := h.1
    have HFL := hid (fcs_length fs)
    clear h
    go_enter Tryz.func100, Tryz.ntmps100
    go_wp2_with (at_builtin; (refine wpList_append_own _ rfl _ _ 37 rfl w.heap.size 61 i _ 2 16 Tryz.underlying37 hi hz0 hz1 hz2 rfl (by decide) _ 0 [] rfl (World.ownsRow_made w _ 0 (Nat.le_refl _) (by unfold maxLen; omega) (by simp)) x m c (fcs fs) rfl (by rw [HFL.out, hl]) HSRC.out (fcs_one fs) (by unfold maxLen; omega) (by omega) (by simp) ?_); intro v' w1 hown hg hv)
    have hg' : (w.alloc (.cells #[] 61)).grownBy w1 (some w.heap.size) := hg
    go_ret
    refine ⟨_, rfl, by simpa using hown, grown_past' hg'⟩
/-- A fault's cells. -/
def encF (x : Int × Int) : List Value := [.int .i64 x.1, .int .i64 x.2]
def cfF (x y : Int × Int) : Int := cmpI x.1 y.1
theorem cfF_lt (x y : Int × Int) : cfF x y < 0 ↔ x.1 < y.1 := by
  unfold cfF cmpI
  split
  · exact ⟨fun _ => by assumption, fun _ => by decide⟩
  · split <;> omega
theorem swoF : Go.Sort.SWO (ltOf cfF) := by
  constructor
  · intro x
    unfold ltOf
    refine decide_eq_false ?_
    rw [cfF_lt]
    omega
  · intro x y z h1 h2
    unfold ltOf at *
    have h1 := of_decide_eq_true h1
    have h2 := of_decide_eq_true h2
    rw [cfF_lt] at h1 h2
    refine decide_eq_true ?_
    rw [cfF_lt]
    omega
  · intro x y z h1 h2
    unfold ltOf at *
    have h1 := of_decide_eq_false h1
    have h2 := of_decide_eq_false h2
    rw [cfF_lt] at h1 h2
    refine decide_eq_false ?_
    rw [cfF_lt]
    omega
theorem holdsF {w : World} {g m : Nat} {fs : List (Int × Int)} {cur : Array Value} {t : TypeId} (h : Fs w (some ⟨g, 0, none⟩) m fs) (hg : w.heap[g]? = some (.cells cur t (0, 0))) : Go.Sort.HoldsK encF 2 w g 0 fs.toArray := by
  intro k hk
  have hk' : k < fs.length * 2 := by simpa using hk
  refine ⟨?_, by simp [World.frozen?, hg]⟩
  rw [Go.Sort.get_flatK _ _ _ _ (by simpa using hk')]
  have hl := h.1
  rcases h.2 with h0 | ⟨b, off, e, hc⟩
  · omega
  · obtain ⟨rfl, rfl⟩ : g = b ∧ 0 = off := by simpa using e
    have hj := hc (k / 2) (by omega)
    have e1 : fs.toArray[k / 2]! = fs.getD (k / 2) (0, 0) := by
      simp [show k / 2 < fs.length from by omega, List.getD]
    rw [e1, Nat.zero_add] at *
    rcases Nat.mod_two_eq_zero_or_one k with hm | hm
    · rw [hm]
      rw [show k / 2 * 2 = k from by omega] at hj
      exact hj.1
    · rw [hm]
      rw [show k / 2 * 2 + 1 = k from by omega] at hj
      exact hj.2
theorem fs_holds {w : World} {g : Nat} {d : Array (Int × Int)} (h : Go.Sort.HoldsK encF 2 w g 0 d) : Fs w (some ⟨g, 0, none⟩) d.size d.toList := by
  refine ⟨by simp, .inr ⟨g, 0, rfl, fun i hi => ?_⟩⟩
  have e1 : d[i]! = d.toList.getD i (0, 0) := by simp [List.getD, hi]
  have h0 := (Go.Sort.HoldsK.cell h (i := i) (c := 0) hi (by decide)).1
  have h1 := (Go.Sort.HoldsK.cell h (i := i) (c := 1) hi (by decide)).1
  rw [e1] at h0 h1
  exact ⟨h0, h1⟩
theorem heap_sortK (w : World) (g m : Nat) (dk : Array (Int × Int)) (os : Array Obj) {k : Nat} (hk : k < w.heap.size) (hn : k ≠ g) : (sortWorldK encF 2 w g 0 m dk os).heap[k]? = w.heap[k]? := by
  unfold sortWorldK Go.Sort.putRowK
  rw [Go.Sort.heap_grow_old _ _ (by rw [size_putRow]; exact hk)]
  simp [Go.Sort.putRow, Go.Sort.mapBlock, Go.Sort.ahead, Array.getElem?_modify, Ne.symm hn]
theorem type_sortK (w : World) (g m : Nat) (dk : Array (Int × Int)) (os : Array Obj) {cur : Array Value} {t : TypeId} (hg : w.heap[g]? = some (.cells cur t (0, 0))) : ∃ cur', (sortWorldK encF 2 w g 0 m dk os).heap[g]? = some (.cells cur' t (0, 0)) := by
  unfold sortWorldK Go.Sort.putRowK
  rw [Go.Sort.heap_grow_old _ _ (by rw [size_putRow]; exact (Array.getElem?_eq_some_iff.1 hg).1)]
  refine ⟨Go.Sort.putCells id 0 (Go.Sort.flatK encF 2 dk) cur, ?_⟩
  simp [Go.Sort.putRow, Go.Sort.mapBlock, Go.Sort.ahead, Array.getElem?_modify, hg]
  rfl
set_option maxHeartbeats 1000000 in
theorem sort_ (g m cap : Nat) (fs : List (Int × Int)) (cur : Array Value) (w : World) (hg : w.heap[g]? = some (.cells cur 61 (0, 0))) (h : Fs w (some ⟨g, 0, none⟩) m fs) (hm : m ≤ 140737488355328) :
    Calls Tryz.prog 101 #[.slice (some ⟨g, 0, none⟩) m cap, .func (.func 102) #[] #[]] w fun e w' => e = .returned (.tuple #[]) ∧ ∃ ys : List (Int × Int), ys.Perm fs ∧ ys.Pairwise (fun a b => a.1 ≤ b.1) ∧ Fs w' (some ⟨g, 0, none⟩) m ys ∧ (∃ cur', w'.heap[g]? = some (.cells cur' 61 (0, 0))) ∧ w.grownBy w' (some g) := by
  have hgl := (Array.getElem?_eq_some_iff.1 hg).1
  have hl := h.1
  have eg : ∀ args w, (callFunc 102 args).run Tryz.prog w = .ok (.enter 102 args) w := enters_of Tryz.func102 (by kernel_rfl) rfl
  have hcmp : CmpLays Tryz.prog 102 #[] encF 2 cfF g 0 fs.toArray.size w := fun _ _ _ _ x y => by
    refine (cmpA_ x.1 x.2 y.1 y.2 _).mono ?_
    rintro e w' ⟨rfl, rfl⟩
    exact ⟨rfl, 0, _, by rw [Go.Sort.alloc_eq_grow, Go.Sort.alloc_eq_grow, Go.Sort.grow_grow]; rfl⟩
  have hS := AnyQ.slices_SortFunc Tryz.sortL 2 Tryz.isAgg61 Tryz.sizeOf61 encF (fun _ => rfl) (fun x v hv => by simp [encF] at hv; rcases hv with rfl | rfl <;> rfl) cfF swoF 102 #[] g 0 cap fs.toArray w eg hcmp (holdsF h hg) hgl (by simp; omega)
  have hsz : fs.toArray.size = m := by simpa using hl
  rw [hsz] at hS
  refine Calls.mono (show Calls Tryz.prog 101 _ _ _ from hS) ?_
  rintro e w' ⟨rfl, d', n, os, hp, hs, rfl⟩
  have hd : d'.size = m := hp.1.trans hsz
  have hH' := SWK.holds (⟨n, os, rfl⟩ : SWK encF 2 w g 0 d' _) hgl (holdsF h hg) (by rw [hd, hsz])
  refine ⟨rfl, d'.toList, ?_, ?_, ?_, type_sortK w g n d' os hg, ?_⟩
  · have h3 := hp.2.2
    have e1 : d'.extract 0 m = d' := by rw [← hd]; simp
    have e2 : fs.toArray.extract 0 m = fs.toArray := by rw [← hsz]; simp
    rw [e1, e2] at h3
    exact h3
  · rw [List.pairwise_iff_getElem]
    intro i j h1 h2 hij
    have hi' : i < d'.size := by simpa using h1
    have hj' : j < d'.size := by simpa using h2
    have := hs i j (Nat.zero_le _) hij (by omega)
    unfold ltOf at this
    have := of_decide_eq_false this
    rw [cfF_lt, getElem!_pos d' j hj', getElem!_pos d' i hi'] at this
    simp only [Array.getElem_toList]
    omega
  · have := fs_holds hH'
    rw [hd] at this
    exact this
  · exact ⟨rfl, rfl, rfl, SWK.le (⟨n, os, rfl⟩ : SWK encF 2 w g 0 d' _), fun k hk hne => heap_sortK w g n d' os hk (fun e => hne (by rw [e]))⟩
theorem sort_none (a : Option Addr) (cap : Nat) (w : World) : Calls Tryz.prog 101 #[.slice a 0 cap, .func (.func 102) #[] #[]] w fun e w' => e = .returned (.tuple #[]) ∧ w' = w :=
  AnyF.slices_SortFunc_none Tryz.sortL a cap _ w
end Go.Proofs.YtjajcbjodokfnaaGreatDoor
