import Derived.Test.YtblcpdffiafgnaaGreatDoorSMath
import Derived.Test.YtblcpdffiafgnaaGreatDoorShelf
import Derived.Shelf.SlSortCmp.NoneTotal
import Derived.Test.YtblcpdffiafgnaaGreatDoorXM
namespace Go.Proofs.YtblcpdffiafgnaaGreatDoor
set_option linter.unusedSimpArgs false
set_option maxRecDepth 100000
open Go.RowKit Go.Shelf
set_option linter.unusedVariables false

instance (l : List (Int × Int)) : Decidable (okF l) := by unfold okF; infer_instance
def fcs : List (Int × Int) → List Value
  | [] => []
  | x :: l => .int .i64 x.1 :: .int .i64 x.2 :: fcs l
theorem fcs_length (l : List (Int × Int)) : (fcs l).length = l.length * 2 := by
  induction l with
  | nil => rfl
  | cons x l ih => simp [fcs, ih]; omega
theorem fcs_get (l : List (Int × Int)) : ∀ (j : Nat), j < l.length → (fcs l)[j * 2]? = some (.int .i64 (l.getD j (0, 0)).1) ∧ (fcs l)[j * 2 + 1]? = some (.int .i64 (l.getD j (0, 0)).2) := by
  induction l with
  | nil => intro j h; simp at h
  | cons y l ih =>
    intro j h
    cases j with
    | zero => simp [fcs]
    | succ j =>
      have := ih j (by simpa using h)
      rw [show (j + 1) * 2 = j * 2 + 2 from by omega]
      simpa [fcs] using this
theorem fcs_one (l : List (Int × Int)) : ∀ v ∈ fcs l, v.oneCell' = true := by
  induction l with
  | nil => intro v hv; simp [fcs] at hv
  | cons x l ih =>
    intro v hv
    rcases List.mem_cons.1 hv with rfl | hv
    · rfl
    rcases List.mem_cons.1 hv with rfl | hv
    · rfl
    exact ih v hv
theorem Fs.src {w : World} {ad : Addr} {m : Nat} {fs : List (Int × Int)} (h : Fs w (some ad) m fs) : ∀ j u, (fcs fs)[j]? = some u → w.cell? (ad.add j) = some u := by
  intro j u hj
  have hjl := (List.getElem?_eq_some_iff.1 hj).1
  rw [fcs_length] at hjl
  have hl := h.1
  rcases h.2 with h0 | ⟨b, off, e, hc⟩
  · omega
  · obtain rfl := Option.some.inj e
    rw [Addr.add_lit]
    rcases Nat.mod_two_eq_zero_or_one j with hm | hm
    · obtain ⟨i, rfl⟩ : ∃ i, j = i * 2 := ⟨j / 2, by omega⟩
      rw [(fcs_get fs i (by omega)).1] at hj
      rw [(hc i (by omega)).1]
      exact hj
    · obtain ⟨i, rfl⟩ : ∃ i, j = i * 2 + 1 := ⟨j / 2, by omega⟩
      rw [(fcs_get fs i (by omega)).2] at hj
      have := (hc i (by omega)).2
      rw [show off + (i * 2 + 1) = off + i * 2 + 1 from by omega, this]
      exact hj
theorem Fs.ofOwn {w : World} {B m : Nat} {v : Value} {fs : List (Int × Int)} (h : w.ownsRow B 50 2 v m (fcs fs)) : ∃ a c, v = .slice a m c ∧ Fs w a m fs ∧ m ≤ c ∧ c ≤ maxLen ∧ (∀ ad, a = some ad → ad = ⟨ad.block, 0, none⟩ ∧ B ≤ ad.block ∧ ∃ cur, w.heap[ad.block]? = some (.cells cur 50 (0, 0))) ∧ (a = none → c = 0) := by
  have hl : fs.length = m := by have := h.1; rw [fcs_length] at this; omega
  rcases h.2 with ⟨rfl, rfl⟩ | ⟨g, cap, cur, rfl, hb, hg, hnc, hcm, hs, ht⟩
  · exact ⟨none, 0, rfl, ⟨hl, .inl rfl⟩, Nat.le_refl _, by unfold maxLen; omega, fun ad e => (by cases e), fun _ => rfl⟩
  · refine ⟨_, cap, rfl, ⟨hl, .inr ⟨g, 0, rfl, fun i hi => ?_⟩⟩, hnc, hcm, fun ad e => ?_, fun e => by cases e⟩
    · have q := fcs_get fs i (by omega)
      rw [← ht] at q
      rw [List.getElem?_take, if_pos (by omega), List.getElem?_take, if_pos (by omega)] at q
      rw [Nat.zero_add, cell_of_row w g _ cur _ (0, 0) hg, cell_of_row w g _ cur _ (0, 0) hg]
      simpa using q
    · obtain rfl := Option.some.inj e
      exact ⟨rfl, hb, cur, hg⟩
set_option maxHeartbeats 1000000 in
theorem cloneF_ (a : Option Addr) (m c : Nat) (fs : List (Int × Int)) (w : World) (h : Fs w a m fs) (hm : m * 16 ≤ 140737488355328) :
    Calls Tryz.prog 39 #[.slice a m c] w fun e w' => ∃ v, e = .returned v ∧ w'.ownsRow w.heap.size 50 2 v m (fcs fs) ∧ Below w.heap.size w w' := by
  obtain ⟨i, hi, hz0, hz1, hz2⟩ := info_parts info71
  have heq := Go.Lib.run_eql_slice_nil (P := Tryz.prog) w 28 50 a m c 0 0 Tryz.underlying28
  cases a with
  | none =>
    have hm0 : m = 0 := by
      rcases h.2 with h0 | ⟨b, off, e, _⟩
      · exact h0
      · cases e
    subst hm0
    have hz : fs = [] := List.eq_nil_of_length_eq_zero h.1
    subst hz
    simp only [Option.isNone] at heq
    clear h
    go_enter Tryz.func39, Tryz.ntmps39
    go_wp2_with fail
    go_ret
    exact ⟨_, rfl, World.ownsRow_nil _ _ _ _, Below.refl _ _⟩
  | some x =>
    simp only [Option.isNone] at heq
    have HSRC := hid ((h.below ((Below.refl w.heap.size w).alloc (Nat.le_refl _) (.cells #[] 50))).src)
    have hl := h.1
    have HFL := hid (fcs_length fs)
    clear h
    go_enter Tryz.func39, Tryz.ntmps39
    go_wp2_with (at_builtin; (refine wpList_append_own _ rfl _ _ 28 rfl w.heap.size 50 i _ 2 16 Tryz.underlying28 hi hz0 hz1 hz2 rfl (by decide) _ 0 [] rfl (World.ownsRow_made w _ 0 (Nat.le_refl _) (by unfold maxLen; omega) (by simp)) x m c (fcs fs) rfl (by rw [HFL.out, hl]) HSRC.out (fcs_one fs) (by unfold maxLen; omega) (by omega) (by simp) ?_); intro v' w1 hown hg hv)
    have hg' : (w.alloc (.cells #[] 50)).grownBy w1 (some w.heap.size) := hg
    go_ret
    refine ⟨_, rfl, by simpa using hown, grown_past' hg'⟩
/-- A fault's cells. -/
def encF (x : Int × Int) : List Value := [.int .i64 x.1, .int .i64 x.2]
def cfF (x y : Int × Int) : Int := cmpI x.1 y.1
theorem cfF_lt (x y : Int × Int) : cfF x y < 0 ↔ x.1 < y.1 := by
  unfold cfF cmpI
  split
  · exact ⟨fun _ => by assumption, fun _ => by decide⟩
  · split <;> omega
theorem swoF : Go.Sort.SWO (ltOf cfF) := by
  constructor
  · intro x
    unfold ltOf
    refine decide_eq_false ?_
    rw [cfF_lt]
    omega
  · intro x y z h1 h2
    unfold ltOf at *
    have h1 := of_decide_eq_true h1
    have h2 := of_decide_eq_true h2
    rw [cfF_lt] at h1 h2
    refine decide_eq_true ?_
    rw [cfF_lt]
    omega
  · intro x y z h1 h2
    unfold ltOf at *
    have h1 := of_decide_eq_false h1
    have h2 := of_decide_eq_false h2
    rw [cfF_lt] at h1 h2
    refine decide_eq_false ?_
    rw [cfF_lt]
    omega
theorem holdsF {w : World} {g m : Nat} {fs : List (Int × Int)} {cur : Array Value} {t : TypeId} (h : Fs w (some ⟨g, 0, none⟩) m fs) (hg : w.heap[g]? = some (.cells cur t (0, 0))) : Go.Sort.HoldsK encF 2 w g 0 fs.toArray := by
  intro k hk
  have hk' : k < fs.length * 2 := by simpa using hk
  refine ⟨?_, by simp [World.frozen?, hg]⟩
  rw [Go.Sort.get_flatK _ _ _ _ (by simpa using hk')]
  have hl := h.1
  rcases h.2 with h0 | ⟨b, off, e, hc⟩
  · omega
  · obtain ⟨rfl, rfl⟩ : g = b ∧ 0 = off := by simpa using e
    have hj := hc (k / 2) (by omega)
    have e1 : fs.toArray[k / 2]! = fs.getD (k / 2) (0, 0) := by
      simp [show k / 2 < fs.length from by omega, List.getD]
    rw [e1, Nat.zero_add] at *
    rcases Nat.mod_two_eq_zero_or_one k with hm | hm
    · rw [hm]
      rw [show k / 2 * 2 = k from by omega] at hj
      exact hj.1
    · rw [hm]
      rw [show k / 2 * 2 + 1 = k from by omega] at hj
      exact hj.2
theorem fs_holds {w : World} {g : Nat} {d : Array (Int × Int)} (h : Go.Sort.HoldsK encF 2 w g 0 d) : Fs w (some ⟨g, 0, none⟩) d.size d.toList := by
  refine ⟨by simp, .inr ⟨g, 0, rfl, fun i hi => ?_⟩⟩
  have e1 : d[i]! = d.toList.getD i (0, 0) := by simp [List.getD, hi]
  have h0 := (Go.Sort.HoldsK.cell h (i := i) (c := 0) hi (by decide)).1
  have h1 := (Go.Sort.HoldsK.cell h (i := i) (c := 1) hi (by decide)).1
  rw [e1] at h0 h1
  exact ⟨h0, h1⟩
theorem heap_sortK (w : World) (g m : Nat) (dk : Array (Int × Int)) (os : Array Obj) {k : Nat} (hk : k < w.heap.size) (hn : k ≠ g) : (sortWorldK encF 2 w g 0 m dk os).heap[k]? = w.heap[k]? := by
  unfold sortWorldK Go.Sort.putRowK
  rw [Go.Sort.heap_grow_old _ _ (by rw [size_putRow]; exact hk)]
  simp [Go.Sort.putRow, Go.Sort.mapBlock, Go.Sort.ahead, Array.getElem?_modify, Ne.symm hn]
theorem type_sortK (w : World) (g m : Nat) (dk : Array (Int × Int)) (os : Array Obj) {cur : Array Value} {t : TypeId} (hg : w.heap[g]? = some (.cells cur t (0, 0))) : ∃ cur', (sortWorldK encF 2 w g 0 m dk os).heap[g]? = some (.cells cur' t (0, 0)) := by
  unfold sortWorldK Go.Sort.putRowK
  rw [Go.Sort.heap_grow_old _ _ (by rw [size_putRow]; exact (Array.getElem?_eq_some_iff.1 hg).1)]
  refine ⟨Go.Sort.putCells id 0 (Go.Sort.flatK encF 2 dk) cur, ?_⟩
  simp [Go.Sort.putRow, Go.Sort.mapBlock, Go.Sort.ahead, Array.getElem?_modify, hg]
  rfl
set_option maxHeartbeats 1000000 in
theorem sort_ (g m cap : Nat) (fs : List (Int × Int)) (cur : Array Value) (w : World) (hg : w.heap[g]? = some (.cells cur 50 (0, 0))) (h : Fs w (some ⟨g, 0, none⟩) m fs) (hm : m ≤ 140737488355328) :
    Calls Tryz.prog 40 #[.slice (some ⟨g, 0, none⟩) m cap, .func (.func 41) #[] #[]] w fun e w' => e = .returned (.tuple #[]) ∧ ∃ ys : List (Int × Int), ys.Perm fs ∧ ys.Pairwise (fun a b => a.1 ≤ b.1) ∧ Fs w' (some ⟨g, 0, none⟩) m ys ∧ (∃ cur', w'.heap[g]? = some (.cells cur' 50 (0, 0))) ∧ w.grownBy w' (some g) := by
  have hgl := (Array.getElem?_eq_some_iff.1 hg).1
  have hl := h.1
  have eg : ∀ args w, (callFunc 41 args).run Tryz.prog w = .ok (.enter 41 args) w := enters_of Tryz.func41 (by kernel_rfl) rfl
  have hcmp : CmpLays Tryz.prog 41 #[] encF 2 cfF g 0 fs.toArray.size w := fun _ _ _ _ x y => by
    refine (cmpA_ x.1 x.2 y.1 y.2 _).mono ?_
    rintro e w' ⟨rfl, rfl⟩
    exact ⟨rfl, 0, _, by rw [Go.Sort.alloc_eq_grow, Go.Sort.alloc_eq_grow, Go.Sort.grow_grow]; rfl⟩
  have hS := AnyQ.slices_SortFunc Tryz.sortL 2 Tryz.isAgg50 Tryz.sizeOf50 encF (fun _ => rfl) (fun x v hv => by simp [encF] at hv; rcases hv with rfl | rfl <;> rfl) cfF swoF 41 #[] g 0 cap fs.toArray w eg hcmp (holdsF h hg) hgl (by simp; omega)
  have hsz : fs.toArray.size = m := by simpa using hl
  rw [hsz] at hS
  refine Calls.mono (show Calls Tryz.prog 40 _ _ _ from hS) ?_
  rintro e w' ⟨rfl, d', n, os, hp, hs, rfl⟩
  have hd : d'.size = m := hp.1.trans hsz
  have hH' := SWK.holds (⟨n, os, rfl⟩ : SWK encF 2 w g 0 d' _) hgl (holdsF h hg) (by rw [hd, hsz])
  refine ⟨rfl, d'.toList, ?_, ?_, ?_, type_sortK w g n d' os hg, ?_⟩
  · have h3 := hp.2.2
    have e1 : d'.extract 0 m = d' := by rw [← hd]; simp
    have e2 : fs.toArray.extract 0 m = fs.toArray := by rw [← hsz]; simp
    rw [e1, e2] at h3
    exact h3
  · rw [List.pairwise_iff_getElem]
    intro i j h1 h2 hij
    have hi' : i < d'.size := by simpa using h1
    have hj' : j < d'.size := by simpa using h2
    have := hs i j (Nat.zero_le _) hij (by omega)
    unfold ltOf at this
    have := of_decide_eq_false this
    rw [cfF_lt, getElem!_pos d' j hj', getElem!_pos d' i hi'] at this
    simp only [Array.getElem_toList]
    omega
  · have := fs_holds hH'
    rw [hd] at this
    exact this
  · exact ⟨rfl, rfl, rfl, SWK.le (⟨n, os, rfl⟩ : SWK encF 2 w g 0 d' _), fun k hk hne => heap_sortK w g n d' os hk (fun e => hne (by rw [e]))⟩
theorem sort_none (a : Option Addr) (cap : Nat) (w : World) : Calls Tryz.prog 40 #[.slice a 0 cap, .func (.func 41) #[] #[]] w fun e w' => e = .returned (.tuple #[]) ∧ w' = w :=
  AnyF.slices_SortFunc_none Tryz.sortL a cap _ w
end Go.Proofs.YtblcpdffiafgnaaGreatDoor
namespace Go.Proofs.YtblcpdffiafgnaaGreatDoor
set_option linter.unusedSimpArgs false
set_option maxRecDepth 100000
open Go.RowKit Go.Shelf
set_option linter.unusedVariables false

theorem cnX_some {zs : List Int} {N i : Nat} {x : Sp} (hb : By zs) (h : cnX (gs zs) N i = some x) : x.K = pcN x.L ∧ x.K + 11 ≤ roo N ∧ mq x.e ∧ mq x.s ∧ x.m < 4294967296 ∧ x.e % 2 = i ∧ ∃ l : List Int, gs zs = some ⟨t1, x.e, x.s, i, l⟩ := by
  cases hg : gs zs with
  | none => rw [hg] at h; cases h
  | some y =>
    rw [hg] at h
    have hM := (gs_some hg).2.1
    have hy : By y.l := by rw [(gs_some hg).2.2.2]; exact sl_by hb _ _
    obtain ⟨T, e, q, p, l⟩ := y
    obtain ⟨_, ⟨e1, e2⟩, ⟨q1, q2⟩, ⟨p1, p2⟩, hl⟩ := hM
    unfold cnX at h
    simp only at h e1 e2 q1 q2 p1 p2 hl hy
    split at h
    · rename_i k
      obtain ⟨rfl, rfl, k3, k4, k5, k6, k7⟩ := k
      obtain rfl := Option.some.inj h
      have b8 := val_bd hy (i := 8) (n := 4) (by omega)
      have b12 := val_bd hy (i := 12) (n := 4) (by omega)
      refine ⟨by simp only; omega, by simp only; omega, ⟨by simp only; omega, by simp only; omega⟩, ⟨by simp only; omega, by simp only; omega⟩, ?_, by simp only; omega, l, ?_⟩
      · simp only
        have := b12.2
        omega
      · simp only
        rw [show ((e.toNat : Nat) : Int) = e from by omega, show ((q.toNat : Nat) : Int) = q from by omega]
    · cases h
theorem getSuper_ {w : World} {d : Nat} {s : St} {Q : Nat → Prop} {a : Option Addr} {n c : Nat} {zs : List Int} (i : Nat) (h : Dev w d s Q) (hT : Tab w) (hb : Bs w a n zs) (hc : n ≤ c) (hm : c ≤ maxLen) :
    Calls Tryz.prog 102 #[.pointer (some ⟨d, 0, none⟩), .int .i64 i, .slice a n c] w fun en w' => ∃ e q l m : Int, en = .returned (.tuple #[.agg #[.int .i64 e, .int .i64 q, .int .i64 l, .int .u32 m], .bool (cnX (gs zs) s.n i).isSome]) ∧ (∀ x, cnX (gs zs) s.n i = some x → e = x.e ∧ q = x.s ∧ l = x.L ∧ m = x.m) ∧ Below w.heap.size w w' := by
  have no : cnX (gs zs) s.n i = none → Calls Tryz.prog 102 #[.pointer (some ⟨d, 0, none⟩), .int .i64 i, .slice a n c] w (fun en w' => noSup w w' en) → Calls Tryz.prog 102 #[.pointer (some ⟨d, 0, none⟩), .int .i64 i, .slice a n c] w fun en w' => ∃ e q l m : Int, en = .returned (.tuple #[.agg #[.int .i64 e, .int .i64 q, .int .i64 l, .int .u32 m], .bool (cnX (gs zs) s.n i).isSome]) ∧ (∀ x, cnX (gs zs) s.n i = some x → e = x.e ∧ q = x.s ∧ l = x.L ∧ m = x.m) ∧ Below w.heap.size w w' := fun h1 h2 => by
    rw [h1]
    refine h2.mono ?_
    rintro en w' ⟨e, q, l, m, rfl, hB⟩
    exact ⟨e, q, l, m, rfl, fun x hx => (by cases hx), hB⟩
  cases hg : gs zs with
  | none =>
    rw [hg] at no
    exact no rfl (gsup_0 i hT hb hc hm hg)
  | some y =>
    have hM := (gs_some hg).2.1
    have hy : By y.l := by rw [(gs_some hg).2.2.2]; exact sl_by hb.2.1 _ _
    obtain ⟨T, e, q, p, l⟩ := y
    obtain ⟨_, ⟨e1, e2⟩, ⟨q1, q2⟩, ⟨p1, p2⟩, hl⟩ := hM
    simp only at e1 e2 q1 q2 p1 p2 hl hy
    obtain ⟨e', rfl⟩ : ∃ k : Nat, (k : Int) = e := ⟨e.toNat, by omega⟩
    obtain ⟨q', rfl⟩ : ∃ k : Nat, (k : Int) = q := ⟨q.toNat, by omega⟩
    rw [hg] at no
    by_cases h1 : T = t1
    · subst h1
      by_cases h2 : e' % 2 = i
      · by_cases h3 : p = i
        · subst h3
          by_cases h4 : l.length = 16
          · obtain ⟨v1, v2, v3, v4⟩ := vz4 h4
            have b4 := val_bd hy (i := 4) (n := 4) (by omega)
            have b8 := val_bd hy (i := 8) (n := 4) (by omega)
            have b12 := val_bd hy (i := 12) (n := 4) (by omega)
            have k5 := gsup_5 i h hT hb hc hm e' q' l hg h2 h4
            rw [v1, v2, v3, v4] at k5
            refine k5.mono ?_
            rintro en w' ⟨rfl, hB⟩
            by_cases hc7 : val (sl l 0 4) = s.n ∧ val (sl l 4 4) = pcN (val (sl l 8 4)).toNat ∧ val (sl l 4 4) + 11 ≤ roo s.n
            · have ec : cnX (some ⟨t1, e', q', i, l⟩) s.n i = some ⟨e', q', (val (sl l 4 4)).toNat, (val (sl l 8 4)).toNat, (val (sl l 12 4)).toNat⟩ := by
                unfold cnX
                simp only
                rw [if_pos ⟨trivial, trivial, by omega, h4, hc7.1, hc7.2.1, hc7.2.2⟩]
                simp
              rw [ec]
              refine ⟨e', q', val (sl l 8 4), val (sl l 12 4), ?_, fun x hx => ?_, hB⟩
              · rw [decide_eq_true hc7.1, decide_eq_true hc7.2.1, decide_eq_true (by omega)]
                rfl
              · obtain rfl := Option.some.inj hx
                exact ⟨rfl, rfl, by simp only; omega, by simp only; omega⟩
            · have ec : cnX (some ⟨t1, e', q', i, l⟩) s.n i = none := by
                unfold cnX
                simp only
                rw [if_neg (fun k => hc7 ⟨k.2.2.2.2.1, k.2.2.2.2.2.1, k.2.2.2.2.2.2⟩)]
              rw [ec]
              refine ⟨e', q', val (sl l 8 4), val (sl l 12 4), ?_, fun x hx => (by cases hx), hB⟩
              have : (decide (val (sl l 0 4) = (s.n : Int)) && (decide (val (sl l 4 4) = ((pcN (val (sl l 8 4)).toNat : Nat) : Int)) && decide (pcN (val (sl l 8 4)).toNat + 11 ≤ roo s.n))) = false := by
                by_cases a1 : val (sl l 0 4) = (s.n : Int)
                · by_cases a2 : val (sl l 4 4) = ((pcN (val (sl l 8 4)).toNat : Nat) : Int)
                  · rw [decide_eq_false (p := pcN (val (sl l 8 4)).toNat + 11 ≤ roo s.n) (fun a3 => hc7 ⟨a1, a2, by omega⟩), Bool.and_false, Bool.and_false]
                  · rw [decide_eq_false a2, Bool.false_and, Bool.and_false]
                · rw [decide_eq_false a1, Bool.false_and]
              rw [this]
              rfl
          · refine no ?_ (gsup_4 i h hT hb hc hm e' q' l hg h2 h4)
            unfold cnX
            simp only
            rw [if_neg (fun k => h4 k.2.2.2.1)]
        · refine no ?_ (gsup_3 i hT hb hc hm e' q' p l hg h2 h3)
          unfold cnX
          simp only
          rw [if_neg (fun k => h3 k.2.1)]
      · refine no ?_ (gsup_2 i hT hb hc hm e' q' p l hg h2)
        unfold cnX
        simp only
        rw [if_neg (fun k => h2 (by have := k.2.2.1; omega))]
    · refine no ?_ (gsup_1 i hT hb hc hm T e' q' p l hg h1)
      unfold cnX
      simp only
      rw [if_neg (fun k => h1 k.1)]
end Go.Proofs.YtblcpdffiafgnaaGreatDoor
namespace Go.Proofs.YtblcpdffiafgnaaGreatDoor
set_option linter.unusedSimpArgs false
set_option maxRecDepth 100000
open Go.RowKit Go.Shelf
set_option linter.unusedVariables false

/-- What a superblock's four numbers are. -/
abbrev U4 := Int × Int × Int × Int
def encU (x : U4) : List Value := [.int .i64 x.1, .int .i64 x.2.1, .int .i64 x.2.2.1, .int .u32 x.2.2.2]
def ucs : List U4 → List Value
  | [] => []
  | x :: l => encU x ++ ucs l
theorem ucs_length : ∀ l : List U4, (ucs l).length = l.length * 4
  | [] => rfl
  | x :: l => by simp [ucs, encU, ucs_length l]; omega
theorem ucs_app : ∀ (a b : List U4), ucs (a ++ b) = ucs a ++ ucs b
  | [], b => rfl
  | x :: a, b => by simp [ucs, ucs_app a b]
theorem ucs_get : ∀ (l : List U4) (j : Nat), j < l.length → (ucs l)[j * 4]? = some (.int .i64 (l.getD j (0, 0, 0, 0)).1) ∧ (ucs l)[j * 4 + 1]? = some (.int .i64 (l.getD j (0, 0, 0, 0)).2.1) ∧ (ucs l)[j * 4 + 2]? = some (.int .i64 (l.getD j (0, 0, 0, 0)).2.2.1) ∧ (ucs l)[j * 4 + 3]? = some (.int .u32 (l.getD j (0, 0, 0, 0)).2.2.2)
  | [], j, h => by simp at h
  | x :: l, 0, h => by simp [ucs, encU]
  | x :: l, j + 1, h => by
    have := ucs_get l j (by simpa using h)
    rw [show (j + 1) * 4 = j * 4 + 4 from by omega, show j * 4 + 4 + 1 = j * 4 + 1 + 4 from by omega, show j * 4 + 4 + 2 = j * 4 + 2 + 4 from by omega, show j * 4 + 4 + 3 = j * 4 + 3 + 4 from by omega]
    simpa [ucs, encU] using this
/-- A list of superblocks in memory. -/
def Us (w : World) (a : Option Addr) (m : Nat) (us : List U4) : Prop := us.length = m ∧ (m = 0 ∨ ∃ b off, a = some ⟨b, off, none⟩ ∧ ∀ i, i < m → w.cell? ⟨b, off + i * 4, none⟩ = some (.int .i64 (us.getD i (0, 0, 0, 0)).1) ∧ w.cell? ⟨b, off + i * 4 + 1, none⟩ = some (.int .i64 (us.getD i (0, 0, 0, 0)).2.1) ∧ w.cell? ⟨b, off + i * 4 + 2, none⟩ = some (.int .i64 (us.getD i (0, 0, 0, 0)).2.2.1) ∧ w.cell? ⟨b, off + i * 4 + 3, none⟩ = some (.int .u32 (us.getD i (0, 0, 0, 0)).2.2.2))
theorem Us.ofOwn {w : World} {B m : Nat} {a : Option Addr} {c : Nat} {us : List U4} (h : w.ownsRow B 88 4 (.slice a m c) m (ucs us)) (hl : us.length = m) : Us w a m us := by
  refine ⟨hl, ?_⟩
  obtain ⟨h1, h2⟩ := h
  rcases h2 with ⟨_, h2⟩ | ⟨g, cap, cur, e, hb, hg, hnc, hcm, hs, ht⟩
  · exact .inl h2
  · obtain ⟨rfl, -, rfl⟩ : a = some ⟨g, 0, none⟩ ∧ True ∧ c = cap := by simpa using e
    refine .inr ⟨g, 0, rfl, fun i hi => ?_⟩
    have hc : ∀ k u, (ucs us)[k]? = some u → w.cell? ⟨g, k, none⟩ = some u := fun k u hu => by
      rw [cell_of_row w g k cur _ (0, 0) hg]
      have hk : k < (ucs us).length := (List.getElem?_eq_some_iff.1 hu).1
      rw [← ht, List.getElem?_take, if_pos (by omega)] at hu
      simpa using hu
    obtain ⟨g0, g1, g2, g3⟩ := ucs_get us i (by omega)
    simp only [Nat.zero_add]
    exact ⟨hc _ _ g0, hc _ _ g1, hc _ _ g2, hc _ _ g3⟩
theorem Us.fr {R : Nat → Prop} {w w' : World} {a : Option Addr} {m : Nat} {us : List U4} (h : Us w a m us) (hf : Fr R w w') (hq : ∀ ad, a = some ad → 0 < m → ¬ R ad.block) : Us w' a m us := by
  refine ⟨h.1, ?_⟩
  rcases h.2 with h0 | ⟨b, off, rfl, hc⟩
  · exact .inl h0
  · by_cases hm : m = 0
    · exact .inl hm
    · refine .inr ⟨b, off, rfl, fun i hi => ?_⟩
      have hlt := World.block_lt_of_cell? w _ (hc i hi).1
      have e := hf.same b hlt (hq _ rfl (by omega))
      have k : ∀ o, w'.cell? ⟨b, o, none⟩ = w.cell? ⟨b, o, none⟩ := fun o => World.cell?_of_block (w := w) (a := ⟨b, o, none⟩) e
      rw [k, k, k, k]
      exact hc i hi
def cfU (x y : U4) : Int := cmpI y.1 x.1
theorem cfU_lt (x y : U4) : cfU x y < 0 ↔ y.1 < x.1 := by
  unfold cfU cmpI
  split
  · exact ⟨fun _ => by assumption, fun _ => by decide⟩
  · split <;> omega
theorem swoU : Go.Sort.SWO (ltOf cfU) := by
  constructor
  · intro x
    unfold ltOf
    refine decide_eq_false ?_
    rw [cfU_lt]
    omega
  · intro x y z h1 h2
    unfold ltOf at *
    have h1 := of_decide_eq_true h1
    have h2 := of_decide_eq_true h2
    rw [cfU_lt] at h1 h2
    refine decide_eq_true ?_
    rw [cfU_lt]
    omega
  · intro x y z h1 h2
    unfold ltOf at *
    have h1 := of_decide_eq_false h1
    have h2 := of_decide_eq_false h2
    rw [cfU_lt] at h1 h2
    refine decide_eq_false ?_
    rw [cfU_lt]
    omega
set_option maxHeartbeats 400000 in
theorem cmpU_ (x y : U4) (w : World) : Calls Tryz.prog 104 #[.agg #[.int .i64 x.1, .int .i64 x.2.1, .int .i64 x.2.2.1, .int .u32 x.2.2.2], .agg #[.int .i64 y.1, .int .i64 y.2.1, .int .i64 y.2.2.1, .int .u32 y.2.2.2]] w fun e w' => e = .returned (.int .i64 (cfU x y)) ∧ w' = (w.alloc (.cells #[.int .i64 x.1, .int .i64 x.2.1, .int .i64 x.2.2.1, .int .u32 x.2.2.2] 88)).alloc (.cells #[.int .i64 y.1, .int .i64 y.2.1, .int .i64 y.2.2.1, .int .u32 y.2.2.2] 88) := by
  obtain ⟨r, hr⟩ : ∃ r, cfU x y = r := ⟨_, rfl⟩
  have kc := fun w => compare_ y.1 x.1 w
  unfold cfU at hr
  rw [hr] at kc
  rw [show cfU x y = r from hr]
  clear hr
  obtain ⟨x1, x2, x3, x4⟩ := x
  obtain ⟨y1, y2, y3, y4⟩ := y
  simp only at *
  have a0 := ((Um.new w x1 x2 x3 x4).at (Below.heap_alloc _ (.cells #[.int .i64 y1, .int .i64 y2, .int .i64 y3, .int .u32 y4] 88) _ (Um.new w x1 x2 x3 x4).lt)).c0
  have b0 := (Um.new (w.alloc (.cells #[.int .i64 x1, .int .i64 x2, .int .i64 x3, .int .u32 x4] 88)) y1 y2 y3 y4).c0
  rw [World.size_alloc] at b0
  go_enter Tryz.func104, Tryz.ntmps104
  go_wp2_with (go_at_call 42; refine (kc _).mono ?_; rintro e w' ⟨rfl, rfl⟩)
  go_ret
  exact ⟨rfl, rfl⟩
theorem holdsU {w : World} {g m : Nat} {us : List U4} {cur : Array Value} {t : TypeId} (h : Us w (some ⟨g, 0, none⟩) m us) (hg : w.heap[g]? = some (.cells cur t (0, 0))) : Go.Sort.HoldsK encU 4 w g 0 us.toArray := by
  intro k hk
  have hk' : k < us.length * 4 := by simpa using hk
  refine ⟨?_, by simp [World.frozen?, hg]⟩
  rw [Go.Sort.get_flatK _ _ _ _ (by simpa using hk')]
  have hl := h.1
  rcases h.2 with h0 | ⟨b, off, e, hc⟩
  · omega
  · obtain ⟨rfl, rfl⟩ : g = b ∧ 0 = off := by simpa using e
    have hj := hc (k / 4) (by omega)
    have e1 : us.toArray[k / 4]! = us.getD (k / 4) (0, 0, 0, 0) := by
      simp [show k / 4 < us.length from by omega, List.getD]
    rw [e1, Nat.zero_add] at *
    rcases (show k % 4 = 0 ∨ k % 4 = 1 ∨ k % 4 = 2 ∨ k % 4 = 3 by omega) with hm | hm | hm | hm
    · rw [hm]
      rw [show k / 4 * 4 = k from by omega] at hj
      exact hj.1
    · rw [hm]
      rw [show k / 4 * 4 + 1 = k from by omega] at hj
      exact hj.2.1
    · rw [hm]
      rw [show k / 4 * 4 + 2 = k from by omega] at hj
      exact hj.2.2.1
    · rw [hm]
      rw [show k / 4 * 4 + 3 = k from by omega] at hj
      exact hj.2.2.2
theorem us_holds {w : World} {g : Nat} {d : Array U4} (h : Go.Sort.HoldsK encU 4 w g 0 d) : Us w (some ⟨g, 0, none⟩) d.size d.toList := by
  refine ⟨by simp, .inr ⟨g, 0, rfl, fun i hi => ?_⟩⟩
  have e1 : d[i]! = d.toList.getD i (0, 0, 0, 0) := by simp [List.getD, hi]
  have h0 := (Go.Sort.HoldsK.cell h (i := i) (c := 0) hi (by decide)).1
  have h1 := (Go.Sort.HoldsK.cell h (i := i) (c := 1) hi (by decide)).1
  have h2 := (Go.Sort.HoldsK.cell h (i := i) (c := 2) hi (by decide)).1
  have h3 := (Go.Sort.HoldsK.cell h (i := i) (c := 3) hi (by decide)).1
  rw [e1] at h0 h1 h2 h3
  exact ⟨h0, h1, h2, h3⟩
theorem heap_sortU (w : World) (g m : Nat) (dk : Array U4) (os : Array Obj) {k : Nat} (hk : k < w.heap.size) (hn : k ≠ g) : (sortWorldK encU 4 w g 0 m dk os).heap[k]? = w.heap[k]? := by
  unfold sortWorldK Go.Sort.putRowK
  rw [Go.Sort.heap_grow_old _ _ (by rw [size_putRow]; exact hk)]
  simp [Go.Sort.putRow, Go.Sort.mapBlock, Go.Sort.ahead, Array.getElem?_modify, Ne.symm hn]
set_option maxHeartbeats 1000000 in
theorem sortU_ (g m cap : Nat) (us : List U4) (cur : Array Value) (w : World) (hg : w.heap[g]? = some (.cells cur 88 (0, 0))) (h : Us w (some ⟨g, 0, none⟩) m us) (hm : m ≤ 1000) :
    Calls Tryz.prog 103 #[.slice (some ⟨g, 0, none⟩) m cap, .func (.func 104) #[] #[]] w fun e w' => e = .returned (.tuple #[]) ∧ ∃ ys : List U4, ys.Perm us ∧ ys.Pairwise (fun a b => b.1 ≤ a.1) ∧ Us w' (some ⟨g, 0, none⟩) m ys ∧ w.grownBy w' (some g) := by
  have hgl := (Array.getElem?_eq_some_iff.1 hg).1
  have hl := h.1
  have eg : ∀ args w, (callFunc 104 args).run Tryz.prog w = .ok (.enter 104 args) w := enters_of Tryz.func104 (by kernel_rfl) rfl
  have hcmp : CmpLays Tryz.prog 104 #[] encU 4 cfU g 0 us.toArray.size w := fun _ _ _ _ x y => by
    refine (cmpU_ x y _).mono ?_
    rintro e w' ⟨rfl, rfl⟩
    exact ⟨rfl, 0, _, by rw [Go.Sort.alloc_eq_grow, Go.Sort.alloc_eq_grow, Go.Sort.grow_grow]; rfl⟩
  have hS := AnyQ.slices_SortFunc Tryz.sortW 4 Tryz.isAgg88 Tryz.sizeOf88 encU (fun _ => rfl) (fun x v hv => by simp [encU] at hv; rcases hv with rfl | rfl | rfl | rfl <;> rfl) cfU swoU 104 #[] g 0 cap us.toArray w eg hcmp (holdsU h hg) hgl (by simp; omega)
  have hsz : us.toArray.size = m := by simpa using hl
  rw [hsz] at hS
  refine Calls.mono (show Calls Tryz.prog 103 _ _ _ from hS) ?_
  rintro e w' ⟨rfl, d', n, os, hp, hs, rfl⟩
  have hd : d'.size = m := hp.1.trans hsz
  have hH' := SWK.holds (⟨n, os, rfl⟩ : SWK encU 4 w g 0 d' _) hgl (holdsU h hg) (by rw [hd, hsz])
  refine ⟨rfl, d'.toList, ?_, ?_, ?_, ?_⟩
  · have h3 := hp.2.2
    have e1 : d'.extract 0 m = d' := by rw [← hd]; simp
    have e2 : us.toArray.extract 0 m = us.toArray := by rw [← hsz]; simp
    rw [e1, e2] at h3
    exact h3
  · rw [List.pairwise_iff_getElem]
    intro i j h1 h2 hij
    have hi' : i < d'.size := by simpa using h1
    have hj' : j < d'.size := by simpa using h2
    have := hs i j (Nat.zero_le _) hij (by omega)
    unfold ltOf at this
    have := of_decide_eq_false this
    rw [cfU_lt, getElem!_pos d' j hj', getElem!_pos d' i hi'] at this
    simp only [Array.getElem_toList]
    omega
  · have := us_holds hH'
    rw [hd] at this
    exact this
  · exact ⟨rfl, rfl, rfl, SWK.le (⟨n, os, rfl⟩ : SWK encU 4 w g 0 d' _), fun k hk hne => heap_sortU w g n d' os hk (fun e => hne (by rw [e]))⟩
theorem sortU_none (a : Option Addr) (cap : Nat) (w : World) : Calls Tryz.prog 103 #[.slice a 0 cap, .func (.func 104) #[] #[]] w fun e w' => e = .returned (.tuple #[]) ∧ w' = w :=
  AnyF.slices_SortFunc_none Tryz.sortW a cap _ w
end Go.Proofs.YtblcpdffiafgnaaGreatDoor
namespace Go.Proofs.YtblcpdffiafgnaaGreatDoor
set_option linter.unusedSimpArgs false
set_option maxRecDepth 100000
open Go.RowKit Go.Shelf
set_option linter.unusedVariables false

def spv (x : Sp) : U4 := ((x.e : Int), (x.s : Int), (x.L : Int), (x.m : Int))
/-- The superblocks that count, as they are read. -/
def rsQ (N : Nat) : Nat → Nat → List Sp → Rp (List Sp)
  | 0, _, acc => .ret acc
  | f + 1, i, acc => .rd i fun x => rsQ N f (i + 1) (acc ++ (cnX x N i).toList)
/-- the one with the greater epoch first. -/
def rsP (N : Nat) : Rp (List Sp) := .rd 0 fun x => .rd 1 fun y => .ret (two12 (cnX x N 0) (cnX y N 1))
theorem fnP_rsP (N : Nat) : fnP N = (rsP N).bind (fsP N) := rfl
theorem sorted_two {a b : Option Sp} (ha : ∀ x, a = some x → x.e % 2 = 0) (hb : ∀ x, b = some x → x.e % 2 = 1) {ys : List U4} (hp : ys.Perm ((a.toList ++ b.toList).map spv)) (hs : ys.Pairwise (fun p q => q.1 ≤ p.1)) : ys = (two12 a b).map spv := by
  have one : ∀ p : U4, ys.Perm [p] → ys = [p] := fun p h => List.perm_singleton.1 h
  cases a with
  | none =>
    cases b with
    | none => exact List.Perm.eq_nil (by simpa using hp)
    | some y => exact one _ (by simpa using hp)
  | some x =>
    cases b with
    | none => exact one _ (by simpa using hp)
    | some y =>
      have h1 := ha x rfl
      have h2 := hb y rfl
      have hp' : ys.Perm [spv x, spv y] := by simpa using hp
      have hl := hp'.length_eq
      match ys, hl, hs, hp' with
      | [p, q], _, hs, hp' =>
        have hpq : q.1 ≤ p.1 := by simpa using hs
        have hm : p ∈ [spv x, spv y] := hp'.mem_iff.1 (by simp)
        unfold two12
        simp only
        rcases List.mem_cons.1 hm with e | hm
        · have hq : q = spv y := by
            rw [e] at hp'
            have := List.perm_singleton.1 (List.Perm.cons_inv hp')
            simpa using this
          subst e
          subst hq
          have : ¬ x.e < y.e := by unfold spv at hpq; simp only at hpq; omega
          rw [if_neg this]
          rfl
        · have e : p = spv y := by simpa using hm
          have hq : q = spv x := by
            rw [e] at hp'
            have h3 : [spv y, q].Perm [spv y, spv x] := hp'.trans (List.Perm.swap _ _ _)
            have := List.perm_singleton.1 (List.Perm.cons_inv h3)
            simpa using this
          subst e
          subst hq
          have : x.e < y.e := by unfold spv at hpq; simp only at hpq; omega
          rw [if_pos this]
          rfl
/-- What readSupers answers. -/
def rsPost (w w' : World) (en : Ending) (r : Except Int (List Sp)) : Prop :=
  match r with
  | .error E => en = .returned (.tuple #[.slice none 0 0, .int .i64 E])
  | .ok l => ∃ a c, en = .returned (.tuple #[.slice a l.length c, .int .i64 0]) ∧ Us w' a l.length (l.map spv) ∧ l.length ≤ c ∧ c ≤ maxLen ∧ (∀ ad, a = some ad → w.heap.size ≤ ad.block) ∧ ∀ x ∈ l, x.K = pcN x.L ∧ x.K ≤ 4095 ∧ mq x.e ∧ mq x.s ∧ x.m < 4294967296
theorem infoU : (Tryz.prog.info? 88).map (fun i => (i.zero, i.size, i.bytes)) = some (some (.agg #[.int .i64 0, .int .i64 0, .int .i64 0, .int .u32 0]), 4, 32) := by kernel_rfl
end Go.Proofs.YtblcpdffiafgnaaGreatDoor
