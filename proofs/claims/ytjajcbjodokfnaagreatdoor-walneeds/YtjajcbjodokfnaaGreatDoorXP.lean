import Derived.Test.YtjajcbjodokfnaaGreatDoorXN
namespace Go.Proofs.YtjajcbjodokfnaaGreatDoor
set_option maxRecDepth 100000
open Go.RowKit Go.Shelf
set_option linter.unusedVariables false
set_option linter.unusedSimpArgs false

/-- What a superblock's four numbers are. -/
abbrev U4 := Int × Int × Int × Int
def encU (x : U4) : List Value := [.int .i64 x.1, .int .i64 x.2.1, .int .i64 x.2.2.1, .int .u32 x.2.2.2]
def ucs : List U4 → List Value
  | [] => []
  | x :: l => encU x ++ ucs l
theorem ucs_length : ∀ l : List U4, (ucs l).length = l.length * 4
  | [] => rfl
  | x :: l => by simp [ucs, encU, ucs_length l]; omega
theorem ucs_app : ∀ (a b : List U4), ucs (a ++ b) = ucs a ++ ucs b
  | [], b => rfl
  | x :: a, b => by simp [ucs, ucs_app a b]
theorem ucs_get : ∀ (l : List U4) (j : Nat), j < l.length → (ucs l)[j * 4]? = some (.int .i64 (l.getD j (0, 0, 0, 0)).1) ∧ (ucs l)[j * 4 + 1]? = some (.int .i64 (l.getD j (0, 0, 0, 0)).2.1) ∧ (ucs l)[j * 4 + 2]? = some (.int .i64 (l.getD j (0, 0, 0, 0)).2.2.1) ∧ (ucs l)[j * 4 + 3]? = some (.int .u32 (l.getD j (0, 0, 0, 0)).2.2.2)
  | [], j, h => by simp at h
  | x :: l, 0, h => by simp [ucs, encU]
  | x :: l, j + 1, h => by
    have := ucs_get l j (by simpa using h)
    rw [show (j + 1) * 4 = j * 4 + 4 from by omega, show j * 4 + 4 + 1 = j * 4 + 1 + 4 from by omega, show j * 4 + 4 + 2 = j * 4 + 2 + 4 from by omega, show j * 4 + 4 + 3 = j * 4 + 3 + 4 from by omega]
    simpa [ucs, encU] using this
/-- A list of superblocks in memory. -/
def Us (w : World) (a : Option Addr) (m : Nat) (us : List U4) : Prop := us.length = m ∧ (m = 0 ∨ ∃ b off, a = some ⟨b, off, none⟩ ∧ ∀ i, i < m → w.cell? ⟨b, off + i * 4, none⟩ = some (.int .i64 (us.getD i (0, 0, 0, 0)).1) ∧ w.cell? ⟨b, off + i * 4 + 1, none⟩ = some (.int .i64 (us.getD i (0, 0, 0, 0)).2.1) ∧ w.cell? ⟨b, off + i * 4 + 2, none⟩ = some (.int .i64 (us.getD i (0, 0, 0, 0)).2.2.1) ∧ w.cell? ⟨b, off + i * 4 + 3, none⟩ = some (.int .u32 (us.getD i (0, 0, 0, 0)).2.2.2))
theorem Us.ofOwn {w : World} {B m : Nat} {a : Option Addr} {c : Nat} {us : List U4} (h : w.ownsRow B 118 4 (.slice a m c) m (ucs us)) (hl : us.length = m) : Us w a m us := by
  refine ⟨hl, ?_⟩
  obtain ⟨h1, h2⟩ := h
  rcases h2 with ⟨_, h2⟩ | ⟨g, cap, cur, e, hb, hg, hnc, hcm, hs, ht⟩
  · exact .inl h2
  · obtain ⟨rfl, -, rfl⟩ : a = some ⟨g, 0, none⟩ ∧ True ∧ c = cap := by simpa using e
    refine .inr ⟨g, 0, rfl, fun i hi => ?_⟩
    have hc : ∀ k u, (ucs us)[k]? = some u → w.cell? ⟨g, k, none⟩ = some u := fun k u hu => by
      rw [cell_of_row w g k cur _ (0, 0) hg]
      have hk : k < (ucs us).length := (List.getElem?_eq_some_iff.1 hu).1
      rw [← ht, List.getElem?_take, if_pos (by omega)] at hu
      simpa using hu
    obtain ⟨g0, g1, g2, g3⟩ := ucs_get us i (by omega)
    simp only [Nat.zero_add]
    exact ⟨hc _ _ g0, hc _ _ g1, hc _ _ g2, hc _ _ g3⟩
theorem Us.fr {R : Nat → Prop} {w w' : World} {a : Option Addr} {m : Nat} {us : List U4} (h : Us w a m us) (hf : Fr R w w') (hq : ∀ ad, a = some ad → 0 < m → ¬ R ad.block) : Us w' a m us := by
  refine ⟨h.1, ?_⟩
  rcases h.2 with h0 | ⟨b, off, rfl, hc⟩
  · exact .inl h0
  · by_cases hm : m = 0
    · exact .inl hm
    · refine .inr ⟨b, off, rfl, fun i hi => ?_⟩
      have hlt := World.block_lt_of_cell? w _ (hc i hi).1
      have e := hf.same b hlt (hq _ rfl (by omega))
      have k : ∀ o, w'.cell? ⟨b, o, none⟩ = w.cell? ⟨b, o, none⟩ := fun o => World.cell?_of_block (w := w) (a := ⟨b, o, none⟩) e
      rw [k, k, k, k]
      exact hc i hi
def cfU (x y : U4) : Int := cmpI y.1 x.1
theorem cfU_lt (x y : U4) : cfU x y < 0 ↔ y.1 < x.1 := by
  unfold cfU cmpI
  split
  · exact ⟨fun _ => by assumption, fun _ => by decide⟩
  · split <;> omega
theorem swoU : Go.Sort.SWO (ltOf cfU) := by
  constructor
  · intro x
    unfold ltOf
    refine decide_eq_false ?_
    rw [cfU_lt]
    omega
  · intro x y z h1 h2
    unfold ltOf at *
    have h1 := of_decide_eq_true h1
    have h2 := of_decide_eq_true h2
    rw [cfU_lt] at h1 h2
    refine decide_eq_true ?_
    rw [cfU_lt]
    omega
  · intro x y z h1 h2
    unfold ltOf at *
    have h1 := of_decide_eq_false h1
    have h2 := of_decide_eq_false h2
    rw [cfU_lt] at h1 h2
    refine decide_eq_false ?_
    rw [cfU_lt]
    omega
set_option maxHeartbeats 400000 in
theorem cmpU_ (x y : U4) (w : World) : Calls Tryz.prog 155 #[.agg #[.int .i64 x.1, .int .i64 x.2.1, .int .i64 x.2.2.1, .int .u32 x.2.2.2], .agg #[.int .i64 y.1, .int .i64 y.2.1, .int .i64 y.2.2.1, .int .u32 y.2.2.2]] w fun e w' => e = .returned (.int .i64 (cfU x y)) ∧ w' = (w.alloc (.cells #[.int .i64 x.1, .int .i64 x.2.1, .int .i64 x.2.2.1, .int .u32 x.2.2.2] 118)).alloc (.cells #[.int .i64 y.1, .int .i64 y.2.1, .int .i64 y.2.2.1, .int .u32 y.2.2.2] 118) := by
  obtain ⟨r, hr⟩ : ∃ r, cfU x y = r := ⟨_, rfl⟩
  have kc := fun w => compare_ y.1 x.1 w
  unfold cfU at hr
  rw [hr] at kc
  rw [show cfU x y = r from hr]
  clear hr
  obtain ⟨x1, x2, x3, x4⟩ := x
  obtain ⟨y1, y2, y3, y4⟩ := y
  simp only at *
  have a0 := ((Um.new w x1 x2 x3 x4).at (Below.heap_alloc _ (.cells #[.int .i64 y1, .int .i64 y2, .int .i64 y3, .int .u32 y4] 118) _ (Um.new w x1 x2 x3 x4).lt)).c0
  have b0 := (Um.new (w.alloc (.cells #[.int .i64 x1, .int .i64 x2, .int .i64 x3, .int .u32 x4] 118)) y1 y2 y3 y4).c0
  rw [World.size_alloc] at b0
  go_enter Tryz.func155, Tryz.ntmps155
  go_wp2_with (go_at_call 103; refine (kc _).mono ?_; rintro e w' ⟨rfl, rfl⟩)
  go_ret
  exact ⟨rfl, rfl⟩
theorem holdsU {w : World} {g m : Nat} {us : List U4} {cur : Array Value} {t : TypeId} (h : Us w (some ⟨g, 0, none⟩) m us) (hg : w.heap[g]? = some (.cells cur t (0, 0))) : Go.Sort.HoldsK encU 4 w g 0 us.toArray := by
  intro k hk
  have hk' : k < us.length * 4 := by simpa using hk
  refine ⟨?_, by simp [World.frozen?, hg]⟩
  rw [Go.Sort.get_flatK _ _ _ _ (by simpa using hk')]
  have hl := h.1
  rcases h.2 with h0 | ⟨b, off, e, hc⟩
  · omega
  · obtain ⟨rfl, rfl⟩ : g = b ∧ 0 = off := by simpa using e
    have hj := hc (k / 4) (by omega)
    have e1 : us.toArray[k / 4]! = us.getD (k / 4) (0, 0, 0, 0) := by
      simp [show k / 4 < us.length from by omega, List.getD]
    rw [e1, Nat.zero_add] at *
    rcases (show k % 4 = 0 ∨ k % 4 = 1 ∨ k % 4 = 2 ∨ k % 4 = 3 by omega) with hm | hm | hm | hm
    · rw [hm]
      rw [show k / 4 * 4 = k from by omega] at hj
      exact hj.1
    · rw [hm]
      rw [show k / 4 * 4 + 1 = k from by omega] at hj
      exact hj.2.1
    · rw [hm]
      rw [show k / 4 * 4 + 2 = k from by omega] at hj
      exact hj.2.2.1
    · rw [hm]
      rw [show k / 4 * 4 + 3 = k from by omega] at hj
      exact hj.2.2.2
theorem us_holds {w : World} {g : Nat} {d : Array U4} (h : Go.Sort.HoldsK encU 4 w g 0 d) : Us w (some ⟨g, 0, none⟩) d.size d.toList := by
  refine ⟨by simp, .inr ⟨g, 0, rfl, fun i hi => ?_⟩⟩
  have e1 : d[i]! = d.toList.getD i (0, 0, 0, 0) := by simp [List.getD, hi]
  have h0 := (Go.Sort.HoldsK.cell h (i := i) (c := 0) hi (by decide)).1
  have h1 := (Go.Sort.HoldsK.cell h (i := i) (c := 1) hi (by decide)).1
  have h2 := (Go.Sort.HoldsK.cell h (i := i) (c := 2) hi (by decide)).1
  have h3 := (Go.Sort.HoldsK.cell h (i := i) (c := 3) hi (by decide)).1
  rw [e1] at h0 h1 h2 h3
  exact ⟨h0, h1, h2, h3⟩
theorem heap_sortU (w : World) (g m : Nat) (dk : Array U4) (os : Array Obj) {k : Nat} (hk : k < w.heap.size) (hn : k ≠ g) : (sortWorldK encU 4 w g 0 m dk os).heap[k]? = w.heap[k]? := by
  unfold sortWorldK Go.Sort.putRowK
  rw [Go.Sort.heap_grow_old _ _ (by rw [size_putRow]; exact hk)]
  simp [Go.Sort.putRow, Go.Sort.mapBlock, Go.Sort.ahead, Array.getElem?_modify, Ne.symm hn]
set_option maxHeartbeats 1000000 in
theorem sortU_ (g m cap : Nat) (us : List U4) (cur : Array Value) (w : World) (hg : w.heap[g]? = some (.cells cur 118 (0, 0))) (h : Us w (some ⟨g, 0, none⟩) m us) (hm : m ≤ 1000) :
    Calls Tryz.prog 154 #[.slice (some ⟨g, 0, none⟩) m cap, .func (.func 155) #[] #[]] w fun e w' => e = .returned (.tuple #[]) ∧ ∃ ys : List U4, ys.Perm us ∧ ys.Pairwise (fun a b => b.1 ≤ a.1) ∧ Us w' (some ⟨g, 0, none⟩) m ys ∧ w.grownBy w' (some g) := by
  have hgl := (Array.getElem?_eq_some_iff.1 hg).1
  have hl := h.1
  have eg : ∀ args w, (callFunc 155 args).run Tryz.prog w = .ok (.enter 155 args) w := enters_of Tryz.func155 (by kernel_rfl) rfl
  have hcmp : CmpLays Tryz.prog 155 #[] encU 4 cfU g 0 us.toArray.size w := fun _ _ _ _ x y => by
    refine (cmpU_ x y _).mono ?_
    rintro e w' ⟨rfl, rfl⟩
    exact ⟨rfl, 0, _, by rw [Go.Sort.alloc_eq_grow, Go.Sort.alloc_eq_grow, Go.Sort.grow_grow]; rfl⟩
  have hS := AnyQ.slices_SortFunc Tryz.sortW 4 Tryz.isAgg118 Tryz.sizeOf118 encU (fun _ => rfl) (fun x v hv => by simp [encU] at hv; rcases hv with rfl | rfl | rfl | rfl <;> rfl) cfU swoU 155 #[] g 0 cap us.toArray w eg hcmp (holdsU h hg) hgl (by simp; omega)
  have hsz : us.toArray.size = m := by simpa using hl
  rw [hsz] at hS
  refine Calls.mono (show Calls Tryz.prog 154 _ _ _ from hS) ?_
  rintro e w' ⟨rfl, d', n, os, hp, hs, rfl⟩
  have hd : d'.size = m := hp.1.trans hsz
  have hH' := SWK.holds (⟨n, os, rfl⟩ : SWK encU 4 w g 0 d' _) hgl (holdsU h hg) (by rw [hd, hsz])
  refine ⟨rfl, d'.toList, ?_, ?_, ?_, ?_⟩
  · have h3 := hp.2.2
    have e1 : d'.extract 0 m = d' := by rw [← hd]; simp
    have e2 : us.toArray.extract 0 m = us.toArray := by rw [← hsz]; simp
    rw [e1, e2] at h3
    exact h3
  · rw [List.pairwise_iff_getElem]
    intro i j h1 h2 hij
    have hi' : i < d'.size := by simpa using h1
    have hj' : j < d'.size := by simpa using h2
    have := hs i j (Nat.zero_le _) hij (by omega)
    unfold ltOf at this
    have := of_decide_eq_false this
    rw [cfU_lt, getElem!_pos d' j hj', getElem!_pos d' i hi'] at this
    simp only [Array.getElem_toList]
    omega
  · have := us_holds hH'
    rw [hd] at this
    exact this
  · exact ⟨rfl, rfl, rfl, SWK.le (⟨n, os, rfl⟩ : SWK encU 4 w g 0 d' _), fun k hk hne => heap_sortU w g n d' os hk (fun e => hne (by rw [e]))⟩
theorem sortU_none (a : Option Addr) (cap : Nat) (w : World) : Calls Tryz.prog 154 #[.slice a 0 cap, .func (.func 155) #[] #[]] w fun e w' => e = .returned (.tuple #[]) ∧ w' = w :=
  AnyF.slices_SortFunc_none Tryz.sortW a cap _ w
end Go.Proofs.YtjajcbjodokfnaaGreatDoor
namespace Go.Proofs.YtjajcbjodokfnaaGreatDoor
set_option maxRecDepth 100000
open Go.RowKit Go.Shelf
set_option linter.unusedVariables false
set_option linter.unusedSimpArgs false

def spv (x : Sp) : U4 := ((x.e : Int), (x.s : Int), (x.L : Int), (x.m : Int))
/-- The superblocks that count, as they are read. -/
def rsQ (N : Nat) : Nat → Nat → List Sp → Rp (List Sp)
  | 0, _, acc => .ret acc
  | f + 1, i, acc => .rd i fun x => rsQ N f (i + 1) (acc ++ (cnX x N i).toList)
/-- the one with the greater epoch first. -/
def rsP (N : Nat) : Rp (List Sp) := .rd 0 fun x => .rd 1 fun y => .ret (two12 (cnX x N 0) (cnX y N 1))
theorem fnP_rsP (N : Nat) : fnP N = (rsP N).bind (fsP N) := rfl
theorem sorted_two {a b : Option Sp} (ha : ∀ x, a = some x → x.e % 2 = 0) (hb : ∀ x, b = some x → x.e % 2 = 1) {ys : List U4} (hp : ys.Perm ((a.toList ++ b.toList).map spv)) (hs : ys.Pairwise (fun p q => q.1 ≤ p.1)) : ys = (two12 a b).map spv := by
  have one : ∀ p : U4, ys.Perm [p] → ys = [p] := fun p h => List.perm_singleton.1 h
  cases a with
  | none =>
    cases b with
    | none => exact List.Perm.eq_nil (by simpa using hp)
    | some y => exact one _ (by simpa using hp)
  | some x =>
    cases b with
    | none => exact one _ (by simpa using hp)
    | some y =>
      have h1 := ha x rfl
      have h2 := hb y rfl
      have hp' : ys.Perm [spv x, spv y] := by simpa using hp
      have hl := hp'.length_eq
      match ys, hl, hs, hp' with
      | [p, q], _, hs, hp' =>
        have hpq : q.1 ≤ p.1 := by simpa using hs
        have hm : p ∈ [spv x, spv y] := hp'.mem_iff.1 (by simp)
        unfold two12
        simp only
        rcases List.mem_cons.1 hm with e | hm
        · have hq : q = spv y := by
            rw [e] at hp'
            have := List.perm_singleton.1 (List.Perm.cons_inv hp')
            simpa using this
          subst e
          subst hq
          have : ¬ x.e < y.e := by unfold spv at hpq; simp only at hpq; omega
          rw [if_neg this]
          rfl
        · have e : p = spv y := by simpa using hm
          have hq : q = spv x := by
            rw [e] at hp'
            have h3 : [spv y, q].Perm [spv y, spv x] := hp'.trans (List.Perm.swap _ _ _)
            have := List.perm_singleton.1 (List.Perm.cons_inv h3)
            simpa using this
          subst e
          subst hq
          have : x.e < y.e := by unfold spv at hpq; simp only at hpq; omega
          rw [if_pos this]
          rfl
/-- What readSupers answers. -/
def rsPost (w w' : World) (en : Ending) (r : Except Int (List Sp)) : Prop :=
  match r with
  | .error E => en = .returned (.tuple #[.slice none 0 0, .int .i64 E])
  | .ok l => ∃ a c, en = .returned (.tuple #[.slice a l.length c, .int .i64 0]) ∧ Us w' a l.length (l.map spv) ∧ l.length ≤ c ∧ c ≤ maxLen ∧ (∀ ad, a = some ad → w.heap.size ≤ ad.block) ∧ ∀ x ∈ l, x.K = pcN x.L ∧ x.K ≤ 4095 ∧ mq x.e ∧ mq x.s ∧ x.m < 4294967296
theorem infoU : (Tryz.prog.info? 118).map (fun i => (i.zero, i.size, i.bytes)) = some (some (.agg #[.int .i64 0, .int .i64 0, .int .i64 0, .int .u32 0]), 4, 32) := by kernel_rfl
end Go.Proofs.YtjajcbjodokfnaaGreatDoor
