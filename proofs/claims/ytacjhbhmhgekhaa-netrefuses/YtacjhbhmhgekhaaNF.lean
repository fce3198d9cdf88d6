import Derived.Test.YtacjhbhmhgekhaaNE
namespace Go.Proofs.Ytacjhbhmhgekhaa
open Go.RowKit
set_option linter.unusedVariables false
set_option maxRecDepth 100000

/-! The document's calls. -/
theorem fnd_at {L : List Fl} {k : Int} {f : Fl} (h : fnd L k = some f) : ∃ i, i < L.length ∧ L.getD i fl0 = f ∧ f.no = k := by
  have h1 := List.mem_of_find?_eq_some h
  have h2 := List.find?_some h
  obtain ⟨i, hi, e⟩ := List.getElem_of_mem h1
  exact ⟨i, hi, by simp [List.getD, hi, e], by simpa using h2⟩
theorem getD_mem {L : List Fl} {i : Nat} (h : i < L.length) : L.getD i fl0 ∈ L := by simp [List.getD, h]
theorem ord_at {L : List Fl} (ho : L.Pairwise fun x y => x.no < y.no) {i j : Nat} (hij : i < j) (hj : j < L.length) : (L.getD i fl0).no < (L.getD j fl0).no := by
  have := (List.pairwise_iff_getElem.1 ho) i j (by omega) hj hij
  simpa [List.getD, hj, show i < L.length by omega] using this
theorem outL_at {L : List Fl} (ho : L.Pairwise fun x y => x.no < y.no) {i : Nat} (hi : i < L.length) {k : Int} (hk : (L.getD i fl0).no = k) : outL L k = L.take i ++ L.drop (i + 1) := by
  have e : L = L.take i ++ (L.getD i fl0 :: L.drop (i + 1)) := by
    have := (List.take_append_drop i L).symm
    rw [List.drop_eq_getElem_cons hi] at this
    simp [List.getD, hi]
  have h1 : ∀ x ∈ L.take i, x.no ≠ k := fun x hx => by
    obtain ⟨j, hj, e⟩ := List.getElem_of_mem hx
    rw [List.length_take] at hj
    have := ord_at ho (i := j) (j := i) (by omega) hi
    rw [List.getElem_take] at e
    simp [List.getD, show j < L.length by omega] at this hk
    rw [e] at this
    simp [hi] at this hk
    omega
  have h2 : ∀ x ∈ L.drop (i + 1), x.no ≠ k := fun x hx => by
    obtain ⟨j, hj, e⟩ := List.getElem_of_mem hx
    rw [List.length_drop] at hj
    have := ord_at ho (i := i) (j := i + 1 + j) (by omega) (by omega)
    rw [List.getElem_drop] at e
    simp [List.getD, show i + 1 + j < L.length by omega, hi] at this hk
    rw [e] at this
    omega
  conv => lhs; rw [e]
  unfold outL
  rw [List.filter_append, List.filter_cons_of_neg (by simpa using hk), List.filter_eq_self.2 (fun x hx => by simpa using h1 x hx), List.filter_eq_self.2 (fun x hx => by simpa using h2 x hx)]
section
variable {w : World} {F : Nat → Prop} {r : Nat} {L : List Fl} {g : Int}
theorem rsend_ (to : Int) (a : Option Addr) (n c : Nat) (d : List Int) (h : RNet w F r L g) (hd : Bs w a n d) (hr : ∀ ad, a = some ad → 0 < n → ad.block ≠ r) (hn : n ≤ 65536) (hto : i64r to) (hg : g ≤ 1000000000) :
    Calls Try.prog 39 #[.pointer (some ⟨r, 0, none⟩), .int .i64 to, .slice a n c] w fun e w' => e = .returned (.int .i64 (sndA L g)) ∧ RNet w' (Gr F w w') r (sndL L g to d) (sndG L g) ∧ Fx F w w' := by
  unfold sndA sndL sndG
  by_cases hl : L.length < 1024
  · simp only [if_pos hl]
    exact rsend_yes to a n c d h hl hd hr hn hto hg
  · simp only [if_neg hl]
    refine (rsend_no to a n c h hl).mono ?_
    rintro e w' ⟨rfl, rfl⟩
    exact ⟨rfl, h.gr h.lt (Nat.le_refl _), Fx.refl _ _⟩
/-- What place answers. -/
def plc (L : List Fl) (k q : Int) : Prop := (fnd L k = none ∧ q = -1) ∨ ∃ i : Nat, i < L.length ∧ (L.getD i fl0).no = k ∧ fnd L k = some (L.getD i fl0) ∧ q = i
set_option maxHeartbeats 2000000 in
theorem rplace_ (k : Int) (h : RNet w F r L g) :
    Calls Try.prog 40 #[.pointer (some ⟨r, 0, none⟩), .int .i64 k] w fun e w' => ∃ q, e = .returned (.int .i64 q) ∧ plc L k q ∧ w' = w := by
  obtain ⟨v, ds, rfl, h⟩ := h
  obtain ⟨av, cv, hv, hf1, hf2, hf3, hf4⟩ := h.form
  have c0 := h.blk.c0
  have hcnt := h.ok.cnt
  rw [List.length_map] at hcnt
  subst hv
  have HORD := hid h.ok.ord
  have HF4 := hid hf4
  obtain ⟨m, HM⟩ : ∃ m, Hid (ds.length = m) := ⟨_, rfl⟩
  rw [HM.out] at c0 hcnt
  clear h hf1 hf2 hf3 hf4
  go_enter Try.func40, Try.ntmps40
  go_wp2_with fail
  go_loopw [5] (fun i wr => ∃ j : Nat, j ≤ m ∧ i = .int .i64 j ∧ wr = w ∧ Hid (∀ i, i < j → ((ds.map (·.f)).getD i fl0).no ≠ k)) (fun i _ => m - (intOf i).toNat)
  case atStart => exact ⟨0, by omega, rfl, rfl, fun i hi => by omega⟩
  case round =>
    obtain ⟨j, hj, rfl, rfl, HE⟩ := hrel
    by_cases hlt : j < m
    · have hI : (j : Int) < m := by omega
      have hjd : j < ds.length := by rw [HM.out]; exact hlt
      obtain ⟨b, rfl, hcell⟩ : ∃ b, av = some ⟨b, 0, none⟩ ∧ wr.cell? ⟨b, j * 3, none⟩ = some (.int .i64 ds[j].f.no) := by
        rcases HF4.out with ⟨_, h0⟩ | ⟨b, e, _, hc⟩
        · omega
        · exact ⟨b, e, (fds_at hc hjd).1⟩
      have hget : (ds.map (·.f)).getD j fl0 = ds[j].f := by simp [List.getD, hjd]
      rw [← hget] at hcell
      obtain ⟨x, HX⟩ : ∃ x, Hid (((ds.map (·.f)).getD j fl0).no = x) := ⟨_, rfl⟩
      rw [HX.out] at hcell
      clear hjd hget
      by_cases hx : x = k
      · have hxb : (x == k) = true := by simp [hx]
        have HXK := hid hx
        clear hx
        go_wp2_with fail
        go_ret
        refine ⟨_, rfl, .inr ⟨j, by rw [List.length_map, HM.out]; exact hlt, by rw [HX.out, HXK.out], ?_, rfl⟩, rfl⟩
        cases e : fnd (ds.map (·.f)) k with
        | none =>
          have hmem : (ds.map (·.f)).getD j fl0 ∈ ds.map (·.f) := by have := HM.out; exact getD_mem (by rw [List.length_map]; omega)
          have := List.find?_eq_none.1 e _ hmem
          rw [HX.out, HXK.out] at this
          simp at this
        | some f =>
          obtain ⟨i, hi, e1, e2⟩ := fnd_at e
          have : i = j := by
            rcases Nat.lt_trichotomy i j with q | q | q
            · exact absurd (by rw [e1]; exact e2) (HE.out i q)
            · exact q
            · have := ord_at HORD.out q hi
              rw [e1, HX.out, HXK.out, e2] at this
              omega
          rw [← this, e1]
      · have hxb : (x == k) = false := by simp [hx]
        have HE2 : Hid (∀ i, i < j + 1 → ((ds.map (·.f)).getD i fl0).no ≠ k) := fun i hi => by
          by_cases e : i = j
          · rw [e, HX.out]; exact hx
          · exact HE.out i (by omega)
        clear hx
        go_wp2_with fail
        go_roundw
        case rel => exact ⟨j + 1, by omega, by go_num, (by trivial), HE2⟩
        case measure => simp [intOf]; omega
    · have hI : ¬ (j : Int) < m := by omega
      go_wp2_with fail
      go_ret
      refine ⟨_, rfl, .inl ⟨?_, rfl⟩, rfl⟩
      cases e : fnd (ds.map (·.f)) k with
      | none => rfl
      | some f =>
        obtain ⟨i, hi, e1, e2⟩ := fnd_at e
        rw [List.length_map, HM.out] at hi
        exact absurd (by rw [e1]; exact e2) (HE.out i (by omega))
set_option maxHeartbeats 4000000 in
theorem rout_ (i : Nat) (k : Int) (h : RNet w F r L g) (hi : i < L.length) (hk : (L.getD i fl0).no = k) :
    Calls Try.prog 41 #[.pointer (some ⟨r, 0, none⟩), .int .i64 i] w fun e w' => e = .returned (.tuple #[]) ∧ RNet w' (Gr F w w') r (outL L k) g ∧ Fx F w w' ∧ ∀ b, F b → b ≠ r → w'.heap[b]? = w.heap[b]? := by
  obtain ⟨v, ds, rfl, h⟩ := h
  have HOUT := hid (outL_at h.ok.ord hi hk)
  have HOK := hid (h.ok.out (k := k))
  rw [List.length_map] at hi
  obtain ⟨av, cv, hv, hf1, hf2, hf3, hf4⟩ := h.form
  have HH := hid h
  have c0 := h.blk.c0
  have hcnt := h.ok.cnt
  rw [List.length_map] at hcnt
  have hlt := h.blk.lt
  subst hv
  obtain ⟨b, rfl, hbl, hcell⟩ : ∃ b, av = some ⟨b, 0, none⟩ ∧ b < w.heap.size ∧ ∀ j u, (fds ds)[j]? = some u → w.cell? ⟨b, j, none⟩ = some u := by
    rcases hf4 with ⟨_, h0⟩ | hf4
    · omega
    · exact hf4
  have HCE := hid hcell
  have hic : i ≤ cv := by omega
  have hmc : ds.length ≤ cv := hf1
  obtain ⟨m, HM⟩ : ∃ m, Hid (ds.length = m) := ⟨_, rfl⟩
  rw [HM.out] at c0 hcnt hi hmc HH
  have hcm : (cv : Int) ≤ 9223372036854775807 := by unfold maxLen at hf2; omega
  have hiI : (i : Int) < m := by omega
  have hi1 : (i : Int) + 1 ≤ m := by omega
  have hicI : (i : Int) ≤ cv := by omega
  have hmcI : (m : Int) ≤ cv := by omega
  have HT1 : Hid ((ds.take i).length = i) := by show _ = _; rw [List.length_take, HM.out]; omega
  have HT2 : Hid ((ds.drop (i + 1)).length = m - (i + 1)) := by show _ = _; rw [List.length_drop, HM.out]
  have HC1 : Hid (∀ j u, (fds (ds.take i))[j]? = some u → w.cell? ⟨b, 0 + j, none⟩ = some u) := fun j u hj => by
    rw [← fds_take, List.getElem?_take] at hj
    split at hj
    · rw [Nat.zero_add]; exact HCE.out j u hj
    · cases hj
  have HC2 : Hid (∀ j u, (fds (ds.drop (i + 1)))[j]? = some u → w.cell? ⟨b, (i + 1) * 3 + j, none⟩ = some u) := fun j u hj => by
    rw [← fds_drop, List.getElem?_drop] at hj
    exact HCE.out _ u hj
  clear h hf1 hf2 hf3 hf4 hcell
  have HST : Hid (∀ v1 w1, w1.ownsRow w.heap.size 49 3 v1 (([] : List FD) ++ ds.take i).length (fds (([] : List FD) ++ ds.take i)) → w.grownBy w1 (Value.slice none 0 0).ownBlock → ∃ a1 c1, v1 = .slice a1 i c1 ∧ w1.cell? ⟨r, 0, none⟩ = some (.slice (some ⟨b, 0, none⟩) m cv) ∧ Hid (w1.ownsRow w.heap.size 49 3 (.slice a1 i c1) (ds.take i).length (fds (ds.take i))) ∧ Hid (Below w.heap.size w w1)) := by
    intro v1 w1 o1 g1
    rw [List.nil_append] at o1
    have hb1 : Below w.heap.size w w1 := below_of_grown g1
    obtain ⟨a1, c1, e1, _⟩ := own_addr o1
    rw [HT1.out] at e1
    subst e1
    exact ⟨a1, c1, rfl, (hb1.cell (p := ⟨r, 0, none⟩) hlt).trans c0, o1, hb1⟩
  obtain ⟨o2, HGA, HC3⟩ : ∃ o2, Hid ((if cv = i + 1 then some (⟨b, 0, none⟩ : Addr) else some ⟨b, (i + 1) * 3, none⟩) = some ⟨b, o2, none⟩) ∧ Hid (∀ j u, (fds (ds.drop (i + 1)))[j]? = some u → w.cell? ⟨b, o2 + j, none⟩ = some u) := by
    by_cases e : cv = i + 1
    · refine ⟨0, by show _ = _; rw [if_pos e], fun j u hj => ?_⟩
      have h0 : (ds.drop (i + 1)).length = 0 := by have := HT2.out; omega
      rw [List.eq_nil_of_length_eq_zero h0] at hj
      simp [fds] at hj
    · exact ⟨(i + 1) * 3, by show _ = _; rw [if_neg e], HC2.out⟩
  have HST2 : Hid (∀ a1 c1 w1 v2 w2, Hid (w1.ownsRow w.heap.size 49 3 (.slice a1 i c1) (ds.take i).length (fds (ds.take i))) → Hid (Below w.heap.size w w1) → w2.ownsRow w.heap.size 49 3 v2 (ds.take i ++ ds.drop (i + 1)).length (fds (ds.take i ++ ds.drop (i + 1))) → w1.grownBy w2 (Value.slice a1 i c1).ownBlock → ∃ a2 n2 c2, v2 = .slice a2 n2 c2 ∧ w2.cell? ⟨r, 0, none⟩ = some (.slice (some ⟨b, 0, none⟩) m cv) ∧ w2.frozen? ⟨r, 0, none⟩ = false ∧ Hid (RNet (w2.setCell ⟨r, 0, none⟩ (.slice a2 n2 c2)) (Gr F w (w2.setCell ⟨r, 0, none⟩ (.slice a2 n2 c2))) r (outL (ds.map (·.f)) k) g ∧ Fx F w (w2.setCell ⟨r, 0, none⟩ (.slice a2 n2 c2)) ∧ ∀ b, F b → b ≠ r → (w2.setCell ⟨r, 0, none⟩ (.slice a2 n2 c2)).heap[b]? = w.heap[b]?)) := by
    intro a1 c1 w1 v2 w2 HO1 HB1 o2 g2
    have hb2 : Below w.heap.size w w2 := HB1.out.grown g2 HB1.out.size (fun q e => (HO1.out.lt q e).1)
    obtain ⟨a2, c2, e2, _⟩ := own_addr o2
    subst e2
    have hrb : Rb w2 r (.slice (some ⟨b, 0, none⟩) m cv) g := (hb2.block r hlt).trans HH.out.blk
    have hbl2 : ∀ k, k < w.heap.size → k ≠ r → (w2.setCell ⟨r, 0, none⟩ (.slice a2 (ds.take i ++ ds.drop (i + 1)).length c2)).heap[k]? = w.heap[k]? := fun k hk h1 => (Below.heap_setCell _ _ _ _ h1).trans (hb2.block k hk)
    have hsz : w.heap.size ≤ (w2.setCell ⟨r, 0, none⟩ (.slice a2 (ds.take i ++ ds.drop (i + 1)).length c2)).heap.size := by have := hb2.size; simp [World.setCell]; omega
    have hmap : (ds.take i ++ ds.drop (i + 1)).map (·.f) = outL (ds.map (·.f)) k := by rw [HOUT.out, List.map_append, List.map_take, List.map_drop]
    refine ⟨a2, _, c2, rfl, hrb.c0, hrb.fz 0, ⟨⟨_, ds.take i ++ ds.drop (i + 1), hmap, HH.out.next (fun k hk h1 _ => hbl2 k hk h1) hsz (hrb.s0 _) ?_ (fun k e => .inr (o2.lt k e).1) (fun x hx => .inl ?_) ?_⟩, ⟨hb2.os, hb2.tape, hb2.output, hsz, fun k hk hF => hbl2 k hk (fun e => hF (by rw [e]; exact HH.out.fr))⟩, fun k hF hk => hbl2 k (HH.out.lt k hF) hk⟩⟩
    · exact own_monoT (row_same o2 fun k e => Below.heap_setCell _ _ _ _ (fun q => by have := (o2.lt k e).1; simp at q; omega)) (Nat.zero_le _)
    · rcases List.mem_append.1 hx with hx | hx
      · exact List.mem_of_mem_take hx
      · exact List.mem_of_mem_drop hx
    · rw [hmap]; exact HOK.out
  go_enter Try.func41, Try.ntmps41
  go_wp2_with (first
    | (at_builtin; rw [HGA.out]; refine wpList_appFs rfl _ _ rfl w.heap.size (.slice a1 i c1) (ds.take i) (ds.drop (i + 1)) rfl HO1.out b o2 (m - (i + 1)) (cv - (i + 1)) rfl HT2.out (fun j u hj => by have h1 := HC3.out j u hj; exact (HB1.out.cell (World.block_lt_of_cell? w _ h1)).trans h1) (by rw [HT1.out]; omega) (by omega) HB1.out.size ?_; intro v2 w2 o2 g2 l2; obtain ⟨a2, n2, c2, e2, d2, f2, HFIN⟩ := HST2.out a1 c1 w1 v2 w2 HO1 HB1 o2 g2; subst e2; clear o2 g2 l2)
    | (at_builtin; refine wpList_appFs rfl _ _ rfl w.heap.size (.slice none 0 0) [] (ds.take i) rfl (World.ownsRow_nil _ _ _ _) b 0 i cv rfl HT1.out HC1.out (by simp) (by omega) (Nat.le_refl _) ?_; intro v1 w1 o1 g1 l1; obtain ⟨a1, c1, e1, d0, HO1, HB1⟩ := HST.out v1 w1 o1 g1; subst e1; clear o1 g1 l1)
    | fail)
  all_goals
    go_end0
    exact ⟨rfl, HFIN.out⟩
end
end Go.Proofs.Ytacjhbhmhgekhaa
