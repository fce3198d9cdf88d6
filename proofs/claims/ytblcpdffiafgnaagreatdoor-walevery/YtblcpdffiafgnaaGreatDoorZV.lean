import Derived.Test.YtblcpdffiafgnaaGreatDoorYJ
namespace Go.Proofs.YtblcpdffiafgnaaGreatDoor
set_option linter.unusedSimpArgs false
set_option maxRecDepth 100000
open Go.RowKit
set_option linter.unusedVariables false
set_option linter.unusedSimpArgs false

theorem own_sl12 {w : World} {B n sz : Nat} {t : TypeId} {v : Value} {xs : List Value} (h : w.ownsRow B t sz v n xs) : ∃ a c, v = .slice a n c := by
  rcases h.2 with ⟨rfl, h0⟩ | ⟨g, cap, cur, e, _⟩
  · exact ⟨none, 0, by rw [h0]⟩
  · exact ⟨_, _, e⟩
/-- What stood before the row of one's own stands behind an append too. -/
theorem kept12 {W w2 w3 : World} {o : Obj} {B n sz : Nat} {t : TypeId} {v : Value} {xs : List Value} (hb : Below B W w2) (hg : (w2.alloc o).grownBy w3 v.ownBlock) (ho : (w2.alloc o).ownsRow B t sz v n xs) : ∀ b, b < B → b < w2.heap.size → w3.heap[b]? = W.heap[b]? := fun b hB hl =>
  (hg.block b (by rw [World.size_alloc]; omega) (fun e => by have := (ho.lt b e.symm).1; omega)).trans ((Below.heap_alloc _ _ _ hl).trans (hb.block b hB))
theorem bs_row12 {w : World} {a : Option Addr} {n g : Nat} {zs : List Int} (h : Bs w a n zs) (hne : ∀ x, a = some x → x.block ≠ g) (ds : Array Value) : Bs (w.setRow g ds) a n zs := by
  refine ⟨h.1, h.2.1, ?_⟩
  rcases h.2.2 with q | ⟨b, off, e, hc⟩
  · exact .inl q
  · exact .inr ⟨b, off, e, fun i hi => (World.cell?_of_block (w := w) (a := ⟨b, off + i, none⟩) (setRow_other w g b ds (hne _ e))).trans (hc i hi)⟩
theorem with_fin {w W w2 w3 : World} {ab : Option Addr} {k cb m cv c3 : Nat} {av a3 : Option Addr} {vs : List Value} {tx : List Int} {o : Obj} (HB : Below w.heap.size w W) (sW : w.heap.size + 1 < W.heap.size) (HB12 : Below W.heap.size W w2) (HB3 : Below w2.heap.size w2 (w2.alloc o)) (HG3 : (w2.alloc o).grownBy w3 (Value.slice av m cv).ownBlock) (HKP : ∀ b, b < W.heap.size → b < w2.heap.size → w3.heap[b]? = W.heap[b]?)
    (HOWN3 : w3.ownsRow W.heap.size 27 1 (.slice a3 (m + 1) c3) (m + 1) (vs ++ [.slice ab k cb])) (HBS : Bs w2 ab k tx) (hoff : Off ab k (Value.slice av m cv).ownBlock) (hblk : ∀ x, ab = some x → W.heap.size ≤ x.block) (Hcap : k ≤ cb ∧ cb ≤ maxLen) (ds : Array Value) :
    (w3.setRow (w.heap.size + 1) ds).ownsRow w.heap.size 27 1 (.slice a3 (m + 1) c3) (m + 1) (vs ++ [.slice ab k cb]) ∧ Bs (w3.setRow (w.heap.size + 1) ds) ab k tx ∧ (∀ x, ab = some x → w.heap.size ≤ x.block) ∧ k ≤ cb ∧ cb ≤ maxLen ∧ Below w.heap.size w (w3.setRow (w.heap.size + 1) ds) := by
  have s1 := HB.size
  have s2 := HB12.size
  have BF : Below w.heap.size w (w3.setRow (w.heap.size + 1) ds) := by
    refine ⟨HG3.os.trans (HB3.os.trans (HB12.os.trans HB.os)), HG3.tape.trans (HB3.tape.trans (HB12.tape.trans HB.tape)), HG3.output.trans (HB3.output.trans (HB12.output.trans HB.output)), ?_, fun b hb => ?_⟩
    · have := HG3.size
      have := HB3.size
      simp [World.setRow]
      omega
    · exact (setRow_other w3 _ b ds (by omega)).trans ((HKP b (by omega) (by omega)).trans (HB.block b hb))
  have ho : (w3.setRow (w.heap.size + 1) ds).ownsRow W.heap.size 27 1 (.slice a3 (m + 1) c3) (m + 1) (vs ++ [.slice ab k cb]) := own_at' HOWN3 (fun b e => setRow_other w3 _ b ds (by have := (HOWN3.lt b e).1; omega))
  have hbs : Bs (w3.setRow (w.heap.size + 1) ds) ab k tx := bs_row12 ((HBS.below HB3).kept HG3 hoff) (fun x hx => by have := hblk x hx; omega) ds
  exact ⟨own_mono ho s1, hbs, fun x hx => Nat.le_trans s1 (hblk x hx), Hcap.1, Hcap.2, BF⟩
set_option maxHeartbeats 4000000 in
theorem with_ (w : World) (a : Option Addr) (n c : Nat) (ta : Option Addr) (m tc : Nat) (vs : List Value) (b : Option Addr) (k d : Nat) (tx : List Int) (hlen : vs.length = m) (hone : ∀ u ∈ vs, u.oneCell' = true) (hcl0 : ∀ ad, ta = some ad → ∀ (j : Nat) u, vs[j]? = some u → w.cell? (ad.add j) = some u) (hnz : ta = none → m = 0) (h3 : Bs w b k tx) (hm : m ≤ 10000) (hk : k ≤ 140737488351232) :
    Calls Tryz.prog 35 #[.agg #[.slice a n c, .slice ta m tc], .slice b k d] w fun en w' => ∃ ta' tc', en = .returned (.agg #[.slice a n c, .slice ta' (m + 1) tc']) ∧ ∃ ab cb, w'.ownsRow w.heap.size 27 1 (.slice ta' (m + 1) tc') (m + 1) (vs ++ [.slice ab k cb]) ∧ Bs w' ab k tx ∧ (∀ x, ab = some x → w.heap.size ≤ x.block) ∧ k ≤ cb ∧ cb ≤ maxLen ∧ Below w.heap.size w w' := by
  obtain ⟨i, hi, hz0, hz1, hz2⟩ := info_parts infoT
  have B1 : Below w.heap.size w (w.alloc (.cells #[.slice a n c, .slice ta m tc] 39)) := (Below.refl _ _).alloc (Nat.le_refl _) _
  have B2 : Below w.heap.size w ((w.alloc (.cells #[.slice a n c, .slice ta m tc] 39)).alloc (.cells #[.slice none 0 0, .slice none 0 0] 39)) := B1.alloc (by simp) _
  have r0 : ((w.alloc (.cells #[.slice a n c, .slice ta m tc] 39)).alloc (.cells #[.slice none 0 0, .slice none 0 0] 39)).heap[w.heap.size]? = some (.cells #[.slice a n c, .slice ta m tc] 39 (0, 0)) := (Below.heap_alloc _ _ _ (by simp)).trans (World.alloc_heap_new w _)
  have r1 : ((w.alloc (.cells #[.slice a n c, .slice ta m tc] 39)).alloc (.cells #[.slice none 0 0, .slice none 0 0] 39)).heap[w.heap.size + 1]? = some (.cells #[.slice none 0 0, .slice none 0 0] 39 (0, 0)) := by
    have := World.alloc_heap_new (w.alloc (.cells #[.slice a n c, .slice ta m tc] 39)) (.cells #[.slice none 0 0, .slice none 0 0] 39)
    rwa [World.size_alloc] at this
  obtain ⟨W, HW⟩ : ∃ W, Hid ((w.alloc (.cells #[.slice a n c, .slice ta m tc] 39)).alloc (.cells #[.slice none 0 0, .slice none 0 0] 39) = W) := ⟨_, rfl⟩
  rw [HW.out] at B2 r0 r1
  have c1 : W.cell? ⟨w.heap.size, 1, none⟩ = some (.slice ta m tc) := (cell_of_row _ _ 1 _ _ (0, 0) r0).trans rfl
  have hcl : ∀ ad, ta = some ad → ∀ (j : Nat) u, vs[j]? = some u → W.cell? (ad.add j) = some u := fun ad ha j u hj => (B2.cell (World.block_lt_of_cell? _ _ (hcl0 ad ha j u hj))).trans (hcl0 ad ha j u hj)
  clear hcl0
  have HB3 := hid (h3.below B2)
  have HB := hid B2
  have R0 := hid r0
  have R1 := hid r1
  have sW : w.heap.size + 1 < W.heap.size := (Array.getElem?_eq_some_iff.1 r1).1
  clear B1 B2 r0 r1 h3
  go_enter Tryz.func35, Tryz.ntmps35
  cases ta with
  | none =>
    obtain rfl := hnz rfl
    obtain rfl : vs = [] := List.length_eq_zero_iff.1 hlen
    clear hcl hnz
    go_wp2_with fail
    rw [HW.out]
    obtain ⟨av, Hav⟩ : ∃ av : Option Addr, Hid (av = none) := ⟨_, rfl⟩
    have hown : W.ownsRow W.heap.size 27 1 (.slice none 0 0) 0 [] := World.ownsRow_nil _ _ _ _
    have B1' : Below W.heap.size W W := Below.refl _ _
    refine (refBytes b k d tx W (HB3.out.below B1') (by omega)).mono ?_
    rintro en w2 ⟨vb, rfl, hob, B2'⟩
    simp only
    obtain ⟨ab, cb, rfl, bsb, fb1, fb2, _⟩ := own_form hob HB3.out.2.1
    have B3' : Below w2.heap.size w2 (w2.alloc (.cells #[.slice ab k cb] 27)) := (Below.refl _ _).alloc (Nat.le_refl _) _
    have B12 := bel_bel B1' B1'.size B2'
    have hown1 := own_at' hown (fun q e => B2'.block q (hown.lt q e).2)
    have hown2 : (w2.alloc (.cells #[.slice ab k cb] 27)).ownsRow W.heap.size 27 1 (.slice none 0 0) 0 [] := own_at' hown1 (fun q e => B3'.block q (hown1.lt q e).2)
    have mn : (w2.alloc (.cells #[.slice ab k cb] 27)).cell? ⟨w2.heap.size, 0, none⟩ = some (.slice ab k cb) := (cell_of_row _ _ 0 _ _ (0, 0) (World.alloc_heap_new w2 _)).trans rfl
    have hws : W.heap.size ≤ (w2.alloc (.cells #[.slice ab k cb] 27)).heap.size := by have := B12.size; rw [World.size_alloc]; omega
    have HC1 : Hid (∀ (j : Nat) u, [Value.slice ab k cb][j]? = some u → (w2.alloc (.cells #[.slice ab k cb] 27)).cell? ((⟨w2.heap.size, 0, none⟩ : Addr).add j) = some u) := fun j u hj => by
      rw [Addr.add_lit, Nat.zero_add]
      match j, hj with
      | 0, hj => simp at hj; subst hj; exact mn
      | j + 1, hj => simp at hj
    have HC2 : Hid (∀ u ∈ [Value.slice ab k cb], u.oneCell' = true) := fun u hu => by rw [List.mem_singleton.1 hu]; rfl
    have hoff : Hid (Off ab k (Value.slice none 0 0).ownBlock) := .inr (fun x hx q => by
      have h1 := (hown.lt x.block q.symm).2
      subst hx
      have h2 := hob.lt x.block (by rcases hob.2 with ⟨e, _⟩ | ⟨g, cap, cur, e, _⟩ <;> cases e; rfl)
      omega)
    have hblk : Hid (∀ x, ab = some x → W.heap.size ≤ x.block) := fun x hx => by
      subst hx
      have h2 := hob.lt x.block (by rcases hob.2 with ⟨e, _⟩ | ⟨g, cap, cur, e, _⟩ <;> cases e; rfl)
      have := B1'.size
      omega
    have HO2 := hid hown2
    have HMN := hid mn
    have HWS := hid hws
    have HB12 := hid B12
    have HB3' := hid B3'
    have HBSB := hid bsb
    have Hcap := hid (And.intro fb1 fb2)
    clear hown1 hown2 mn hws hob bsb hown B1' B2' B12 B3' fb1 fb2
    go_wp2_with (first | (at_builtin; refine wpList_append_own _ rfl _ _ 37 rfl W.heap.size 27 i _ 1 24 Tryz.underlying37 hi hz0 hz1 hz2 rfl (by decide) (.slice none 0 0) 0 [] rfl (by exact HO2.out) ⟨w2.heap.size, 0, none⟩ 1 1 [.slice ab k cb] rfl rfl HC1.out HC2.out (by unfold maxLen; omega) (by omega) (by exact HWS.out) ?_; intro v' w3 hown3 hg3 _; obtain ⟨a3, c3, rfl⟩ := own_sl12 hown3; have kp3 := kept12 HB12.out hg3 HO2.out; have R30 := (kp3 _ (by omega) (by have := HB12.out.size; omega)).trans R0.out; have R31 := hid ((kp3 _ (by omega) (by have := HB12.out.size; omega)).trans R1.out); have p0 : w3.cell? ⟨w.heap.size, 0, none⟩ = some (.slice a n c) := (cell_of_row _ _ 0 _ _ (0, 0) R30).trans rfl; have HKP := hid kp3; have HOWN3 := hid hown3; have HG3 := hid hg3; clear kp3 R30 hown3 hg3) | (with_reducible show wpList _ _ _ (_ :: _) _ _; refine wpList_ac rfl rfl _ _ rfl (w.heap.size + 1) (.slice a n c) (.slice a3 (0 + 1) c3) rfl rfl rfl rfl _ _ (by exact R31.out) ?_))
    refine bodyPost_ret (results_ac rfl _ _ (w.heap.size + 1) _ _ rfl (row_ac R31.out _ _)) rfl ⟨a3, c3, rfl, ab, cb, ?_⟩
    exact with_fin HB.out sW HB12.out HB3'.out HG3.out HKP.out HOWN3.out HBSB.out hoff.out hblk.out Hcap.out _
  | some ad =>
    have hcl' := hcl ad rfl
    clear hcl hnz
    go_wp2_with (at_builtin; refine wpList_append_own _ rfl _ _ 37 rfl W.heap.size 27 i _ 1 24 Tryz.underlying37 hi hz0 hz1 hz2 rfl (by decide) (.slice none 0 0) 0 [] rfl (World.ownsRow_nil _ _ _ _) ad m tc vs rfl (by rw [hlen, Nat.mul_one]) (by rw [HW.out]; exact hcl') hone (by unfold maxLen; omega) (by omega) (by rw [HW.out]; exact Nat.le_refl _) ?_; intro v1 w1 hown hg1 _)
    rw [HW.out] at hg1
    rw [Nat.zero_add, List.nil_append] at hown
    obtain ⟨av, cv, rfl⟩ : ∃ av cv, v1 = .slice av m cv := by
      rcases hown.2 with ⟨rfl, h0⟩ | ⟨g, cap, cur, e, _⟩
      · exact ⟨none, 0, by rw [h0]⟩
      · exact ⟨_, _, e⟩
    have B1' : Below W.heap.size W w1 := below_of_grown hg1
    refine (refBytes b k d tx w1 (HB3.out.below B1') (by omega)).mono ?_
    rintro en w2 ⟨vb, rfl, hob, B2'⟩
    simp only
    obtain ⟨ab, cb, rfl, bsb, fb1, fb2, _⟩ := own_form hob HB3.out.2.1
    have B3' : Below w2.heap.size w2 (w2.alloc (.cells #[.slice ab k cb] 27)) := (Below.refl _ _).alloc (Nat.le_refl _) _
    have B12 := bel_bel B1' B1'.size B2'
    have hown1 := own_at' hown (fun q e => B2'.block q (hown.lt q e).2)
    have hown2 : (w2.alloc (.cells #[.slice ab k cb] 27)).ownsRow W.heap.size 27 1 (.slice av m cv) m vs := own_at' hown1 (fun q e => B3'.block q (hown1.lt q e).2)
    have mn : (w2.alloc (.cells #[.slice ab k cb] 27)).cell? ⟨w2.heap.size, 0, none⟩ = some (.slice ab k cb) := (cell_of_row _ _ 0 _ _ (0, 0) (World.alloc_heap_new w2 _)).trans rfl
    have hws : W.heap.size ≤ (w2.alloc (.cells #[.slice ab k cb] 27)).heap.size := by have := B12.size; rw [World.size_alloc]; omega
    have HC1 : Hid (∀ (j : Nat) u, [Value.slice ab k cb][j]? = some u → (w2.alloc (.cells #[.slice ab k cb] 27)).cell? ((⟨w2.heap.size, 0, none⟩ : Addr).add j) = some u) := fun j u hj => by
      rw [Addr.add_lit, Nat.zero_add]
      match j, hj with
      | 0, hj => simp at hj; subst hj; exact mn
      | j + 1, hj => simp at hj
    have HC2 : Hid (∀ u ∈ [Value.slice ab k cb], u.oneCell' = true) := fun u hu => by rw [List.mem_singleton.1 hu]; rfl
    have hoff : Hid (Off ab k (Value.slice av m cv).ownBlock) := .inr (fun x hx q => by
      have h1 := (hown.lt x.block q.symm).2
      subst hx
      have h2 := hob.lt x.block (by rcases hob.2 with ⟨e, _⟩ | ⟨g, cap, cur, e, _⟩ <;> cases e; rfl)
      omega)
    have hblk : Hid (∀ x, ab = some x → W.heap.size ≤ x.block) := fun x hx => by
      subst hx
      have h2 := hob.lt x.block (by rcases hob.2 with ⟨e, _⟩ | ⟨g, cap, cur, e, _⟩ <;> cases e; rfl)
      have := B1'.size
      omega
    have HO2 := hid hown2
    have HMN := hid mn
    have HWS := hid hws
    have HB12 := hid B12
    have HB3' := hid B3'
    have HBSB := hid bsb
    have Hcap := hid (And.intro fb1 fb2)
    clear hown1 hown2 mn hws hob bsb hown B1' B2' B12 B3' fb1 fb2
    go_wp2_with (first | (at_builtin; refine wpList_append_own _ rfl _ _ 37 rfl W.heap.size 27 i _ 1 24 Tryz.underlying37 hi hz0 hz1 hz2 rfl (by decide) (.slice av m cv) m vs rfl (by exact HO2.out) ⟨w2.heap.size, 0, none⟩ 1 1 [.slice ab k cb] rfl rfl HC1.out HC2.out (by unfold maxLen; omega) (by omega) (by exact HWS.out) ?_; intro v' w3 hown3 hg3 _; obtain ⟨a3, c3, rfl⟩ := own_sl12 hown3; have kp3 := kept12 HB12.out hg3 HO2.out; have R30 := (kp3 _ (by omega) (by have := HB12.out.size; omega)).trans R0.out; have R31 := hid ((kp3 _ (by omega) (by have := HB12.out.size; omega)).trans R1.out); have p0 : w3.cell? ⟨w.heap.size, 0, none⟩ = some (.slice a n c) := (cell_of_row _ _ 0 _ _ (0, 0) R30).trans rfl; have HKP := hid kp3; have HOWN3 := hid hown3; have HG3 := hid hg3; clear kp3 R30 hown3 hg3) | (with_reducible show wpList _ _ _ (_ :: _) _ _; refine wpList_ac rfl rfl _ _ rfl (w.heap.size + 1) (.slice a n c) (.slice a3 (m + 1) c3) rfl rfl rfl rfl _ _ (by exact R31.out) ?_))
    refine bodyPost_ret (results_ac rfl _ _ (w.heap.size + 1) _ _ rfl (row_ac R31.out _ _)) rfl ⟨a3, c3, rfl, ab, cb, ?_⟩
    exact with_fin HB.out sW HB12.out HB3'.out HG3.out HKP.out HOWN3.out HBSB.out hoff.out hblk.out Hcap.out _
end Go.Proofs.YtblcpdffiafgnaaGreatDoor
namespace Go.Proofs.YtblcpdffiafgnaaGreatDoor
set_option linter.unusedSimpArgs false
set_option maxRecDepth 100000
open Go.RowKit Go.Shelf
set_option linter.unusedVariables false
set_option linter.unusedSimpArgs false

/-- A byte list that can be read, and lies out of R. -/
def Br (w : World) (R : Nat → Prop) (v : Value) (zs : List Int) : Prop := ∃ a n c, v = .slice a n c ∧ Bs w a n zs ∧ n ≤ c ∧ c ≤ maxLen ∧ ∀ ad, a = some ad → 0 < n → ¬ R ad.block
/-- An account that can be read, and lies out of R. -/
def Ar (w : World) (R : Nat → Prop) (s x : Value) (a : Ac) : Prop := Br w R s a.1 ∧ ∃ (ta : Option Addr) (m tc : Nat) (vs : List Value), x = .slice ta m tc ∧ a.2.length = m ∧ m ≤ tc ∧ tc ≤ maxLen ∧ vs.length = m ∧ (m = 0 ∨ ∃ gt, ta = some ⟨gt, 0, none⟩ ∧ ¬ R gt ∧ ∀ (j : Nat) u, vs[j]? = some u → w.cell? ⟨gt, j, none⟩ = some u) ∧ ∀ (j : Nat) u tx, vs[j]? = some u → a.2[j]? = some tx → Br w R u tx
section
variable {w w' : World} {R R' : Nat → Prop} {v s x : Value} {zs : List Int} {a : Ac}
theorem Br.step (h : Br w R v zs) (hs : ∀ b, b < w.heap.size → ¬ R b → w'.heap[b]? = w.heap[b]?) (hr : ∀ b, b < w.heap.size → R' b → R b) : Br w' R' v zs := by
  obtain ⟨a, n, c, e, h1, h2, h3, h4⟩ := h
  refine ⟨a, n, c, e, ⟨h1.1, h1.2.1, ?_⟩, h2, h3, fun ad ha hn q => ?_⟩
  · rcases h1.2.2 with h0 | ⟨b, off, e1, hc⟩
    · exact .inl h0
    · by_cases hn : n = 0
      · exact .inl hn
      · have hlt : b < w.heap.size := World.block_lt_of_cell? w _ (hc 0 (by omega))
        exact .inr ⟨b, off, e1, fun i hi => (World.cell?_of_block (w := w) (a := ⟨b, off + i, none⟩) (hs b hlt (h4 _ e1 (by omega)))).trans (hc i hi)⟩
  · rcases h1.2.2 with h0 | ⟨b, off, e1, hc⟩
    · omega
    · have hlt : b < w.heap.size := World.block_lt_of_cell? w _ (hc 0 (by omega))
      rw [e1] at ha
      cases ha
      exact h4 _ e1 hn (hr _ hlt q)
theorem Ar.step (h : Ar w R s x a) (hs : ∀ b, b < w.heap.size → ¬ R b → w'.heap[b]? = w.heap[b]?) (hr : ∀ b, b < w.heap.size → R' b → R b) : Ar w' R' s x a := by
  obtain ⟨h1, ta, m, tc, vs, e, h2, h3, h4, h5, h6, h7⟩ := h
  refine ⟨h1.step hs hr, ta, m, tc, vs, e, h2, h3, h4, h5, ?_, fun j u tx hu ht => (h7 j u tx hu ht).step hs hr⟩
  rcases h6 with h0 | ⟨gt, e1, hR, hc⟩
  · exact .inl h0
  · by_cases hm : m = 0
    · exact .inl hm
    · obtain ⟨u0, hu0⟩ : ∃ u, vs[0]? = some u := ⟨vs[0]'(by omega), by simp [show 0 < vs.length from by omega]⟩
      have hlt : gt < w.heap.size := World.block_lt_of_cell? w _ (hc 0 u0 hu0)
      exact .inr ⟨gt, e1, fun q => hR (hr _ hlt q), fun j u hu => (World.cell?_of_block (w := w) (a := ⟨gt, j, none⟩) (hs gt hlt hR)).trans (hc j u hu)⟩
theorem Br.nil (w : World) (R : Nat → Prop) : Br w R (.slice none 0 0) [] := ⟨none, 0, 0, rfl, ⟨rfl, fun z hz => (by cases hz), .inl rfl⟩, Nat.le_refl _, Nat.zero_le _, fun ad e => (by cases e)⟩
theorem Ar.bare (h : Br w R s zs) : Ar w R s (.slice none 0 0) (zs, []) := ⟨h, none, 0, 0, [], rfl, rfl, Nat.le_refl _, Nat.zero_le _, rfl, .inl rfl, fun j u tx hu => by simp at hu⟩
theorem Ar.nil (w : World) (R : Nat → Prop) : Ar w R (.slice none 0 0) (.slice none 0 0) ([], []) := Ar.bare (Br.nil w R)
theorem Ar.form (h : Ar w R s x a) : ∃ (b : Option Addr) (n c : Nat) (ta : Option Addr) (m tc : Nat) (vs : List Value), s = .slice b n c ∧ x = .slice ta m tc ∧ Bs w b n a.1 ∧ n ≤ maxLen ∧ Txv w ta m tc a.2 ∧ a.2.length = m ∧ vs.length = m ∧ (∀ u ∈ vs, u.oneCell' = true) ∧ (∀ ad, ta = some ad → ∀ (j : Nat) u, vs[j]? = some u → w.cell? (ad.add j) = some u) ∧ (ta = none → m = 0) ∧ ∀ (j : Nat) u tx, vs[j]? = some u → a.2[j]? = some tx → Br w R u tx := by
  obtain ⟨⟨b, n, c, e0, k1, k2, k3, k4⟩, ta, m, tc, vs, e, h2, h3, h4, h5, h6, h7⟩ := h
  refine ⟨b, n, c, ta, m, tc, vs, e0, e, k1, by omega, ⟨h2, h3, h4, ?_⟩, h2, h5, fun u hu => ?_, fun ad ha j u hj => ?_, fun q => ?_, h7⟩
  · rcases h6 with h0 | ⟨gt, e1, hR, hc⟩
    · exact .inl h0
    · refine .inr ⟨gt, e1, fun i tx hi => ?_⟩
      have hlt := (List.getElem?_eq_some_iff.1 hi).1
      obtain ⟨u, hu⟩ : ∃ u, vs[i]? = some u := ⟨vs[i]'(by omega), by simp [show i < vs.length from by omega]⟩
      obtain ⟨a1, n1, c1, e2, q1, q2, q3, _⟩ := h7 i u tx hu hi
      exact ⟨a1, n1, c1, by rw [← e2]; exact hc i u hu, q1, q2, q3⟩
  · obtain ⟨i, hi, e2⟩ := List.getElem_of_mem hu
    have hu' : vs[i]? = some u := by rw [List.getElem?_eq_getElem hi, e2]
    obtain ⟨tx, ht⟩ : ∃ tx, a.2[i]? = some tx := ⟨a.2[i]'(by omega), by simp [show i < a.2.length from by omega]⟩
    obtain ⟨a1, n1, c1, e3, _⟩ := h7 i u tx hu' ht
    rw [e3]
    rfl
  · rcases h6 with h0 | ⟨gt, e1, hR, hc⟩
    · have := (List.getElem?_eq_some_iff.1 hj).1; omega
    · rw [e1] at ha
      cases ha
      rw [Addr.add_lit, Nat.zero_add]
      exact hc j u hj
  · rcases h6 with h0 | ⟨gt, e1, _⟩
    · exact h0
    · rw [e1] at q; cases q
/-- What with answers. -/
theorem Ar.snoc {m k cb tc' : Nat} {ta' ab : Option Addr} {vs : List Value} {tx : List Int} {B : Nat} (hB : ∀ b, R b → b < B) (h1 : Br w R s a.1) (hl : a.2.length = m) (hv : vs.length = m) (h7 : ∀ (j : Nat) u tx, vs[j]? = some u → a.2[j]? = some tx → Br w R u tx) (ho : w.ownsRow B 27 1 (.slice ta' (m + 1) tc') (m + 1) (vs ++ [.slice ab k cb])) (hb : Bs w ab k tx) (hab : ∀ x, ab = some x → B ≤ x.block) (hc1 : k ≤ cb) (hc2 : cb ≤ maxLen) : Ar w R s (.slice ta' (m + 1) tc') (a.1, a.2 ++ [tx]) := by
  rcases ho.2 with ⟨_, h0⟩ | ⟨g, cap, cur, e, hBg, hg, q1, q2, _, _⟩
  · omega
  · obtain ⟨rfl, -, rfl⟩ : ta' = some ⟨g, 0, none⟩ ∧ m + 1 = m + 1 ∧ tc' = cap := by simpa using e
    refine ⟨h1, _, m + 1, tc', vs ++ [.slice ab k cb], rfl, by simp [hl], q1, q2, by simp [hv], .inr ⟨g, rfl, fun q => ?_, fun j u hu => ?_⟩, fun j u t hu ht => ?_⟩
    · have := hB g q; omega
    · have := ho.cells (g := g) rfl j u hu
      rwa [Addr.add_lit, Nat.zero_add] at this
    · by_cases hj : j < m
      · rw [List.getElem?_append_left (by omega)] at hu
        simp only at ht
        rw [List.getElem?_append_left (by omega)] at ht
        exact h7 j u t hu ht
      · simp only at ht
        rw [List.getElem?_append_right (by omega)] at hu ht
        have h0 : j - m = 0 := by
          by_cases h0 : j - m = 0
          · exact h0
          · rw [hv, List.getElem?_eq_none (by simp; omega)] at hu; cases hu
        rw [hv, h0] at hu
        rw [hl, h0] at ht
        simp at hu ht
        subst hu ht
        exact ⟨ab, k, cb, rfl, hb, hc1, hc2, fun ad ha hk q => by have := hab ad ha; have := hB _ q; omega⟩
/-- What Open tells: rows of one's own behind B, the log's block besides. -/
theorem ar_open {B g : Nat} {st : List Int} {vt : Value} {xs : List Yx} {cs : Array Value} (hw : w.heap[g]? = some (.cells cs 83 (0, 0))) (hR : ∀ b, R b → b < B ∨ b = g) (hv : Br w R v st) (ot : w.ownsRow B 27 1 vt xs.length (xs.map (·.v))) (he : ∀ x ∈ xs, w.ownsRow B 5 1 x.v x.tx.length (cells x.tx) ∧ By x.tx) : Ar w R v vt (st, xs.map (·.tx)) := by
  refine ⟨hv, ?_⟩
  have hel : ∀ (j : Nat) u tx, (xs.map (·.v))[j]? = some u → (xs.map (·.tx))[j]? = some tx → Br w R u tx := fun j u tx hu ht => by
    rw [List.getElem?_map] at hu ht
    cases hx : xs[j]? with
    | none => rw [hx] at hu; cases hu
    | some y =>
      rw [hx] at hu ht
      simp at hu ht
      subst hu ht
      obtain ⟨k1, k2⟩ := he y (List.mem_of_getElem? hx)
      obtain ⟨a, c, e, h3, h4, h5, _⟩ := own_form (own_mono k1 (Nat.zero_le _)) k2
      refine ⟨a, _, c, e, h3, h4, h5, fun ad ha hn q => ?_⟩
      rcases k1.2 with ⟨_, h0⟩ | ⟨g', cap, cur, e', hB', hg', _⟩
      · omega
      · rw [e'] at e
        simp at e
        rw [← e.1] at ha
        cases ha
        rcases hR _ q with q | q
        · simp only at q; omega
        · simp only at q
          rw [q, hw] at hg'
          simp at hg'
  rcases ot.2 with ⟨rfl, h0⟩ | ⟨g', cap, cur, e', hB', hg', q1, q2, _, _⟩
  · have hx0 : xs = [] := List.length_eq_zero_iff.1 h0
    subst hx0
    exact ⟨none, 0, 0, [], rfl, rfl, Nat.le_refl _, Nat.zero_le _, rfl, .inl rfl, fun j u tx hu => by simp at hu⟩
  · refine ⟨some ⟨g', 0, none⟩, xs.length, cap, xs.map (·.v), e', by simp, q1, q2, by simp, .inr ⟨g', rfl, fun q => ?_, fun j u hu => ?_⟩, hel⟩
    · rcases hR _ q with q | q
      · omega
      · rw [q, hw] at hg'
        simp at hg'
    · have := ot.cells (g := g') (by rw [e']; rfl) j u hu
      rwa [Addr.add_lit, Nat.zero_add] at this
/-- A copy of one's own. -/
theorem br_own {B n : Nat} (hB : ∀ b, R b → b < B) (ho : w.ownsRow B 5 1 v n (cells zs)) (hz : By zs) : Br w R v zs := by
  obtain ⟨a, c, e, h3, h4, h5, _⟩ := own_form (own_mono ho (Nat.zero_le _)) hz
  refine ⟨a, _, c, e, h3, h4, h5, fun ad ha hn q => ?_⟩
  rcases ho.2 with ⟨_, h0⟩ | ⟨g', cap, cur, e', hB', hg', _⟩
  · omega
  · rw [e'] at e
    simp at e
    rw [← e.1] at ha
    cases ha
    have := hB _ q
    simp only at this
    omega
end
/-- The newest log of a town, if there is one. -/
def Lgm (w : World) (t d g : Nat) (l : Value) (Q R : Nat → Prop) (k : Nat) (safe : Bool) : Option (Nat × Nat × Nat) → Prop
  | none => l = .pointer none
  | some (ep, nx, pl) => (∃ lp, l = .pointer lp) ∧ (ep ≠ 0 → l = .pointer (some ⟨g, 0, none⟩) ∧ Wm w g d k ep nx pl safe false ∧ ¬ Q g ∧ g ≠ t ∧ R g)
theorem Lgm.ptr {w : World} {t d g : Nat} {l : Value} {Q R : Nat → Prop} {k : Nat} {safe : Bool} : ∀ {x : Option (Nat × Nat × Nat)}, Lgm w t d g l Q R k safe x → ∃ lp, l = .pointer lp
  | none, h => ⟨_, h⟩
  | some (_, _, _), h => h.1
/-- What is to be carried along besides: it stands whatever comes to pass within R, and behind the end. -/
structure Ex where
  p : World → (Nat → Prop) → Prop
  st : ∀ {w w' : World} {R R' : Nat → Prop}, p w R → w.heap.size ≤ w'.heap.size → (∀ b, b < w.heap.size → ¬ R b → w'.heap[b]? = w.heap[b]?) → (∀ b, b < w.heap.size → R' b → R b) → p w' R'
def Tr : Ex := ⟨fun _ _ => True, fun _ _ _ _ => trivial⟩
/-- A town in memory; all of it lies behind w0. -/
structure Ti (Ee : Ex) (w0 w : World) (t d g : Nat) (l : Value) (Q R : Nat → Prop) (s1 x1 s2 x2 s3 x3 : Value) (T : Tp) : Prop where
  tn : Tn w t d l T.safe s1 x1 T.op s2 x2 s3 x3
  dv : Dev w d T.s Q
  lg : Lgm w t d g l Q R T.s.k T.safe T.lg
  qr : ∀ b, Q b → R b
  rt : R t
  qt : ¬ Q t
  rb : ∀ b, R b → w0.heap.size ≤ b ∧ b < w.heap.size
  a1 : Ar w R s1 x1 T.A
  a2 : Ar w R s2 x2 T.M
  a3 : Ar w R s3 x3 T.T
  tab : Tab w
  z0 : 0 < w0.heap.size
  bel : Below w0.heap.size w0 w
  ex : Ee.p w R
def Tw (Ee : Ex) (w0 w : World) (t : Nat) (T : Tp) : Prop := ∃ d g l Q R s1 x1 s2 x2 s3 x3, Ti Ee w0 w t d g l Q R s1 x1 s2 x2 s3 x3 T
section
variable {Ee : Ex} {w0 w w' : World} {t d g : Nat} {l : Value} {Q R : Nat → Prop} {s1 x1 s2 x2 s3 x3 : Value} {T : Tp}
theorem Tn.lt {safe op : Bool} (h : Tn w t d l safe s1 x1 op s2 x2 s3 x3) : t < w.heap.size := (Array.getElem?_eq_some_iff.1 h).1
theorem Tn.cell {safe op : Bool} (h : Tn w t d l safe s1 x1 op s2 x2 s3 x3) (i : Nat) : w.cell? ⟨t, i, none⟩ = (#[.pointer (some ⟨d, 0, none⟩), l, .bool safe, s1, x1, .bool op, s2, x2, s3, x3] : Array Value)[i]? := cell_of_row _ _ i _ _ (0, 0) h
theorem Tn.fz {safe op : Bool} (h : Tn w t d l safe s1 x1 op s2 x2 s3 x3) (i : Nat) : w.frozen? ⟨t, i, none⟩ = false := by unfold Tn at h; simp [World.frozen?, h]
theorem Tn.st1 {safe op : Bool} (h : Tn w t d l safe s1 x1 op s2 x2 s3 x3) (v : Value) : Tn (w.setCell ⟨t, 1, none⟩ v) t d v safe s1 x1 op s2 x2 s3 x3 := by
  unfold Tn at *
  simp [World.setCell, Array.getElem?_modify, h]
theorem Tn.st2 {safe op : Bool} (h : Tn w t d l safe s1 x1 op s2 x2 s3 x3) (b : Bool) : Tn (w.setCell ⟨t, 2, none⟩ (.bool b)) t d l b s1 x1 op s2 x2 s3 x3 := by
  unfold Tn at *
  simp [World.setCell, Array.getElem?_modify, h]
theorem Tn.st5 {safe op : Bool} (h : Tn w t d l safe s1 x1 op s2 x2 s3 x3) (b : Bool) : Tn (w.setCell ⟨t, 5, none⟩ (.bool b)) t d l safe s1 x1 b s2 x2 s3 x3 := by
  unfold Tn at *
  simp [World.setCell, Array.getElem?_modify, h]
theorem Tn.st34 {safe op : Bool} (h : Tn w t d l safe s1 x1 op s2 x2 s3 x3) (v u : Value) : Tn ((w.setCell ⟨t, 3, none⟩ v).setCell ⟨t, 4, none⟩ u) t d l safe v u op s2 x2 s3 x3 := by
  unfold Tn at *
  simp [World.setCell, Array.getElem?_modify, h]
theorem Tn.st67 {safe op : Bool} (h : Tn w t d l safe s1 x1 op s2 x2 s3 x3) (v u : Value) : Tn ((w.setCell ⟨t, 6, none⟩ v).setCell ⟨t, 7, none⟩ u) t d l safe s1 x1 op v u s3 x3 := by
  unfold Tn at *
  simp [World.setCell, Array.getElem?_modify, h]
theorem Tn.st89 {safe op : Bool} (h : Tn w t d l safe s1 x1 op s2 x2 s3 x3) (v u : Value) : Tn ((w.setCell ⟨t, 8, none⟩ v).setCell ⟨t, 9, none⟩ u) t d l safe s1 x1 op s2 x2 v u := by
  unfold Tn at *
  simp [World.setCell, Array.getElem?_modify, h]
theorem Tn.below {safe op : Bool} (h : Tn w t d l safe s1 x1 op s2 x2 s3 x3) (hb : Below w.heap.size w w') : Tn w' t d l safe s1 x1 op s2 x2 s3 x3 := (hb.block t h.lt).trans h
/-- A step that but makes memory. -/
theorem Ti.below (h : Ti Ee w0 w t d g l Q R s1 x1 s2 x2 s3 x3 T) (hb : Below w.heap.size w w') : Ti Ee w0 w' t d g l Q R s1 x1 s2 x2 s3 x3 T := by
  have hs : ∀ b, b < w.heap.size → ¬ R b → w'.heap[b]? = w.heap[b]? := fun b h1 _ => hb.block b h1
  have hr : ∀ b, b < w.heap.size → R b → R b := fun _ _ q => q
  refine ⟨h.tn.below hb, h.dv.below hb, ?_, h.qr, h.rt, h.qt, fun b q => ⟨(h.rb b q).1, Nat.lt_of_lt_of_le (h.rb b q).2 hb.size⟩, h.a1.step hs hr, h.a2.step hs hr, h.a3.step hs hr, h.tab.bel hb, h.z0, bel_bel h.bel h.bel.size hb, Ee.st h.ex hb.size hs hr⟩
  have hl := h.lg
  revert hl
  cases T.lg with
  | none => exact id
  | some y =>
    obtain ⟨ep, nx, pl⟩ := y
    exact fun hl => ⟨hl.1, fun he => ⟨(hl.2 he).1, (hl.2 he).2.1.below hb, (hl.2 he).2.2⟩⟩
theorem Tw.below (h : Tw Ee w0 w t T) (hb : Below w.heap.size w w') : Tw Ee w0 w' t T := by
  obtain ⟨d, g, l, Q, R, s1, x1, s2, x2, s3, x3, h⟩ := h
  exact ⟨d, g, l, Q, R, s1, x1, s2, x2, s3, x3, h.below hb⟩
theorem Tw.bel (h : Tw Ee w0 w t T) : Below w0.heap.size w0 w := by
  obtain ⟨d, g, l, Q, R, s1, x1, s2, x2, s3, x3, h⟩ := h
  exact h.bel
/-- Something more is carried along. -/
theorem Ti.with {E' : Ex} (h : Ti Ee w0 w t d g l Q R s1 x1 s2 x2 s3 x3 T) (k : E'.p w R) : Ti E' w0 w t d g l Q R s1 x1 s2 x2 s3 x3 T := ⟨h.tn, h.dv, h.lg, h.qr, h.rt, h.qt, h.rb, h.a1, h.a2, h.a3, h.tab, h.z0, h.bel, k⟩
/-- Its log. -/
theorem Ti.wq (h : Ti Ee w0 w t d g l Q R s1 x1 s2 x2 s3 x3 T) {ep nx pl : Nat} (e : T.lg = some (ep, nx, pl)) (hep : 1 ≤ ep) : l = .pointer (some ⟨g, 0, none⟩) ∧ Wq w g d T.s.k ep nx pl T.safe false T.s Q ∧ g ≠ t ∧ R g := by
  have hl := h.lg
  rw [e] at hl
  obtain ⟨h1, h2, h3, h4, h5⟩ := hl.2 (by omega)
  have hz := h.z0
  refine ⟨h1, ⟨h2, h.dv, h3, h.tab, fun q => ?_, ?_⟩, h4, h5⟩
  · have := (h.rb 0 (h.qr 0 q)).1; omega
  · have := (h.rb g h5).1; omega
theorem Ti.q0 (h : Ti Ee w0 w t d g l Q R s1 x1 s2 x2 s3 x3 T) : ¬ Q 0 := fun q => by have := (h.rb 0 (h.qr 0 q)).1; have := h.z0; omega
/-- The device, the log and the town's own block may have turned: what is left to be shown. -/
theorem Ti.turn {T' : Tp} {d' g' : Nat} {l' : Value} {Q' R' : Nat → Prop} {u1 y1 u2 y2 u3 y3 : Value} (h : Ti Ee w0 w t d g l Q R s1 x1 s2 x2 s3 x3 T) (hf : Fr R w w')
    (tn : Tn w' t d' l' T'.safe u1 y1 T'.op u2 y2 u3 y3) (hd : Dev w' d' T'.s Q') (hl : Lgm w' t d' g' l' Q' R' T'.s.k T'.safe T'.lg) (hq : ∀ b, Q' b → R' b) (hR : ∀ b, R b → R' b) (qt : ¬ Q' t) (hr : ∀ b, R' b → R b ∨ (w.heap.size ≤ b ∧ b < w'.heap.size))
    (a1 : Ar w' R' u1 y1 T'.A) (a2 : Ar w' R' u2 y2 T'.M) (a3 : Ar w' R' u3 y3 T'.T) : Ti Ee w0 w' t d' g' l' Q' R' u1 y1 u2 y2 u3 y3 T' := by
  have hz := h.z0
  have hs := h.bel.size
  refine ⟨tn, hd, hl, hq, hR t h.rt, qt, fun b q => ?_, a1, a2, a3, h.tab.fr hf (fun q => by have := (h.rb 0 q).1; omega), hz, h.bel.trans (hf.under hs (fun b q => (h.rb b q).1)), Ee.st h.ex hf.size hf.same (fun b hb q => (hr b q).resolve_right (by omega))⟩
  rcases hr b q with q | q
  · have := h.rb b q; have := hf.size; omega
  · omega
theorem Ar.fr {R' : Nat → Prop} {s x : Value} {a : Ac} (h : Ar w R s x a) (hf : Fr R w w') (hr : ∀ b, R' b → R b ∨ (w.heap.size ≤ b ∧ b < w'.heap.size)) : Ar w' R' s x a := h.step hf.same (fun b hb q => by
  rcases hr b q with q | q
  · exact q
  · omega)
end
end Go.Proofs.YtblcpdffiafgnaaGreatDoor
