import Derived.Test.YtcaecfdeieoenaaR8
import Derived.Test.YtcaecfdeieoenaaQ1
namespace Go.Proofs.Ytcaecfdeieoenaa
set_option linter.unusedVariables false

/-! The tree of a family: arithmetic. -/
def Wy.A (x : Wy) : Int := ad x.H x.L
theorem dv_add (A : Int) (a b : Nat) : A / 2 ^ (a + b) = A / 2 ^ a / 2 ^ b := by
  rw [Int.pow_add, Int.ediv_ediv_of_nonneg (Int.le_of_lt (pow_pos2 a))]
theorem dv_mono {A A' : Int} {a b : Nat} (h : a ≤ b) (e : A / 2 ^ a = A' / 2 ^ a) : A / 2 ^ b = A' / 2 ^ b := by
  obtain ⟨m, rfl⟩ : ∃ m, b = a + m := ⟨b - a, by omega⟩
  rw [dv_add, dv_add, e]
/-- A bit behind the first k. -/
def bi (n : Nat) (A : Int) (k : Nat) : Int := A / 2 ^ (n - (k + 1)) % 2
theorem bi_or (n : Nat) (A : Int) (k : Nat) : bi n A k = 0 ∨ bi n A k = 1 := by unfold bi; omega
/-- y stands below x, its next bit being i. -/
def Und (n : Nat) (x y : Wy) (i : Int) : Prop := x.B < y.B ∧ y.A / 2 ^ (n - (x.B.toNat + 1)) = 2 * (x.A / 2 ^ (n - x.B.toNat)) + i
/-- What a node may hold. -/
def Nk (F : Int) (x : Wy) : Prop := x.In ∧ vp x.F x.H x.L x.B = true ∧ (0 ≤ x.K ∧ x.K ≤ 4294967295) ∧ x.F = F
theorem Nk.b {F : Int} {x : Wy} (h : Nk F x) : 0 ≤ x.B ∧ x.B ≤ nb F := by
  have := vp_in h.2.1
  rw [h.2.2.2] at this
  exact ⟨this.2.1, this.2.2.1⟩
theorem Nk.lo {F : Int} {x : Wy} (h : Nk F x) : x.A % 2 ^ (nb F - x.B.toNat) = 0 := by
  have := vp_in h.2.1
  rw [h.2.2.2] at this
  exact this.2.2.2
theorem Nk.va {F : Int} {x : Wy} (h : Nk F x) : va F x.H x.L = true := by
  have := vp_in h.2.1
  rw [h.2.2.2] at this
  exact this.1
theorem Nk.a {F : Int} {x : Wy} (h : Nk F x) : 0 ≤ x.A ∧ x.A < 2 ^ nb F := (va_in h.va h.1.2.1 h.1.2.2.1).2
theorem Nk.of {F : Int} {x : Wy} (h : x.Ok) (hF : x.F = F) : Nk F x := ⟨h.1, h.2.1, ⟨by have := h.2.2.1; omega, h.2.2.2⟩, hF⟩
theorem Nk.ok {F : Int} {x : Wy} (h : Nk F x) (hk : x.K ≠ 0) : x.Ok := ⟨h.1, h.2.1, by have := h.2.2.1.1; omega, h.2.2.1.2⟩
theorem und_bit {n : Nat} {x y : Wy} {i : Int} (h : Und n x y i) (hi : i = 0 ∨ i = 1) : bi n y.A x.B.toNat = i := by
  unfold bi
  rw [h.2]
  omega
theorem und_top {n : Nat} {x y : Wy} {i : Int} (h : Und n x y i) (hi : i = 0 ∨ i = 1) (hx : 0 ≤ x.B) (hy : y.B ≤ n) : y.A / 2 ^ (n - x.B.toNat) = x.A / 2 ^ (n - x.B.toNat) := by
  obtain ⟨m, hm⟩ : ∃ m, n - (x.B.toNat + 1) = m := ⟨_, rfl⟩
  have h1 := h.1
  have h2 := h.2
  rw [hm] at h2
  have e : n - x.B.toNat = m + 1 := by omega
  rw [e] at h2 ⊢
  rw [dv_add y.A m 1, h2]
  generalize x.A / 2 ^ (m + 1) = q
  have : (2 : Int) ^ 1 = 2 := rfl
  rw [this]
  omega
theorem und_mk {n : Nat} {x y : Wy} (h : x.B < y.B) (hx : 0 ≤ x.B) (hy : y.B ≤ n) (e : y.A / 2 ^ (n - x.B.toNat) = x.A / 2 ^ (n - x.B.toNat)) : Und n x y (bi n y.A x.B.toNat) := by
  refine ⟨h, ?_⟩
  unfold bi
  obtain ⟨m, hm⟩ : ∃ m, n - (x.B.toNat + 1) = m := ⟨_, rfl⟩
  have e' : n - x.B.toNat = m + 1 := by omega
  rw [e'] at e
  rw [hm, e', ← e, ediv_two y.A m]
  omega
theorem und_on {n : Nat} {x y z : Wy} {i : Int} (h : Und n x y i) (hx : 0 ≤ x.B) (hz : y.B ≤ z.B) (e : y.A / 2 ^ (n - y.B.toNat) = z.A / 2 ^ (n - y.B.toNat)) : Und n x z i := by
  have h1 := h.1
  refine ⟨by omega, ?_⟩
  rw [← h.2]
  exact (dv_mono (by omega) e).symm
theorem sm_of {F : Int} {x y : Wy} (hx : Nk F x) (hy : Nk F y) (hB : x.B = y.B) (e : x.A / 2 ^ (nb F - x.B.toNat) = y.A / 2 ^ (nb F - x.B.toNat)) : x.sm y = true := by
  have l1 := hx.lo
  have l2 := hy.lo
  rw [← hB] at l2
  have d1 := Int.mul_ediv_add_emod x.A (2 ^ (nb F - x.B.toNat))
  have d2 := Int.mul_ediv_add_emod y.A (2 ^ (nb F - x.B.toNat))
  rw [l1] at d1
  rw [l2] at d2
  rw [e] at d1
  have e : x.A = y.A := d1.symm.trans d2
  have := ad_inj hx.1.2.2.1 hy.1.2.2.1 e
  rw [sm_iff]
  exact ⟨hx.2.2.2.trans hy.2.2.2.symm, this.1, this.2, hB⟩
theorem sm_A {x y : Wy} (h : x.sm y = true) : x.A = y.A ∧ x.B = y.B := by
  rw [sm_iff] at h
  unfold Wy.A
  rw [h.2.1, h.2.2.1]
  exact ⟨rfl, h.2.2.2⟩
theorem nk_ho {F H L : Int} {x : Wy} (hx : Nk F x) (ha : va F H L = true) : x.ho F H L = decide (x.A / 2 ^ (nb F - x.B.toNat) = ad H L / 2 ^ (nb F - x.B.toNat)) := by
  unfold Wy.ho Go.Proofs.Ytcaecfdeieoenaa.ho
  rw [hx.2.1, hx.2.2.2, ha, Bool.eq_iff_iff]
  simp [Wy.A]
  exact decide_eq_true_iff.symm
/-! Trees. -/
inductive Tn where
  | nil
  | node (b : Nat) (x : Wy) (l r : Tn)
def Tn.nds : Tn → List (Nat × Wy)
  | .nil => []
  | .node b x l r => (b, x) :: (l.nds ++ r.nds)
def Tn.gs : Tn → List (Nat × Wy)
  | .nil => []
  | .node b x l r => (if x.K = 0 then [] else [(b, x)]) ++ (l.gs ++ r.gs)
def Tn.ws (t : Tn) : List Wy := t.gs.map (·.2)
def Wf (F : Int) : Tn → Prop
  | .nil => True
  | .node _ x l r => Nk F x ∧ (∀ z ∈ l.nds, Und (nb F) x z.2 0) ∧ (∀ z ∈ r.nds, Und (nb F) x z.2 1) ∧ Wf F l ∧ Wf F r
theorem gs_mem (z : Nat × Wy) : ∀ t : Tn, z ∈ t.gs ↔ z ∈ t.nds ∧ z.2.K ≠ 0
  | .nil => by simp [Tn.gs, Tn.nds]
  | .node b x l r => by
    rw [Tn.gs, Tn.nds, List.mem_append, List.mem_append, gs_mem z l, gs_mem z r, List.mem_cons, List.mem_append]
    by_cases h : x.K = 0
    · rw [if_pos h]
      constructor
      · rintro (h' | h' | h')
        · cases h'
        · exact ⟨.inr (.inl h'.1), h'.2⟩
        · exact ⟨.inr (.inr h'.1), h'.2⟩
      · rintro ⟨rfl | h' | h', k⟩
        · exact absurd h k
        · exact .inr (.inl ⟨h', k⟩)
        · exact .inr (.inr ⟨h', k⟩)
    · rw [if_neg h, List.mem_singleton]
      constructor
      · rintro (h' | h' | h')
        · subst h'
          exact ⟨.inl rfl, h⟩
        · exact ⟨.inr (.inl h'.1), h'.2⟩
        · exact ⟨.inr (.inr h'.1), h'.2⟩
      · rintro ⟨h' | h' | h', k⟩
        · exact .inl h'
        · exact .inr (.inl ⟨h', k⟩)
        · exact .inr (.inr ⟨h', k⟩)
theorem ws_mem (y : Wy) (t : Tn) : y ∈ t.ws ↔ (∃ b, (b, y) ∈ t.nds) ∧ y.K ≠ 0 := by
  unfold Tn.ws
  rw [List.mem_map]
  constructor
  · rintro ⟨⟨b, z⟩, h, rfl⟩
    have := (gs_mem _ t).1 h
    exact ⟨⟨b, this.1⟩, this.2⟩
  · rintro ⟨⟨b, h⟩, k⟩
    exact ⟨(b, y), (gs_mem _ t).2 ⟨h, k⟩, rfl⟩
theorem wf_nk {F : Int} : ∀ {t : Tn}, Wf F t → ∀ z ∈ t.nds, Nk F z.2
  | .nil, _, z, hz => by cases hz
  | .node b x l r, h, z, hz => by
    rw [Tn.nds, List.mem_cons, List.mem_append] at hz
    rcases hz with rfl | hz | hz
    · exact h.1
    · exact wf_nk h.2.2.2.1 z hz
    · exact wf_nk h.2.2.2.2 z hz
theorem gs_pw {F : Int} : ∀ {t : Tn}, Wf F t → t.gs.Pairwise (fun a b => a.2.sm b.2 = false)
  | .nil, _ => List.Pairwise.nil
  | .node b x l r, h => by
    have hl : ∀ z ∈ l.gs, Und (nb F) x z.2 0 := fun z hz => h.2.1 z ((gs_mem z l).1 hz).1
    have hr : ∀ z ∈ r.gs, Und (nb F) x z.2 1 := fun z hz => h.2.2.1 z ((gs_mem z r).1 hz).1
    rw [Tn.gs, List.pairwise_append, List.pairwise_append]
    refine ⟨?_, ⟨gs_pw h.2.2.2.1, gs_pw h.2.2.2.2, fun u hu v hv => Bool.eq_false_iff.2 (fun e => ?_)⟩, fun u hu v hv => Bool.eq_false_iff.2 (fun e => ?_)⟩
    · split
      · exact List.Pairwise.nil
      · exact List.pairwise_singleton _ _
    · have e := (sm_A e).1
      have h1 := (hl u hu).2
      have h2 := (hr v hv).2
      rw [e, h2] at h1
      omega
    · have hu : u.2 = x := by
        split at hu
        · cases hu
        · rw [List.mem_singleton] at hu
          rw [hu]
      rw [hu] at e
      have e := (sm_A e).2
      rcases List.mem_append.1 hv with hv | hv
      · have := (hl v hv).1
        omega
      · have := (hr v hv).1
        omega
/-! The path to an address. -/
def pth (n : Nat) (A B : Int) : Tn → List (Nat × Wy)
  | .nil => []
  | .node b x l r => if x.A / 2 ^ (n - x.B.toNat) = A / 2 ^ (n - x.B.toNat) then (b, x) :: (if x.B < B then (if bi n A x.B.toNat = 0 then pth n A B l else pth n A B r) else []) else []
theorem pth_mem {F A B : Int} : ∀ {t : Tn}, Wf F t → ∀ z ∈ pth (nb F) A B t, z ∈ t.nds ∧ z.2.A / 2 ^ (nb F - z.2.B.toNat) = A / 2 ^ (nb F - z.2.B.toNat)
  | .nil, _, z, hz => by cases hz
  | .node b x l r, h, z, hz => by
    rw [pth] at hz
    split at hz
    · rename_i e
      rcases List.mem_cons.1 hz with rfl | hz
      · exact ⟨List.mem_cons_self, e⟩
      · rw [Tn.nds, List.mem_cons, List.mem_append]
        split at hz
        · split at hz
          · have := pth_mem h.2.2.2.1 z hz
            exact ⟨.inr (.inl this.1), this.2⟩
          · have := pth_mem h.2.2.2.2 z hz
            exact ⟨.inr (.inr this.1), this.2⟩
        · cases hz
    · cases hz
theorem pth_hit {F A B : Int} : ∀ {t : Tn}, Wf F t → ∀ z ∈ t.nds, z.2.A / 2 ^ (nb F - z.2.B.toNat) = A / 2 ^ (nb F - z.2.B.toNat) → z.2.B ≤ B → z ∈ pth (nb F) A B t
  | .nil, _, z, hz, _, _ => by cases hz
  | .node b x l r, h, z, hz, e, hB => by
    have hx := h.1.b
    have hzb := (wf_nk h z hz).b
    rw [Tn.nds, List.mem_cons, List.mem_append] at hz
    rw [pth]
    rcases hz with rfl | hz | hz
    · rw [if_pos e]
      exact List.mem_cons_self
    · have hu := h.2.1 z hz
      have e1 := und_top hu (.inl rfl) hx.1 hzb.2
      have hu' := hu.1
      have e2 : A / 2 ^ (nb F - x.B.toNat) = z.2.A / 2 ^ (nb F - x.B.toNat) := (dv_mono (by omega) e).symm
      have e3 : A / 2 ^ (nb F - (x.B.toNat + 1)) = z.2.A / 2 ^ (nb F - (x.B.toNat + 1)) := (dv_mono (by omega) e).symm
      have e4 : bi (nb F) A x.B.toNat = 0 := by
        have := und_bit hu (.inl rfl)
        unfold bi at this ⊢
        rw [e3]
        exact this
      rw [if_pos (by rw [e2, e1]), if_pos (by omega), if_pos e4]
      exact List.mem_cons_of_mem _ (pth_hit h.2.2.2.1 z hz e hB)
    · have hu := h.2.2.1 z hz
      have e1 := und_top hu (.inr rfl) hx.1 hzb.2
      have hu' := hu.1
      have e2 : A / 2 ^ (nb F - x.B.toNat) = z.2.A / 2 ^ (nb F - x.B.toNat) := (dv_mono (by omega) e).symm
      have e3 : A / 2 ^ (nb F - (x.B.toNat + 1)) = z.2.A / 2 ^ (nb F - (x.B.toNat + 1)) := (dv_mono (by omega) e).symm
      have e4 : bi (nb F) A x.B.toNat = 1 := by
        have := und_bit hu (.inr rfl)
        unfold bi at this ⊢
        rw [e3]
        exact this
      rw [if_pos (by rw [e2, e1]), if_pos (by omega), if_neg (by omega)]
      exact List.mem_cons_of_mem _ (pth_hit h.2.2.2.2 z hz e hB)
theorem pth_srt {F A B : Int} : ∀ {t : Tn}, Wf F t → (pth (nb F) A B t).Pairwise (fun u v => u.2.B < v.2.B)
  | .nil, _ => List.Pairwise.nil
  | .node b x l r, h => by
    rw [pth]
    split
    · rw [List.pairwise_cons]
      split
      · split
        · exact ⟨fun z hz => (h.2.1 z (pth_mem h.2.2.2.1 z hz).1).1, pth_srt h.2.2.2.1⟩
        · exact ⟨fun z hz => (h.2.2.1 z (pth_mem h.2.2.2.2 z hz).1).1, pth_srt h.2.2.2.2⟩
      · exact ⟨fun z hz => (by cases hz), List.Pairwise.nil⟩
    · exact List.Pairwise.nil
/-- The link that Find keeps. -/
def fdl (s : Int) (l : List (Nat × Wy)) : Int := l.foldl (fun s z => if z.2.K = 0 then s else z.2.K) s
theorem fdl_none : ∀ (l : List (Nat × Wy)) (s : Int), (∀ z ∈ l, z.2.K = 0) → fdl s l = s
  | [], s, _ => rfl
  | z :: l, s, h => by
    show fdl (if z.2.K = 0 then s else z.2.K) l = s
    rw [if_pos (h z List.mem_cons_self)]
    exact fdl_none l s (fun u hu => h u (List.mem_cons_of_mem _ hu))
theorem fdl_some : ∀ (l : List (Nat × Wy)) (s : Int) (z : Nat × Wy), l.Pairwise (fun u v => u.2.B < v.2.B) → z ∈ l → z.2.K ≠ 0 → (∀ u ∈ l, u.2.K ≠ 0 → u.2.B ≤ z.2.B) → fdl s l = z.2.K
  | [], s, z, _, hz, _, _ => by cases hz
  | y :: l, s, z, hp, hz, hk, hm => by
    rw [List.pairwise_cons] at hp
    show fdl (if y.2.K = 0 then s else y.2.K) l = z.2.K
    rcases List.mem_cons.1 hz with rfl | hz
    · rw [if_neg hk]
      refine fdl_none l _ (fun u hu => Decidable.byContradiction (fun hu' => ?_))
      have h1 := hp.1 u hu
      have h2 := hm u (List.mem_cons_of_mem _ hu) hu'
      omega
    · exact fdl_some l _ z hp.2 hz hk (fun u hu => hm u (List.mem_cons_of_mem _ hu))
/-- The link of this very prefix. -/
def lk (p : Wy) (l : List (Nat × Wy)) : Int := match l.find? (fun z => z.2.sm p) with
  | none => 0
  | some z => z.2.K
theorem lk_zero {F : Int} {t : Tn} {p : Wy} (h : Wf F t) (hp : p.B ≤ p.B) : lk p (pth (nb F) p.A p.B t) = 0 ↔ ∀ y ∈ t.ws, y.sm p = false := by
  unfold lk
  cases hf : (pth (nb F) p.A p.B t).find? (fun z => z.2.sm p) with
  | none =>
    refine ⟨fun _ y hy => ?_, fun _ => rfl⟩
    obtain ⟨⟨b, hb⟩, hk⟩ := (ws_mem y t).1 hy
    refine Bool.eq_false_iff.2 (fun e => ?_)
    have e' := sm_A e
    have hm := pth_hit (A := p.A) (B := p.B) h (b, y) hb (by rw [e'.1]) (by show y.B ≤ p.B; rw [e'.2]; exact Int.le_refl _)
    have := List.find?_eq_none.1 hf (b, y) hm
    exact this e
  | some z =>
    have hz := List.mem_of_find?_eq_some hf
    have hs : z.2.sm p = true := by
      have := List.find?_some hf
      exact this
    have hn := (pth_mem h z hz).1
    refine ⟨fun hk => ?_, fun hh => ?_⟩
    · intro y hy
      obtain ⟨⟨b, hb⟩, hyk⟩ := (ws_mem y t).1 hy
      refine Bool.eq_false_iff.2 (fun e => ?_)
      have e' := sm_A e
      have hm := pth_hit (A := p.A) (B := p.B) h (b, y) hb (by rw [e'.1]) (by show y.B ≤ p.B; rw [e'.2]; exact Int.le_refl _)
      have hB : y.B = z.2.B := by rw [e'.2, (sm_A hs).2]
      have hzy : z = (b, y) := by
        have hp := pth_srt (A := p.A) (B := p.B) h
        obtain ⟨i, hi, hi'⟩ := List.mem_iff_getElem.1 hz
        obtain ⟨j, hj, hj'⟩ := List.mem_iff_getElem.1 hm
        rcases Nat.lt_trichotomy i j with hlt | hlt | hlt
        · have := List.pairwise_iff_getElem.1 hp i j hi hj hlt
          rw [hi', hj'] at this
          exact absurd this (by show ¬ z.2.B < y.B; omega)
        · subst hlt
          rw [← hi', ← hj']
        · have := List.pairwise_iff_getElem.1 hp j i hj hi hlt
          rw [hi', hj'] at this
          exact absurd this (by show ¬ y.B < z.2.B; omega)
      rw [hzy] at hk
      exact hyk hk
    · refine Decidable.byContradiction (fun hk => ?_)
      have := hh z.2 ((ws_mem z.2 t).2 ⟨⟨z.1, hn⟩, hk⟩)
      rw [this] at hs
      cases hs
/-! A tree with a prefix more. -/
def Wth (F : Int) (p : Wy) (t t' : Tn) : Prop := Wf F t' ∧ (∀ y, y ∈ t'.ws ↔ y = p ∨ y ∈ t.ws) ∧ ∀ (x : Wy) (i : Int), 0 ≤ x.B → Und (nb F) x p i → (∀ z ∈ t.nds, Und (nb F) x z.2 i) → ∀ z ∈ t'.nds, Und (nb F) x z.2 i
theorem ws_node (y : Wy) (b : Nat) (x : Wy) (l r : Tn) : y ∈ (Tn.node b x l r).ws ↔ (y = x ∧ x.K ≠ 0) ∨ y ∈ l.ws ∨ y ∈ r.ws := by
  rw [ws_mem, ws_mem, ws_mem, Tn.nds]
  constructor
  · rintro ⟨⟨c, h⟩, k⟩
    rw [List.mem_cons, List.mem_append] at h
    rcases h with h | h | h
    · injection h with _ h
      subst h
      exact .inl ⟨rfl, k⟩
    · exact .inr (.inl ⟨⟨c, h⟩, k⟩)
    · exact .inr (.inr ⟨⟨c, h⟩, k⟩)
  · rintro (⟨rfl, k⟩ | ⟨⟨c, h⟩, k⟩ | ⟨⟨c, h⟩, k⟩)
    · exact ⟨⟨b, List.mem_cons_self⟩, k⟩
    · exact ⟨⟨c, List.mem_cons_of_mem _ (List.mem_append_left _ h)⟩, k⟩
    · exact ⟨⟨c, List.mem_cons_of_mem _ (List.mem_append_right _ h)⟩, k⟩
theorem nds_node {P : Nat × Wy → Prop} {b : Nat} {x : Wy} {l r : Tn} : (∀ z ∈ (Tn.node b x l r).nds, P z) ↔ P (b, x) ∧ (∀ z ∈ l.nds, P z) ∧ ∀ z ∈ r.nds, P z := by
  rw [Tn.nds]
  simp only [List.mem_cons, List.mem_append]
  constructor
  · intro h
    exact ⟨h _ (.inl rfl), fun z hz => h z (.inr (.inl hz)), fun z hz => h z (.inr (.inr hz))⟩
  · rintro ⟨h1, h2, h3⟩ z (rfl | h | h)
    · exact h1
    · exact h2 z h
    · exact h3 z h
theorem ws_nil (y : Wy) : y ∈ Tn.nil.ws ↔ False := by simp [Tn.ws, Tn.gs]
theorem wth_nil {F : Int} {p : Wy} (hp : p.Ok) (hF : p.F = F) (b : Nat) : Wth F p .nil (.node b p .nil .nil) := by
  refine ⟨⟨Nk.of hp hF, fun z hz => (by cases hz), fun z hz => (by cases hz), trivial, trivial⟩, fun y => ?_, fun x i hx hu _ => ?_⟩
  · rw [ws_node, ws_nil]
    have := hp.2.2.1
    constructor
    · rintro (h | h | h)
      · exact .inl h.1
      · exact h.elim
      · exact h.elim
    · rintro (h | h)
      · exact .inl ⟨h, by omega⟩
      · exact h.elim
  · rw [nds_node]
    exact ⟨hu, fun z hz => (by cases hz), fun z hz => (by cases hz)⟩
theorem und_sm {n : Nat} {x p z : Wy} {i : Int} (e : x.sm p = true) (h : Und n x z i) : Und n p z i := by
  have := sm_A e
  unfold Und at h ⊢
  rw [← this.1, ← this.2]
  exact h
theorem wth_same {F : Int} {p x : Wy} {b : Nat} {l r : Tn} (h : Wf F (.node b x l r)) (hp : p.Ok) (hF : p.F = F) (e : x.sm p = true) (hk : x.K = 0) (b' : Nat) : Wth F p (.node b x l r) (.node b' p l r) := by
  refine ⟨⟨Nk.of hp hF, fun z hz => und_sm e (h.2.1 z hz), fun z hz => und_sm e (h.2.2.1 z hz), h.2.2.2⟩, fun y => ?_, fun x i hx hu hz => ?_⟩
  · rw [ws_node, ws_node]
    have := hp.2.2.1
    constructor
    · rintro (h | h)
      · exact .inl h.1
      · exact .inr (.inr h)
    · rintro (h | h | h)
      · exact .inl ⟨h, by omega⟩
      · exact absurd hk h.2
      · exact .inr h
  · rw [nds_node] at hz ⊢
    exact ⟨hu, hz.2⟩
theorem wth_left {F : Int} {p x : Wy} {b : Nat} {l r l' : Tn} (h : Wf F (.node b x l r)) (hu : Und (nb F) x p 0) (hl : Wth F p l l') (b' : Nat) : Wth F p (.node b x l r) (.node b' x l' r) := by
  refine ⟨⟨h.1, hl.2.2 x 0 h.1.b.1 hu h.2.1, h.2.2.1, hl.1, h.2.2.2.2⟩, fun y => ?_, fun x i hx hu hz => ?_⟩
  · rw [ws_node, ws_node, hl.2.1]
    constructor
    · rintro (h | (h | h) | h)
      · exact .inr (.inl h)
      · exact .inl h
      · exact .inr (.inr (.inl h))
      · exact .inr (.inr (.inr h))
    · rintro (h | h | h | h)
      · exact .inr (.inl (.inl h))
      · exact .inl h
      · exact .inr (.inl (.inr h))
      · exact .inr (.inr h)
  · rw [nds_node] at hz ⊢
    exact ⟨hz.1, hl.2.2 x i hx hu hz.2.1, hz.2.2⟩
theorem wth_right {F : Int} {p x : Wy} {b : Nat} {l r r' : Tn} (h : Wf F (.node b x l r)) (hu : Und (nb F) x p 1) (hl : Wth F p r r') (b' : Nat) : Wth F p (.node b x l r) (.node b' x l r') := by
  refine ⟨⟨h.1, h.2.1, hl.2.2 x 1 h.1.b.1 hu h.2.2.1, h.2.2.2.1, hl.1⟩, fun y => ?_, fun x i hx hu hz => ?_⟩
  · rw [ws_node, ws_node, hl.2.1]
    constructor
    · rintro (h | h | h | h)
      · exact .inr (.inl h)
      · exact .inr (.inr (.inl h))
      · exact .inl h
      · exact .inr (.inr (.inr h))
    · rintro (h | h | h | h)
      · exact .inr (.inr (.inl h))
      · exact .inl h
      · exact .inr (.inl h)
      · exact .inr (.inr (.inr h))
  · rw [nds_node] at hz ⊢
    exact ⟨hz.1, hz.2.1, hl.2.2 x i hx hu hz.2.2⟩
/-- All of a tree stands below what its top stands below. -/
theorem und_all {F : Int} {c x : Wy} {b : Nat} {l r : Tn} {i : Int} (h : Wf F (.node b x l r)) (hc : 0 ≤ c.B) (hu : Und (nb F) c x i) : ∀ z ∈ (Tn.node b x l r).nds, Und (nb F) c z.2 i := by
  have nk := wf_nk h
  rw [nds_node] at nk ⊢
  refine ⟨hu, fun z hz => ?_, fun z hz => ?_⟩
  · have h1 := h.2.1 z hz
    have := h1.1
    exact und_on hu hc (by omega) (und_top h1 (.inl rfl) h.1.b.1 (nk.2.1 z hz).b.2).symm
  · have h1 := h.2.2.1 z hz
    have := h1.1
    exact und_on hu hc (by omega) (und_top h1 (.inr rfl) h.1.b.1 (nk.2.2 z hz).b.2).symm
theorem wth_top {F : Int} {p x : Wy} {b : Nat} {l r : Tn} {i : Int} (h : Wf F (.node b x l r)) (hp : p.Ok) (hF : p.F = F) (hu : Und (nb F) p x i) (b' : Nat) :
    (i = 0 → Wth F p (.node b x l r) (.node b' p (.node b x l r) .nil)) ∧ (i = 1 → Wth F p (.node b x l r) (.node b' p .nil (.node b x l r))) := by
  have hk := Nk.of hp hF
  have ha := und_all h hk.b.1 hu
  have hK := hp.2.2.1
  constructor
  · rintro rfl
    refine ⟨⟨hk, ha, fun z hz => (by cases hz), h, trivial⟩, fun y => ?_, fun x i hx hu hz => ?_⟩
    · rw [ws_node y b', ws_nil]
      constructor
      · rintro (h | h | h)
        · exact .inl h.1
        · exact .inr h
        · exact h.elim
      · rintro (h | h)
        · exact .inl ⟨h, by omega⟩
        · exact .inr (.inl h)
    · rw [nds_node]
      exact ⟨hu, hz, fun z hz => (by cases hz)⟩
  · rintro rfl
    refine ⟨⟨hk, fun z hz => (by cases hz), ha, trivial, h⟩, fun y => ?_, fun x i hx hu hz => ?_⟩
    · rw [ws_node y b', ws_nil]
      constructor
      · rintro (h | h | h)
        · exact .inl h.1
        · exact h.elim
        · exact .inr h
      · rintro (h | h)
        · exact .inl ⟨h, by omega⟩
        · exact .inr (.inr h)
    · rw [nds_node]
      exact ⟨hu, fun z hz => (by cases hz), hz⟩
theorem wth_fork {F : Int} {p x c : Wy} {b : Nat} {l r : Tn} {i j : Int} (h : Wf F (.node b x l r)) (hp : p.Ok) (hF : p.F = F) (hc : Nk F c) (hk0 : c.K = 0) (hu : Und (nb F) c x i) (hv : Und (nb F) c p j)
    (hi : i = 0 ∨ i = 1) (hij : i ≠ j) (b' b'' : Nat) :
    (i = 0 → j = 1 → Wth F p (.node b x l r) (.node b' c (.node b x l r) (.node b'' p .nil .nil))) ∧ (i = 1 → j = 0 → Wth F p (.node b x l r) (.node b' c (.node b'' p .nil .nil) (.node b x l r))) := by
  have hk := Nk.of hp hF
  have ha := und_all h hc.b.1 hu
  have hK := hp.2.2.1
  have hwp : Wf F (.node b'' p .nil .nil) := ⟨hk, fun z hz => (by cases hz), fun z hz => (by cases hz), trivial, trivial⟩
  have hone : ∀ {P : Nat × Wy → Prop}, P (b'', p) → ∀ z ∈ (Tn.node b'' p .nil .nil).nds, P z := fun hP z hz => by
    rw [Tn.nds, List.mem_cons] at hz
    rcases hz with rfl | hz
    · exact hP
    · cases hz
  -- what stands above both stands above the fork
  have habove : ∀ (y : Wy) (k : Int), 0 ≤ y.B → Und (nb F) y p k → Und (nb F) y x k → Und (nb F) y c k := fun y k hy h1 h2 => by
    have hxb := h.1.b
    have hpb := hk.b
    have hcb := hc.b
    have hcx := hu.1
    have hcp := hv.1
    by_cases hlt : y.B < c.B
    · refine ⟨hlt, ?_⟩
      rw [← h2.2]
      exact (dv_mono (by omega) (und_top hu hi hc.b.1 hxb.2)).symm
    · exfalso
      -- up to one bit behind y, hence behind c, they are alike
      have h3 : x.A / 2 ^ (nb F - (y.B.toNat + 1)) = p.A / 2 ^ (nb F - (y.B.toNat + 1)) := h2.2.trans h1.2.symm
      have hyx := h2.1
      have h4 : x.A / 2 ^ (nb F - (c.B.toNat + 1)) = p.A / 2 ^ (nb F - (c.B.toNat + 1)) := dv_mono (by omega) h3
      rw [hu.2, hv.2] at h4
      exact hij (by omega)
  constructor
  · rintro rfl rfl
    refine ⟨⟨hc, ha, hone hv, h, hwp⟩, fun y => ?_, fun y k hy hu' hz => ?_⟩
    · rw [ws_node y b', ws_node y b'', ws_nil]
      constructor
      · rintro (h | h | h | h | h)
        · exact absurd hk0 h.2
        · exact .inr h
        · exact .inl h.1
        · exact h.elim
        · exact h.elim
      · rintro (h | h)
        · exact .inr (.inr (.inl ⟨h, by omega⟩))
        · exact .inr (.inl h)
    · rw [nds_node]
      exact ⟨habove y k hy hu' (nds_node.1 hz).1, hz, hone hu'⟩
  · rintro rfl rfl
    refine ⟨⟨hc, hone hv, ha, hwp, h⟩, fun y => ?_, fun y k hy hu' hz => ?_⟩
    · rw [ws_node y b', ws_node y b'', ws_nil]
      constructor
      · rintro (h | (h | h | h) | h)
        · exact absurd hk0 h.2
        · exact .inl h.1
        · exact h.elim
        · exact h.elim
        · exact .inr h
      · rintro (h | h)
        · exact .inr (.inl (.inl ⟨h, by omega⟩))
        · exact .inr (.inr h)
    · rw [nds_node]
      exact ⟨habove y k hy hu' (nds_node.1 hz).1, hone hu', hz⟩
/-! A tree without a prefix. -/
def Wout (F : Int) (p : Wy) (t t' : Tn) : Prop := Wf F t' ∧ (∀ y, y ∈ t'.ws ↔ y ∈ t.ws ∧ y.sm p = false) ∧ ∀ (x : Wy) (i : Int), (∀ z ∈ t.nds, Und (nb F) x z.2 i) → ∀ z ∈ t'.nds, Und (nb F) x z.2 i
/-- What stands in a node's place. -/
def ndd (t l r : Tn) (K : Int) : Tn := if K ≠ 0 then t else match l with
    | .nil => r
    | .node .. => match r with
      | .nil => l
      | .node .. => t
theorem ndd_w {F : Int} {p : Wy} {t : Tn} {b : Nat} {x : Wy} {l r : Tn} (h : Wout F p t (.node b x l r)) : Wout F p t (ndd (.node b x l r) l r x.K) := by
  unfold ndd
  split
  · exact h
  · rename_i hk
    have hk : x.K = 0 := Decidable.byContradiction hk
    have hw : ∀ y, y ∈ (Tn.node b x l r).ws ↔ y ∈ l.ws ∨ y ∈ r.ws := fun y => by
      rw [ws_node]
      constructor
      · rintro (h | h)
        · exact absurd hk h.2
        · exact h
      · exact .inr
    split
    · refine ⟨h.1.2.2.2.2, fun y => ?_, fun x i hz => (nds_node.1 (h.2.2 x i hz)).2.2⟩
      rw [← h.2.1, hw, ws_nil]
      constructor
      · exact .inr
      · rintro (h | h)
        · exact h.elim
        · exact h
    · split
      · refine ⟨h.1.2.2.2.1, fun y => ?_, fun x i hz => (nds_node.1 (h.2.2 x i hz)).2.1⟩
        rw [← h.2.1, hw, ws_nil]
        constructor
        · exact .inl
        · rintro (h | h)
          · exact h
          · exact h.elim
      · exact h
theorem sm_trans {x y p : Wy} (h : x.sm p = true) (k : y.sm p = true) : x.sm y = true := by
  rw [sm_iff] at *
  omega
theorem wout_same {F : Int} {p x : Wy} {b : Nat} {l r : Tn} (h : Wf F (.node b x l r)) (e : x.sm p = true) (b' : Nat) : Wout F p (.node b x l r) (.node b' { x with K := 0 } l r) := by
  have hx := h.1
  have hk : Nk F { x with K := 0 } := ⟨⟨hx.1.1, hx.1.2.1, hx.1.2.2.1, hx.1.2.2.2.1, (by show InI 0; unfold InI; omega)⟩, hx.2.1, ⟨Int.le_refl _, by show (0 : Int) ≤ _; omega⟩, hx.2.2.2⟩
  have hB := (sm_A e).2
  refine ⟨⟨hk, h.2.1, h.2.2.1, h.2.2.2⟩, fun y => ?_, fun y i hz => ?_⟩
  · rw [ws_node, ws_node]
    constructor
    · rintro (h' | h' | h')
      · exact absurd rfl h'.2
      · refine ⟨.inr (.inl h'), Bool.eq_false_iff.2 (fun e' => ?_)⟩
        obtain ⟨⟨c, hc⟩, _⟩ := (ws_mem y l).1 h'
        have h1 := (h.2.1 _ hc).1
        have h2 := (sm_A e').2
        simp only at h1
        omega
      · refine ⟨.inr (.inr h'), Bool.eq_false_iff.2 (fun e' => ?_)⟩
        obtain ⟨⟨c, hc⟩, _⟩ := (ws_mem y r).1 h'
        have h1 := (h.2.2.1 _ hc).1
        have h2 := (sm_A e').2
        simp only at h1
        omega
    · rintro ⟨h' | h', e'⟩
      · rw [h'.1, e] at e'
        cases e'
      · exact .inr h'
  · rw [nds_node] at hz ⊢
    exact hz
theorem wout_left {F : Int} {p x : Wy} {b : Nat} {l r l' : Tn} (h : Wf F (.node b x l r)) (e : x.sm p = false) (hu : Und (nb F) x p 0) (hl : Wout F p l l') (b' : Nat) : Wout F p (.node b x l r) (.node b' x l' r) := by
  refine ⟨⟨h.1, hl.2.2 x 0 h.2.1, h.2.2.1, hl.1, h.2.2.2.2⟩, fun y => ?_, fun y i hz => ?_⟩
  · rw [ws_node, ws_node, hl.2.1]
    have hr : y ∈ r.ws → y.sm p = false := fun hy => Bool.eq_false_iff.2 (fun e' => by
      obtain ⟨⟨c, hc⟩, _⟩ := (ws_mem y r).1 hy
      have h1 := (h.2.2.1 _ hc).2
      have h2 := hu.2
      simp only at h1
      rw [(sm_A e').1, h2] at h1
      omega)
    constructor
    · rintro (h' | h' | h')
      · exact ⟨.inl h', by rw [h'.1]; exact e⟩
      · exact ⟨.inr (.inl h'.1), h'.2⟩
      · exact ⟨.inr (.inr h'), hr h'⟩
    · rintro ⟨h' | h' | h', e'⟩
      · exact .inl h'
      · exact .inr (.inl ⟨h', e'⟩)
      · exact .inr (.inr h')
  · rw [nds_node] at hz ⊢
    exact ⟨hz.1, hl.2.2 y i hz.2.1, hz.2.2⟩
theorem wout_right {F : Int} {p x : Wy} {b : Nat} {l r r' : Tn} (h : Wf F (.node b x l r)) (e : x.sm p = false) (hu : Und (nb F) x p 1) (hl : Wout F p r r') (b' : Nat) : Wout F p (.node b x l r) (.node b' x l r') := by
  refine ⟨⟨h.1, h.2.1, hl.2.2 x 1 h.2.2.1, h.2.2.2.1, hl.1⟩, fun y => ?_, fun y i hz => ?_⟩
  · rw [ws_node, ws_node, hl.2.1]
    have hr : y ∈ l.ws → y.sm p = false := fun hy => Bool.eq_false_iff.2 (fun e' => by
      obtain ⟨⟨c, hc⟩, _⟩ := (ws_mem y l).1 hy
      have h1 := (h.2.1 _ hc).2
      have h2 := hu.2
      simp only at h1
      rw [(sm_A e').1, h2] at h1
      omega)
    constructor
    · rintro (h' | h' | h')
      · exact ⟨.inl h', by rw [h'.1]; exact e⟩
      · exact ⟨.inr (.inl h'), hr h'⟩
      · exact ⟨.inr (.inr h'.1), h'.2⟩
    · rintro ⟨h' | h' | h', e'⟩
      · exact .inl h'
      · exact .inr (.inl h')
      · exact .inr (.inr ⟨h', e'⟩)
  · rw [nds_node] at hz ⊢
    exact ⟨hz.1, hz.2.1, hl.2.2 y i hz.2.2⟩
/-- A prefix that the tree has, elsewhere than at its top: on which side. -/
theorem has_side {F : Int} {p x : Wy} {b : Nat} {l r : Tn} (h : Wf F (.node b x l r)) (e : x.sm p = false) (hy : ∃ y ∈ (Tn.node b x l r).ws, y.sm p = true) :
    x.B < p.B ∧ ((Und (nb F) x p 0 ∧ ∃ y ∈ l.ws, y.sm p = true) ∨ (Und (nb F) x p 1 ∧ ∃ y ∈ r.ws, y.sm p = true)) := by
  obtain ⟨y, hy, hs⟩ := hy
  rw [ws_node] at hy
  have ht : ∀ i, Und (nb F) x y i → Und (nb F) x p i := fun i hu => by
    have := sm_A hs
    unfold Und at hu ⊢
    rw [← this.1, ← this.2]
    exact hu
  rcases hy with hy | hy | hy
  · rw [hy.1, e] at hs
    cases hs
  · obtain ⟨⟨c, hc⟩, _⟩ := (ws_mem y l).1 hy
    have := ht 0 (h.2.1 _ hc)
    exact ⟨this.1, .inl ⟨this, y, hy, hs⟩⟩
  · obtain ⟨⟨c, hc⟩, _⟩ := (ws_mem y r).1 hy
    have := ht 1 (h.2.2.1 _ hc)
    exact ⟨this.1, .inr ⟨this, y, hy, hs⟩⟩
/-! What two prefixes have in common. -/
def bl (n : Nat) : Nat := if n = 0 then 0 else n.log2 + 1
theorem bl_le (n k : Nat) : bl n ≤ k ↔ n < 2 ^ k := by
  unfold bl
  split
  · rename_i h
    subst h
    have : 0 < 2 ^ k := Nat.pow_pos (by omega)
    omega
  · rename_i h
    rw [← Nat.log2_lt h]
    omega
theorem xor_zero_iff (a b : Nat) : a ^^^ b = 0 ↔ a = b := by
  constructor
  · intro h
    have e : a = (a ^^^ b) ^^^ b := by rw [Nat.xor_assoc, Nat.xor_self, Nat.xor_zero]
    rw [h, Nat.zero_xor] at e
    exact e
  · rintro rfl
    exact Nat.xor_self a
theorem xor_lt (a b k : Nat) : a ^^^ b < 2 ^ k ↔ a / 2 ^ k = b / 2 ^ k := by
  have hp : 0 < 2 ^ k := Nat.pow_pos (by omega)
  rw [← Nat.div_eq_zero_iff_lt hp, ← Nat.shiftRight_eq_div_pow, Nat.shiftRight_xor_distrib, xor_zero_iff, Nat.shiftRight_eq_div_pow, Nat.shiftRight_eq_div_pow]
/-- How many bits two numbers have from the first one on in which they differ. -/
def ul (A A' : Int) : Nat := bl (A.toNat ^^^ A'.toNat)
theorem ul_iff {A A' : Int} (h : 0 ≤ A) (h' : 0 ≤ A') (k : Nat) : ul A A' ≤ k ↔ A / 2 ^ k = A' / 2 ^ k := by
  obtain ⟨a, rfl⟩ := Int.eq_ofNat_of_zero_le h
  obtain ⟨a', rfl⟩ := Int.eq_ofNat_of_zero_le h'
  have e : ∀ a : Nat, (a : Int) / 2 ^ k = ((a / 2 ^ k : Nat) : Int) := fun a => by simp
  unfold ul
  rw [bl_le, Int.toNat_natCast, Int.toNat_natCast, xor_lt, e, e, Int.ofNat_inj]
theorem ul_uni {A A' : Int} (h : 0 ≤ A) (h' : 0 ≤ A') (r : Nat) (hr : ∀ k, r ≤ k ↔ A / 2 ^ k = A' / 2 ^ k) : ul A A' = r := by
  have h1 := (ul_iff h h' r).2 ((hr r).1 (Nat.le_refl _))
  have h2 := (hr (ul A A')).2 ((ul_iff h h' _).1 (Nat.le_refl _))
  omega
/-- The two halves of an address. -/
theorem ad_dv {H L : Int} (hL : InU L) (k : Nat) : ad H L / 2 ^ (64 + k) = H / 2 ^ k := by
  rw [dv_add]
  congr 1
  unfold ad InU at *
  have : (2 : Int) ^ 64 = 18446744073709551616 := by decide
  rw [this]
  omega
theorem ul_ad {H L H' L' : Int} (hH : InU H) (hL : InU L) (hH' : InU H') (hL' : InU L') : ul (ad H L) (ad H' L') = if H = H' then ul L L' else 64 + ul H H' := by
  have a1 : 0 ≤ ad H L := by unfold ad InU at *; omega
  have a2 : 0 ≤ ad H' L' := by unfold ad InU at *; omega
  refine ul_uni a1 a2 _ (fun k => ?_)
  split
  · rename_i e
    subst e
    rw [ul_iff hL.1 hL'.1]
    by_cases hk : k ≤ 64
    · obtain ⟨m, hm⟩ : ∃ m, 64 = k + m := ⟨64 - k, by omega⟩
      have e0 : (18446744073709551616 : Int) = 2 ^ k * 2 ^ m := by rw [← Int.pow_add, ← hm]; decide
      have e1 : ∀ L, ad H L / 2 ^ k = L / 2 ^ k + H * 2 ^ m := fun L => by
        unfold ad
        rw [e0, Int.mul_left_comm, Int.add_comm, Int.add_mul_ediv_left _ _ (by have := pow_pos2 k; omega)]
      rw [e1, e1]
      omega
    · obtain ⟨m, rfl⟩ : ∃ m, k = 64 + m := ⟨k - 64, by omega⟩
      rw [ad_dv hL, ad_dv hL']
      have : ∀ x : Int, InU x → x / 2 ^ (64 + m) = 0 := fun x hx => by
        have h64 : (2 : Int) ^ 64 = 18446744073709551616 := by decide
        have hx2 := hx.2
        rw [dv_add, show x / 2 ^ 64 = 0 from Int.ediv_eq_zero_of_lt hx.1 (by omega), Int.zero_ediv]
      rw [this L hL, this L' hL']
      simp
  · rename_i e
    by_cases hk : 64 ≤ k
    · obtain ⟨m, rfl⟩ : ∃ m, k = 64 + m := ⟨k - 64, by omega⟩
      rw [ad_dv hL, ad_dv hL', ← ul_iff hH.1 hH'.1]
      omega
    · refine ⟨fun h => by omega, fun h => ?_⟩
      have h := dv_mono (b := 64 + 0) (by omega) h
      rw [ad_dv hL, ad_dv hL', Int.pow_zero, Int.ediv_one, Int.ediv_one] at h
      exact absurd h e
/-- The fork of two prefixes. -/
def cB (n : Nat) (x p : Wy) : Int := min x.B (min p.B ((n : Int) - ul x.A p.A))
def cmn (n : Nat) (x p : Wy) : Wy := ⟨x.F, cl x.H (n - (cB n x p).toNat - 64), cl x.L (n - (cB n x p).toNat), cB n x p, 0⟩
theorem ul_le {F : Int} {x p : Wy} (hx : Nk F x) (hp : Nk F p) : ul x.A p.A ≤ nb F := by
  rw [ul_iff hx.a.1 hp.a.1]
  rw [Int.ediv_eq_zero_of_lt hx.a.1 hx.a.2, Int.ediv_eq_zero_of_lt hp.a.1 hp.a.2]
theorem cB_in {F : Int} {x p : Wy} (hx : Nk F x) (hp : Nk F p) : 0 ≤ cB (nb F) x p ∧ cB (nb F) x p ≤ x.B ∧ cB (nb F) x p ≤ p.B ∧ cB (nb F) x p ≤ (nb F : Int) - ul x.A p.A := by
  have h1 := hx.b
  have h2 := hp.b
  have h3 := ul_le hx hp
  unfold cB
  omega
theorem cmn_A {F : Int} {x p : Wy} (hx : Nk F x) (hp : Nk F p) : (cmn (nb F) x p).A = cl x.A (nb F - (cB (nb F) x p).toNat) := by
  have := nb_le F
  exact cl_ad hx.1.2.1 hx.1.2.2.1 _ (by omega)
theorem cl_dv (A : Int) (k : Nat) : cl A k / 2 ^ k = A / 2 ^ k := by
  have := pow_pos2 k
  unfold cl
  rw [Int.mul_ediv_cancel _ (by omega)]
theorem cl_md (A : Int) (k : Nat) : cl A k % 2 ^ k = 0 := by
  unfold cl
  exact Int.mul_emod_left _ _
theorem cmn_nk {F : Int} {x p : Wy} (hx : Nk F x) (hp : Nk F p) : Nk F (cmn (nb F) x p) := by
  have hb := cB_in hx hp
  have hxb := hx.b
  have hn := nb_le F
  have hA := cmn_A hx hp
  refine ⟨⟨hx.1.1, cl_in hx.1.2.1 _, cl_in hx.1.2.2.1 _, ?_, (by show InI 0; unfold InI; omega)⟩, ?_, ⟨Int.le_refl _, by show (0 : Int) ≤ _; omega⟩, hx.2.2.2⟩
  · unfold InI cmn
    simp only
    omega
  · unfold vp
    rw [Bool.and_eq_true]
    constructor
    · have := hx.va
      unfold va at this ⊢
      have := of_decide_eq_true this
      have hF := hx.2.2.2
      have h1 := cl_le hx.1.2.2.1.1 (nb F - (cB (nb F) x p).toNat)
      refine decide_eq_true ?_
      show x.F = 6 ∨ (x.F = 4 ∧ cl x.H _ = 0 ∧ cl x.L _ < _)
      rw [hF]
      rcases this with h | ⟨h, h2, h3⟩
      · exact .inl h
      · refine .inr ⟨h, ?_, by omega⟩
        rw [h2]
        unfold cl
        rw [Int.zero_ediv, Int.zero_mul]
    · refine decide_eq_true ?_
      show 0 ≤ cB (nb F) x p ∧ cB (nb F) x p ≤ nb x.F ∧ (cmn (nb F) x p).A % 2 ^ (nb x.F - (cB (nb F) x p).toNat) = 0
      rw [hx.2.2.2, hA, cl_md]
      omega
theorem cmn_top {F : Int} {x p : Wy} (hx : Nk F x) (hp : Nk F p) : x.A / 2 ^ (nb F - (cB (nb F) x p).toNat) = (cmn (nb F) x p).A / 2 ^ (nb F - (cB (nb F) x p).toNat) ∧ p.A / 2 ^ (nb F - (cB (nb F) x p).toNat) = (cmn (nb F) x p).A / 2 ^ (nb F - (cB (nb F) x p).toNat) := by
  have hb := cB_in hx hp
  rw [cmn_A hx hp, cl_dv]
  refine ⟨rfl, ?_⟩
  exact ((ul_iff hx.a.1 hp.a.1 _).1 (by omega)).symm
/-- It is one of the two, or a fork. -/
theorem cmn_cases {F : Int} {x p : Wy} (hx : Nk F x) (hp : Nk F p) :
    ((cmn (nb F) x p).sm x = true ∧ x.sm p = true) ∨
    ((cmn (nb F) x p).sm x = true ∧ x.sm p = false ∧ Und (nb F) x p (bi (nb F) p.A x.B.toNat)) ∨
    ((cmn (nb F) x p).sm x = false ∧ (cmn (nb F) x p).sm p = true ∧ Und (nb F) p x (bi (nb F) x.A p.B.toNat)) ∨
    ((cmn (nb F) x p).sm x = false ∧ (cmn (nb F) x p).sm p = false ∧ Und (nb F) (cmn (nb F) x p) x (bi (nb F) x.A (cB (nb F) x p).toNat) ∧ Und (nb F) (cmn (nb F) x p) p (bi (nb F) p.A (cB (nb F) x p).toNat) ∧ bi (nb F) x.A (cB (nb F) x p).toNat ≠ bi (nb F) p.A (cB (nb F) x p).toNat) := by
  have hb := cB_in hx hp
  have hc := cmn_nk hx hp
  have ht := cmn_top hx hp
  have hxb := hx.b
  have hpb := hp.b
  have hBc : (cmn (nb F) x p).B = cB (nb F) x p := rfl
  have hsx : (cmn (nb F) x p).sm x = decide (cB (nb F) x p = x.B) := by
    by_cases h : cB (nb F) x p = x.B
    · rw [decide_eq_true h]
      exact sm_of hc hx h ht.1.symm
    · rw [decide_eq_false h]
      refine Bool.eq_false_iff.2 (fun e => h ?_)
      exact (sm_A e).2
  have hsp : (cmn (nb F) x p).sm p = decide (cB (nb F) x p = p.B) := by
    by_cases h : cB (nb F) x p = p.B
    · rw [decide_eq_true h]
      exact sm_of hc hp h ht.2.symm
    · rw [decide_eq_false h]
      refine Bool.eq_false_iff.2 (fun e => h ?_)
      exact (sm_A e).2
  by_cases h1 : cB (nb F) x p = x.B
  · rw [hsx, decide_eq_true h1]
    have e : x.A / 2 ^ (nb F - x.B.toNat) = p.A / 2 ^ (nb F - x.B.toNat) := by
      rw [h1] at ht
      exact ht.1.trans ht.2.symm
    by_cases h2 : x.B = p.B
    · exact .inl ⟨rfl, sm_of hx hp h2 e⟩
    · refine .inr (.inl ⟨rfl, Bool.eq_false_iff.2 (fun e' => h2 (sm_A e').2), und_mk (by omega) hxb.1 hpb.2 e.symm⟩)
  · rw [hsx, hsp, decide_eq_false h1]
    by_cases h2 : cB (nb F) x p = p.B
    · rw [decide_eq_true h2]
      have e : x.A / 2 ^ (nb F - p.B.toNat) = p.A / 2 ^ (nb F - p.B.toNat) := by
        rw [h2] at ht
        exact ht.1.trans ht.2.symm
      exact .inr (.inr (.inl ⟨rfl, rfl, und_mk (by omega) hpb.1 hxb.2 e⟩))
    · rw [decide_eq_false h2]
      refine .inr (.inr (.inr ⟨rfl, rfl, und_mk (by omega) hc.b.1 hxb.2 ht.1, und_mk (by omega) hc.b.1 hpb.2 ht.2, fun e => ?_⟩))
      have hlt : cB (nb F) x p = (nb F : Int) - ul x.A p.A := by
        unfold cB at h1 h2 ⊢
        omega
      have key : x.A / 2 ^ (nb F - ((cB (nb F) x p).toNat + 1)) = p.A / 2 ^ (nb F - ((cB (nb F) x p).toNat + 1)) := by
        have u1 := und_mk (n := nb F) (x := cmn (nb F) x p) (y := x) (by omega) hc.b.1 hxb.2 ht.1
        have u2 := und_mk (n := nb F) (x := cmn (nb F) x p) (y := p) (by omega) hc.b.1 hpb.2 ht.2
        have v1 := u1.2
        have v2 := u2.2
        rw [hBc] at v1 v2
        rw [v1, v2, e]
      have := (ul_iff hx.a.1 hp.a.1 _).2 key
      omega
end Go.Proofs.Ytcaecfdeieoenaa
