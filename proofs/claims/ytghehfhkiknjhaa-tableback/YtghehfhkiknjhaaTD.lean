import Derived.Test.YtghehfhkiknjhaaTC
namespace Go.Proofs.Ytghehfhkiknjhaa
set_option maxRecDepth 100000
open Go.RowKit Go.Maps
set_option linter.unusedVariables false

/-! Lists of sets, of rows. -/
abbrev LSx := List Sx
instance : Inhabited Sx := ⟨⟨[], [], false⟩⟩
/-- A set in memory: three cells. -/
def SetAt (w : World) (V : Nat → Prop) (b o : Nat) (s : Sx) : Prop := ∃ ka kc va vc, w.cell? ⟨b, o, none⟩ = some (.slice ka s.k.length kc) ∧ w.cell? ⟨b, o + 1, none⟩ = some (.slice va s.v.length vc) ∧ w.cell? ⟨b, o + 2, none⟩ = some (.bool s.g) ∧ Vs w V ka s.k.length kc s.k ∧ Vs w V va s.v.length vc s.v
structure Sl (w : World) (V : Nat → Prop) (a : Option Addr) (n : Nat) (l : List Sx) : Prop where
  len : l.length = n
  cells : n = 0 ∨ ∃ b off, a = some ⟨b, off, none⟩ ∧ V b ∧ ∀ i, i < n → SetAt w V b (off + i * 3) (l.getD i default)
def RowAt (w : World) (V : Nat → Prop) (b o : Nat) (p : List Int × List Int) : Prop := ∃ ka kc va vc, w.cell? ⟨b, o, none⟩ = some (.slice ka p.1.length kc) ∧ w.cell? ⟨b, o + 1, none⟩ = some (.slice va p.2.length vc) ∧ Vs w V ka p.1.length kc p.1 ∧ Vs w V va p.2.length vc p.2
structure Rl (w : World) (V : Nat → Prop) (a : Option Addr) (n : Nat) (l : Tab) : Prop where
  len : l.length = n
  cells : n = 0 ∨ ∃ b off, a = some ⟨b, off, none⟩ ∧ V b ∧ ∀ i, i < n → RowAt w V b (off + i * 2) (l.getD i ([], []))
theorem cell_not_map {w : World} {b o : Nat} {v : Value} (h : w.cell? ⟨b, o, none⟩ = some v) (es : Array MapEntry) (cl : Nat) : w.heap[b]? ≠ some (.map es cl) := by
  intro e
  simp [World.cell?, e] at h
theorem SetAt.step {w w' : World} {V : Nat → Prop} {b o : Nat} {s : Sx} (h : SetAt w V b o s) (hb : V b) (hk : ∀ x, x < w.heap.size → V x → (∀ es cl, w.heap[x]? ≠ some (.map es cl)) → w'.heap[x]? = w.heap[x]?) : SetAt w' V b o s := by
  obtain ⟨ka, kc, va, vc, h1, h2, h3, h4, h5⟩ := h
  have e := hk b (World.block_lt_of_cell? w _ h1) hb (cell_not_map h1)
  have k : ∀ o, w'.cell? ⟨b, o, none⟩ = w.cell? ⟨b, o, none⟩ := fun o => World.cell?_of_block (w := w) (a := ⟨b, o, none⟩) e
  exact ⟨ka, kc, va, vc, by rw [k]; exact h1, by rw [k]; exact h2, by rw [k]; exact h3, h4.step hk, h5.step hk⟩
theorem RowAt.step {w w' : World} {V : Nat → Prop} {b o : Nat} {s : List Int × List Int} (h : RowAt w V b o s) (hb : V b) (hk : ∀ x, x < w.heap.size → V x → (∀ es cl, w.heap[x]? ≠ some (.map es cl)) → w'.heap[x]? = w.heap[x]?) : RowAt w' V b o s := by
  obtain ⟨ka, kc, va, vc, h1, h2, h4, h5⟩ := h
  have e := hk b (World.block_lt_of_cell? w _ h1) hb (cell_not_map h1)
  have k : ∀ o, w'.cell? ⟨b, o, none⟩ = w.cell? ⟨b, o, none⟩ := fun o => World.cell?_of_block (w := w) (a := ⟨b, o, none⟩) e
  exact ⟨ka, kc, va, vc, by rw [k]; exact h1, by rw [k]; exact h2, h4.step hk, h5.step hk⟩
theorem Sl.step {w w' : World} {V : Nat → Prop} {a : Option Addr} {n : Nat} {l : LSx} (h : Sl w V a n l) (hk : ∀ x, x < w.heap.size → V x → (∀ es cl, w.heap[x]? ≠ some (.map es cl)) → w'.heap[x]? = w.heap[x]?) : Sl w' V a n l := by
  refine ⟨h.len, ?_⟩
  rcases h.cells with h0 | ⟨b, off, e, hb, hc⟩
  · exact .inl h0
  · exact .inr ⟨b, off, e, hb, fun i hi => (hc i hi).step hb hk⟩
theorem Sl.below {w w' : World} {V : Nat → Prop} {a : Option Addr} {n : Nat} {l : LSx} (h : Sl w V a n l) (hg : Below w.heap.size w w') : Sl w' V a n l := h.step fun x hx _ _ => hg.block x hx
/-- It stands while a map is written. -/
theorem Sl.map {w w' : World} {V : Nat → Prop} {a : Option Addr} {n b : Nat} {l : LSx} (h : Sl w V a n l) (hg : w.grownBy w' (some b)) (hm : ∃ es cl, w.heap[b]? = some (.map es cl)) : Sl w' V a n l := h.step fun x hx _ hx' => hg.block x hx (by
    obtain ⟨es, cl, e⟩ := hm
    intro f
    obtain rfl := Option.some.inj f
    exact hx' es cl e)
theorem Rl.step {w w' : World} {V : Nat → Prop} {a : Option Addr} {n : Nat} {l : Tab} (h : Rl w V a n l) (hk : ∀ x, x < w.heap.size → V x → (∀ es cl, w.heap[x]? ≠ some (.map es cl)) → w'.heap[x]? = w.heap[x]?) : Rl w' V a n l := by
  refine ⟨h.len, ?_⟩
  rcases h.cells with h0 | ⟨b, off, e, hb, hc⟩
  · exact .inl h0
  · exact .inr ⟨b, off, e, hb, fun i hi => (hc i hi).step hb hk⟩
theorem Rl.below {w w' : World} {V : Nat → Prop} {a : Option Addr} {n : Nat} {l : Tab} (h : Rl w V a n l) (hg : Below w.heap.size w w') : Rl w' V a n l := h.step fun x hx _ _ => hg.block x hx
/-- It stands while a map is written. -/
theorem Rl.map {w w' : World} {V : Nat → Prop} {a : Option Addr} {n b : Nat} {l : Tab} (h : Rl w V a n l) (hg : w.grownBy w' (some b)) (hm : ∃ es cl, w.heap[b]? = some (.map es cl)) : Rl w' V a n l := h.step fun x hx _ hx' => hg.block x hx (by
    obtain ⟨es, cl, e⟩ := hm
    intro f
    obtain rfl := Option.some.inj f
    exact hx' es cl e)
theorem SetAt.wide {w : World} {V V' : Nat → Prop} {b o : Nat} {s : Sx} (h : SetAt w V b o s) (hV : ∀ x, x < w.heap.size → V x → V' x) : SetAt w V' b o s := by
  obtain ⟨ka, kc, va, vc, h1, h2, h3, h4, h5⟩ := h
  exact ⟨ka, kc, va, vc, h1, h2, h3, h4.wide hV, h5.wide hV⟩
theorem RowAt.wide {w : World} {V V' : Nat → Prop} {b o : Nat} {s : List Int × List Int} (h : RowAt w V b o s) (hV : ∀ x, x < w.heap.size → V x → V' x) : RowAt w V' b o s := by
  obtain ⟨ka, kc, va, vc, h1, h2, h4, h5⟩ := h
  exact ⟨ka, kc, va, vc, h1, h2, h4.wide hV, h5.wide hV⟩
theorem SetAt.lt {w : World} {V : Nat → Prop} {b o : Nat} {s : Sx} (h : SetAt w V b o s) : b < w.heap.size := by
  obtain ⟨ka, kc, va, vc, h1, _⟩ := h
  exact World.block_lt_of_cell? w _ h1
theorem RowAt.lt {w : World} {V : Nat → Prop} {b o : Nat} {s : List Int × List Int} (h : RowAt w V b o s) : b < w.heap.size := by
  obtain ⟨ka, kc, va, vc, h1, _⟩ := h
  exact World.block_lt_of_cell? w _ h1
theorem Sl.wide {w : World} {V V' : Nat → Prop} {a : Option Addr} {n : Nat} {l : LSx} (h : Sl w V a n l) (hV : ∀ x, x < w.heap.size → V x → V' x) : Sl w V' a n l := by
  refine ⟨h.len, ?_⟩
  rcases h.cells with h0 | ⟨b, off, e, hb, hc⟩
  · exact .inl h0
  · by_cases h0 : n = 0
    · exact .inl h0
    · exact .inr ⟨b, off, e, hV b (hc 0 (by omega)).lt hb, fun i hi => (hc i hi).wide hV⟩
theorem Rl.wide {w : World} {V V' : Nat → Prop} {a : Option Addr} {n : Nat} {l : Tab} (h : Rl w V a n l) (hV : ∀ x, x < w.heap.size → V x → V' x) : Rl w V' a n l := by
  refine ⟨h.len, ?_⟩
  rcases h.cells with h0 | ⟨b, off, e, hb, hc⟩
  · exact .inl h0
  · by_cases h0 : n = 0
    · exact .inl h0
    · exact .inr ⟨b, off, e, hV b (hc 0 (by omega)).lt hb, fun i hi => (hc i hi).wide hV⟩
theorem SetAt.okS {w : World} {V : Nat → Prop} {b o : Nat} {s : Sx} (h : SetAt w V b o s) : OkS s := by
  obtain ⟨ka, kc, va, vc, h1, h2, h3, h4, h5⟩ := h
  exact ⟨h4.bs.2.1, h5.bs.2.1⟩
theorem Sl.okS {w : World} {V : Nat → Prop} {a : Option Addr} {n : Nat} {l : List Sx} (h : Sl w V a n l) : ∀ s ∈ l, OkS s := by
  intro s hs
  obtain ⟨i, hi, rfl⟩ := List.mem_iff_getElem.1 hs
  have hl := h.len
  rcases h.cells with h0 | ⟨b, off, e, hb, hc⟩
  · omega
  · have := (hc i (by omega)).okS
    simpa [List.getD, hi] using this
/-! mayBe. -/
set_option maxHeartbeats 400000 in
theorem mayBe_ (ka va : Option Addr) (kc vc : Nat) (s : Sx) (w : World) (hk : s.k.length ≤ maxLen) (hv : s.v.length ≤ maxLen) :
    Calls Try.prog 43 #[.agg #[.slice ka s.k.length kc, .slice va s.v.length vc, .bool s.g]] w fun e w' => e = .returned (.bool (mayS s)) ∧ Below w.heap.size w w' := by
  obtain ⟨k, v, g⟩ := s
  unfold mayS
  simp only at hk hv ⊢
  obtain ⟨n, hn⟩ : ∃ n, k.length = n := ⟨_, rfl⟩
  obtain ⟨m, hm⟩ : ∃ m, v.length = m := ⟨_, rfl⟩
  rw [hn, hm] at *
  unfold maxLen at hk hv
  clear hn hm
  have B := fun o => (Below.refl w.heap.size w).alloc (Nat.le_refl _) o
  by_cases h1 : n < 1
  · obtain rfl : n = 0 := by omega
    rw [show (decide (1 ≤ 0)) = false from rfl]
    simp only [Bool.false_and]
    go_enter Try.func43, Try.ntmps43
    go_wp2_with fail
    go_ret
    exact ⟨rfl, B _⟩
  have e1 : ¬ (n : Int) < 1 := by omega
  rw [show (decide (1 ≤ n)) = true from decide_eq_true (by omega)]
  by_cases h2 : 40 < n
  · have e2 : (n : Int) > 40 := by omega
    rw [show (decide (n ≤ 40)) = false from decide_eq_false (by omega)]
    go_enter Try.func43, Try.ntmps43
    go_wp2_with fail
    go_ret
    exact ⟨rfl, B _⟩
  have e2 : ¬ (n : Int) > 40 := by omega
  rw [show (decide (n ≤ 40)) = true from decide_eq_true (by omega)]
  cases g
  · have hp : (if false = true then decide (m = 0) else decide (m ≤ 480)) = decide ((m : Int) ≤ 480) := by
      rw [if_neg (by decide)]
      exact decide_eq_decide.2 (by omega)
    simp only [hp, Bool.true_and]
    clear hp
    go_enter Try.func43, Try.ntmps43
    go_wp2_with fail
    go_ret
    exact ⟨rfl, B _⟩
  · have hp : ((m : Int) == 0) = decide (m = 0) := by
      by_cases h : m = 0
      · subst h; rfl
      · rw [decide_eq_false h]
        exact beq_eq_false_iff_ne.2 (by omega)
    simp only [if_true, Bool.true_and]
    rw [← hp]
    clear hp
    go_enter Try.func43, Try.ntmps43
    go_wp2_with fail
    go_ret
    exact ⟨rfl, B _⟩
end Go.Proofs.Ytghehfhkiknjhaa
