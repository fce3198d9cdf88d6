import Derived.Test.YtnmklleoilicdaaTB
namespace Go.Proofs.Ytnmklleoilicdaa
set_option maxRecDepth 100000
open Go.RowKit Go.Maps
set_option linter.unusedVariables false

/-- delete(m, k). -/
theorem wp_drop {w : World} {ops : Array Oper} {rest : List Oper} {o : Oper} {a : Act} {Q : Exit → Act → World → Prop} (hg : o.guard = none) (m x : Operand) (hop : o.op = Op.call { callee := Callee.builtin Builtin.delete, args := #[m, x], argTypes := #[74, 9] })
    (b : Nat) (V : Nat → Prop) (M : Tab) (hm : a.eval m = .map (some b)) (hM : Mp w b V M) (hT : Tok M) (k : List Int) (hk : Okb k) (hkl : k.length ≤ maxLen) (hx : a.eval x = .string (strOfNums k))
    (hK : ∀ w', Mp w' b V (del k M) → w.grownBy w' (some b) → wpList Try.prog ops Q rest (a.put o.dst (.tuple #[])) w') :
    wpList Try.prog ops Q (o :: rest) a w := by
  obtain ⟨D, h1, h2⟩ := hM
  refine wpList_delete_own w hg m x 74 9 hop 27 law9 Try.underlying74 RV b _ D hm h1 _ (litK k) hx (key_str hkl) ?_
  intro w' ho ht
  exact hK w' (Mp.drop h1 h2 hT.srt hk (fun q hq => (hT.key q hq).1) ho ht.grown) ht.grown
set_option maxHeartbeats 400000 in
theorem drop_ (b : Nat) (V : Nat → Prop) (M : Tab) (a : Option Addr) (n c : Nat) (k : List Int) (w : World) (hM : Mp w b V M) (hT : Tok M) (hk : Bs w a n k) (hn : n ≤ maxLen) :
    Calls Try.prog 55 #[.map (some b), .slice a n c] w fun e w' => e = .returned (.bool (look M k).isSome) ∧ Mp w' b V (del k M) ∧ w.grownBy w' (some b) := by
  have hs := run_str (c := c) hk
  have HKO := hid hk.2.1
  have HKL : Hid (k.length ≤ maxLen) := by rw [hk.1]; exact hn
  have HT := hid hT
  have HM := hid hM
  obtain ⟨t, ht⟩ : ∃ t, Hid ((look M k).isSome = t) := ⟨_, rfl⟩
  rw [ht.out]
  clear hk hn hT hM
  go_enter Try.func55, Try.ntmps55
  go_wp2_with (first | (at_lookup; refine wp_look rfl _ _ rfl b V M rfl HM.out k HKO.out HKL.out rfl ?_; intro p m d hvs; rw [ht.out]; clear hvs) | (at_delete; refine wp_drop rfl _ _ rfl b V M rfl HM.out HT.out k HKO.out HKL.out rfl ?_; intro w1 hm1 hg1; have H1 := hid hm1; have H2 := hid hg1; clear hm1 hg1) | fail)
  go_ret
  exact ⟨rfl, H1.out, H2.out⟩
/-- Is the key there with just this value? -/
def hasT (M : Tab) (k v : List Int) : Bool := decide (look M k = some v)
set_option maxHeartbeats 400000 in
theorem has_ (b : Nat) (V : Nat → Prop) (M : Tab) (p : Option Addr) (m d : Nat) (k v : List Int) (w : World) (hM : Mp w b V M) (hk : Okb k) (hkl : k.length ≤ maxLen) (hv : Bs w p m v) :
    Calls Try.prog 58 #[.map (some b), .string (strOfNums k), .slice p m d] w fun e w' => e = .returned (.bool (hasT M k v)) ∧ Drawn w w' := by
  have HKO := hid hk
  have HKL := hid hkl
  have HM := hid hM
  have HV := hid hv
  obtain ⟨s, HS⟩ : ∃ s, Hid (strOfNums k = s) := ⟨_, rfl⟩
  rw [HS.out]
  clear hM hk hkl hv
  cases hl : look M k with
  | none =>
    have he : hasT M k v = false := by unfold hasT; rw [hl]; rfl
    rw [he]
    have HL := hid hl
    clear hl he
    go_enter Try.func58, Try.ntmps58
    go_wp2_with (first | (at_lookup; refine wp_look rfl _ _ rfl b V M rfl HM.out k HKO.out HKL.out (by rw [HS.out]; rfl) ?_; intro q1 m1 d1 hvs; rw [HL.out]; clear hvs) | fail)
    go_ret
    exact ⟨rfl, rfl, rfl, rfl, rfl⟩
  | some u =>
    have he : hasT M k v = sameB u v := by unfold hasT sameB; rw [hl]; simp
    rw [he]
    have HL := hid hl
    clear hl he
    go_enter Try.func58, Try.ntmps58
    go_wp2_with (first | (at_lookup; refine wp_look rfl _ _ rfl b V M rfl HM.out k HKO.out HKL.out (by rw [HS.out]; rfl) ?_; intro q1 m1 d1 hvs; rw [HL.out] at hvs ⊢; have HVS : Hid (Bs w q1 m1 u) := hvs.bs; clear hvs) | fail)
    refine (beq_ _ _ _ _ _ _ _ _ _ HVS.out HV.out).mono ?_
    rintro e w1 ⟨rfl, hd⟩
    have HDR := hid hd
    clear hd
    go_wp2_with fail
    go_ret
    exact ⟨rfl, HDR.out⟩

/-! Tables. -/
/-- A table's own block. -/
def Tbl (w : World) (t b : Nat) : Prop := w.heap[t]? = some (.cells #[.map (some b)] 76 (0, 0))
theorem Tbl.cell {w : World} {t b : Nat} (h : Tbl w t b) : w.cell? ⟨t, 0, none⟩ = some (.map (some b)) := by rw [cell_of_row w t 0 _ 76 (0, 0) h]; rfl
theorem Tbl.lt {w : World} {t b : Nat} (h : Tbl w t b) : t < w.heap.size := (Array.getElem?_eq_some_iff.1 h).1
theorem Tbl.same {w w' : World} {t b : Nat} (h : Tbl w t b) (e : w'.heap[t]? = w.heap[t]?) : Tbl w' t b := e.trans h
/-- A table, whole. -/
structure Tw (w : World) (t b : Nat) (V : Nat → Prop) (M : Tab) : Prop where
  tbl : Tbl w t b
  mp : Mp w b V M
  tok : Tok M
theorem Tw.below {w w' : World} {t b : Nat} {V : Nat → Prop} {M : Tab} (h : Tw w t b V M) (hg : Below w.heap.size w w') : Tw w' t b V M := ⟨h.tbl.same (hg.block t h.tbl.lt), h.mp.below hg, h.tok⟩
theorem Tw.wide {w : World} {t b : Nat} {V V' : Nat → Prop} {M : Tab} (h : Tw w t b V M) (hV : ∀ x, x < w.heap.size → V x → V' x) : Tw w t b V' M := ⟨h.tbl, h.mp.wide hV, h.tok⟩
theorem Tbl.not_map {w : World} {t b : Nat} (h : Tbl w t b) (es : Array MapEntry) (cl : Nat) : w.heap[t]? ≠ some (.map es cl) := by
  intro e
  rw [h] at e
  cases e
theorem Tw.step {w w' : World} {t b : Nat} {V : Nat → Prop} {M : Tab} (h : Tw w t b V M) (ht : w'.heap[t]? = w.heap[t]?) (hb : w'.heap[b]? = w.heap[b]?) (hk : ∀ x, x < w.heap.size → V x → (∀ es cl, w.heap[x]? ≠ some (.map es cl)) → w'.heap[x]? = w.heap[x]?) : Tw w' t b V M :=
  ⟨h.tbl.same ht, h.mp.step hb hk, h.tok⟩
theorem Tw.other {w w' : World} {t b b' : Nat} {V : Nat → Prop} {M : Tab} (h : Tw w t b V M) (hg : w.grownBy w' (some b')) (hm : ∃ es cl, w.heap[b']? = some (.map es cl)) (hne : b ≠ b') : Tw w' t b V M :=
  ⟨h.tbl.same (hg.block t h.tbl.lt (by
    obtain ⟨es, cl, e⟩ := hm
    intro f
    obtain rfl := Option.some.inj f
    exact h.tbl.not_map es cl e)), h.mp.other hg hm hne, h.tok⟩
theorem mp_made (w : World) (V : Nat → Prop) : Mp (w.alloc (.map #[] 0)) w.heap.size V [] :=
  ⟨.map [], World.ownsMap_made w Try.prog 9 RV, rfl, fun k _ => rfl, fun k v e => by cases e⟩
set_option maxHeartbeats 400000 in
theorem new_ (w : World) : Calls Try.prog 30 #[] w fun e w' => ∃ t b, e = .returned (.pointer (some ⟨t, 0, none⟩)) ∧ Tw w' t b (fun _ => False) [] ∧ w.heap.size ≤ b ∧ w.heap.size ≤ t ∧ Below w.heap.size w w' := by
  have hmm := @run_makeMap Try.prog
  go_enter Try.func30, Try.ntmps30
  go_wp2_with fail
  go_ret
  have hm := (mp_made w (fun _ => False)).below ((Below.refl (w.alloc (.map #[] 0)).heap.size (w.alloc (.map #[] 0))).alloc (Nat.le_refl _) (.cells #[.map (some w.heap.size)] 76))
  have ht := heap_alloc_new (w.alloc (.map #[] 0)) (.cells #[.map (some w.heap.size)] 76)
  rw [World.size_alloc] at ht
  exact ⟨w.heap.size + 1, w.heap.size, rfl, ⟨ht, hm, tok_nil⟩, Nat.le_refl _, by omega, ((Below.refl w.heap.size w).alloc (Nat.le_refl _) _).alloc (by simp) _⟩
set_option maxHeartbeats 400000 in
theorem len_ (t b : Nat) (V : Nat → Prop) (M : Tab) (w : World) (h : Tw w t b V M) : Calls Try.prog 24 #[.pointer (some ⟨t, 0, none⟩)] w fun e w' => e = .returned (.int .i64 M.length) ∧ w' = w := by
  have c0 := h.tbl.cell
  obtain ⟨D, h1, h2⟩ := h.mp
  have e := h2.size
  have HD := hid h1
  rw [← e]
  clear h h1 h2 e
  go_enter Try.func24, Try.ntmps24
  go_wp2_with (first | (at_len; refine wpList_len_own _ rfl _ 74 rfl 9 27 Try.underlying74 RV b _ D rfl HD.out ?_) | fail)
  go_ret
  exact ⟨rfl, rfl⟩
end Go.Proofs.Ytnmklleoilicdaa
namespace Go.Proofs.Ytnmklleoilicdaa
set_option maxRecDepth 100000
open Go.RowKit Go.Maps
set_option linter.unusedVariables false

/-! Lists of sets, of rows. -/
abbrev LSx := List Sx
instance : Inhabited Sx := ⟨⟨[], [], false⟩⟩
/-- A set in memory: three cells. -/
def SetAt (w : World) (V : Nat → Prop) (b o : Nat) (s : Sx) : Prop := ∃ ka kc va vc, w.cell? ⟨b, o, none⟩ = some (.slice ka s.k.length kc) ∧ w.cell? ⟨b, o + 1, none⟩ = some (.slice va s.v.length vc) ∧ w.cell? ⟨b, o + 2, none⟩ = some (.bool s.g) ∧ Vs w V ka s.k.length kc s.k ∧ Vs w V va s.v.length vc s.v
structure Sl (w : World) (V : Nat → Prop) (a : Option Addr) (n : Nat) (l : List Sx) : Prop where
  len : l.length = n
  cells : n = 0 ∨ ∃ b off, a = some ⟨b, off, none⟩ ∧ V b ∧ ∀ i, i < n → SetAt w V b (off + i * 3) (l.getD i default)
def RowAt (w : World) (V : Nat → Prop) (b o : Nat) (p : List Int × List Int) : Prop := ∃ ka kc va vc, w.cell? ⟨b, o, none⟩ = some (.slice ka p.1.length kc) ∧ w.cell? ⟨b, o + 1, none⟩ = some (.slice va p.2.length vc) ∧ Vs w V ka p.1.length kc p.1 ∧ Vs w V va p.2.length vc p.2
structure Rl (w : World) (V : Nat → Prop) (a : Option Addr) (n : Nat) (l : Tab) : Prop where
  len : l.length = n
  cells : n = 0 ∨ ∃ b off, a = some ⟨b, off, none⟩ ∧ V b ∧ ∀ i, i < n → RowAt w V b (off + i * 2) (l.getD i ([], []))
theorem cell_not_map {w : World} {b o : Nat} {v : Value} (h : w.cell? ⟨b, o, none⟩ = some v) (es : Array MapEntry) (cl : Nat) : w.heap[b]? ≠ some (.map es cl) := by
  intro e
  simp [World.cell?, e] at h
theorem SetAt.step {w w' : World} {V : Nat → Prop} {b o : Nat} {s : Sx} (h : SetAt w V b o s) (hb : V b) (hk : ∀ x, x < w.heap.size → V x → (∀ es cl, w.heap[x]? ≠ some (.map es cl)) → w'.heap[x]? = w.heap[x]?) : SetAt w' V b o s := by
  obtain ⟨ka, kc, va, vc, h1, h2, h3, h4, h5⟩ := h
  have e := hk b (World.block_lt_of_cell? w _ h1) hb (cell_not_map h1)
  have k : ∀ o, w'.cell? ⟨b, o, none⟩ = w.cell? ⟨b, o, none⟩ := fun o => World.cell?_of_block (w := w) (a := ⟨b, o, none⟩) e
  exact ⟨ka, kc, va, vc, by rw [k]; exact h1, by rw [k]; exact h2, by rw [k]; exact h3, h4.step hk, h5.step hk⟩
theorem RowAt.step {w w' : World} {V : Nat → Prop} {b o : Nat} {s : List Int × List Int} (h : RowAt w V b o s) (hb : V b) (hk : ∀ x, x < w.heap.size → V x → (∀ es cl, w.heap[x]? ≠ some (.map es cl)) → w'.heap[x]? = w.heap[x]?) : RowAt w' V b o s := by
  obtain ⟨ka, kc, va, vc, h1, h2, h4, h5⟩ := h
  have e := hk b (World.block_lt_of_cell? w _ h1) hb (cell_not_map h1)
  have k : ∀ o, w'.cell? ⟨b, o, none⟩ = w.cell? ⟨b, o, none⟩ := fun o => World.cell?_of_block (w := w) (a := ⟨b, o, none⟩) e
  exact ⟨ka, kc, va, vc, by rw [k]; exact h1, by rw [k]; exact h2, h4.step hk, h5.step hk⟩
theorem Sl.step {w w' : World} {V : Nat → Prop} {a : Option Addr} {n : Nat} {l : LSx} (h : Sl w V a n l) (hk : ∀ x, x < w.heap.size → V x → (∀ es cl, w.heap[x]? ≠ some (.map es cl)) → w'.heap[x]? = w.heap[x]?) : Sl w' V a n l := by
  refine ⟨h.len, ?_⟩
  rcases h.cells with h0 | ⟨b, off, e, hb, hc⟩
  · exact .inl h0
  · exact .inr ⟨b, off, e, hb, fun i hi => (hc i hi).step hb hk⟩
theorem Sl.below {w w' : World} {V : Nat → Prop} {a : Option Addr} {n : Nat} {l : LSx} (h : Sl w V a n l) (hg : Below w.heap.size w w') : Sl w' V a n l := h.step fun x hx _ _ => hg.block x hx
/-- It stands while a map is written. -/
theorem Sl.map {w w' : World} {V : Nat → Prop} {a : Option Addr} {n b : Nat} {l : LSx} (h : Sl w V a n l) (hg : w.grownBy w' (some b)) (hm : ∃ es cl, w.heap[b]? = some (.map es cl)) : Sl w' V a n l := h.step fun x hx _ hx' => hg.block x hx (by
    obtain ⟨es, cl, e⟩ := hm
    intro f
    obtain rfl := Option.some.inj f
    exact hx' es cl e)
theorem Rl.step {w w' : World} {V : Nat → Prop} {a : Option Addr} {n : Nat} {l : Tab} (h : Rl w V a n l) (hk : ∀ x, x < w.heap.size → V x → (∀ es cl, w.heap[x]? ≠ some (.map es cl)) → w'.heap[x]? = w.heap[x]?) : Rl w' V a n l := by
  refine ⟨h.len, ?_⟩
  rcases h.cells with h0 | ⟨b, off, e, hb, hc⟩
  · exact .inl h0
  · exact .inr ⟨b, off, e, hb, fun i hi => (hc i hi).step hb hk⟩
theorem Rl.below {w w' : World} {V : Nat → Prop} {a : Option Addr} {n : Nat} {l : Tab} (h : Rl w V a n l) (hg : Below w.heap.size w w') : Rl w' V a n l := h.step fun x hx _ _ => hg.block x hx
/-- It stands while a map is written. -/
theorem Rl.map {w w' : World} {V : Nat → Prop} {a : Option Addr} {n b : Nat} {l : Tab} (h : Rl w V a n l) (hg : w.grownBy w' (some b)) (hm : ∃ es cl, w.heap[b]? = some (.map es cl)) : Rl w' V a n l := h.step fun x hx _ hx' => hg.block x hx (by
    obtain ⟨es, cl, e⟩ := hm
    intro f
    obtain rfl := Option.some.inj f
    exact hx' es cl e)
theorem SetAt.wide {w : World} {V V' : Nat → Prop} {b o : Nat} {s : Sx} (h : SetAt w V b o s) (hV : ∀ x, x < w.heap.size → V x → V' x) : SetAt w V' b o s := by
  obtain ⟨ka, kc, va, vc, h1, h2, h3, h4, h5⟩ := h
  exact ⟨ka, kc, va, vc, h1, h2, h3, h4.wide hV, h5.wide hV⟩
theorem RowAt.wide {w : World} {V V' : Nat → Prop} {b o : Nat} {s : List Int × List Int} (h : RowAt w V b o s) (hV : ∀ x, x < w.heap.size → V x → V' x) : RowAt w V' b o s := by
  obtain ⟨ka, kc, va, vc, h1, h2, h4, h5⟩ := h
  exact ⟨ka, kc, va, vc, h1, h2, h4.wide hV, h5.wide hV⟩
theorem SetAt.lt {w : World} {V : Nat → Prop} {b o : Nat} {s : Sx} (h : SetAt w V b o s) : b < w.heap.size := by
  obtain ⟨ka, kc, va, vc, h1, _⟩ := h
  exact World.block_lt_of_cell? w _ h1
theorem RowAt.lt {w : World} {V : Nat → Prop} {b o : Nat} {s : List Int × List Int} (h : RowAt w V b o s) : b < w.heap.size := by
  obtain ⟨ka, kc, va, vc, h1, _⟩ := h
  exact World.block_lt_of_cell? w _ h1
theorem Sl.wide {w : World} {V V' : Nat → Prop} {a : Option Addr} {n : Nat} {l : LSx} (h : Sl w V a n l) (hV : ∀ x, x < w.heap.size → V x → V' x) : Sl w V' a n l := by
  refine ⟨h.len, ?_⟩
  rcases h.cells with h0 | ⟨b, off, e, hb, hc⟩
  · exact .inl h0
  · by_cases h0 : n = 0
    · exact .inl h0
    · exact .inr ⟨b, off, e, hV b (hc 0 (by omega)).lt hb, fun i hi => (hc i hi).wide hV⟩
theorem Rl.wide {w : World} {V V' : Nat → Prop} {a : Option Addr} {n : Nat} {l : Tab} (h : Rl w V a n l) (hV : ∀ x, x < w.heap.size → V x → V' x) : Rl w V' a n l := by
  refine ⟨h.len, ?_⟩
  rcases h.cells with h0 | ⟨b, off, e, hb, hc⟩
  · exact .inl h0
  · by_cases h0 : n = 0
    · exact .inl h0
    · exact .inr ⟨b, off, e, hV b (hc 0 (by omega)).lt hb, fun i hi => (hc i hi).wide hV⟩
theorem SetAt.okS {w : World} {V : Nat → Prop} {b o : Nat} {s : Sx} (h : SetAt w V b o s) : OkS s := by
  obtain ⟨ka, kc, va, vc, h1, h2, h3, h4, h5⟩ := h
  exact ⟨h4.bs.2.1, h5.bs.2.1⟩
theorem Sl.okS {w : World} {V : Nat → Prop} {a : Option Addr} {n : Nat} {l : List Sx} (h : Sl w V a n l) : ∀ s ∈ l, OkS s := by
  intro s hs
  obtain ⟨i, hi, rfl⟩ := List.mem_iff_getElem.1 hs
  have hl := h.len
  rcases h.cells with h0 | ⟨b, off, e, hb, hc⟩
  · omega
  · have := (hc i (by omega)).okS
    simpa [List.getD, hi] using this
/-! mayBe. -/
set_option maxHeartbeats 400000 in
theorem mayBe_ (ka va : Option Addr) (kc vc : Nat) (s : Sx) (w : World) (hk : s.k.length ≤ maxLen) (hv : s.v.length ≤ maxLen) :
    Calls Try.prog 39 #[.agg #[.slice ka s.k.length kc, .slice va s.v.length vc, .bool s.g]] w fun e w' => e = .returned (.bool (mayS s)) ∧ Below w.heap.size w w' := by
  obtain ⟨k, v, g⟩ := s
  unfold mayS
  simp only at hk hv ⊢
  obtain ⟨n, hn⟩ : ∃ n, k.length = n := ⟨_, rfl⟩
  obtain ⟨m, hm⟩ : ∃ m, v.length = m := ⟨_, rfl⟩
  rw [hn, hm] at *
  unfold maxLen at hk hv
  clear hn hm
  have B := fun o => (Below.refl w.heap.size w).alloc (Nat.le_refl _) o
  by_cases h1 : n < 1
  · obtain rfl : n = 0 := by omega
    rw [show (decide (1 ≤ 0)) = false from rfl]
    simp only [Bool.false_and]
    go_enter Try.func39, Try.ntmps39
    go_wp2_with fail
    go_ret
    exact ⟨rfl, B _⟩
  have e1 : ¬ (n : Int) < 1 := by omega
  rw [show (decide (1 ≤ n)) = true from decide_eq_true (by omega)]
  by_cases h2 : 40 < n
  · have e2 : (n : Int) > 40 := by omega
    rw [show (decide (n ≤ 40)) = false from decide_eq_false (by omega)]
    go_enter Try.func39, Try.ntmps39
    go_wp2_with fail
    go_ret
    exact ⟨rfl, B _⟩
  have e2 : ¬ (n : Int) > 40 := by omega
  rw [show (decide (n ≤ 40)) = true from decide_eq_true (by omega)]
  cases g
  · have hp : (if false = true then decide (m = 0) else decide (m ≤ 480)) = decide ((m : Int) ≤ 480) := by
      rw [if_neg (by decide)]
      exact decide_eq_decide.2 (by omega)
    simp only [hp, Bool.true_and]
    clear hp
    go_enter Try.func39, Try.ntmps39
    go_wp2_with fail
    go_ret
    exact ⟨rfl, B _⟩
  · have hp : ((m : Int) == 0) = decide (m = 0) := by
      by_cases h : m = 0
      · subst h; rfl
      · rw [decide_eq_false h]
        exact beq_eq_false_iff_ne.2 (by omega)
    simp only [if_true, Bool.true_and]
    rw [← hp]
    clear hp
    go_enter Try.func39, Try.ntmps39
    go_wp2_with fail
    go_ret
    exact ⟨rfl, B _⟩
end Go.Proofs.Ytnmklleoilicdaa
namespace Go.Proofs.Ytnmklleoilicdaa
set_option maxRecDepth 100000
open Go.RowKit Go.Maps
set_option linter.unusedVariables false

theorem below_drew (w : World) : Below w.heap.size w w.drew := ⟨rfl, rfl, rfl, Nat.le_refl _, fun _ _ => rfl⟩
theorem all_take {l : List Sx} {k : Nat} (hk : k < l.length) (h : (l.take k).all mayS = true) (hm : mayS (l.getD k default) = true) : (l.take (k + 1)).all mayS = true := by
  rw [List.take_succ_eq_append_getElem hk, List.all_append, h]
  simp [List.getD, hk] at hm
  simp [hm]
theorem all_no {l : List Sx} {k : Nat} (hk : k < l.length) (hm : mayS (l.getD k default) = false) : allMay l = false := by
  unfold allMay
  rw [List.all_eq_false]
  refine ⟨l[k], List.getElem_mem hk, ?_⟩
  simp [List.getD, hk] at hm
  simp [hm]
theorem all_all {l : List Sx} {k : Nat} (hk : ¬ k < l.length) (h : (l.take k).all mayS = true) : allMay l = true := by
  rw [List.take_of_length_le (by omega)] at h
  exact h
theorem do_take {l : List Sx} {k : Nat} (M : Tab) (hk : k < l.length) : doAll M (l.take (k + 1)) = doS (doAll M (l.take k)) (l.getD k default) := by
  unfold doAll
  rw [List.take_succ_eq_append_getElem hk, List.foldl_append]
  simp [List.getD, hk]
theorem getD_mem {l : List Sx} {k : Nat} (hk : k < l.length) : l.getD k default ∈ l := by
  simp [List.getD, hk]
theorem len_doAll (M : Tab) (h : Srt M) (l : List Sx) : (doAll M l).length ≤ M.length + l.length := by
  induction l generalizing M with
  | nil => simp [doAll]
  | cons s l ih =>
    have := ih (doS M s) (srt_doS h s)
    have h2 := len_doS h s
    show (doAll (doS M s) l).length ≤ _
    simp only [List.length_cons]
    omega
theorem Sl.at {w : World} {V : Nat → Prop} {a : Option Addr} {n k : Nat} {l : List Sx} (h : Sl w V a n l) (hk : k < n) : ∃ b off ka kc va vc kn vn, a = some ⟨b, off, none⟩ ∧ kn = (l.getD k default).k.length ∧ vn = (l.getD k default).v.length ∧ w.cell? ⟨b, off + k * 3, none⟩ = some (.slice ka kn kc) ∧ w.cell? ⟨b, off + k * 3 + 1, none⟩ = some (.slice va vn vc) ∧ w.cell? ⟨b, off + k * 3 + 2, none⟩ = some (.bool (l.getD k default).g) ∧ Vs w V ka kn kc (l.getD k default).k ∧ Vs w V va vn vc (l.getD k default).v := by
  rcases h.cells with h0 | ⟨b, off, e, hb, hc⟩
  · omega
  · obtain ⟨ka, kc, va, vc, h1, h2, h3, h4, h5⟩ := hc k hk
    exact ⟨b, off, ka, kc, va, vc, _, _, e, rfl, rfl, h1, h2, h3, h4, h5⟩
set_option maxHeartbeats 1000000 in
theorem apply_ (t b : Nat) (V U : Nat → Prop) (M : Tab) (a : Option Addr) (n c : Nat) (l : List Sx) (w : World) (h : Tw w t b V M) (hl : Sl w U a n l) (hn : n ≤ 100000000) (hML : M.length ≤ 100000000) :
    Calls Try.prog 26 #[.pointer (some ⟨t, 0, none⟩), .slice a n c] w fun e w' => (allMay l = true ∧ e = .returned (.int .i64 0) ∧ Tw w' t b (fun x => V x ∨ w.heap.size ≤ x) (doAll M l) ∧ w.grownBy w' (some b)) ∨ (allMay l = false ∧ e = .returned (.int .i64 114) ∧ Below w.heap.size w w') := by
  have HT := hid h
  have HL := hid hl
  have HLN : Hid (l.length = n) := hl.len
  clear h hl
  go_enter Try.func26, Try.ntmps26
  go_wp2_with fail
  go_loopw [11] (fun i wr => ∃ k : Nat, k ≤ n ∧ i = .int .i64 k ∧ Hid ((l.take k).all mayS = true) ∧ Below w.heap.size w wr) (fun i _ => n - (intOf i).toNat)
  case atStart => exact ⟨0, by omega, rfl, rfl, Below.refl _ _⟩
  case round =>
    obtain ⟨k, hk, rfl, HA, hB⟩ := hrel
    have HB := hid hB
    by_cases hlt : k < n
    · have hI : (k : Int) < n := by omega
      obtain ⟨bl, off, ka, kc, va, vc, kn, vn, rfl, hkn, hvn, c0, c1, c2, v1, v2⟩ := (HL.out.below hB).at hlt
      obtain ⟨s, HS⟩ : ∃ s, Hid (l.getD k default = s) := ⟨_, rfl⟩
      rw [HS.out] at hkn hvn c2 v1 v2
      have hm := fun wx => mayBe_ ka va kc vc s wx (by rw [← hkn]; exact Nat.le_trans v1.nc v1.cm) (by rw [← hvn]; exact Nat.le_trans v2.nc v2.cm)
      rw [← hkn, ← hvn] at hm
      obtain ⟨g, HG⟩ : ∃ g, Hid (s.g = g) := ⟨_, rfl⟩
      rw [HG.out] at c2 hm
      clear hkn hvn v1 v2 hlt hB
      go_wp2_with fail
      refine (hm _).mono ?_
      rintro e w1 ⟨rfl, g1⟩
      have HB1 : Hid (Below w.heap.size w w1) := (HB.out.alloc HB.out.size _).trans ⟨g1.os, g1.tape, g1.output, g1.size, fun x hx => g1.block x (by have := HB.out.size; simp; omega)⟩
      clear hm g1 c0 c1 c2
      cases hmay : mayS s with
      | true =>
        have HA1 : Hid ((l.take (k + 1)).all mayS = true) := all_take (by rw [HLN.out]; omega) HA.out (by rw [HS.out]; exact hmay)
        clear hmay
        go_wp2_with fail
        go_roundw
        case rel => exact ⟨k + 1, by omega, by go_num, HA1, HB1.out⟩
        case measure => simp [intOf]; omega
      | false =>
        have HA1 : Hid (allMay l = false) := all_no (k := k) (by rw [HLN.out]; omega) (by rw [HS.out]; exact hmay)
        clear hmay
        go_wp2_with fail
        go_ret
        exact .inr ⟨HA1.out, rfl, HB1.out⟩
    · have hI : ¬ (k : Int) < n := by omega
      have HA1 : Hid (allMay l = true) := all_all (k := k) (by rw [HLN.out]; omega) HA.out
      obtain ⟨w0, HW0⟩ : ∃ w0, Hid (w0 = wr) := ⟨_, rfl⟩
      clear hB HA hk hlt
      go_wp2_with fail
      clear hI
      go_loopw [21] (fun i wq => ∃ j : Nat, j ≤ n ∧ i = .int .i64 j ∧ Hid (Tw wq t b (fun x => V x ∨ w.heap.size ≤ x) (doAll M (l.take j))) ∧ Hid (w.grownBy wq (some b))) (fun i _ => n - (intOf i).toNat)
      case atStart => exact ⟨0, by omega, rfl, (HT.out.below HB.out).wide fun x _ h => .inl h, (grown_of_below HB.out).but _⟩
      case round =>
        obtain ⟨j, hj, rfl, HTq, HG⟩ := hrel
        by_cases hlt : j < n
        · have hI : (j : Int) < n := by omega
          obtain ⟨bl, off, ka, kc, va, vc, kn, vn, rfl, hkn, hvn, c0, c1, c2, v1, v2⟩ := (HL.out.map HG.out HT.out.mp.isMap).at hlt
          obtain ⟨s, HS⟩ : ∃ s, Hid (l.getD j default = s) := ⟨_, rfl⟩
          rw [HS.out] at hkn hvn c2 v1 v2
          have HO : Hid (OkS s ∧ mayS s = true) := ⟨⟨v1.bs.2.1, v2.bs.2.1⟩, by rw [← HS.out]; exact List.all_eq_true.1 HA1.out _ (getD_mem (by rw [HLN.out]; exact hlt))⟩
          have HD : Hid (doAll M (l.take (j + 1)) = doS (doAll M (l.take j)) s) := by rw [← HS.out]; exact do_take M (by rw [HLN.out]; exact hlt)
          have HN : Hid ((doAll M (l.take j)).length ≤ 1000000000) := by
            have := len_doAll M HT.out.tok.srt (l.take j)
            have h2 : (l.take j).length ≤ n := by rw [List.length_take, HLN.out]; omega
            show _ ≤ _
            omega
          obtain ⟨g, HGG⟩ : ∃ g, Hid (s.g = g) := ⟨_, rfl⟩
          rw [HGG.out] at c2
          have V1 := hid v1
          have V2 := hid v2
          have ct := HTq.out.tbl.cell
          have htl := HTq.out.tbl.lt
          have HNE : Hid (wr.heap.size ≠ t) := by show _ ≠ _; omega
          generalize doAll M (l.take j) = N at *
          clear v1 v2 hkn hvn hlt
          obtain ⟨o, HOB⟩ : ∃ o, Hid (Obj.cells #[.slice ka kn kc, .slice va vn vc, .bool g] 37 = o) := ⟨_, rfl⟩
          have BA : Below wr.heap.size wr (wr.alloc o).drew := ((Below.refl wr.heap.size wr).alloc (Nat.le_refl _) o).trans ⟨rfl, rfl, rfl, Nat.le_refl _, fun _ _ => rfl⟩
          have HMA := hid (HTq.out.mp.below BA)
          have HVA := hid (V1.out.bs.below BA)
          have HWA := hid (V2.out.bs.below BA)
          have HGA : Hid (wr.grownBy (wr.alloc o).drew none) := grown_of_below BA
          have HTA := hid (HTq.out.below BA)
          have HNW : Hid ((wr.alloc o).drew.heap[wr.heap.size]? = some o) := heap_alloc_new wr o
          have hnm := fun {w2 : World} (g2 : (wr.alloc o).drew.grownBy w2 (some b)) => (show w2.heap[wr.heap.size]? = some o from (g2.block wr.heap.size (by show _ < (wr.alloc o).heap.size; simp) (by have := HTq.out.mp.lt; intro f; have := Option.some.inj f; omega)).trans HNW.out)
          have hnt := fun {w2 : World} (g2 : (wr.alloc o).drew.grownBy w2 (some b)) => (show Tbl w2 t b from HTA.out.tbl.same (g2.block t HTA.out.tbl.lt (by intro f; have f := Option.some.inj f; obtain ⟨es, cl, e⟩ := HTA.out.mp.isMap; exact HTA.out.tbl.not_map es cl (by rw [f]; exact e))))
          rw [← HOB.out] at HMA HVA HWA HGA HTA HNW hnm hnt
          clear BA
          cases g with
          | true =>
            have kd := fun wx (h1 : Mp wx b (fun x => V x ∨ w.heap.size ≤ x) N) (h2 : Bs wx ka kn s.k) => drop_ b _ N ka kn kc s.k wx h1 HTq.out.tok h2 (Nat.le_trans V1.out.nc V1.out.cm)
            go_wp2_with fail
            go_region_held (fun wx => wx.cell? ⟨t, 0, none⟩ = some (.map (some b)) ∧ wx.cell? ⟨wr.heap.size, 0, none⟩ = some (.slice ka kn kc)) (go_keep) (first | (go_at_call 55; refine (kd _ (by exact HMA.out) (by exact HVA.out)).mono ?_; rintro e w2 ⟨rfl, m2, g2⟩; have HTB := hid (hnt g2); have y0 := HTB.out.cell; have y1 : w2.cell? ⟨wr.heap.size, 0, none⟩ = some (.slice ka kn kc) := (by rw [cell_of_row w2 wr.heap.size 0 _ 37 (0, 0) (hnm g2)]; rfl); have M2 := hid m2; have G2 := hid g2; clear m2 g2))
            clear kd
            go_wp2_with fail
            go_roundw
            case rel =>
              refine ⟨j + 1, by omega, by go_num, ?_, (HG.out.andThen (HGA.out.but (some b)) (fun j e => .inr e)).andThen G2.out (fun j e => .inr e)⟩
              have e : doS N s = del s.k N := by unfold doS; rw [HGG.out]; rfl
              rw [HD.out]
              exact ⟨HTB.out, by rw [e]; exact M2.out, HTq.out.tok.doS HO.out.2 HO.out.1⟩
            case measure => simp [intOf]; omega
          | false =>
            have kp := fun wx (h1 : Mp wx b (fun x => V x ∨ w.heap.size ≤ x) N) (h2 : Bs wx ka kn s.k) (h3 : Bs wx va vn s.v) => put_ b _ N ka va kn kc vn vc s.k s.v wx h1 HTq.out.tok h2 (Nat.le_trans V1.out.nc V1.out.cm) h3 V2.out.nil V2.out.nc (by have := mayS_val HO.out.2; have := V2.out.bs.1; omega) HN.out
            have HSZ : Hid (w.heap.size ≤ wr.heap.size) := HG.out.size
            go_wp2_with fail
            go_region_held (fun wx => wx.cell? ⟨t, 0, none⟩ = some (.map (some b)) ∧ wx.cell? ⟨wr.heap.size, 0, none⟩ = some (.slice ka kn kc) ∧ wx.cell? ⟨wr.heap.size, 1, none⟩ = some (.slice va vn vc)) (go_keep) (first | (go_at_call 48; refine (kp _ (by exact HMA.out) (by exact HVA.out) (by exact HWA.out)).mono ?_; rintro e w2 ⟨rfl, m2, g2⟩; have HTB := hid (hnt g2); have y0 := HTB.out.cell; have y1 : w2.cell? ⟨wr.heap.size, 0, none⟩ = some (.slice ka kn kc) := (by rw [cell_of_row w2 wr.heap.size 0 _ 37 (0, 0) (hnm g2)]; rfl); have y2 : w2.cell? ⟨wr.heap.size, 1, none⟩ = some (.slice va vn vc) := (by rw [cell_of_row w2 wr.heap.size 1 _ 37 (0, 0) (hnm g2)]; rfl); have M2 := hid m2; have G2 := hid g2; clear m2 g2))
            clear kp
            go_wp2_with fail
            go_roundw
            case rel =>
              refine ⟨j + 1, by omega, by go_num, ?_, (HG.out.andThen (HGA.out.but (some b)) (fun j e => .inr e)).andThen G2.out (fun j e => .inr e)⟩
              have e : doS N s = ins s.k s.v N := by unfold doS; rw [HGG.out]; rfl
              rw [HD.out]
              exact ⟨HTB.out, by rw [e]; exact M2.out.wide fun x _ h => h.elim id fun h => .inr (by have := HSZ.out; have : (wr.alloc (.cells #[.slice ka kn kc, .slice va vn vc, .bool false] 37)).heap.size ≤ x := h; simp at this; omega), HTq.out.tok.doS HO.out.2 HO.out.1⟩
            case measure => simp [intOf]; omega
        · have hI : ¬ (j : Int) < n := by omega
          obtain rfl : j = n := by omega
          have HTE : Hid (l.take j = l) := List.take_of_length_le (by rw [HLN.out]; exact Nat.le_refl _)
          rw [HTE.out] at HTq
          go_wp2_with fail
          go_ret
          exact .inl ⟨HA1.out, rfl, HTq.out, HG.out⟩
end Go.Proofs.Ytnmklleoilicdaa
