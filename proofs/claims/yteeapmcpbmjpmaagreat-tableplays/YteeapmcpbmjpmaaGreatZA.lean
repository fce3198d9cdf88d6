import Derived.Test.YteeapmcpbmjpmaaGreatTB
import Derived.Test.YteeapmcpbmjpmaaGreatTP
namespace Go.Proofs.YteeapmcpbmjpmaaGreat
set_option maxRecDepth 100000
open Go.RowKit Go.Maps
set_option linter.unusedVariables false

/-- delete(m, k). -/
theorem wp_drop {w : World} {ops : Array Oper} {rest : List Oper} {o : Oper} {a : Act} {Q : Exit → Act → World → Prop} (hg : o.guard = none) (m x : Operand) (hop : o.op = Op.call { callee := Callee.builtin Builtin.delete, args := #[m, x], argTypes := #[50, 9] })
    (b : Nat) (V : Nat → Prop) (M : Tab) (hm : a.eval m = .map (some b)) (hM : Mp w b V M) (hT : Tok M) (k : List Int) (hk : Okb k) (hkl : k.length ≤ maxLen) (hx : a.eval x = .string (strOfNums k))
    (hK : ∀ w', Mp w' b V (del k M) → w.grownBy w' (some b) → wpList Tryz.prog ops Q rest (a.put o.dst (.tuple #[])) w') :
    wpList Tryz.prog ops Q (o :: rest) a w := by
  obtain ⟨D, h1, h2⟩ := hM
  refine wpList_delete_own w hg m x 50 9 hop 35 law9 Tryz.underlying50 RV b _ D hm h1 _ (litK k) hx (key_str hkl) ?_
  intro w' ho ht
  exact hK w' (Mp.drop h1 h2 hT.srt hk (fun q hq => (hT.key q hq).1) ho ht.grown) ht.grown
set_option maxHeartbeats 400000 in
theorem drop_ (b : Nat) (V : Nat → Prop) (M : Tab) (a : Option Addr) (n c : Nat) (k : List Int) (w : World) (hM : Mp w b V M) (hT : Tok M) (hk : Bs w a n k) (hn : n ≤ maxLen) :
    Calls Tryz.prog 39 #[.map (some b), .slice a n c] w fun e w' => e = .returned (.bool (look M k).isSome) ∧ Mp w' b V (del k M) ∧ w.grownBy w' (some b) := by
  have hs := run_str (c := c) hk
  have HKO := hid hk.2.1
  have HKL : Hid (k.length ≤ maxLen) := by rw [hk.1]; exact hn
  have HT := hid hT
  have HM := hid hM
  obtain ⟨t, ht⟩ : ∃ t, Hid ((look M k).isSome = t) := ⟨_, rfl⟩
  rw [ht.out]
  clear hk hn hT hM
  go_enter Tryz.func39, Tryz.ntmps39
  go_wp2_with (first | (at_lookup; refine wp_look rfl _ _ rfl b V M rfl HM.out k HKO.out HKL.out rfl ?_; intro p m d hvs; rw [ht.out]; clear hvs) | (at_delete; refine wp_drop rfl _ _ rfl b V M rfl HM.out HT.out k HKO.out HKL.out rfl ?_; intro w1 hm1 hg1; have H1 := hid hm1; have H2 := hid hg1; clear hm1 hg1) | fail)
  go_ret
  exact ⟨rfl, H1.out, H2.out⟩
/-- Is the key there with just this value? -/
def hasT (M : Tab) (k v : List Int) : Bool := decide (look M k = some v)
set_option maxHeartbeats 400000 in
theorem has_ (b : Nat) (V : Nat → Prop) (M : Tab) (p : Option Addr) (m d : Nat) (k v : List Int) (w : World) (hM : Mp w b V M) (hk : Okb k) (hkl : k.length ≤ maxLen) (hv : Bs w p m v) :
    Calls Tryz.prog 47 #[.map (some b), .string (strOfNums k), .slice p m d] w fun e w' => e = .returned (.bool (hasT M k v)) ∧ Drawn w w' := by
  have HKO := hid hk
  have HKL := hid hkl
  have HM := hid hM
  have HV := hid hv
  obtain ⟨s, HS⟩ : ∃ s, Hid (strOfNums k = s) := ⟨_, rfl⟩
  rw [HS.out]
  clear hM hk hkl hv
  cases hl : look M k with
  | none =>
    have he : hasT M k v = false := by unfold hasT; rw [hl]; rfl
    rw [he]
    have HL := hid hl
    clear hl he
    go_enter Tryz.func47, Tryz.ntmps47
    go_wp2_with (first | (at_lookup; refine wp_look rfl _ _ rfl b V M rfl HM.out k HKO.out HKL.out (by rw [HS.out]; rfl) ?_; intro q1 m1 d1 hvs; rw [HL.out]; clear hvs) | fail)
    go_ret
    exact ⟨rfl, rfl, rfl, rfl, rfl⟩
  | some u =>
    have he : hasT M k v = sameB u v := by unfold hasT sameB; rw [hl]; simp
    rw [he]
    have HL := hid hl
    clear hl he
    go_enter Tryz.func47, Tryz.ntmps47
    go_wp2_with (first | (at_lookup; refine wp_look rfl _ _ rfl b V M rfl HM.out k HKO.out HKL.out (by rw [HS.out]; rfl) ?_; intro q1 m1 d1 hvs; rw [HL.out] at hvs ⊢; have HVS : Hid (Bs w q1 m1 u) := hvs.bs; clear hvs) | fail)
    refine (beq_ _ _ _ _ _ _ _ _ _ HVS.out HV.out).mono ?_
    rintro e w1 ⟨rfl, hd⟩
    have HDR := hid hd
    clear hd
    go_wp2_with fail
    go_ret
    exact ⟨rfl, HDR.out⟩

/-! Tables. -/
/-- A table's own block. -/
def Tbl (w : World) (t b : Nat) : Prop := w.heap[t]? = some (.cells #[.map (some b)] 52 (0, 0))
theorem Tbl.cell {w : World} {t b : Nat} (h : Tbl w t b) : w.cell? ⟨t, 0, none⟩ = some (.map (some b)) := by rw [cell_of_row w t 0 _ 52 (0, 0) h]; rfl
theorem Tbl.lt {w : World} {t b : Nat} (h : Tbl w t b) : t < w.heap.size := (Array.getElem?_eq_some_iff.1 h).1
theorem Tbl.same {w w' : World} {t b : Nat} (h : Tbl w t b) (e : w'.heap[t]? = w.heap[t]?) : Tbl w' t b := e.trans h
/-- A table, whole. -/
structure Tw (w : World) (t b : Nat) (V : Nat → Prop) (M : Tab) : Prop where
  tbl : Tbl w t b
  mp : Mp w b V M
  tok : Tok M
theorem Tw.below {w w' : World} {t b : Nat} {V : Nat → Prop} {M : Tab} (h : Tw w t b V M) (hg : Below w.heap.size w w') : Tw w' t b V M := ⟨h.tbl.same (hg.block t h.tbl.lt), h.mp.below hg, h.tok⟩
theorem Tw.wide {w : World} {t b : Nat} {V V' : Nat → Prop} {M : Tab} (h : Tw w t b V M) (hV : ∀ x, x < w.heap.size → V x → V' x) : Tw w t b V' M := ⟨h.tbl, h.mp.wide hV, h.tok⟩
theorem Tbl.not_map {w : World} {t b : Nat} (h : Tbl w t b) (es : Array MapEntry) (cl : Nat) : w.heap[t]? ≠ some (.map es cl) := by
  intro e
  rw [h] at e
  cases e
theorem Tw.step {w w' : World} {t b : Nat} {V : Nat → Prop} {M : Tab} (h : Tw w t b V M) (ht : w'.heap[t]? = w.heap[t]?) (hb : w'.heap[b]? = w.heap[b]?) (hk : ∀ x, x < w.heap.size → V x → (∀ es cl, w.heap[x]? ≠ some (.map es cl)) → w'.heap[x]? = w.heap[x]?) : Tw w' t b V M :=
  ⟨h.tbl.same ht, h.mp.step hb hk, h.tok⟩
theorem Tw.other {w w' : World} {t b b' : Nat} {V : Nat → Prop} {M : Tab} (h : Tw w t b V M) (hg : w.grownBy w' (some b')) (hm : ∃ es cl, w.heap[b']? = some (.map es cl)) (hne : b ≠ b') : Tw w' t b V M :=
  ⟨h.tbl.same (hg.block t h.tbl.lt (by
    obtain ⟨es, cl, e⟩ := hm
    intro f
    obtain rfl := Option.some.inj f
    exact h.tbl.not_map es cl e)), h.mp.other hg hm hne, h.tok⟩
theorem mp_made (w : World) (V : Nat → Prop) : Mp (w.alloc (.map #[] 0)) w.heap.size V [] :=
  ⟨.map [], World.ownsMap_made w Tryz.prog 9 RV, rfl, fun k _ => rfl, fun k v e => by cases e⟩
set_option maxHeartbeats 400000 in
theorem new_ (w : World) : Calls Tryz.prog 5 #[] w fun e w' => ∃ t b, e = .returned (.pointer (some ⟨t, 0, none⟩)) ∧ Tw w' t b (fun _ => False) [] ∧ w.heap.size ≤ b ∧ w.heap.size ≤ t ∧ Below w.heap.size w w' := by
  have hmm := @run_makeMap Tryz.prog
  go_enter Tryz.func5, Tryz.ntmps5
  go_wp2_with fail
  go_ret
  have hm := (mp_made w (fun _ => False)).below ((Below.refl (w.alloc (.map #[] 0)).heap.size (w.alloc (.map #[] 0))).alloc (Nat.le_refl _) (.cells #[.map (some w.heap.size)] 52))
  have ht := heap_alloc_new (w.alloc (.map #[] 0)) (.cells #[.map (some w.heap.size)] 52)
  rw [World.size_alloc] at ht
  exact ⟨w.heap.size + 1, w.heap.size, rfl, ⟨ht, hm, tok_nil⟩, Nat.le_refl _, by omega, ((Below.refl w.heap.size w).alloc (Nat.le_refl _) _).alloc (by simp) _⟩
set_option maxHeartbeats 400000 in
theorem len_ (t b : Nat) (V : Nat → Prop) (M : Tab) (w : World) (h : Tw w t b V M) : Calls Tryz.prog 16 #[.pointer (some ⟨t, 0, none⟩)] w fun e w' => e = .returned (.int .i64 M.length) ∧ w' = w := by
  have c0 := h.tbl.cell
  obtain ⟨D, h1, h2⟩ := h.mp
  have e := h2.size
  have HD := hid h1
  rw [← e]
  clear h h1 h2 e
  go_enter Tryz.func16, Tryz.ntmps16
  go_wp2_with (first | (at_len; refine wpList_len_own _ rfl _ 50 rfl 9 35 Tryz.underlying50 RV b _ D rfl HD.out ?_) | fail)
  go_ret
  exact ⟨rfl, rfl⟩
end Go.Proofs.YteeapmcpbmjpmaaGreat
namespace Go.Proofs.YteeapmcpbmjpmaaGreat
set_option maxRecDepth 100000
open Go.RowKit Go.Maps
set_option linter.unusedVariables false

/-! Lists of sets, of rows. -/
abbrev LSx := List Sx
instance : Inhabited Sx := ⟨⟨[], [], false⟩⟩
/-- A set in memory: three cells. -/
def SetAt (w : World) (V : Nat → Prop) (b o : Nat) (s : Sx) : Prop := ∃ ka kc va vc, w.cell? ⟨b, o, none⟩ = some (.slice ka s.k.length kc) ∧ w.cell? ⟨b, o + 1, none⟩ = some (.slice va s.v.length vc) ∧ w.cell? ⟨b, o + 2, none⟩ = some (.bool s.g) ∧ Vs w V ka s.k.length kc s.k ∧ Vs w V va s.v.length vc s.v
structure Sl (w : World) (V : Nat → Prop) (a : Option Addr) (n : Nat) (l : List Sx) : Prop where
  len : l.length = n
  cells : n = 0 ∨ ∃ b off, a = some ⟨b, off, none⟩ ∧ V b ∧ ∀ i, i < n → SetAt w V b (off + i * 3) (l.getD i default)
def RowAt (w : World) (V : Nat → Prop) (b o : Nat) (p : List Int × List Int) : Prop := ∃ ka kc va vc, w.cell? ⟨b, o, none⟩ = some (.slice ka p.1.length kc) ∧ w.cell? ⟨b, o + 1, none⟩ = some (.slice va p.2.length vc) ∧ Vs w V ka p.1.length kc p.1 ∧ Vs w V va p.2.length vc p.2
structure Rl (w : World) (V : Nat → Prop) (a : Option Addr) (n : Nat) (l : Tab) : Prop where
  len : l.length = n
  cells : n = 0 ∨ ∃ b off, a = some ⟨b, off, none⟩ ∧ V b ∧ ∀ i, i < n → RowAt w V b (off + i * 2) (l.getD i ([], []))
theorem cell_not_map {w : World} {b o : Nat} {v : Value} (h : w.cell? ⟨b, o, none⟩ = some v) (es : Array MapEntry) (cl : Nat) : w.heap[b]? ≠ some (.map es cl) := by
  intro e
  simp [World.cell?, e] at h
theorem SetAt.step {w w' : World} {V : Nat → Prop} {b o : Nat} {s : Sx} (h : SetAt w V b o s) (hb : V b) (hk : ∀ x, x < w.heap.size → V x → (∀ es cl, w.heap[x]? ≠ some (.map es cl)) → w'.heap[x]? = w.heap[x]?) : SetAt w' V b o s := by
  obtain ⟨ka, kc, va, vc, h1, h2, h3, h4, h5⟩ := h
  have e := hk b (World.block_lt_of_cell? w _ h1) hb (cell_not_map h1)
  have k : ∀ o, w'.cell? ⟨b, o, none⟩ = w.cell? ⟨b, o, none⟩ := fun o => World.cell?_of_block (w := w) (a := ⟨b, o, none⟩) e
  exact ⟨ka, kc, va, vc, by rw [k]; exact h1, by rw [k]; exact h2, by rw [k]; exact h3, h4.step hk, h5.step hk⟩
theorem RowAt.step {w w' : World} {V : Nat → Prop} {b o : Nat} {s : List Int × List Int} (h : RowAt w V b o s) (hb : V b) (hk : ∀ x, x < w.heap.size → V x → (∀ es cl, w.heap[x]? ≠ some (.map es cl)) → w'.heap[x]? = w.heap[x]?) : RowAt w' V b o s := by
  obtain ⟨ka, kc, va, vc, h1, h2, h4, h5⟩ := h
  have e := hk b (World.block_lt_of_cell? w _ h1) hb (cell_not_map h1)
  have k : ∀ o, w'.cell? ⟨b, o, none⟩ = w.cell? ⟨b, o, none⟩ := fun o => World.cell?_of_block (w := w) (a := ⟨b, o, none⟩) e
  exact ⟨ka, kc, va, vc, by rw [k]; exact h1, by rw [k]; exact h2, h4.step hk, h5.step hk⟩
theorem Sl.step {w w' : World} {V : Nat → Prop} {a : Option Addr} {n : Nat} {l : LSx} (h : Sl w V a n l) (hk : ∀ x, x < w.heap.size → V x → (∀ es cl, w.heap[x]? ≠ some (.map es cl)) → w'.heap[x]? = w.heap[x]?) : Sl w' V a n l := by
  refine ⟨h.len, ?_⟩
  rcases h.cells with h0 | ⟨b, off, e, hb, hc⟩
  · exact .inl h0
  · exact .inr ⟨b, off, e, hb, fun i hi => (hc i hi).step hb hk⟩
theorem Sl.below {w w' : World} {V : Nat → Prop} {a : Option Addr} {n : Nat} {l : LSx} (h : Sl w V a n l) (hg : Below w.heap.size w w') : Sl w' V a n l := h.step fun x hx _ _ => hg.block x hx
/-- It stands while a map is written. -/
theorem Sl.map {w w' : World} {V : Nat → Prop} {a : Option Addr} {n b : Nat} {l : LSx} (h : Sl w V a n l) (hg : w.grownBy w' (some b)) (hm : ∃ es cl, w.heap[b]? = some (.map es cl)) : Sl w' V a n l := h.step fun x hx _ hx' => hg.block x hx (by
    obtain ⟨es, cl, e⟩ := hm
    intro f
    obtain rfl := Option.some.inj f
    exact hx' es cl e)
theorem Rl.step {w w' : World} {V : Nat → Prop} {a : Option Addr} {n : Nat} {l : Tab} (h : Rl w V a n l) (hk : ∀ x, x < w.heap.size → V x → (∀ es cl, w.heap[x]? ≠ some (.map es cl)) → w'.heap[x]? = w.heap[x]?) : Rl w' V a n l := by
  refine ⟨h.len, ?_⟩
  rcases h.cells with h0 | ⟨b, off, e, hb, hc⟩
  · exact .inl h0
  · exact .inr ⟨b, off, e, hb, fun i hi => (hc i hi).step hb hk⟩
theorem Rl.below {w w' : World} {V : Nat → Prop} {a : Option Addr} {n : Nat} {l : Tab} (h : Rl w V a n l) (hg : Below w.heap.size w w') : Rl w' V a n l := h.step fun x hx _ _ => hg.block x hx
/-- It stands while a map is written. -/
theorem Rl.map {w w' : World} {V : Nat → Prop} {a : Option Addr} {n b : Nat} {l : Tab} (h : Rl w V a n l) (hg : w.grownBy w' (some b)) (hm : ∃ es cl, w.heap[b]? = some (.map es cl)) : Rl w' V a n l := h.step fun x hx _ hx' => hg.block x hx (by
    obtain ⟨es, cl, e⟩ := hm
    intro f
    obtain rfl := Option.some.inj f
    exact hx' es cl e)
theorem SetAt.wide {w : World} {V V' : Nat → Prop} {b o : Nat} {s : Sx} (h : SetAt w V b o s) (hV : ∀ x, x < w.heap.size → V x → V' x) : SetAt w V' b o s := by
  obtain ⟨ka, kc, va, vc, h1, h2, h3, h4, h5⟩ := h
  exact ⟨ka, kc, va, vc, h1, h2, h3, h4.wide hV, h5.wide hV⟩
theorem RowAt.wide {w : World} {V V' : Nat → Prop} {b o : Nat} {s : List Int × List Int} (h : RowAt w V b o s) (hV : ∀ x, x < w.heap.size → V x → V' x) : RowAt w V' b o s := by
  obtain ⟨ka, kc, va, vc, h1, h2, h4, h5⟩ := h
  exact ⟨ka, kc, va, vc, h1, h2, h4.wide hV, h5.wide hV⟩
theorem SetAt.lt {w : World} {V : Nat → Prop} {b o : Nat} {s : Sx} (h : SetAt w V b o s) : b < w.heap.size := by
  obtain ⟨ka, kc, va, vc, h1, _⟩ := h
  exact World.block_lt_of_cell? w _ h1
theorem RowAt.lt {w : World} {V : Nat → Prop} {b o : Nat} {s : List Int × List Int} (h : RowAt w V b o s) : b < w.heap.size := by
  obtain ⟨ka, kc, va, vc, h1, _⟩ := h
  exact World.block_lt_of_cell? w _ h1
theorem Sl.wide {w : World} {V V' : Nat → Prop} {a : Option Addr} {n : Nat} {l : LSx} (h : Sl w V a n l) (hV : ∀ x, x < w.heap.size → V x → V' x) : Sl w V' a n l := by
  refine ⟨h.len, ?_⟩
  rcases h.cells with h0 | ⟨b, off, e, hb, hc⟩
  · exact .inl h0
  · by_cases h0 : n = 0
    · exact .inl h0
    · exact .inr ⟨b, off, e, hV b (hc 0 (by omega)).lt hb, fun i hi => (hc i hi).wide hV⟩
theorem Rl.wide {w : World} {V V' : Nat → Prop} {a : Option Addr} {n : Nat} {l : Tab} (h : Rl w V a n l) (hV : ∀ x, x < w.heap.size → V x → V' x) : Rl w V' a n l := by
  refine ⟨h.len, ?_⟩
  rcases h.cells with h0 | ⟨b, off, e, hb, hc⟩
  · exact .inl h0
  · by_cases h0 : n = 0
    · exact .inl h0
    · exact .inr ⟨b, off, e, hV b (hc 0 (by omega)).lt hb, fun i hi => (hc i hi).wide hV⟩
theorem SetAt.okS {w : World} {V : Nat → Prop} {b o : Nat} {s : Sx} (h : SetAt w V b o s) : OkS s := by
  obtain ⟨ka, kc, va, vc, h1, h2, h3, h4, h5⟩ := h
  exact ⟨h4.bs.2.1, h5.bs.2.1⟩
theorem Sl.okS {w : World} {V : Nat → Prop} {a : Option Addr} {n : Nat} {l : List Sx} (h : Sl w V a n l) : ∀ s ∈ l, OkS s := by
  intro s hs
  obtain ⟨i, hi, rfl⟩ := List.mem_iff_getElem.1 hs
  have hl := h.len
  rcases h.cells with h0 | ⟨b, off, e, hb, hc⟩
  · omega
  · have := (hc i (by omega)).okS
    simpa [List.getD, hi] using this
/-! mayBe. -/
set_option maxHeartbeats 400000 in
theorem mayBe_ (ka va : Option Addr) (kc vc : Nat) (s : Sx) (w : World) (hk : s.k.length ≤ maxLen) (hv : s.v.length ≤ maxLen) :
    Calls Tryz.prog 38 #[.agg #[.slice ka s.k.length kc, .slice va s.v.length vc, .bool s.g]] w fun e w' => e = .returned (.bool (mayS s)) ∧ Below w.heap.size w w' := by
  obtain ⟨k, v, g⟩ := s
  unfold mayS
  simp only at hk hv ⊢
  obtain ⟨n, hn⟩ : ∃ n, k.length = n := ⟨_, rfl⟩
  obtain ⟨m, hm⟩ : ∃ m, v.length = m := ⟨_, rfl⟩
  rw [hn, hm] at *
  unfold maxLen at hk hv
  clear hn hm
  have B := fun o => (Below.refl w.heap.size w).alloc (Nat.le_refl _) o
  by_cases h1 : n < 1
  · obtain rfl : n = 0 := by omega
    rw [show (decide (1 ≤ 0)) = false from rfl]
    simp only [Bool.false_and]
    go_enter Tryz.func38, Tryz.ntmps38
    go_wp2_with fail
    go_ret
    exact ⟨rfl, B _⟩
  have e1 : ¬ (n : Int) < 1 := by omega
  rw [show (decide (1 ≤ n)) = true from decide_eq_true (by omega)]
  by_cases h2 : 40 < n
  · have e2 : (n : Int) > 40 := by omega
    rw [show (decide (n ≤ 40)) = false from decide_eq_false (by omega)]
    go_enter Tryz.func38, Tryz.ntmps38
    go_wp2_with fail
    go_ret
    exact ⟨rfl, B _⟩
  have e2 : ¬ (n : Int) > 40 := by omega
  rw [show (decide (n ≤ 40)) = true from decide_eq_true (by omega)]
  cases g
  · have hp : (if false = true then decide (m = 0) else decide (m ≤ 480)) = decide ((m : Int) ≤ 480) := by
      rw [if_neg (by decide)]
      exact decide_eq_decide.2 (by omega)
    simp only [hp, Bool.true_and]
    clear hp
    go_enter Tryz.func38, Tryz.ntmps38
    go_wp2_with fail
    go_ret
    exact ⟨rfl, B _⟩
  · have hp : ((m : Int) == 0) = decide (m = 0) := by
      by_cases h : m = 0
      · subst h; rfl
      · rw [decide_eq_false h]
        exact beq_eq_false_iff_ne.2 (by omega)
    simp only [if_true, Bool.true_and]
    rw [← hp]
    clear hp
    go_enter Tryz.func38, Tryz.ntmps38
    go_wp2_with fail
    go_ret
    exact ⟨rfl, B _⟩
end Go.Proofs.YteeapmcpbmjpmaaGreat
namespace Go.Proofs.YteeapmcpbmjpmaaGreat
set_option maxRecDepth 100000
set_option linter.unusedVariables false

/-! Where a key stands in a table: the document's search, without code. -/
/-- How many keys lie below. -/
def posT (M : Tab) (k : List Int) : Nat := (M.takeWhile fun p => lx p.1 k).length
/-- Behind that place the key's own row, if there is one. -/
def gapT (M : Tab) (k : List Int) : Nat := if (look M k).isSome then posT M k + 1 else posT M k
theorem pos_le : ∀ (M : Tab) (k : List Int), posT M k ≤ M.length
  | [], k => by simp [posT]
  | p :: r, k => by
    unfold posT
    rw [List.takeWhile_cons]
    split
    · have := pos_le r k
      unfold posT at this
      simp
      omega
    · simp
theorem pos_cons (p : List Int × List Int) (r : Tab) (k : List Int) : posT (p :: r) k = if lx p.1 k = true then posT r k + 1 else 0 := by
  unfold posT
  rw [List.takeWhile_cons]
  split <;> simp
theorem pos_below : ∀ {M : Tab} (hS : Srt M) {k : List Int} {j : Nat} (hj : j < M.length), lx (M[j].1) k = true ↔ j < posT M k
  | [], _, _, _, hj => by simp at hj
  | p :: r, hS, k, j, hj => by
    obtain ⟨h1, h2⟩ := List.pairwise_cons.1 hS
    rw [pos_cons]
    cases j with
    | zero => simp only [List.getElem_cons_zero]; split <;> simp_all
    | succ j =>
      simp only [List.getElem_cons_succ]
      have hj' : j < r.length := by simpa using hj
      by_cases e : lx p.1 k = true
      · rw [if_pos e, pos_below h2 hj']; omega
      · rw [if_neg e]
        refine ⟨fun q => absurd (lx_trans (h1 _ (List.getElem_mem hj')) q) e, fun q => by omega⟩
theorem look_pos : ∀ {M : Tab} (hS : Srt M) (k : List Int), (look M k).isSome = (if h : posT M k < M.length then decide ((M[posT M k]'h).1 = k) else false)
  | [], _, k => by simp [posT, look]
  | p :: r, hS, k => by
    obtain ⟨h1, h2⟩ := List.pairwise_cons.1 hS
    by_cases e : lx p.1 k = true
    · have ep : posT (p :: r) k = posT r k + 1 := by rw [pos_cons, if_pos e]
      have hne : p.1 ≠ k := lx_ne e
      have hl : look (p :: r) k = look r k := by simp [look, hne]
      rw [hl, look_pos h2 k]
      by_cases h : posT r k < r.length
      · rw [dif_pos h, dif_pos (by rw [ep]; simp; exact h)]
        simp only [ep, List.getElem_cons_succ]
      · rw [dif_neg h, dif_neg (by rw [ep]; simp; exact Nat.not_lt.1 h)]
    · have ep : posT (p :: r) k = 0 := by rw [pos_cons, if_neg e]
      rw [dif_pos (by rw [ep]; simp)]
      simp only [ep, List.getElem_cons_zero]
      by_cases hk : p.1 = k
      · simp [look, hk]
      · rw [decide_eq_false hk]
        have hlt : lx k p.1 = true := lx_of_ne hk (by simpa using e)
        have : look (p :: r) k = none := look_none.2 fun q hq => by
          rcases List.mem_cons.1 hq with rfl | hq
          · exact hk
          · intro hqk
            have := lx_trans hlt (h1 q hq)
            rw [hqk, lx_self] at this
            exact absurd this (by decide)
        rw [this]; rfl
theorem look_val {M : Tab} (hS : Srt M) {k : List Int} (h : posT M k < M.length) (hk : (M[posT M k]'h).1 = k) : look M k = some (M[posT M k]'h).2 := mem_look hS (by
  have : (k, (M[posT M k]'h).2) = M[posT M k]'h := Prod.ext hk.symm rfl
  rw [this]; exact List.getElem_mem h)
theorem gap_le {M : Tab} (hS : Srt M) (k : List Int) : posT M k ≤ gapT M k ∧ gapT M k ≤ M.length := by
  have h1 := pos_le M k
  have h2 := look_pos hS k
  unfold gapT
  split
  · rename_i h
    rw [h] at h2
    by_cases hp : posT M k < M.length
    · omega
    · rw [dif_neg hp] at h2; exact absurd h2 (by decide)
  · omega
theorem look_above {p : List Int × List Int} {r : Tab} (hS : Srt (p :: r)) {k : List Int} (h : lx k p.1 = true) : look (p :: r) k = none := look_none.2 fun q hq => by
  have h1 := (List.pairwise_cons.1 hS).1
  rcases List.mem_cons.1 hq with rfl | hq
  · exact fun e => by rw [e, lx_self] at h; exact absurd h (by decide)
  · intro hqk
    have := lx_trans h (h1 q hq)
    rw [hqk, lx_self] at this
    exact absurd this (by decide)
theorem gap_cons {p : List Int × List Int} {r : Tab} {k : List Int} (e : lx p.1 k = true) : gapT (p :: r) k = gapT r k + 1 := by
  have hne : p.1 ≠ k := lx_ne e
  unfold gapT
  rw [pos_cons, if_pos e, show look (p :: r) k = look r k by simp [look, hne]]
  split <;> rfl
/-- One row is put in its place. -/
theorem ins_at : ∀ {M : Tab} (hS : Srt M) (k v : List Int), ins k v M = M.take (posT M k) ++ (k, v) :: M.drop (gapT M k)
  | [], _, k, v => by simp [ins, posT, gapT, look]
  | p :: r, hS, k, v => by
    unfold ins
    by_cases e : p.1 = k
    · have hp : posT (p :: r) k = 0 := by rw [pos_cons, if_neg (by rw [e, lx_self]; decide)]
      have hg : gapT (p :: r) k = 1 := by unfold gapT; rw [hp, show look (p :: r) k = some p.2 by simp [look, e]]; rfl
      rw [if_pos e, hp, hg]; rfl
    · rw [if_neg e]
      by_cases h : lx k p.1 = true
      · have hp : posT (p :: r) k = 0 := by rw [pos_cons, if_neg (by rw [lx_asym h]; decide)]
        have hg : gapT (p :: r) k = 0 := by unfold gapT; rw [look_above hS h, hp]; rfl
        rw [if_pos h, hp, hg]; rfl
      · rw [if_neg h]
        have e2 : lx p.1 k = true := lx_of_ne (Ne.symm e) (by simpa using h)
        rw [gap_cons e2, pos_cons, if_pos e2, ins_at (List.pairwise_cons.1 hS).2 k v]
        simp
/-- One row is struck. -/
theorem del_at : ∀ {M : Tab} (hS : Srt M) (k : List Int), del k M = M.take (posT M k) ++ M.drop (gapT M k)
  | [], _, k => by simp [del, posT, gapT, look]
  | p :: r, hS, k => by
    have h2 := (List.pairwise_cons.1 hS).2
    by_cases e : p.1 = k
    · have hp : posT (p :: r) k = 0 := by rw [pos_cons, if_neg (by rw [e, lx_self]; decide)]
      have hg : gapT (p :: r) k = 1 := by unfold gapT; rw [hp, show look (p :: r) k = some p.2 by simp [look, e]]; rfl
      rw [hp, hg]
      have hr : del k r = r := by
        unfold del
        refine List.filter_eq_self.2 fun q hq => ?_
        have := lx_ne ((List.pairwise_cons.1 hS).1 q hq)
        rw [e] at this
        simpa using Ne.symm this
      show List.filter _ (p :: r) = _
      rw [List.filter_cons, if_neg (by simp [e])]
      exact hr
    · have hf : del k (p :: r) = p :: del k r := by
        show List.filter _ (p :: r) = _
        rw [List.filter_cons, if_pos (by simp [e])]
        rfl
      rw [hf]
      by_cases h : lx p.1 k = true
      · rw [gap_cons h, pos_cons, if_pos h, del_at h2 k]
        simp
      · have hk : lx k p.1 = true := lx_of_ne e (by simpa using h)
        have hp : posT (p :: r) k = 0 := by rw [pos_cons, if_neg h]
        have hl := look_above hS hk
        have hg : gapT (p :: r) k = 0 := by unfold gapT; rw [hl, hp]; rfl
        rw [hp, hg]
        have hr : del k r = r := by
          unfold del
          refine List.filter_eq_self.2 fun q hq => ?_
          simpa using look_none.1 hl q (List.mem_cons_of_mem _ hq)
        rw [hr]; rfl
/-- What the document's put leaves. -/
theorem doS_at {M : Tab} (hS : Srt M) (s : Sx) : doS M s = M.take (posT M s.k) ++ (if s.g then [] else [(s.k, s.v)]) ++ M.drop (gapT M s.k) := by
  unfold doS
  cases s.g
  · rw [if_neg (by decide), ins_at hS]; simp
  · rw [if_pos rfl, del_at hS]; simp
end Go.Proofs.YteeapmcpbmjpmaaGreat
namespace Go.Proofs.YteeapmcpbmjpmaaGreat
set_option maxRecDepth 100000
open Go.RowKit
set_option linter.unusedVariables false

/-! The document's table: where a key stands. -/
/-- The document's table in a variable t; its rows read M, and lie in V. -/
structure Dd (w : World) (V : Nat → Prop) (t : Nat) (a : Option Addr) (m c : Nat) (M : Tab) : Prop where
  var : w.heap[t]? = some (.cells #[.slice a m c] 30 (0, 0))
  rl : Rl w V a m M
theorem Dd.cell {w : World} {V : Nat → Prop} {t : Nat} {a : Option Addr} {m c : Nat} {M : Tab} (h : Dd w V t a m c M) : w.cell? ⟨t, 0, none⟩ = some (.slice a m c) := by rw [cell_of_row w t 0 _ 30 (0, 0) h.var]; rfl
set_option maxHeartbeats 400000 in
theorem rless_l (a b : Option Addr) (c m d : Nat) (r : List Int) (w : World) (hr : r.length = m) (hm : m ≤ 1000000000) :
    Calls Tryz.prog 69 #[.slice a 0 c, .slice b m d] w fun e w' => e = .returned (.bool (lx [] r)) ∧ ∃ nq, w' = w.drewN nq := by
  rw [lx_nil, hr]
  by_cases h0 : 0 < m
  · have hI : (0 : Int) < m := by omega
    rw [decide_eq_true h0]
    go_enter Tryz.func69, Tryz.ntmps69
    go_wp2_with fail
    go_loopw [5] (fun i wr => i = .int .i64 0 ∧ wr = w) (fun _ _ => 1)
    case atStart => exact ⟨rfl, rfl⟩
    case round =>
      obtain ⟨rfl, rfl⟩ := hrel
      go_wp2_with fail
      go_ret
      exact ⟨rfl, 0, rfl⟩
  · obtain rfl : m = 0 := by omega
    go_enter Tryz.func69, Tryz.ntmps69
    go_wp2_with fail
    go_loopw [5] (fun i wr => i = .int .i64 0 ∧ wr = w) (fun _ _ => 1)
    case atStart => exact ⟨rfl, rfl⟩
    case round =>
      obtain ⟨rfl, rfl⟩ := hrel
      go_wp2_with fail
      go_ret
      exact ⟨rfl, 0, rfl⟩
set_option maxHeartbeats 400000 in
theorem rless_r (a b : Option Addr) (n c d : Nat) (l : List Int) (w : World) (h0 : 0 < n) :
    Calls Tryz.prog 69 #[.slice a n c, .slice b 0 d] w fun e w' => e = .returned (.bool (lx l [])) ∧ ∃ nq, w' = w.drewN nq := by
  rw [lx_nil_r]
  have hI : (0 : Int) < n := by omega
  go_enter Tryz.func69, Tryz.ntmps69
  go_wp2_with fail
  go_loopw [5] (fun i wr => i = .int .i64 0 ∧ wr = w) (fun _ _ => 1)
  case atStart => exact ⟨rfl, rfl⟩
  case round =>
    obtain ⟨rfl, rfl⟩ := hrel
    go_wp2_with fail
    go_ret
    exact ⟨by first | rfl | simp, 0, rfl⟩
/-- Less, of any two lists. -/
theorem rless_any (a b : Option Addr) (n c m d : Nat) (l r : List Int) (w : World) (h1 : Bs w a n l) (h2 : Bs w b m r) (hn : n ≤ 1000000000) (hm : m ≤ 1000000000) :
    Calls Tryz.prog 69 #[.slice a n c, .slice b m d] w fun e w' => e = .returned (.bool (lx l r)) ∧ ∃ nq, w' = w.drewN nq := by
  rcases h1.2.2 with e1 | ⟨b1, o1, rfl, k1⟩
  · obtain rfl : n = 0 := e1
    obtain rfl : l = [] := List.eq_nil_of_length_eq_zero h1.1
    exact rless_l a b c m d r w h2.1 hm
  · rcases h2.2.2 with e2 | ⟨b2, o2, rfl, k2⟩
    · obtain rfl : m = 0 := e2
      obtain rfl : r = [] := List.eq_nil_of_length_eq_zero h2.1
      by_cases h0 : 0 < n
      · exact rless_r _ b n c d l w h0
      · obtain rfl : n = 0 := by omega
        obtain rfl : l = [] := List.eq_nil_of_length_eq_zero h1.1
        exact rless_l _ b c 0 d [] w rfl (by omega)
    · exact refLess_some b1 o1 c b2 o2 d n m l r w h1.1 h2.1 hn hm k1 k2
end Go.Proofs.YteeapmcpbmjpmaaGreat
