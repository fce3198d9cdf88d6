import Derived.Test.YtghehfhkiknjhaaTB
namespace Go.Proofs.Ytghehfhkiknjhaa
set_option maxRecDepth 100000
open Go.RowKit Go.Maps
set_option linter.unusedVariables false

/-- delete(m, k). -/
theorem wp_drop {w : World} {ops : Array Oper} {rest : List Oper} {o : Oper} {a : Act} {Q : Exit → Act → World → Prop} (hg : o.guard = none) (m x : Operand) (hop : o.op = Op.call { callee := Callee.builtin Builtin.delete, args := #[m, x], argTypes := #[68, 9] })
    (b : Nat) (V : Nat → Prop) (M : Tab) (hm : a.eval m = .map (some b)) (hM : Mp w b V M) (hT : Tok M) (k : List Int) (hk : Okb k) (hkl : k.length ≤ maxLen) (hx : a.eval x = .string (strOfNums k))
    (hK : ∀ w', Mp w' b V (del k M) → w.grownBy w' (some b) → wpList Try.prog ops Q rest (a.put o.dst (.tuple #[])) w') :
    wpList Try.prog ops Q (o :: rest) a w := by
  obtain ⟨D, h1, h2⟩ := hM
  refine wpList_delete_own w hg m x 68 9 hop 27 law9 Try.underlying68 RV b _ D hm h1 _ (litK k) hx (key_str hkl) ?_
  intro w' ho ht
  exact hK w' (Mp.drop h1 h2 hT.srt hk (fun q hq => (hT.key q hq).1) ho ht.grown) ht.grown
set_option maxHeartbeats 400000 in
theorem drop_ (b : Nat) (V : Nat → Prop) (M : Tab) (a : Option Addr) (n c : Nat) (k : List Int) (w : World) (hM : Mp w b V M) (hT : Tok M) (hk : Bs w a n k) (hn : n ≤ maxLen) :
    Calls Try.prog 55 #[.map (some b), .slice a n c] w fun e w' => e = .returned (.bool (look M k).isSome) ∧ Mp w' b V (del k M) ∧ w.grownBy w' (some b) := by
  have hs := run_str (c := c) hk
  have HKO := hid hk.2.1
  have HKL : Hid (k.length ≤ maxLen) := by rw [hk.1]; exact hn
  have HT := hid hT
  have HM := hid hM
  obtain ⟨t, ht⟩ : ∃ t, Hid ((look M k).isSome = t) := ⟨_, rfl⟩
  rw [ht.out]
  clear hk hn hT hM
  go_enter Try.func55, Try.ntmps55
  go_wp2_with (first | (at_lookup; refine wp_look rfl _ _ rfl b V M rfl HM.out k HKO.out HKL.out rfl ?_; intro p m d hvs; rw [ht.out]; clear hvs) | (at_delete; refine wp_drop rfl _ _ rfl b V M rfl HM.out HT.out k HKO.out HKL.out rfl ?_; intro w1 hm1 hg1; have H1 := hid hm1; have H2 := hid hg1; clear hm1 hg1) | fail)
  go_ret
  exact ⟨rfl, H1.out, H2.out⟩
/-- Is the key there with just this value? -/
def hasT (M : Tab) (k v : List Int) : Bool := decide (look M k = some v)
set_option maxHeartbeats 400000 in
theorem has_ (b : Nat) (V : Nat → Prop) (M : Tab) (p : Option Addr) (m d : Nat) (k v : List Int) (w : World) (hM : Mp w b V M) (hk : Okb k) (hkl : k.length ≤ maxLen) (hv : Bs w p m v) :
    Calls Try.prog 63 #[.map (some b), .string (strOfNums k), .slice p m d] w fun e w' => e = .returned (.bool (hasT M k v)) ∧ Drawn w w' := by
  have HKO := hid hk
  have HKL := hid hkl
  have HM := hid hM
  have HV := hid hv
  obtain ⟨s, HS⟩ : ∃ s, Hid (strOfNums k = s) := ⟨_, rfl⟩
  rw [HS.out]
  clear hM hk hkl hv
  cases hl : look M k with
  | none =>
    have he : hasT M k v = false := by unfold hasT; rw [hl]; rfl
    rw [he]
    have HL := hid hl
    clear hl he
    go_enter Try.func63, Try.ntmps63
    go_wp2_with (first | (at_lookup; refine wp_look rfl _ _ rfl b V M rfl HM.out k HKO.out HKL.out (by rw [HS.out]; rfl) ?_; intro q1 m1 d1 hvs; rw [HL.out]; clear hvs) | fail)
    go_ret
    exact ⟨rfl, rfl, rfl, rfl, rfl⟩
  | some u =>
    have he : hasT M k v = sameB u v := by unfold hasT sameB; rw [hl]; simp
    rw [he]
    have HL := hid hl
    clear hl he
    go_enter Try.func63, Try.ntmps63
    go_wp2_with (first | (at_lookup; refine wp_look rfl _ _ rfl b V M rfl HM.out k HKO.out HKL.out (by rw [HS.out]; rfl) ?_; intro q1 m1 d1 hvs; rw [HL.out] at hvs ⊢; have HVS : Hid (Bs w q1 m1 u) := hvs.bs; clear hvs) | fail)
    refine (beq_ _ _ _ _ _ _ _ _ _ HVS.out HV.out).mono ?_
    rintro e w1 ⟨rfl, hd⟩
    have HDR := hid hd
    clear hd
    go_wp2_with fail
    go_ret
    exact ⟨rfl, HDR.out⟩

/-! Tables. -/
/-- A table's own block. -/
def Tbl (w : World) (t b : Nat) : Prop := w.heap[t]? = some (.cells #[.map (some b)] 70 (0, 0))
theorem Tbl.cell {w : World} {t b : Nat} (h : Tbl w t b) : w.cell? ⟨t, 0, none⟩ = some (.map (some b)) := by rw [cell_of_row w t 0 _ 70 (0, 0) h]; rfl
theorem Tbl.lt {w : World} {t b : Nat} (h : Tbl w t b) : t < w.heap.size := (Array.getElem?_eq_some_iff.1 h).1
theorem Tbl.same {w w' : World} {t b : Nat} (h : Tbl w t b) (e : w'.heap[t]? = w.heap[t]?) : Tbl w' t b := e.trans h
/-- A table, whole. -/
structure Tw (w : World) (t b : Nat) (V : Nat → Prop) (M : Tab) : Prop where
  tbl : Tbl w t b
  mp : Mp w b V M
  tok : Tok M
theorem Tw.below {w w' : World} {t b : Nat} {V : Nat → Prop} {M : Tab} (h : Tw w t b V M) (hg : Below w.heap.size w w') : Tw w' t b V M := ⟨h.tbl.same (hg.block t h.tbl.lt), h.mp.below hg, h.tok⟩
theorem Tw.wide {w : World} {t b : Nat} {V V' : Nat → Prop} {M : Tab} (h : Tw w t b V M) (hV : ∀ x, x < w.heap.size → V x → V' x) : Tw w t b V' M := ⟨h.tbl, h.mp.wide hV, h.tok⟩
theorem Tbl.not_map {w : World} {t b : Nat} (h : Tbl w t b) (es : Array MapEntry) (cl : Nat) : w.heap[t]? ≠ some (.map es cl) := by
  intro e
  rw [h] at e
  cases e
theorem Tw.step {w w' : World} {t b : Nat} {V : Nat → Prop} {M : Tab} (h : Tw w t b V M) (ht : w'.heap[t]? = w.heap[t]?) (hb : w'.heap[b]? = w.heap[b]?) (hk : ∀ x, x < w.heap.size → V x → (∀ es cl, w.heap[x]? ≠ some (.map es cl)) → w'.heap[x]? = w.heap[x]?) : Tw w' t b V M :=
  ⟨h.tbl.same ht, h.mp.step hb hk, h.tok⟩
theorem Tw.other {w w' : World} {t b b' : Nat} {V : Nat → Prop} {M : Tab} (h : Tw w t b V M) (hg : w.grownBy w' (some b')) (hm : ∃ es cl, w.heap[b']? = some (.map es cl)) (hne : b ≠ b') : Tw w' t b V M :=
  ⟨h.tbl.same (hg.block t h.tbl.lt (by
    obtain ⟨es, cl, e⟩ := hm
    intro f
    obtain rfl := Option.some.inj f
    exact h.tbl.not_map es cl e)), h.mp.other hg hm hne, h.tok⟩
theorem mp_made (w : World) (V : Nat → Prop) : Mp (w.alloc (.map #[] 0)) w.heap.size V [] :=
  ⟨.map [], World.ownsMap_made w Try.prog 9 RV, rfl, fun k _ => rfl, fun k v e => by cases e⟩
set_option maxHeartbeats 400000 in
theorem new_ (w : World) : Calls Try.prog 37 #[] w fun e w' => ∃ t b, e = .returned (.pointer (some ⟨t, 0, none⟩)) ∧ Tw w' t b (fun _ => False) [] ∧ w.heap.size ≤ b ∧ w.heap.size ≤ t ∧ Below w.heap.size w w' := by
  have hmm := @run_makeMap Try.prog
  go_enter Try.func37, Try.ntmps37
  go_wp2_with fail
  go_ret
  have hm := (mp_made w (fun _ => False)).below ((Below.refl (w.alloc (.map #[] 0)).heap.size (w.alloc (.map #[] 0))).alloc (Nat.le_refl _) (.cells #[.map (some w.heap.size)] 70))
  have ht := heap_alloc_new (w.alloc (.map #[] 0)) (.cells #[.map (some w.heap.size)] 70)
  rw [World.size_alloc] at ht
  exact ⟨w.heap.size + 1, w.heap.size, rfl, ⟨ht, hm, tok_nil⟩, Nat.le_refl _, by omega, ((Below.refl w.heap.size w).alloc (Nat.le_refl _) _).alloc (by simp) _⟩
set_option maxHeartbeats 400000 in
theorem len_ (t b : Nat) (V : Nat → Prop) (M : Tab) (w : World) (h : Tw w t b V M) : Calls Try.prog 27 #[.pointer (some ⟨t, 0, none⟩)] w fun e w' => e = .returned (.int .i64 M.length) ∧ w' = w := by
  have c0 := h.tbl.cell
  obtain ⟨D, h1, h2⟩ := h.mp
  have e := h2.size
  have HD := hid h1
  rw [← e]
  clear h h1 h2 e
  go_enter Try.func27, Try.ntmps27
  go_wp2_with (first | (at_len; refine wpList_len_own _ rfl _ 68 rfl 9 27 Try.underlying68 RV b _ D rfl HD.out ?_) | fail)
  go_ret
  exact ⟨rfl, rfl⟩
end Go.Proofs.Ytghehfhkiknjhaa
