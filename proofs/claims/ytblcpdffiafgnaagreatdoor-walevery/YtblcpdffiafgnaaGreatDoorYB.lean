import Derived.Test.YtblcpdffiafgnaaGreatDoorSMath
import Derived.Test.YtblcpdffiafgnaaGreatDoorXS
import Derived.OrdersIn
import Derived.WalkMore
import Derived.OrdersHeld
import Derived.Deep.RegionHeld
namespace Go.Proofs.YtblcpdffiafgnaaGreatDoor
set_option linter.unusedSimpArgs false
set_option maxRecDepth 100000
open Go.RowKit Go.Shelf
set_option linter.unusedVariables false

theorem rx_rgt (zs : List Int) (T : ByteArray) (e q p : Nat) : rx (gs zs) T e q p = match rgt zs e q p with
    | some (T', l) => if T' = T then some l else none
    | none => none := by
  unfold rx rgt
  cases gs zs with
  | none => rfl
  | some x =>
    obtain ⟨T', e', q', p', l⟩ := x
    simp only
    by_cases h : e' = (e : Int) ∧ q' = (q : Int) ∧ p' = (p : Int)
    · rw [if_pos h]
      simp only
      by_cases hT : T' = T
      · rw [if_pos ⟨hT, h⟩, if_pos hT]
      · rw [if_neg (fun k => hT k.1), if_neg hT]
    · rw [if_neg h, if_neg (fun k => h k.2)]
/-- May a piece be taken? As the chapter has it, and as the code. -/
theorem tkp_full {k n m : Nat} (hk : k ≤ 10) (h0 : k = 0 → n = 0) : tkp k n m = true ↔ ¬ (decide (n = 480 * k) = false ∨ k = 10 ∨ m = 0 ∨ (k = 0 ∧ m ≠ 480)) := by
  unfold tkp
  by_cases hk0 : k = 0
  · have := h0 hk0
    subst hk0
    subst this
    simp
    omega
  · rw [if_neg hk0]
    simp
    omega
/-- One sector of a transaction. -/
theorem txP_rd (N e q f p k : Nat) (tx : List Int) (full : Bool) (s : St) : (txP N e q (f + 1) p k tx full).run s = if opE s = 0 then (match rgt (layA s.S s.P (sct N e p)) e q p with
    | some (T, l) =>
      if T = t4 then (.ok (if k = 0 ∧ 0 < l.length then some (l, p + 1) else none), opS s)
      else if T = t3 then (.ok (if 1 < k ∧ l = edb tx then some (tx, p + 1) else none), opS s)
      else if T = t2 then (if full = false ∨ k = 10 ∨ l.length = 0 ∨ (k = 0 ∧ l.length ≠ 480) then (.ok none, opS s) else (txP N e q f (p + 1) (k + 1) (tx ++ l) (l.length == 480)).run (opS s))
      else (.ok none, opS s)
    | none => (.ok none, opS s)) else (.error (opE s), opS s) := by
  conv => lhs; unfold txP Rp.run
  by_cases h0 : opE s = 0
  · rw [if_pos h0, if_pos h0]
    simp only [rx_rgt]
    cases hr : rgt (layA s.S s.P (sct N e p)) e q p with
    | none => simp only [Rp.run]
    | some y =>
      obtain ⟨T, l⟩ := y
      simp only
      by_cases h4 : T = t4
      · rw [if_pos h4]
        simp only [h4, if_true, Rp.run]
      · by_cases h3 : T = t3
        · simp only [if_neg h4, if_pos h3, Rp.run]
        · by_cases h2 : T = t2
          · simp only [if_neg h4, if_neg h3, if_pos h2]
            split <;> simp only [Rp.run]
          · simp only [if_neg h4, if_neg h3, if_neg h2, Rp.run]
  · rw [if_neg h0, if_neg h0]
theorem lgP_rd (N e f q p : Nat) (hq : q ≤ 4611686018427387904) (s : St) : (lgP N e (f + 1) q p).run s = match (txP N e q (roo N - p) p 0 [] true).run s with
    | (.ok (some (tx, p')), s') => (match (lgP N e f (q + 1) p').run s' with
      | (.ok r, s'') => (.ok (tx :: r.1, r.2), s'')
      | (.error E, s'') => (.error E, s''))
    | (.ok none, s') => (.ok ([], q, p), s')
    | (.error E, s') => (.error E, s') := by
  conv => lhs; unfold lgP
  rw [if_neg (by omega), Rp.run_bind]
  generalize (txP N e q (roo N - p) p 0 [] true).run s = r
  obtain ⟨r1, s'⟩ := r
  cases r1 with
  | error E => rfl
  | ok o =>
    cases o with
    | none => rfl
    | some y =>
      obtain ⟨tx, p'⟩ := y
      simp only
      rw [Rp.run_bind]
      generalize (lgP N e f (q + 1) p').run s' = r2
      obtain ⟨r2, s''⟩ := r2
      cases r2 <;> rfl
theorem lgP_end (N e f q p : Nat) (hq : 4611686018427387904 < q) (s : St) : (lgP N e (f + 1) q p).run s = (.ok ([], q, p), s) := by
  unfold lgP
  rw [if_pos hq]
  rfl
/-- What came ahead, and what comes. -/
def cmb (ys : List (List Int)) (r : Except Int (List (List Int) × Nat × Nat) × St) : Except Int (List (List Int) × Nat × Nat) × St :=
  match r with
  | (.ok x, s) => (.ok (ys ++ x.1, x.2), s)
  | (.error E, s) => (.error E, s)
theorem cmb_nil (r : Except Int (List (List Int) × Nat × Nat) × St) : cmb [] r = r := by
  obtain ⟨r, s⟩ := r
  cases r <;> rfl
theorem cmb_cons (ys : List (List Int)) (tx : List Int) (r : Except Int (List (List Int) × Nat × Nat) × St) : cmb ys (match r with
      | (.ok r, s'') => (.ok (tx :: r.1, r.2), s'')
      | (.error E, s'') => (.error E, s'')) = cmb (ys ++ [tx]) r := by
  obtain ⟨r, s⟩ := r
  cases r with
  | error E => rfl
  | ok x => simp [cmb]
end Go.Proofs.YtblcpdffiafgnaaGreatDoor
namespace Go.Proofs.YtblcpdffiafgnaaGreatDoor
set_option linter.unusedSimpArgs false
set_option maxRecDepth 100000
open Go.RowKit Go.Shelf
set_option linter.unusedVariables false

/-- What the next sector makes of a row: its bytes, and is it whole? -/
def stx (o : Option (ByteArray × List Int)) (k : Nat) (tx : List Int) : Option (List Int × Bool) :=
  match o with
  | none => none
  | some (T, l) => if T = t4 then (if k = 0 ∧ 0 < l.length then some (l, true) else none) else if T = t3 then (if 1 < k ∧ l = edb tx then some (tx, true) else none) else if T = t2 then (if tkp k tx.length l.length = true then some (tx ++ l, false) else none) else none
theorem txP_stx (N e q f p k : Nat) (tx : List Int) (s : St) (hk : k ≤ 10) (h0 : k = 0 → tx.length = 0) : (txP N e q (f + 1) p k tx (decide (tx.length = 480 * k))).run s = if opE s = 0 then (match stx (rgt (layA s.S s.P (sct N e p)) e q p) k tx with
    | none => (.ok none, opS s)
    | some (tx', true) => (.ok (some (tx', p + 1)), opS s)
    | some (tx', false) => (txP N e q f (p + 1) (k + 1) tx' (decide (tx'.length = 480 * (k + 1)))).run (opS s)) else (.error (opE s), opS s) := by
  rw [txP_rd]
  by_cases hE : opE s = 0
  · rw [if_pos hE, if_pos hE]
    cases hr : rgt (layA s.S s.P (sct N e p)) e q p with
    | none => rfl
    | some y =>
      obtain ⟨T, l⟩ := y
      unfold stx
      simp only
      by_cases h4 : T = t4
      · rw [if_pos h4, if_pos h4]
        by_cases hh : k = 0 ∧ 0 < l.length
        · rw [if_pos hh, if_pos hh]
        · rw [if_neg hh, if_neg hh]
      · rw [if_neg h4, if_neg h4]
        by_cases h3 : T = t3
        · rw [if_pos h3, if_pos h3]
          by_cases hh : 1 < k ∧ l = edb tx
          · rw [if_pos hh, if_pos hh]
          · rw [if_neg hh, if_neg hh]
        · rw [if_neg h3, if_neg h3]
          by_cases h2 : T = t2
          · rw [if_pos h2, if_pos h2]
            have ht := tkp_full (k := k) (n := tx.length) (m := l.length) hk h0
            by_cases hh : tkp k tx.length l.length = true
            · have hn := ht.1 hh
              rw [if_pos hh, if_neg hn]
              have hf : tx.length = 480 * k := by
                rcases Nat.decEq tx.length (480 * k) with q | q
                · exact (hn (.inl (decide_eq_false q))).elim
                · exact q
              have e1 : (l.length == 480) = decide ((tx ++ l).length = 480 * (k + 1)) := by
                rw [List.length_append, hf]
                by_cases q : l.length = 480
                · rw [q]; simp; omega
                · rw [decide_eq_false (by omega)]; simp; exact q
              simp only [e1]
            · rw [if_neg hh, if_pos (Classical.byContradiction fun q => hh (ht.2 q))]
          · rw [if_neg h2, if_neg h2]
  · rw [if_neg hE, if_neg hE]
theorem stx_some {o : Option (ByteArray × List Int)} {k : Nat} {tx tx' : List Int} {b : Bool} (h : stx o k tx = some (tx', b)) (hk : k ≤ 10) (h0 : k = 0 → tx.length = 0) (hl : ∀ T l, o = some (T, l) → l.length ≤ 480 ∧ By l) (hb : By tx) (hn : tx.length ≤ 480 * k) :
    By tx' ∧ tx'.length ≤ 480 * (k + 1) ∧ (b = false → k + 1 ≤ 10) := by
  cases o with
  | none => cases h
  | some y =>
    obtain ⟨T, l⟩ := y
    obtain ⟨h480, hyl⟩ := hl T l rfl
    unfold stx at h
    simp only at h
    by_cases h4 : T = t4
    · rw [if_pos h4] at h
      by_cases hh : k = 0 ∧ 0 < l.length
      · rw [if_pos hh] at h
        cases h
        exact ⟨hyl, by omega, fun q => by cases q⟩
      · rw [if_neg hh] at h; cases h
    · rw [if_neg h4] at h
      by_cases h3 : T = t3
      · rw [if_pos h3] at h
        by_cases hh : 1 < k ∧ l = edb tx
        · rw [if_pos hh] at h
          cases h
          exact ⟨hb, by omega, fun q => by cases q⟩
        · rw [if_neg hh] at h; cases h
      · rw [if_neg h3] at h
        by_cases h2 : T = t2
        · rw [if_pos h2] at h
          by_cases hh : tkp k tx.length l.length = true
          · rw [if_pos hh] at h
            cases h
            have hn2 := (tkp_full (k := k) (n := tx.length) (m := l.length) hk h0).1 hh
            refine ⟨fun z hz => ?_, by rw [List.length_append]; omega, fun _ => by omega⟩
            rcases List.mem_append.1 hz with q | q
            · exact hb z q
            · exact hyl z q
          · rw [if_neg hh] at h; cases h
        · rw [if_neg h2] at h; cases h
/-- The next sector. -/
theorem addU {w : World} {r k n c B : Nat} {a : Option Addr} {tx : List Int} (h : Ym w r k (.slice a n c) false) (ho : w.ownsRow B 5 1 (.slice a n c) n (cells tx)) (hy : By tx) (hTb : Tab w) (hB : B ≤ r) (hk : k ≤ 100) (hn : tx.length = n) (hn1 : n ≤ 100000) (T : ByteArray) (l : List Int) (g' m : Nat) (hl : l.length = m) (hm : m ≤ 480) (hg : B ≤ g') (hrow : Row w g' l) (hyl : By l) :
    Calls Tryz.prog 79 #[.pointer (some ⟨r, 0, none⟩), .string T, .slice (some ⟨g', 0, none⟩) m m] w fun en w' =>
      match stx (some (T, l)) k tx with
      | none => en = .returned (.bool false) ∧ Below B w w'
      | some (tx', wh) => en = .returned (.bool true) ∧ Below B w w' ∧ ∃ a' n' c', tx'.length = n' ∧ Ym w' r (k + 1) (.slice a' n' c') wh ∧ w'.ownsRow B 5 1 (.slice a' n' c') n' (cells tx') := by
  have hBw : B ≤ w.heap.size := by have := h.lt; omega
  have hO := hrow.own12 hl (by unfold maxLen; omega) hg
  have hBs : Bs w (some ⟨g', 0, none⟩) m l := by rw [← hl]; exact hrow.bs hyl
  unfold stx
  simp only
  by_cases h4 : T = t4
  · subst h4
    rw [if_pos rfl]
    refine (add_one h hB hk _ _ _ l hO).mono ?_
    rintro en w' ⟨rfl, y1, o1, b1⟩
    by_cases hh : k = 0 ∧ 0 < l.length
    · rw [if_pos hh]
      obtain ⟨rfl, hp⟩ := hh
      exact ⟨by rw [hl] at hp; simp [hp], b1, _, _, _, hl, y1, o1⟩
    · rw [if_neg hh]
      refine ⟨?_, b1⟩
      rw [hl] at hh
      simp only [Ending.returned.injEq, Value.bool.injEq, Bool.and_eq_false_iff, decide_eq_false_iff_not]
      omega
  · rw [if_neg h4]
    by_cases h3 : T = t3
    · subst h3
      rw [if_pos rfl]
      refine (add_end h ho hy hTb hB hBw hk hn1 _ _ _ l hBs).mono ?_
      rintro en w' ⟨rfl, y1, o1, b1⟩
      by_cases hh : 1 < k ∧ l = edb tx
      · rw [if_pos hh]
        refine ⟨?_, b1, _, _, _, hn, y1, o1⟩
        have : sameB l (edb tx) = true := decide_eq_true hh.2
        rw [this, decide_eq_true hh.1]
        rfl
      · rw [if_neg hh]
        refine ⟨?_, b1⟩
        simp only [Ending.returned.injEq, Value.bool.injEq, Bool.and_eq_false_iff, decide_eq_false_iff_not]
        by_cases q : 1 < k
        · refine .inr ?_
          cases hs : sameB l (edb tx) with
          | false => rfl
          | true => exact (hh ⟨q, of_decide_eq_true hs⟩).elim
        · exact .inl q
    · rw [if_neg h3]
      by_cases h2 : T = t2
      · subst h2
        rw [if_pos rfl]
        refine (add_piece h ho hB hBw hk hn1 _ _ _ l hBs (by omega)).mono ?_
        rintro en w' ⟨rfl, a', c', y1, o1, b1⟩
        rw [← hn] at *
        rw [← hl] at *
        by_cases hh : tkp k tx.length l.length = true
        · rw [if_pos hh]
          exact ⟨by rw [hh], b1, _, _, _, by rw [List.length_append], y1, o1⟩
        · rw [if_neg hh]
          exact ⟨by rw [Bool.eq_false_iff.2 hh], b1⟩
      · rw [if_neg h2]
        exact add_none h ho hB hk T ⟨h4, h2, h3⟩ _
/-- A row that is none. -/
theorem stx_len {o : Option (ByteArray × List Int)} {k : Nat} {tx tx' : List Int} {b : Bool} (h : stx o k tx = some (tx', b)) (h0 : k = 0 → tx.length = 0) (hk : k ≤ 10) (hp : 0 < k → 0 < tx.length) : 0 < tx'.length := by
  cases o with
  | none => cases h
  | some y =>
    obtain ⟨T, l⟩ := y
    unfold stx at h
    simp only at h
    split at h
    · split at h
      · cases h; omega
      · cases h
    · split at h
      · split at h
        · cases h; exact hp (by omega)
        · cases h
      · split at h
        · split at h
          · rename_i hh
            cases h
            have hn2 := (tkp_full (k := k) (n := tx.length) (m := l.length) hk h0).1 hh
            rw [List.length_append]; omega
          · cases h
        · cases h
end Go.Proofs.YtblcpdffiafgnaaGreatDoor
namespace Go.Proofs.YtblcpdffiafgnaaGreatDoor
set_option linter.unusedSimpArgs false
set_option maxRecDepth 100000
open Go.RowKit Go.Shelf
set_option linter.unusedVariables false

/-! A region that draws its order, inside a fence that lets all by (in a round of a loop over a function, or in none). -/
section
variable {P : Program} {ops : Array Oper} {Q : Exit → Act → World → Prop} {lp n : Nat}
theorem rows_w {row : String} {args : Array Value} {w : World} {R : Value → World → Prop} (h : Rows P row args w R) : RowsIn Fence.wide n P row args w R :=
  fun b cs _ => let ⟨v, w', r, s⟩ := h b cs; ⟨v, w', r, stepsIn_wide.2 s⟩
theorem calls_w {f : FuncId} {args : Array Value} {w : World} {R : Ending → World → Prop} (h : Calls P f args w R) : CallsIn Fence.wide n P f args w R := callsIn_wide.2 h
theorem upon_w {o : Oper} {a : Act} {K K' : Act → World → Prop} {r : Result Next} (hK : ∀ a w, K a w → K' a w) (h : Oper.upon P o a K Q r) : Oper.uponIn Fence.wide n P o a K' Q r := by
  cases r with
  | ok x w' =>
    cases x with
    | value v => exact hK _ _ h
    | skip => exact hK _ _ h
    | defer d => exact hK _ _ h
    | enter f args =>
      refine ⟨fun hh => by simp [Fence.wide] at hh, calls_w (Calls.mono h (fun e w'' he => ?_))⟩
      cases e with
      | returned v => exact hK _ _ he
      | panicked c => exact he
      | outgrown => exact he
    | row row args => exact ⟨fun hh => by simp [Fence.wide] at hh, RowsIn.mono (rows_w h) (fun v w'' he => hK _ _ he)⟩
    | _ => exact h.elim
  | halt x w' => cases x <;> first | exact h | exact h.elim
theorem op_w (hQ : LetsOut Q → False) (hd : ∀ (i : Nat) (o : Oper), ops[i]? = some o → ∀ c, o.op ≠ .defer c) {i : Nat} {a : Act} {w : World} {K K' : Act → World → Prop} (hK : ∀ a w, K a w → K' a w) (h : wpOp P ops Q i K a w) : wpOpIn Fence.wide n P ops Q i K' a w := by
  unfold wpOp at h
  unfold wpOpIn
  cases ho : ops[i]? with
  | none => rw [ho] at h; exact hK _ _ h
  | some o =>
    rw [ho] at h
    simp only at h ⊢
    by_cases hw : Region.wanted o (yielded ops a.tmps) = true
    · rw [if_pos hw] at h ⊢
      refine ⟨fun _ _ => trivial, ?_⟩
      rw [Oper.semAt_eq _ _ _ (hd i o ho)]
      rcases h with h | h
      · exact upon_w hK h
      · exact (hQ h.2).elim
    · rw [if_neg hw] at h ⊢
      exact ⟨fun _ _ => trivial, hK _ _ h⟩
theorem any_w (hQ : LetsOut Q → False) (hd : ∀ (i : Nat) (o : Oper), ops[i]? = some o → ∀ c, o.op ≠ .defer c) {md : Region.Mode} : ∀ (fuel : Nat) (listed : Array Bool) (a : Act) (w : World), wpAny P md ops Q fuel listed a w → wpAnyIn Fence.wide n P md ops Q fuel listed a w
  | 0, _, _, _, h => h
  | fuel + 1, listed, a, w, h => ⟨h.1, fun i hi => op_w hQ hd (fun a w hk => any_w hQ hd fuel _ a w hk) (h.2 i hi)⟩
theorem ofAny_w {id : Nat} {a : Act} {w : World} {l : List Oper} (hm : P.follows .mixedOrders = true) (hQ : LetsOut Q → False) (hd : ∀ o ∈ l, ∀ c, o.op ≠ .defer c)
    (h : wpAny P .any l.toArray Q l.toArray.size (Array.replicate l.toArray.size false) a { w with drawn := w.drawn + 1 }) : (Code.region id l.toArray true).wpIn Fence.wide n P Q a w :=
  wpIn_region_any hm (any_w hQ (fun i o ho => hd o (by
    have : l[i]? = some o := by simpa using ho
    exact List.mem_of_getElem? this)) _ _ _ _ h)
/-- All only read: one walk serves. -/
theorem quiet_w {C : World → Prop} {id : Nat} {a : Act} {w : World} {l : List Oper} (hm : P.follows .mixedOrders = true) (hQ : LetsOut Q → False) (hd : ∀ o ∈ l, ∀ c, o.op ≠ .defer c) (hB : Region.lexB .any l.toArray = true)
    (hC : C { w with drawn := w.drawn + 1 }) (h : wpQuiet P l.toArray C (fun a' => ∀ w', C w' → Q .normal a' w') l a) : (Code.region id l.toArray true).wpIn Fence.wide n P Q a w := by
  simp only [Region.lexB, Bool.and_eq_true] at hB
  refine ofAny_w hm hQ hd (wpAny_of_quiet (Q := fun a' => ∀ w', C w' → Q .normal a' w') (fun _ w' hw' h => h w' hw') _ _ _ _ hC ?_)
  have := wpAnyQ_lex (C := C) (md := .any) hB.1 l 0 (Array.replicate l.toArray.size false) a (by simp) (by simpa using hB.2) h
  simpa using this
/-- The walk in which loads may be taken first. -/
theorem held_w {S : World → Prop} {id : Nat} {a : Act} {w : World} {l : List Oper} (hm : P.follows .mixedOrders = true) (hQ : LetsOut Q → False) (hd : ∀ o ∈ l, ∀ c, o.op ≠ .defer c)
    (hS : S { w with drawn := w.drawn + 1 }) (h : S { w with drawn := w.drawn + 1 } → wpAnyH P .any l.toArray Q S l.toArray.size (Array.replicate l.toArray.size false) a { w with drawn := w.drawn + 1 }) : (Code.region id l.toArray true).wpIn Fence.wide n P Q a w :=
  ofAny_w hm hQ hd (wpAny_of_held _ _ _ _ (h hS))
end
/-! A scope that no goto leaves. -/
section
variable {F : Fence} {P : Program} {b : Frame} {a : Act} {k : List Item} {cs : List Frame} {w : World} {Q : Exit → Act → World → Prop} {n : Nat}
theorem stepR_scope12 {c : Code} : step P (lone (b.atR a (.code (.scope c) :: k)) cs w) = .next (lone (b.atR a (.code c :: .inScope c :: k)) cs w) := step_lone_go (by simp [stepG, stepG.exec, Frame.atR])
theorem stepR_inScope12 {c : Code} : step P (lone (b.atR a (.inScope c :: k)) cs w) = .next (lone (b.atR a k) cs w) := step_lone_go (by simp [stepG, stepG.exec, Frame.atR])
theorem wpIn_scope12 {c : Code} (h : c.wpIn F n P (Exit.noGoto Q) a w) : (Code.scope c).wpIn F n P Q a w := by
  intro b k cs hro hb hr
  have h0 : (lone (b.atR a (.code (.scope c) :: k)) cs w).fenced P F := fenced_calm hb hr rfl
  obtain ⟨e, a₁, w₁, hq, harr⟩ := h b (.inScope c :: k) cs hro hb hr
  cases e with
  | normal => exact ⟨.normal, a₁, w₁, hq, .head h0 stepR_scope12 (StepsIn.trans harr (.one (fenced_calm hb hr rfl) stepR_inScope12))⟩
  | exit id =>
    have hx : exitTo id (.inScope c :: k) = exitTo id k := by simp [exitTo]
    exact ⟨.exit id, a₁, w₁, hq, fun k' hk => .head h0 stepR_scope12 (harr.1 k' (by rw [hx]; exact hk)),
      fun hr' hk => let ⟨k₁, h1, h2⟩ := harr.2 hr' (by rw [hx]; exact hk); ⟨k₁, h1, .head h0 stepR_scope12 h2⟩⟩
  | goto l => exact hq.elim
  | ret => exact ⟨_, a₁, w₁, hq, .of_steps (.one h0 stepR_scope12) harr⟩
  | panic ch => exact ⟨_, a₁, w₁, hq, .of_steps (.one h0 stepR_scope12) harr⟩
  | outgrown => exact ⟨_, a₁, w₁, hq, .of_steps (.one h0 stepR_scope12) harr⟩
end
end Go.Proofs.YtblcpdffiafgnaaGreatDoor
