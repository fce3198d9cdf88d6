import Derived.OrdersIn
import Derived.OrdersHeld
import Derived.Test.YteeapmcpbmjpmaaGreatR9
namespace Go.Proofs.YteeapmcpbmjpmaaGreat
set_option maxRecDepth 100000
open Go.RowKit Go.Shelf
set_option linter.unusedVariables false

/-! A region that draws its order and calls a loop's body, inside a fence: what only reads may be taken first, as long as the body keeps what is read. -/
section
variable {P : Program} {ops : Array Oper} {Q : Exit → Act → World → Prop} {md : Region.Mode} {F : Fence} {n : Nat} {S : World → Prop}
/-- In every world that meets S it yields this value and does nothing else; it calls nothing. -/
def Yn (P : Program) (ops : Array Oper) (S : World → Prop) (o : Oper) (v : Value) (a : Act) : Prop := YieldsIf P ops S o v a ∧ ∀ w, o.about P w a.eval = none
def anyN (F : Fence) (n : Nat) (P : Program) (md : Region.Mode) (ops : Array Oper) (Q : Exit → Act → World → Prop) (S : World → Prop) : Nat → Array Bool → Act → World → Prop
  | 0, listed, a, w => Region.ready md ops listed = [] ∧ Q .normal a w
  | fuel + 1, listed, a, w => (Region.ready md ops listed = [] → Q .normal a w) ∧ ∀ i ∈ Region.ready md ops listed, wpOpIn F n P ops Q i (fun a' w' => S w' ∧ anyN F n P md ops Q S fuel (listed.setIfInBounds i true) a' w') a w
theorem anyN_any : ∀ (fuel : Nat) (listed : Array Bool) (a : Act) (w : World), anyN F n P md ops Q S fuel listed a w → wpAnyIn F n P md ops Q fuel listed a w
  | 0, _, _, _, h => h
  | fuel + 1, _, _, _, h => ⟨h.1, fun i hi => wpOpIn_mono (fun a w hk => anyN_any fuel _ a w hk.2) (h.2 i hi)⟩
theorem Yn.op {i : Nat} {o : Oper} {v : Value} {a : Act} (hro : F.round = none) (hi : ops[i]? = some o) (hy : Yn P ops S o v a) {K : Act → World → Prop} {w : World} (hS : S w) (h : K (a.put o.dst v) w) : wpOpIn F n P ops Q i K a w := by
  have hab : ∀ f, o.about P w a.eval = some f → F.fn f := fun f hf => by
    rw [hy.2 w] at hf
    cases hf
  unfold wpOpIn
  rw [hi]
  rcases hy.1 with ⟨hw, hv⟩ | ⟨hw, hv⟩
  · simp only [hw, if_true, Oper.wpIn, hro, Oper.semAt_none, hv w hS, Oper.uponIn]
    exact ⟨hab, h⟩
  · subst hv
    simp only [hw, Bool.false_eq_true, if_false]
    exact ⟨hab, h⟩
theorem Yn.same {o : Oper} {v : Value} {a a' : Act} (hy : Yn P ops S o v a) (he : execOp a'.eval o = execOp a.eval o) (hw : Region.wanted o (yielded ops a'.tmps) = Region.wanted o (yielded ops a.tmps)) (hb : ∀ w, o.about P w a'.eval = o.about P w a.eval) : Yn P ops S o v a' :=
  ⟨hy.1.of_same he hw, fun w => (hb w).trans (hy.2 w)⟩
/-- Whether its value is there already makes no difference to one that is apart from it. -/
theorem opN_put {j : Nat} {oi oj : Oper} {v : Value} (hro : F.round = none) (hj : ops[j]? = some oj) (hap : oi.apart ops oj = true) (hsi : ∀ cs b, oi.op ≠ .select cs b) (hsj : ∀ cs b, oj.op ≠ .select cs b)
    (hQ : ∀ c a w, Q (.panic c) (a.put oi.dst v) w → Q (.panic c) a w) {K : Act → World → Prop} {a : Act} {w : World} (hy : Yn P ops S oi v a) (h : wpOpIn F n P ops Q j K (a.put oi.dst v) w) :
    wpOpIn F n P ops Q j (fun a' w' => Yn P ops S oi v a' ∧ K (a'.put oi.dst v) w') a w := by
  obtain ⟨h1, h2, h3⟩ := Oper.apart_spec hap
  have kp : ∀ (a : Act), Yn P ops S oi v a → ∀ u, Yn P ops S oi v (a.put oj.dst u) := fun a hy u => hy.same (execOp_put oi hsi a oj.dst u h3) (wanted_put oi a oj.dst u h3) (fun w => about_put oi w a oj.dst u h3)
  have kd : ∀ d, Yn P ops S oi v { a with defers := d :: a.defers } := fun d => hy.same rfl rfl (fun _ => rfl)
  have fin : ∀ u w'', K ((a.put oi.dst v).put oj.dst u) w'' → Yn P ops S oi v (a.put oj.dst u) ∧ K ((a.put oj.dst u).put oi.dst v) w'' := fun u w'' hk => ⟨kp a hy u, by rw [← Act.put_comm a v u h2]; exact hk⟩
  have fe : ∀ (e : Ending) (w'' : World), (match e, w'' with | .returned u, w'' => K ((a.put oi.dst v).put oj.dst u) w'' | .panicked c, w'' => Q (.panic c) (a.put oi.dst v) w'' | .outgrown, _ => LetsOut Q) → (match e, w'' with | .returned u, w'' => Yn P ops S oi v (a.put oj.dst u) ∧ K ((a.put oj.dst u).put oi.dst v) w'' | .panicked c, w'' => Q (.panic c) a w'' | .outgrown, _ => LetsOut Q) := fun e w'' he => by
    cases e with
    | returned u => exact fin u w'' he
    | panicked c => exact hQ _ _ _ he
    | outgrown => exact he
  unfold wpOpIn at *
  rw [hj] at h ⊢
  simp only at h ⊢
  rw [wanted_put oj a oi.dst v h1, about_put oj w a oi.dst v h1] at h
  by_cases hw : Region.wanted oj (yielded ops a.tmps) = true
  · rw [if_pos hw] at h ⊢
    unfold Oper.wpIn at *
    rw [about_put oj w a oi.dst v h1, hro, Oper.semAt_none, execOp_put oj hsj a oi.dst v h1] at h
    rw [hro, Oper.semAt_none]
    refine ⟨h.1, ?_⟩
    replace h := h.2
    generalize (execOp a.eval oj).run P w = r at *
    cases r with
    | ok x w' =>
      cases x <;> simp only [Oper.uponIn] at h ⊢
      case value u => exact fin u w' h
      case skip => exact fin undef w' h
      case defer d =>
        refine ⟨kp _ (kd d) _, ?_⟩
        rw [← Act.put_comm _ v undef h2, ← Act.put_defers]
        exact h
      case enter f args => exact ⟨h.1, CallsIn.mono h.2 (fun e w'' he => by cases e with | returned u => exact fin u w'' he | panicked c => exact hQ _ _ _ he | outgrown => exact he)⟩
      case row row args => exact ⟨h.1, RowsIn.mono h.2 (fun u w'' he => fin u w'' he)⟩
      case round l f tmps assign body => exact ⟨h.1, RoundIn.mono h.2 (fun e w'' he => by cases e with | returned u => exact fin u w'' he | panicked c => exact hQ _ _ _ he | outgrown => exact he)⟩
    | halt x w' =>
      cases x <;> simp only [Oper.uponIn] at h ⊢
      case panic u => exact hQ _ _ _ h
  · rw [if_neg hw] at h ⊢
    exact ⟨h.1, fin undef w h.2⟩
theorem anyN_first {i : Nat} {oi : Oper} {v : Value} (hro : F.round = none) (hi : ops[i]? = some oi) (hsel : ∀ (j : Nat) (o : Oper) cs b, ops[j]? = some o → o.op ≠ .select cs b) (hQ : ∀ c a w, Q (.panic c) (a.put oi.dst v) w → Q (.panic c) a w) :
    ∀ (fuel : Nat) (listed : Array Bool) (a : Act) (w : World),
      (∀ j oj, ops[j]? = some oj → j ≠ i → listed.getD j true = false → (∀ e ∈ oj.after, Region.binds md e = true → e.on ≠ i) → oi.apart ops oj = true) →
      i ∈ Region.ready md ops listed → Yn P ops S oi v a → S w → anyN F n P md ops Q S fuel (listed.setIfInBounds i true) (a.put oi.dst v) w → anyN F n P md ops Q S (fuel + 1) listed a w := by
  intro fuel
  induction fuel with
  | zero =>
    intro listed a w _ hr hy hS H
    refine ⟨fun h => absurd hr (by rw [h]; simp), fun j hj => ?_⟩
    by_cases hji : j = i
    · subst hji
      exact hy.op hro hi hS ⟨hS, H⟩
    · have := ready_mono hj hji
      rw [H.1] at this
      cases this
  | succ fuel ih =>
    intro listed a w hfree hr hy hS H
    refine ⟨fun h => absurd hr (by rw [h]; simp), fun j hj => ?_⟩
    by_cases hji : j = i
    · subst hji
      exact hy.op hro hi hS ⟨hS, H⟩
    · have h1 := H.2 j (ready_mono hj hji)
      obtain ⟨hjun, oj, hoj, hall⟩ := mem_ready.1 hj
      have hnot : ∀ e ∈ oj.after, Region.binds md e = true → e.on ≠ i := fun e he hb heq => by
        have h1 := hall e he hb
        have h0 := (mem_ready.1 hr).1
        rw [heq] at h1
        rcases Nat.lt_or_ge i listed.size with h' | h'
        · simp [h'] at h0 h1
          rw [h0] at h1
          cases h1
        · simp [Array.getElem?_eq_none h'] at h1
      have h2 := opN_put hro hoj (hfree j oj hoj hji hjun hnot) (fun cs b => hsel i oi cs b hi) (fun cs b => hsel j oj cs b hoj) hQ hy h1
      refine wpOpIn_mono (fun a' w' h3 => ⟨h3.2.1, ih (listed.setIfInBounds j true) a' w' (fun k ok hk hki hun hno => hfree k ok hk hki ?_ hno) (ready_mono hr (Ne.symm hji)) h3.1 h3.2.1 ?_⟩) h2
      · by_cases hjk : j = k
        · subst hjk
          exact hjun
        · rw [getD_set_ne true hjk] at hun
          exact hun
      · rw [Array.setIfInBounds_comm _ _ hji]
        exact h3.2.2
/-- Take number i first. -/
theorem takeN {i : Nat} {oi : Oper} {fuel : Nat} {listed : Array Bool} {a : Act} {w : World} (d : Nat) (v : Value) (hro : F.round = none) (hi : ops[i]? = some oi) (hd : oi.dst = some d)
    (hs : Region.noSelect ops = true) (hf : Region.free md ops listed i = true) (hr : (Region.ready md ops listed).contains i = true) (hQ : ∀ c a w, Q (.panic c) (a.put oi.dst v) w → Q (.panic c) a w)
    (hy : YieldsIf P ops S oi v a) (hab : ∀ w, oi.about P w a.eval = none) (hS : S w) (h : anyN F n P md ops Q S fuel (listed.setIfInBounds i true) ⟨a.tmps.setIfInBounds d v, a.defers⟩ w) : anyN F n P md ops Q S (fuel + 1) listed a w :=
  anyN_first hro hi (Region.noSelect_spec hs) hQ fuel listed a w (Region.free_spec hi hf) (by simpa using hr) ⟨hy, hab⟩ hS (by rw [hd]; exact h)
/-- Two that read, in whichever order. -/
theorem readsN {i j : Nat} {oi oj : Oper} {fuel : Nat} {listed : Array Bool} {a : Act} {w : World} (di dj : Nat) (vi vj : Value) (hro : F.round = none) (hi : ops[i]? = some oi) (hj : ops[j]? = some oj) (hdi : oi.dst = some di) (hdj : oj.dst = some dj) (hij : i ≠ j) (hdd : di ≠ dj)
    (hr : Region.ready md ops listed = [i, j]) (hri : Region.ready md ops (listed.setIfInBounds i true) = [j]) (hrj : Region.ready md ops (listed.setIfInBounds j true) = [i])
    (y1 : YieldsIf P ops (fun w' => w' = w) oi vi a) (y2 : YieldsIf P ops (fun w' => w' = w) oj vj ⟨a.tmps.setIfInBounds di vi, a.defers⟩) (y3 : YieldsIf P ops (fun w' => w' = w) oj vj a) (y4 : YieldsIf P ops (fun w' => w' = w) oi vi ⟨a.tmps.setIfInBounds dj vj, a.defers⟩)
    (ai : ∀ (a : Act) w, oi.about P w a.eval = none) (aj : ∀ (a : Act) w, oj.about P w a.eval = none) (hS : S w)
    (h : anyN F n P md ops Q S fuel ((listed.setIfInBounds i true).setIfInBounds j true) ⟨(a.tmps.setIfInBounds di vi).setIfInBounds dj vj, a.defers⟩ w) : anyN F n P md ops Q S (fuel + 1 + 1) listed a w := by
  have e1 : ∀ v, a.put oi.dst v = ⟨a.tmps.setIfInBounds di v, a.defers⟩ := fun v => by rw [hdi]; rfl
  have e2 : ∀ v, a.put oj.dst v = ⟨a.tmps.setIfInBounds dj v, a.defers⟩ := fun v => by rw [hdj]; rfl
  refine ⟨fun h0 => (by rw [hr] at h0; cases h0), fun k hk => ?_⟩
  rw [hr] at hk
  simp only [List.mem_cons, List.not_mem_nil, or_false] at hk
  rcases hk with rfl | rfl
  · refine Yn.op (S := fun w' => w' = w) hro hi ⟨y1, ai a⟩ rfl ⟨hS, ?_⟩
    rw [e1]
    refine ⟨fun h0 => (by rw [hri] at h0; cases h0), fun k hk => ?_⟩
    rw [hri, List.mem_singleton] at hk
    subst hk
    refine Yn.op (S := fun w' => w' = w) hro hj ⟨y2, aj _⟩ rfl ⟨hS, ?_⟩
    rw [hdj]
    exact h
  · refine Yn.op (S := fun w' => w' = w) hro hj ⟨y3, aj a⟩ rfl ⟨hS, ?_⟩
    rw [e2]
    refine ⟨fun h0 => (by rw [hrj] at h0; cases h0), fun m hm => ?_⟩
    rw [hrj, List.mem_singleton] at hm
    subst hm
    refine Yn.op (S := fun w' => w' = w) hro hi ⟨y4, ai _⟩ rfl ⟨hS, ?_⟩
    rw [hdi, Array.setIfInBounds_comm _ _ (Ne.symm hij)]
    show anyN F n P md ops Q S fuel _ ⟨(a.tmps.setIfInBounds dj vj).setIfInBounds di vi, a.defers⟩ w
    rw [Array.setIfInBounds_comm _ _ (Ne.symm hdd)]
    exact h
/-- This one comes up. -/
theorem nextN {i : Nat} {o : Oper} {fuel : Nat} {listed : Array Bool} {a : Act} {w : World} (hr : Region.ready md ops listed = [i]) (ho : ops[i]? = some o)
    (h : ∀ K : Act → World → Prop, Shut (∀ a' w', S w' → (S w' → anyN F n P md ops Q S fuel (listed.setIfInBounds i true) a' w') → K a' w') → if Region.wanted o (yielded ops a.tmps) = true then Oper.wpIn F n P o a w K Q else (∀ f, o.about P w a.eval = some f → F.fn f) ∧ K (a.put o.dst undef) w) : anyN F n P md ops Q S (fuel + 1) listed a w := by
  refine ⟨fun h0 => (by rw [hr] at h0; cases h0), fun j hj => ?_⟩
  rw [hr, List.mem_singleton] at hj
  subst hj
  unfold wpOpIn
  rw [ho]
  exact h _ (fun a' w' hs hk => ⟨hs, hk hs⟩)
/-- This one comes up and is passed over. -/
theorem skipN {i : Nat} {o : Oper} {fuel : Nat} {listed : Array Bool} {a : Act} {w : World} (d : Nat) (hr : Region.ready md ops listed = [i]) (ho : ops[i]? = some o) (hd : o.dst = some d) (hw : Region.wanted o (yielded ops a.tmps) = false) (hF : ∀ f, F.fn f) (hS : S w)
    (h : anyN F n P md ops Q S fuel (listed.setIfInBounds i true) ⟨a.tmps.setIfInBounds d undef, a.defers⟩ w) : anyN F n P md ops Q S (fuel + 1) listed a w := by
  refine ⟨fun h0 => (by rw [hr] at h0; cases h0), fun j hj => ?_⟩
  rw [hr, List.mem_singleton] at hj
  subst hj
  unfold wpOpIn
  rw [ho]
  simp only [hw, Bool.false_eq_true, if_false]
  refine ⟨fun f _ => hF f, hS, ?_⟩
  rw [hd]
  exact h
theorem doneN {listed : Array Bool} {a : Act} {w : World} (hr : Region.ready md ops listed = []) (h : Q .normal a w) : ∀ fuel, anyN F n P md ops Q S fuel listed a w
  | 0 => ⟨hr, h⟩
  | _ + 1 => ⟨fun _ => h, by rw [hr]; simp⟩
theorem regionN {id : Nat} {a : Act} {w : World} (hm : P.follows .mixedOrders = true) (hS : S { w with drawn := w.drawn + 1 })
    (h : S { w with drawn := w.drawn + 1 } → anyN F n P .any ops Q S ops.size (Array.replicate ops.size false) a { w with drawn := w.drawn + 1 }) : (Code.region id ops true).wpIn F n P Q a w :=
  wpIn_region_any hm (anyN_any _ _ _ _ (h hS))
end
end Go.Proofs.YteeapmcpbmjpmaaGreat
namespace Go.Proofs.YteeapmcpbmjpmaaGreat
set_option maxRecDepth 100000
open Go.RowKit Go.Shelf
set_option linter.unusedVariables false

/-! A range over a function that writes blocks of its own between two rounds. -/
/-- Blocks outside R are as they were. -/
structure Fr (R : Nat → Prop) (w w' : World) : Prop where
  os : w'.os = w.os
  tape : w'.tape = w.tape
  output : w'.output = w.output
  size : w.heap.size ≤ w'.heap.size
  same : ∀ b, b < w.heap.size → ¬ R b → w'.heap[b]? = w.heap[b]?
theorem Fr.ofB {R : Nat → Prop} {w w' : World} (h : Below w.heap.size w w') : Fr R w w' := ⟨h.os, h.tape, h.output, h.size, fun b hb _ => h.block b hb⟩
/-- How a round's body may be left. -/
def post12 {α : Type} (B : Nat) (K : World → World → Prop) (I Ix : List α → World → Prop) (xs : List α) (W : World) : Exit → Act → World → Prop
  | .normal, _, W' => KeepsFrom B W W' ∧ K W W' ∧ I xs W'
  | .ret, _, W' => KeepsFrom B W W' ∧ K W W' ∧ Ix xs W'
  | _, _, _ => False
/-- Bookkeeping of the loop's record does not touch it. -/
def Bk12 {α : Type} (B : Nat) (I : List α → World → Prop) : Prop := ∀ pre W l o', I pre W → B ≤ l → (∃ o, W.heap[l]? = some o ∧ o.isCells = false) → I pre (W.putObj l o')
theorem wpIn_range12 {α : Type} {P : Program} {n : Nat} {g : Operand} {ps : Array Tmp} {assign body : Code} {Q : Exit → Act → World → Prop} {a : Act} {w : World} (h1 : 1 ≤ n) {gf : Nat} {lb : Array Value} (hg : a.eval g = .func (.func gf) #[] lb) (eg : ∀ args w, (callFunc gf args).run P w = .ok (.enter gf args) w)
    {encs : α → Array Value} (Px : List α → α → World → Prop) (hps : ∀ x, (encs x).size = ps.size) (R : Nat → Prop) (K : World → World → Prop) (hR : ∀ b, R b → b < w.heap.size) (hKt : ∀ {A B C : World}, K A B → K B C → K A C) (hKb : ∀ (W : World) (l : Nat) (o' : Obj), w.heap.size ≤ l → (∃ o, W.heap[l]? = some o ∧ o.isCells = false) → K W (W.putObj l o')) (Fin FinX : List α → World → Prop) (hF : Bk12 w.heap.size Fin) (hFX : Bk12 w.heap.size FinX)
    (hit : ∀ (l : Nat) (J Jx : List α → World → Prop) (W1 : World), Below w.heap.size w W1 → (∀ pre A B, J pre A → Fr R A B → J pre B) →
      (∀ pre x A, J pre A → Px pre x A → YieldAt Fence.wide (n - 1 - 1) P l (encs x) A fun e B => (e = .returned (.bool true) ∧ J (pre ++ [x]) B ∧ K A B) ∨ (e = .returned (.bool false) ∧ Jx (pre ++ [x]) B ∧ K A B)) → J [] W1 →
      CallsIn Fence.wide (n - 1) P gf (#[.func (.yield l) #[] #[]] ++ lb) W1 fun e W' => (∃ v, e = .returned v) ∧ ((∃ xs, J xs W' ∧ Fin xs W') ∨ (∃ pre, Jx pre W' ∧ FinX pre W')))
    (I Ix : List α → World → Prop) (hI : Bk12 w.heap.size I) (hIa : ∀ pre W o, I pre W → I pre (W.alloc o)) (hIx : Bk12 w.heap.size Ix) (hIf : ∀ pre A B, I pre A → Fr R A B → I pre B) (h0 : I [] w) (Ax : List α → α → Act → World → Prop) (hAx : ∀ pre x a' W l o', Ax pre x a' W → w.heap.size ≤ l → (∃ o, W.heap[l]? = some o ∧ o.isCells = false) → Ax pre x a' (W.putObj l o'))
    (hassign : ∀ (l : Nat) (pre : List α) (x : α) (W : World) (K' : Act → World → Prop), I pre W → Px pre x W → (∀ a' W', KeepsFrom w.heap.size W W' → K W W' → I pre W' → Ax pre x a' W' → K' a' W') →
      assign.wpIn (Fence.wide.inRound l) (n - 1 - 1) P (Exit.then K' (fun _ _ _ => False)) { tmps := (ps.zip (encs x)).foldl (fun t (p, v) => t.setIfInBounds p v) a.tmps, defers := [] } W)
    (hbody : ∀ (l : Nat) (pre : List α) (x : α) (a' : Act) (W : World), w.heap.size ≤ l → I pre W → Ax pre x a' W → body.wpIn (Fence.wide.inRound l) (n - 1 - 1) P (post12 w.heap.size K I Ix (pre ++ [x]) W) a' W)
    (hdone : ∀ (D : Nat) (xs : List α) (W : World), w.heap.size ≤ D → I xs W → Fin xs W → W.heap[D]? = some (.deferred (some [])) → Q .normal { a with defers := { target := .collected D, args := #[] } :: a.defers } W)
    (hstop : ∀ (D : Nat) (pre : List α) (W : World), w.heap.size ≤ D → Ix pre W → FinX pre W → W.heap[D]? = some (.deferred (some [])) → Code.ret.wpIn Fence.wide n P Q { a with defers := { target := .collected D, args := #[] } :: a.defers } W) :
    (Code.rangeFunc g ps assign body).wpIn Fence.wide n P Q a w := by
  refine wpIn_rangeFunc ?_
  intro fn hfn
  have nR : ∀ b, w.heap.size ≤ b → ¬ R b := fun b hb q => by have := hR b q; omega
  obtain ⟨rc, hrc⟩ : ∃ rc : LoopState → Option Code → Loop, rc = fun st pe => { state := st, pending := pe, fn, tmps := a.tmps, params := ps, assign, body, defers := w.heap.size } := ⟨_, rfl⟩
  obtain ⟨W1, hW1⟩ : ∃ W1, (w.alloc (.deferred (some []))).alloc (.loop (rc .ready none)) = W1 := ⟨_, rfl⟩
  have hL1 : W1.heap[w.heap.size + 1]? = some (.loop (rc .ready none)) := by
    rw [← hW1]
    have := World.alloc_heap_new (w.alloc (.deferred (some []))) (.loop (rc .ready none))
    rwa [World.size_alloc] at this
  have hD1 : W1.heap[w.heap.size]? = some (.deferred (some [])) := by
    rw [← hW1]
    exact (Below.heap_alloc _ _ _ (by simp)).trans (World.alloc_heap_new w _)
  have hI1 : I [] W1 := by rw [← hW1]; exact hIa _ _ _ (hIa _ _ _ h0)
  have hB1 : Below w.heap.size w W1 := by rw [← hW1]; exact ((Below.refl _ w).alloc (Nat.le_refl _) _).alloc (by simp) _
  refine ⟨w.heap.size + 1, [{ target := .collected w.heap.size, args := #[] }], W1, { target := .fn (.func gf) lb, args := #[.func (.yield (w.heap.size + 1)) #[] #[]] }, W1, gf, #[.func (.yield (w.heap.size + 1)) #[] #[]] ++ lb, W1, ?_, ?_, ?_, ?_, fun _ => h1, ?_⟩
  · rw [← hW1, hrc]
    exact run_enterLoop_outer _ _ _ _ _
  · simp only [resolve, hg]
    simp [go_sem]
  · intro f' _
    trivial
  · simp [invoke, go_sem, eg]
  · refine (hit (w.heap.size + 1)
      (fun pre W => I pre W ∧ W.heap[w.heap.size + 1]? = some (.loop (rc .ready none)) ∧ W.heap[w.heap.size]? = some (.deferred (some [])))
      (fun pre W => Ix pre W ∧ W.heap[w.heap.size + 1]? = some (.loop (rc .done (some .ret))) ∧ W.heap[w.heap.size]? = some (.deferred (some [])))
      W1 hB1 (fun pre A B hJ hf => ?_) ?_ ⟨hI1, hL1, hD1⟩).mono ?_
    · have lt : ∀ {b : Nat} {o : Obj}, A.heap[b]? = some o → b < A.heap.size := fun h => (Array.getElem?_eq_some_iff.1 h).1
      exact ⟨hIf pre A B hJ.1 hf, (hf.same _ (lt hJ.2.1) (nR _ (by omega))).trans hJ.2.1, (hf.same _ (lt hJ.2.2) (nR _ (Nat.le_refl _))).trans hJ.2.2⟩
    · rintro pre x W ⟨hi, hl, hd⟩ hpx
      have hy := run_yield (P := P) (args := encs x) hl (by rw [hrc]; exact hps x)
      rw [hrc] at hy
      refine ⟨fn, _, assign, body, hy, roundIn_of_wpIn hfn (hassign _ pre x W _ hi hpx ?_)⟩
      clear hy
      intro a' Wa hka hpa hia hax
      have hla := hka.same _ _ (by omega) hl rfl
      have hda := hka.same _ _ (Nat.le_refl _) hd rfl
      have hlt : w.heap.size + 1 < Wa.heap.size := (Array.getElem?_eq_some_iff.1 hla).1
      refine ⟨_, run_beginRound hla (by rw [hrc]), ?_⟩
      have hl2 : (Wa.putObj (w.heap.size + 1) (.loop { rc .ready none with state := .busy })).heap[w.heap.size + 1]? = some (.loop { rc .ready none with state := .busy }) := World.putObj_heap_same hlt
      have hd2 : (Wa.putObj (w.heap.size + 1) (.loop { rc .ready none with state := .busy })).heap[w.heap.size]? = some (.deferred (some [])) := (World.putObj_heap_other (by omega)).trans hda
      have hk2 : K Wa (Wa.putObj (w.heap.size + 1) (.loop { rc .ready none with state := .busy })) := hKb _ _ _ (by omega) ⟨_, hla, rfl⟩
      refine wpIn_mono (hbody _ pre x a' _ (by omega) (hI _ _ _ _ hia (by omega) ⟨_, hla, rfl⟩) (hAx _ _ _ _ _ _ hax (by omega) ⟨_, hla, rfl⟩)) ?_
      have fin : ∀ (jump : Option Code) (W3 : World), KeepsFrom w.heap.size (Wa.putObj (w.heap.size + 1) (.loop { rc .ready none with state := .busy })) W3 →
          (Instr.endRound (w.heap.size + 1) jump).run P W3 = .ok (.bool jump.isNone) (W3.putObj (w.heap.size + 1) (.loop (rc (if jump.isNone then .ready else .done) jump))) ∧
          W3.heap[w.heap.size + 1]? = some (.loop { rc .ready none with state := .busy }) ∧
          (W3.putObj (w.heap.size + 1) (.loop (rc (if jump.isNone then .ready else .done) jump))).heap[w.heap.size + 1]? = some (.loop (rc (if jump.isNone then .ready else .done) jump)) ∧
          (W3.putObj (w.heap.size + 1) (.loop (rc (if jump.isNone then .ready else .done) jump))).heap[w.heap.size]? = some (.deferred (some [])) := fun jump W3 hk3 => by
        have hl3 := hk3.same _ _ (by omega) hl2 rfl
        have := run_endRound (P := P) jump hl3
        rw [hrc] at this ⊢
        exact ⟨this, by rw [hrc] at hl3; exact hl3, World.putObj_heap_same (Array.getElem?_eq_some_iff.1 hl3).1, (World.putObj_heap_other (by omega)).trans (hk3.same _ _ (Nat.le_refl _) hd2 rfl)⟩
      rintro e a3 W3 hp
      cases e with
      | normal =>
        obtain ⟨hk3, hkp3, hi3⟩ := hp
        obtain ⟨hr, hl3, hl4, hd4⟩ := fin none W3 hk3
        exact ⟨_, _, hr, .inl ⟨rfl, ⟨hI _ _ _ _ hi3 (by omega) ⟨_, hl3, rfl⟩, hl4, hd4⟩, hKt hpa (hKt hk2 (hKt hkp3 (hKb _ _ _ (by omega) ⟨_, hl3, rfl⟩)))⟩⟩
      | ret =>
        obtain ⟨hk3, hkp3, hi3⟩ := hp
        obtain ⟨hr, hl3, hl4, hd4⟩ := fin (some .ret) W3 hk3
        exact ⟨_, _, hr, .inr ⟨rfl, ⟨hIx _ _ _ _ hi3 (by omega) ⟨_, hl3, rfl⟩, hl4, hd4⟩, hKt hpa (hKt hk2 (hKt hkp3 (hKb _ _ _ (by omega) ⟨_, hl3, rfl⟩)))⟩⟩
      | exit id => exact hp.elim
      | goto t => exact hp.elim
      | panic ch => exact hp.elim
      | outgrown => exact hp.elim
    · rintro e W2 ⟨⟨v, rfl⟩, (⟨xs, ⟨hi, hl, hd⟩, hf⟩ | ⟨pre, ⟨hi, hl, hd⟩, hf⟩)⟩
      · exact ⟨none, _, by have := run_endLoop (P := P) hl (by rw [hrc]; simp); rw [hrc] at this; exact this, hdone _ xs _ (Nat.le_refl _) (hI _ _ _ _ hi (by omega) ⟨_, hl, rfl⟩) (hF _ _ _ _ hf (by omega) ⟨_, hl, rfl⟩) ((World.putObj_heap_other (by omega)).trans hd)⟩
      · exact ⟨some .ret, _, by have := run_endLoop (P := P) hl (by rw [hrc]; simp); rw [hrc] at this; exact this, hstop _ pre _ (Nat.le_refl _) (hIx _ _ _ _ hi (by omega) ⟨_, hl, rfl⟩) (hFX _ _ _ _ hf (by omega) ⟨_, hl, rfl⟩) ((World.putObj_heap_other (by omega)).trans hd)⟩
end Go.Proofs.YteeapmcpbmjpmaaGreat
namespace Go.Proofs.YteeapmcpbmjpmaaGreat
set_option maxRecDepth 100000
open Go.RowKit Go.Shelf Go.Maps
set_option linter.unusedVariables false
attribute [local go_sem] Oper.semAt_some

/-- What the body of a loop over a table keeps: what was gathered, and each block of a row. -/
structure Kt (V : Nat → Prop) (W W' : World) : Prop where
  size : W.heap.size ≤ W'.heap.size
  same : ∀ b, V b → W'.heap[b]? = W.heap[b]?
  rows : ∀ (k : Nat) (cur : Array Value) (fl : Nat × Nat), W.heap[k]? = some (Obj.cells cur 55 fl) → W'.heap[k]? = some (Obj.cells cur 55 fl)
theorem Kt.trans {V : Nat → Prop} {A B C : World} (h : Kt V A B) (k : Kt V B C) : Kt V A C := ⟨Nat.le_trans h.size k.size, fun b hb => (k.same b hb).trans (h.same b hb), fun q cur fl e => k.rows q cur fl (h.rows q cur fl e)⟩
theorem Kt.put {V : Nat → Prop} {B : Nat} (hV : ∀ b, V b → b < B) (W : World) (l : Nat) (o' : Obj) (hl : B ≤ l) (ho : ∃ o, W.heap[l]? = some o ∧ o.isCells = false) : Kt V W (W.putObj l o') := by
  obtain ⟨o, ho, hc⟩ := ho
  refine ⟨(grownBy_putObj' W l o').size, fun b hb => ?_, fun k cur fl e => ?_⟩
  · exact World.putObj_heap_other (by have := hV b hb; omega)
  · refine (World.putObj_heap_other (fun f => ?_)).trans e
    subst f
    rw [ho] at e
    cases e
    cases hc
/-- What is yielded. -/
structure Px13 (M : Tab) (B0 : Nat) (pre : List (Value × Value)) (x : Value × Value) (W : World) : Prop where
  lt : pre.length < M.length
  own : ∃ B B2, B0 ≤ B ∧ W.ownsRow B 5 1 x.1 (M.getD pre.length ([], [])).1.length (cells (M.getD pre.length ([], [])).1) ∧ B ≤ B2 ∧ (∀ q, x.1.ownBlock = some q → q < B2) ∧ W.ownsRow B2 5 1 x.2 (M.getD pre.length ([], [])).2.length (cells (M.getD pre.length ([], [])).2)
set_option maxHeartbeats 8000000 in
theorem all1In_ (nf : Nat) (hnf : 1 ≤ nf) (lp gl B0 : Nat) (a : Option Addr) (n c : Nat) (V : Nat → Prop) (M : Tab) (hT : Tok M) (hn : n = M.length) (hnm : n ≤ 1000000000) (J Jx : List (Value × Value) → World → Prop)
    (hJ : ∀ pre A B, J pre A → Below A.heap.size A B → J pre B)
    (hY : ∀ pre x A, J pre A → Px13 M B0 pre x A → YieldAt Fence.wide (nf - 1) Tryz.prog lp #[x.1, x.2] A fun e B => (e = .returned (.bool true) ∧ J (pre ++ [x]) B ∧ Kt V A B) ∨ (e = .returned (.bool false) ∧ Jx (pre ++ [x]) B ∧ Kt V A B))
    (W : World) (hB0 : B0 ≤ W.heap.size) (h0 : J [] W) (hG : Gd W V gl a n c M) :
    CallsIn Fence.wide nf Tryz.prog 61 #[.func (.yield lp) #[] #[], .pointer (some ⟨gl, 0, none⟩)] W fun e W' => (∃ v, e = .returned v) ∧ ((∃ xs, J xs W' ∧ xs.length = M.length) ∨ (∃ pre, Jx pre W' ∧ True)) := by
  have hmx : Tryz.prog.follows .mixedOrders = true := by kernel_rfl
  have c0 : W.cell? ⟨gl, 0, none⟩ = some (.slice a n c) := by rw [cell_of_row W gl 0 _ 28 (0, 0) hG.cell]; rfl
  have HJ := hid hJ
  have HY := hid hY
  have HT := hid hT
  have HN := hid hn
  have HG := hid hG
  have HJ0 := hid h0
  have HB0 := hid hB0
  clear hJ hY hT hn hG h0 hB0
  refine callsIn_of_wp Tryz.func61 rfl trivial ?_ rfl
  simp only [Tryz.ntmps61, List.size_toArray, List.length_cons, List.length_nil, Nat.reduceAdd, Nat.reduceSub, Array.replicate_succ, Array.replicate_zero, List.push_toArray, List.append_toArray, List.nil_append, List.cons_append]
  gi_wp2
  gi_loopw [7] (fun i wr => ∃ (j : Nat) (xs : List (Value × Value)), j ≤ n ∧ i = .int .i64 j ∧ xs.length = j ∧ Hid (J xs wr) ∧ Hid (Gd wr V gl a n c M) ∧ Hid (B0 ≤ wr.heap.size)) (fun i _ => n - (intOf i).toNat)
  case atStart => exact ⟨0, [], Nat.zero_le _, rfl, rfl, HJ0, HG, HB0⟩
  case round =>
    clear HJ0 HG HB0 c0
    obtain ⟨j, xs, hj, rfl, hxs, HJS, HGS, HBS⟩ := hrel
    by_cases hlt : j < n
    · have hIl : (j : Int) < n := by omega
      obtain ⟨bl, off, ka, kc, va, vc, kn, vn, rfl, hkn, hvn, c1, c2, v1, v2⟩ := HGS.out.rl.at hlt
      have hm := tab_mem (M := M) (k := j) (by rw [← HN.out]; exact hlt)
      have hkl : kn ≤ 40 := by rw [hkn]; exact (HT.out.key _ hm).2.2
      have hvl : vn ≤ 480 := by rw [hvn]; exact (HT.out.val _ hm).2
      obtain ⟨o, HOB⟩ : ∃ o, Hid (Obj.cells #[.slice ka kn kc, .slice va vn vc] 55 = o) := ⟨_, rfl⟩
      have BA : Below wr.heap.size wr (wr.alloc o).drew := ((Below.refl wr.heap.size wr).alloc (Nat.le_refl _) o).trans ⟨rfl, rfl, rfl, Nat.le_refl _, fun _ _ => rfl⟩
      have HBA := hid BA
      have hnw : (wr.alloc o).drew.heap[wr.heap.size]? = some o := heap_alloc_new wr o
      have hsz : (wr.alloc o).drew.heap.size = wr.heap.size + 1 := by show (wr.alloc o).heap.size = _; simp
      have HSZ := hid hsz
      have V1 := hid v1
      have V2 := hid v2
      have hcc := fun {wx : World} (h : wx.heap[wr.heap.size]? = some o) => (show wx.cell? ⟨wr.heap.size, 0, none⟩ = some (.slice ka kn kc) ∧ wx.cell? ⟨wr.heap.size, 1, none⟩ = some (.slice va vn vc) from by rw [← HOB.out] at h; exact ⟨by rw [cell_of_row wx wr.heap.size 0 _ 55 (0, 0) h]; rfl, by rw [cell_of_row wx wr.heap.size 1 _ 55 (0, 0) h]; rfl⟩)
      have HNW := hid hnw
      have HPX : Hid (∀ x A, ∀ B B2, B0 ≤ B → A.ownsRow B 5 1 x.1 kn (cells (M.getD j ([], [])).1) → B ≤ B2 → (∀ q, x.1.ownBlock = some q → q < B2) → A.ownsRow B2 5 1 x.2 vn (cells (M.getD j ([], [])).2) → Px13 M B0 xs x A) := fun x A B B2 h1 h2 h3 h4 h5 => ⟨by rw [hxs, ← HN.out]; exact hlt, B, B2, h1, by rw [hxs, ← hkn]; exact h2, h3, h4, by rw [hxs, ← hvn]; exact h5⟩
      obtain ⟨K, HK⟩ : ∃ K, Hid ((M.getD j ([], [])).1 = K) := ⟨_, rfl⟩
      obtain ⟨U, HU⟩ : ∃ U, Hid ((M.getD j ([], [])).2 = U) := ⟨_, rfl⟩
      rw [HK.out] at V1 HPX
      rw [HU.out] at V2 HPX
      have kk := fun wx (h1 : Bs wx ka kn K) => bclone_ ka kn kc K wx h1 V1.out.nil V1.out.nc (by omega)
      have kv := fun wx (h1 : Bs wx va vn U) => bclone_ va vn vc U wx h1 V2.out.nil V2.out.nc (by omega)
      rw [← HOB.out] at HBA HNW HSZ
      have hS0 := hcc (HOB.out ▸ HNW.out)
      rw [← HOB.out] at hS0
      clear v1 v2 hkn hvn hm BA hnw hsz
      gi_wp2
      refine regionN (S := fun wx => wx.cell? ⟨wr.heap.size, 0, none⟩ = some (.slice ka kn kc) ∧ wx.cell? ⟨wr.heap.size, 1, none⟩ = some (.slice va vn vc)) hmx hS0 (fun hHeld => ?_)
      clear hHeld
      change anyN _ _ _ _ _ _ _ _ _ _ (wr.alloc (.cells #[.slice ka kn kc, .slice va vn vc] 55)).drew
      generalize (wr.alloc (.cells #[.slice ka kn kc, .slice va vn vc] 55)).drew = wd at *
      refine takeN (i := 0) 11 (.func (.yield lp) #[] #[]) rfl rfl rfl (by kernel_rfl) (by kernel_rfl) (by kernel_rfl) (fun _ _ _ h => h) (Or.inl ⟨by kernel_rfl, fun w' h => ?_⟩) (fun _ => rfl) hS0 ?_
      · go_simp
      try simp only [List.setIfInBounds_toArray, List.set_cons_zero, List.set_cons_succ]
      refine takeN (i := 1) 12 (.pointer (some ⟨wr.heap.size, 0, none⟩)) rfl rfl rfl (by kernel_rfl) (by kernel_rfl) (by kernel_rfl) (fun _ _ _ h => h) (Or.inl ⟨by kernel_rfl, fun w' h => ?_⟩) (fun _ => rfl) hS0 ?_
      · go_simp
      try simp only [List.setIfInBounds_toArray, List.set_cons_zero, List.set_cons_succ]
      refine takeN (i := 2) 13 (.slice ka kn kc) rfl rfl rfl (by kernel_rfl) (by kernel_rfl) (by kernel_rfl) (fun _ _ _ h => h) (Or.inl ⟨by kernel_rfl, fun w' h => ?_⟩) (fun _ => rfl) hS0 ?_
      · obtain ⟨h1, h2⟩ := h; go_simp
      try simp only [List.setIfInBounds_toArray, List.set_cons_zero, List.set_cons_succ]
      refine takeN (i := 4) 15 (.pointer (some ⟨wr.heap.size, 1, none⟩)) rfl rfl rfl (by kernel_rfl) (by kernel_rfl) (by kernel_rfl) (fun _ _ _ h => h) (Or.inl ⟨by kernel_rfl, fun w' h => ?_⟩) (fun _ => rfl) hS0 ?_
      · go_simp
      try simp only [List.setIfInBounds_toArray, List.set_cons_zero, List.set_cons_succ]
      refine takeN (i := 5) 16 (.slice va vn vc) rfl rfl rfl (by kernel_rfl) (by kernel_rfl) (by kernel_rfl) (fun _ _ _ h => h) (Or.inl ⟨by kernel_rfl, fun w' h => ?_⟩) (fun _ => rfl) hS0 ?_
      · obtain ⟨h1, h2⟩ := h; go_simp
      try simp only [List.setIfInBounds_toArray, List.set_cons_zero, List.set_cons_succ]
      refine nextN (i := 3) (by kernel_rfl) rfl (fun K1 hK1 => ?_)
      rw [if_pos (by kernel_rfl)]
      gi_wp2
      refine ⟨trivial, (callsIn_wide.2 (kk wd (V1.out.bs.below HBA.out))).mono ?_⟩
      rintro e w2 ⟨kv1, rfl, o2, g2⟩
      have HN2 := hid ((g2.block wr.heap.size (by rw [HSZ.out]; omega)).trans HNW.out)
      have hS2 := hcc (HOB.out ▸ HN2.out)
      have HB2 : Hid (Below wr.heap.size wr w2) := HBA.out.trans ⟨g2.os, g2.tape, g2.output, g2.size, fun x hx => g2.block x (by rw [HSZ.out]; omega)⟩
      have HS2 : Hid (wr.heap.size + 1 ≤ w2.heap.size) := by have := g2.size; rw [HSZ.out] at this; exact this
      have HO2 := hid o2
      rw [HSZ.out] at HO2
      clear o2 g2 kk
      refine hK1.out _ _ hS2 (fun _ => ?_)
      clear hK1 K1 hS0
      try simp only [Act.put, List.setIfInBounds_toArray, List.set_cons_zero, List.set_cons_succ]
      refine nextN (i := 6) (by kernel_rfl) rfl (fun K1 hK1 => ?_)
      rw [if_pos (by kernel_rfl)]
      gi_wp2
      refine ⟨trivial, (callsIn_wide.2 (kv w2 (V2.out.bs.below HB2.out))).mono ?_⟩
      rintro e w3 ⟨vv1, rfl, o3, g3⟩
      have HN3 := hid ((g3.block wr.heap.size (by have := HS2.out; omega)).trans HN2.out)
      have hS3 := hcc (HOB.out ▸ HN3.out)
      have HB3 : Hid (Below wr.heap.size wr w3) := HB2.out.trans ⟨g3.os, g3.tape, g3.output, g3.size, fun x hx => g3.block x (by have := HS2.out; omega)⟩
      have HKB : Hid (∀ q, kv1.ownBlock = some q → q < w2.heap.size) := fun q e => (HO2.out.lt q e).2
      have HO3 := hid (own_bel HO2.out g3)
      have HO4 := hid o3
      clear o3 g3 kv HO2
      refine hK1.out _ _ hS3 (fun _ => ?_)
      clear hK1 K1 hS2
      try simp only [Act.put, List.setIfInBounds_toArray, List.set_cons_zero, List.set_cons_succ]
      have HP3 := hid (HPX.out (kv1, vv1) w3 (wr.heap.size + 1) w2.heap.size (by have := HBS.out; omega) HO3.out HS2.out HKB.out HO4.out)
      have HJ3 := hid (HJ.out xs wr w3 HJS.out HB3.out)
      have HG3 := hid (HGS.out.below HB3.out)
      refine nextN (i := 7) (by kernel_rfl) rfl (fun K1 hK1 => ?_)
      rw [if_pos (by kernel_rfl)]
      obtain ⟨fn, tmps, assign, body, hy', hR⟩ := HY.out xs (kv1, vv1) w3 HJ3.out HP3.out
      have hy' : _ := hy'
      simp only at hy'
      gi_wp2
      refine hR.mono ?_
      rintro e w4 (⟨rfl, hJ4, hk4⟩ | ⟨rfl, hJ4, hk4⟩)
      · have HN4 := hid (hk4.rows _ _ _ HN3.out)
        have hS4 := hcc (HOB.out ▸ HN4.out)
        have HJ4 := hid hJ4
        have HG4 : Hid (Gd _ V gl (some ⟨bl, off, none⟩) n c M) := HG3.out.step fun x _ hx _ => hk4.same x hx
        have HZ4 : Hid (B0 ≤ _) := Nat.le_trans (Nat.le_trans HBS.out HB3.out.size) hk4.size
        clear hk4 hJ4 hy' hR hS3
        refine hK1.out _ _ hS4 (fun _ => ?_)
        clear hK1 K1
        try simp only [Act.put, List.setIfInBounds_toArray, List.set_cons_zero, List.set_cons_succ]
        refine takeN (i := 8) 19 (.bool false) rfl rfl rfl (by kernel_rfl) (by kernel_rfl) (by kernel_rfl) (fun _ _ _ h => h) (Or.inl ⟨by kernel_rfl, fun w' h => ?_⟩) (fun _ => rfl) hS4 ?_
        · clear h; go_simp
        try simp only [List.setIfInBounds_toArray, List.set_cons_zero, List.set_cons_succ]
        refine doneN (by kernel_rfl) ?_ _
        clear hS4
        gi_wp2
        go_roundw
        case rel => exact ⟨j + 1, xs ++ [(kv1, vv1)], by omega, by go_num, by rw [List.length_append, hxs]; rfl, HJ4, HG4, HZ4⟩
        case measure => simp [intOf]; omega
      · have HN4 := hid (hk4.rows _ _ _ HN3.out)
        have hS4 := hcc (HOB.out ▸ HN4.out)
        have HJ4 := hid hJ4
        have HG4 : Hid (Gd _ V gl (some ⟨bl, off, none⟩) n c M) := HG3.out.step fun x _ hx _ => hk4.same x hx
        have HZ4 : Hid (B0 ≤ _) := Nat.le_trans (Nat.le_trans HBS.out HB3.out.size) hk4.size
        clear hk4 hJ4 hy' hR hS3
        refine hK1.out _ _ hS4 (fun _ => ?_)
        clear hK1 K1
        try simp only [Act.put, List.setIfInBounds_toArray, List.set_cons_zero, List.set_cons_succ]
        refine takeN (i := 8) 19 (.bool true) rfl rfl rfl (by kernel_rfl) (by kernel_rfl) (by kernel_rfl) (fun _ _ _ h => h) (Or.inl ⟨by kernel_rfl, fun w' h => ?_⟩) (fun _ => rfl) hS4 ?_
        · clear h; go_simp
        try simp only [List.setIfInBounds_toArray, List.set_cons_zero, List.set_cons_succ]
        refine doneN (by kernel_rfl) ?_ _
        clear hS4
        gi_wp2
        (try simp only [Exit.inBlock, Exit.then]); refine bodyPost_ret (results_none rfl _ _ _) rfl ?_
        exact ⟨⟨_, rfl⟩, .inr ⟨_, HJ4.out, trivial⟩⟩
    · have hIl : ¬ (j : Int) < n := by omega
      obtain rfl : j = n := by omega
      gi_wp2
      go_end0
      exact ⟨⟨_, rfl⟩, .inl ⟨xs, HJS.out, by rw [hxs, HN.out]⟩⟩
end Go.Proofs.YteeapmcpbmjpmaaGreat
