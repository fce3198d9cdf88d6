import Derived.OrdersIn
import Derived.OrdersHeld
import Derived.Test.YtghehfhkiknjhaaR9
namespace Go.Proofs.Ytghehfhkiknjhaa
set_option maxRecDepth 100000
open Go.RowKit Go.Shelf
set_option linter.unusedVariables false

/-! A region that draws its order and calls a loop's body, inside a fence: what only reads may be taken first, as long as the body keeps what is read. -/
section
variable {P : Program} {ops : Array Oper} {Q : Exit → Act → World → Prop} {md : Region.Mode} {F : Fence} {n : Nat} {S : World → Prop}
/-- In every world that meets S it yields this value and does nothing else; it calls nothing. -/
def Yn (P : Program) (ops : Array Oper) (S : World → Prop) (o : Oper) (v : Value) (a : Act) : Prop := YieldsIf P ops S o v a ∧ ∀ w, o.about P w a.eval = none
def anyN (F : Fence) (n : Nat) (P : Program) (md : Region.Mode) (ops : Array Oper) (Q : Exit → Act → World → Prop) (S : World → Prop) : Nat → Array Bool → Act → World → Prop
  | 0, listed, a, w => Region.ready md ops listed = [] ∧ Q .normal a w
  | fuel + 1, listed, a, w => (Region.ready md ops listed = [] → Q .normal a w) ∧ ∀ i ∈ Region.ready md ops listed, wpOpIn F n P ops Q i (fun a' w' => S w' ∧ anyN F n P md ops Q S fuel (listed.setIfInBounds i true) a' w') a w
theorem anyN_any : ∀ (fuel : Nat) (listed : Array Bool) (a : Act) (w : World), anyN F n P md ops Q S fuel listed a w → wpAnyIn F n P md ops Q fuel listed a w
  | 0, _, _, _, h => h
  | fuel + 1, _, _, _, h => ⟨h.1, fun i hi => wpOpIn_mono (fun a w hk => anyN_any fuel _ a w hk.2) (h.2 i hi)⟩
theorem Yn.op {i : Nat} {o : Oper} {v : Value} {a : Act} (hro : F.round = none) (hi : ops[i]? = some o) (hy : Yn P ops S o v a) {K : Act → World → Prop} {w : World} (hS : S w) (h : K (a.put o.dst v) w) : wpOpIn F n P ops Q i K a w := by
  have hab : ∀ f, o.about P w a.eval = some f → F.fn f := fun f hf => by
    rw [hy.2 w] at hf
    cases hf
  unfold wpOpIn
  rw [hi]
  rcases hy.1 with ⟨hw, hv⟩ | ⟨hw, hv⟩
  · simp only [hw, if_true, Oper.wpIn, hro, Oper.semAt_none, hv w hS, Oper.uponIn]
    exact ⟨hab, h⟩
  · subst hv
    simp only [hw, Bool.false_eq_true, if_false]
    exact ⟨hab, h⟩
theorem Yn.same {o : Oper} {v : Value} {a a' : Act} (hy : Yn P ops S o v a) (he : execOp a'.eval o = execOp a.eval o) (hw : Region.wanted o (yielded ops a'.tmps) = Region.wanted o (yielded ops a.tmps)) (hb : ∀ w, o.about P w a'.eval = o.about P w a.eval) : Yn P ops S o v a' :=
  ⟨hy.1.of_same he hw, fun w => (hb w).trans (hy.2 w)⟩
/-- Whether its value is there already makes no difference to one that is apart from it. -/
theorem opN_put {j : Nat} {oi oj : Oper} {v : Value} (hro : F.round = none) (hj : ops[j]? = some oj) (hap : oi.apart ops oj = true) (hsi : ∀ cs b, oi.op ≠ .select cs b) (hsj : ∀ cs b, oj.op ≠ .select cs b)
    (hQ : ∀ c a w, Q (.panic c) (a.put oi.dst v) w → Q (.panic c) a w) {K : Act → World → Prop} {a : Act} {w : World} (hy : Yn P ops S oi v a) (h : wpOpIn F n P ops Q j K (a.put oi.dst v) w) :
    wpOpIn F n P ops Q j (fun a' w' => Yn P ops S oi v a' ∧ K (a'.put oi.dst v) w') a w := by
  obtain ⟨h1, h2, h3⟩ := Oper.apart_spec hap
  have kp : ∀ (a : Act), Yn P ops S oi v a → ∀ u, Yn P ops S oi v (a.put oj.dst u) := fun a hy u => hy.same (execOp_put oi hsi a oj.dst u h3) (wanted_put oi a oj.dst u h3) (fun w => about_put oi w a oj.dst u h3)
  have kd : ∀ d, Yn P ops S oi v { a with defers := d :: a.defers } := fun d => hy.same rfl rfl (fun _ => rfl)
  have fin : ∀ u w'', K ((a.put oi.dst v).put oj.dst u) w'' → Yn P ops S oi v (a.put oj.dst u) ∧ K ((a.put oj.dst u).put oi.dst v) w'' := fun u w'' hk => ⟨kp a hy u, by rw [← Act.put_comm a v u h2]; exact hk⟩
  have fe : ∀ (e : Ending) (w'' : World), (match e, w'' with | .returned u, w'' => K ((a.put oi.dst v).put oj.dst u) w'' | .panicked c, w'' => Q (.panic c) (a.put oi.dst v) w'' | .outgrown, _ => LetsOut Q) → (match e, w'' with | .returned u, w'' => Yn P ops S oi v (a.put oj.dst u) ∧ K ((a.put oj.dst u).put oi.dst v) w'' | .panicked c, w'' => Q (.panic c) a w'' | .outgrown, _ => LetsOut Q) := fun e w'' he => by
    cases e with
    | returned u => exact fin u w'' he
    | panicked c => exact hQ _ _ _ he
    | outgrown => exact he
  unfold wpOpIn at *
  rw [hj] at h ⊢
  simp only at h ⊢
  rw [wanted_put oj a oi.dst v h1, about_put oj w a oi.dst v h1] at h
  by_cases hw : Region.wanted oj (yielded ops a.tmps) = true
  · rw [if_pos hw] at h ⊢
    unfold Oper.wpIn at *
    rw [about_put oj w a oi.dst v h1, hro, Oper.semAt_none, execOp_put oj hsj a oi.dst v h1] at h
    rw [hro, Oper.semAt_none]
    refine ⟨h.1, ?_⟩
    replace h := h.2
    generalize (execOp a.eval oj).run P w = r at *
    cases r with
    | ok x w' =>
      cases x <;> simp only [Oper.uponIn] at h ⊢
      case value u => exact fin u w' h
      case skip => exact fin undef w' h
      case defer d =>
        refine ⟨kp _ (kd d) _, ?_⟩
        rw [← Act.put_comm _ v undef h2, ← Act.put_defers]
        exact h
      case enter f args => exact ⟨h.1, CallsIn.mono h.2 (fun e w'' he => by cases e with | returned u => exact fin u w'' he | panicked c => exact hQ _ _ _ he | outgrown => exact he)⟩
      case row row args => exact ⟨h.1, RowsIn.mono h.2 (fun u w'' he => fin u w'' he)⟩
      case round l f tmps assign body => exact ⟨h.1, RoundIn.mono h.2 (fun e w'' he => by cases e with | returned u => exact fin u w'' he | panicked c => exact hQ _ _ _ he | outgrown => exact he)⟩
    | halt x w' =>
      cases x <;> simp only [Oper.uponIn] at h ⊢
      case panic u => exact hQ _ _ _ h
  · rw [if_neg hw] at h ⊢
    exact ⟨h.1, fin undef w h.2⟩
theorem anyN_first {i : Nat} {oi : Oper} {v : Value} (hro : F.round = none) (hi : ops[i]? = some oi) (hsel : ∀ (j : Nat) (o : Oper) cs b, ops[j]? = some o → o.op ≠ .select cs b) (hQ : ∀ c a w, Q (.panic c) (a.put oi.dst v) w → Q (.panic c) a w) :
    ∀ (fuel : Nat) (listed : Array Bool) (a : Act) (w : World),
      (∀ j oj, ops[j]? = some oj → j ≠ i → listed.getD j true = false → (∀ e ∈ oj.after, Region.binds md e = true → e.on ≠ i) → oi.apart ops oj = true) →
      i ∈ Region.ready md ops listed → Yn P ops S oi v a → S w → anyN F n P md ops Q S fuel (listed.setIfInBounds i true) (a.put oi.dst v) w → anyN F n P md ops Q S (fuel + 1) listed a w := by
  intro fuel
  induction fuel with
  | zero =>
    intro listed a w _ hr hy hS H
    refine ⟨fun h => absurd hr (by rw [h]; simp), fun j hj => ?_⟩
    by_cases hji : j = i
    · subst hji
      exact hy.op hro hi hS ⟨hS, H⟩
    · have := ready_mono hj hji
      rw [H.1] at this
      cases this
  | succ fuel ih =>
    intro listed a w hfree hr hy hS H
    refine ⟨fun h => absurd hr (by rw [h]; simp), fun j hj => ?_⟩
    by_cases hji : j = i
    · subst hji
      exact hy.op hro hi hS ⟨hS, H⟩
    · have h1 := H.2 j (ready_mono hj hji)
      obtain ⟨hjun, oj, hoj, hall⟩ := mem_ready.1 hj
      have hnot : ∀ e ∈ oj.after, Region.binds md e = true → e.on ≠ i := fun e he hb heq => by
        have h1 := hall e he hb
        have h0 := (mem_ready.1 hr).1
        rw [heq] at h1
        rcases Nat.lt_or_ge i listed.size with h' | h'
        · simp [h'] at h0 h1
          rw [h0] at h1
          cases h1
        · simp [Array.getElem?_eq_none h'] at h1
      have h2 := opN_put hro hoj (hfree j oj hoj hji hjun hnot) (fun cs b => hsel i oi cs b hi) (fun cs b => hsel j oj cs b hoj) hQ hy h1
      refine wpOpIn_mono (fun a' w' h3 => ⟨h3.2.1, ih (listed.setIfInBounds j true) a' w' (fun k ok hk hki hun hno => hfree k ok hk hki ?_ hno) (ready_mono hr (Ne.symm hji)) h3.1 h3.2.1 ?_⟩) h2
      · by_cases hjk : j = k
        · subst hjk
          exact hjun
        · rw [getD_set_ne true hjk] at hun
          exact hun
      · rw [Array.setIfInBounds_comm _ _ hji]
        exact h3.2.2
/-- Take number i first. -/
theorem takeN {i : Nat} {oi : Oper} {fuel : Nat} {listed : Array Bool} {a : Act} {w : World} (d : Nat) (v : Value) (hro : F.round = none) (hi : ops[i]? = some oi) (hd : oi.dst = some d)
    (hs : Region.noSelect ops = true) (hf : Region.free md ops listed i = true) (hr : (Region.ready md ops listed).contains i = true) (hQ : ∀ c a w, Q (.panic c) (a.put oi.dst v) w → Q (.panic c) a w)
    (hy : YieldsIf P ops S oi v a) (hab : ∀ w, oi.about P w a.eval = none) (hS : S w) (h : anyN F n P md ops Q S fuel (listed.setIfInBounds i true) ⟨a.tmps.setIfInBounds d v, a.defers⟩ w) : anyN F n P md ops Q S (fuel + 1) listed a w :=
  anyN_first hro hi (Region.noSelect_spec hs) hQ fuel listed a w (Region.free_spec hi hf) (by simpa using hr) ⟨hy, hab⟩ hS (by rw [hd]; exact h)
/-- Two that read, in whichever order. -/
theorem readsN {i j : Nat} {oi oj : Oper} {fuel : Nat} {listed : Array Bool} {a : Act} {w : World} (di dj : Nat) (vi vj : Value) (hro : F.round = none) (hi : ops[i]? = some oi) (hj : ops[j]? = some oj) (hdi : oi.dst = some di) (hdj : oj.dst = some dj) (hij : i ≠ j) (hdd : di ≠ dj)
    (hr : Region.ready md ops listed = [i, j]) (hri : Region.ready md ops (listed.setIfInBounds i true) = [j]) (hrj : Region.ready md ops (listed.setIfInBounds j true) = [i])
    (y1 : YieldsIf P ops (fun w' => w' = w) oi vi a) (y2 : YieldsIf P ops (fun w' => w' = w) oj vj ⟨a.tmps.setIfInBounds di vi, a.defers⟩) (y3 : YieldsIf P ops (fun w' => w' = w) oj vj a) (y4 : YieldsIf P ops (fun w' => w' = w) oi vi ⟨a.tmps.setIfInBounds dj vj, a.defers⟩)
    (ai : ∀ (a : Act) w, oi.about P w a.eval = none) (aj : ∀ (a : Act) w, oj.about P w a.eval = none) (hS : S w)
    (h : anyN F n P md ops Q S fuel ((listed.setIfInBounds i true).setIfInBounds j true) ⟨(a.tmps.setIfInBounds di vi).setIfInBounds dj vj, a.defers⟩ w) : anyN F n P md ops Q S (fuel + 1 + 1) listed a w := by
  have e1 : ∀ v, a.put oi.dst v = ⟨a.tmps.setIfInBounds di v, a.defers⟩ := fun v => by rw [hdi]; rfl
  have e2 : ∀ v, a.put oj.dst v = ⟨a.tmps.setIfInBounds dj v, a.defers⟩ := fun v => by rw [hdj]; rfl
  refine ⟨fun h0 => (by rw [hr] at h0; cases h0), fun k hk => ?_⟩
  rw [hr] at hk
  simp only [List.mem_cons, List.not_mem_nil, or_false] at hk
  rcases hk with rfl | rfl
  · refine Yn.op (S := fun w' => w' = w) hro hi ⟨y1, ai a⟩ rfl ⟨hS, ?_⟩
    rw [e1]
    refine ⟨fun h0 => (by rw [hri] at h0; cases h0), fun k hk => ?_⟩
    rw [hri, List.mem_singleton] at hk
    subst hk
    refine Yn.op (S := fun w' => w' = w) hro hj ⟨y2, aj _⟩ rfl ⟨hS, ?_⟩
    rw [hdj]
    exact h
  · refine Yn.op (S := fun w' => w' = w) hro hj ⟨y3, aj a⟩ rfl ⟨hS, ?_⟩
    rw [e2]
    refine ⟨fun h0 => (by rw [hrj] at h0; cases h0), fun m hm => ?_⟩
    rw [hrj, List.mem_singleton] at hm
    subst hm
    refine Yn.op (S := fun w' => w' = w) hro hi ⟨y4, ai _⟩ rfl ⟨hS, ?_⟩
    rw [hdi, Array.setIfInBounds_comm _ _ (Ne.symm hij)]
    show anyN F n P md ops Q S fuel _ ⟨(a.tmps.setIfInBounds dj vj).setIfInBounds di vi, a.defers⟩ w
    rw [Array.setIfInBounds_comm _ _ (Ne.symm hdd)]
    exact h
/-- This one comes up. -/
theorem nextN {i : Nat} {o : Oper} {fuel : Nat} {listed : Array Bool} {a : Act} {w : World} (hr : Region.ready md ops listed = [i]) (ho : ops[i]? = some o)
    (h : ∀ K : Act → World → Prop, Shut (∀ a' w', S w' → (S w' → anyN F n P md ops Q S fuel (listed.setIfInBounds i true) a' w') → K a' w') → if Region.wanted o (yielded ops a.tmps) = true then Oper.wpIn F n P o a w K Q else (∀ f, o.about P w a.eval = some f → F.fn f) ∧ K (a.put o.dst undef) w) : anyN F n P md ops Q S (fuel + 1) listed a w := by
  refine ⟨fun h0 => (by rw [hr] at h0; cases h0), fun j hj => ?_⟩
  rw [hr, List.mem_singleton] at hj
  subst hj
  unfold wpOpIn
  rw [ho]
  exact h _ (fun a' w' hs hk => ⟨hs, hk hs⟩)
/-- This one comes up and is passed over. -/
theorem skipN {i : Nat} {o : Oper} {fuel : Nat} {listed : Array Bool} {a : Act} {w : World} (d : Nat) (hr : Region.ready md ops listed = [i]) (ho : ops[i]? = some o) (hd : o.dst = some d) (hw : Region.wanted o (yielded ops a.tmps) = false) (hF : ∀ f, F.fn f) (hS : S w)
    (h : anyN F n P md ops Q S fuel (listed.setIfInBounds i true) ⟨a.tmps.setIfInBounds d undef, a.defers⟩ w) : anyN F n P md ops Q S (fuel + 1) listed a w := by
  refine ⟨fun h0 => (by rw [hr] at h0; cases h0), fun j hj => ?_⟩
  rw [hr, List.mem_singleton] at hj
  subst hj
  unfold wpOpIn
  rw [ho]
  simp only [hw, Bool.false_eq_true, if_false]
  refine ⟨fun f _ => hF f, hS, ?_⟩
  rw [hd]
  exact h
theorem doneN {listed : Array Bool} {a : Act} {w : World} (hr : Region.ready md ops listed = []) (h : Q .normal a w) : ∀ fuel, anyN F n P md ops Q S fuel listed a w
  | 0 => ⟨hr, h⟩
  | _ + 1 => ⟨fun _ => h, by rw [hr]; simp⟩
theorem regionN {id : Nat} {a : Act} {w : World} (hm : P.follows .mixedOrders = true) (hS : S { w with drawn := w.drawn + 1 })
    (h : S { w with drawn := w.drawn + 1 } → anyN F n P .any ops Q S ops.size (Array.replicate ops.size false) a { w with drawn := w.drawn + 1 }) : (Code.region id ops true).wpIn F n P Q a w :=
  wpIn_region_any hm (anyN_any _ _ _ _ (h hS))
end
end Go.Proofs.Ytghehfhkiknjhaa
