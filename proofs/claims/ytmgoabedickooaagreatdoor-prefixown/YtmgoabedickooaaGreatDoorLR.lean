import Derived.RangeFuncFrom
import Derived.RangeFuncNested
import Derived.RangeFuncCalls
import Derived.OrdersIn
import Derived.OrdersHeld
import Derived.Deep.RegionHeld
import Derived.StillTail
import Derived.StillTailTactics
import Derived.Test.YtmgoabedickooaaGreatDoorL10
namespace Go.Proofs.YtmgoabedickooaaGreatDoor
set_option maxRecDepth 100000
open Go.RowKit Go.Shelf
set_option linter.unusedVariables false

/-! A region that draws its order, within a round of a loop over a function. -/
section
variable {P : Program} {ops : Array Oper} {Q : Exit → Act → World → Prop} {lp n : Nat}
theorem rows_in {row : String} {args : Array Value} {w : World} {R : Value → World → Prop} (h : Rows P row args w R) : RowsIn (Fence.wide.inRound lp) n P row args w R :=
  fun b cs _ => let ⟨v, w', r, s⟩ := h b cs; ⟨v, w', r, stepsIn_wide.2 s⟩
theorem upon_in {o : Oper} {a : Act} {K K' : Act → World → Prop} {r : Result Next} (hK : ∀ a w, K a w → K' a w) (h : Oper.upon P o a K Q r) : Oper.uponIn (Fence.wide.inRound lp) n P o a K' Q r := by
  cases r with
  | ok x w' =>
    cases x with
    | value v => exact hK _ _ h
    | skip => exact hK _ _ h
    | defer d => exact hK _ _ h
    | enter f args =>
      refine ⟨fun hh => by simp [Fence.wide] at hh, CallsIn.inRound lp (callsIn_wide.2 (Calls.mono h (fun e w'' he => ?_)))⟩
      cases e with
      | returned v => exact hK _ _ he
      | panicked c => exact he
      | outgrown => exact he
    | row row args => exact ⟨fun hh => by simp [Fence.wide] at hh, RowsIn.mono (rows_in h) (fun v w'' he => hK _ _ he)⟩
    | _ => exact h.elim
  | halt x w' => cases x <;> first | exact h | exact h.elim
theorem op_in (hQ : LetsOut Q → False) (hd : ∀ (i : Nat) (o : Oper), ops[i]? = some o → ∀ c, o.op ≠ .defer c) {i : Nat} {a : Act} {w : World} {K K' : Act → World → Prop} (hK : ∀ a w, K a w → K' a w) (h : wpOp P ops Q i K a w) : wpOpIn (Fence.wide.inRound lp) n P ops Q i K' a w := by
  unfold wpOp at h
  unfold wpOpIn
  cases ho : ops[i]? with
  | none => rw [ho] at h; exact hK _ _ h
  | some o =>
    rw [ho] at h
    simp only at h ⊢
    by_cases hw : Region.wanted o (yielded ops a.tmps) = true
    · rw [if_pos hw] at h ⊢
      refine ⟨fun _ _ => trivial, ?_⟩
      rw [Oper.semAt_eq _ _ _ (hd i o ho)]
      rcases h with h | h
      · exact upon_in hK h
      · exact (hQ h.2).elim
    · rw [if_neg hw] at h ⊢
      exact ⟨fun _ _ => trivial, hK _ _ h⟩
theorem any_in (hQ : LetsOut Q → False) (hd : ∀ (i : Nat) (o : Oper), ops[i]? = some o → ∀ c, o.op ≠ .defer c) {md : Region.Mode} : ∀ (fuel : Nat) (listed : Array Bool) (a : Act) (w : World), wpAny P md ops Q fuel listed a w → wpAnyIn (Fence.wide.inRound lp) n P md ops Q fuel listed a w
  | 0, _, _, _, h => h
  | fuel + 1, listed, a, w, h => ⟨h.1, fun i hi => op_in hQ hd (fun a w hk => any_in hQ hd fuel _ a w hk) (h.2 i hi)⟩
/-- All that is done ahead of the last writes leaves the memory as it is: one walk serves. -/
theorem region_round {id : Nat} {a : Act} {w : World} {l : List Oper} (m : Nat) (hm : P.follows .mixedOrders = true) (hQ : LetsOut Q → False) (hd : ∀ o ∈ l, ∀ c, o.op ≠ .defer c) (hB : Region.lexTailB .any l.toArray m = true)
    (h : wpStill P l.toArray { w with drawn := w.drawn + 1 } (fun a' => wpList P l.toArray Q (l.drop m) a' { w with drawn := w.drawn + 1 }) (l.take m) a) : (Code.region id l.toArray true).wpIn (Fence.wide.inRound lp) n P Q a w := by
  simp only [Region.lexTailB, Bool.and_eq_true, decide_eq_true_eq] at hB
  obtain ⟨⟨⟨⟨b1, b2⟩, b3⟩, b4⟩, b5⟩ := hB
  have hsz : l.toArray.size = l.length := by simp
  have hmn : m < l.length := by rw [← hsz]; exact b2
  have e1 : (l.take m).length = m := by rw [List.length_take]; omega
  have e2 : (l.drop m).length = l.toArray.size - m := by rw [List.length_drop, hsz]
  have hI : HeadInv .any l.toArray m (Array.replicate l.toArray.size false) := by
    refine ⟨by simp, fun j oj _ q => ?_, fun t _ q => getD_in (by simpa using q) (getD_replicate_false _ _)⟩
    rw [getD_replicate_false] at q
    cases q
  have hH := wpAnyL_lex (md := .any) (g := l.toArray.size - m) b1 b3 b4 b2 (l.take m) 0 _ a (fun j hj => by
    rw [e1] at hj
    simp [hj]) (by rw [e1, Nat.zero_add]) hI (by rw [e1]; exact b5) h
  have hA := wpAny_of_head (Q' := Q) (g := l.toArray.size - m) (fun listed a' q => by
    have q2 := wpAny_of_seq (md := .any) (Q' := Q) (l.drop m) m listed a' { w with drawn := w.drawn + 1 } (fun j => by simp [List.getElem?_drop]) (by rw [e2]; exact q.1) q.2
    rwa [e2] at q2) _ _ _ hH
  rw [e1, show m + (l.toArray.size - m) = l.toArray.size from by omega] at hA
  exact wpIn_region_any hm (any_in hQ (fun i o ho => hd o (by
    have : l[i]? = some o := by simpa using ho
    exact List.mem_of_getElem? this)) _ _ _ _ hA)
end
end Go.Proofs.YtmgoabedickooaaGreatDoor
