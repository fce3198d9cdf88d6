import Derived.Test.YtbkeejapongmlaaGreatDoorKBase
import Derived.Deep.RegionHeld
namespace Go.Proofs.YtbkeejapongmlaaGreatDoor.Kp
set_option maxRecDepth 100000
open Go.RowKit
set_option linter.unusedVariables false

/-- Of the blocks that were there only the cells of p may have turned; each block stays of its kind and length. -/
structure Wk (p : Nat → Nat → Prop) (w w' : World) : Prop where
  os : w'.os = w.os
  tape : w'.tape = w.tape
  output : w'.output = w.output
  size : w.heap.size ≤ w'.heap.size
  same : ∀ b, b < w.heap.size → (∀ i, ¬ p b i) → w'.heap[b]? = w.heap[b]?
  blk : ∀ b cur t fr, w.heap[b]? = some (.cells cur t fr) → ∃ cur', w'.heap[b]? = some (.cells cur' t fr) ∧ cur'.size = cur.size ∧ ∀ i, ¬ p b i → cur'[i]? = cur[i]?
theorem Wk.refl (p : Nat → Nat → Prop) (w : World) : Wk p w w := ⟨rfl, rfl, rfl, Nat.le_refl _, fun _ _ _ => rfl, fun b cur t fr h => ⟨cur, h, rfl, fun _ _ => rfl⟩⟩
theorem Wk.trans {p : Nat → Nat → Prop} {a b c : World} (h : Wk p a b) (k : Wk p b c) : Wk p a c :=
  ⟨k.os.trans h.os, k.tape.trans h.tape, k.output.trans h.output, Nat.le_trans h.size k.size, fun i hi hp => (k.same i (Nat.lt_of_lt_of_le hi h.size) hp).trans (h.same i hi hp), fun x cur t fr hx => by
    obtain ⟨c1, h1, h2, h3⟩ := h.blk x cur t fr hx
    obtain ⟨c2, k1, k2, k3⟩ := k.blk x c1 t fr h1
    exact ⟨c2, k1, k2.trans h2, fun i hi => (k3 i hi).trans (h3 i hi)⟩⟩
theorem Wk.weak {p q : Nat → Nat → Prop} {w w' : World} (h : Wk p w w') (hq : ∀ b i, p b i → q b i) : Wk q w w' :=
  ⟨h.os, h.tape, h.output, h.size, fun b hb hn => h.same b hb fun i hp => hn i (hq b i hp), fun b cur t fr hb => by
    obtain ⟨c1, h1, h2, h3⟩ := h.blk b cur t fr hb
    exact ⟨c1, h1, h2, fun i hi => h3 i fun hp => hi (hq b i hp)⟩⟩
theorem Wk.set {p : Nat → Nat → Prop} {w : World} {b i : Nat} (hp : p b i) (v : Value) : Wk p w (w.setCell ⟨b, i, none⟩ v) := by
  refine ⟨rfl, rfl, rfl, by simp [World.setCell], fun k hk hn => Below.heap_setCell w ⟨b, i, none⟩ v k (fun e => hn i (by have : k = b := e; rw [this]; exact hp)), fun k cur t fr hk => ?_⟩
  by_cases e : k = b
  · subst e
    refine ⟨cur.setIfInBounds i v, by simp [World.setCell, Array.getElem?_modify, hk], by simp, fun j hj => ?_⟩
    have : i ≠ j := fun e => hj (e ▸ hp)
    simp [this]
  · exact ⟨cur, by rw [Below.heap_setCell w _ v k e]; exact hk, rfl, fun _ _ => rfl⟩
theorem Wk.ofBelow {p : Nat → Nat → Prop} {w w' : World} (h : Below w.heap.size w w') : Wk p w w' :=
  ⟨h.os, h.tape, h.output, h.size, fun b hb _ => h.block b hb, fun b cur t fr hb => ⟨cur, by rw [h.block b (Array.getElem?_eq_some_iff.1 hb).1]; exact hb, rfl, fun _ _ => rfl⟩⟩
theorem Wk.ofDrawn {p : Nat → Nat → Prop} {w w' : World} (h : Drawn w w') : Wk p w w' := .ofBelow h.below
theorem Wk.cell {p : Nat → Nat → Prop} {w w' : World} (h : Wk p w w') {b i : Nat} {v : Value} (hp : ¬ p b i) (hc : w.cell? ⟨b, i, none⟩ = some v) : w'.cell? ⟨b, i, none⟩ = some v := by
  have hc' := hc
  unfold World.cell? at hc
  simp only at hc
  split at hc <;> rename_i hq
  · obtain ⟨c1, h1, h2, h3⟩ := h.blk b _ _ _ hq
    rw [cell_of_row w' b i c1 _ _ h1, h3 i hp]
    rw [cell_of_row w b i _ _ _ hq] at hc'
    exact hc'
  all_goals simp_all
theorem Wk.blk_of {p : Nat → Nat → Prop} {w w' : World} (h : Wk p w w') {b : Nat} {cur : Array Value} {t : TypeId} {fr : Nat × Nat} (hb : w.heap[b]? = some (.cells cur t fr)) (hp : ∀ i, ¬ p b i) : w'.heap[b]? = some (.cells cur t fr) := by
  rw [h.same b (Array.getElem?_eq_some_iff.1 hb).1 hp]; exact hb
end Go.Proofs.YtbkeejapongmlaaGreatDoor.Kp
