import Derived.Test.YtejokaehdfcjlaaGreatDoorU3
import Derived.Deep.Cut
import Derived.Laws.Tables
namespace Go.Proofs.YtejokaehdfcjlaaGreatDoor
set_option maxRecDepth 100000
open Go.RowKit
set_option linter.unusedVariables false

/-- What yields its value in every world that meets S may be taken first. -/
theorem take_to {ops : Array Oper} {Q : Exit → Act → World → Prop} {md : Region.Mode} {S : World → Prop} {oi : Oper} {fuel : Nat} {listed : Array Bool} {a : Act} {w : World} (i d : Nat) (v : Value) (hi : ops[i]? = some oi) (hd : oi.dst = some d)
    (hs : Region.noSelect ops = true) (hf : Region.free md ops listed i = true) (hr : (Region.ready md ops listed).contains i = true)
    (hQ : ∀ c a w, Q (.panic c) (a.put oi.dst v) w → Q (.panic c) a w) (hy : YieldsIf Tryz.prog ops S oi v a) (hS : S w)
    (h : wpAnyH Tryz.prog md ops Q S fuel (listed.setIfInBounds i true) ⟨a.tmps.setIfInBounds d v, a.defers⟩ w) : wpAnyH Tryz.prog md ops Q S (fuel + 1) listed a w :=
  wpAnyH_take hi hs hf hr hQ hy hS (by rw [hd]; exact h)
theorem bel_drew1 {B : Nat} {a b : World} (h : Below B a b) : Below B a b.drew := h.trans ⟨rfl, rfl, rfl, Nat.le_refl _, fun _ _ => rfl⟩
theorem own_row {w : World} {b n g : Nat} {v : Value} {xs : List Value} (h : w.ownsRow b 5 1 v n xs) (hne : ∀ k, v.ownBlock = some k → k ≠ g) (ds : Array Value) : (w.setRow g ds).ownsRow b 5 1 v n xs := by
  obtain ⟨h1, h2⟩ := h
  refine ⟨h1, ?_⟩
  rcases h2 with h2 | ⟨g', cap, cur, rfl, hb, hg, h3⟩
  · exact .inl h2
  · refine .inr ⟨g', cap, cur, rfl, hb, ?_, h3⟩
    rw [setRow_other w g g' ds (hne g' rfl)]
    exact hg
theorem bs_cell0 {w : World} {b off n : Nat} {zs : List Int} (h : Bs w (some ⟨b, off, none⟩) (n + 1) zs) : w.cell? ⟨b, off, none⟩ = some (.int .u8 (zs.getD 0 0)) := by
  have := bs_cell h 0 (by omega)
  rwa [Nat.add_zero] at this
theorem kt4_ {w : World} {b off c : Nat} {zs : List Int} (hy : By zs) (hl : zs.length = 512) (k0 : w.cell? ⟨b, off, none⟩ = some (.int .u8 (zs.getD 0 0))) (k1 : w.cell? ⟨b, off + 1, none⟩ = some (.int .u8 (zs.getD 1 0))) (k2 : w.cell? ⟨b, off + 2, none⟩ = some (.int .u8 (zs.getD 2 0))) (k3 : w.cell? ⟨b, off + 3, none⟩ = some (.int .u8 (zs.getD 3 0))) :
    (convert 44 9 (.slice (some ⟨b, off, none⟩) 4 c)).run Tryz.prog w = .ok (.string (bt (sl zs 0 4))) w := by
  refine run_txt c ⟨sl_length (by omega), sl_by hy 0 4, .inr ⟨b, off, rfl, fun i hi => ?_⟩⟩
  have e : (sl zs 0 4).getD i 0 = zs.getD i 0 := by simp only [sl, List.drop_zero, List.getD, List.getElem?_take, if_pos hi]
  rw [e]
  have c : i = 0 ∨ i = 1 ∨ i = 2 ∨ i = 3 := by omega
  rcases c with rfl | rfl | rfl | rfl
  · exact k0
  · exact k1
  · exact k2
  · exact k3
end Go.Proofs.YtejokaehdfcjlaaGreatDoor
