import Derived.Test.YtejokaehdfcjlaaGreatDoorABytes
import Derived.Test.YtejokaehdfcjlaaGreatDoorTold
namespace Go.Proofs.YtejokaehdfcjlaaGreatDoor
set_option maxRecDepth 100000
open Go.RowKit
set_option linter.unusedVariables false

/-- The table of four steps lies in its variable. -/
def Tab (w : World) : Prop := 0 < w.heap.size ∧ ∀ i, i < 16 → w.cell? ⟨0, i, none⟩ = some (.int .u32 (tab.getD i 0))
theorem Tab.below {w w' : World} {B : Nat} (h : Tab w) (hb : Below B w w') (hB : 0 < B) : Tab w' :=
  ⟨Nat.lt_of_lt_of_le h.1 hb.size, fun i hi => (hb.cell hB).trans (h.2 i hi)⟩
theorem Tab.bel {w w' : World} (h : Tab w) (hb : Below w.heap.size w w') : Tab w' := h.below hb h.1
theorem Tab.drawn {w w' : World} (h : Tab w) (hd : Drawn w w') : Tab w' := h.bel hd.below
theorem Drawn.refl (w : World) : Drawn w w := ⟨rfl, rfl, rfl, rfl⟩
theorem Drawn.trans {a b c : World} (h : Drawn a b) (k : Drawn b c) : Drawn a c := ⟨k.os.trans h.os, k.tape.trans h.tape, k.output.trans h.output, k.heap.trans h.heap⟩
theorem Drawn.drewN {a b : World} (h : Drawn a b) (n : Nat) : Drawn a (b.drewN n) := h.trans (drawnN b n)
theorem bel_draw {B : Nat} {a b c : World} (h : Below B a b) (hd : Drawn b c) : Below B a c := h.trans ⟨hd.os, hd.tape, hd.output, by rw [hd.heap]; exact Nat.le_refl _, fun k _ => by rw [hd.heap]⟩
end Go.Proofs.YtejokaehdfcjlaaGreatDoor
