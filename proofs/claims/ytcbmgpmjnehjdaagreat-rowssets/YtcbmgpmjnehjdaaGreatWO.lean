import Derived.Test.YtcbmgpmjnehjdaaGreatWJ
import Derived.Deep.RegionHeldLaw
import Derived.Deep.AppendLies
namespace Go.Proofs.YtcbmgpmjnehjdaaGreat
set_option maxRecDepth 100000
open Go.RowKit Go.Maps
set_option linter.unusedVariables false

end Go.Proofs.YtcbmgpmjnehjdaaGreat
namespace Go.Proofs.YtcbmgpmjnehjdaaGreat
set_option maxRecDepth 100000
open Go.RowKit Go.Maps
set_option linter.unusedVariables false

end Go.Proofs.YtcbmgpmjnehjdaaGreat
namespace Go.Proofs.YtcbmgpmjnehjdaaGreat
set_option maxRecDepth 100000
open Go.RowKit Go.Maps
set_option linter.unusedVariables false

/-- The rows with the sets done, as the law does them. -/
def hitS (s : List Sx) (p : List Int × List Int) : Bool := s.any fun x => sameB p.1 x.k
def newS (x : Sx) : Option (List Int × List Int) := if x.g then none else some (x.k, x.v)
def trn (L : Tab) (s : List Sx) : Tab := L.filter (fun p => !hitS s p) ++ s.filterMap newS
/-- Rows of one's own that are gathered since w, their bytes being w's. -/
structure Rw3 (w wr : World) (v : Value) (ds : List RD) : Prop where
  own : wr.ownsRow w.heap.size 54 2 v ds.length (rds ds)
  sv : ∀ d ∈ ds, RV2 w (fun _ => True) d
  bel : Below w.heap.size w wr
theorem Rw3.nil (w : World) : Rw3 w w (.slice none 0 0) [] := ⟨World.ownsRow_nil _ _ _ _, fun d hd => by simp at hd, Below.refl _ _⟩
theorem Rw3.below {w wr w2 : World} {v : Value} {ds : List RD} (h : Rw3 w wr v ds) (hb : Below wr.heap.size wr w2) : Rw3 w w2 v ds := ⟨own_bel h.own hb, h.sv, bel_bel h.bel h.bel.size hb⟩
theorem Rw3.app {w w3 w5 : World} {v v5 : Value} {ds : List RD} {d : RD} {o : Obj} (h : Rw3 w w3 v ds) (hd : RV2 w (fun _ => True) d) (ho : w5.ownsRow w.heap.size 54 2 v5 (ds ++ [d]).length (rds (ds ++ [d]))) (hg : (w3.alloc o).grownBy w5 v.ownBlock) : Rw3 w w5 v5 (ds ++ [d]) := by
  have hown : ∀ q, v.ownBlock = some q → w.heap.size ≤ q := fun q e => (h.own.lt q e).1
  have hsa : (w3.alloc o).heap.size = w3.heap.size + 1 := by simp
  refine ⟨ho, ?_, (h.bel.alloc h.bel.size o).grown hg (by rw [hsa]; have := h.bel.size; omega) (fun q e => hown q e)⟩
  intro d' hd'
  rcases List.mem_append.1 hd' with hd' | hd'
  · exact h.sv d' hd'
  · rw [List.mem_singleton] at hd'
    subst hd'
    exact hd
/-- One more behind a row of one's own, at a step of a drawn region. -/
theorem step_appRow {w : World} {ops : Array Oper} {o : Oper} {a : Act} {K : Act → World → Prop} {Q : Exit → Act → World → Prop} {E : Prop} (hgd : o.guard = none) (s x : Operand)
    (ho : o.op = .call { callee := .builtin .append, args := #[s, x], argTypes := #[22, 22] })
    (base : Nat) (v : Value) (ds : List RD) (hs : a.eval s = v) (hown : w.ownsRow base 54 2 v ds.length (rds ds)) (g : Nat) (d : RD) (hx : a.eval x = .slice (some ⟨g, 0, none⟩) 1 1)
    (hg : ∀ j u, (rdc d)[j]? = some u → w.cell? ⟨g, j, none⟩ = some u) (hlen : ds.length ≤ 1000000000) (hbase : base ≤ w.heap.size)
    (h : ∀ v' w', w'.ownsRow base 54 2 v' (ds ++ [d]).length (rds (ds ++ [d])) → w.grownBy w' v.ownBlock → K (a.put o.dst v') w') : if Region.wanted o (yielded ops a.tmps) = true then Oper.wp Tryz.prog o a w K Q else E := by
  obtain ⟨i, hi, hz0, hz1, hz2⟩ := info_parts infoR
  refine step_append_lies w hgd s x 22 ho base 54 i _ 2 48 Tryz.underlying22 hi hz0 hz1 hz2 rfl (by decide) v ds.length (rds ds) hs hown ⟨g, 0, none⟩ 1 1 (rdc d) hx rfl ?c1 ?c2 (by omega) (by unfold maxLen; omega) (by omega) hbase w.heap.size rfl ?_
  case c1 =>
    intro j u hj
    rw [Addr.add_lit, Nat.zero_add]
    exact hg j u hj
  case c2 =>
    intro u hu
    exact rds_one [d] u (by simpa [rds] using hu)
  intro g' cap w' h1 h2 _ _
  refine h _ w' ?_ h2
  rw [List.length_append, List.length_singleton, rds_app]
  simpa [rds] using h1
end Go.Proofs.YtcbmgpmjnehjdaaGreat
