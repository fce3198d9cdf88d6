import Derived.Test.YtaplgdkefhcbhaaFirst
import Derived.Deep.RegionHeld
import Derived.Deep.Cut
namespace Go.Proofs.Ytaplgdkefhcbhaa
open Go.RowKit
set_option linter.unusedVariables false

theorem guard16 : Try.prog.eqGuardType Try.prog.depth 27 = false := by kernel_rfl
theorem run_ld {o : Oper} {a : Act} (x : Operand) (ho : o.op = .load 27 x) (g B : Nat) (hx : a.eval x = .pointer (some ⟨g, 0, none⟩)) {w : World} (hA : Ar w g (bv B)) : (execOp a.eval o).run Try.prog w = .ok (.value (.agg (bv B))) w := by
  unfold execOp
  simp only [ho, hx, Instr.loadAt, Instr.sureAddr, Sem.run_bind, Sem.run_pure, Result.andThen_ok, run_loadVar_row w g 27 27 (bv B) (0, 0) _ hA under16 rfl (by rw [bv_size]; exact size16)]
theorem run_eqop {o : Oper} {a : Act} (x y : Operand) (t : TypeId) (ho : o.op = .binOp .eql 27 x y t) (A B : Nat) (hx : a.eval x = .agg (bv A)) (hy : a.eval y = .agg (bv B)) (hA : A < 2 ^ 128) (hB : B < 2 ^ 128) (w : World) :
    (execOp a.eval o).run Try.prog w = .ok (.value (.bool (decide (A = B)))) w := by
  unfold execOp
  simp only [ho, hx, hy, Sem.run_bind, Sem.run_pure, run_eqGuard_agg w .eql _ x y _ _ guard16, Result.andThen_ok, run_eql_struct, run_eq16 9998 w hA hB]
/-- A load that may be taken first. -/
theorem yields_ld {ops : Array Oper} {S : World → Prop} {o : Oper} {a : Act} (hw : Region.wanted o (yielded ops a.tmps) = true) (x : Operand) (ho : o.op = .load 27 x) (g B : Nat) (hx : a.eval x = .pointer (some ⟨g, 0, none⟩)) (hS : ∀ w, S w → Ar w g (bv B)) :
    YieldsIf Try.prog ops S o (.agg (bv B)) a := .inl ⟨hw, fun w h => run_ld x ho g B hx (hS w h)⟩
theorem quiet_ld {C : World → Prop} {K : Act → Prop} {o : Oper} {a : Act} (x : Operand) (ho : o.op = .load 27 x) (g B : Nat) (hx : a.eval x = .pointer (some ⟨g, 0, none⟩)) (hC : ∀ w, C w → Ar w g (bv B)) (hk : K (a.put o.dst (.agg (bv B)))) : o.quiet Try.prog a C K :=
  ⟨_, fun w h => by unfold Oper.quietAt; rw [run_ld x ho g B hx (hC w h)]; exact ⟨rfl, rfl⟩, hk⟩
theorem quiet_eq {C : World → Prop} {K : Act → Prop} {o : Oper} {a : Act} (x y : Operand) (t : TypeId) (ho : o.op = .binOp .eql 27 x y t) (A B : Nat) (hx : a.eval x = .agg (bv A)) (hy : a.eval y = .agg (bv B)) (hA : A < 2 ^ 128) (hB : B < 2 ^ 128) (r : Bool) (hr : decide (A = B) = r) (hk : K (a.put o.dst (.bool r))) : o.quiet Try.prog a C K :=
  ⟨.bool r, fun w h => by unfold Oper.quietAt; rw [run_eqop x y t ho A B hx hy hA hB w, hr]; exact ⟨rfl, rfl⟩, hk⟩
theorem Ar.ofDrawn {w : World} {g : Nat} {cs : Array Value} (h : Ar w g cs) : ∀ w', (∃ n, w' = w.drewN n) → Ar w' g cs := by
  rintro _ ⟨n, rfl⟩
  exact h.drawn n
theorem Ar.drew1 {w : World} {g : Nat} {cs : Array Value} (h : Ar w g cs) : Ar w.drew g cs := h
theorem bel_drew1 {B : Nat} {a b : World} (h : Below B a b) : Below B a b.drew := h.trans ⟨rfl, rfl, rfl, Nat.le_refl _, fun _ _ => rfl⟩
theorem wp_st {o : Oper} {a : Act} {w : World} {K : Act → World → Prop} {Q : Exit → Act → World → Prop} (hd : o.dst = none) (x y : Operand) (ho : o.op = .store 27 x y)
    (g B : Nat) (hx : a.eval x = .pointer (some ⟨g, 0, none⟩)) (hy : a.eval y = .agg (bv B)) (old : Array Value) (hA : Ar w g old) (hs : old.size = 16)
    (h : K a (w.setRow g (bv B))) : o.wp Try.prog a w K Q := by
  refine wp_store_row 27 x y ho g (bv B) hx hy 27 old hA (by rw [bv_size]; exact size16) (by rw [hs, bv_size]) (bv_one B) ?_
  rw [hd]
  exact h
end Go.Proofs.Ytaplgdkefhcbhaa
