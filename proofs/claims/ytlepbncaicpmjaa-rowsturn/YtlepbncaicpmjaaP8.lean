import Derived.Test.YtlepbncaicpmjaaP7
import Derived.Deep.Cut
namespace Go.Proofs.Ytlepbncaicpmjaa
set_option maxRecDepth 100000
open Go.RowKit
set_option linter.unusedVariables false

/-! What these bytes begin with. -/
def g0 (l : List Int) : Int := l.getD 0 0
def gm (l : List Int) : Nat := nb (g0 l) / 8
def gs7 (l : List Int) : List Int := (l.drop 2).take (gm l)
def gk (l : List Int) : Bool := decide (2 ≤ l.length ∧ 0 < gm l ∧ 2 + gm l ≤ l.length) && vp (g0 l) (ah (gs7 l)) (al (gs7 l)) (l.getD 1 0)
def qF (l : List Int) : Int := if gk l then g0 l else 0
def qH (l : List Int) : Int := if gk l then ah (gs7 l) else 0
def qL (l : List Int) : Int := if gk l then al (gs7 l) else 0
def qB (l : List Int) : Int := if gk l then l.getD 1 0 else 0
def qN (l : List Int) : Int := if gk l then ((2 + gm l : Nat) : Int) else 0
def qE (l : List Int) : Int := if gk l then 0 else 70
theorem q7_bad {l : List Int} (h : gk l = false) : qF l = 0 ∧ qH l = 0 ∧ qL l = 0 ∧ qB l = 0 ∧ qN l = 0 ∧ qE l = 70 := by unfold qF qH qL qB qN qE; rw [h]; exact ⟨rfl, rfl, rfl, rfl, rfl, rfl⟩
theorem q7_good {l : List Int} (h : gk l = true) : qF l = g0 l ∧ qH l = ah (gs7 l) ∧ qL l = al (gs7 l) ∧ qB l = l.getD 1 0 ∧ qN l = ((2 + gm l : Nat) : Int) ∧ qE l = 0 := by unfold qF qH qL qB qN qE; rw [h]; exact ⟨rfl, rfl, rfl, rfl, rfl, rfl⟩
theorem sizep : (Try.prog.info? 86).map (·.size) = some 4 := by kernel_rfl
theorem Pm.row {w : World} {g : Nat} {F H L B : Int} (h : Pm w g F H L B) (F' H' L' B' : Int) : Pm (w.setRow g #[.int .i64 F', .int .u64 H', .int .u64 L', .int .i64 B']) g F' H' L' B' := setRow_heap w g _ _ _ _ h
theorem wpList_spx {ops : Array Oper} {rest : List Oper} {o : Oper} {a : Act} {w : World} {Q : Exit → Act → World → Prop} (hgd : o.guard = none) (hdst : o.dst = none) (x y : Operand) (ho : o.op = .store 86 x y)
    (g : Nat) (F H L B : Int) (hx : a.eval x = .pointer (some ⟨g, 0, none⟩)) (hy : a.eval y = .agg #[.int .i64 F, .int .u64 H, .int .u64 L, .int .i64 B]) (F0 H0 L0 B0 : Int) (hg : Pm w g F0 H0 L0 B0)
    (h : wpList Try.prog ops Q rest a (w.setRow g #[.int .i64 F, .int .u64 H, .int .u64 L, .int .i64 B])) : wpList Try.prog ops Q (o :: rest) a w := by
  refine wpList_store_row hgd _ x y ho g #[.int .i64 F, .int .u64 H, .int .u64 L, .int .i64 B] hx hy _ _ hg sizep rfl (by simp [Value.oneCell']) ?_
  rw [hdst]
  exact h
theorem results_p3 {fn : Func} {p u v : Tmp} (h : fn.results = #[.cell p 86, .tmp u, .tmp v]) (tmps : Array Value) (w : World) (g : Nat) (F H L B : Int) (x y : Value)
    (hp : tmps.getD p undef = .pointer (some ⟨g, 0, none⟩)) (hu : tmps.getD u undef = x) (hv : tmps.getD v undef = y) (hg : Pm w g F H L B) :
    (results fn tmps).run Try.prog w = .ok (.tuple #[.agg #[.int .i64 F, .int .u64 H, .int .u64 L, .int .i64 B], x, y]) w := by
  have hl := run_loadVar_row (P := Try.prog) w g 86 86 #[.int .i64 F, .int .u64 H, .int .u64 L, .int .i64 B] (0, 0) _ hg Try.underlying86 rfl sizep
  have hp' : tmps[p]?.getD undef = .pointer (some ⟨g, 0, none⟩) := by simpa using hp
  have hu' : tmps[u]?.getD undef = x := by simpa using hu
  have hv' : tmps[v]?.getD undef = y := by simpa using hv
  simp [results, h, hp', hu', hv', asAddr, hl]
theorem aval_in {S : List Int} {m : Nat} (hb : ∀ z ∈ S, 0 ≤ z ∧ z ≤ 255) (hl : S.length = m) (hm : m ≤ 16) : InU (ah S) ∧ InU (al S) := by
  have hV := val_bound S hb
  have hp : (256 : Int) ^ S.length ≤ 340282366920938463463374607431768211456 := by
    rw [hl]
    by_cases e : m = 16
    · rw [e]; decide
    · exact Int.le_trans (pow256_15 m (by omega)) (by decide)
  unfold ah al InU
  generalize val S = V at *
  omega
end Go.Proofs.Ytlepbncaicpmjaa
