import Derived.Test.YtmgoabedickooaaGreatDoorP17
namespace Go.Proofs.YtmgoabedickooaaGreatDoor
set_option maxRecDepth 100000
open Go.RowKit
set_option linter.unusedVariables false
set_option linter.unusedSimpArgs false

theorem tp_lt (F H L B : Int) : ∀ x ∈ tp F H L B, x < 256 := by
  intro x hx
  unfold tp at hx
  split at hx
  · rcases List.mem_append.1 hx with h | h
    · exact ta_lt _ _ _ x h
    · rcases List.mem_cons.1 h with rfl | h
      · decide
      · have := dl_digit _ _ x h
        omega
  · cases hx
/-- What Parse answers. -/
def x0 (l : List Nat) : List Nat := (cu 47 l).getD 0 []
def x1 (l : List Nat) : List Nat := (cu 47 l).getD 1 []
def rT (l : List Nat) : List Nat := tp (aF (x0 l)) (aH (x0 l)) (aL (x0 l)) (nm 10 (x1 l))
def pk (l : List Nat) : Bool := decide (l.length ≤ 43 ∧ (cu 47 l).length = 2 ∧ aE (x0 l) = 0 ∧ rT l = l)
def rF (l : List Nat) : Int := if pk l then aF (x0 l) else 0
def rH (l : List Nat) : Int := if pk l then aH (x0 l) else 0
def rL (l : List Nat) : Int := if pk l then aL (x0 l) else 0
def rB (l : List Nat) : Int := if pk l then nm 10 (x1 l) else 0
def rE (l : List Nat) : Int := if pk l then 0 else 70
theorem r_bad {l : List Nat} (h : pk l = false) : 0 = rF l ∧ 0 = rH l ∧ 0 = rL l ∧ 0 = rB l ∧ 70 = rE l := by unfold rF rH rL rB rE; rw [h]; exact ⟨rfl, rfl, rfl, rfl, rfl⟩
theorem r_good {l : List Nat} (h : pk l = true) : aF (x0 l) = rF l ∧ aH (x0 l) = rH l ∧ aL (x0 l) = rL l ∧ nm 10 (x1 l) = rB l ∧ 0 = rE l := by unfold rF rH rL rB rE; rw [h]; exact ⟨rfl, rfl, rfl, rfl, rfl⟩
theorem ret_r {a b c d e a' b' c' d' e' : Int} (h : a = a' ∧ b = b' ∧ c = c' ∧ d = d' ∧ e = e') : Ending.returned (.tuple #[.agg #[.int .i64 a, .int .u64 b, .int .u64 c, .int .i64 d], .int .i64 e]) = .returned (.tuple #[.agg #[.int .i64 a', .int .u64 b', .int .u64 c', .int .i64 d'], .int .i64 e']) := by rw [h.1, h.2.1, h.2.2.1, h.2.2.2.1, h.2.2.2.2]
theorem a_in (l : List Nat) : InU (aH l) ∧ InU (aL l) := by
  have h := g_in l
  have h0 : InU 0 := by unfold InU; omega
  unfold aH aL
  cases ak l
  · exact ⟨h0, h0⟩
  · exact h
theorem results_p2 {fn : Func} {p u : Tmp} (h : fn.results = #[.cell p 50, .tmp u]) (tmps : Array Value) (w : World) (g : Nat) (F H L B : Int) (x : Value)
    (hp : tmps.getD p undef = .pointer (some ⟨g, 0, none⟩)) (hu : tmps.getD u undef = x) (hg : Pm w g F H L B) :
    (results fn tmps).run Tryz.prog w = .ok (.tuple #[.agg #[.int .i64 F, .int .u64 H, .int .u64 L, .int .i64 B], x]) w := by
  have hl := run_loadVar_row (P := Tryz.prog) w g 50 50 #[.int .i64 F, .int .u64 H, .int .u64 L, .int .i64 B] (0, 0) _ hg Tryz.underlying50 rfl sizep
  have hp' : tmps[p]?.getD undef = .pointer (some ⟨g, 0, none⟩) := by simpa using hp
  have hu' : tmps[u]?.getD undef = x := by simpa using hu
  simp [results, h, hp', hu', asAddr, hl]
end Go.Proofs.YtmgoabedickooaaGreatDoor
