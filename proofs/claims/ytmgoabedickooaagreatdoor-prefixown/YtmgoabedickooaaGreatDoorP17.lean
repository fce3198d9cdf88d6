import Derived.Test.YtmgoabedickooaaGreatDoorP16
namespace Go.Proofs.YtmgoabedickooaaGreatDoor
set_option maxRecDepth 100000
open Go.RowKit
set_option linter.unusedVariables false

theorem txj_lt (n : Nat) (l : List Nat) (hl : ∀ x ∈ l, x < 256) (j : Nat) : ∀ x ∈ txj n l j, x < 256 := by
  intro x hxx
  unfold txj at hxx
  obtain ⟨i, _, h⟩ := List.mem_flatMap.1 hxx
  have hb : l.getD i 0 < 256 := getD_lt6 hl i
  unfold pc at h
  split at h
  · rcases List.mem_append.1 h with h | h
    · split at h
      · rw [List.mem_singleton.1 h]; decide
      · cases h
    · have := dl_digit _ _ x h
      omega
  · rcases List.mem_append.1 h with h | h
    · split at h
      · rw [List.mem_singleton.1 h]; decide
      · cases h
    · have b1 := hd_lt (l.getD i 0 / 16) (by omega)
      have b2 := hd_lt (l.getD i 0 % 16) (by omega)
      unfold hx at h
      rcases List.mem_cons.1 h with h | h
      · omega
      · have := List.mem_singleton.1 h
        omega
theorem ta_lt (F H L : Int) : ∀ x ∈ ta F H L, x < 256 := txj_lt _ _ (nl_lt (pa_byte F H L)) _
/-- What ParseAddr answers. -/
def ak (l : List Nat) : Bool := decide (l.length ≤ 39 ∧ l ≠ [] ∧ ta (gF l) (ah (gB l)) (al (gB l)) = l)
def aF (l : List Nat) : Int := if ak l then gF l else 0
def aH (l : List Nat) : Int := if ak l then ah (gB l) else 0
def aL (l : List Nat) : Int := if ak l then al (gB l) else 0
def aE (l : List Nat) : Int := if ak l then 0 else 70
theorem a_bad {l : List Nat} (h : ak l = false) : 0 = aF l ∧ 0 = aH l ∧ 0 = aL l ∧ 70 = aE l := by unfold aF aH aL aE; rw [h]; exact ⟨rfl, rfl, rfl, rfl⟩
theorem a_good {l : List Nat} (h : ak l = true) : gF l = aF l ∧ ah (gB l) = aH l ∧ al (gB l) = aL l ∧ 0 = aE l := by unfold aF aH aL aE; rw [h]; exact ⟨rfl, rfl, rfl, rfl⟩
theorem ret_a {a b c d a' b' c' d' : Int} (h : a = a' ∧ b = b' ∧ c = c' ∧ d = d') : Ending.returned (.tuple #[.agg #[.int .i64 a, .int .u64 b, .int .u64 c], .int .i64 d]) = .returned (.tuple #[.agg #[.int .i64 a', .int .u64 b', .int .u64 c'], .int .i64 d']) := by rw [h.1, h.2.1, h.2.2.1, h.2.2.2]
theorem g_in (l : List Nat) : InU (ah (gB l)) ∧ InU (al (gB l)) := aval_in (gB_byte l) rfl (by have := gB_len l; omega)
theorem results_a2 {fn : Func} {p u : Tmp} (h : fn.results = #[.cell p 48, .tmp u]) (tmps : Array Value) (w : World) (g : Nat) (F H L : Int) (x : Value)
    (hp : tmps.getD p undef = .pointer (some ⟨g, 0, none⟩)) (hu : tmps.getD u undef = x) (hg : Am w g F H L) :
    (results fn tmps).run Tryz.prog w = .ok (.tuple #[.agg #[.int .i64 F, .int .u64 H, .int .u64 L], x]) w := by
  have hl := run_loadVar_row (P := Tryz.prog) w g 48 48 #[.int .i64 F, .int .u64 H, .int .u64 L] (0, 0) _ hg Tryz.underlying48 rfl sizea
  have hp' : tmps[p]?.getD undef = .pointer (some ⟨g, 0, none⟩) := by simpa using hp
  have hu' : tmps[u]?.getD undef = x := by simpa using hu
  simp [results, h, hp', hu', asAddr, hl]
end Go.Proofs.YtmgoabedickooaaGreatDoor
