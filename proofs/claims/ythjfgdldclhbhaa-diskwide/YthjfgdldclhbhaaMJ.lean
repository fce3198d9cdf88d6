import Derived.Test.YthjfgdldclhbhaaMF
namespace Go.Proofs.Ythjfgdldclhbhaa
set_option maxRecDepth 100000
open Go.RowKit Go.Shelf
set_option linter.unusedVariables false

/-- Faults whose first j are well, and (up to 200) apart. -/
def Wl (f : Int × Int) : Prop := 1 ≤ f.1 ∧ (f.2 = 1 ∨ f.2 = 2)
structure Gd (fs : List (Int × Int)) (j : Nat) : Prop where
  w : ∀ i, i < j → Wl (fs.getD i (0, 0))
  a : j ≤ 200 → ∀ i, i < j → ∀ k, k < i → (fs.getD k (0, 0)).1 ≠ (fs.getD i (0, 0)).1
theorem fget_mem {fs : List (Int × Int)} {i : Nat} (h : i < fs.length) : fs.getD i (0, 0) ∈ fs := by
  simp [List.getD, h]
theorem okF_wl {fs : List (Int × Int)} (h : okF fs) {i : Nat} (hi : i < fs.length) : Wl (fs.getD i (0, 0)) := h.1 _ (fget_mem hi)
theorem okF_ne {fs : List (Int × Int)} (h : okF fs) {i k : Nat} (hi : i < fs.length) (hk : k < i) : (fs.getD k (0, 0)).1 ≠ (fs.getD i (0, 0)).1 := by
  have hk' : k < fs.length := by omega
  have := List.pairwise_iff_getElem.1 h.2 k i hk' hi hk
  simpa [List.getD, hi, hk'] using this
theorem Gd.ok {fs : List (Int × Int)} (h : Gd fs fs.length) (hl : fs.length ≤ 200) : okF fs := by
  refine ⟨fun f hf => ?_, List.pairwise_iff_getElem.2 fun i j hi hj hij => ?_⟩
  · obtain ⟨i, hi, rfl⟩ := List.getElem_of_mem hf
    have := h.w i hi
    simpa [List.getD, hi, Wl] using this
  · have := h.a hl j hj i hij
    simpa [List.getD, hi, hj] using this
/-- What a fault's kind answers. -/
def errOf (k : Int) : Int := if k = 1 then 104 else if k = 2 then 103 else 0
theorem lookF_snoc : ∀ (l : List (Int × Int)) (f : Int × Int) (x : Int), (∀ p ∈ l, p.1 ≠ f.1) → lookF (l ++ [f]) x = if f.1 = x then f.2 else lookF l x
  | [], f, x, _ => rfl
  | p :: l, f, x, h => by
    have ih := lookF_snoc l f x (fun q hq => h q (List.mem_cons_of_mem _ hq))
    have hp := h p List.mem_cons_self
    show (if p.1 = x then p.2 else lookF (l ++ [f]) x) = if f.1 = x then f.2 else (if p.1 = x then p.2 else lookF l x)
    rw [ih]
    by_cases h1 : p.1 = x
    · rw [if_pos h1, if_neg (fun e => hp (h1.trans e.symm)), if_pos h1]
    · rw [if_neg h1, if_neg h1]
theorem lookF_take {fs : List (Int × Int)} (h : okF fs) {k : Nat} (hk : k < fs.length) (x : Int) : lookF (fs.take (k + 1)) x = if (fs.getD k (0, 0)).1 = x then (fs.getD k (0, 0)).2 else lookF (fs.take k) x := by
  rw [List.take_add_one, List.getElem?_eq_getElem hk]
  have e : fs.getD k (0, 0) = fs[k] := by simp [List.getD, hk]
  show lookF (fs.take k ++ [fs[k]]) x = _
  rw [e, lookF_snoc]
  intro p hp
  obtain ⟨i, hi, rfl⟩ := List.getElem_of_mem hp
  rw [List.length_take] at hi
  have := okF_ne h hk (show i < k by omega)
  simpa [List.getD, hk, show i < fs.length from by omega] using this
theorem opE_on {s : St} (h : s.on = true) : opE s = errOf (s.F ((s.c : Int) + 1)) := by
  unfold opE errOf
  rw [if_pos h]
theorem opE_off {s : St} (h : s.on = false) : opE s = 104 := by
  unfold opE
  rw [if_neg (by rw [h]; decide)]
theorem flS_c (s : St) : (flS s).c = (opS s).c := by unfold flS; split <;> rfl
theorem flS_on (s : St) : (flS s).on = (opS s).on := by unfold flS; split <;> rfl
theorem flS_P {s : St} (h : s.P = []) : (flS s).P = [] := by
  unfold flS
  split
  · rfl
  · rw [opS_P, h]
theorem flS_F (s : St) : (flS s).F = s.F := by
  have : (opS s).F = s.F := by unfold opS; split <;> rfl
  unfold flS
  split
  · exact this
  · exact this
theorem opS_on_c {s : St} (h : s.on = true) : (opS s).c = s.c + 1 := by unfold opS; rw [if_pos h]
theorem opS_on_on {s : St} (h : s.on = true) : (opS s).on = decide (errOf (s.F ((s.c : Int) + 1)) ≠ 104) := by
  unfold opS
  rw [if_pos h]
  show decide _ = decide _
  unfold errOf
  by_cases h1 : s.F ((s.c : Int) + 1) = 1
  · rw [if_pos h1, h1]; rfl
  · rw [if_neg h1, decide_eq_true h1]
    split <;> rfl
theorem opS_off {s : St} (h : s.on = false) : opS s = s := by unfold opS; rw [if_neg (by rw [h]; decide)]
theorem Fs.cells {w wx : World} {a : Option Addr} {m j : Nat} {fs : List (Int × Int)} (h : Fs w a m fs) (hj : j < m) (hb : Below w.heap.size w wx) : ∃ b off, a = some ⟨b, off, none⟩ ∧ ∀ i, i < m → wx.cell? ⟨b, off + i * 2, none⟩ = some (.int .i64 (fs.getD i (0, 0)).1) ∧ wx.cell? ⟨b, off + i * 2 + 1, none⟩ = some (.int .i64 (fs.getD i (0, 0)).2) := by
  rcases (h.below hb).2 with h0 | h
  · omega
  · exact h
/-- A device alone, apart from all that was there. -/
structure Sd (w0 w : World) (d : Nat) (s : St) (Q : Nat → Prop) : Prop where
  dev : Dev w d s Q
  lo : ∀ b, Q b → w0.heap.size ≤ b
  bel : Below w0.heap.size w0 w
section
variable {w0 w w' : World} {d : Nat} {s s' : St} {Q : Nat → Prop}
theorem Sd.below (h : Sd w0 w d s Q) (hb : Below w.heap.size w w') : Sd w0 w' d s Q := ⟨h.dev.below hb, h.lo, bel_bel h.bel h.bel.size hb⟩
theorem Sd.step0 (h : Sd w0 w d s Q) (hD : Dev w' d s' Q) (hF : Fr Q w w') : Sd w0 w' d s' Q := ⟨hD, h.lo, h.bel.trans (hF.under h.bel.size h.lo)⟩
theorem Sd.step (h : Sd w0 w d s Q) (hD : Dev w' d s' (fun b => Q b ∨ (w.heap.size ≤ b ∧ b < w'.heap.size))) (hF : Fr Q w w') : Sd w0 w' d s' (fun b => Q b ∨ (w.heap.size ≤ b ∧ b < w'.heap.size)) := ⟨hD, fun b hb => by
  rcases hb with hb | hb
  · exact h.lo b hb
  · have := h.bel.size
    omega, h.bel.trans (hF.under h.bel.size h.lo)⟩
end
end Go.Proofs.Ythjfgdldclhbhaa
