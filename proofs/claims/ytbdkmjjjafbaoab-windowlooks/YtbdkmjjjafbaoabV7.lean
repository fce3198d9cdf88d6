import Derived.Test.YtbdkmjjjafbaoabV6
namespace Go.Proofs.Ytbdkmjjjafbaoab
open Go.RowKit
set_option linter.unusedVariables false
set_option maxRecDepth 100000

/-! What all laws begin with; lists of numbers that came in. -/
theorem newW {w0 w : World} {F width : Int} {m : Nat} (hF : u64r F) (hwd : width = 64 * (m : Int)) (h1 : 1 ≤ m) (h2 : m ≤ 16) (hb : Below w0.heap.size w0 w) :
    Calls Try.prog 7 #[.int .u64 F, .int .i64 width] w fun e w' => ∃ p g, e = .returned (.pointer (some ⟨p, 0, none⟩)) ∧ Hw w0 w' p g F m [] ∧ Below w.heap.size w w' ∧ w.heap.size ≤ p ∧ w.heap.size ≤ g := by
  subst hwd
  exact newH hF h1 h2 hb
structure Ucs (w : World) (a : Option Addr) (n : Nat) (l : List Int) : Prop where
  len : l.length = n
  ok : ∀ i, i < n → u64r (l.getD i 0)
  at' : n = 0 ∨ ∃ b off, a = some ⟨b, off, none⟩ ∧ ∀ i, i < n → w.cell? ⟨b, off + i, none⟩ = some (.int .u64 (l.getD i 0))
theorem cell_on18 {w w' : World} {p : Addr} {v : Value} (h : w.cell? p = some v) (hb : Below w.heap.size w w') : w'.cell? p = some v := (Below.cell hb (World.block_lt_of_cell? w p h)).trans h
theorem Ucs.on {w w' : World} {a : Option Addr} {n : Nat} {l : List Int} (h : Ucs w a n l) (hb : Below w.heap.size w w') : Ucs w' a n l := by
  refine ⟨h.len, h.ok, ?_⟩
  rcases h.at' with h0 | ⟨b, off, e, hc⟩
  · exact .inl h0
  · exact .inr ⟨b, off, e, fun i hi => cell_on18 (hc i hi) hb⟩
theorem Ucs.get {w w' : World} {a : Option Addr} {n j : Nat} {l : List Int} (h : Ucs w a n l) (hb : Below w.heap.size w w') (hj : j < n) : ∃ b off, a = some ⟨b, off, none⟩ ∧ w'.cell? ⟨b, off + j, none⟩ = some (.int .u64 (l.getD j 0)) ∧ u64r (l.getD j 0) := by
  rcases (h.on hb).at' with h0 | ⟨b, off, e, hc⟩
  · omega
  · exact ⟨b, off, e, hc j hj, h.ok j hj⟩
theorem Ucs.get2 {w : World} {a : Option Addr} {n j : Nat} {l : List Int} (h : Ucs w a n l) (hj : j < n) : ∃ b off x, a = some ⟨b, off, none⟩ ∧ u64r x ∧ l.getD j 0 = x ∧ ∀ wx, Below w.heap.size w wx → wx.cell? ⟨b, off + j, none⟩ = some (.int .u64 x) := by
  rcases h.at' with h0 | ⟨b, off, e, hc⟩
  · omega
  · exact ⟨b, off, _, e, h.ok j hj, rfl, fun wx hb => cell_on18 (hc j hj) hb⟩
structure Ics (w : World) (a : Option Addr) (n : Nat) (l : List Int) : Prop where
  len : l.length = n
  ok : ∀ i, i < n → i64r (l.getD i 0)
  at' : n = 0 ∨ ∃ b off, a = some ⟨b, off, none⟩ ∧ ∀ i, i < n → w.cell? ⟨b, off + i, none⟩ = some (.int .i64 (l.getD i 0))
theorem Ics.on {w w' : World} {a : Option Addr} {n : Nat} {l : List Int} (h : Ics w a n l) (hb : Below w.heap.size w w') : Ics w' a n l := by
  refine ⟨h.len, h.ok, ?_⟩
  rcases h.at' with h0 | ⟨b, off, e, hc⟩
  · exact .inl h0
  · exact .inr ⟨b, off, e, fun i hi => cell_on18 (hc i hi) hb⟩
theorem Ics.get {w w' : World} {a : Option Addr} {n j : Nat} {l : List Int} (h : Ics w a n l) (hb : Below w.heap.size w w') (hj : j < n) : ∃ b off, a = some ⟨b, off, none⟩ ∧ w'.cell? ⟨b, off + j, none⟩ = some (.int .i64 (l.getD j 0)) ∧ i64r (l.getD j 0) := by
  rcases (h.on hb).at' with h0 | ⟨b, off, e, hc⟩
  · omega
  · exact ⟨b, off, e, hc j hj, h.ok j hj⟩
theorem nofit_q {width : Int} (h : ¬ fitP width) : decide (64 ≤ width ∧ width ≤ 1024 ∧ width % 64 = 0) = false := decide_eq_false h
end Go.Proofs.Ytbdkmjjjafbaoab
