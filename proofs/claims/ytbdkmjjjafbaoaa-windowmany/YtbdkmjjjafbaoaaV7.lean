import Derived.Test.YtbdkmjjjafbaoaaV6
namespace Go.Proofs.Ytbdkmjjjafbaoaa
open Go.RowKit
set_option linter.unusedVariables false
set_option maxRecDepth 100000

/-! What all laws begin with; lists of numbers that came in. -/
theorem newW {w0 w : World} {F width : Int} {m : Nat} (hF : u64r F) (hwd : width = 64 * (m : Int)) (h1 : 1 ≤ m) (h2 : m ≤ 16) (hb : Below w0.heap.size w0 w) :
    Calls Try.prog 12 #[.int .u64 F, .int .i64 width] w fun e w' => ∃ p g, e = .returned (.pointer (some ⟨p, 0, none⟩)) ∧ Hw w0 w' p g F m [] ∧ Below w.heap.size w w' ∧ w.heap.size ≤ p ∧ w.heap.size ≤ g := by
  subst hwd
  exact newH hF h1 h2 hb
structure Ucs (w : World) (a : Option Addr) (n : Nat) (l : List Int) : Prop where
  len : l.length = n
  ok : ∀ i, i < n → u64r (l.getD i 0)
  at' : n = 0 ∨ ∃ b off, a = some ⟨b, off, none⟩ ∧ ∀ i, i < n → w.cell? ⟨b, off + i, none⟩ = some (.int .u64 (l.getD i 0))
theorem cell_on18 {w w' : World} {p : Addr} {v : Value} (h : w.cell? p = some v) (hb : Below w.heap.size w w') : w'.cell? p = some v := (Below.cell hb (World.block_lt_of_cell? w p h)).trans h
theorem Ucs.on {w w' : World} {a : Option Addr} {n : Nat} {l : List Int} (h : Ucs w a n l) (hb : Below w.heap.size w w') : Ucs w' a n l := by
  refine ⟨h.len, h.ok, ?_⟩
  rcases h.at' with h0 | ⟨b, off, e, hc⟩
  · exact .inl h0
  · exact .inr ⟨b, off, e, fun i hi => cell_on18 (hc i hi) hb⟩
theorem Ucs.get {w w' : World} {a : Option Addr} {n j : Nat} {l : List Int} (h : Ucs w a n l) (hb : Below w.heap.size w w') (hj : j < n) : ∃ b off, a = some ⟨b, off, none⟩ ∧ w'.cell? ⟨b, off + j, none⟩ = some (.int .u64 (l.getD j 0)) ∧ u64r (l.getD j 0) := by
  rcases (h.on hb).at' with h0 | ⟨b, off, e, hc⟩
  · omega
  · exact ⟨b, off, e, hc j hj, h.ok j hj⟩
theorem Ucs.get2 {w : World} {a : Option Addr} {n j : Nat} {l : List Int} (h : Ucs w a n l) (hj : j < n) : ∃ b off x, a = some ⟨b, off, none⟩ ∧ u64r x ∧ l.getD j 0 = x ∧ ∀ wx, Below w.heap.size w wx → wx.cell? ⟨b, off + j, none⟩ = some (.int .u64 x) := by
  rcases h.at' with h0 | ⟨b, off, e, hc⟩
  · omega
  · exact ⟨b, off, _, e, h.ok j hj, rfl, fun wx hb => cell_on18 (hc j hj) hb⟩
structure Ics (w : World) (a : Option Addr) (n : Nat) (l : List Int) : Prop where
  len : l.length = n
  ok : ∀ i, i < n → i64r (l.getD i 0)
  at' : n = 0 ∨ ∃ b off, a = some ⟨b, off, none⟩ ∧ ∀ i, i < n → w.cell? ⟨b, off + i, none⟩ = some (.int .i64 (l.getD i 0))
theorem Ics.on {w w' : World} {a : Option Addr} {n : Nat} {l : List Int} (h : Ics w a n l) (hb : Below w.heap.size w w') : Ics w' a n l := by
  refine ⟨h.len, h.ok, ?_⟩
  rcases h.at' with h0 | ⟨b, off, e, hc⟩
  · exact .inl h0
  · exact .inr ⟨b, off, e, fun i hi => cell_on18 (hc i hi) hb⟩
theorem Ics.get {w w' : World} {a : Option Addr} {n j : Nat} {l : List Int} (h : Ics w a n l) (hb : Below w.heap.size w w') (hj : j < n) : ∃ b off, a = some ⟨b, off, none⟩ ∧ w'.cell? ⟨b, off + j, none⟩ = some (.int .i64 (l.getD j 0)) ∧ i64r (l.getD j 0) := by
  rcases (h.on hb).at' with h0 | ⟨b, off, e, hc⟩
  · omega
  · exact ⟨b, off, e, hc j hj, h.ok j hj⟩
theorem nofit_q {width : Int} (h : ¬ fitP width) : decide (64 ≤ width ∧ width ≤ 1024 ∧ width % 64 = 0) = false := decide_eq_false h
set_option maxHeartbeats 2000000 in
/-- WindowNews. -/
theorem windowNews_ (F width : Int) (w : World) (hF : u64r F) (hw : i64r width) :
    Calls Try.prog 4 #[.int .u64 F, .int .i64 width] w fun e w' => e = .returned (.bool true) ∧ Below w.heap.size w w' := by
  by_cases hfit : fitP width
  case neg =>
    have HN := hid hfit
    have hw2 := hw
    unfold i64r at hw2
    unfold fitP at hfit
    go_enter Try.func4, Try.ntmps4
    go_wp2_with fail
    refine (known_ w).mono ?_
    rintro e w1 ⟨rfl, g1⟩
    have kn := new_no F width w1 hw HN.out
    by_cases h1 : 64 ≤ width
    · by_cases h2 : width ≤ 1024
      · have h3 : (width % 64 == 0) = false := by simp; omega
        clear hfit
        go_wp2_with fail
        refine kn.mono ?_
        rintro e w2 ⟨rfl, rfl⟩
        go_wp2_with fail
        go_ret
        exact ⟨rfl, g1⟩
      · clear hfit
        go_wp2_with fail
        refine kn.mono ?_
        rintro e w2 ⟨rfl, rfl⟩
        go_wp2_with fail
        go_ret
        exact ⟨rfl, g1⟩
    · clear hfit
      go_wp2_with fail
      refine kn.mono ?_
      rintro e w2 ⟨rfl, rfl⟩
      go_wp2_with fail
      go_ret
      exact ⟨rfl, g1⟩
  case pos =>
    obtain ⟨m, hwd, hm1, hm2⟩ := fit_of hfit
    have h1 : 64 ≤ width := hfit.1
    have h2 : width ≤ 1024 := hfit.2.1
    have h3 : (width % 64 == 0) = true := by simp [hfit.2.2]
    have HFF := hid hF
    have HWD : Hid (width = 64 * (m : Int) ∧ 1 ≤ m ∧ m ≤ 16) := ⟨hwd, hm1, hm2⟩
    clear hfit hwd hm1 hm2 hF hw
    go_enter Try.func4, Try.ntmps4
    go_wp2_with fail
    refine (known_ w).mono ?_
    rintro e w1 ⟨rfl, g1⟩
    have kn := newW (w0 := w) HFF.out HWD.out.1 HWD.out.2.1 HWD.out.2.2 g1
    clear g1
    go_wp2_with fail
    refine kn.mono ?_
    rintro e w2 ⟨p, g, rfl, h, -⟩
    have kt := topH h (t := 0) (q := false) rfl rfl
    clear kn h
    go_wp2_with fail
    refine kt.mono ?_
    rintro e w3 ⟨rfl, h⟩
    have kx := takesH h HFF.out (tk_rise (by have := HWD.out; omega) (Int.le_refl _) (.inl rfl))
    clear kt h
    go_wp2_with fail
    refine kx.mono ?_
    rintro e w4 ⟨rfl, h⟩
    have kf := floorH h
    have HB := hid h.bel
    clear kx h
    go_wp2_with fail
    refine kf.mono ?_
    rintro e w5 ⟨rfl, rfl⟩
    go_wp2_with fail
    go_ret
    exact ⟨rfl, HB.out⟩
end Go.Proofs.Ytbdkmjjjafbaoaa
