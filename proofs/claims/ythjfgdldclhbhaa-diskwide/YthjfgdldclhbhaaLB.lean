import Derived.Test.YthjfgdldclhbhaaLA
namespace Go.Proofs.Ythjfgdldclhbhaa
set_option maxRecDepth 100000
open Go.RowKit Go.Shelf
set_option linter.unusedVariables false

theorem Ro.cell {w : World} {Q : Nat → Prop} {a : Option Addr} {n : Nat} {zs : List Int} (h : Ro w Q a n zs) (hn : 0 < n) : ∃ b off, a = some ⟨b, off, none⟩ ∧ ∀ i, i < n → w.cell? ⟨b, off + i, none⟩ = some (.int .u8 (zs.getD i 0)) := by
  rcases h.bs.2.2 with h0 | h
  · omega
  · exact h
/-- A device's states in the chapter's first lines. -/
def f1 : St := ⟨32, fun _ => zer, [(3, ful 65)], fun _ => 0, 1, true, 0⟩
def f2 : St := ⟨32, fun _ => zer, [(3, ful 65)], fun _ => 0, 2, true, 0⟩
def f3 : St := ⟨32, fun _ => zer, [(3, ful 65)], lookF [(1, 2)], 0, true, 0⟩
def f4 : St := ⟨32, fun _ => zer, [(3, ful 65)], lookF [(1, 2)], 1, true, 0⟩
def f5 : St := ⟨32, layA (fun _ => zer) [(3, ful 65)], [], lookF [(1, 2)], 2, true, 0⟩
theorem len65 : (ful 65).length = 512 := List.length_replicate
theorem f1E : wrE (st0 32) 3 512 = 0 := by decide
theorem f1S : wrS (st0 32) 3 (ful 65) = f1 := by
  unfold wrS
  rw [len65]
  rfl
theorem f2E : rdE f1 3 = 0 := by decide
theorem f2S : rdS f1 3 = f2 := rfl
theorem f2B : rdB f1 3 = ful 65 := rfl
theorem f3E : arE f2 [(1, 2)] = 0 := by decide
theorem f3S : arS f2 [(1, 2)] = f3 := rfl
theorem f4E : opE f3 = 103 := by decide
theorem f4S : flS f3 = f4 := rfl
theorem f5E : opE f4 = 0 := by decide
theorem f5S : flS f4 = f5 := rfl
theorem fz3 : (flat (fun _ => zer) 32).getD 1536 0 = 0 := by
  have := flat_get (S := fun _ => zer) 32 (fun _ _ => zer_sec.1) 3 (by decide) 0 (by decide)
  exact this.trans (by simp [zer])
theorem f5l : ∀ i, i < 32 → (f5.S i).length = 512 := by
  intro i _
  show (lay1 (fun _ => zer) (3, ful 65) i).length = 512
  unfold lay1
  split
  · exact len65
  · exact zer_sec.1
theorem f5a : (flat f5.S 32).getD 1536 0 = 65 := by
  have := flat_get (S := f5.S) 32 f5l 3 (by decide) 0 (by decide)
  refine this.trans ?_
  show (lay1 (fun _ => zer) (3, ful 65) 3).getD 0 0 = 65
  simp [lay1, ful]
theorem f5b : (flat f5.S 32).getD 2047 0 = 65 := by
  have := flat_get (S := f5.S) 32 f5l 3 (by decide) 511 (by decide)
  refine this.trans ?_
  show (lay1 (fun _ => zer) (3, ful 65) 3).getD 511 0 = 65
  simp [lay1, ful]
theorem f5c : (flat f5.S 32).getD 2048 0 = 0 := by
  have := flat_get (S := f5.S) 32 f5l 4 (by decide) 0 (by decide)
  refine this.trans ?_
  show (lay1 (fun _ => zer) (3, ful 65) 4).getD 0 0 = 0
  simp [lay1, zer]
set_option maxHeartbeats 8000000 in
theorem first_ (w : World) : Calls Try.prog 9 #[] w fun e w' => e = .returned (.bool true) ∧ Below w.heap.size w w' := by
  go_enter Try.func9, Try.ntmps9
  go_wp2_with fail
  refine (new_ 32 w (by decide) (by decide)).mono ?_
  rintro e w1 ⟨d, rfl, D, B⟩
  have L : ∀ b, (fun b => w.heap.size ≤ b ∧ b < w1.heap.size) b → w.heap.size ≤ b := fun b h => h.1
  generalize (fun b => w.heap.size ≤ b ∧ b < w1.heap.size) = Q at *
  go_wp2_with fail
  refine (new_no 31 w1 (by decide)).mono ?_
  rintro e w1' ⟨rfl, hw⟩
  obtain rfl := hw.symm
  clear hw
  go_wp2_with fail
  refine (full_ 65 w1 (by decide)).mono ?_
  rintro e w2 ⟨v2, rfl, o2, g2⟩
  obtain ⟨a2, c2, rfl, R2, _, _⟩ := Ro.new (Q := Q) o2 (ful_sec (by decide)).2 D.lt
  replace D := D.below g2
  replace B := bel_bel B B.size g2
  clear o2 g2
  go_wp2_with fail
  refine (write_ d (st0 32) Q 3 a2 512 c2 (ful 65) w2 D (by decide) (by decide) R2.bs R2.nq).mono ?_
  rw [f1E, f1S]
  rintro e w3 ⟨rfl, D3, F3⟩
  have B3 := B.trans (F3.under B.size L)
  have L3 : ∀ b, (fun b => Q b ∨ (w2.heap.size ≤ b ∧ b < w3.heap.size)) b → w.heap.size ≤ b := fun b h => by
    rcases h with h | h
    · exact L b h
    · have := B.size
      omega
  generalize (fun b => Q b ∨ (w2.heap.size ≤ b ∧ b < w3.heap.size)) = Q3 at *
  clear R2 D B F3 L
  go_wp2_with fail
  refine (read_ d 3 f1 Q3 w3 D3 (by decide) (by decide)).mono ?_
  rw [f2E, f2S, f2B]
  rintro e w4 ⟨v4, rfl, o4, D4, F4⟩
  rw [len65] at o4
  obtain ⟨a4, c4, rfl, R4, _, _⟩ := Ro.new (Q := Q3) o4 (ful_sec (by decide)).2 D3.lt
  have B4 := B3.trans (F4.under B3.size L3)
  clear D3 B3 F4 o4
  go_wp2_with fail
  refine (full_ 65 w4 (by decide)).mono ?_
  rintro e w5 ⟨v5, rfl, o5, g5⟩
  obtain ⟨a5, c5, rfl, R5, _, _⟩ := Ro.new (Q := Q3) o5 (ful_sec (by decide)).2 D4.lt
  have D5 := D4.below g5
  have B5 := bel_bel B4 B4.size g5
  replace R4 := R4.below g5
  clear o5 g5 D4 B4
  go_wp2_with fail
  refine (same_yes a4 a5 512 c4 512 c5 (ful 65) w5 R4.bs R5.bs (by decide) (by decide)).mono ?_
  rintro e w6 ⟨rfl, g6⟩
  have D6 := D5.below g6.below
  have B6 := bel_bel B5 B5.size g6.below
  clear R4 R5 D5 B5 g6
  go_wp2_with fail
  refine (durable_ d f2 Q3 w6 D6).mono ?_
  rintro e w7 ⟨v7, rfl, o7, g7⟩
  obtain ⟨a7, c7, rfl, R7, hc7, _⟩ := Ro.new (Q := Q3) o7 (flat_byte 32 D6.sec) D6.lt
  have D7 := D6.below g7
  have B7 := bel_bel B6 B6.size g7
  obtain ⟨b7, x7, rfl, cc7⟩ := R7.cell (by decide)
  have c7a := cc7 1536 (by decide)
  rw [show (flat f2.S f2.n).getD 1536 0 = 0 from fz3] at c7a
  clear o7 g7 D6 B6 cc7
  have e7 : (512 * f2.n) = 16384 := rfl
  rw [e7] at R7 hc7 ⊢
  go_wp2_with (go_at_call 19; refine (num_ _ _).mono ?_; rintro e w' ⟨rfl, hw⟩; obtain rfl := hw.symm; clear hw)
  have gA : Below w7.heap.size w7 (w7.alloc (.cells #[.int .i64 1, .int .i64 2] 71)) := (Below.refl _ _).alloc (Nat.le_refl _) _
  have D8 := D7.below gA
  have B8 := bel_bel B7 B7.size gA
  have R8 := R7.below gA
  have FA : Fs (w7.alloc (.cells #[.int .i64 1, .int .i64 2] 71)) (some ⟨w7.heap.size, 0, none⟩) 1 [(1, 2)] := by
    have h := cells2_new w7 (.int .i64 1) (.int .i64 2) 71
    refine ⟨rfl, .inr ⟨w7.heap.size, 0, rfl, fun i hi => ?_⟩⟩
    obtain rfl : i = 0 := by omega
    exact h
  clear D7 B7 R7 gA c7a
  generalize hWA : w7.alloc (.cells #[.int .i64 1, .int .i64 2] 71) = w8 at *
  clear hWA
  refine (arm_ d f2 Q3 (some ⟨w7.heap.size, 0, none⟩) 1 1 [(1, 2)] w8 D8 FA (by decide)).mono ?_
  rw [f3E, f3S]
  rintro e w9 ⟨rfl, D9, F9⟩
  have B9 := B8.trans (F9.under B8.size L3)
  have R9 := R8.dev F9
  have L9 : ∀ b, (fun b => Q3 b ∨ (w8.heap.size ≤ b ∧ b < w9.heap.size)) b → w.heap.size ≤ b := fun b h => by
    rcases h with h | h
    · exact L3 b h
    · have := B8.size
      omega
  generalize (fun b => Q3 b ∨ (w8.heap.size ≤ b ∧ b < w9.heap.size)) = Q9 at *
  clear D8 B8 F9 R8 FA L3
  go_wp2_with fail
  refine (flush_ d f3 Q9 w9 D9 (by decide) (by decide)).mono ?_
  rw [f4E, f4S]
  rintro e w10 ⟨rfl, D10, F10⟩
  have B10 := B9.trans (F10.under B9.size L9)
  have R10 := R9.fr F10
  clear D9 B9 F10 R9
  go_wp2_with fail
  refine (flush_ d f4 Q9 w10 D10 (by decide) (by decide)).mono ?_
  rw [f5E, f5S]
  rintro e w11 ⟨rfl, D11, F11⟩
  have B11 := B10.trans (F11.under B10.size L9)
  have R11 := R10.fr F11
  clear D10 B10 F11 R10
  go_wp2_with fail
  refine (doneD D11).mono ?_
  rintro e w11' ⟨rfl, hw⟩
  obtain rfl := hw.symm
  clear hw
  go_wp2_with fail
  refine (durable_ d f5 Q9 w11 D11).mono ?_
  rintro e w12 ⟨v12, rfl, o12, g12⟩
  obtain ⟨a12, c12, rfl, R12, hc12, _⟩ := Ro.new (Q := Q9) o12 (flat_byte 32 D11.sec) D11.lt
  have B12 := bel_bel B11 B11.size g12
  have R7 := R11.below g12
  obtain ⟨b12, x12, rfl, cc12⟩ := R12.cell (by decide)
  have ca := cc12 1536 (by decide)
  have cb := cc12 2047 (by decide)
  have cd := cc12 2048 (by decide)
  rw [show (flat f5.S f5.n).getD 1536 0 = 65 from f5a] at ca
  rw [show (flat f5.S f5.n).getD 2047 0 = 65 from f5b] at cb
  rw [show (flat f5.S f5.n).getD 2048 0 = 0 from f5c] at cd
  have ce := R7.bs
  have ce' : w12.cell? ⟨b7, x7 + 1536, none⟩ = some (.int .u8 0) := by
    rcases ce.2.2 with h0 | ⟨b, off, e, hc⟩
    · omega
    · obtain ⟨rfl, rfl⟩ : b7 = b ∧ x7 = off := by simpa using e
      have := hc 1536 (by decide)
      rw [show (flat f2.S f2.n).getD 1536 0 = 0 from fz3] at this
      exact this
  have e12 : (512 * f5.n) = 16384 := rfl
  rw [e12] at R12 hc12 ⊢
  have hdc : ((f5.c : Nat) : Int) = 2 := rfl
  rw [hdc]
  clear o12 g12 B11 R11 D11 cc12 ce R7 R12 e12 hdc e7
  go_wp2_with (go_at_call 19; refine (num_ _ _).mono ?_; rintro e w' ⟨rfl, hw⟩; obtain rfl := hw.symm; clear hw)
  go_ret
  exact ⟨rfl, B12⟩
end Go.Proofs.Ythjfgdldclhbhaa
