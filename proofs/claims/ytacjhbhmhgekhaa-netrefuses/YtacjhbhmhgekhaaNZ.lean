import Derived.Test.YtacjhbhmhgekhaaNY
import Derived.Deep.RegionHeld3
namespace Go.Proofs.Ytacjhbhmhgekhaa
open Go.RowKit
set_option linter.unusedVariables false
set_option maxRecDepth 100000

/-! pair.plays. -/
section
variable {w0 w : World} {X V : Nat → Prop} {q : Nat} {N : Int} {sc : Bool} {tt no x at' : Int} {a : Option Addr} {n c : Nat} {d : List Int}
theorem op_box (w : World) (kd : Int) (sc : Bool) (tt no x at' : Int) (a : Option Addr) (n c : Nat) : Below w.heap.size w (w.alloc (.cells #[.int .i64 kd, .bool sc, .int .i64 tt, .int .i64 no, .int .i64 x, .int .i64 at', .slice a n c] 28)) := (Below.refl _ _).alloc (Nat.le_refl _) _
set_option maxHeartbeats 4000000 in
theorem plays1_ (h : Pq w0 w X q N) (hN : N ≤ 900000000) (hd : Vs w V a n c d) (hV : ∀ k, V k → ¬ X k) (ht : i64r tt) :
    Calls Try.prog 11 #[.pointer (some ⟨q, 0, none⟩), .agg #[.int .i64 1, .bool sc, .int .i64 tt, .int .i64 no, .int .i64 x, .int .i64 at', .slice a n c]] w fun e w' => e = .returned (.bool true) ∧ Pstep w0 w w' X q (N + 1100) := by
  have HQ := hid h
  have hb := op_box w 1 sc tt no x at' a n c
  have k1 := (h.on hb).sends (by omega) (hd.step fun k hk _ _ => hb.block k hk) hV ht
  have HB := hid hb
  clear h hb hd hV
  go_enter Try.func11, Try.ntmps11
  go_wp2_with fail
  refine k1.mono ?_
  rintro e w1 ⟨rfl, s1⟩
  have S1 := hid s1
  clear k1 s1
  go_wp2_with fail
  go_ret
  exact ⟨rfl, (Pstep.pre HQ.out HB.out S1.out).more (by omega)⟩
set_option maxHeartbeats 4000000 in
theorem plays6_ (h : Pq w0 w X q N) :
    Calls Try.prog 11 #[.pointer (some ⟨q, 0, none⟩), .agg #[.int .i64 6, .bool sc, .int .i64 tt, .int .i64 no, .int .i64 x, .int .i64 at', .slice a n c]] w fun e w' => e = .returned (.bool true) ∧ Pstep w0 w w' X q (N + 1100) := by
  have HQ := hid h
  have hb := op_box w 6 sc tt no x at' a n c
  have k1 := (h.on hb).under
  have HB := hid hb
  clear h hb
  go_enter Try.func11, Try.ntmps11
  go_wp2_with fail
  refine k1.mono ?_
  rintro e w1 ⟨rfl, s1⟩
  have S1 := hid s1
  clear k1 s1
  go_wp2_with fail
  go_ret
  exact ⟨rfl, (Pstep.pre HQ.out HB.out S1.out).more (by omega)⟩
set_option maxHeartbeats 4000000 in
theorem plays7_ (h : Pq w0 w X q N) (hN : N ≤ 900000000) (hd : Vs w V a n c d) (hV : ∀ k, V k → ¬ X k) (ht : i64r tt) (hx : i64r x) :
    Calls Try.prog 11 #[.pointer (some ⟨q, 0, none⟩), .agg #[.int .i64 7, .bool sc, .int .i64 tt, .int .i64 no, .int .i64 x, .int .i64 at', .slice a n c]] w fun e w' => e = .returned (.bool true) ∧ Pstep w0 w w' X q (N + 1100) := by
  have HQ := hid h
  have hb := op_box w 7 sc tt no x at' a n c
  obtain ⟨p, r, rv, zs, lg, L, g, hp, hz, hg⟩ := (h.on hb).ex
  have k1 := many_ (fun _ _ _ => True) w0 _ X V q N 7 sc tt no x at' a n c d (h.on hb) hN hp hz hg trivial (fun _ _ _ _ => trivial) (hd.step fun k hk _ _ => hb.block k hk) hV ht hx
  have HB := hid hb
  clear h hb hd hV hp hz hg
  go_enter Try.func11, Try.ntmps11
  go_wp2_with fail
  refine k1.mono ?_
  rintro e w1 ⟨rfl, s1⟩
  have S1 := hid s1.1
  clear k1 s1
  go_wp2_with fail
  go_ret
  exact ⟨rfl, Pstep.pre HQ.out HB.out S1.out⟩
set_option maxHeartbeats 4000000 in
theorem playsO_ (kd : Int) (h : Pq w0 w X q N) (h1 : kd ≠ 1) (h2 : kd ≠ 2) (h3 : kd ≠ 3) (h4 : kd ≠ 4) (h5 : kd ≠ 5) (h6 : kd ≠ 6) (h7 : kd ≠ 7) :
    Calls Try.prog 11 #[.pointer (some ⟨q, 0, none⟩), .agg #[.int .i64 kd, .bool sc, .int .i64 tt, .int .i64 no, .int .i64 x, .int .i64 at', .slice a n c]] w fun e w' => e = .returned (.bool true) ∧ Pstep w0 w w' X q (N + 1100) := by
  have HQ := hid h
  have HB := hid (op_box w kd sc tt no x at' a n c)
  have b1 : (kd == 1) = false := by simp [h1]
  have b2 : (kd == 2) = false := by simp [h2]
  have b3 : (kd == 3) = false := by simp [h3]
  have b4 : (kd == 4) = false := by simp [h4]
  have b5 : (kd == 5) = false := by simp [h5]
  have b6 : (kd == 6) = false := by simp [h6]
  have b7 : (kd == 7) = false := by simp [h7]
  clear h h1 h2 h3 h4 h5 h6 h7
  go_enter Try.func11, Try.ntmps11
  go_wp2_with fail
  go_ret
  exact ⟨rfl, (Pstep.of HQ.out HB.out).more (by omega)⟩
/-- A pair opened. -/
theorem Pstep.mk {w1 w2 : World} {p r : Nat} {rv : Value} {zs : List Int} {lg : Bool} {L : List Fl} {g M : Int} (h : Pq w0 w1 X q N) (h1 : Pp w2 (Gr X w1 w2) q p r rv zs lg L g) (h2 : Fx X w1 w2) (hz : zs.length ≤ 100000) (hg : g ≤ M) : Pstep w0 w1 w2 X q M :=
  ⟨⟨⟨p, r, rv, zs, lg, L, g, h1, hz, hg⟩, fun k e => e.1.elim (h.lo k) (Nat.le_trans h.bel.size), h2.below h.bel h.bel.size h.lo⟩, h2⟩
theorem gr_sub {F : Nat → Prop} {w w' w2 : World} (hs : w.heap.size ≤ w'.heap.size) {k : Nat} (e : Gr F w' w2 k) : (F k ∨ w.heap.size ≤ k) ∧ k < w2.heap.size := ⟨e.1.imp id (Nat.le_trans hs), e.2⟩
end
end Go.Proofs.Ytacjhbhmhgekhaa
