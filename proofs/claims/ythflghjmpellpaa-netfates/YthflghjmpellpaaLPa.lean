import Derived.Test.YthflghjmpellpaaNL
import Derived.Deep.RegionHeld3
import Derived.Laws.BitsAllLaws
namespace Go.Proofs.Ythflghjmpellpaa
open Go.RowKit
set_option linter.unusedVariables false
set_option maxRecDepth 100000

/-! Steps that came in. -/
structure Wop where
  kd : Int
  sc : Bool
  t : Int
  no : Int
  x : Int
  at' : Int
  a : Option Addr
  n : Nat
  c : Nat
  d : List Int
def wop0 : Wop := ⟨0, false, 0, 0, 0, 0, none, 0, 0, []⟩
instance : Inhabited Wop := ⟨wop0⟩
def Wop.v (y : Wop) : Value := .agg #[.int .i64 y.kd, .bool y.sc, .int .i64 y.t, .int .i64 y.no, .int .i64 y.x, .int .i64 y.at', .slice y.a y.n y.c]
def Wop.ok (y : Wop) : Prop := i64r y.kd ∧ i64r y.t ∧ i64r y.no ∧ i64r y.x ∧ i64r y.at'
structure OpAt (w : World) (b o : Nat) (y : Wop) : Prop where
  o0 : w.cell? ⟨b, o, none⟩ = some (.int .i64 y.kd)
  o1 : w.cell? ⟨b, o + 1, none⟩ = some (.bool y.sc)
  o2 : w.cell? ⟨b, o + 2, none⟩ = some (.int .i64 y.t)
  o3 : w.cell? ⟨b, o + 3, none⟩ = some (.int .i64 y.no)
  o4 : w.cell? ⟨b, o + 4, none⟩ = some (.int .i64 y.x)
  o5 : w.cell? ⟨b, o + 5, none⟩ = some (.int .i64 y.at')
  o6 : w.cell? ⟨b, o + 6, none⟩ = some (.slice y.a y.n y.c)
def OpOk (w : World) (b o : Nat) (y : Wop) : Prop := OpAt w b o y ∧ y.ok ∧ Vs w (fun k => k < w.heap.size) y.a y.n y.c y.d
structure Opl (w : World) (a : Option Addr) (n : Nat) (l : List Wop) : Prop where
  len : l.length = n
  at' : n = 0 ∨ ∃ b off, a = some ⟨b, off, none⟩ ∧ ∀ i, i < n → OpOk w b (off + i * 7) (l.getD i wop0)
theorem OpAt.on {w w' : World} {b o : Nat} {y : Wop} (h : OpAt w b o y) (hb : Below w.heap.size w w') : OpAt w' b o y := by
  have hw : ∀ {o : Nat} {v : Value}, w.cell? ⟨b, o, none⟩ = some v → w'.cell? ⟨b, o, none⟩ = some v := fun h => (hb.cell (World.block_lt_of_cell? w _ h)).trans h
  exact ⟨hw h.o0, hw h.o1, hw h.o2, hw h.o3, hw h.o4, hw h.o5, hw h.o6⟩
theorem Opl.get {w : World} {a : Option Addr} {n j : Nat} {l : List Wop} (h : Opl w a n l) (hj : j < n) : ∃ b off y, a = some ⟨b, off, none⟩ ∧ Wop.ok y ∧ ∀ wx, Below w.heap.size w wx → OpAt wx b (off + j * 7) y ∧ Vs wx (fun k => k < w.heap.size) y.a y.n y.c y.d := by
  rcases h.at' with h0 | ⟨b, off, e, hc⟩
  · omega
  · exact ⟨b, off, _, e, (hc j hj).2.1, fun wx hb => ⟨(hc j hj).1.on hb, (hc j hj).2.2.step fun k hk _ _ => hb.block k hk⟩⟩
/-- An op in its variable. -/
def Om (w : World) (v : Nat) (kd : Int) (sc : Bool) (tt no x at' : Int) (a : Option Addr) (n c : Nat) : Prop := w.heap[v]? = some (.cells #[.int .i64 kd, .bool sc, .int .i64 tt, .int .i64 no, .int .i64 x, .int .i64 at', .slice a n c] 30 (0, 0))
section
variable {w w' : World} {v : Nat} {kd tt no x at' : Int} {sc : Bool} {a : Option Addr} {n c : Nat}
theorem Om.c0 (k : Om w v kd sc tt no x at' a n c) : w.cell? ⟨v, 0, none⟩ = some (.int .i64 kd) := (cell_of_row _ _ 0 _ _ (0, 0) k).trans rfl
theorem Om.c2 (k : Om w v kd sc tt no x at' a n c) : w.cell? ⟨v, 2, none⟩ = some (.int .i64 tt) := (cell_of_row _ _ 2 _ _ (0, 0) k).trans rfl
theorem Om.c3 (k : Om w v kd sc tt no x at' a n c) : w.cell? ⟨v, 3, none⟩ = some (.int .i64 no) := (cell_of_row _ _ 3 _ _ (0, 0) k).trans rfl
theorem Om.c4 (k : Om w v kd sc tt no x at' a n c) : w.cell? ⟨v, 4, none⟩ = some (.int .i64 x) := (cell_of_row _ _ 4 _ _ (0, 0) k).trans rfl
theorem Om.c5 (k : Om w v kd sc tt no x at' a n c) : w.cell? ⟨v, 5, none⟩ = some (.int .i64 at') := (cell_of_row _ _ 5 _ _ (0, 0) k).trans rfl
theorem Om.c6 (k : Om w v kd sc tt no x at' a n c) : w.cell? ⟨v, 6, none⟩ = some (.slice a n c) := (cell_of_row _ _ 6 _ _ (0, 0) k).trans rfl
theorem Om.at (k : Om w v kd sc tt no x at' a n c) (e : w'.heap[v]? = w.heap[v]?) : Om w' v kd sc tt no x at' a n c := e.trans k
end
theorem om_new (w : World) (kd : Int) (sc : Bool) (tt no x at' : Int) (a : Option Addr) (n c : Nat) : Om (w.alloc (.cells #[.int .i64 kd, .bool sc, .int .i64 tt, .int .i64 no, .int .i64 x, .int .i64 at', .slice a n c] 30)) w.heap.size kd sc tt no x at' a n c := heap_alloc_new w _
theorem op_box (w : World) (kd : Int) (sc : Bool) (tt no x at' : Int) (a : Option Addr) (n c : Nat) : Below w.heap.size w (w.alloc (.cells #[.int .i64 kd, .bool sc, .int .i64 tt, .int .i64 no, .int .i64 x, .int .i64 at', .slice a n c] 30)) := (Below.refl _ _).alloc (Nat.le_refl _) _
/-- A flight in a variable. -/
def Bx (w : World) (K : Nat → Prop) (v : Nat) (n t : Int) (a : Option Addr) (m c : Nat) (d : List Int) : Prop := Fm w v n t a m c ∧ K v ∧ ∃ V, Vs w V a m c d ∧ ∀ k, V k → K k
section
variable {w0 w w' : World} {K K' : Nat → Prop} {p v : Nat} {n t : Int} {a : Option Addr} {m c : Nat} {d : List Int} {L : List Fl} {g : Int}
theorem Bx.kx (h : Bx w K v n t a m c d) (hk : Kx K w w') : Bx w' K v n t a m c d := by
  obtain ⟨h1, h2, V, h3, h4⟩ := h
  exact ⟨h1.kx hk h2, h2, V, h3.kx hk h4, h4⟩
theorem Bx.wide (h : Bx w K v n t a m c d) (hK : ∀ k, K k → K' k) : Bx w K' v n t a m c d := by
  obtain ⟨h1, h2, V, h3, h4⟩ := h
  exact ⟨h1, hK _ h2, V, h3, fun k e => hK k (h4 k e)⟩
theorem Bx.bs (h : Bx w K v n t a m c d) : Bs w a m d := by
  obtain ⟨h1, h2, V, h3, h4⟩ := h
  exact h3.bs
theorem Hk.set (h : Hk w0 w K p L g) {q i : Nat} (hq : K q) (h0 : w0.heap.size ≤ q) (x : Value) : Hk w0 (w.setCell ⟨q, i, none⟩ x) K p L g := by
  obtain ⟨F, h1, h2⟩ := h.net
  have hf : Fx (fun k => k = q) w (w.setCell ⟨q, i, none⟩ x) := (Fx.refl (fun k => k = q) w).set (g := q) rfl _
  exact ⟨⟨F, h1.fx hf (fun k e q' => (h2 k e).2 (by rw [q']; exact hq)), h2⟩, fun k e => Nat.lt_of_lt_of_le (h.kl k e) hf.size, hf.below h.bel h.bel.size fun k e => by rw [e]; exact h0⟩
/-- Take into a variable. -/
theorem takeB (h : Hk w0 w K p L g) {k : Int} (hk : i64r k) {f : Fl} {n : Nat} {E : Int} {L' : List Fl} (hf : (fnd L k).getD fl0 = f) (hn : f.d.length = n) (hE : erN L k = E) (hL : outL L k = L') :
    Calls Try.prog 13 #[.pointer (some ⟨p, 0, none⟩), .int .i64 k] w fun e w' => ∃ a c, e = .returned (.tuple #[.agg #[.int .i64 f.no, .int .i64 f.to, .slice a n c], .int .i64 E]) ∧ ∃ K', (∀ k, K k → K' k) ∧ (∀ k, K' k → k < (w'.alloc (.cells #[.int .i64 f.no, .int .i64 f.to, .slice a n c] 34)).heap.size) ∧ Bx (w'.alloc (.cells #[.int .i64 f.no, .int .i64 f.to, .slice a n c] 34)) K' w'.heap.size f.no f.to a n c f.d ∧ Hk w0 (w'.alloc (.cells #[.int .i64 f.no, .int .i64 f.to, .slice a n c] 34)) K' p L' g ∧ Kx K w (w'.alloc (.cells #[.int .i64 f.no, .int .i64 f.to, .slice a n c] 34)) := by
  refine (takeK h hk hf hn hE hL).mono ?_
  rintro e w1 ⟨a, c, V, rfl, hv, h1, hx⟩
  have hb : Below w1.heap.size w1 (w1.alloc (.cells #[.int .i64 f.no, .int .i64 f.to, .slice a n c] 34)) := (Below.refl _ _).alloc (Nat.le_refl _) _
  have h2 := h1.on hb
  refine ⟨a, c, rfl, _, fun k e => .inl (.inl e), h2.kl, ⟨Fm.new w1 _ _ _ _ _, .inr ⟨Nat.le_refl _, by simp⟩, V, hv.step fun k hk _ _ => hb.block k hk, fun k e => .inl (.inr e)⟩, h2, hx.trans fun k e => hb.block k (h1.kl k (.inl e))⟩
end
theorem fl_e {L : List Fl} {k v : Int} {i n : Nat} {f : Fl} (hf : fnd L k = some f) (hn : f.d.length = n) (hi : i < n) (hv : 1 ≤ v ∧ v ≤ 255) : flE L k i v = 0 ∧ flL L k i v = flipL L k i v := by
  have e1 : flE L k i v = 0 := by
    unfold flE
    rw [hf]
    simp only [hn]
    rw [if_neg (by omega)]
  exact ⟨e1, by unfold flL; rw [e1]; rfl⟩
end Go.Proofs.Ythflghjmpellpaa
