import Derived.Test.YtacjhbhmhgekhaaNZ2
import Derived.Test.YtacjhbhmhgekhaaNZ3
import Derived.Test.YtacjhbhmhgekhaaNZ4
import Derived.Test.YtacjhbhmhgekhaaNZ5
namespace Go.Proofs.Ytacjhbhmhgekhaa
open Go.RowKit
set_option linter.unusedVariables false
set_option maxRecDepth 100000

/-! Steps that came in. -/
structure Wop where
  kd : Int
  sc : Bool
  t : Int
  no : Int
  x : Int
  at' : Int
  a : Option Addr
  n : Nat
  c : Nat
  d : List Int
def wop0 : Wop := ⟨0, false, 0, 0, 0, 0, none, 0, 0, []⟩
instance : Inhabited Wop := ⟨wop0⟩
def Wop.v (y : Wop) : Value := .agg #[.int .i64 y.kd, .bool y.sc, .int .i64 y.t, .int .i64 y.no, .int .i64 y.x, .int .i64 y.at', .slice y.a y.n y.c]
def Wop.ok (y : Wop) : Prop := i64r y.kd ∧ i64r y.t ∧ i64r y.no ∧ i64r y.x ∧ i64r y.at'
structure OpAt (w : World) (b o : Nat) (y : Wop) : Prop where
  o0 : w.cell? ⟨b, o, none⟩ = some (.int .i64 y.kd)
  o1 : w.cell? ⟨b, o + 1, none⟩ = some (.bool y.sc)
  o2 : w.cell? ⟨b, o + 2, none⟩ = some (.int .i64 y.t)
  o3 : w.cell? ⟨b, o + 3, none⟩ = some (.int .i64 y.no)
  o4 : w.cell? ⟨b, o + 4, none⟩ = some (.int .i64 y.x)
  o5 : w.cell? ⟨b, o + 5, none⟩ = some (.int .i64 y.at')
  o6 : w.cell? ⟨b, o + 6, none⟩ = some (.slice y.a y.n y.c)
def OpOk (w : World) (b o : Nat) (y : Wop) : Prop := OpAt w b o y ∧ y.ok ∧ Vs w (fun k => k < w.heap.size) y.a y.n y.c y.d
structure Opl (w : World) (a : Option Addr) (n : Nat) (l : List Wop) : Prop where
  len : l.length = n
  at' : n = 0 ∨ ∃ b off, a = some ⟨b, off, none⟩ ∧ ∀ i, i < n → OpOk w b (off + i * 7) (l.getD i wop0)
theorem OpAt.on {w w' : World} {b o : Nat} {y : Wop} (h : OpAt w b o y) (hb : Below w.heap.size w w') : OpAt w' b o y := by
  have hw : ∀ {o : Nat} {v : Value}, w.cell? ⟨b, o, none⟩ = some v → w'.cell? ⟨b, o, none⟩ = some v := fun h => (hb.cell (World.block_lt_of_cell? w _ h)).trans h
  exact ⟨hw h.o0, hw h.o1, hw h.o2, hw h.o3, hw h.o4, hw h.o5, hw h.o6⟩
theorem Opl.get {w : World} {a : Option Addr} {n j : Nat} {l : List Wop} (h : Opl w a n l) (hj : j < n) : ∃ b off y, a = some ⟨b, off, none⟩ ∧ Wop.ok y ∧ ∀ wx, Below w.heap.size w wx → OpAt wx b (off + j * 7) y ∧ Vs wx (fun k => k < w.heap.size) y.a y.n y.c y.d := by
  rcases h.at' with h0 | ⟨b, off, e, hc⟩
  · omega
  · exact ⟨b, off, _, e, (hc j hj).2.1, fun wx hb => ⟨(hc j hj).1.on hb, (hc j hj).2.2.step fun k hk _ _ => hb.block k hk⟩⟩
section
variable {w0 w w' : World} {X Y : Nat → Prop} {q q' : Nat} {N : Int} {y : Wop}
/-- Any step. -/
theorem Pq.plays (h : Pq w0 w X q N) (hN : N ≤ 900000000) (hy : y.ok) (hd : Vs w (fun k => k < w0.heap.size) y.a y.n y.c y.d) :
    Calls Try.prog 11 #[.pointer (some ⟨q, 0, none⟩), y.v] w fun e w' => e = .returned (.bool true) ∧ Pstep w0 w w' X q (N + 1100) := by
  obtain ⟨kd, sc, t, no, x, at', a, n, c, d⟩ := y
  obtain ⟨y1, y2, y3, y4, y5⟩ := hy
  have hV : ∀ k, k < w0.heap.size → ¬ X k := fun k hk e => by have := h.lo k e; omega
  unfold Wop.v
  simp only at *
  by_cases e1 : kd = 1
  · subst e1; exact plays1_ h hN hd hV y2
  by_cases e2 : kd = 2
  · subst e2; exact plays2_ h y3
  by_cases e3 : kd = 3
  · subst e3; exact plays3_ h hN y3
  by_cases e4 : kd = 4
  · subst e4; exact plays4_ h hN y3
  by_cases e5 : kd = 5
  · subst e5; exact plays5_ h hN y3 y5 y4
  by_cases e6 : kd = 6
  · subst e6; exact plays6_ h
  by_cases e7 : kd = 7
  · subst e7; exact plays7_ h hN hd hV y2 y4
  exact playsO_ kd h e1 e2 e3 e4 e5 e6 e7
/-- Two pairs. -/
structure Ab (w0 w : World) (q q' : Nat) (N : Int) : Prop where
  ex : ∃ X Y, Pq w0 w X q N ∧ Pq w0 w Y q' N ∧ ∀ k, X k → ¬ Y k
theorem Ab.swap (h : Ab w0 w q q' N) : Ab w0 w q' q N := by
  obtain ⟨X, Y, h1, h2, h3⟩ := h.ex
  exact ⟨Y, X, h2, h1, fun k a b => h3 k b a⟩
theorem Ab.bel (h : Ab w0 w q q' N) : Below w0.heap.size w0 w := by
  obtain ⟨X, Y, h1, h2, h3⟩ := h.ex
  exact h1.bel
theorem Ab.step {M : Int} (h2 : Pq w0 w Y q' N) (hX : ∀ k, X k → w0.heap.size ≤ k) (h3 : ∀ k, X k → ¬ Y k) (hs : Pstep w0 w w' X q M) (hM : N ≤ M) : Ab w0 w' q q' M :=
  ⟨_, Y, hs.1, (h2.fx hs.2 (fun k a b => h3 k b a) hX).more hM, fun k e f => by
    rcases e.1 with e | e
    · exact h3 k e f
    · have := h2.lt k f; omega⟩
theorem Ab.plays (h : Ab w0 w q q' N) (hN : N ≤ 900000000) (hy : y.ok) (hd : Vs w (fun k => k < w0.heap.size) y.a y.n y.c y.d) :
    Calls Try.prog 11 #[.pointer (some ⟨q, 0, none⟩), y.v] w fun e w' => e = .returned (.bool true) ∧ Ab w0 w' q q' (N + 1100) := by
  obtain ⟨X, Y, h1, h2, h3⟩ := h.ex
  refine (h1.plays hN hy hd).mono ?_
  rintro e w1 ⟨rfl, hs⟩
  exact ⟨rfl, Ab.step h2 h1.lo h3 hs (by omega)⟩
theorem Ab.under (h : Ab w0 w q q' N) : Calls Try.prog 12 #[.pointer (some ⟨q, 0, none⟩)] w fun e w' => e = .returned (.bool true) ∧ Ab w0 w' q q' N := by
  obtain ⟨X, Y, h1, h2, h3⟩ := h.ex
  refine h1.under.mono ?_
  rintro e w1 ⟨rfl, hs⟩
  exact ⟨rfl, Ab.step h2 h1.lo h3 hs (Int.le_refl _)⟩
theorem Pq.begin {p r : Nat} (hb : Below w0.heap.size w0 w) (h : Pp w' (fun k => w.heap.size ≤ k ∧ k < w'.heap.size) q p r (.slice none 0 0) [] false [] 0) (hg : Below w.heap.size w w') : Pq w0 w' (fun k => w.heap.size ≤ k ∧ k < w'.heap.size) q 0 :=
  ⟨⟨p, r, _, _, _, _, _, h, by simp, by omega⟩, fun k e => Nat.le_trans hb.size e.1, bel_bel hb hb.size hg⟩
end
end Go.Proofs.Ytacjhbhmhgekhaa
