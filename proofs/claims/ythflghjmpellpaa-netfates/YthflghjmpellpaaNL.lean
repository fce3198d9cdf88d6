import Derived.Test.YthflghjmpellpaaNK
namespace Go.Proofs.Ythflghjmpellpaa
open Go.RowKit
set_option linter.unusedVariables false
set_option maxRecDepth 100000

/-- A net that a call has made since w0, beside blocks K that it does not touch. -/
structure Hk (w0 w : World) (K : Nat → Prop) (p : Nat) (L : List Fl) (g : Int) : Prop where
  net : ∃ F, Net w F p L g ∧ ∀ k, F k → w0.heap.size ≤ k ∧ ¬ K k
  kl : ∀ k, K k → k < w.heap.size
  bel : Below w0.heap.size w0 w
/-- What K holds is as it was. -/
def Kx (K : Nat → Prop) (w w' : World) : Prop := ∀ k, K k → w'.heap[k]? = w.heap[k]?
section
variable {w0 w w' : World} {K K' : Nat → Prop} {p : Nat} {L : List Fl} {g : Int}
theorem Kx.trans {w2 : World} (h : Kx K w w') (h2 : Kx K w' w2) : Kx K w w2 := fun k e => (h2 k e).trans (h k e)
theorem Kx.weak (h : Kx K w w') (hK : ∀ k, K' k → K k) : Kx K' w w' := fun k e => h k (hK k e)
theorem Hk.kx (h : Hk w0 w K p L g) (hb : Below w.heap.size w w') : Kx K w w' := fun k e => hb.block k (h.kl k e)
theorem Hk.on (h : Hk w0 w K p L g) (hb : Below w.heap.size w w') : Hk w0 w' (fun k => K k ∨ (w.heap.size ≤ k ∧ k < w'.heap.size)) p L g := by
  obtain ⟨F, h1, h2⟩ := h.net
  exact ⟨⟨F, h1.on hb, fun k e => ⟨(h2 k e).1, fun q => q.elim (h2 k e).2 (fun q => by have := h1.lt k e; omega)⟩⟩, fun k e => e.elim (fun e => Nat.lt_of_lt_of_le (h.kl k e) hb.size) (fun e => e.2), bel_bel h.bel h.bel.size hb⟩
theorem Hk.less (h : Hk w0 w K p L g) (hK : ∀ k, K' k → K k) : Hk w0 w K' p L g := by
  obtain ⟨F, h1, h2⟩ := h.net
  exact ⟨⟨F, h1, fun k e => ⟨(h2 k e).1, fun q => (h2 k e).2 (hK k q)⟩⟩, fun k e => h.kl k (hK k e), h.bel⟩
theorem Hk.ok (h : Hk w0 w K p L g) : NOk L g := by
  obtain ⟨F, h1, h2⟩ := h.net
  exact h1.ok
theorem Hk.p0 (h : Hk w0 w K p L g) : w0.heap.size ≤ p ∧ p < w.heap.size ∧ ¬ K p := by
  obtain ⟨F, ⟨b, ds, _, h1⟩, h2⟩ := h.net
  exact ⟨(h2 p h1.fp).1, h1.lt p h1.fp, (h2 p h1.fp).2⟩
theorem Hk.fx {F : Nat → Prop} {L' : List Fl} {g' : Int} (h : Hk w0 w K p L g) (hF : ∀ k, F k → w0.heap.size ≤ k ∧ ¬ K k) (hn : Net w' (Gr F w w') p L' g') (hf : Fx F w w') : Hk w0 w' K p L' g' ∧ Kx K w w' :=
  ⟨⟨⟨_, hn, fun k e => ⟨e.1.elim (fun e => (hF k e).1) (Nat.le_trans h.bel.size), fun q => e.1.elim (fun e => (hF k e).2 q) (fun e => by have := h.kl k q; omega)⟩⟩, fun k e => Nat.lt_of_lt_of_le (h.kl k e) hf.size, hf.below h.bel h.bel.size fun k e => (hF k e).1⟩, fun k e => hf.block k (h.kl k e) fun q => (hF k q).2 e⟩
theorem newK (hb : Below w0.heap.size w0 w) (hK : ∀ k, K k → k < w.heap.size) : Calls Try.prog 5 #[] w fun e w' => ∃ p, e = .returned (.pointer (some ⟨p, 0, none⟩)) ∧ Hk w0 w' K p [] 0 ∧ Kx K w w' := by
  refine (new_ w).mono ?_
  rintro e w1 ⟨p, rfl, h1, h2, h3⟩
  exact ⟨p, rfl, ⟨⟨_, h1, fun k e => ⟨Nat.le_trans hb.size e.1, fun q => by have := hK k q; omega⟩⟩, fun k e => Nat.lt_of_lt_of_le (hK k e) h3.size, bel_bel hb hb.size h3⟩, fun k e => h3.block k (hK k e)⟩
theorem sendK (h : Hk w0 w K p L g) {to : Int} {a : Option Addr} {n c : Nat} {d : List Int} {V : Nat → Prop} (hd : Vs w V a n c d) (hV : ∀ k, V k → k ≠ p) (hn : n ≤ 65536) (hto : i64r to) (hg : g ≤ 1000000000) {A G : Int} {L' : List Fl} (hA : sndA L g = A) (hL : sndL L g to d = L') (hG : sndG L g = G) :
    Calls Try.prog 6 #[.pointer (some ⟨p, 0, none⟩), .int .i64 to, .slice a n c] w fun e w' => e = .returned (.int .i64 A) ∧ Hk w0 w' K p L' G ∧ Kx K w w' := by
  subst hA hL hG
  obtain ⟨F, h1, h2⟩ := h.net
  refine (send_ to a n c d V h1 hd hV hn hto hg).mono ?_
  rintro e w1 ⟨rfl, h3, h4⟩
  exact ⟨rfl, h.fx h2 h3 h4⟩
theorem copyK (h : Hk w0 w K p L g) {k : Int} (hk : i64r k) (hg : g ≤ 1000000000) {A G E : Int} {L' : List Fl} (hA : cpyA L g k = A) (hE : erN L k = E) (hL : cpyL L g k = L') (hG : cpyG L g k = G) :
    Calls Try.prog 8 #[.pointer (some ⟨p, 0, none⟩), .int .i64 k] w fun e w' => e = .returned (.tuple #[.int .i64 A, .int .i64 E]) ∧ Hk w0 w' K p L' G ∧ Kx K w w' := by
  subst hA hL hG hE
  obtain ⟨F, h1, h2⟩ := h.net
  refine (copy_ k hk h1 hg).mono ?_
  rintro e w1 ⟨rfl, h3, h4⟩
  exact ⟨rfl, h.fx h2 h3 h4⟩
theorem Hk.fx0 {F F' : Nat → Prop} {L' : List Fl} {g' : Int} (h : Hk w0 w K p L g) (hF : ∀ k, F k → w0.heap.size ≤ k ∧ ¬ K k) (hn : Net w' F' p L' g') (hF' : ∀ k, F' k → F k) (hf : Fx F w w') : Hk w0 w' K p L' g' ∧ Kx K w w' :=
  ⟨⟨⟨_, hn, fun k e => hF k (hF' k e)⟩, fun k e => Nat.lt_of_lt_of_le (h.kl k e) hf.size, hf.below h.bel h.bel.size fun k e => (hF k e).1⟩, fun k e => hf.block k (h.kl k e) fun q => (hF k q).2 e⟩
theorem flipK (h : Hk w0 w K p L g) {k t x : Int} (hk : i64r k) (ht : i64r t) (hx : i64r x) {E : Int} {L' : List Fl} (hE : flE L k t x = E) (hL : flL L k t x = L') :
    Calls Try.prog 10 #[.pointer (some ⟨p, 0, none⟩), .int .i64 k, .int .i64 t, .int .i64 x] w fun e w' => e = .returned (.int .i64 E) ∧ Hk w0 w' K p L' g ∧ Kx K w w' := by
  subst hL hE
  obtain ⟨F, h1, h2⟩ := h.net
  refine (flip_ k t x hk ht hx h1).mono ?_
  rintro e w1 ⟨rfl, h3, h4⟩
  exact ⟨rfl, h.fx0 h2 h3 (fun k e => e) h4⟩
theorem dropK (h : Hk w0 w K p L g) {k : Int} (hk : i64r k) {E : Int} {L' : List Fl} (hE : erN L k = E) (hL : outL L k = L') :
    Calls Try.prog 18 #[.pointer (some ⟨p, 0, none⟩), .int .i64 k] w fun e w' => e = .returned (.int .i64 E) ∧ Hk w0 w' K p L' g ∧ Kx K w w' := by
  subst hL hE
  obtain ⟨F, h1, h2⟩ := h.net
  refine (drop_ k hk h1).mono ?_
  rintro e w1 ⟨rfl, h3, h4⟩
  exact ⟨rfl, h.fx0 h2 h3 (fun k e => e) h4⟩
theorem takeK (h : Hk w0 w K p L g) {k : Int} (hk : i64r k) {f : Fl} {n : Nat} {E : Int} {L' : List Fl} (hf : (fnd L k).getD fl0 = f) (hn : f.d.length = n) (hE : erN L k = E) (hL : outL L k = L') :
    Calls Try.prog 13 #[.pointer (some ⟨p, 0, none⟩), .int .i64 k] w fun e w' => ∃ a c V, e = .returned (.tuple #[.agg #[.int .i64 f.no, .int .i64 f.to, .slice a n c], .int .i64 E]) ∧ Vs w' V a n c f.d ∧ Hk w0 w' (fun k => K k ∨ V k) p L' g ∧ Kx K w w' := by
  subst hL hE hf hn
  obtain ⟨F, h1, h2⟩ := h.net
  refine (take_ k hk h1).mono ?_
  rintro e w1 ⟨a, c, f, er, V, rfl, ⟨e1, e2, hv⟩, hVF, h3, h4⟩
  subst e1 e2
  have := h.fx0 h2 h3 (fun k e => e.1) h4
  exact ⟨a, c, V, rfl, hv, ⟨⟨_, h3, fun k e => ⟨(h2 k e.1).1, fun q => q.elim (h2 k e.1).2 e.2⟩⟩, fun k e => e.elim (this.1.kl k) (fun e => Nat.lt_of_lt_of_le (h1.lt k (hVF k e)) h4.size), this.1.bel⟩, this.2⟩
theorem underK (h : Hk w0 w K p L g) : Calls Try.prog 14 #[.pointer (some ⟨p, 0, none⟩)] w fun e w' => ∃ a n c, n = L.length ∧ e = .returned (.slice a n c) ∧ Fls w' (fun k => w.heap.size ≤ k ∧ k < w'.heap.size) a n L ∧ Hk w0 w' (fun k => K k ∨ (w.heap.size ≤ k ∧ k < w'.heap.size)) p L g ∧ Below w.heap.size w w' := by
  obtain ⟨F, h1, h2⟩ := h.net
  refine (under_ h1).mono ?_
  rintro e w1 ⟨a, n, c, h3, rfl, h4, h5, h6, h7, h8⟩
  exact ⟨a, n, c, h3, rfl, h4.wide fun k hk e => ⟨e, hk⟩, h.on h8, h8⟩
theorem Vs.kx {V : Nat → Prop} {a : Option Addr} {n c : Nat} {d : List Int} (h : Vs w V a n c d) (hk : Kx K w w') (hV : ∀ k, V k → K k) : Vs w' V a n c d := h.step fun k _ e _ => hk k (hV k e)
theorem Fm.kx {v : Nat} {n t : Int} {a : Option Addr} {m c : Nat} (h : Fm w v n t a m c) (hk : Kx K w w') (hv : K v) : Fm w' v n t a m c := (hk v hv).trans h
theorem Fls.kx {V : Nat → Prop} {a : Option Addr} {n : Nat} {l : List Fl} (h : Fls w V a n l) (hk : Kx K w w') (hV : ∀ k, V k → K k) : Fls w' V a n l := h.step fun k _ e _ => hk k (hV k e)
end
end Go.Proofs.Ythflghjmpellpaa
