import Derived.Test.YtcaecfdeieoenaaR9
namespace Go.Proofs.Ytcaecfdeieoenaa
set_option maxRecDepth 100000
open Go.RowKit Go.Shelf
set_option linter.unusedVariables false
attribute [local go_sem] Oper.semAt_some

/-- No row of nodes. -/
def Nr (W : World) (k : Nat) : Prop := ∀ cur fl, W.heap[k]? ≠ some (.cells cur 73 fl)
theorem Nr.boxed {W : World} {k : Nat} {t : TypeId} {v : Value} (h : Boxed W k t v) (ht : t ≠ 73) : Nr W k := fun cur fl e => by
  have h : W.heap[k]? = _ := h
  rw [e] at h
  simp at h
  exact ht h.2.1.symm
theorem Nr.new {W : World} {k : Nat} (h : W.heap.size ≤ k) : Nr W k := fun cur fl e => by
  have := (Array.getElem?_eq_some_iff.1 e).1
  omega
/-- What the body of a loop over a table keeps: what lay below n, what lies from a to b, and each row of nodes. -/
def Kq (n a b : Nat) (W W' : World) : Prop := W.heap.size ≤ W'.heap.size ∧ (∀ k, (k < n ∨ (a ≤ k ∧ k < b)) → W'.heap[k]? = W.heap[k]?) ∧ ∀ k, ¬ Nr W k → W'.heap[k]? = W.heap[k]?
theorem Kq.t {n a b : Nat} {X Y Z : World} (h : Kq n a b X Y) (k : Kq n a b Y Z) : Kq n a b X Z := ⟨Nat.le_trans h.1 k.1, fun i hi => (k.2.1 i hi).trans (h.2.1 i hi), fun i hi => (k.2.2 i (by
  have e := h.2.2 i hi
  unfold Nr at hi ⊢
  rw [e]
  exact hi)).trans (h.2.2 i hi)⟩
theorem Kq.b {n a b : Nat} {w : World} (hn : n ≤ w.heap.size) (hb : b ≤ w.heap.size) (W : World) (l : Nat) (o o' : Obj) (hl : w.heap.size ≤ l) (h : W.heap[l]? = some o) (ho : o.isCells = false) (_ : o.isWalk = false) : Kq n a b W (W.putObj l o') := by
  have hg := grownBy_putObj' W l o'
  refine ⟨hg.size, fun i hi => hg.block i (by have := (Array.getElem?_eq_some_iff.1 h).1; omega) (fun e => by cases e; omega), fun i hi => ?_⟩
  by_cases e : i < W.heap.size
  · refine hg.block i e (fun e' => ?_)
    cases e'
    refine hi (fun cur fl e2 => ?_)
    rw [h] at e2
    cases e2
    cases ho
  · exact absurd (Nr.new (by omega)) hi
/-- A way in Go's numbers. -/
abbrev Wi := { x : Wy // x.In }
theorem seq_wy {P : Program} {n gf N : Nat} {lb : Array Value} {Kp : World → World → Prop} {l : List Wy} {w : World} (h : SeqStopsK Fence.wide n P gf lb (fun x : Wi => #[x.1.px, .int .i64 x.1.K]) Kp (fun ys => ys.map (·.1) = l) (fun pre => pre.map (·.1) <+: l) N w) :
    SeqStopsK Fence.wide n P gf lb (fun x : Wy => #[x.px, .int .i64 x.K]) Kp (fun ys => ys = l) (fun pre => pre <+: l) N w := by
  intro lp J Jx W hW hJ hJx hY h0
  refine (h lp (fun pre => J (pre.map (·.1))) (fun pre => Jx (pre.map (·.1))) W hW (fun s => hJ (s.map _)) (fun s => hJx (s.map _)) (fun pre x W1 hj hlt => ?_) h0).mono ?_
  · have := hY (pre.map (·.1)) x.1 W1 hj (by simpa using hlt)
    simpa using this
  · rintro e W' ⟨hv, h | h⟩
    · obtain ⟨xs, h1, h2⟩ := h
      exact ⟨hv, .inl ⟨_, h1, h2⟩⟩
    · obtain ⟨xs, h1, h2⟩ := h
      exact ⟨hv, .inr ⟨_, h1, h2⟩⟩
/-- What package route does, over a predicate of whoever proves it: the table in memory has these ways. -/
structure Rte (Tr : World → Value → List Wy → Prop) : Prop where
  kept : ∀ {w w' : World} {v : Value} {l : List Wy}, Tr w v l → Below w.heap.size w w' → Tr w' v l
  ptr : ∀ {w : World} {v : Value} {l : List Wy}, Tr w v l → ∃ a, v = .pointer (some a)
  tl : ∀ {w : World} {v : Value} {l : List Wy}, Tr w v l → Tl l
  new_ : ∀ w : World, Calls Try.prog 22 #[] w fun e w' => (∃ v, e = .returned v ∧ Tr w' v []) ∧ Below w.heap.size w w'
  with_ : ∀ (w : World) (v : Value) (l : List Wy) (p : Wy), Tr w v l → p.In → l.length ≤ 99999 → Calls Try.prog 19 #[v, p.px, .int .i64 p.K] w fun e w' => ((wE p l ≠ 0 ∧ e = .returned (.tuple #[.pointer none, .int .i64 (wE p l)])) ∨ (wE p l = 0 ∧ ∃ v', e = .returned (.tuple #[v', .int .i64 0]) ∧ Tr w' v' (ins p l))) ∧ Below w.heap.size w w'
  without_ : ∀ (w : World) (v : Value) (l : List Wy) (p : Wy), Tr w v l → p.In → l.length ≤ 99999 → Calls Try.prog 21 #[v, p.px] w fun e w' => ((oE p l ≠ 0 ∧ e = .returned (.tuple #[.pointer none, .int .i64 (oE p l)])) ∨ (oE p l = 0 ∧ ∃ v', e = .returned (.tuple #[v', .int .i64 0]) ∧ Tr w' v' (del p l))) ∧ Below w.heap.size w w'
  find_ : ∀ (w : World) (v : Value) (l : List Wy) (F H L : Int), Tr w v l → InI F → InU H → InU L → l.length ≤ 99999 → Calls Try.prog 15 #[v, .agg #[.int .i64 F, .int .u64 H, .int .u64 L]] w fun e w' => e = .returned (.tuple #[.int .i64 (fK l F H L), .bool (fO l F H L)]) ∧ Below w.heap.size w w'
  len_ : ∀ (w : World) (v : Value) (l : List Wy), Tr w v l → l.length ≤ 99999 → Calls Try.prog 17 #[v] w fun e w' => e = .returned (.int .i64 l.length) ∧ Below w.heap.size w w'
  all_ : ∀ (w0 w : World) (v : Value) (l : List Wy), Tr w0 v l → Below w0.heap.size w0 w → l.length ≤ 99999 → Calls Try.prog 13 #[v] w fun e w' => (∃ (gf : Nat) (lb : Array Value), e = .returned (.func (.func gf) #[] lb) ∧ (∀ args w, (callFunc gf args).run Try.prog w = .ok (.enter gf args) w) ∧ ∀ n, 1 ≤ n → SeqStopsK Fence.wide n Try.prog gf lb (fun x : Wi => #[x.1.px, .int .i64 x.1.K]) (Kq w0.heap.size w.heap.size w'.heap.size) (fun ys => ys.map (·.1) = l) (fun pre => pre.map (·.1) <+: l) l.length w') ∧ Below w.heap.size w w'
/-- Of what lay nothing turns but the blocks of M. -/
def Gs (M : Nat → Prop) (W W' : World) : Prop := W.heap.size ≤ W'.heap.size ∧ ∀ k, k < W.heap.size → ¬ M k → W'.heap[k]? = W.heap[k]?
theorem Gs.refl (M : Nat → Prop) (W : World) : Gs M W W := ⟨Nat.le_refl _, fun _ _ _ => rfl⟩
theorem Gs.trans {M : Nat → Prop} {X Y Z : World} (h : Gs M X Y) (k : Gs M Y Z) : Gs M X Z := ⟨Nat.le_trans h.1 k.1, fun i hi hm => (k.2 i (Nat.lt_of_lt_of_le hi h.1) hm).trans (h.2 i hi hm)⟩
theorem Gs.then {M M' : Nat → Prop} {X Y Z : World} (h : Gs M X Y) (k : Gs M' Y Z) (hm : ∀ j, M' j → X.heap.size ≤ j) : Gs M X Z := ⟨Nat.le_trans h.1 k.1, fun i hi hn => (k.2 i (Nat.lt_of_lt_of_le hi h.1) (fun hh => by have := hm i hh; omega)).trans (h.2 i hi hn)⟩
theorem Gs.below {M : Nat → Prop} {X Y Z : World} (h : Gs M X Y) (k : Below Y.heap.size Y Z) : Gs M X Z := ⟨Nat.le_trans h.1 k.size, fun i hi hn => (k.block i (Nat.lt_of_lt_of_le hi h.1)).trans (h.2 i hi hn)⟩
theorem Gs.alloc {M : Nat → Prop} {X Y : World} (h : Gs M X Y) (o : Obj) : Gs M X (Y.alloc o) := h.below ((Below.refl _ _).alloc (Nat.le_refl _) _)
theorem Gs.drew {M : Nat → Prop} {X Y : World} (h : Gs M X Y) : Gs M X { Y with drawn := Y.drawn + 1 } := h
theorem Gs.set {M : Nat → Prop} {X Y : World} (h : Gs M X Y) {b : Nat} (hb : M b ∨ X.heap.size ≤ b) (v : Value) : Gs M X (Y.setCell ⟨b, 0, none⟩ v) := by
  have hg := grownBy_setCell' Y b v
  refine ⟨Nat.le_trans h.1 hg.size, fun i hi hn => (hg.block i (Nat.lt_of_lt_of_le hi h.1) (fun e => ?_)).trans (h.2 i hi hn)⟩
  cases e
  rcases hb with hb | hb
  · exact hn hb
  · omega
theorem Gs.boxed {M : Nat → Prop} {X Y : World} (h : Gs M X Y) {b : Nat} {t : TypeId} {v : Value} (hx : Boxed X b t v) (hn : ¬ M b) : Boxed Y b t v := (h.2 b hx.lt hn).trans hx
theorem Gs.bel {M : Nat → Prop} {w X Y : World} {B : Nat} (h : Gs M X Y) (hb : Gs (fun j => B ≤ j) w X) (hB : B ≤ X.heap.size) (hm : ∀ j, M j → B ≤ j) : Gs (fun j => B ≤ j) w Y :=
  ⟨Nat.le_trans hb.1 h.1, fun i hi hn => (h.2 i (Nat.lt_of_lt_of_le hi hb.1) (fun hh => hn (hm i hh))).trans (hb.2 i hi hn)⟩
theorem Gs.kq {M : Nat → Prop} {n a b : Nat} {X Y : World} (h : Gs M X Y) (hm : ∀ j, M j → n ≤ j ∧ (j < a ∨ b ≤ j)) (hn : n ≤ X.heap.size) (hb : b ≤ X.heap.size) (hr : ∀ j, M j → Nr X j) : Kq n a b X Y :=
  ⟨h.1, fun k hk => h.2 k (by omega) (fun hh => by have := hm k hh; omega), fun k hk => by
    by_cases e : k < X.heap.size
    · exact h.2 k e (fun hh => hk (hr k hh))
    · exact absurd (Nr.new (by omega)) hk⟩
theorem Gs.keeps {M : Nat → Prop} {B : Nat} {X Y : World} (h : Gs M X Y) (hm : ∀ j, M j → j < B) : KeepsFrom B X Y :=
  ⟨h.1, fun k o hk hx _ => (h.2 k (Array.getElem?_eq_some_iff.1 hx).1 (fun hh => by have := hm k hh; omega)).trans hx⟩
theorem ownFrom_gs {β : Type} {M : Nat → Prop} {B : Nat} {X : World} (hB : X.heap.size ≤ B) : OwnFrom B (fun (_ : β) W => Gs M X W) := fun _ A C row hs hg hr =>
  ⟨Nat.le_trans hs.1 hg.size, fun k hk hn => (hg.block k (Nat.lt_of_lt_of_le hk hs.1) (fun e => by have := (hr k e.symm).1; omega)).trans (hs.2 k hk hn)⟩
theorem Gs.cell {M : Nat → Prop} {X Y : World} (h : Gs M X Y) {a : Addr} {v : Value} (hx : X.cell? a = some v) (hn : ¬ M a.block) : Y.cell? a = some v := (World.cell?_of_block (h.2 a.block (World.block_lt_of_cell? _ _ hx) hn)).trans hx
end Go.Proofs.Ytcaecfdeieoenaa
