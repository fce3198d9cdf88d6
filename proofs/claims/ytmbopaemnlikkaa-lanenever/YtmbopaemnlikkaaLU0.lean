import Derived.Test.YtmbopaemnlikkaaLR0
import Derived.Deep.AppendLies
namespace Go.Proofs.Ytmbopaemnlikkaa
set_option maxRecDepth 100000
open Go.RowKit
set_option linter.unusedVariables false

/-! Numbers of 64 bits: a list that came in, a row of one's own. -/
structure Ucs (w : World) (a : Option Addr) (n : Nat) (l : List Int) : Prop where
  len : l.length = n
  ok : ∀ i, i < n → u64r (l.getD i 0)
  at' : n = 0 ∨ ∃ b off, a = some ⟨b, off, none⟩ ∧ ∀ i, i < n → w.cell? ⟨b, off + i, none⟩ = some (.int .u64 (l.getD i 0))
theorem Ucs.on {w w' : World} {a : Option Addr} {n : Nat} {l : List Int} (h : Ucs w a n l) (hb : Below w.heap.size w w') : Ucs w' a n l := by
  refine ⟨h.len, h.ok, ?_⟩
  rcases h.at' with h0 | ⟨b, off, e, hc⟩
  · exact .inl h0
  · exact .inr ⟨b, off, e, fun i hi => cell_on17 (hc i hi) hb⟩
def cu (xs : List Int) : List Value := xs.map fun x => Value.int .u64 x
/-- A row of one's own since w. -/
def Uo (w wr : World) (v : Value) (xs : List Int) : Prop := wr.ownsRow w.heap.size 25 1 v xs.length (cu xs)
theorem Uo.lt {w wr : World} {v : Value} {xs : List Int} (h : Uo w wr v xs) {x : Nat} (e : v.ownBlock = some x) : w.heap.size ≤ x ∧ x < wr.heap.size := World.ownsRow.lt h x e
theorem Uo.on {w wr w2 : World} {v : Value} {xs : List Int} (h : Uo w wr v xs) (hb : Below wr.heap.size wr w2) : Uo w w2 v xs := World.ownsRow.kept h (row := none) ⟨hb.os, hb.tape, hb.output, hb.size, fun k hk _ => hb.block k hk⟩ (by cases e : v.ownBlock with | none => exact .inl rfl | some x => exact .inr (by simp))
theorem Uo.row {w wr : World} {v : Value} {xs : List Int} (h : Uo w wr v xs) {g : Nat} (hg : v.ownBlock ≠ some g) (ds : Array Value) : Uo w (wr.setRow g ds) v xs := by
  have b := bel_row (B := 0) (Below.refl 0 wr) (Nat.zero_le g) ds
  exact World.ownsRow.kept h (row := some g) ⟨b.os, b.tape, b.output, b.size, fun k hk e => setRow_other _ _ _ _ (by intro h; exact e (by rw [h]))⟩ (.inr hg)
theorem uo_nil (w wr : World) : Uo w wr (.slice none 0 0) [] := World.ownsRow_nil _ _ _ _
/-- A row as it is read. -/
theorem Uo.form {w wr : World} {v : Value} {xs : List Int} (h : Uo w wr v xs) : ∃ a c, v = .slice a xs.length c ∧ (xs.length = 0 ∨ ∃ b, a = some ⟨b, 0, none⟩ ∧ ∀ i, i < xs.length → wr.cell? ⟨b, i, none⟩ = some (.int .u64 (xs.getD i 0))) := by
  have h0 : wr.ownsRow w.heap.size 25 1 v xs.length (cu xs) := h
  rcases h0.2 with ⟨rfl, hn⟩ | ⟨g, cap, cur, rfl, hg, hc, h1, h2, h3, h4⟩
  · exact ⟨none, 0, by rw [hn], .inl hn⟩
  · refine ⟨some ⟨g, 0, none⟩, cap, rfl, .inr ⟨g, rfl, fun i hi => ?_⟩⟩
    rw [World.ownsRow.cellAt h0 i (by omega)]
    simp [cu, List.getD, hi]
theorem infoU : (Try.prog.info? 25).map (fun i => (i.zero, i.size, i.bytes)) = some (some (.int .u64 0), 1, 8) := by kernel_rfl
theorem one_srcU (w : World) (X : Value) (t : TypeId) : ∀ (j : Nat) (u : Value), [X][j]? = some u → (w.alloc (.cells #[X] t)).cell? ((⟨w.heap.size, 0, none⟩ : Addr).add j) = some u := by
  intro j u hj
  match j, hj with
  | 0, hj =>
    obtain rfl : X = u := by simpa using hj
    have := cell_of_row (w.alloc (.cells #[X] t)) w.heap.size 0 #[X] t (0, 0) (heap_alloc_new w _)
    rw [Addr.add_lit]
    exact this.trans rfl
/-- append of one number behind the list that holds it was made. -/
theorem wpList_appU {w0 wr : World} {ops : Array Oper} {rest : List Oper} {o : Oper} {act : Act} {Q : Exit → Act → World → Prop} (hgd : o.guard = none) (s x : Operand)
    (ho : o.op = .call { callee := .builtin .append, args := #[s, x], argTypes := #[44, 44] })
    (v : Value) (xs : List Int) (X : Int) (hs : act.eval s = v) (hown : Uo w0 wr v xs) (hx : act.eval x = .slice (some ⟨wr.heap.size, 0, none⟩) 1 1) (hn : xs.length ≤ 100000) (hb : w0.heap.size ≤ wr.heap.size)
    (h : ∀ v' w', Uo w0 w' v' (xs ++ [X]) → wr.grownBy w' v.ownBlock → wr.heap.size ≤ w'.heap.size → (∀ y, v'.ownBlock = some y → v.ownBlock = some y ∨ wr.heap.size ≤ y) → wpList Try.prog ops Q rest (act.put o.dst v') w') : wpList Try.prog ops Q (o :: rest) act (wr.alloc (.cells #[.int .u64 X] 25)) := by
  obtain ⟨i, hi, hz0, hz1, hz2⟩ := info_parts infoU
  refine wpList_append_lies _ hgd s x 44 ho w0.heap.size 25 i (.int .u64 0) 1 8 Try.underlying44 hi hz0 hz1 hz2 rfl (by decide) v xs.length (cu xs) hs (World.ownsRow.alloc hown _) ⟨wr.heap.size, 0, none⟩ 1 1 [.int .u64 X] hx rfl (one_srcU wr _ _) (by simp [Value.oneCell']) (by omega) (by unfold maxLen; omega) (by omega) (by simp; omega) (wr.heap.size + 1) (by simp) ?_
  intro g cap w' h1 h2 h3 h4
  have hz : (wr.alloc (.cells #[.int .u64 X] 25)).heap.size = wr.heap.size + 1 := by simp
  refine h _ w' (by show World.ownsRow _ _ _ _ _ _ _; rw [List.length_append]; simp only [cu, List.map_append] at h1 ⊢; exact h1) ⟨h2.os, h2.tape, h2.output, by have := h2.size; omega, fun k hk e => (h2.block k (by omega) e).trans (Below.heap_alloc _ _ _ hk)⟩ (by have := h2.size; omega) ?_
  intro y hy
  obtain rfl : g = y := by simpa [Value.ownBlock] using hy
  rcases h3 with h5 | h5
  · exact .inl h5
  · exact .inr (by omega)
/-- A taken init or reply lies below the new ceiling. -/
theorem nx_ceil {l : Ln} {kd G B X Y T U : Int} (h : lokL l = true) (hD : u64r l.D) (hE : u64r l.E) (hs : i64r l.s) (hn : i64r l.n) (hX : u64r X) (hT : i64r T) (hU : i64r U) (hc : (nxL l kd G B X Y T U).C ≠ l.C) (h1 : kd ≠ 1) : X < (nxL l kd G B X Y T U).E := by
  have hf := nx_facts (kd := kd) (G := G) (B := B) (Y := Y) h hD hE hs hn hX hT hU
  obtain ⟨v, hk, hS, c1, c2, n1, n2⟩ := lokL_of h
  have hne : nxL l kd G B X Y T U ≠ l := fun e => hc (by rw [e])
  have hlt : l.C < (nxL l kd G B X Y T U).C := by have := hf.C; omega
  rcases (hf.turns hne).2 hlt with k | k | k
  · exact absurd k h1
  · subst k
    by_cases q : ansB l (wi (l.C + G)) X T U B = true
    · have e : nxR l 4 G B X Y T U = ⟨l.k, l.S, wi (l.C + G), l.N, upN (ansC l (wi (l.C + G))) B, upN X B, T, U⟩ := by unfold nxR; rw [if_neg (by decide), if_neg (by decide), if_neg (by decide), if_pos rfl]; unfold ansL; rw [if_pos q]
      obtain ⟨q1, q2⟩ := Bool.and_eq_true_iff.1 q
      obtain ⟨q3, q4⟩ := Bool.and_eq_true_iff.1 q1
      obtain ⟨q5, q6⟩ := Bool.and_eq_true_iff.1 q3
      have q2 := of_decide_eq_true q2
      obtain ⟨e1, -, -⟩ := nx_taken e (by show wi (l.C + G) ≠ 0; omega)
      rw [e1]
      exact upN_up (Bool.and_eq_true_iff.1 q5).2 q2.2.2
    · exact absurd (nx_refused (show nxR l 4 G B X Y T U = lzero from by unfold nxR; rw [if_neg (by decide), if_neg (by decide), if_neg (by decide), if_pos rfl]; unfold ansL; rw [if_neg q])).1 hne
  · subst k
    by_cases q : opnB l (wi (l.C + G)) X B = true
    · have e : nxR l 5 G B X Y T U = ⟨l.k, l.S, wi (l.C + G), l.N, upN 1 B, upN X B, l.s, l.n⟩ := by unfold nxR; rw [if_neg (by decide), if_neg (by decide), if_neg (by decide), if_neg (by decide), if_pos rfl]; unfold opnL; rw [if_pos q]
      obtain ⟨q1, q2⟩ := Bool.and_eq_true_iff.1 q
      have q2 := of_decide_eq_true q2
      obtain ⟨e1, -, -⟩ := nx_taken e (by show wi (l.C + G) ≠ 0; omega)
      rw [e1]
      exact upN_up (Bool.and_eq_true_iff.1 q1).2 q2.2.2
    · exact absurd (nx_refused (show nxR l 5 G B X Y T U = lzero from by unfold nxR; rw [if_neg (by decide), if_neg (by decide), if_neg (by decide), if_neg (by decide), if_pos rfl]; unfold opnL; rw [if_neg q])).1 hne
/-- The lane in hand, and what was accepted beside it. -/
structure Cq (w wr : World) (pl : Nat) (v : Value) (xs : List Int) (a : Option Addr) (c : Nat) (k : List Int) (S C N D E s n : Int) : Prop where
  lh : Lh w wr pl a c k S C N D E s n
  row : Uo w wr v xs
  ne : v.ownBlock ≠ some pl
  vs : Vs wr (fun x => x ≠ pl ∧ v.ownBlock ≠ some x) a 32 c k
  lt : ∀ x ∈ xs, x < E
section
variable {w wr w2 : World} {pl : Nat} {v : Value} {xs : List Int} {a : Option Addr} {c : Nat} {k : List Int} {S C N D E s n : Int}
theorem Cq.on (h : Cq w wr pl v xs a c k S C N D E s n) (hb : Below wr.heap.size wr w2) : Cq w w2 pl v xs a c k S C N D E s n := ⟨h.lh.on hb, h.row.on hb, h.ne, h.vs.step fun x hx _ _ => hb.block x hx, h.lt⟩
/-- next, of a lane in hand with what was accepted. -/
theorem Cq.next (ll : LL) (h : Cq w wr pl v xs a c k S C N D E s n) {x : Oz} (hx : x.Ok) : ∃ C' N' D' E' s' n', Nf ⟨k, S, C, N, D, E, s, n⟩ ⟨k, S, C', N', D', E', s', n'⟩ x.kd (nxG ⟨k, S, C, N, D, E, s, n⟩ x.kd x.G x.B x.X x.Y x.T x.U) ∧ nxL ⟨k, S, C, N, D, E, s, n⟩ x.kd x.G x.B x.X x.Y x.T x.U = ⟨k, S, C', N', D', E', s', n'⟩ ∧
    ∀ wx, Bw wr wx → Calls Try.prog 9 #[.agg #[.slice a 32 c, .int .i64 S, .int .i64 C, .int .i64 N, .int .u64 D, .int .u64 E, .int .i64 s, .int .i64 n], .agg #[.int .i64 x.kd, .int .i64 x.G, .int .i64 x.B, .int .u64 x.X, .int .u64 x.Y, .int .i64 x.T, .int .i64 x.U]] wx fun e w' => ∃ a' c', e = .returned (.tuple #[.agg #[.slice a' 32 c', .int .i64 S, .int .i64 C', .int .i64 N', .int .u64 D', .int .u64 E', .int .i64 s', .int .i64 n'], .int .i64 (nxG ⟨k, S, C, N, D, E, s, n⟩ x.kd x.G x.B x.X x.Y x.T x.U), .int .u64 (nxA ⟨k, S, C, N, D, E, s, n⟩ x.kd x.G x.B x.X x.Y x.T x.U)]) ∧ Vs w' (fun y => (y ≠ pl ∧ v.ownBlock ≠ some y) ∧ (y < wr.heap.size ∨ wx.heap.size ≤ y)) a' 32 c' k ∧ Below wx.heap.size wx w' := by
  have hf := nx_facts (kd := x.kd) (G := x.G) (B := x.B) (Y := x.Y) h.lh.ok h.lh.D h.lh.E h.lh.s h.lh.n hx.X hx.T hx.U
  obtain ⟨z, hz⟩ : ∃ z, nxL ⟨k, S, C, N, D, E, s, n⟩ x.kd x.G x.B x.X x.Y x.T x.U = z := ⟨_, rfl⟩
  rw [hz] at hf
  obtain ⟨k', S', C', N', D', E', s', n'⟩ := z
  obtain rfl : k' = k := hf.k
  obtain rfl : S' = S := hf.S
  have hk32 : k'.length = 32 := (lokL_of h.lh.ok).2.1
  refine ⟨C', N', D', E', s', n', hf, hz, fun wx hb => ?_⟩
  refine (next_ ll a 32 c k' S' C N D E s n x.kd x.G x.B x.X x.Y x.T x.U wx (h.lh.li.on hb) hx.G hx.B hx.X hx.Y hx.T hx.U).mono ?_
  rintro e w' ⟨a', c', rfl, hb2, hor⟩
  rw [hz] at hor
  simp only [hz, hk32] at hor ⊢
  refine ⟨a', c', rfl, ?_, hb2⟩
  have hpl : pl < wr.heap.size := h.lh.lm.lt
  rcases hor with ⟨-, rfl, rfl⟩ | hv
  · exact ((h.vs.andLt17.wide (V' := fun y => (y ≠ pl ∧ v.ownBlock ≠ some y) ∧ (y < wr.heap.size ∨ wx.heap.size ≤ y)) fun y _ hy => ⟨hy.1, .inl hy.2⟩).step fun y hy _ _ => hb.block y hy).step fun y hy _ _ => hb2.block y hy
  · exact hv.wide fun y _ hy => ⟨⟨by have := Below.size hb; omega, fun e => by have h1 := (h.row.lt e).2; have h2 := Below.size hb; omega⟩, .inr hy⟩
end
end Go.Proofs.Ytmbopaemnlikkaa
