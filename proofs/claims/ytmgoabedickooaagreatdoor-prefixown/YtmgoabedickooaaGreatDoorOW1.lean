import Derived.Test.YtmgoabedickooaaGreatDoorP8
import Derived.Test.YtmgoabedickooaaGreatDoorP6
import Derived.Test.YtmgoabedickooaaGreatDoorKTold
import Derived.Laws.OwnMore
namespace Go.Proofs.YtmgoabedickooaaGreatDoor.Kp
set_option maxRecDepth 100000
open Go.RowKit
set_option linter.unusedVariables false

/-! What a turned block does not reach. -/
theorem Ent.Ok.off {w w' : World} {e : Ent} {g : Nat} (h : e.Ok w) (he : ∀ b x, e.In b x → b ≠ g) (sm : ∀ b, b < w.heap.size → b ≠ g → w'.heap[b]? = w.heap[b]?) : e.Ok w' := by
  obtain ⟨h1, h2, h3, h4, h5⟩ := h
  refine ⟨h1, h2, h3, h4, ?_⟩
  by_cases h0 : e.c = 0
  · exact .inl h0
  rcases h5 with h5 | ⟨b, off, cur, e1, e2, e3⟩
  · exact .inl h5
  · refine .inr ⟨b, off, cur, e1, ?_, e3⟩
    rw [sm b (Array.getElem?_eq_some_iff.1 e2).1 (he b off ⟨off, e1, Nat.le_refl _, by omega⟩)]
    exact e2
theorem sh_off {w w' : World} {e : Ent} {g : Nat} {f : Nat → Int} (h : e.Sh w f) (ho : e.Ok w) (he : ∀ b x, e.In b x → b ≠ g) (sm : ∀ b, b < w.heap.size → b ≠ g → w'.heap[b]? = w.heap[b]?) : e.Sh w' f := by
  by_cases h0 : e.n = 0
  · exact .inl h0
  rcases h with h | ⟨b, off, h1, h2⟩
  · exact .inl h
  · refine .inr ⟨b, off, h1, fun j hj => ?_⟩
    have hb := World.block_lt_of_cell? w _ (h2 j hj)
    have hn := ho.1
    rw [World.cell?_of_block (w := w) (sm b hb (he b off ⟨off, h1, Nat.le_refl _, by omega⟩))]
    exact h2 j hj
theorem bs_off {w w' : World} {e : Ent} {g : Nat} {zs : List Int} (h : Bs w e.a e.n zs) (ho : e.Ok w) (he : ∀ b x, e.In b x → b ≠ g) (sm : ∀ b, b < w.heap.size → b ≠ g → w'.heap[b]? = w.heap[b]?) : Bs w' e.a e.n zs :=
  ⟨h.1, h.2.1, sh_off (f := fun j => zs.getD j 0) h.2.2 ho he sm⟩
theorem grown_sm {w w' : World} {g : Nat} (hg : w.grownBy w' (some g)) : ∀ b, b < w.heap.size → b ≠ g → w'.heap[b]? = w.heap[b]? := fun b hb hn => hg.block b hb (fun e => hn (Option.some.inj e))
theorem Bk.ne5 {w : World} {k g : Nat} {ps : Int} {v2 v3 v4 : Value} {cur : Array Value} (h : Bk w k ps v2 v3 v4) (hc : w.heap[g]? = some (.cells cur 5 (0, 0))) : k ≠ g := fun e => by
  unfold Bk at h
  rw [← e, h] at hc
  simp at hc
theorem ownT_ne5 {w : World} {base m g q : Nat} {v : Value} {xs : List Value} {cur : Array Value} (h : w.ownsRow base 44 1 v m xs) (hq : v.ownBlock = some q) (hc : w.heap[g]? = some (.cells cur 5 (0, 0))) : q < w.heap.size ∧ q ≠ g := by
  obtain ⟨cur', h'⟩ := own_blk h hq
  refine ⟨(Array.getElem?_eq_some_iff.1 h').1, fun e => ?_⟩
  rw [← e, h'] at hc
  simp at hc
theorem ownT_off {w w' : World} {base m g : Nat} {v : Value} {xs : List Value} {cur : Array Value} (h : w.ownsRow base 44 1 v m xs) (hc : w.heap[g]? = some (.cells cur 5 (0, 0))) (sm : ∀ b, b < w.heap.size → b ≠ g → w'.heap[b]? = w.heap[b]?) : w'.ownsRow base 44 1 v m xs :=
  own_at h fun q hq => by
    obtain ⟨h1, h2⟩ := ownT_ne5 h hq hc
    exact sm q h1 h2
theorem Bo.off {w w' : World} {k base m g : Nat} {E G : Nat → Ent} {v2 v3 : Value} {cur : Array Value} (h : Bo w k base m m E G v2 v3) (hc : w.heap[g]? = some (.cells cur 5 (0, 0))) (sm : ∀ b, b < w.heap.size → b ≠ g → w'.heap[b]? = w.heap[b]?)
    (he : ∀ l, l < m → ∀ b x, (E l).In b x → b ≠ g) (hg : ∀ l, l < m → ∀ b x, (G l).In b x → b ≠ g) : Bo w' k base m m E G v2 v3 :=
  ⟨h.bk.at (sm k h.bk.lt (h.bk.ne5 hc)), ownT_off h.t2 hc sm, ownT_off h.t3 hc sm, h.sep, fun i hi => ⟨(h.e i hi).1.off (he i hi) sm, (h.e i hi).2⟩, fun i hi => ⟨(h.g i hi).1.off (hg i hi) sm, by
    obtain ⟨zs, q1, q2, q3⟩ := (h.g i hi).2
    exact ⟨zs, bs_off q1 (h.e i hi).1 (he i hi) sm, bs_off q2 (h.g i hi).1 (hg i hi) sm, q3⟩⟩, h.d⟩
/-- The room. -/
def Rm (w : World) (gr : Nat) : Prop := ∃ cur, w.heap[gr]? = some (.cells cur 5 (0, 0)) ∧ cur.size = 64
theorem Rm.own {w : World} {gr base : Nat} (h : Rm w gr) (hb : base ≤ gr) : w.ownsRow base 5 1 (.slice (some ⟨gr, 0, none⟩) 0 64) 0 (cells []) := by
  obtain ⟨cur, h1, h2⟩ := h
  exact ⟨rfl, .inr ⟨gr, 64, cur, rfl, hb, h1, by omega, by unfold maxLen; omega, by omega, by simp [cells]⟩⟩
theorem Rm.of {w : World} {gr base n : Nat} {xs : List Value} (h : w.ownsRow base 5 1 (.slice (some ⟨gr, 0, none⟩) n 64) n xs) : Rm w gr := by
  obtain ⟨_, h | ⟨g, cap, cur, e, _, hg, _, _, hs, _⟩⟩ := h
  · simp at h
  · simp at e
    obtain ⟨rfl, rfl⟩ := e
    exact ⟨cur, hg, by omega⟩
theorem Rm.at {w w' : World} {gr : Nat} (h : Rm w gr) (e : w'.heap[gr]? = w.heap[gr]?) : Rm w' gr := by
  obtain ⟨cur, h1, h2⟩ := h
  exact ⟨cur, by rw [e]; exact h1, h2⟩
theorem Rm.lt {w : World} {gr : Nat} (h : Rm w gr) : gr < w.heap.size := by
  obtain ⟨cur, h1, _⟩ := h
  exact (Array.getElem?_eq_some_iff.1 h1).1
/-- The book in the telling, and the room beside it. -/
structure Pw (w0 w : World) (k B1 gr m S : Nat) (E G : Nat → Ent) : Prop where
  bo : ∃ v2 v3, Bo w k w0.heap.size m m E G v2 v3
  kl : w0.heap.size ≤ k
  el : ∀ l, l < m → ∀ b x, (E l).In b x → B1 ≤ b
  gl : ∀ l, l < m → ∀ b x, (G l).In b x → B1 ≤ b
  top : ∀ l, l < m → ∀ b x, (E l).In b x → b < S
  rm : Rm w gr
  lt : w0.heap.size ≤ gr ∧ gr < B1 ∧ B1 ≤ S ∧ S ≤ w.heap.size
  fr : Below w0.heap.size w0 w
theorem Pw.below {w0 w w' : World} {k B1 gr m S : Nat} {E G : Nat → Ent} (h : Pw w0 w k B1 gr m S E G) (hb : Below w.heap.size w w') : Pw w0 w' k B1 gr m S E G := by
  obtain ⟨v2, v3, hbo⟩ := h.bo
  have := hb.size
  have := h.lt
  exact ⟨⟨v2, v3, hbo.below (Nat.le_refl _) hb⟩, h.kl, h.el, h.gl, h.top, h.rm.at (hb.block _ h.rm.lt), by omega, bel_bel h.fr h.fr.size hb⟩
theorem Pw.room {w0 w w' : World} {k B1 gr m S n : Nat} {xs : List Value} {E G : Nat → Ent} (h : Pw w0 w k B1 gr m S E G) (ho : w'.ownsRow w0.heap.size 5 1 (.slice (some ⟨gr, 0, none⟩) n 64) n xs) (hg : w.grownBy w' (some gr)) : Pw w0 w' k B1 gr m S E G := by
  obtain ⟨v2, v3, hbo⟩ := h.bo
  obtain ⟨cur, hc, _⟩ := h.rm
  have hl := h.lt
  have hs := hg.size
  exact ⟨⟨v2, v3, hbo.off hc (grown_sm hg) (fun l hl' b x hx => by have := h.el l hl' b x hx; omega) (fun l hl' b x hx => by have := h.gl l hl' b x hx; omega)⟩, h.kl, h.el, h.gl, h.top, Rm.of ho, by omega, h.fr.grown hg h.fr.size (fun q hq => by cases hq; omega)⟩
theorem pw_tell {w0 w : World} {k B1 gr m S S' : Nat} {E G : Nat → Ent} (h : Pw w0 w k B1 gr m S E G) (e : Ent) (zs : List Int) (ho : e.Ok w) (hn : e.n ≤ 5000) (hb : Bs w e.a e.n zs) (hlo : ∀ b x, e.In b x → S ≤ b) (hhi : ∀ b x, e.In b x → b < S') (hS : S ≤ S' ∧ S' ≤ w.heap.size) (hm : m ≤ 999) :
    Calls Tryz.prog 12 #[.pointer (some ⟨k, 0, none⟩), e.val] w fun en w' => en = .returned (.tuple #[]) ∧ (∃ E' G', Pw w0 w' k B1 gr (m + 1) S' E' G') ∧ Wz (fun _ _ => False) w w' := by
  obtain ⟨v2, v3, hbo⟩ := h.bo
  have hl := h.lt
  refine (bookBytes5_ k w0.heap.size m E G v2 v3 e zs w hbo ho hn hb (fun i hi b x hx hx' => by have := h.top i hi b x hx; have := hlo b x hx'; omega) hm h.fr.size h.kl).mono ?_
  rintro en w' ⟨rfl, ⟨f, v2', v3', hbo', hf⟩, hz, hs⟩
  have hsz := hz.size
  refine ⟨rfl, ⟨_, _, ⟨v2', v3', hbo'⟩, h.kl, fun l hl' b x hx => ?_, fun l hl' b x hx => ?_, fun l hl' b x hx => ?_, ?_, by omega, ⟨hz.os.trans h.fr.os, hz.tape.trans h.fr.tape, hz.output.trans h.fr.output, Nat.le_trans h.fr.size hz.size, fun b hb => (hs b hb).trans (h.fr.block b hb)⟩⟩, hz⟩
  · by_cases e1 : l = m
    · subst e1; rw [upd_same] at hx; have := hlo b x hx; omega
    · rw [upd_other _ e1] at hx; exact h.el l (by omega) b x hx
  · by_cases e1 : l = m
    · subst e1; rw [upd_same] at hx; have := hf b x hx; omega
    · rw [upd_other _ e1] at hx; exact h.gl l (by omega) b x hx
  · by_cases e1 : l = m
    · subst e1; rw [upd_same] at hx; exact hhi b x hx
    · rw [upd_other _ e1] at hx; have := h.top l (by omega) b x hx; omega
  · obtain ⟨cur, hc, hcs⟩ := h.rm
    obtain ⟨c1, q1, q2, _⟩ := hz.blk gr cur 5 (0, 0) hc (by decide) (by decide)
    exact ⟨c1, q1, by omega⟩
/-- The book that is finished. -/
structure Pf (w0 w : World) (k m : Nat) (E F : Nat → Ent) : Prop where
  bk : ∃ v2 v3 v4, Bk w k 1 v2 v3 v4 ∧ w.ownsRow w0.heap.size 44 1 v2 m (vals m E) ∧ w.ownsRow w0.heap.size 44 1 v4 m (vals m F)
  e : ∀ l, l < m → (E l).Ok w ∧ ((E l).Sh w fun j => mk 1 (l + 1) j) ∧ (E l).n ≤ 1000000
  f : ∀ l, l < m → (F l).Ok w ∧ ((F l).Sh w fun j => mk 1 (l + 1) j) ∧ (F l).n ≤ 1000000
  fr : Below w0.heap.size w0 w
theorem pw_finish {w0 w : World} {k B1 gr m S : Nat} {E G : Nat → Ent} (h : Pw w0 w k B1 gr m S E G) (hm : m ≤ 1000) :
    Calls Tryz.prog 13 #[.pointer (some ⟨k, 0, none⟩)] w fun e w' => e = .returned (.bool true) ∧ ∃ E F, Pf w0 w' k m E F := by
  obtain ⟨v2, v3, hbo⟩ := h.bo
  have hl := h.lt
  refine (finish5_ k w0.heap.size m E G v2 v3 w hbo.bk hbo.t2 hbo.t3 (fun i hi => (hbo.g i hi).2) hbo.e hbo.d hm ⟨h.kl, h.fr.size, fun l hl' b x hx => by have := h.el l hl' b x hx; omega⟩).mono ?_
  rintro e w' ⟨rfl, hz, hs, w4, F, v4', hw4, s⟩
  refine ⟨rfl, E, F, ⟨v2, v3, v4', s.bk, s.t2, s.t4⟩, fun l hl' => ⟨(s.e l hl').1, (s.e l hl').2, by have := (hbo.e l hl').2; omega⟩, fun l hl' => ?_, ⟨hz.os.trans h.fr.os, hz.tape.trans h.fr.tape, hz.output.trans h.fr.output, Nat.le_trans h.fr.size hz.size, fun b hb => (hs b hb).trans (h.fr.block b hb)⟩⟩
  obtain ⟨f1, f2, f3, f4⟩ := s.f l hl'
  exact ⟨f1, f2, by have := (hbo.e l hl').2; omega⟩
theorem Pf.below {w0 w w' : World} {k m : Nat} {E F : Nat → Ent} (h : Pf w0 w k m E F) (hb : Below w.heap.size w w') : Pf w0 w' k m E F := by
  have z : Wz (fun _ _ => False) w w' := .ofWk (.ofBelow hb)
  obtain ⟨v2, v3, v4, h1, h2, h3⟩ := h.bk
  have kq : ∀ {v : Value} {n : Nat} {xs : List Value}, w.ownsRow w0.heap.size 44 1 v n xs → ∀ q, v.ownBlock = some q → w'.heap[q]? = w.heap[q]? := fun ho q hq => by
    obtain ⟨cur, hc⟩ := own_blk ho hq
    exact hb.block q (Array.getElem?_eq_some_iff.1 hc).1
  exact ⟨⟨v2, v3, v4, h1.at (hb.block k h1.lt), own_at h2 (kq h2), own_at h3 (kq h3)⟩, fun l hl' => ⟨(h.e l hl').1.wz z, (h.e l hl').2.1.wz (h.e l hl').1 z (fun _ _ _ h => h), (h.e l hl').2.2⟩, fun l hl' => ⟨(h.f l hl').1.wz z, (h.f l hl').2.1.wz (h.f l hl').1 z (fun _ _ _ h => h), (h.f l hl').2.2⟩, bel_bel h.fr h.fr.size hb⟩
theorem pf_holds {w0 w : World} {k m : Nat} {E F : Nat → Ent} (h : Pf w0 w k m E F) (hm : m ≤ 1000) :
    Calls Tryz.prog 14 #[.pointer (some ⟨k, 0, none⟩)] w fun e w' => e = .returned (.bool true) ∧ w' = w := by
  obtain ⟨v2, v3, v4, h1, h2, h3⟩ := h.bk
  exact Kp.holds_ k w0.heap.size m m 1 E F v2 v3 v4 w h1 h2 h3 (.inr rfl) (fun l hl' => ⟨(h.e l hl').2.2, (h.e l hl').2.1⟩) (fun l hl' => ⟨(h.f l hl').2.2, (h.f l hl').2.1⟩) hm
theorem built_book : Tryz.prog.built 43 [] = some (bookCells 0 (.slice none 0 0) (.slice none 0 0) (.slice none 0 0)) := by kernel_rfl
theorem wpList_book {ops : Array Oper} {rest : List Oper} {o : Oper} {a : Act} {w : World} {Q : Exit → Act → World → Prop} (hg : o.guard = none) (ho : o.op = .build 43 #[])
    (h : wpList Tryz.prog ops Q rest (a.put o.dst (.agg (bookCells 0 (.slice none 0 0) (.slice none 0 0) (.slice none 0 0)))) w) : wpList Tryz.prog ops Q (o :: rest) a w := by
  exact wpList_build hg 43 #[] ho (by simp [built_book]) (by simpa [built_book] using h)
theorem new_book (w : World) : Bk (w.alloc (.cells (bookCells 0 (.slice none 0 0) (.slice none 0 0) (.slice none 0 0)) 43)) w.heap.size 0 (.slice none 0 0) (.slice none 0 0) (.slice none 0 0) := heap_alloc_new w _
theorem bo_start {w : World} {k base : Nat} (h : Bk w k 0 (.slice none 0 0) (.slice none 0 0) (.slice none 0 0)) : Bo w k base 0 0 (fun _ => ⟨none, 0, 0⟩) (fun _ => ⟨none, 0, 0⟩) (.slice none 0 0) (.slice none 0 0) :=
  ⟨h, own_nil _ _ _, own_nil _ _ _, fun q hq => by simp [Value.ownBlock] at hq, fun i hi => by omega, fun i hi => by omega, fun i j hi => by omega⟩
/-- append to the room, where it fits. -/
theorem wp_room {w : World} {o : Oper} {act : Act} {K : Act → World → Prop} {Q : Exit → Act → World → Prop} (s x : Operand)
    (ho : o.op = .call { callee := .builtin .append, args := #[s, x], argTypes := #[44, 44] })
    (base g n : Nat) (X : List Int) (hs : act.eval s = .slice (some ⟨g, 0, none⟩) n 64) (hown : w.ownsRow base 5 1 (.slice (some ⟨g, 0, none⟩) n 64) n (cells X))
    (a : Option Addr) (m c : Nat) (zs : List Int) (hx : act.eval x = .slice a m c) (hb : Bs w a m zs) (hfit : n + m ≤ 64)
    (h : ∀ w', w'.ownsRow base 5 1 (.slice (some ⟨g, 0, none⟩) (n + m) 64) (n + m) (cells (X ++ zs)) → w.grownBy w' (some g) → K (act.put o.dst (.slice (some ⟨g, 0, none⟩) (n + m) 64)) w') : o.wp Tryz.prog act w K Q := by
  obtain ⟨i5, hi, hz0, hz1, hz2⟩ := info_parts info5
  have hb1 := hb.1
  have eX : ∀ a b : List Int, cells a ++ cells b = cells (a ++ b) := fun a b => by simp [cells]
  cases a with
  | some ad =>
    obtain ⟨w', hr, h1, h2⟩ := run_append_fits (P := Tryz.prog) w base 44 o.type 5 i5 1 Tryz.underlying44 hi hz1 g n 64 (cells X) hown ad m c (cells zs) (by rw [cells_len7, Nat.mul_one, hb1]) (fun j u hj => by
      have hj' : j < zs.length := by
        have := (List.getElem?_eq_some_iff.1 hj).1
        rwa [cells_len7] at this
      rcases hb.2.2 with h0 | ⟨b, off, e, hc⟩
      · omega
      · obtain rfl := Option.some.inj e
        rw [Addr.add_lit, hc j (by omega), ← hj]
        simp [cells, List.getD, hj']) (cells_one7 zs) hfit
    unfold Oper.wp execOp
    simp only [ho, resolve, invoke, builtin, Sem.run_bind, Sem.run_pure, Result.andThen_ok, List.map_toArray, List.map_cons, List.map_nil, hs, hx, hr]
    exact h w' (by rw [← eX]; exact h1) h2
  | none =>
    have hm0 : m = 0 := by
      rcases hb.2.2 with h0 | ⟨b, off, e, _⟩
      · exact h0
      · cases e
    subst hm0
    have hz : zs = [] := List.eq_nil_of_length_eq_zero hb1
    subst hz
    have hnc : n ≤ 64 := by omega
    have hr : (Builtin.append_ #[44, 44] o.type #[.slice (some ⟨g, 0, none⟩) n 64, .slice none 0 c]).run Tryz.prog w = .ok (.slice (some ⟨g, 0, none⟩) n 64) w := by
      simp [Builtin.append_, run_underlying Tryz.underlying44, sizeOf, typeInfo, hi, Builtin.lenOf, Builtin.firstCells, hnc, storeCells]
    unfold Oper.wp execOp
    simp only [ho, resolve, invoke, builtin, Sem.run_bind, Sem.run_pure, Result.andThen_ok, List.map_toArray, List.map_cons, List.map_nil, hs, hx, hr]
    exact h w (by rw [List.append_nil]; exact hown) ⟨rfl, rfl, rfl, Nat.le_refl _, fun _ _ _ => rfl⟩
theorem wpList_room {w : World} {ops : Array Oper} {rest : List Oper} {o : Oper} {act : Act} {Q : Exit → Act → World → Prop} (hgd : o.guard = none) (s x : Operand)
    (ho : o.op = .call { callee := .builtin .append, args := #[s, x], argTypes := #[44, 44] })
    (base g n : Nat) (X : List Int) (hs : act.eval s = .slice (some ⟨g, 0, none⟩) n 64) (hown : w.ownsRow base 5 1 (.slice (some ⟨g, 0, none⟩) n 64) n (cells X))
    (a : Option Addr) (m c : Nat) (zs : List Int) (hx : act.eval x = .slice a m c) (hb : Bs w a m zs) (hfit : n + m ≤ 64)
    (h : ∀ w', w'.ownsRow base 5 1 (.slice (some ⟨g, 0, none⟩) (n + m) 64) (n + m) (cells (X ++ zs)) → w.grownBy w' (some g) → wpList Tryz.prog ops Q rest (act.put o.dst (.slice (some ⟨g, 0, none⟩) (n + m) 64)) w') : wpList Tryz.prog ops Q (o :: rest) act w :=
  wpList_plain hgd fun _ hK => wp_room s x ho base g n X hs hown a m c zs hx hb hfit fun w' h1 h2 => hK _ _ (h w' h1 h2)
theorem wpList_room0 {w : World} {ops : Array Oper} {rest : List Oper} {o : Oper} {act : Act} {Q : Exit → Act → World → Prop} (hgd : o.guard = none) (s x : Operand)
    (ho : o.op = .call { callee := .builtin .append, args := #[s, x], argTypes := #[44, 44] })
    (base g : Nat) (hs : act.eval s = .slice (some ⟨g, 0, none⟩) 0 64) (hown : w.ownsRow base 5 1 (.slice (some ⟨g, 0, none⟩) 0 64) 0 (cells []))
    (a : Option Addr) (m c : Nat) (zs : List Int) (hx : act.eval x = .slice a m c) (hb : Bs w a m zs) (hfit : m ≤ 64)
    (h : ∀ w', w'.ownsRow base 5 1 (.slice (some ⟨g, 0, none⟩) m 64) m (cells zs) → w.grownBy w' (some g) → wpList Tryz.prog ops Q rest (act.put o.dst (.slice (some ⟨g, 0, none⟩) m 64)) w') : wpList Tryz.prog ops Q (o :: rest) act w :=
  wpList_room hgd s x ho base g 0 [] hs hown a m c zs hx hb (by omega) fun w' h1 h2 => by
    rw [Nat.zero_add, List.nil_append] at h1
    rw [Nat.zero_add]
    exact h w' h1 h2
/-- A list that is told later: what it shows, and between which blocks it lies. -/
structure En (w : World) (e : Ent) (zs : List Int) (lo hi : Nat) : Prop where
  ok : e.Ok w
  bs : Bs w e.a e.n zs
  lo : ∀ b x, e.In b x → lo ≤ b
  hi : ∀ b x, e.In b x → b < hi
theorem En.wz {w w' : World} {e : Ent} {zs : List Int} {lo hi : Nat} (h : En w e zs lo hi) (z : Wz (fun _ _ => False) w w') : En w' e zs lo hi := ⟨h.ok.wz z, bs_wz h.bs h.ok z fun _ _ _ h => h, h.lo, h.hi⟩
theorem En.below {w w' : World} {e : Ent} {zs : List Int} {lo hi : Nat} (h : En w e zs lo hi) (hb : Below w.heap.size w w') : En w' e zs lo hi := h.wz (.ofWk (.ofBelow hb))
theorem En.room {w w' : World} {e : Ent} {zs : List Int} {lo hi gr : Nat} (h : En w e zs lo hi) (hg : w.grownBy w' (some gr)) (hl : gr < lo) : En w' e zs lo hi :=
  ⟨h.ok.off (fun b x hx => by have := h.lo b x hx; omega) (grown_sm hg), bs_off h.bs h.ok (fun b x hx => by have := h.lo b x hx; omega) (grown_sm hg), h.lo, h.hi⟩
theorem En.new {w w' : World} {v : Value} {zs : List Int} (ho : w'.ownsRow w.heap.size 5 1 v zs.length (cells zs)) (hb : ∀ z ∈ zs, 0 ≤ z ∧ z ≤ 255) (hn : zs.length ≤ 100000) : ∃ a c, v = .slice a zs.length c ∧ En w' ⟨a, zs.length, c⟩ zs w.heap.size w'.heap.size := by
  obtain ⟨a, c, rfl, h1, h2, h3⟩ := own_ent ho hb hn
  exact ⟨a, c, rfl, h1, h2, h3, fun b x hx => ok_lt h1 hx⟩
end Go.Proofs.YtmgoabedickooaaGreatDoor.Kp
