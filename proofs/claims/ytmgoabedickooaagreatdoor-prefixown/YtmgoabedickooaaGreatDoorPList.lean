import Derived.Test.YtmgoabedickooaaGreatDoorP8
import Derived.Test.YtmgoabedickooaaGreatDoorP6
import Derived.Test.YtmgoabedickooaaGreatDoorKTold
import Derived.Laws.OwnMore
import Derived.Test.YtmgoabedickooaaGreatDoorP23
import Derived.Deep.RegionLaw
import Derived.Test.YtmgoabedickooaaGreatDoorPTxt
import Derived.ProofKit
import Derived.OpenShut
import Derived.ChangeSame
import Derived.ChangeMaps5
import Derived.Deep.Slices
import Derived.Deep.Strs
import Derived.SizedLaws
import Derived.Lib.LaidTab
import Derived.Stop.LaidErr
namespace Go.Proofs.YtmgoabedickooaaGreatDoor.Kp
set_option maxRecDepth 100000
open Go.RowKit
set_option linter.unusedVariables false

/-! What a turned block does not reach. -/
theorem Ent.Ok.off {w w' : World} {e : Ent} {g : Nat} (h : e.Ok w) (he : ∀ b x, e.In b x → b ≠ g) (sm : ∀ b, b < w.heap.size → b ≠ g → w'.heap[b]? = w.heap[b]?) : e.Ok w' := by
  obtain ⟨h1, h2, h3, h4, h5⟩ := h
  refine ⟨h1, h2, h3, h4, ?_⟩
  by_cases h0 : e.c = 0
  · exact .inl h0
  rcases h5 with h5 | ⟨b, off, cur, e1, e2, e3⟩
  · exact .inl h5
  · refine .inr ⟨b, off, cur, e1, ?_, e3⟩
    rw [sm b (Array.getElem?_eq_some_iff.1 e2).1 (he b off ⟨off, e1, Nat.le_refl _, by omega⟩)]
    exact e2
theorem sh_off {w w' : World} {e : Ent} {g : Nat} {f : Nat → Int} (h : e.Sh w f) (ho : e.Ok w) (he : ∀ b x, e.In b x → b ≠ g) (sm : ∀ b, b < w.heap.size → b ≠ g → w'.heap[b]? = w.heap[b]?) : e.Sh w' f := by
  by_cases h0 : e.n = 0
  · exact .inl h0
  rcases h with h | ⟨b, off, h1, h2⟩
  · exact .inl h
  · refine .inr ⟨b, off, h1, fun j hj => ?_⟩
    have hb := World.block_lt_of_cell? w _ (h2 j hj)
    have hn := ho.1
    rw [World.cell?_of_block (w := w) (sm b hb (he b off ⟨off, h1, Nat.le_refl _, by omega⟩))]
    exact h2 j hj
theorem bs_off {w w' : World} {e : Ent} {g : Nat} {zs : List Int} (h : Bs w e.a e.n zs) (ho : e.Ok w) (he : ∀ b x, e.In b x → b ≠ g) (sm : ∀ b, b < w.heap.size → b ≠ g → w'.heap[b]? = w.heap[b]?) : Bs w' e.a e.n zs :=
  ⟨h.1, h.2.1, sh_off (f := fun j => zs.getD j 0) h.2.2 ho he sm⟩
theorem grown_sm {w w' : World} {g : Nat} (hg : w.grownBy w' (some g)) : ∀ b, b < w.heap.size → b ≠ g → w'.heap[b]? = w.heap[b]? := fun b hb hn => hg.block b hb (fun e => hn (Option.some.inj e))
theorem Bk.ne5 {w : World} {k g : Nat} {ps : Int} {v2 v3 v4 : Value} {cur : Array Value} (h : Bk w k ps v2 v3 v4) (hc : w.heap[g]? = some (.cells cur 5 (0, 0))) : k ≠ g := fun e => by
  unfold Bk at h
  rw [← e, h] at hc
  simp at hc
theorem ownT_ne5 {w : World} {base m g q : Nat} {v : Value} {xs : List Value} {cur : Array Value} (h : w.ownsRow base 44 1 v m xs) (hq : v.ownBlock = some q) (hc : w.heap[g]? = some (.cells cur 5 (0, 0))) : q < w.heap.size ∧ q ≠ g := by
  obtain ⟨cur', h'⟩ := own_blk h hq
  refine ⟨(Array.getElem?_eq_some_iff.1 h').1, fun e => ?_⟩
  rw [← e, h'] at hc
  simp at hc
theorem ownT_off {w w' : World} {base m g : Nat} {v : Value} {xs : List Value} {cur : Array Value} (h : w.ownsRow base 44 1 v m xs) (hc : w.heap[g]? = some (.cells cur 5 (0, 0))) (sm : ∀ b, b < w.heap.size → b ≠ g → w'.heap[b]? = w.heap[b]?) : w'.ownsRow base 44 1 v m xs :=
  own_at h fun q hq => by
    obtain ⟨h1, h2⟩ := ownT_ne5 h hq hc
    exact sm q h1 h2
theorem Bo.off {w w' : World} {k base m g : Nat} {E G : Nat → Ent} {v2 v3 : Value} {cur : Array Value} (h : Bo w k base m m E G v2 v3) (hc : w.heap[g]? = some (.cells cur 5 (0, 0))) (sm : ∀ b, b < w.heap.size → b ≠ g → w'.heap[b]? = w.heap[b]?)
    (he : ∀ l, l < m → ∀ b x, (E l).In b x → b ≠ g) (hg : ∀ l, l < m → ∀ b x, (G l).In b x → b ≠ g) : Bo w' k base m m E G v2 v3 :=
  ⟨h.bk.at (sm k h.bk.lt (h.bk.ne5 hc)), ownT_off h.t2 hc sm, ownT_off h.t3 hc sm, h.sep, fun i hi => ⟨(h.e i hi).1.off (he i hi) sm, (h.e i hi).2⟩, fun i hi => ⟨(h.g i hi).1.off (hg i hi) sm, by
    obtain ⟨zs, q1, q2, q3⟩ := (h.g i hi).2
    exact ⟨zs, bs_off q1 (h.e i hi).1 (he i hi) sm, bs_off q2 (h.g i hi).1 (hg i hi) sm, q3⟩⟩, h.d⟩
/-- The room. -/
def Rm (w : World) (gr : Nat) : Prop := ∃ cur, w.heap[gr]? = some (.cells cur 5 (0, 0)) ∧ cur.size = 64
theorem Rm.own {w : World} {gr base : Nat} (h : Rm w gr) (hb : base ≤ gr) : w.ownsRow base 5 1 (.slice (some ⟨gr, 0, none⟩) 0 64) 0 (cells []) := by
  obtain ⟨cur, h1, h2⟩ := h
  exact ⟨rfl, .inr ⟨gr, 64, cur, rfl, hb, h1, by omega, by unfold maxLen; omega, by omega, by simp [cells]⟩⟩
theorem Rm.of {w : World} {gr base n : Nat} {xs : List Value} (h : w.ownsRow base 5 1 (.slice (some ⟨gr, 0, none⟩) n 64) n xs) : Rm w gr := by
  obtain ⟨_, h | ⟨g, cap, cur, e, _, hg, _, _, hs, _⟩⟩ := h
  · simp at h
  · simp at e
    obtain ⟨rfl, rfl⟩ := e
    exact ⟨cur, hg, by omega⟩
theorem Rm.at {w w' : World} {gr : Nat} (h : Rm w gr) (e : w'.heap[gr]? = w.heap[gr]?) : Rm w' gr := by
  obtain ⟨cur, h1, h2⟩ := h
  exact ⟨cur, by rw [e]; exact h1, h2⟩
theorem Rm.lt {w : World} {gr : Nat} (h : Rm w gr) : gr < w.heap.size := by
  obtain ⟨cur, h1, _⟩ := h
  exact (Array.getElem?_eq_some_iff.1 h1).1
/-- The book in the telling, and the room beside it. -/
structure Pw (w0 w : World) (k B1 gr m S : Nat) (E G : Nat → Ent) : Prop where
  bo : ∃ v2 v3, Bo w k w0.heap.size m m E G v2 v3
  kl : w0.heap.size ≤ k
  el : ∀ l, l < m → ∀ b x, (E l).In b x → B1 ≤ b
  gl : ∀ l, l < m → ∀ b x, (G l).In b x → B1 ≤ b
  top : ∀ l, l < m → ∀ b x, (E l).In b x → b < S
  rm : Rm w gr
  lt : w0.heap.size ≤ gr ∧ gr < B1 ∧ B1 ≤ S ∧ S ≤ w.heap.size
  fr : Below w0.heap.size w0 w
theorem Pw.below {w0 w w' : World} {k B1 gr m S : Nat} {E G : Nat → Ent} (h : Pw w0 w k B1 gr m S E G) (hb : Below w.heap.size w w') : Pw w0 w' k B1 gr m S E G := by
  obtain ⟨v2, v3, hbo⟩ := h.bo
  have := hb.size
  have := h.lt
  exact ⟨⟨v2, v3, hbo.below (Nat.le_refl _) hb⟩, h.kl, h.el, h.gl, h.top, h.rm.at (hb.block _ h.rm.lt), by omega, bel_bel h.fr h.fr.size hb⟩
theorem Pw.room {w0 w w' : World} {k B1 gr m S n : Nat} {xs : List Value} {E G : Nat → Ent} (h : Pw w0 w k B1 gr m S E G) (ho : w'.ownsRow w0.heap.size 5 1 (.slice (some ⟨gr, 0, none⟩) n 64) n xs) (hg : w.grownBy w' (some gr)) : Pw w0 w' k B1 gr m S E G := by
  obtain ⟨v2, v3, hbo⟩ := h.bo
  obtain ⟨cur, hc, _⟩ := h.rm
  have hl := h.lt
  have hs := hg.size
  exact ⟨⟨v2, v3, hbo.off hc (grown_sm hg) (fun l hl' b x hx => by have := h.el l hl' b x hx; omega) (fun l hl' b x hx => by have := h.gl l hl' b x hx; omega)⟩, h.kl, h.el, h.gl, h.top, Rm.of ho, by omega, h.fr.grown hg h.fr.size (fun q hq => by cases hq; omega)⟩
theorem pw_tell {w0 w : World} {k B1 gr m S S' : Nat} {E G : Nat → Ent} (h : Pw w0 w k B1 gr m S E G) (e : Ent) (zs : List Int) (ho : e.Ok w) (hn : e.n ≤ 5000) (hb : Bs w e.a e.n zs) (hlo : ∀ b x, e.In b x → S ≤ b) (hhi : ∀ b x, e.In b x → b < S') (hS : S ≤ S' ∧ S' ≤ w.heap.size) (hm : m ≤ 999) :
    Calls Tryz.prog 12 #[.pointer (some ⟨k, 0, none⟩), e.val] w fun en w' => en = .returned (.tuple #[]) ∧ (∃ E' G', Pw w0 w' k B1 gr (m + 1) S' E' G') ∧ Wz (fun _ _ => False) w w' := by
  obtain ⟨v2, v3, hbo⟩ := h.bo
  have hl := h.lt
  refine (bookBytes5_ k w0.heap.size m E G v2 v3 e zs w hbo ho hn hb (fun i hi b x hx hx' => by have := h.top i hi b x hx; have := hlo b x hx'; omega) hm h.fr.size h.kl).mono ?_
  rintro en w' ⟨rfl, ⟨f, v2', v3', hbo', hf⟩, hz, hs⟩
  have hsz := hz.size
  refine ⟨rfl, ⟨_, _, ⟨v2', v3', hbo'⟩, h.kl, fun l hl' b x hx => ?_, fun l hl' b x hx => ?_, fun l hl' b x hx => ?_, ?_, by omega, ⟨hz.os.trans h.fr.os, hz.tape.trans h.fr.tape, hz.output.trans h.fr.output, Nat.le_trans h.fr.size hz.size, fun b hb => (hs b hb).trans (h.fr.block b hb)⟩⟩, hz⟩
  · by_cases e1 : l = m
    · subst e1; rw [upd_same] at hx; have := hlo b x hx; omega
    · rw [upd_other _ e1] at hx; exact h.el l (by omega) b x hx
  · by_cases e1 : l = m
    · subst e1; rw [upd_same] at hx; have := hf b x hx; omega
    · rw [upd_other _ e1] at hx; exact h.gl l (by omega) b x hx
  · by_cases e1 : l = m
    · subst e1; rw [upd_same] at hx; exact hhi b x hx
    · rw [upd_other _ e1] at hx; have := h.top l (by omega) b x hx; omega
  · obtain ⟨cur, hc, hcs⟩ := h.rm
    obtain ⟨c1, q1, q2, _⟩ := hz.blk gr cur 5 (0, 0) hc (by decide) (by decide)
    exact ⟨c1, q1, by omega⟩
/-- The book that is finished. -/
structure Pf (w0 w : World) (k m : Nat) (E F : Nat → Ent) : Prop where
  bk : ∃ v2 v3 v4, Bk w k 1 v2 v3 v4 ∧ w.ownsRow w0.heap.size 44 1 v2 m (vals m E) ∧ w.ownsRow w0.heap.size 44 1 v4 m (vals m F)
  e : ∀ l, l < m → (E l).Ok w ∧ ((E l).Sh w fun j => mk 1 (l + 1) j) ∧ (E l).n ≤ 1000000
  f : ∀ l, l < m → (F l).Ok w ∧ ((F l).Sh w fun j => mk 1 (l + 1) j) ∧ (F l).n ≤ 1000000
  fr : Below w0.heap.size w0 w
theorem pw_finish {w0 w : World} {k B1 gr m S : Nat} {E G : Nat → Ent} (h : Pw w0 w k B1 gr m S E G) (hm : m ≤ 1000) :
    Calls Tryz.prog 13 #[.pointer (some ⟨k, 0, none⟩)] w fun e w' => e = .returned (.bool true) ∧ ∃ E F, Pf w0 w' k m E F := by
  obtain ⟨v2, v3, hbo⟩ := h.bo
  have hl := h.lt
  refine (finish5_ k w0.heap.size m E G v2 v3 w hbo.bk hbo.t2 hbo.t3 (fun i hi => (hbo.g i hi).2) hbo.e hbo.d hm ⟨h.kl, h.fr.size, fun l hl' b x hx => by have := h.el l hl' b x hx; omega⟩).mono ?_
  rintro e w' ⟨rfl, hz, hs, w4, F, v4', hw4, s⟩
  refine ⟨rfl, E, F, ⟨v2, v3, v4', s.bk, s.t2, s.t4⟩, fun l hl' => ⟨(s.e l hl').1, (s.e l hl').2, by have := (hbo.e l hl').2; omega⟩, fun l hl' => ?_, ⟨hz.os.trans h.fr.os, hz.tape.trans h.fr.tape, hz.output.trans h.fr.output, Nat.le_trans h.fr.size hz.size, fun b hb => (hs b hb).trans (h.fr.block b hb)⟩⟩
  obtain ⟨f1, f2, f3, f4⟩ := s.f l hl'
  exact ⟨f1, f2, by have := (hbo.e l hl').2; omega⟩
theorem Pf.below {w0 w w' : World} {k m : Nat} {E F : Nat → Ent} (h : Pf w0 w k m E F) (hb : Below w.heap.size w w') : Pf w0 w' k m E F := by
  have z : Wz (fun _ _ => False) w w' := .ofWk (.ofBelow hb)
  obtain ⟨v2, v3, v4, h1, h2, h3⟩ := h.bk
  have kq : ∀ {v : Value} {n : Nat} {xs : List Value}, w.ownsRow w0.heap.size 44 1 v n xs → ∀ q, v.ownBlock = some q → w'.heap[q]? = w.heap[q]? := fun ho q hq => by
    obtain ⟨cur, hc⟩ := own_blk ho hq
    exact hb.block q (Array.getElem?_eq_some_iff.1 hc).1
  exact ⟨⟨v2, v3, v4, h1.at (hb.block k h1.lt), own_at h2 (kq h2), own_at h3 (kq h3)⟩, fun l hl' => ⟨(h.e l hl').1.wz z, (h.e l hl').2.1.wz (h.e l hl').1 z (fun _ _ _ h => h), (h.e l hl').2.2⟩, fun l hl' => ⟨(h.f l hl').1.wz z, (h.f l hl').2.1.wz (h.f l hl').1 z (fun _ _ _ h => h), (h.f l hl').2.2⟩, bel_bel h.fr h.fr.size hb⟩
theorem pf_holds {w0 w : World} {k m : Nat} {E F : Nat → Ent} (h : Pf w0 w k m E F) (hm : m ≤ 1000) :
    Calls Tryz.prog 14 #[.pointer (some ⟨k, 0, none⟩)] w fun e w' => e = .returned (.bool true) ∧ w' = w := by
  obtain ⟨v2, v3, v4, h1, h2, h3⟩ := h.bk
  exact Kp.holds_ k w0.heap.size m m 1 E F v2 v3 v4 w h1 h2 h3 (.inr rfl) (fun l hl' => ⟨(h.e l hl').2.2, (h.e l hl').2.1⟩) (fun l hl' => ⟨(h.f l hl').2.2, (h.f l hl').2.1⟩) hm
theorem built_book : Tryz.prog.built 43 [] = some (bookCells 0 (.slice none 0 0) (.slice none 0 0) (.slice none 0 0)) := by kernel_rfl
theorem wpList_book {ops : Array Oper} {rest : List Oper} {o : Oper} {a : Act} {w : World} {Q : Exit → Act → World → Prop} (hg : o.guard = none) (ho : o.op = .build 43 #[])
    (h : wpList Tryz.prog ops Q rest (a.put o.dst (.agg (bookCells 0 (.slice none 0 0) (.slice none 0 0) (.slice none 0 0)))) w) : wpList Tryz.prog ops Q (o :: rest) a w := by
  exact wpList_build hg 43 #[] ho (by simp [built_book]) (by simpa [built_book] using h)
theorem new_book (w : World) : Bk (w.alloc (.cells (bookCells 0 (.slice none 0 0) (.slice none 0 0) (.slice none 0 0)) 43)) w.heap.size 0 (.slice none 0 0) (.slice none 0 0) (.slice none 0 0) := heap_alloc_new w _
theorem bo_start {w : World} {k base : Nat} (h : Bk w k 0 (.slice none 0 0) (.slice none 0 0) (.slice none 0 0)) : Bo w k base 0 0 (fun _ => ⟨none, 0, 0⟩) (fun _ => ⟨none, 0, 0⟩) (.slice none 0 0) (.slice none 0 0) :=
  ⟨h, own_nil _ _ _, own_nil _ _ _, fun q hq => by simp [Value.ownBlock] at hq, fun i hi => by omega, fun i hi => by omega, fun i j hi => by omega⟩
/-- append to the room, where it fits. -/
theorem wp_room {w : World} {o : Oper} {act : Act} {K : Act → World → Prop} {Q : Exit → Act → World → Prop} (s x : Operand)
    (ho : o.op = .call { callee := .builtin .append, args := #[s, x], argTypes := #[44, 44] })
    (base g n : Nat) (X : List Int) (hs : act.eval s = .slice (some ⟨g, 0, none⟩) n 64) (hown : w.ownsRow base 5 1 (.slice (some ⟨g, 0, none⟩) n 64) n (cells X))
    (a : Option Addr) (m c : Nat) (zs : List Int) (hx : act.eval x = .slice a m c) (hb : Bs w a m zs) (hfit : n + m ≤ 64)
    (h : ∀ w', w'.ownsRow base 5 1 (.slice (some ⟨g, 0, none⟩) (n + m) 64) (n + m) (cells (X ++ zs)) → w.grownBy w' (some g) → K (act.put o.dst (.slice (some ⟨g, 0, none⟩) (n + m) 64)) w') : o.wp Tryz.prog act w K Q := by
  obtain ⟨i5, hi, hz0, hz1, hz2⟩ := info_parts info5
  have hb1 := hb.1
  have eX : ∀ a b : List Int, cells a ++ cells b = cells (a ++ b) := fun a b => by simp [cells]
  cases a with
  | some ad =>
    obtain ⟨w', hr, h1, h2⟩ := run_append_fits (P := Tryz.prog) w base 44 o.type 5 i5 1 Tryz.underlying44 hi hz1 g n 64 (cells X) hown ad m c (cells zs) (by rw [cells_len7, Nat.mul_one, hb1]) (fun j u hj => by
      have hj' : j < zs.length := by
        have := (List.getElem?_eq_some_iff.1 hj).1
        rwa [cells_len7] at this
      rcases hb.2.2 with h0 | ⟨b, off, e, hc⟩
      · omega
      · obtain rfl := Option.some.inj e
        rw [Addr.add_lit, hc j (by omega), ← hj]
        simp [cells, List.getD, hj']) (cells_one7 zs) hfit
    unfold Oper.wp execOp
    simp only [ho, resolve, invoke, builtin, Sem.run_bind, Sem.run_pure, Result.andThen_ok, List.map_toArray, List.map_cons, List.map_nil, hs, hx, hr]
    exact h w' (by rw [← eX]; exact h1) h2
  | none =>
    have hm0 : m = 0 := by
      rcases hb.2.2 with h0 | ⟨b, off, e, _⟩
      · exact h0
      · cases e
    subst hm0
    have hz : zs = [] := List.eq_nil_of_length_eq_zero hb1
    subst hz
    have hnc : n ≤ 64 := by omega
    have hr : (Builtin.append_ #[44, 44] o.type #[.slice (some ⟨g, 0, none⟩) n 64, .slice none 0 c]).run Tryz.prog w = .ok (.slice (some ⟨g, 0, none⟩) n 64) w := by
      simp [Builtin.append_, run_underlying Tryz.underlying44, sizeOf, typeInfo, hi, Builtin.lenOf, Builtin.firstCells, hnc, storeCells]
    unfold Oper.wp execOp
    simp only [ho, resolve, invoke, builtin, Sem.run_bind, Sem.run_pure, Result.andThen_ok, List.map_toArray, List.map_cons, List.map_nil, hs, hx, hr]
    exact h w (by rw [List.append_nil]; exact hown) ⟨rfl, rfl, rfl, Nat.le_refl _, fun _ _ _ => rfl⟩
theorem wpList_room {w : World} {ops : Array Oper} {rest : List Oper} {o : Oper} {act : Act} {Q : Exit → Act → World → Prop} (hgd : o.guard = none) (s x : Operand)
    (ho : o.op = .call { callee := .builtin .append, args := #[s, x], argTypes := #[44, 44] })
    (base g n : Nat) (X : List Int) (hs : act.eval s = .slice (some ⟨g, 0, none⟩) n 64) (hown : w.ownsRow base 5 1 (.slice (some ⟨g, 0, none⟩) n 64) n (cells X))
    (a : Option Addr) (m c : Nat) (zs : List Int) (hx : act.eval x = .slice a m c) (hb : Bs w a m zs) (hfit : n + m ≤ 64)
    (h : ∀ w', w'.ownsRow base 5 1 (.slice (some ⟨g, 0, none⟩) (n + m) 64) (n + m) (cells (X ++ zs)) → w.grownBy w' (some g) → wpList Tryz.prog ops Q rest (act.put o.dst (.slice (some ⟨g, 0, none⟩) (n + m) 64)) w') : wpList Tryz.prog ops Q (o :: rest) act w :=
  wpList_plain hgd fun _ hK => wp_room s x ho base g n X hs hown a m c zs hx hb hfit fun w' h1 h2 => hK _ _ (h w' h1 h2)
theorem wpList_room0 {w : World} {ops : Array Oper} {rest : List Oper} {o : Oper} {act : Act} {Q : Exit → Act → World → Prop} (hgd : o.guard = none) (s x : Operand)
    (ho : o.op = .call { callee := .builtin .append, args := #[s, x], argTypes := #[44, 44] })
    (base g : Nat) (hs : act.eval s = .slice (some ⟨g, 0, none⟩) 0 64) (hown : w.ownsRow base 5 1 (.slice (some ⟨g, 0, none⟩) 0 64) 0 (cells []))
    (a : Option Addr) (m c : Nat) (zs : List Int) (hx : act.eval x = .slice a m c) (hb : Bs w a m zs) (hfit : m ≤ 64)
    (h : ∀ w', w'.ownsRow base 5 1 (.slice (some ⟨g, 0, none⟩) m 64) m (cells zs) → w.grownBy w' (some g) → wpList Tryz.prog ops Q rest (act.put o.dst (.slice (some ⟨g, 0, none⟩) m 64)) w') : wpList Tryz.prog ops Q (o :: rest) act w :=
  wpList_room hgd s x ho base g 0 [] hs hown a m c zs hx hb (by omega) fun w' h1 h2 => by
    rw [Nat.zero_add, List.nil_append] at h1
    rw [Nat.zero_add]
    exact h w' h1 h2
/-- A list that is told later: what it shows, and between which blocks it lies. -/
structure En (w : World) (e : Ent) (zs : List Int) (lo hi : Nat) : Prop where
  ok : e.Ok w
  bs : Bs w e.a e.n zs
  lo : ∀ b x, e.In b x → lo ≤ b
  hi : ∀ b x, e.In b x → b < hi
theorem En.wz {w w' : World} {e : Ent} {zs : List Int} {lo hi : Nat} (h : En w e zs lo hi) (z : Wz (fun _ _ => False) w w') : En w' e zs lo hi := ⟨h.ok.wz z, bs_wz h.bs h.ok z fun _ _ _ h => h, h.lo, h.hi⟩
theorem En.below {w w' : World} {e : Ent} {zs : List Int} {lo hi : Nat} (h : En w e zs lo hi) (hb : Below w.heap.size w w') : En w' e zs lo hi := h.wz (.ofWk (.ofBelow hb))
theorem En.room {w w' : World} {e : Ent} {zs : List Int} {lo hi gr : Nat} (h : En w e zs lo hi) (hg : w.grownBy w' (some gr)) (hl : gr < lo) : En w' e zs lo hi :=
  ⟨h.ok.off (fun b x hx => by have := h.lo b x hx; omega) (grown_sm hg), bs_off h.bs h.ok (fun b x hx => by have := h.lo b x hx; omega) (grown_sm hg), h.lo, h.hi⟩
theorem En.new {w w' : World} {v : Value} {zs : List Int} (ho : w'.ownsRow w.heap.size 5 1 v zs.length (cells zs)) (hb : ∀ z ∈ zs, 0 ≤ z ∧ z ≤ 255) (hn : zs.length ≤ 100000) : ∃ a c, v = .slice a zs.length c ∧ En w' ⟨a, zs.length, c⟩ zs w.heap.size w'.heap.size := by
  obtain ⟨a, c, rfl, h1, h2, h3⟩ := own_ent ho hb hn
  exact ⟨a, c, rfl, h1, h2, h3, fun b x hx => ok_lt h1 hx⟩
end Go.Proofs.YtmgoabedickooaaGreatDoor.Kp
namespace Go.Proofs.YtmgoabedickooaaGreatDoor.Kp
set_option maxRecDepth 100000
open Go.RowKit
set_option linter.unusedVariables false

/-- A list of prefixes that came in. -/
def IsPx (w : World) (a : Option Addr) (n : Nat) (f h l b : Nat → Int) : Prop :=
  n = 0 ∨ ∃ q off, a = some ⟨q, off, none⟩ ∧ ∀ i, i < n → (w.cell? ⟨q, off + i * 4, none⟩ = some (.int .i64 (f i)) ∧ w.cell? ⟨q, off + i * 4 + 1, none⟩ = some (.int .u64 (h i)) ∧ w.cell? ⟨q, off + i * 4 + 2, none⟩ = some (.int .u64 (l i)) ∧ w.cell? ⟨q, off + i * 4 + 3, none⟩ = some (.int .i64 (b i))) ∧ InI (f i) ∧ InU (h i) ∧ InU (l i) ∧ InI (b i)
theorem spx_me (F H L B : Int) : spx F H L B F H L B = true := by unfold spx; simp
theorem pp_len18 (F H L B : Int) : (pp F H L B).length ≤ 18 := by
  unfold pp
  split
  · rw [List.length_cons, List.length_cons, pa_length]
    have := nb_le F
    split <;> omega
  · simp
theorem pa_len16 (F H L : Int) : (pa F H L).length ≤ 16 := by
  rw [pa_length]
  have := nb_le F
  split <;> omega
set_option maxHeartbeats 8000000 in
theorem prefixOwn_ (a : Option Addr) (n c : Nat) (f h l b : Nat → Int) (w : World) (hT : Tb w) (hnc : n ≤ c ∧ c ≤ maxLen) (hL : IsPx w a n f h l b) (h0 : 0 < w.heap.size) :
    Calls Tryz.prog 3 #[.slice a n c] w fun e w' => e = .returned (.bool true) ∧ Below w.heap.size w w' := by
  obtain ⟨i5, hi, hz0, hz1, hz2⟩ := info_parts info5
  have HL := hid hL
  have HT := hid hT
  have hn := hnc.1
  have hc := hnc.2
  unfold maxLen at hc
  clear hL hnc hT
  have B0 := Below.refl w.heap.size w
  go_enter Tryz.func3, Tryz.ntmps3
  go_wp2_with fail
  refine (first_ _ (HT.out.kept B0)).mono ?_
  rintro e w1 ⟨rfl, g2⟩
  replace B0 := bel_bel B0 B0.size g2
  clear g2
  by_cases hbig : 60 < n
  · have hbI : (60 : Int) < (n : Int) := by omega
    go_wp2_with fail
    go_ret
    exact ⟨rfl, B0⟩
  have hbI : ¬ (60 : Int) < (n : Int) := by omega
  have hs1 := B0.size
  generalize hbc : bookCells 0 (.slice none 0 0) (.slice none 0 0) (.slice none 0 0) = bc at *
  have NB : Bk (w1.alloc (.cells bc 43)) w1.heap.size 0 (.slice none 0 0) (.slice none 0 0) (.slice none 0 0) := by rw [← hbc]; exact new_book w1
  have B1 : Below w.heap.size w (w1.alloc (.cells bc 43)) := B0.alloc B0.size _
  have hbk := fun {ops : Array Oper} {rest : List Oper} {o : Oper} {a : Act} {w : World} {Q : Exit → Act → World → Prop} (hg : o.guard = none) (ho : o.op = .build 43 #[]) (h : wpList Tryz.prog ops Q rest (a.put o.dst (.agg bc)) w) => (wpList_book hg ho (by rw [hbc]; exact h) : wpList Tryz.prog ops Q (o :: rest) a w)
  have hs2 : w.heap.size ≤ (w1.alloc (.cells bc 43)).heap.size := B1.size
  go_wp2_with (first | (refine hbk rfl rfl ?_) | (at_make; refine wpList_make_own _ rfl _ _ 44 rfl w.heap.size 5 i5 (.int .u8 0) 1 Tryz.underlying44 hi hz0 hz1 .i64 .i64 _ 64 rfl rfl (by omega) (by rw [hz2]; omega) (by unfold maxLen; omega) hs2 ?_; intro w5 hown hg2; have g2 := below_of_grown hg2; clear hg2))
  rw [World.size_alloc] at hown hs2
  have hgl := (Rm.of hown).lt
  have PW : Hid (Pw w w5 w1.heap.size w5.heap.size (w1.heap.size + 1) 0 w5.heap.size (fun _ => ⟨none, 0, 0⟩) (fun _ => ⟨none, 0, 0⟩)) :=
    ⟨⟨_, _, bo_start (NB.at (g2.block _ NB.lt))⟩, hs1, fun l hl => by omega, fun l hl => by omega, fun l hl => by omega, Rm.of hown, ⟨hs2, hgl, Nat.le_refl _, Nat.le_refl _⟩, bel_bel B1 B1.size g2⟩
  clear hown g2 hgl NB B0 B1 hbk hs1 hs2 hbc hi hz0 hz1 hz2
  generalize w1.heap.size = k at *
  generalize k + 1 = gr at *
  generalize hB1 : w5.heap.size = Bq at *
  clear hB1
  have hn60 : n ≤ 60 := by omega
  go_loopw [5, 6] (fun v i wr => ∃ (j p S : Nat) (E G : Nat → Ent), j ≤ n ∧ i = .int .i64 j ∧ v = .slice (some ⟨gr, 0, none⟩) p 64 ∧ p ≤ 64 ∧ Pw w wr k Bq gr (4 * j) S E G) (fun _ i _ => n - (intOf i).toNat)
  case atStart => exact ⟨0, 0, _, _, _, by omega, rfl, rfl, by omega, PW.out⟩
  case round =>
    clear PW
    obtain ⟨j, p, S, E, G, hj, rfl, rfl, hp, pw⟩ := hrel
    by_cases hlt : j < n
    · have hI : (j : Int) < (n : Int) := by omega
      obtain ⟨q, off, rfl, HC0⟩ : ∃ q off, a = some ⟨q, off, none⟩ ∧ Hid (∀ i, i < n → (w.cell? ⟨q, off + i * 4, none⟩ = some (.int .i64 (f i)) ∧ w.cell? ⟨q, off + i * 4 + 1, none⟩ = some (.int .u64 (h i)) ∧ w.cell? ⟨q, off + i * 4 + 2, none⟩ = some (.int .u64 (l i)) ∧ w.cell? ⟨q, off + i * 4 + 3, none⟩ = some (.int .i64 (b i))) ∧ InI (f i) ∧ InU (h i) ∧ InU (l i) ∧ InI (b i)) := by
        rcases HL.out with h | ⟨b, off, e, h⟩
        · omega
        · exact ⟨b, off, e, h⟩
      obtain ⟨⟨d0, d1, d2, d3⟩, iF, iH, iL, iB⟩ := HC0.out j hlt
      have hqb : q < w.heap.size := World.block_lt_of_cell? w _ d0
      clear HC0 HL
      have k1 := fun w => put_ (f j) (h j) (l j) (b j) w iF iH iL iB
      have k2 := fun w => putAddr_ (f j) (h j) (l j) w iF iH iL
      have k3 := fun w => refPut_ (f j) (h j) (l j) (b j) w iH iL iB
      have HX := hid (pp_byte (f j) (h j) (l j) (b j))
      have HA := hid (pa_byte (f j) (h j) (l j))
      have lX := pp_len18 (f j) (h j) (l j) (b j)
      have lA := pa_len16 (f j) (h j) (l j)
      obtain ⟨F, eF⟩ : ∃ F, Hid (f j = F) := ⟨_, rfl⟩
      obtain ⟨H, eH⟩ : ∃ F, Hid (h j = F) := ⟨_, rfl⟩
      obtain ⟨L, eL⟩ : ∃ F, Hid (l j = F) := ⟨_, rfl⟩
      obtain ⟨B, eB⟩ : ∃ F, Hid (b j = F) := ⟨_, rfl⟩
      rw [eF.out] at d0
      rw [eH.out] at d1
      rw [eL.out] at d2
      rw [eB.out] at d3
      rw [eF.out, eH.out, eL.out, eB.out] at k1 k3 HX lX
      rw [eF.out, eH.out, eL.out] at k2 HA lA
      have HC : Hid (∀ wx, Below w.heap.size w wx → wx.cell? ⟨q, off + j * 4, none⟩ = some (.int .i64 F) ∧ wx.cell? ⟨q, off + j * 4 + 1, none⟩ = some (.int .u64 H) ∧ wx.cell? ⟨q, off + j * 4 + 2, none⟩ = some (.int .u64 L) ∧ wx.cell? ⟨q, off + j * 4 + 3, none⟩ = some (.int .i64 B)) :=
        fun wx hx => ⟨(hx.cell hqb).trans d0, (hx.cell hqb).trans d1, (hx.cell hqb).trans d2, (hx.cell hqb).trans d3⟩
      clear d0 d1 d2 d3 iF iH iL iB eF eH eL eB hqb
      generalize pp F H L B = X at *
      generalize pa F H L = A at *
      obtain ⟨wo, hwo⟩ : ∃ wo, Hid (wo = wr) := ⟨_, rfl⟩
      have hS0 := pw.lt.2.2.2
      have hg0 : gr < wr.heap.size := by have := pw.lt; omega
      obtain ⟨c0, c1, c2, c3⟩ := HC.out _ pw.fr
      go_wp2_with fail
      refine (k1 _).mono ?_
      rintro e w3 ⟨v, rfl, ho, g2⟩
      obtain ⟨a1, c1', rfl, e1⟩ := En.new ho HX.out (by omega)
      have hz1 := g2.size
      clear c0 c1 c2 c3
      replace pw := pw.below g2
      clear g2 ho
      obtain ⟨c0, c1, c2, c3⟩ := HC.out _ pw.fr
      go_wp2_with fail
      refine (k1 _).mono ?_
      rintro e w4 ⟨v, rfl, ho, g2⟩
      obtain ⟨a2, c2', rfl, e2⟩ := En.new ho HX.out (by omega)
      have hz2 := g2.size
      clear c0 c1 c2 c3
      replace pw := pw.below g2
      replace e1 := e1.below g2
      clear g2 ho
      obtain ⟨c0, c1, c2, c3⟩ := HC.out _ pw.fr
      go_wp2_with fail
      refine (k2 _).mono ?_
      rintro e w6 ⟨v, rfl, ho, g2⟩
      obtain ⟨a3, c3', rfl, e3⟩ := En.new ho HA.out (by omega)
      have hz3 := g2.size
      clear c0 c1 c2 c3
      replace pw := pw.below g2
      replace e1 := e1.below g2
      replace e2 := e2.below g2
      clear g2 ho
      obtain ⟨c0, c1, c2, c3⟩ := HC.out _ pw.fr
      go_wp2_with fail
      refine (k2 _).mono ?_
      rintro e w7 ⟨v, rfl, ho, g2⟩
      obtain ⟨a4, c4', rfl, e4⟩ := En.new ho HA.out (by omega)
      have hz4 := g2.size
      clear c0 c1 c2 c3
      replace pw := pw.below g2
      replace e1 := e1.below g2
      replace e2 := e2.below g2
      replace e3 := e3.below g2
      clear g2 ho
      obtain ⟨c0, c1, c2, c3⟩ := HC.out _ pw.fr
      go_wp2_with fail
      refine (k3 _).mono ?_
      rintro e w8 ⟨v, rfl, ho, g2⟩
      obtain ⟨a5, c5', rfl, e5⟩ := En.new ho HX.out (by omega)
      have hz5 := g2.size
      clear c0 c1 c2 c3
      replace pw := pw.below g2
      replace e1 := e1.below g2
      replace e2 := e2.below g2
      replace e3 := e3.below g2
      replace e4 := e4.below g2
      clear g2 ho
      clear k1 k2 k3
      have HPW := hid pw
      have H1 := hid e1
      have H2 := hid e2
      have H3 := hid e3
      have H4 := hid e4
      have H5 := hid e5
      have hlow := pw.lt.1
      have HRO := hid (pw.rm.own hlow)
      clear pw e1 e2 e3 e4 e5
      have HX2 : Hid (∀ z ∈ X ++ [47, 11], 0 ≤ z ∧ z ≤ 255) := fun z hz => by
        rcases List.mem_append.1 hz with h | h
        · exact HX.out z h
        · simp at h; omega
      obtain ⟨N, hN⟩ : ∃ N, X.length = N := ⟨_, rfl⟩
      rw [hN] at lX H1 H2 H5
      simp only [hN]
      have HN := hid hN
      clear hN
      obtain ⟨M, hM⟩ : ∃ N, A.length = N := ⟨_, rfl⟩
      rw [hM] at lA H3 H4
      simp only [hM]
      clear hM
      go_wp2_with (at_builtin; first
        | (refine wpList_room0 rfl _ _ rfl w.heap.size gr rfl HRO.out a5 N c5' X rfl H5.out.bs (by omega) ?_; intro w9 ho9 hg9; have HO9 := hid ho9; have HG9 := hid hg9; clear ho9 hg9)
        | (refine wpList_room rfl _ _ rfl w.heap.size gr N X rfl (HO9.out.alloc _) (some ⟨w9.heap.size, 0, none⟩) 2 2 [47, 11] rfl (Bs.new w9 [47, 11] 5 (by decide)) (by omega) ?_; intro w10 ho10 hg10; have HO10 := hid ho10; have HG10 := hid hg10; clear ho10 hg10))
      have al : Below w9.heap.size w9 (w9.alloc (.cells #[.int .u8 47, .int .u8 11] 5)) := (Below.refl _ _).alloc (Nat.le_refl _) _
      have pw := ((HPW.out.room HO9.out HG9.out).below al).room HO10.out HG10.out
      have e1 := ((H1.out.room HG9.out hg0).below al).room HG10.out hg0
      have e2 := ((H2.out.room HG9.out (by omega)).below al).room HG10.out (by omega)
      have e3 := ((H3.out.room HG9.out (by omega)).below al).room HG10.out (by omega)
      have e4 := ((H4.out.room HG9.out (by omega)).below al).room HG10.out (by omega)
      have e5 := ((H5.out.room HG9.out (by omega)).below al).room HG10.out (by omega)
      have gb : Bs w10 (some ⟨gr, 0, none⟩) (N + 2) (X ++ [47, 11]) := by
        obtain ⟨ga, gc, eg, gb, _⟩ := own_form HO10.out HX2.out
        simp at eg
        obtain ⟨rfl, rfl⟩ := eg
        exact gb
      have hnow : w8.heap.size ≤ w10.heap.size := Nat.le_trans HG9.out.size (Nat.le_trans al.size HG10.out.size)
      have HCX : Hid (∀ wx, Bs wx (some ⟨gr, 0, none⟩) (N + 2) (X ++ [47, 11]) → Bs wx (some ⟨gr, 0, none⟩) N X ∧ wx.cell? ⟨gr, N, none⟩ = some (.int .u8 47) ∧ wx.cell? ⟨gr, N + 1, none⟩ = some (.int .u8 11)) := fun wx hb => by
        refine ⟨?_, ?_⟩
        · have := hb.cut (m := N) (by omega)
          rwa [List.take_left' HN.out] at this
        · rcases hb.2.2 with h | ⟨b', o', e', hc'⟩
          · omega
          · simp at e'
            obtain ⟨rfl, rfl⟩ := e'
            have q1 := hc' N (by omega)
            have q2 := hc' (N + 1) (by omega)
            rw [Nat.zero_add] at q1 q2
            rw [q1, q2]
            have hN := HN.out
            constructor
            · simp [List.getD, hN]
            · simp [List.getD, hN]
      have hok5 := e5.ok.1
      have hok5' := e5.ok.2.1
      have k4 := fun w hb h0 => get_ (some ⟨gr, 0, none⟩) N 64 X w hb (by omega) (by unfold maxLen; omega) (fun h => by cases h) h0
      have k5 := fun w hb => refGet_ a5 N c5' X w hb hok5 hok5'
      obtain ⟨QF, tF⟩ : ∃ b, Hid (qF X = b) := ⟨_, rfl⟩
      obtain ⟨QH, tH⟩ : ∃ b, Hid (qH X = b) := ⟨_, rfl⟩
      obtain ⟨QL, tL⟩ : ∃ b, Hid (qL X = b) := ⟨_, rfl⟩
      obtain ⟨QB, tB⟩ : ∃ b, Hid (qB X = b) := ⟨_, rfl⟩
      obtain ⟨QN, tN⟩ : ∃ b, Hid (qN X = b) := ⟨_, rfl⟩
      obtain ⟨QE, tE⟩ : ∃ b, Hid (qE X = b) := ⟨_, rfl⟩
      rw [tF.out, tH.out, tL.out, tB.out, tN.out, tE.out] at k4 k5
      clear tF tH tL tB tN tE HPW H1 H2 H3 H4 H5 HO9 HG9 HO10 HG10 al HRO HX2 HX HA hok5 hok5'
      have hne : (QN != QN) = false := by simp
      have k6 := fun w => samePrefix_ QF QH QL QB QF QH QL QB w
      rw [spx_me] at k6
      have hpos : 0 < w10.heap.size := by omega
      refine (k4 _ (HCX.out _ gb).1 hpos).mono ?_
      rintro e w11 ⟨rfl, g2⟩
      replace pw := pw.below g2
      replace e1 := e1.below g2
      replace e2 := e2.below g2
      replace e3 := e3.below g2
      replace e4 := e4.below g2
      replace e5 := e5.below g2
      replace gb := gb.below g2
      replace hnow := Nat.le_trans hnow g2.size
      clear g2 k4 hpos
      have m0 := Pm.new w11 QF QH QL QB
      have g2 : Below w11.heap.size w11 (w11.alloc (.cells #[.int .i64 QF, .int .u64 QH, .int .u64 QL, .int .i64 QB] 50)) := (Below.refl _ _).alloc (Nat.le_refl _) _
      replace pw := pw.below g2
      replace e1 := e1.below g2
      replace e2 := e2.below g2
      replace e3 := e3.below g2
      replace e4 := e4.below g2
      replace e5 := e5.below g2
      replace gb := gb.below g2
      replace hnow := Nat.le_trans hnow g2.size
      clear g2
      go_wp2_with fail
      refine (k5 _ e5.bs).mono ?_
      rintro e w12 ⟨rfl, g2⟩
      replace pw := pw.below g2
      replace e1 := e1.below g2
      replace e2 := e2.below g2
      replace e3 := e3.below g2
      replace e4 := e4.below g2
      replace e5 := e5.below g2
      replace gb := gb.below g2
      replace hnow := Nat.le_trans hnow g2.size
      replace m0 := m0.kept g2
      clear g2 k5
      have m1 := Pm.new w12 QF QH QL QB
      have g2 : Below w12.heap.size w12 (w12.alloc (.cells #[.int .i64 QF, .int .u64 QH, .int .u64 QL, .int .i64 QB] 50)) := (Below.refl _ _).alloc (Nat.le_refl _) _
      replace pw := pw.below g2
      replace e1 := e1.below g2
      replace e2 := e2.below g2
      replace e3 := e3.below g2
      replace e4 := e4.below g2
      replace e5 := e5.below g2
      replace gb := gb.below g2
      replace hnow := Nat.le_trans hnow g2.size
      replace m0 := m0.kept g2
      clear g2
      have p0 := m0.c0
      have p1 := m0.c1
      have p2 := m0.c2
      have p3 := m0.c3
      have r0 := m1.c0
      have r1 := m1.c1
      have r2 := m1.c2
      have r3 := m1.c3
      go_wp2_with fail
      refine (k6 _).mono ?_
      rintro e w13 ⟨rfl, g2⟩
      replace pw := pw.below g2
      replace e1 := e1.below g2
      replace e2 := e2.below g2
      replace e3 := e3.below g2
      replace e4 := e4.below g2
      replace e5 := e5.below g2
      replace gb := gb.below g2
      replace hnow := Nat.le_trans hnow g2.size
      clear g2 k6 p0 p1 p2 p3 r0 r1 r2 r3 m0 m1
      go_wp2_with fail
      refine (same_yes (some ⟨gr, 0, none⟩) a5 N 64 N c5' X _ (HCX.out _ gb).1 e5.bs (by omega) (by omega)).mono ?_
      rintro e w14 ⟨rfl, dr⟩
      have g2 := dr.below
      replace pw := pw.below g2
      replace e1 := e1.below g2
      replace e2 := e2.below g2
      replace e3 := e3.below g2
      replace e4 := e4.below g2
      replace e5 := e5.below g2
      replace gb := gb.below g2
      replace hnow := Nat.le_trans hnow g2.size
      clear g2 dr
      obtain ⟨_, x47, x11⟩ := HCX.out _ gb
      go_wp2_with fail
      refine (same_yes a1 a2 N c1' N c2' X _ e1.bs e2.bs (by omega) (by omega)).mono ?_
      rintro e w15 ⟨rfl, dr⟩
      have g2 := dr.below
      replace pw := pw.below g2
      replace e1 := e1.below g2
      replace e2 := e2.below g2
      replace e3 := e3.below g2
      replace e4 := e4.below g2
      replace e5 := e5.below g2
      replace gb := gb.below g2
      replace hnow := Nat.le_trans hnow g2.size
      clear g2 dr x47 x11
      go_wp2_with fail
      refine (same_yes a3 a4 M c3' M c4' A _ e3.bs e4.bs (by omega) (by omega)).mono ?_
      rintro e w16 ⟨rfl, dr⟩
      have g2 := dr.below
      replace pw := pw.below g2
      replace e1 := e1.below g2
      replace e2 := e2.below g2
      replace e3 := e3.below g2
      replace e4 := e4.below g2
      replace e5 := e5.below g2
      replace gb := gb.below g2
      replace hnow := Nat.le_trans hnow g2.size
      clear g2 dr gb HCX e5
      go_wp2_with fail
      refine (pw_tell (S' := w3.heap.size) pw ⟨a1, N, c1'⟩ X e1.ok (by show N ≤ 5000; omega) e1.bs (fun b x hx => by have := e1.lo b x hx; omega) e1.hi (by omega) (by omega)).mono ?_
      rintro e w17 ⟨rfl, ⟨E0, G0, pw0⟩, z⟩
      replace hnow := Nat.le_trans hnow z.size
      replace e2 := e2.wz z
      replace e3 := e3.wz z
      replace e4 := e4.wz z
      clear z pw e1
      have pw := pw0
      clear pw0
      go_wp2_with fail
      refine (pw_tell (S' := w4.heap.size) pw ⟨a2, N, c2'⟩ X e2.ok (by show N ≤ 5000; omega) e2.bs (fun b x hx => by have := e2.lo b x hx; omega) e2.hi (by omega) (by omega)).mono ?_
      rintro e w18 ⟨rfl, ⟨E1, G1, pw1⟩, z⟩
      replace hnow := Nat.le_trans hnow z.size
      replace e3 := e3.wz z
      replace e4 := e4.wz z
      clear z pw e2
      have pw := pw1
      clear pw1
      go_wp2_with fail
      refine (pw_tell (S' := w6.heap.size) pw ⟨a3, M, c3'⟩ A e3.ok (by show M ≤ 5000; omega) e3.bs (fun b x hx => by have := e3.lo b x hx; omega) e3.hi (by omega) (by omega)).mono ?_
      rintro e w19 ⟨rfl, ⟨E2, G2, pw2⟩, z⟩
      replace hnow := Nat.le_trans hnow z.size
      replace e4 := e4.wz z
      clear z pw e3
      have pw := pw2
      clear pw2
      go_wp2_with fail
      refine (pw_tell (S' := w7.heap.size) pw ⟨a4, M, c4'⟩ A e4.ok (by show M ≤ 5000; omega) e4.bs (fun b x hx => by have := e4.lo b x hx; omega) e4.hi (by omega) (by omega)).mono ?_
      rintro e w20 ⟨rfl, ⟨E3, G3, pw3⟩, z⟩
      replace hnow := Nat.le_trans hnow z.size
      clear z pw e4
      have pw := pw3
      clear pw3
      go_wp2_with fail
      go_roundw
      case rel => exact ⟨j + 1, N + 2, _, _, _, by omega, by go_num, rfl, by omega, pw⟩
      case measure => simp [intOf]; omega
    · have hI : ¬ (j : Int) < (n : Int) := by omega
      go_wp2_with fail
      refine (pw_finish pw (by omega)).mono ?_
      rintro e w6 ⟨rfl, E, F, pf⟩
      clear pw
      go_wp2_with fail
      go_loopw [21, 22] (fun v i wr => ∃ (t : Nat), t ≤ n ∧ v = .bool true ∧ i = .int .i64 t ∧ Pf w wr k (4 * j) E F) (fun _ i _ => n - (intOf i).toNat)
      case atStart => exact ⟨0, by omega, rfl, rfl, pf⟩
      case round =>
        clear pf
        obtain ⟨t, ht, rfl, rfl, pf⟩ := hrel
        by_cases hlt2 : t < n
        · have hI2 : (t : Int) < (n : Int) := by omega
          obtain ⟨q, off, rfl, HC0⟩ : ∃ q off, a = some ⟨q, off, none⟩ ∧ Hid (∀ i, i < n → (w.cell? ⟨q, off + i * 4, none⟩ = some (.int .i64 (f i)) ∧ w.cell? ⟨q, off + i * 4 + 1, none⟩ = some (.int .u64 (h i)) ∧ w.cell? ⟨q, off + i * 4 + 2, none⟩ = some (.int .u64 (l i)) ∧ w.cell? ⟨q, off + i * 4 + 3, none⟩ = some (.int .i64 (b i))) ∧ InI (f i) ∧ InU (h i) ∧ InU (l i) ∧ InI (b i)) := by
            rcases HL.out with h | ⟨b, off, e, h⟩
            · omega
            · exact ⟨b, off, e, h⟩
          obtain ⟨⟨d0, d1, d2, d3⟩, iF, iH, iL, iB⟩ := HC0.out t hlt2
          have hqb : q < w.heap.size := World.block_lt_of_cell? w _ d0
          clear HC0 HL
          have k1 := fun w => put_ (f t) (h t) (l t) (b t) w iF iH iL iB
          have k3 := fun w => refPut_ (f t) (h t) (l t) (b t) w iH iL iB
          have HX := hid (pp_byte (f t) (h t) (l t) (b t))
          have lX := pp_len18 (f t) (h t) (l t) (b t)
          generalize pp (f t) (h t) (l t) (b t) = X at *
          have c0 := (pf.fr.cell hqb).trans d0
          have c1 := (pf.fr.cell hqb).trans d1
          have c2 := (pf.fr.cell hqb).trans d2
          have c3 := (pf.fr.cell hqb).trans d3
          go_wp2_with fail
          refine (k1 _).mono ?_
          rintro e w7 ⟨v, rfl, ho, g2⟩
          obtain ⟨xa1, xc1, rfl, xb1, _, _, _⟩ := own_form ho HX.out
          replace pf := pf.below g2
          clear g2 ho k1 c0 c1 c2 c3
          have c0 := (pf.fr.cell hqb).trans d0
          have c1 := (pf.fr.cell hqb).trans d1
          have c2 := (pf.fr.cell hqb).trans d2
          have c3 := (pf.fr.cell hqb).trans d3
          go_wp2_with fail
          refine (k3 _).mono ?_
          rintro e w8 ⟨v, rfl, ho, g2⟩
          obtain ⟨xa2, xc2, rfl, xb2, _, _, _⟩ := own_form ho HX.out
          replace pf := pf.below g2
          replace xb1 := xb1.below g2
          clear g2 ho k3 c0 c1 c2 c3
          go_wp2_with fail
          refine (same_yes xa1 xa2 _ xc1 _ xc2 X _ xb1 xb2 (by omega) (by omega)).mono ?_
          rintro e w9 ⟨rfl, dr⟩
          replace pf := pf.below dr.below
          clear dr xb1 xb2
          go_wp2_with fail
          go_roundw
          case rel => exact ⟨t + 1, by omega, rfl, by go_num, pf⟩
          case measure => simp [intOf]; omega
        · have hI2 : ¬ (t : Int) < (n : Int) := by omega
          go_wp2_with fail
          refine (pf_holds pf (by omega)).mono ?_
          rintro e w7 ⟨rfl, hw⟩
          obtain rfl := hw.symm
          go_wp2_with fail
          go_ret
          exact ⟨rfl, pf.fr⟩
end Go.Proofs.YtmgoabedickooaaGreatDoor.Kp
namespace Go.Proofs.YtmgoabedickooaaGreatDoor
set_option maxRecDepth 100000
open Go.ChangeShapes Go.WideShapes Go.ChangeAt Go.RowKit
set_option linter.unusedVariables false

/-- A slice of integers that came in: nil, or a row of 'cap' numbers. -/
def IsRow (k : IntKind) (w : World) (a : Option Addr) (len cap : Nat) (zs : List Int) : Prop :=
  (a = none ∧ len = 0 ∧ cap = 0 ∧ zs = []) ∨
  ∃ x, a = some x ∧ len ≤ cap ∧ cap ≤ maxLen ∧ zs.length = cap ∧ (∀ i, i < zs.length → w.cell? (x.add i) = some (.int k (zs.getD i 0))) ∧ ∀ n ∈ zs, (Lit.int k n).wf = true

theorem IsRow.fits {k : IntKind} {w : World} {a : Option Addr} {len cap : Nat} {zs : List Int} (h : IsRow k w a len cap zs) : len ≤ cap ∧ cap ≤ maxLen ∧ (a = none → cap = 0) ∧ zs.length = cap := by
  rcases h with ⟨rfl, rfl, rfl, rfl⟩ | ⟨x, rfl, hl, hm, hz, _⟩
  · exact ⟨Nat.le_refl _, by unfold maxLen; omega, fun _ => rfl, rfl⟩
  · exact ⟨hl, hm, (fun e => by cases e), hz⟩

theorem IsRow.at {k : IntKind} {w : World} {a : Option Addr} {len cap : Nat} {zs : List Int} (h : IsRow k w a len cap zs) :
    len = 0 ∨ ∃ b off, a = some ⟨b, off, none⟩ ∧ ∀ i, i < len → w.cell? ⟨b, off + i, none⟩ = some (.int k (zs.getD i 0)) := by
  rcases h with ⟨rfl, rfl, rfl, rfl⟩ | ⟨x, rfl, hl, hm, hz, hcell, hwz⟩
  · exact .inl rfl
  · by_cases h0 : len = 0
    · exact .inl h0
    · obtain ⟨b, off, spot⟩ := x
      have hc := hcell 0 (by omega)
      have hspot : spot = none := by simpa [Addr.add] using World.cell?_spot hc
      subst hspot
      refine .inr ⟨b, off, rfl, fun i hi => ?_⟩
      have := hcell i (by omega)
      rwa [Addr.add_lit] at this

theorem IsRow.bs {w : World} {a : Option Addr} {len cap : Nat} {zs : List Int} (h : IsRow .u8 w a len cap zs) : Bs w a len (zs.take len) := by
  obtain ⟨f1, f2, _, f3⟩ := h.fits
  have hat := h.at
  refine ⟨by simp; omega, fun z hz => ?_, ?_⟩
  · rcases h with ⟨rfl, rfl, rfl, rfl⟩ | ⟨x, rfl, hl, hm, hz', hcell, hwz⟩
    · simp at hz
    · exact bounds_u8 (hwz z (List.mem_of_mem_take hz))
  · rcases hat with h0 | ⟨b, off, rfl, hc⟩
    · exact .inl h0
    · refine .inr ⟨b, off, rfl, fun i hi => ?_⟩
      rw [hc i hi]
      simp only [List.getD, List.getElem?_take, if_pos hi]
theorem underAd : ∃ f0 f1 f2, Tryz.prog.underlying 48 = some (.struct #[f0, f1, f2]) ∧ f0.type = 3 ∧ f1.type = 46 ∧ f2.type = 46 ∧ f0.offset = 0 ∧ f1.offset = 1 ∧ f2.offset = 2 := ⟨_, _, _, Tryz.underlying48, rfl, rfl, rfl, rfl, rfl, rfl⟩
theorem underPx : ∃ f0 f1, Tryz.prog.underlying 50 = some (.struct #[f0, f1]) ∧ f0.type = 48 ∧ f1.type = 3 ∧ f0.offset = 0 ∧ f1.offset = 3 := ⟨_, _, Tryz.underlying50, rfl, rfl, rfl, rfl⟩
theorem cells3 : Tryz.prog.cellsOf 3 = 1 := by kernel_rfl
theorem cellsU : Tryz.prog.cellsOf 46 = 1 := by kernel_rfl
theorem cellsAd : Tryz.prog.cellsOf 48 = 3 := by kernel_rfl
theorem cellsPx : Tryz.prog.cellsOf 50 = 4 := by kernel_rfl
theorem inU_of {n : Int} (h : (Lit.int .u64 n).wf = true) : InU n := by
  have := bounds_u64 h
  unfold InU
  omega
/-- Three cells that read as an address. -/
theorem open_three {H : Type} {enc : TypeId × Value → H} {W : World} {b0 fuel : Nat} {spare : Nat → Bool} {held : Bool} {cs : List Value} {x : DataW H × List MemPlace} (h : DataW.trod enc Tryz.prog W b0 spare held fuel 48 cs = some x) :
    ∃ F H L, InI F ∧ InU H ∧ InU L ∧ cs = [.int .i64 F, .int .u64 H, .int .u64 L] := by
  obtain ⟨f0, f1, f2, hu, t0, t1, t2, o0, o1, o2⟩ := underAd
  obtain ⟨y0, y1, y2, q, _, hl, h0, h1, h2⟩ := Go.Deep.trod_struct3 hu h
  rw [t0, o0, cells3] at h0
  rw [t1, o1, cellsU] at h1
  rw [t2, o2, cellsU] at h2
  rw [cellsAd] at hl
  obtain ⟨F, e0, _, w0⟩ := DataW.trod_int Tryz.underlying3 h0
  obtain ⟨H', e1, _, w1⟩ := DataW.trod_int Tryz.underlying46 h1
  obtain ⟨L, e2, _, w2⟩ := DataW.trod_int Tryz.underlying46 h2
  refine ⟨F, H', L, bounds_i64 w0, inU_of w1, inU_of w2, ?_⟩
  match cs, hl with
  | [a, b, c], _ =>
    simp at e0 e1 e2
    rw [e0, e1, e2]
/-- Four that read as a prefix. -/
theorem open_four {H : Type} {enc : TypeId × Value → H} {W : World} {b0 fuel : Nat} {spare : Nat → Bool} {held : Bool} {cs : List Value} {x : DataW H × List MemPlace} (h : DataW.trod enc Tryz.prog W b0 spare held fuel 50 cs = some x) :
    ∃ F H L B, (InI F ∧ InU H ∧ InU L ∧ InI B) ∧ cs = [.int .i64 F, .int .u64 H, .int .u64 L, .int .i64 B] := by
  obtain ⟨f0, f1, hu, t0, t1, o0, o1⟩ := underPx
  obtain ⟨y0, y1, q, _, hl, h0, h1⟩ := trod_struct2 hu h
  rw [t0, o0, cellsAd] at h0
  rw [t1, o1, cells3] at h1
  rw [cellsPx] at hl
  obtain ⟨F, H', L, a1, a2, a3, e0⟩ := open_three h0
  obtain ⟨B, e1, _, w1⟩ := DataW.trod_int Tryz.underlying3 h1
  refine ⟨F, H', L, B, ⟨a1, a2, a3, bounds_i64 w1⟩, ?_⟩
  match cs, hl with
  | [a, b, c, d], _ =>
    simp at e0 e1
    rw [e0.1, e0.2.1, e0.2.2, e1]
theorem open_ad {H : Type} {enc : TypeId × Value → H} {W : World} {base b0 : Nat} {spare : Nat → Bool} {held : Bool} {v : Value} {d : DataW H} {p : List MemPlace} (hv : Value.okWide Tryz.prog W .any base 48 v) (h : DataW.Trod enc Tryz.prog W b0 spare held 48 v d p) :
    ∃ F H L, (InI F ∧ InU H ∧ InU L) ∧ v = .agg #[.int .i64 F, .int .u64 H, .int .u64 L] := by
  obtain ⟨cs, rfl, hsz, _⟩ : ∃ cs, v = .agg cs ∧ cs.size = Tryz.prog.cellsOf 48 ∧ Row.okWide Tryz.prog W .any base 48 cs := by
    simpa [Value.okWide, Tryz.underlying48] using hv
  obtain ⟨fuel, hf⟩ := h
  obtain ⟨F, H', L, a1, a2, a3, e⟩ := open_three hf
  refine ⟨F, H', L, ⟨a1, a2, a3⟩, ?_⟩
  have : cs.toList = [.int .i64 F, .int .u64 H', .int .u64 L] := e
  congr 1
  apply Array.ext'
  exact this
theorem open_px {H : Type} {enc : TypeId × Value → H} {W : World} {base b0 : Nat} {spare : Nat → Bool} {held : Bool} {v : Value} {d : DataW H} {p : List MemPlace} (hv : Value.okWide Tryz.prog W .any base 50 v) (h : DataW.Trod enc Tryz.prog W b0 spare held 50 v d p) :
    ∃ F H L B, (InI F ∧ InU H ∧ InU L ∧ InI B) ∧ v = .agg #[.int .i64 F, .int .u64 H, .int .u64 L, .int .i64 B] := by
  obtain ⟨cs, rfl, hsz, _⟩ : ∃ cs, v = .agg cs ∧ cs.size = Tryz.prog.cellsOf 50 ∧ Row.okWide Tryz.prog W .any base 50 cs := by
    simpa [Value.okWide, Tryz.underlying50] using hv
  obtain ⟨fuel, hf⟩ := h
  obtain ⟨F, H', L, B, a1, e⟩ := open_four hf
  refine ⟨F, H', L, B, a1, ?_⟩
  have : cs.toList = [.int .i64 F, .int .u64 H', .int .u64 L, .int .i64 B] := e
  congr 1
  apply Array.ext'
  exact this
theorem Tb.room {w : World} (h : Tb w) : 0 < w.heap.size := by
  obtain ⟨_, ⟨tp, p, h2⟩, _, _⟩ := h
  rcases Nat.eq_zero_or_pos w.heap.size with h0 | h0
  · exfalso
    have he : w.heap = #[] := Array.eq_empty_of_size_eq_zero h0
    unfold World.var? at h2
    rw [he] at h2
    cases hg : Tryz.prog.globalNamed "strconv.ErrSyntax" with
    | none => rw [hg] at h2; simp at h2
    | some g => rw [hg] at h2; simp at h2
  · exact h0
/-- A text that came in is a list of bytes. -/
theorem sb_of (s : ByteArray) : sb (s.data.toList.map UInt8.toNat) = s := by
  apply ByteArray.ext
  apply Array.ext'
  show ((s.data.toList.map UInt8.toNat).map UInt8.ofNat) = _
  rw [List.map_map]
  have : (UInt8.ofNat ∘ UInt8.toNat) = id := by
    funext x
    simp
  rw [this, List.map_id]
theorem of_sb (s : ByteArray) (hs : s.size ≤ maxLen) : ∃ l, ((∀ x ∈ l, x < 256) ∧ l.length ≤ maxLen) ∧ s = sb l := by
  refine ⟨s.data.toList.map UInt8.toNat, ⟨?_, ?_⟩, (sb_of s).symm⟩
  · intro x hx
    obtain ⟨b, _, rfl⟩ := List.mem_map.1 hx
    exact b.toNat_lt
  · rw [List.length_map]
    exact hs
end Go.Proofs.YtmgoabedickooaaGreatDoor
namespace Go.Proofs.YtmgoabedickooaaGreatDoor.Kp
set_option maxRecDepth 100000
open Go.ChangeShapes Go.WideShapes Go.ChangeAt Go.RowKit Go.Deep
set_option linter.unusedVariables false

theorem cells_four {w : World} {base : Nat} {x : Addr} {cs : List Value} (h : w.cells? base x 4 = some cs) : ∃ c0 c1 c2 c3, cs = [c0, c1, c2, c3] ∧ w.cell? (x.add 0) = some c0 ∧ w.cell? (x.add 1) = some c1 ∧ w.cell? (x.add 2) = some c2 ∧ w.cell? (x.add 3) = some c3 := by
  unfold World.cells? at h
  split at h
  · simp only [List.range, List.range.loop, List.mapM_cons, List.mapM_nil, Option.bind_eq_bind, Option.pure_def, Option.bind_eq_some_iff] at h
    obtain ⟨c0, h0, y, ⟨c1, h1, y1, ⟨c2, h2, y2, ⟨c3, h3, u, e4, e3⟩, e2⟩, e1⟩, e0⟩ := h
    simp at e0 e1 e2 e3 e4
    subst e4 e3 e2 e1 e0
    exact ⟨c0, c1, c2, c3, rfl, h0, h1, h2, h3⟩
  · cases h
theorem open_pxs {H : Type} {enc : TypeId × Value → H} {w : World} {base : Nat} {spare : Nat → Bool} {held : Bool} {fuel n c : Nat} {a : Option Addr} {x : DataW H × List MemPlace}
    (h : DataW.trod enc Tryz.prog w base spare held fuel 22 [.slice a n c] = some x) : (n ≤ c ∧ c ≤ maxLen) ∧ ∃ f h l b, IsPx w a n f h l b := by
  rcases open_slice Tryz.underlying22 h with ⟨hcs, _⟩ | ⟨x, len, cap, m, nn, D, Pl, hcs, _, hl, hm, hme, _, hel⟩
  · simp at hcs
    obtain ⟨rfl, rfl, rfl⟩ := hcs
    exact ⟨⟨Nat.le_refl _, by unfold maxLen; omega⟩, fun _ => 0, fun _ => 0, fun _ => 0, fun _ => 0, .inl rfl⟩
  · simp at hcs
    obtain ⟨rfl, rfl, rfl⟩ := hcs
    refine ⟨⟨hl, hm⟩, ?_⟩
    by_cases h0 : n = 0
    · exact ⟨fun _ => 0, fun _ => 0, fun _ => 0, fun _ => 0, .inl h0⟩
    have hnm : n ≤ m := by rw [hme]; split <;> omega
    have key : ∀ i, i < n → ∃ y : Int × Int × Int × Int, (w.cell? ((x.add (i * 4)).add 0) = some (.int .i64 y.1) ∧ w.cell? ((x.add (i * 4)).add 1) = some (.int .u64 y.2.1) ∧ w.cell? ((x.add (i * 4)).add 2) = some (.int .u64 y.2.2.1) ∧ w.cell? ((x.add (i * 4)).add 3) = some (.int .i64 y.2.2.2)) ∧ InI y.1 ∧ InU y.2.1 ∧ InU y.2.2.1 ∧ InI y.2.2.2 := by
      intro i hi
      obtain ⟨cs', h1, h2⟩ := hel i (by omega)
      rw [cellsPx] at h1
      obtain ⟨c0, c1, c2, c3, rfl, g0, g1, g2, g3⟩ := cells_four h1
      obtain ⟨F, H', L, B, hh, e⟩ := open_four h2
      simp at e
      obtain ⟨rfl, rfl, rfl, rfl⟩ := e
      exact ⟨(F, H', L, B), ⟨g0, g1, g2, g3⟩, hh⟩
    obtain ⟨f, hf⟩ := choose_lt key
    obtain ⟨b, off, spot⟩ := x
    have hspot : spot = none := by simpa [Addr.add] using World.cell?_spot (hf 0 (by omega)).1.1
    subst hspot
    refine ⟨fun i => (f i).1, fun i => (f i).2.1, fun i => (f i).2.2.1, fun i => (f i).2.2.2, .inr ⟨b, off, rfl, fun i hi => ?_⟩⟩
    have := hf i hi
    simpa only [add_add, Addr.add_lit, Nat.add_zero, Nat.add_assoc] using this
end Go.Proofs.YtmgoabedickooaaGreatDoor.Kp
