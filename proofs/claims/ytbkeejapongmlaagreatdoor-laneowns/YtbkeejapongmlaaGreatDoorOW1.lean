import Derived.Test.YtbkeejapongmlaaGreatDoorLX
import Derived.Test.YtbkeejapongmlaaGreatDoorLG
import Derived.Test.YtbkeejapongmlaaGreatDoorKTold
namespace Go.Proofs.YtbkeejapongmlaaGreatDoor.Kp
set_option maxRecDepth 100000
open Go.RowKit
set_option linter.unusedVariables false

theorem below_wz {p : Nat → Nat → Prop} {w w' : World} {B : Nat} (z : Wz p w w') (h : ∀ b, b < B → w'.heap[b]? = w.heap[b]?) : Below B w w' := ⟨z.os, z.tape, z.output, z.size, h⟩
theorem built_book : Tryz.prog.built 50 [] = some (bookCells 0 (.slice none 0 0) (.slice none 0 0) (.slice none 0 0)) := by kernel_rfl
theorem wpList_book {ops : Array Oper} {rest : List Oper} {o : Oper} {a : Act} {w : World} {Q : Exit → Act → World → Prop} (hg : o.guard = none) (ho : o.op = .build 50 #[])
    (h : wpList Tryz.prog ops Q rest (a.put o.dst (.agg (bookCells 0 (.slice none 0 0) (.slice none 0 0) (.slice none 0 0)))) w) : wpList Tryz.prog ops Q (o :: rest) a w := by
  exact wpList_build hg 50 #[] ho (by simp [built_book]) (by simpa [built_book] using h)
theorem new_book (w : World) : Bk (w.alloc (.cells (bookCells 0 (.slice none 0 0) (.slice none 0 0) (.slice none 0 0)) 50)) w.heap.size 0 (.slice none 0 0) (.slice none 0 0) (.slice none 0 0) := heap_alloc_new w _
theorem bo_start {w : World} {k base : Nat} (h : Bk w k 0 (.slice none 0 0) (.slice none 0 0) (.slice none 0 0)) : Bo w k base 0 0 (fun _ => ⟨none, 0, 0⟩) (fun _ => ⟨none, 0, 0⟩) (.slice none 0 0) (.slice none 0 0) :=
  ⟨h, own_nil _ _ _, own_nil _ _ _, fun q hq => by simp [Value.ownBlock] at hq, fun i hi => by omega, fun i hi => by omega, fun i j hi => by omega⟩

/-- The book in the telling; Tk: the blocks in which what was told lies. -/
structure Ow (w0 w : World) (k m : Nat) (Tk : Nat → Prop) : Prop where
  bo : ∃ E G v2 v3, Bo w k w0.heap.size m m E G v2 v3 ∧ ∀ l, l < m → ∀ b x, (E l).In b x → Tk b ∧ w0.heap.size ≤ b
  kl : w0.heap.size ≤ k
  fr : Below w0.heap.size w0 w
theorem Ow.below {w0 w w' : World} {k m : Nat} {Tk : Nat → Prop} (h : Ow w0 w k m Tk) (hb : Below w.heap.size w w') : Ow w0 w' k m Tk := by
  obtain ⟨E, G, v2, v3, hbo, ht⟩ := h.bo
  exact ⟨⟨E, G, v2, v3, hbo.below (Nat.le_refl _) hb, ht⟩, h.kl, bel_bel h.fr h.fr.size hb⟩
theorem Ow.weak {w0 w : World} {k m : Nat} {Tk Tk' : Nat → Prop} (h : Ow w0 w k m Tk) (ht : ∀ b, b < w.heap.size → Tk b → Tk' b) : Ow w0 w k m Tk' := by
  obtain ⟨E, G, v2, v3, hbo, hl⟩ := h.bo
  exact ⟨⟨E, G, v2, v3, hbo, fun l hi b x hx => ⟨ht b (ok_lt (hbo.e l hi).1 hx) (hl l hi b x hx).1, (hl l hi b x hx).2⟩⟩, h.kl, h.fr⟩
theorem ow_tell {w0 w : World} {k m : Nat} {Tk : Nat → Prop} (h : Ow w0 w k m Tk) (e : Ent) (zs : List Int) (ho : e.Ok w) (hn : e.n ≤ 5000) (hb : Bs w e.a e.n zs) (hf : ∀ b x, e.In b x → ¬ Tk b ∧ w0.heap.size ≤ b) (hm : m ≤ 999) :
    Calls Tryz.prog 9 #[.pointer (some ⟨k, 0, none⟩), .slice e.a e.n e.c] w fun en w' => en = .returned (.tuple #[]) ∧ Ow w0 w' k (m + 1) (fun b => Tk b ∨ ∃ x, e.In b x) ∧ Wz (fun _ _ => False) w w' := by
  obtain ⟨E, G, v2, v3, hbo, hl⟩ := h.bo
  refine (bookBytes5_ k w0.heap.size m E G v2 v3 e zs w hbo ho hn hb (fun i hi b x hx hx' => (hf b x hx').1 (hl i hi b x hx).1) hm h.fr.size h.kl).mono ?_
  rintro en w' ⟨rfl, ⟨f, v2', v3', hbo', _⟩, hz, hs⟩
  refine ⟨rfl, ⟨⟨_, _, v2', v3', hbo', fun l hl' b x hx => ?_⟩, h.kl, h.fr.trans (below_wz hz hs)⟩, hz⟩
  by_cases e1 : l = m
  · subst e1
    rw [upd_same] at hx
    exact ⟨.inr ⟨x, hx⟩, (hf b x hx).2⟩
  · rw [upd_other _ e1] at hx
    exact ⟨.inl (hl l (by omega) b x hx).1, (hl l (by omega) b x hx).2⟩
theorem ow_finish {w0 w : World} {k m : Nat} {Tk : Nat → Prop} (h : Ow w0 w k m Tk) (hm : m ≤ 1000) :
    Calls Tryz.prog 14 #[.pointer (some ⟨k, 0, none⟩)] w fun en w' => en = .returned (.bool true) ∧ Below w0.heap.size w0 w' := by
  obtain ⟨E, G, v2, v3, hbo, hl⟩ := h.bo
  refine (finish5_ k w0.heap.size m E G v2 v3 w hbo.bk hbo.t2 hbo.t3 (fun i hi => (hbo.g i hi).2) hbo.e hbo.d hm ⟨h.kl, h.fr.size, fun l hi b x hx => (hl l hi b x hx).2⟩).mono ?_
  rintro en w' ⟨rfl, hz, hs, _⟩
  exact ⟨rfl, h.fr.trans (below_wz hz hs)⟩
/-- A list in a block of its own. -/
structure En (w : World) (e : Ent) (zs : List Int) (lo hi : Nat) : Prop where
  ok : e.Ok w
  bs : Bs w e.a e.n zs
  lo : ∀ b x, e.In b x → lo ≤ b
  hi : ∀ b x, e.In b x → b < hi
theorem En.wz {w w' : World} {e : Ent} {zs : List Int} {lo hi : Nat} (h : En w e zs lo hi) (z : Wz (fun _ _ => False) w w') : En w' e zs lo hi := ⟨h.ok.wz z, bs_wz h.bs h.ok z fun _ _ _ h => h, h.lo, h.hi⟩
theorem En.below {w w' : World} {e : Ent} {zs : List Int} {lo hi : Nat} (h : En w e zs lo hi) (hb : Below w.heap.size w w') : En w' e zs lo hi := h.wz (.ofWk (.ofBelow hb))
theorem En.own {w : World} {base n : Nat} {v : Value} {zs : List Int} (h : w.ownsRow base 5 1 v n (cells zs)) (hb : ∀ z ∈ zs, 0 ≤ z ∧ z ≤ 255) (hn : n ≤ 5000) : ∃ a c, v = .slice a n c ∧ En w ⟨a, n, c⟩ zs base w.heap.size := by
  obtain ⟨a, c, rfl, h1, h2, h3⟩ := own_ent h hb (by omega)
  exact ⟨a, c, rfl, h1, h2, h3, fun b x hx => ok_lt h1 hx⟩
/-- A list that a call has made since W. -/
theorem En.vs {w : World} {B n c : Nat} {a : Option Addr} {zs : List Int} (h : Vs w (fun x => B ≤ x) a n c zs) (hn : n ≤ 5000) : En w ⟨a, n, c⟩ zs B w.heap.size := by
  have hk : Ent.Ok w ⟨a, n, c⟩ := ⟨h.nc, h.cm, by show n ≤ 100000; omega, h.nil, by
    rcases h.row with h0 | ⟨b, off, cur, e, h1, h2, _⟩
    · exact .inl h0
    · exact .inr ⟨b, off, cur, e, h1, h2⟩⟩
  refine ⟨hk, h.bs, fun b x hx => ?_, fun b x hx => ok_lt hk hx⟩
  obtain ⟨off, e, h3, h4⟩ := hx
  rcases h.row with h0 | ⟨b', off', cur, e', h1, h2, h5⟩
  · have h6 : x < off + c := h4
    omega
  · have e6 : a = some ⟨b, off, none⟩ := e
    rw [e6] at e'
    have e7 := Option.some.inj e'
    injection e7 with e8
    rw [e8]; exact h5
theorem lm_wz {p : Nat → Nat → Prop} {w w' : World} {g : Nat} {a : Option Addr} {m c : Nat} {S C N D E s n : Int} (h : Lm w g a m c S C N D E s n) (z : Wz p w w') (hp : ∀ i, ¬ p g i) : Lm w' g a m c S C N D E s n := by
  refine h.at (z.same g h.lt hp (fun cur fr hc => ?_) (fun cur fr hc => ?_))
  · unfold Lm at h
    rw [h] at hc
    simp at hc
  · unfold Lm at h
    rw [h] at hc
    simp at hc
theorem rm_wz {p : Nat → Nat → Prop} {w w' : World} {g m cap : Nat} {k : List Int} (h : Rm w g m cap k) (z : Wz p w w') (hp : ∀ i, ¬ p g i) : Rm w' g m cap k := by
  obtain ⟨cur, hc⟩ := h.blk
  have e := z.same g (Array.getElem?_eq_some_iff.1 hc).1 hp (fun cur2 fr q => by rw [hc] at q; simp at q) (fun cur2 fr q => by rw [hc] at q; simp at q)
  exact ⟨h.bs.same_block (fun ad q _ => by obtain rfl := Option.some.inj q; exact e), h.ce, h.mx, cur, e.trans hc⟩
/-- The book beside a lane with marks behind its key. -/
structure Os (w0 w : World) (k m pw g H m0 cap : Nat) (key : List Int) (S C N D E s n : Int) : Prop where
  ow : Ow w0 w k m (fun b => b < H ∧ b ≠ g ∧ b ≠ pw)
  lm : Lm w pw (some ⟨g, 0, none⟩) m0 cap S C N D E s n
  rm : Rm w g m0 cap key
  gH : g < H
  pH : pw < H
  wH : w0.heap.size ≤ H
  Hs : H ≤ w.heap.size
section
variable {w0 w w' : World} {k m pw g H m0 cap : Nat} {key : List Int} {S C N D E s n : Int}
theorem Os.on (h : Os w0 w k m pw g H m0 cap key S C N D E s n) (hb : Below w.heap.size w w') : Os w0 w' k m pw g H m0 cap key S C N D E s n :=
  ⟨h.ow.below hb, h.lm.kept hb, h.rm.on hb, h.gH, h.pH, h.wH, Nat.le_trans h.Hs hb.size⟩
theorem Os.tell (h : Os w0 w k m pw g H m0 cap key S C N D E s n) {e : Ent} {zs : List Int} {lo hi : Nat} (en : En w e zs lo hi) (hlo : H ≤ lo) (hhi : hi ≤ w.heap.size) (hle : H ≤ hi) (hn : e.n ≤ 5000) (hm : m ≤ 999) :
    Calls Tryz.prog 9 #[.pointer (some ⟨k, 0, none⟩), .slice e.a e.n e.c] w fun en' w' => en' = .returned (.tuple #[]) ∧ Os w0 w' k (m + 1) pw g hi m0 cap key S C N D E s n ∧ Wz (fun _ _ => False) w w' := by
  have hgH := h.gH
  have hpH := h.pH
  have hwH := h.wH
  refine (ow_tell h.ow e zs en.ok hn en.bs (fun b x hx => ⟨fun q => ?_, ?_⟩) hm).mono ?_
  · have := en.lo b x hx
    have := q.1
    omega
  · have := en.lo b x hx
    omega
  · rintro en' w' ⟨rfl, h1, h2⟩
    refine ⟨rfl, ⟨h1.weak (fun b hb q => ?_), lm_wz h.lm h2 (fun _ q => q), rm_wz h.rm h2 (fun _ q => q), by omega, by omega, by omega, Nat.le_trans hhi h2.size⟩, h2⟩
    rcases q with q | ⟨x, q⟩
    · exact ⟨by have := q.1; omega, q.2⟩
    · have h3 := en.lo b x q
      have h4 := en.hi b x q
      exact ⟨h4, by omega, by omega⟩
theorem Os.finish (h : Os w0 w k m pw g H m0 cap key S C N D E s n) (hm : m ≤ 1000) :
    Calls Tryz.prog 14 #[.pointer (some ⟨k, 0, none⟩)] w fun en w' => en = .returned (.bool true) ∧ Lm w' pw (some ⟨g, 0, none⟩) m0 cap S C N D E s n ∧ Rm w' g m0 cap key ∧ Below w0.heap.size w0 w' := by
  obtain ⟨E', G, v2, v3, hbo, hl⟩ := h.ow.bo
  refine (finish5_ k w0.heap.size m E' G v2 v3 w hbo.bk hbo.t2 hbo.t3 (fun i hi => (hbo.g i hi).2) hbo.e hbo.d hm ⟨h.ow.kl, h.ow.fr.size, fun l hi b x hx => (hl l hi b x hx).2⟩).mono ?_
  rintro en w' ⟨rfl, hz, hs, _⟩
  refine ⟨rfl, lm_wz h.lm hz (fun i q => ?_), rm_wz h.rm hz (fun i q => ?_), h.ow.fr.trans (below_wz hz hs)⟩
  · obtain ⟨l, hl1, hl2⟩ := q
    exact (hl l hl1 pw i hl2).1.2.2 rfl
  · obtain ⟨l, hl1, hl2⟩ := q
    exact (hl l hl1 g i hl2).1.2.1 rfl
end
end Go.Proofs.YtbkeejapongmlaaGreatDoor.Kp
