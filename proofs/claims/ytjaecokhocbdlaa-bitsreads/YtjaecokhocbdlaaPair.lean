import Derived.Test.YtjaecokhocbdlaaRefMore
namespace Go.Proofs.Ytjaecokhocbdlaa
open Go.RowKit
set_option linter.unusedVariables false

/-- Of the blocks that were there only those of p may have turned. -/
structure Fr (p : Nat → Prop) (w w' : World) : Prop where
  os : w'.os = w.os
  tape : w'.tape = w.tape
  output : w'.output = w.output
  size : w.heap.size ≤ w'.heap.size
  block : ∀ k, k < w.heap.size → ¬ p k → w'.heap[k]? = w.heap[k]?
theorem Fr.trans {p : Nat → Prop} {a b c : World} (h : Fr p a b) (k : Fr p b c) : Fr p a c :=
  ⟨k.os.trans h.os, k.tape.trans h.tape, k.output.trans h.output, Nat.le_trans h.size k.size, fun i hi hp => (k.block i (Nat.lt_of_lt_of_le hi h.size) hp).trans (h.block i hi hp)⟩
theorem Fr.refl (p : Nat → Prop) (w : World) : Fr p w w := ⟨rfl, rfl, rfl, Nat.le_refl _, fun _ _ _ => rfl⟩
theorem Fr.ofGrown {p : Nat → Prop} {w w' : World} {r : Nat} (h : w.grownBy w' (some r)) (hr : p r) : Fr p w w' :=
  ⟨h.os, h.tape, h.output, h.size, fun k hk hp => h.block k hk (fun e => hp (by obtain rfl := Option.some.inj e; exact hr))⟩
theorem Fr.ofOnly {p : Nat → Prop} {w w' : World} {r : Nat} (h : Only r w w') (hr : p r) : Fr p w w' := .ofGrown h.grown hr
theorem Fr.ofBelow {p : Nat → Prop} {w w' : World} (h : Below w.heap.size w w') : Fr p w w' := ⟨h.os, h.tape, h.output, h.size, fun k hk _ => h.block k hk⟩
theorem Fr.ofDrawn {p : Nat → Prop} {w w' : World} (h : Drawn w w') : Fr p w w' := .ofBelow h.below
theorem Fr.alloc (p : Nat → Prop) (w : World) (o : Obj) : Fr p w (w.alloc o) := .ofBelow ((Below.refl _ w).alloc (Nat.le_refl _) o)
theorem Fr.set {p : Nat → Prop} {w w' : World} (h : Fr p w w') {g i : Nat} (hg : p g) (v : Value) : Fr p w (w'.setCell ⟨g, i, none⟩ v) :=
  h.trans (.ofOnly ((Only.refl g w').set i v) hg)
theorem Fr.weak {p q : Nat → Prop} {w w' : World} (h : Fr p w w') (hq : ∀ k, p k → q k) : Fr q w w' := ⟨h.os, h.tape, h.output, h.size, fun k hk hn => h.block k hk fun hp => hn (hq k hp)⟩

/-- The document's reader over these bytes, which lie apart from P. -/
def Rf (w : World) (d : Nat) (P : Nat → Prop) (bs : List Int) (p e : Int) : Prop :=
  ∃ a n c, Rfc w d a n c p e ∧ Bs w a n bs ∧ n ≤ c ∧ c ≤ maxLen ∧ (n = 0 ∨ ∀ x, a = some x → ¬ P x.block)

theorem Bs.fr {p P : Nat → Prop} {w w' : World} {a : Option Addr} {n : Nat} {zs : List Int} (h : Bs w a n zs) (hf : Fr p w w') (hp : ∀ k, p k → P k) (ho : n = 0 ∨ ∀ x, a = some x → ¬ P x.block) : Bs w' a n zs := by
  refine ⟨h.1, h.2.1, ?_⟩
  rcases h.2.2 with h0 | ⟨b, off, rfl, hc⟩
  · exact .inl h0
  · rcases ho with h0 | ho
    · exact .inl h0
    · refine .inr ⟨b, off, rfl, fun i hi => ?_⟩
      exact (World.cell?_of_block (hf.block b (World.block_lt_of_cell? w _ (hc i hi)) fun hb => ho _ rfl (hp _ hb))).trans (hc i hi)
theorem Rf.fr {p P : Nat → Prop} {w w' : World} {d : Nat} {bs : List Int} {q e : Int} (h : Rf w d P bs q e) (hf : Fr p w w') (hp : ∀ k, p k → P k) (hd : ¬ p d) : Rf w' d P bs q e := by
  obtain ⟨a, n, c, h1, h2, h3, h4, h5⟩ := h
  exact ⟨a, n, c, h1.at (hf.block d h1.lt hd), h2.fr hf hp h5, h3, h4, h5⟩
theorem Rd.fr {p : Nat → Prop} {w w' : World} {r g : Nat} {zs : List Int} {q : Int} (h : Rd w r g zs q) (hf : Fr p w w') (hr : ¬ p r) (hg : ¬ p g) : Rd w' r g zs q :=
  h.kept (hf.block r h.lt hr) (fun hl => hf.block g hl hg)
theorem Rb.fr {p : Nat → Prop} {w w' : World} {r : Nat} {q e : Int} (h : Rb w r q e) (hf : Fr p w w') (hr : ¬ p r) : Rb w' r q e := h.kept (hf.block r h.lt hr)
theorem off_of {a : Option Addr} {n d : Nat} {P : Nat → Prop} (h : n = 0 ∨ ∀ x, a = some x → ¬ P x.block) (hd : P d) : Off a n (some d) := by
  rcases h with h | h
  · exact .inl h
  · exact .inr fun x hx e => h x hx (by rw [Option.some.inj e]; exact hd)
theorem Rf.upd {P : Nat → Prop} {w w' : World} {d : Nat} {bs : List Int} {q e q' e' : Int} {a : Option Addr} {n c : Nat} (h2 : Bs w a n bs) (h3 : n ≤ c) (h4 : c ≤ maxLen) (h5 : n = 0 ∨ ∀ x, a = some x → ¬ P x.block) (hd : P d) (h : Rfc w' d a n c q' e') (hg : w.grownBy w' (some d)) : Rf w' d P bs q' e' :=
  ⟨a, n, c, h, h2.kept hg (off_of h5 hd), h3, h4, h5⟩

theorem rnum_w (d : Nat) (P : Nat → Prop) (hd : P d) (bs : List Int) (w : World) (p W : Nat) (h : Rf w d P bs p 0) (hl : bs.length ≤ 1000000) (hW : W ≤ 8) (hs : p + W ≤ bs.length) :
    Calls Try.prog 34 #[.pointer (some ⟨d, 0, none⟩), .int .i64 W] w fun en w' => en = .returned (.int .u64 (val ((bs.drop p).take W))) ∧ Rf w' d P bs (p + W) 0 ∧ Only d w w' := by
  obtain ⟨a, n, c, h1, h2, h3, h4, h5⟩ := h
  have e := h2.1
  refine (num_whole d n c p W a bs w h1 h2 (by omega) hW (by omega)).mono ?_
  rintro en w' ⟨rfl, r1, r2⟩
  exact ⟨rfl, Rf.upd (q := 0) (e := 0) h2 h3 h4 h5 hd r1 r2.grown, r2⟩
theorem rnum_s (d : Nat) (P : Nat → Prop) (hd : P d) (bs : List Int) (w : World) (p W : Nat) (h : Rf w d P bs p 0) (hl : bs.length ≤ 1000000) (hW : W ≤ 8) (hp : p ≤ bs.length) (hs : bs.length < p + W) :
    Calls Try.prog 34 #[.pointer (some ⟨d, 0, none⟩), .int .i64 W] w fun en w' => en = .returned (.int .u64 0) ∧ Rf w' d P bs p 10 ∧ Only d w w' := by
  obtain ⟨a, n, c, h1, h2, h3, h4, h5⟩ := h
  have e := h2.1
  refine (num_short d n c p W a w h1 (by omega) (by omega) hW (by omega)).mono ?_
  rintro en w' ⟨rfl, r1, r2⟩
  exact ⟨rfl, Rf.upd (q := 0) (e := 0) h2 h3 h4 h5 hd r1 r2.grown, r2⟩
theorem rnum_b (d : Nat) (P : Nat → Prop) (hd : P d) (bs : List Int) (w : World) (p e m : Int) (h : Rf w d P bs p e) (he : (e != 0) = true) :
    Calls Try.prog 34 #[.pointer (some ⟨d, 0, none⟩), .int .i64 m] w fun en w' => en = .returned (.int .u64 0) ∧ w' = w := by
  obtain ⟨a, n, c, h1, h2, h3, h4, h5⟩ := h
  exact num_broken d n c a p e m w h1 he
theorem rleft_w (d : Nat) (P : Nat → Prop) (hd : P d) (bs : List Int) (w : World) (p L : Nat) (h : Rf w d P bs p 0) (hl : bs.length ≤ 1000000) (hL : p + L = bs.length) :
    Calls Try.prog 39 #[.pointer (some ⟨d, 0, none⟩)] w fun en w' => en = .returned (.int .i64 L) ∧ Drawn w w' := by
  obtain ⟨a, n, c, h1, h2, h3, h4, h5⟩ := h
  have e := h2.1
  exact rleft_whole d n c p L a w h1 (by omega) (by omega) (by omega)
theorem rleft_b (d : Nat) (P : Nat → Prop) (hd : P d) (bs : List Int) (w : World) (p e : Int) (h : Rf w d P bs p e) (he : (e != 0) = true) :
    Calls Try.prog 39 #[.pointer (some ⟨d, 0, none⟩)] w fun en w' => en = .returned (.int .i64 0) ∧ w' = w := by
  obtain ⟨a, n, c, h1, h2, h3, h4, h5⟩ := h
  exact rleft_broken d n c a p e w h1 he
theorem rbytes_w (d : Nat) (P : Nat → Prop) (hd : P d) (bs : List Int) (w : World) (p m : Nat) (h : Rf w d P bs p 0) (hl : bs.length ≤ 1000000) (hs : p + m ≤ bs.length) :
    Calls Try.prog 37 #[.pointer (some ⟨d, 0, none⟩), .int .i64 m] w fun en w' => ∃ a2 c2, en = .returned (.slice a2 m c2) ∧ Bs w' a2 m ((bs.drop p).take m) ∧ Rf w' d P bs (p + m) 0 ∧ w.grownBy w' (some d) := by
  obtain ⟨a, n, c, h1, h2, h3, h4, h5⟩ := h
  have e := h2.1
  refine (rbytes_whole d n c p m a bs w h1 h2 h3 (by omega) (by omega) h4 (off_of h5 hd)).mono ?_
  rintro en w' ⟨a2, c2, rfl, r1, r2, r3⟩
  exact ⟨a2, c2, rfl, r1, Rf.upd (q := 0) (e := 0) h2 h3 h4 h5 hd r2 r3, r3⟩
theorem rbytes_n (d : Nat) (P : Nat → Prop) (hd : P d) (bs : List Int) (w : World) (p : Nat) (m q : Int) (h : Rf w d P bs p 0) (hl : bs.length ≤ 1000000) (hp : p ≤ bs.length) (hm : Brk m (bs.length - p) q) :
    Calls Try.prog 37 #[.pointer (some ⟨d, 0, none⟩), .int .i64 m] w fun en w' => en = .returned (.slice none 0 0) ∧ Rf w' d P bs p q ∧ Only d w w' := by
  obtain ⟨a, n, c, h1, h2, h3, h4, h5⟩ := h
  have e := h2.1
  refine (rbytes_no d n c p a m q w h1 (by omega) (by omega) (by rw [← e]; exact hm)).mono ?_
  rintro en w' ⟨rfl, r1, r2⟩
  exact ⟨rfl, Rf.upd (q := 0) (e := 0) h2 h3 h4 h5 hd r1 r2.grown, r2⟩
theorem rbytes_b (d : Nat) (P : Nat → Prop) (hd : P d) (bs : List Int) (w : World) (p e m : Int) (h : Rf w d P bs p e) (he : (e != 0) = true) :
    Calls Try.prog 37 #[.pointer (some ⟨d, 0, none⟩), .int .i64 m] w fun en w' => en = .returned (.slice none 0 0) ∧ w' = w := by
  obtain ⟨a, n, c, h1, h2, h3, h4, h5⟩ := h
  exact rbytes_broken d n c a p e m w h1 he
theorem rzeros_w (d : Nat) (P : Nat → Prop) (hd : P d) (bs : List Int) (w : World) (p m : Nat) (h : Rf w d P bs p 0) (hl : bs.length ≤ 1000000) (hs : p + m ≤ bs.length) (hz : Zs (bs.drop p) m) :
    Calls Try.prog 38 #[.pointer (some ⟨d, 0, none⟩), .int .i64 m] w fun en w' => en = .returned (.tuple #[]) ∧ Rf w' d P bs (p + m) 0 ∧ Only d w w' := by
  obtain ⟨a, n, c, h1, h2, h3, h4, h5⟩ := h
  have e := h2.1
  refine (rzeros_whole d n c p m a bs w h1 h2 (by omega) (by omega) hz).mono ?_
  rintro en w' ⟨rfl, r1, r2⟩
  exact ⟨rfl, Rf.upd (q := 0) (e := 0) h2 h3 h4 h5 hd r1 r2.grown, r2⟩
theorem rzeros_x (d : Nat) (P : Nat → Prop) (hd : P d) (bs : List Int) (w : World) (p m k : Nat) (h : Rf w d P bs p 0) (hl : bs.length ≤ 1000000) (hs : p + m ≤ bs.length) (hz : Zs (bs.drop p) k) (hk : k < m) (hne : (bs.drop p).getD k 0 ≠ 0) :
    Calls Try.prog 38 #[.pointer (some ⟨d, 0, none⟩), .int .i64 m] w fun en w' => en = .returned (.tuple #[]) ∧ Rf w' d P bs (p + k) 11 ∧ Only d w w' := by
  obtain ⟨a, n, c, h1, h2, h3, h4, h5⟩ := h
  have e := h2.1
  refine (rzeros_bad d n c p m k a bs w h1 h2 (by omega) (by omega) hz hk hne).mono ?_
  rintro en w' ⟨rfl, r1, r2⟩
  exact ⟨rfl, Rf.upd (q := 0) (e := 0) h2 h3 h4 h5 hd r1 r2.grown, r2⟩
theorem rzeros_n (d : Nat) (P : Nat → Prop) (hd : P d) (bs : List Int) (w : World) (p : Nat) (m q : Int) (h : Rf w d P bs p 0) (hl : bs.length ≤ 1000000) (hp : p ≤ bs.length) (hm : Brk m (bs.length - p) q) :
    Calls Try.prog 38 #[.pointer (some ⟨d, 0, none⟩), .int .i64 m] w fun en w' => en = .returned (.tuple #[]) ∧ Rf w' d P bs p q ∧ Only d w w' := by
  obtain ⟨a, n, c, h1, h2, h3, h4, h5⟩ := h
  have e := h2.1
  refine (rzeros_no d n c p a m q w h1 (by omega) (by omega) (by rw [← e]; exact hm)).mono ?_
  rintro en w' ⟨rfl, r1, r2⟩
  exact ⟨rfl, Rf.upd (q := 0) (e := 0) h2 h3 h4 h5 hd r1 r2.grown, r2⟩
theorem rzeros_b (d : Nat) (P : Nat → Prop) (hd : P d) (bs : List Int) (w : World) (p e m : Int) (h : Rf w d P bs p e) (he : (e != 0) = true) :
    Calls Try.prog 38 #[.pointer (some ⟨d, 0, none⟩), .int .i64 m] w fun en w' => en = .returned (.tuple #[]) ∧ w' = w := by
  obtain ⟨a, n, c, h1, h2, h3, h4, h5⟩ := h
  exact rzeros_broken d n c a p e m w h1 he
/-- A reader whose rest lies from 'lo' on. -/
def RdF (w : World) (r g lo : Nat) (zs : List Int) (p : Int) : Prop := g ≠ r ∧ ∃ a n c, Rdr w r a n c p 0 ∧ Lies w g a n c zs ∧ (n = 0 ∨ ∀ x, a = some x → lo ≤ x.off)
theorem RdF.rd {w : World} {r g lo : Nat} {zs : List Int} {p : Int} (h : RdF w r g lo zs p) : Rd w r g zs p := by
  obtain ⟨h1, a, n, c, h2, h3, _⟩ := h; exact ⟨h1, a, n, c, h2, h3⟩
theorem RdF.poke {w : World} {r g lo : Nat} {zs : List Int} {p : Int} (h : RdF w r g lo zs p) (i : Nat) (hi : i < lo) (v : Value) : RdF (w.setCell ⟨g, i, none⟩ v) r g lo zs p := by
  obtain ⟨h1, a, n, c, h2, h3, h4⟩ := h
  refine ⟨h1, a, n, c, ?_, ?_, h4⟩
  · unfold Rdr; rw [Below.heap_setCell w _ _ r (fun e => h1 e.symm)]; exact h2
  · obtain ⟨e1, e2, e3, e4, e5⟩ := h3
    refine ⟨e1, e2, e3, e4, ?_⟩
    rcases e5 with e5 | ⟨off, cur, rfl, hg, hs, ht⟩
    · exact .inl e5
    · refine .inr ⟨off, cur.setIfInBounds i v, rfl, by simp [World.setCell, Array.getElem?_modify, hg], by simpa using hs, ?_⟩
      rw [← ht, Array.toList_setIfInBounds]
      rcases h4 with h4 | h4
      · rw [h4]; simp
      · have := h4 _ rfl
        rw [List.drop_set_of_lt (by simp at this; omega)]

theorem bytes_f (r g m : Nat) (zs : List Int) (p : Int) (w : World) (h : Rd w r g zs p) (hm : m ≤ zs.length) (hn : zs.length ≤ 1000000000) (hp : 0 ≤ p) (hp1 : p ≤ 1000000000) :
    Calls Try.prog 22 #[.pointer (some ⟨r, 0, none⟩), .int .i64 m] w fun en w' => ∃ a, en = .returned (.slice a m m) ∧ Lies w' g a m m (zs.take m) ∧ (m = 0 ∨ ∃ off, a = some ⟨g, off, none⟩ ∧ RdF w' r g (off + m) (zs.drop m) (p + m)) ∧ Rd w' r g (zs.drop m) (p + m) ∧ Only r w w' := by
  by_cases h0 : m = 0
  · refine (bytes_whole r g m zs p w h hm hn hp hp1).mono ?_
    rintro en w' ⟨a, rfl, h1, h2, h3⟩
    exact ⟨a, rfl, h1, .inl h0, h2, h3⟩
  · obtain ⟨hgr, a, n, c, hr, hl⟩ := h
    obtain ⟨e1, e2, e3, _, e5⟩ := id hl
    rcases e5 with ⟨_, e, _⟩ | ⟨off, cur, rfl, _⟩
    · omega
    go_enter Try.func22, Try.ntmps22
    go_wp2_with (go_at_call 41; refine (take_ok r n c m g off p _ hr (by omega) e2 e3 (by omega) hp hp1).mono ?_; rintro en w1 ⟨rfl, hr', ho⟩; have H := hid hr'; clear hr')
    have hk : g < w.heap.size → w1.heap[g]? = w.heap[g]? := fun _ => ho.block g hgr
    have hrest : RdF w1 r g (off + m) (zs.drop m) (p + m) := ⟨hgr, _, _, _, H.out, (hl.rest (by omega)).kept hk, by
      by_cases hc : c = m
      · exact .inl (by omega)
      · refine .inr fun x hx => ?_
        rw [if_neg hc] at hx
        obtain rfl := Option.some.inj hx
        exact Nat.le_refl _⟩
    have L := hid ((hl.cut (m := m) (by omega)).kept hk)
    go_ret
    exact ⟨_, rfl, L.out, .inr ⟨off, rfl, hrest⟩, hrest.rd, ho⟩
end Go.Proofs.Ytjaecokhocbdlaa
