import Derived.Test.YtghehfhkiknjhaaBRdr
namespace Go.Proofs.Ytghehfhkiknjhaa
set_option maxRecDepth 100000
open Go.RowKit
set_option linter.unusedVariables false

set_option maxHeartbeats 400000 in
theorem fail_ (r n c : Nat) (a : Option Addr) (p e q : Int) (w : World) (h : Rdr w r a n c p e) :
    Calls Try.prog 95 #[.pointer (some ⟨r, 0, none⟩), .int .i64 q] w fun en w' => en = .returned (.tuple #[]) ∧ Rdr w' r none 0 0 p q ∧ Only r w w' := by
  have h0 := h.c0
  have h2 := h.c2
  have f0 := h.fz 0
  have f2 := h.fz 2
  have HR := hid (((h.set2 q).set0 none 0 0))
  have HO := hid (((Only.refl r w).set 2 (.int .i64 q)).set 0 (.slice none 0 0))
  clear h
  go_enter Try.func95, Try.ntmps95
  go_wp2
  go_end0
  exact ⟨rfl, HR.out, HO.out⟩

set_option maxHeartbeats 400000 in
theorem take_broken (r n c : Nat) (a : Option Addr) (p e m : Int) (w : World) (h : Rdr w r a n c p e) (he : (e != 0) = true) :
    Calls Try.prog 83 #[.pointer (some ⟨r, 0, none⟩), .int .i64 m] w fun en w' => en = .returned (.slice none 0 0) ∧ w' = w := by
  have h2 := h.c2
  clear h
  go_enter Try.func83, Try.ntmps83
  go_wp2
  go_ret
  exact ⟨rfl, rfl⟩

set_option maxHeartbeats 400000 in
theorem take_range (r n c : Nat) (a : Option Addr) (p m : Int) (w : World) (h : Rdr w r a n c p 0) (hm : m < 0) :
    Calls Try.prog 83 #[.pointer (some ⟨r, 0, none⟩), .int .i64 m] w fun en w' => en = .returned (.slice none 0 0) ∧ Rdr w' r none 0 0 p 11 ∧ Only r w w' := by
  have h2 := h.c2
  go_enter Try.func83, Try.ntmps83
  go_wp2_with (go_at_call 95; refine (fail_ r n c a p 0 11 _ h).mono ?_; rintro en w1 ⟨rfl, hr, ho⟩)
  go_ret
  exact ⟨rfl, hr, ho⟩

set_option maxHeartbeats 400000 in
theorem take_short (r n c : Nat) (a : Option Addr) (p m : Int) (w : World) (h : Rdr w r a n c p 0) (hm : 0 ≤ m) (hs : (n : Int) < m) :
    Calls Try.prog 83 #[.pointer (some ⟨r, 0, none⟩), .int .i64 m] w fun en w' => en = .returned (.slice none 0 0) ∧ Rdr w' r none 0 0 p 10 ∧ Only r w w' := by
  have h0 := h.c0
  have h2 := h.c2
  go_enter Try.func83, Try.ntmps83
  go_wp2_with (go_at_call 95; refine (fail_ r n c a p 0 10 _ h).mono ?_; rintro en w1 ⟨rfl, hr, ho⟩)
  go_ret
  exact ⟨rfl, hr, ho⟩

set_option maxHeartbeats 400000 in
theorem take_ok (r n c m : Nat) (b off : Nat) (p : Int) (w : World) (h : Rdr w r (some ⟨b, off, none⟩) n c p 0) (hm : m ≤ n) (hc : n ≤ c) (hl : c ≤ maxLen) (hn : n ≤ 1000000000) (hp : 0 ≤ p) (hp1 : p ≤ 1000000000) :
    Calls Try.prog 83 #[.pointer (some ⟨r, 0, none⟩), .int .i64 m] w fun en w' => en = .returned (.slice (some ⟨b, off, none⟩) m m) ∧ Rdr w' r (some ⟨b, (if c = m then off else off + m), none⟩) (n - m) (c - m) (p + m) 0 ∧ Only r w w' := by
  unfold maxLen at hl
  have h0 := h.c0
  have h1 := h.c1
  have h2 := h.c2
  have f0 := h.fz 0
  have f1 := h.fz 1
  have i0 : (0 : Int) ≤ (m : Int) := by omega
  have i1 : (m : Int) ≤ (n : Int) := by omega
  have i2 : (n : Int) ≤ (c : Int) := by omega
  have i3 : (m : Int) ≤ (c : Int) := by omega
  have HR : Hid (∀ o' n' c' : Nat, Rdr ((w.setCell ⟨r, 0, none⟩ (.slice (some ⟨b, o', none⟩) n' c')).setCell ⟨r, 1, none⟩ (.int .i64 (p + m))) r (some ⟨b, o', none⟩) n' c' (p + m) 0) := fun o' n' c' => (h.set0 _ _ _).set1 _
  have HO : Hid (∀ v u : Value, Only r w ((w.setCell ⟨r, 0, none⟩ v).setCell ⟨r, 1, none⟩ u)) := fun v u => ((Only.refl r w).set 0 v).set 1 u
  clear h
  go_enter Try.func83, Try.ntmps83
  go_wp2
  all_goals
    go_ret
    exact ⟨rfl, HR.out _ _ _, HO.out _ _⟩

set_option maxHeartbeats 400000 in
theorem take_nil (r : Nat) (p : Int) (w : World) (h : Rdr w r none 0 0 p 0) (hp : 0 ≤ p) (hp1 : p ≤ 1000000000) :
    Calls Try.prog 83 #[.pointer (some ⟨r, 0, none⟩), .int .i64 0] w fun en w' => en = .returned (.slice none 0 0) ∧ Rdr w' r none 0 0 p 0 ∧ Only r w w' := by
  have h0 := h.c0
  have h1 := h.c1
  have h2 := h.c2
  have f0 := h.fz 0
  have f1 := h.fz 1
  have HR := hid ((h.set0 none 0 0).set1 p)
  have HO := hid (((Only.refl r w).set 0 (.slice none 0 0)).set 1 (.int .i64 p))
  clear h
  go_enter Try.func83, Try.ntmps83
  go_wp2
  go_ret
  exact ⟨rfl, HR.out, HO.out⟩

theorem take_whole (r g m : Nat) (zs : List Int) (p : Int) (w : World) (h : Rd w r g zs p) (hm : m ≤ zs.length) (hn : zs.length ≤ 1000000000) (hp : 0 ≤ p) (hp1 : p ≤ 1000000000) :
    Calls Try.prog 83 #[.pointer (some ⟨r, 0, none⟩), .int .i64 m] w fun en w' => ∃ a, en = .returned (.slice a m m) ∧ Lies w' g a m m (zs.take m) ∧ Rd w' r g (zs.drop m) (p + m) ∧ Only r w w' := by
  obtain ⟨hgr, a, n, c, hr, hl⟩ := h
  obtain ⟨e1, e2, e3, _⟩ := id hl
  cases a with
  | none =>
    obtain ⟨_, rfl, rfl⟩ : (none : Option Addr) = none ∧ n = 0 ∧ c = 0 := by
      rcases hl.2.2.2.2 with h | ⟨_, _, h, _⟩
      · exact h
      · cases h
    obtain rfl : m = 0 := by omega
    refine (take_nil r p w hr hp hp1).mono ?_
    rintro en w' ⟨rfl, hr', ho⟩
    have hk : g < w.heap.size → w'.heap[g]? = w.heap[g]? := fun _ => ho.block g hgr
    obtain rfl : zs = [] := List.eq_nil_of_length_eq_zero (by omega)
    exact ⟨none, rfl, (hl.kept hk), ⟨hgr, none, 0, 0, by simpa using hr', hl.kept hk⟩, ho⟩
  | some x =>
    obtain ⟨off, rfl⟩ : ∃ off, x = ⟨g, off, none⟩ := by
      rcases hl.2.2.2.2 with ⟨h, _⟩ | ⟨off, _, h, _⟩
      · cases h
      · exact ⟨off, Option.some.inj h⟩
    refine (take_ok r n c m g off p w hr (by omega) e2 e3 (by omega) hp hp1).mono ?_
    rintro en w' ⟨rfl, hr', ho⟩
    have hk : g < w.heap.size → w'.heap[g]? = w.heap[g]? := fun _ => ho.block g hgr
    exact ⟨_, rfl, (hl.cut (by omega)).kept hk, ⟨hgr, _, _, _, hr', (hl.rest (by omega)).kept hk⟩, ho⟩

theorem take_breaks (r g : Nat) (m q : Int) (zs : List Int) (p : Int) (w : World) (h : Rd w r g zs p) (hm : Brk m zs.length q) :
    Calls Try.prog 83 #[.pointer (some ⟨r, 0, none⟩), .int .i64 m] w fun en w' => en = .returned (.slice none 0 0) ∧ Rb w' r p q ∧ Only r w w' := by
  obtain ⟨hgr, a, n, c, hr, hl⟩ := h
  rcases hm with ⟨h0, rfl⟩ | ⟨h0, h1, rfl⟩
  · refine (take_range r n c a p m w hr h0).mono ?_
    rintro en w' ⟨rfl, hr', ho⟩
    exact ⟨rfl, ⟨hr', rfl⟩, ho⟩
  · refine (take_short r n c a p m w hr (by omega) (by have := hl.1; omega)).mono ?_
    rintro en w' ⟨rfl, hr', ho⟩
    exact ⟨rfl, ⟨hr', rfl⟩, ho⟩

end Go.Proofs.Ytghehfhkiknjhaa
