import Derived.Test.YtnmklleoilicdaaUI
namespace Go.Proofs.Ytnmklleoilicdaa
set_option maxRecDepth 100000
open Go.RowKit Go.Shelf Go.Maps
set_option linter.unusedVariables false

theorem enc_len_of : ∀ (l : List Sx), allMay l = true → (enc l).length ≤ 524 * l.length
  | [], _ => by simp [enc]
  | s :: l, h => by
    have h' : mayS s = true ∧ allMay l = true := by simpa [allMay] using h
    have ih := enc_len_of l h'.2
    have e : enc (s :: l) = enc1 s ++ enc l := by simp [enc]
    rw [e, List.length_append, enc1_len, List.length_cons]
    have := mayS_key h'.1
    have := mayS_val h'.1
    omega
theorem asS_len (M : Tab) : (asS M).length = M.length := by simp [asS]
set_option maxHeartbeats 1000000 in
theorem built_ (U : Nat → Prop) (a : Option Addr) (n c : Nat) (l : List Sx) (w : World) (h : Sl w U a n l) (hn : n ≤ 100000) (hm : allMay l = true) :
    Calls Try.prog 22 #[.slice a n c] w fun e w' => ∃ t b, e = .returned (.tuple #[.pointer (some ⟨t, 0, none⟩), .bool true]) ∧ Tw w' t b (fun x => w.heap.size ≤ x) (doAll [] l) ∧ w.heap.size ≤ b ∧ w.heap.size ≤ t ∧ Below w.heap.size w w' := by
  have k1 := new_ w
  have kn := fun x wx => num_ x wx
  have HL := hid h
  clear h
  go_enter Try.func22, Try.ntmps22
  go_wp2_with fail
  refine k1.mono ?_
  rintro e w1 ⟨t, b, rfl, t1, hb1, ht1, g1⟩
  have k2 := s_apply (w0 := w) (M' := doAll [] l) a n c l g1 hb1 (t1.wide (fun _ _ h => h.elim)) (U := U) (HL.out.below g1) (by omega) (by simp) hm rfl
  have HB := hid hb1
  have HT := hid ht1
  clear k1 t1 g1 hb1 ht1
  go_wp2_with fail
  refine k2.mono ?_
  rintro e w2 ⟨rfl, t2, g2, _⟩
  have HT2 := hid t2
  have HG2 := hid g2
  clear k2 t2 g2
  go_wp2_with fail
  refine (kn _ _).mono ?_
  rintro e wy ⟨rfl, hw⟩
  rw [hw]
  clear hw wy
  go_wp2_with fail
  go_ret2
  exact ⟨t, b, rfl, HT2.out, HB.out, HT.out, HG2.out⟩
theorem s_fit {w0 w : World} (U : Nat → Prop) (a : Option Addr) (n c N : Nat) (l : List Sx) (B : Below w0.heap.size w0 w) (h : Sl w U a n l) (hU : ∀ x, U x → x < w0.heap.size) (hn : n ≤ maxLen) (hN : N ≤ 100000) :
    Calls Try.prog 23 #[.slice a n c, .int .i64 N] w fun e w' => ∃ a' c', e = .returned (.slice a' (fitL l N).length c') ∧ Sl w' (fun x => U x ∨ w0.heap.size ≤ x) a' (fitL l N).length (fitL l N) ∧ Below w0.heap.size w0 w' ∧ Below w.heap.size w w' := by
  have hs := B.size
  refine (fit_ U a n c N l w h (fun x hx => Nat.lt_of_lt_of_le (hU x hx) hs) hn hN).mono ?_
  rintro e w1 ⟨a', m, c', rfl, h1, _, _, _, g⟩
  obtain rfl := h1.len
  exact ⟨a', c', rfl, h1.wide (fun x _ hx => hx.imp id fun h => Nat.le_trans hs h), bel_bel B hs g, g⟩
theorem s_built {w0 w : World} (U : Nat → Prop) (a : Option Addr) (n c : Nat) (l : List Sx) (B : Below w0.heap.size w0 w) (h : Sl w U a n l) (hn : n ≤ 100000) (hm : allMay l = true) :
    Calls Try.prog 22 #[.slice a n c] w fun e w' => ∃ t b, e = .returned (.tuple #[.pointer (some ⟨t, 0, none⟩), .bool true]) ∧ Tw w' t b (Up w0) (doAll [] l) ∧ w.heap.size ≤ b ∧ w.heap.size ≤ t ∧ Below w0.heap.size w0 w' ∧ Below w.heap.size w w' := by
  have hs := B.size
  refine (built_ U a n c l w h hn hm).mono ?_
  rintro e w1 ⟨t, b, rfl, t1, h1, h2, g⟩
  exact ⟨t, b, rfl, t1.wide (fun x _ hx => Nat.le_trans hs hx), h1, h2, bel_bel B hs g, g⟩
theorem s_bytes {w0 w : World} {t b : Nat} {V : Nat → Prop} {M : Tab} (zs : List Int) (m : Nat) (B : Below w0.heap.size w0 w) (h : Tw w t b V M) (hML : M.length ≤ 100000000) (hz : enc (asS M) = zs) (hm : zs.length = m) :
    Calls Try.prog 27 #[.pointer (some ⟨t, 0, none⟩)] w fun e w' => ∃ a c, e = .returned (.slice a m c) ∧ Vs w' (Up w0) a m c zs ∧ Below w0.heap.size w0 w' ∧ Below w.heap.size w w' := by
  have hs := B.size
  refine (bytes_ t b V M w h hML).mono ?_
  rintro e w1 ⟨v, rfl, o, g⟩
  subst hz hm
  obtain ⟨a', c', rfl, vs⟩ := Vs.ofOwn o (enc_byte (asS_byte h.tok))
  exact ⟨a', c', rfl, vs.wide fun z _ hz => Nat.le_trans hs hz, bel_bel B hs g, g⟩
theorem s_from {w0 w : World} {V : Nat → Prop} {a : Option Addr} {n c : Nat} {zs : List Int} {M : Tab} (B : Below w0.heap.size w0 w) (h : Vs w V a n c zs) (hn : n ≤ 5000000) (hM : fb zs = some M) :
    Calls Try.prog 18 #[.slice a n c] w fun e w' => ∃ t b, e = .returned (.tuple #[.pointer (some ⟨t, 0, none⟩), .int .i64 0]) ∧ Tw w' t b (Up w0) M ∧ w.heap.size ≤ b ∧ Below w0.heap.size w0 w' ∧ Below w.heap.size w w' := by
  have hs := B.size
  refine (fromBytes_ a n c zs w h.bs h.nil h.nc hn).mono ?_
  rintro e w1 (⟨M', t, b, hM', rfl, t1, h1, h2, g⟩ | ⟨f, _⟩)
  · obtain rfl := Option.some.inj (hM.symm.trans hM')
    exact ⟨t, b, rfl, t1.wide (fun x _ hx => Nat.le_trans hs hx), h1, bel_bel B hs g, g⟩
  · rw [hM] at f; cases f
theorem s_gets {w0 w : World} {V : Nat → Prop} {a : Option Addr} {n c : Nat} {zs : List Int} {l : List Sx} (m : Nat) (B : Below w0.heap.size w0 w) (h : Vs w V a n c zs) (hn : n ≤ 5000000) (hl : gs zs = some l) (hm : l.length = m) :
    Calls Try.prog 46 #[.slice a n c] w fun e w' => ∃ a' c', e = .returned (.tuple #[.slice a' m c', .int .i64 0]) ∧ Sl w' (Up w0) a' m l ∧ Below w0.heap.size w0 w' ∧ Below w.heap.size w w' := by
  have hs := B.size
  refine (getSets_ a n c zs w h.bs h.nil h.nc hn).mono ?_
  rintro e w1 (⟨l', a', m', c', hl', rfl, s1, _, _, _, g⟩ | ⟨f, _⟩)
  · obtain rfl := Option.some.inj (hl.symm.trans hl')
    obtain rfl := s1.len
    subst hm
    exact ⟨a', c', rfl, s1.wide (fun x _ hx => Nat.le_trans hs hx), bel_bel B hs g, g⟩
  · rw [hl] at f; cases f
theorem s_getsNo {w0 w : World} {V : Nat → Prop} {a : Option Addr} {n c : Nat} {zs : List Int} (B : Below w0.heap.size w0 w) (h : Vs w V a n c zs) (hn : n ≤ 5000000) (hl : gs zs = none) :
    Calls Try.prog 46 #[.slice a n c] w fun e w' => e = .returned (.tuple #[.slice none 0 0, .int .i64 114]) ∧ Below w0.heap.size w0 w' ∧ Below w.heap.size w w' := by
  have hs := B.size
  refine (getSets_ a n c zs w h.bs h.nil h.nc hn).mono ?_
  rintro e w1 (⟨l', a', m', c', hl', _⟩ | ⟨_, rfl, g⟩)
  · rw [hl] at hl'; cases hl'
  · exact ⟨rfl, bel_bel B hs g, g⟩
theorem s_sameB {w0 w : World} {a b : Option Addr} {n m : Nat} (c d : Nat) {xs ys : List Int} (q : Bool) (B : Below w0.heap.size w0 w) (h1 : Bs w a n xs) (h2 : Bs w b m ys) (hn : n ≤ 1000000000) (hm : m ≤ 1000000000) (hq : decide (xs = ys) = q) :
    Calls Try.prog 12 #[.slice a n c, .slice b m d] w fun e w' => e = .returned (.bool q) ∧ Below w0.heap.size w0 w' ∧ Below w.heap.size w w' := by
  refine (same_d a b n c m d xs ys w h1 h2 (by unfold maxLen; omega) (by unfold maxLen; omega)).mono ?_
  rintro e w' ⟨rfl, g⟩
  subst hq
  exact ⟨rfl, bel_bel B B.size g.below, g.below⟩
end Go.Proofs.Ytnmklleoilicdaa
