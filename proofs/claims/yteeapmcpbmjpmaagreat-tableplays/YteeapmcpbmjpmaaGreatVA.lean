import Derived.Test.YteeapmcpbmjpmaaGreatUH
namespace Go.Proofs.YteeapmcpbmjpmaaGreat
set_option maxRecDepth 100000
open Go.RowKit Go.Shelf Go.Maps
set_option linter.unusedVariables false

def fitL (l : List Sx) (N : Nat) : List Sx := (l.filter mayS).take N
theorem cell_blk {w : World} {b o : Nat} {v : Value} (h : w.cell? ⟨b, o, none⟩ = some v) : b < w.heap.size := by
  rcases Nat.lt_or_ge b w.heap.size with h' | h'
  · exact h'
  · simp [World.cell?, Array.getElem?_eq_none h'] at h
theorem fitL_may (l : List Sx) (N : Nat) : allMay (fitL l N) = true := by
  unfold allMay fitL
  rw [List.all_eq_true]
  intro s hs
  exact (List.mem_filter.1 (List.mem_of_mem_take hs)).2
theorem fitL_len (l : List Sx) (N : Nat) : (fitL l N).length ≤ N := by unfold fitL; simp; omega
theorem fitL_mem {l : List Sx} {N : Nat} {s : Sx} (h : s ∈ fitL l N) : s ∈ l := (List.mem_filter.1 (List.mem_of_mem_take h)).1
theorem fitL_full {l : List Sx} {N k : Nat} (h : ((l.take k).filter mayS).length = N) : fitL l N = (l.take k).filter mayS := by
  unfold fitL
  conv => lhs; rw [← List.take_append_drop k l, List.filter_append]
  rw [List.take_append_of_le_length (by omega), List.take_of_length_le (by omega)]
theorem fitL_all {l : List Sx} {N k : Nat} (hk : l.length ≤ k) (h : ((l.take k).filter mayS).length ≤ N) : fitL l N = (l.take k).filter mayS := by
  unfold fitL
  rw [List.take_of_length_le hk] at h ⊢
  rw [List.take_of_length_le h]
theorem filt_yes {l : List Sx} {k : Nat} (hk : k < l.length) (h : mayS (l.getD k default) = true) : (l.take (k + 1)).filter mayS = (l.take k).filter mayS ++ [l.getD k default] := by
  have e : l.getD k default = l[k] := by simp [List.getD, hk]
  rw [List.take_succ_eq_append_getElem hk, List.filter_append]
  rw [e] at h ⊢
  simp [h]
theorem filt_no {l : List Sx} {k : Nat} (hk : k < l.length) (h : mayS (l.getD k default) = false) : (l.take (k + 1)).filter mayS = (l.take k).filter mayS := by
  have e : l.getD k default = l[k] := by simp [List.getD, hk]
  rw [List.take_succ_eq_append_getElem hk, List.filter_append]
  rw [e] at h
  simp [h]
/-- What fit has gathered. -/
structure Ft (w : World) (U : Nat → Prop) (l : List Sx) (k : Nat) (W : World) (v : Value) (ds : List SD) : Prop where
  own : W.ownsRow w.heap.size 44 3 v ds.length (sds ds)
  is : ds.map (·.s) = (l.take k).filter mayS
  sv : ∀ d ∈ ds, SV W U d
  src : ∀ x, U x → x < w.heap.size
  bel : Below w.heap.size w W
end Go.Proofs.YteeapmcpbmjpmaaGreat
namespace Go.Proofs.YteeapmcpbmjpmaaGreat
set_option maxRecDepth 100000
open Go.RowKit Go.Shelf Go.Maps
set_option linter.unusedVariables false

theorem enc_len_of : ∀ (l : List Sx), allMay l = true → (enc l).length ≤ 524 * l.length
  | [], _ => by simp [enc]
  | s :: l, h => by
    have h' : mayS s = true ∧ allMay l = true := by simpa [allMay] using h
    have ih := enc_len_of l h'.2
    have e : enc (s :: l) = enc1 s ++ enc l := by simp [enc]
    rw [e, List.length_append, enc1_len, List.length_cons]
    have := mayS_key h'.1
    have := mayS_val h'.1
    omega
theorem asS_len (M : Tab) : (asS M).length = M.length := by simp [asS]
theorem s_bytes {w0 w : World} {t b : Nat} {V : Nat → Prop} {M : Tab} (zs : List Int) (m : Nat) (B : Below w0.heap.size w0 w) (h : Tw w t b V M) (hML : M.length ≤ 100000000) (hz : enc (asS M) = zs) (hm : zs.length = m) :
    Calls Tryz.prog 29 #[.pointer (some ⟨t, 0, none⟩)] w fun e w' => ∃ a c, e = .returned (.slice a m c) ∧ Vs w' (Up w0) a m c zs ∧ Below w0.heap.size w0 w' ∧ Below w.heap.size w w' := by
  have hs := B.size
  refine (bytes_ t b V M w h hML).mono ?_
  rintro e w1 ⟨v, rfl, o, g⟩
  subst hz hm
  obtain ⟨a', c', rfl, vs⟩ := Vs.ofOwn o (enc_byte (asS_byte h.tok))
  exact ⟨a', c', rfl, vs.wide fun z _ hz => Nat.le_trans hs hz, bel_bel B hs g, g⟩
theorem s_from {w0 w : World} {V : Nat → Prop} {a : Option Addr} {n c : Nat} {zs : List Int} {M : Tab} (B : Below w0.heap.size w0 w) (h : Vs w V a n c zs) (hn : n ≤ 5000000) (hM : fb zs = some M) :
    Calls Tryz.prog 33 #[.slice a n c] w fun e w' => ∃ t b, e = .returned (.tuple #[.pointer (some ⟨t, 0, none⟩), .int .i64 0]) ∧ Tw w' t b (Up w0) M ∧ w.heap.size ≤ b ∧ Below w0.heap.size w0 w' ∧ Below w.heap.size w w' := by
  have hs := B.size
  refine (fromBytes_ a n c zs w h.bs h.nil h.nc (by omega)).mono ?_
  rintro e w1 (⟨M', t, b, hM', rfl, t1, h1, h2, g⟩ | ⟨f, _⟩)
  · obtain rfl := Option.some.inj (hM.symm.trans hM')
    exact ⟨t, b, rfl, t1.wide (fun x _ hx => Nat.le_trans hs hx), h1, bel_bel B hs g, g⟩
  · rw [hM] at f; cases f
theorem s_gets {w0 w : World} {V : Nat → Prop} {a : Option Addr} {n c : Nat} {zs : List Int} {l : List Sx} (m : Nat) (B : Below w0.heap.size w0 w) (h : Vs w V a n c zs) (hn : n ≤ 5000000) (hl : gs zs = some l) (hm : l.length = m) :
    Calls Tryz.prog 58 #[.slice a n c] w fun e w' => ∃ a' c', e = .returned (.tuple #[.slice a' m c', .int .i64 0]) ∧ Sl w' (Up w0) a' m l ∧ Below w0.heap.size w0 w' ∧ Below w.heap.size w w' := by
  have hs := B.size
  refine (getSets_ a n c zs w h.bs h.nil h.nc (by omega)).mono ?_
  rintro e w1 (⟨l', a', m', c', hl', rfl, s1, _, _, _, g⟩ | ⟨f, _⟩)
  · obtain rfl := Option.some.inj (hl.symm.trans hl')
    obtain rfl := s1.len
    subst hm
    exact ⟨a', c', rfl, s1.wide (fun x _ hx => Nat.le_trans hs hx), bel_bel B hs g, g⟩
  · rw [hl] at f; cases f
theorem s_getsNo {w0 w : World} {V : Nat → Prop} {a : Option Addr} {n c : Nat} {zs : List Int} (B : Below w0.heap.size w0 w) (h : Vs w V a n c zs) (hn : n ≤ 5000000) (hl : gs zs = none) :
    Calls Tryz.prog 58 #[.slice a n c] w fun e w' => e = .returned (.tuple #[.slice none 0 0, .int .i64 114]) ∧ Below w0.heap.size w0 w' ∧ Below w.heap.size w w' := by
  have hs := B.size
  refine (getSets_ a n c zs w h.bs h.nil h.nc (by omega)).mono ?_
  rintro e w1 (⟨l', a', m', c', hl', _⟩ | ⟨_, rfl, g⟩)
  · rw [hl] at hl'; cases hl'
  · exact ⟨rfl, bel_bel B hs g, g⟩
theorem s_sameB {w0 w : World} {a b : Option Addr} {n m : Nat} (c d : Nat) {xs ys : List Int} (q : Bool) (B : Below w0.heap.size w0 w) (h1 : Bs w a n xs) (h2 : Bs w b m ys) (hn : n ≤ 1000000000) (hm : m ≤ 1000000000) (hq : decide (xs = ys) = q) :
    Calls Tryz.prog 27 #[.slice a n c, .slice b m d] w fun e w' => e = .returned (.bool q) ∧ Below w0.heap.size w0 w' ∧ Below w.heap.size w w' := by
  refine (same_d a b n c m d xs ys w h1 h2 (by unfold maxLen; omega) (by unfold maxLen; omega)).mono ?_
  rintro e w' ⟨rfl, g⟩
  subst hq
  exact ⟨rfl, bel_bel B B.size g.below, g.below⟩
end Go.Proofs.YteeapmcpbmjpmaaGreat
namespace Go.Proofs.YteeapmcpbmjpmaaGreat
set_option maxRecDepth 100000
open Go.RowKit Go.Shelf Go.Maps
set_option linter.unusedVariables false

set_option maxHeartbeats 1000000 in
/-- The document's May. -/
theorem rmay_ (ka va : Option Addr) (kc vc : Nat) (s : Sx) (w : World) (hk : s.k.length ≤ maxLen) (hv : s.v.length ≤ maxLen) :
    Calls Tryz.prog 70 #[.agg #[.slice ka s.k.length kc, .slice va s.v.length vc, .bool s.g]] w fun e w' => e = .returned (.bool (mayS s)) ∧ Below w.heap.size w w' := by
  obtain ⟨k, v, g⟩ := s
  unfold mayS
  simp only at hk hv ⊢
  obtain ⟨n, hn⟩ : ∃ n, k.length = n := ⟨_, rfl⟩
  obtain ⟨m, hm⟩ : ∃ m, v.length = m := ⟨_, rfl⟩
  rw [hn, hm] at *
  unfold maxLen at hk hv
  clear hn hm
  have B := fun o => (Below.refl w.heap.size w).alloc (Nat.le_refl _) o
  by_cases h1 : n < 1
  · obtain rfl : n = 0 := by omega
    rw [show (decide (1 ≤ 0)) = false from rfl]
    simp only [Bool.false_and]
    go_enter Tryz.func70, Tryz.ntmps70
    go_wp2_with fail
    go_ret
    exact ⟨rfl, B _⟩
  have e1 : ¬ (n : Int) < 1 := by omega
  rw [show (decide (1 ≤ n)) = true from decide_eq_true (by omega)]
  by_cases h2 : 40 < n
  · have e2 : (n : Int) > 40 := by omega
    rw [show (decide (n ≤ 40)) = false from decide_eq_false (by omega)]
    simp only [Bool.and_false, Bool.false_and]
    go_enter Tryz.func70, Tryz.ntmps70
    go_wp2_with fail
    go_ret
    exact ⟨rfl, B _⟩
  have e2 : ¬ (n : Int) > 40 := by omega
  rw [show (decide (n ≤ 40)) = true from decide_eq_true (by omega)]
  by_cases h3 : 480 < m
  · have e3 : (m : Int) > 480 := by omega
    rw [show (if g = true then decide (m = 0) else decide (m ≤ 480)) = false by
      cases g
      · exact decide_eq_false (by omega)
      · exact decide_eq_false (by omega)]
    simp only [Bool.and_false]
    go_enter Tryz.func70, Tryz.ntmps70
    go_wp2_with fail
    go_ret
    exact ⟨rfl, B _⟩
  have e3 : ¬ (m : Int) > 480 := by omega
  cases g
  · rw [show (if false = true then decide (m = 0) else decide (m ≤ 480)) = true from decide_eq_true (by omega)]
    simp only [Bool.and_true]
    go_enter Tryz.func70, Tryz.ntmps70
    go_wp2_with fail
    go_ret
    exact ⟨rfl, B _⟩
  · by_cases h0 : m = 0
    · subst h0
      simp only [if_true, Bool.and_true, decide_true]
      go_enter Tryz.func70, Tryz.ntmps70
      go_wp2_with fail
      go_ret
      exact ⟨rfl, B _⟩
    · have e4 : ¬ (m : Int) = 0 := by omega
      simp only [if_true, decide_eq_false h0, Bool.and_false]
      go_enter Tryz.func70, Tryz.ntmps70
      go_wp2_with fail
      go_ret
      exact ⟨congrArg (fun b => Ending.returned (Value.bool b)) (beq_eq_false_iff_ne.2 e4), B _⟩
theorem be_get (x : Int) : ∀ (n k : Nat), k < n → (be n x).getD k 0 = x / 256 ^ (n - 1 - k) % 256
  | n + 1, 0, _ => by simp [be]
  | n + 1, k + 1, h => by
    have := be_get x n k (by omega)
    rw [show n + 1 - 1 - (k + 1) = n - 1 - k by omega]
    simpa [be] using this
theorem pow256 (e : Nat) : (256 : Int) ^ e = 2 ^ (8 * e) := by
  rw [show (256 : Int) = 2 ^ 8 by decide, ← Int.pow_mul]
set_option maxHeartbeats 1000000 in
theorem rnumber_ (B m n : Nat) (v : Value) (X : List Int) (x : Int) (w : World) (ho : w.ownsRow B 5 1 v m (cells X)) (hX : X.length = m) (hB : B ≤ w.heap.size) (hx : 0 ≤ x ∧ x ≤ 1000000) (hn : n ≤ 2) (hm : m ≤ 10000000000) :
    Calls Tryz.prog 71 #[v, .int .i64 x, .int .i64 n] w fun e w' => ∃ v', e = .returned v' ∧ w'.ownsRow B 5 1 v' (m + n) (cells (X ++ be n x)) ∧ Below B w w' := by
  obtain ⟨i5, hi, hz0, hz1, hz2⟩ := info_parts info5
  have HT := hid (be_get x n)
  have HTL : Hid ((be n x).length = n) := be_length n x
  generalize be n x = T at *
  have HO0 := hid ho
  clear ho
  go_enter Tryz.func71, Tryz.ntmps71
  go_wp2_with fail
  go_loopw [0, 7] (fun v i wr => ∃ k : Nat, k ≤ n ∧ i = .int .i64 ((n : Int) - 1 - k) ∧ Hid (wr.ownsRow B 5 1 v (m + k) (cells (X ++ T.take k))) ∧ Hid (Below B w wr)) (fun _ i _ => (intOf i + 1).toNat)
  case atStart => exact ⟨0, by omega, by simp, (by simpa [Hid] using HO0.out), Below.refl _ _⟩
  case round =>
    obtain ⟨k, hk, rfl, HO, HB⟩ := hrel
    have hsz : B ≤ wr.heap.size := Nat.le_trans hB HB.out.size
    by_cases hlt : k < n
    · obtain ⟨e, he⟩ : ∃ e : Nat, n = e + 1 + k := ⟨n - 1 - k, by omega⟩
      have hIe : ((n : Int) - 1 - k) = (e : Int) := by omega
      have he8 : e < 2 := by omega
      have HZ : Hid (x / 2 ^ (8 * e) % 256 = T.getD k 0) := by
        show _ = _
        rw [HT.out k hlt, pow256, show n - 1 - k = e from by omega]
      have HS : Hid (cells (X ++ T.take k) ++ [.int .u8 (x / 2 ^ (8 * e) % 256)] = cells (X ++ T.take (k + 1))) := by
        show _ = _
        rw [HZ.out, cells_append, cells_append, List.append_assoc]
        congr 1
        exact cells_take_succ T k (by rw [HTL.out]; omega)
      have HNX : Hid ((e : Int) - 1 = (n : Int) - 1 - ((k + 1 : Nat) : Int)) := by
        show _ = _
        omega
      have he0 : (0 : Int) ≤ (e : Int) := by omega
      have heI : (e : Int) < 8 := by omega
      obtain ⟨z, hz⟩ : ∃ z, x / 2 ^ (8 * e) % 256 = z := ⟨_, rfl⟩
      have hzb : 0 ≤ z ∧ z ≤ 255 := by rw [← hz]; omega
      rw [hz] at HS
      have HOA := hid (HO.out.alloc (.cells #[.int .u8 z] 5))
      have HBS : Hid (Bs (wr.alloc (.cells #[.int .u8 z] 5)) (some ⟨wr.heap.size, 0, none⟩) 1 [z]) := bs_lit wr [z] (0, 0) (Okb1 z hzb)
      have HSZ : Hid (B ≤ (wr.alloc (.cells #[.int .u8 z] 5)).heap.size) := by show _ ≤ _; simp; omega
      clear HZ he hlt
      simp only [hIe]
      go_wp2_with (at_builtin; refine wpList_appT rfl _ _ rfl B _ (m + k) (X ++ T.take k) rfl (by exact HOA.out) (some ⟨wr.heap.size, 0, none⟩) 1 1 [z] rfl (by exact HBS.out) (by omega) (by exact HSZ.out) ?_; intro v5 w5 o5 g5; have HO5 := hid o5; have HG5 := hid g5; clear o5 g5)
      have HO6 : Hid (w5.ownsRow B 5 1 v5 (m + (k + 1)) (cells (X ++ T.take (k + 1)))) := by
        have h := HO5.out
        rw [cells_append (X ++ T.take k) [z]] at h
        have e : cells (X ++ T.take k) ++ cells [z] = cells (X ++ T.take (k + 1)) := HS.out
        rw [e] at h
        exact h
      have HB5 : Hid (Below B w w5) := (HB.out.alloc hsz (.cells #[.int .u8 z] 5)).grown HG5.out (by exact HSZ.out) (fun p hp => (HO.out.lt p hp).1)
      clear HO5 HG5 HOA HBS
      go_roundw
      case rel => exact ⟨k + 1, by omega, by rw [← HNX.out], HO6, HB5⟩
      case measure => simp [intOf]
    · obtain rfl : k = n := by omega
      have hIe : ((k : Int) - 1 - k) = -1 := by omega
      have hfull : T.take k = T := List.take_of_length_le (by rw [HTL.out]; exact Nat.le_refl _)
      rw [hfull] at HO
      simp only [hIe]
      clear hlt hk
      go_wp2_with fail
      go_ret
      exact ⟨_, rfl, HO.out, HB.out⟩
end Go.Proofs.YteeapmcpbmjpmaaGreat
