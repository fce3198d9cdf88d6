import Derived.Test.YtgcbfamlediafaaAes
import Derived.Test.YtgcbfamlediafaaBase
namespace Go.Proofs.Ytgcbfamlediafaa
set_option maxRecDepth 100000
open Go.RowKit
set_option linter.unusedVariables false

/-! GCM: blocks as functions of the places 0 to 15, lists of bytes as lists of numbers. -/
/-- Sixteen bytes as one number. -/
def pk (f : Nat → Nat) : Nat := lval ((List.range 16).map fun j => f (15 - j))
theorem pk_bytes {f : Nat → Nat} (h : ∀ i, i < 16 → f i < 256) : ∀ z ∈ (List.range 16).map fun j => f (15 - j), z < 256 := by
  intro z hz
  obtain ⟨j, _, rfl⟩ := List.mem_map.1 hz
  exact h _ (by omega)
theorem dg_pk {f : Nat → Nat} (h : ∀ i, i < 16 → f i < 256) : ∀ i, i < 16 → dg (pk f) i = f i := fun i hi => by
  unfold dg pk
  rw [lval_dig _ _ (pk_bytes h)]
  simp [List.getD, show 15 - i < 16 from by omega]
  rw [show 15 - (15 - i) = i from by omega]
theorem pk_lt {f : Nat → Nat} (h : ∀ i, i < 16 → f i < 256) : pk f < 2 ^ 128 := by
  have := lval_lt _ (pk_bytes h)
  simpa [pk] using this
theorem av_pk {f : Nat → Nat} (h : ∀ i, i < 16 → f i < 256) : av f = bv (pk f) := by
  rw [← av_bv]
  exact av_ext fun i hi => (dg_pk h i hi).symm
/-- The product of two blocks. -/
def gm (f h : Nat → Nat) : Nat → Nat := dg (mul (pk f) (pk h))
theorem gm_lt (f h : Nat → Nat) (i : Nat) : gm f h i < 256 := dg_lt _ i
/-- One round of the fold takes in the bytes from 16 r on. -/
def zx (z : Nat → Nat) (b : List Nat) (r : Nat) : Nat → Nat := fun k => if 16 * r + k < b.length then z k ^^^ b.getD (16 * r + k) 0 else z k
theorem zx_lt {z : Nat → Nat} {b : List Nat} (hz : ∀ i, i < 16 → z i < 256) (hb : ∀ x ∈ b, x < 256) (r : Nat) : ∀ i, i < 16 → zx z b r i < 256 := fun i hi => by
  unfold zx
  split
  · exact xor_lt8 (hz i hi) (getD_lt hb _)
  · exact hz i hi
def fd (h : Nat → Nat) (b : List Nat) (z : Nat → Nat) : Nat → Nat → Nat
  | 0 => z
  | r + 1 => gm (zx (fd h b z r) b r) h
theorem fd_lt {h z : Nat → Nat} {b : List Nat} (hz : ∀ i, i < 16 → z i < 256) : ∀ r i, i < 16 → fd h b z r i < 256
  | 0 => hz
  | r + 1 => fun i _ => gm_lt _ _ i
/-- The fold over a whole list. -/
def fo (h : Nat → Nat) (b : List Nat) (z : Nat → Nat) : Nat → Nat := fd h b z ((b.length + 15) / 16)
theorem fo_lt {h z : Nat → Nat} {b : List Nat} (hz : ∀ i, i < 16 → z i < 256) : ∀ i, i < 16 → fo h b z i < 256 := fd_lt hz _
/-- The counter block. -/
def cb (nz : List Nat) (n : Nat) : Nat → Nat := fun i => if i < 12 then nz.getD i 0 else n / 2 ^ (24 - 8 * (i - 12)) % 256
theorem cb_lt {nz : List Nat} (h : ∀ x ∈ nz, x < 256) (n : Nat) : ∀ i, i < 16 → cb nz n i < 256 := fun i _ => by
  unfold cb
  split
  · exact getD_lt h _
  · exact Nat.mod_lt _ (by omega)
/-- The stream. -/
def sx (k : Nat → Nat) (nz : List Nat) (i : Nat) : Nat := bl k (cb nz (2 + i / 16)) 14 (i % 16)
theorem sx_lt {k : Nat → Nat} {nz : List Nat} (hk : ∀ j, k j < 256) (h : ∀ x ∈ nz, x < 256) (i : Nat) : sx k nz i < 256 := bl_lt hk (cb_lt h _) 14 _ (by omega)
/-- A text xored with its stream. -/
def st (k : Nat → Nat) (nz t : List Nat) : List Nat := (List.range t.length).map fun i => t.getD i 0 ^^^ sx k nz i
theorem st_length (k : Nat → Nat) (nz t : List Nat) : (st k nz t).length = t.length := by simp [st]
theorem st_get (k : Nat → Nat) (nz t : List Nat) (i : Nat) (h : i < t.length) : (st k nz t).getD i 0 = t.getD i 0 ^^^ sx k nz i := by
  simp [st, List.getD, h]
theorem st_lt {k : Nat → Nat} {nz t : List Nat} (hk : ∀ j, k j < 256) (hn : ∀ x ∈ nz, x < 256) (ht : ∀ x ∈ t, x < 256) : ∀ x ∈ st k nz t, x < 256 := by
  intro x hx
  obtain ⟨i, _, rfl⟩ := List.mem_map.1 hx
  exact xor_lt8 (getD_lt ht _) (sx_lt hk hn i)
theorem list_ext {a b : List Nat} (hl : a.length = b.length) (h : ∀ i, i < a.length → a.getD i 0 = b.getD i 0) : a = b := by
  apply List.ext_getElem hl
  intro i h1 h2
  have := h i h1
  simpa [List.getD, h1, h2] using this
theorem st_st (k : Nat → Nat) (nz t : List Nat) : st k nz (st k nz t) = t := by
  refine list_ext (by rw [st_length, st_length]) fun i hi => ?_
  rw [st_length, st_length] at hi
  rw [st_get _ _ _ _ (by rw [st_length]; exact hi), st_get _ _ _ _ hi, Nat.xor_assoc, Nat.xor_self, Nat.xor_zero]
/-- A number as eight bytes, the highest first. -/
def e8 (n : Nat) : List Nat := (List.range 8).map fun i => n / 2 ^ (56 - 8 * i) % 256
theorem e8_length (n : Nat) : (e8 n).length = 8 := by simp [e8]
theorem e8_lt (n : Nat) : ∀ x ∈ e8 n, x < 256 := by
  intro x hx
  obtain ⟨i, _, rfl⟩ := List.mem_map.1 hx
  exact Nat.mod_lt _ (by omega)
/-- The tag. -/
def tg (k : Nat → Nat) (nz ad c : List Nat) : Nat → Nat :=
  fun i => fo (bl k (fun _ => 0) 14) (e8 (8 * ad.length) ++ e8 (8 * c.length)) (fo (bl k (fun _ => 0) 14) c (fo (bl k (fun _ => 0) 14) ad fun _ => 0)) i ^^^ bl k (cb nz 1) 14 i
theorem tg_lt {k : Nat → Nat} {nz : List Nat} (hk : ∀ j, k j < 256) (hn : ∀ x ∈ nz, x < 256) (ad c : List Nat) : ∀ i, i < 16 → tg k nz ad c i < 256 := fun i hi =>
  xor_lt8 (fo_lt (fo_lt (fo_lt fun _ _ => by omega)) i hi) (bl_lt hk (cb_lt hn 1) 14 i hi)
def tl (k : Nat → Nat) (nz ad c : List Nat) : List Nat := (List.range 16).map (tg k nz ad c)
theorem tl_length (k : Nat → Nat) (nz ad c : List Nat) : (tl k nz ad c).length = 16 := by simp [tl]
theorem tl_get (k : Nat → Nat) (nz ad c : List Nat) (i : Nat) (h : i < 16) : (tl k nz ad c).getD i 0 = tg k nz ad c i := by simp [tl, List.getD, h]
/-- What is sealed. -/
def sl (k : Nat → Nat) (nz ad t : List Nat) : List Nat := st k nz t ++ tl k nz ad (st k nz t)
theorem sl_length (k : Nat → Nat) (nz ad t : List Nat) : (sl k nz ad t).length = t.length + 16 := by rw [sl, List.length_append, st_length, tl_length]
theorem tl_lt {k : Nat → Nat} {nz : List Nat} (hk : ∀ j, k j < 256) (hn : ∀ x ∈ nz, x < 256) (ad c : List Nat) : ∀ x ∈ tl k nz ad c, x < 256 := by
  intro x hx
  obtain ⟨i, hi, rfl⟩ := List.mem_map.1 hx
  exact tg_lt hk hn ad c i (by simpa using hi)
theorem sl_lt {k : Nat → Nat} {nz ad t : List Nat} (hk : ∀ j, k j < 256) (hn : ∀ x ∈ nz, x < 256) (ht : ∀ x ∈ t, x < 256) : ∀ x ∈ sl k nz ad t, x < 256 := by
  intro x hx
  rcases List.mem_append.1 hx with h | h
  · exact st_lt hk hn ht x h
  · exact tl_lt hk hn _ _ x h
/-- What opens is just what would be sealed. -/
theorem sl_one (k : Nat → Nat) (nz ad s : List Nat) (n : Nat) (hn : s.length = n + 16) (h : s.drop n = tl k nz ad (s.take n)) : sl k nz ad (st k nz (s.take n)) = s := by
  unfold sl
  rw [st_st, ← h, List.take_append_drop]
end Go.Proofs.Ytgcbfamlediafaa
namespace Go.Proofs.Ytgcbfamlediafaa
set_option maxRecDepth 100000
open Go.RowKit
set_option linter.unusedVariables false

theorem xor8 (x y : Nat) (hx : x < 256) (hy : y < 256) : bits .xor .u8 (x : Int) (y : Int) = ((x ^^^ y : Nat) : Int) := u8_xor_nat x y hx hy

theorem three (w : World) (x y z : Array Value) : Ar (((w.alloc (.cells x 98)).alloc (.cells y 98)).alloc (.cells z 98)) w.heap.size x ∧ Ar (((w.alloc (.cells x 98)).alloc (.cells y 98)).alloc (.cells z 98)) (w.heap.size + 1) y ∧ Ar (((w.alloc (.cells x 98)).alloc (.cells y 98)).alloc (.cells z 98)) (w.heap.size + 1 + 1) z ∧ Below w.heap.size w (((w.alloc (.cells x 98)).alloc (.cells y 98)).alloc (.cells z 98)) := by
  refine ⟨((Ar.new w x).alloc _).alloc _, ?_, ?_, (((Below.refl _ _).alloc (Nat.le_refl _) _).alloc (by simp) _).alloc (by simp; omega) _⟩
  · have := (Ar.new (w.alloc (.cells x 98)) y).alloc (.cells z 98)
    simpa using this
  · have := Ar.new ((w.alloc (.cells x 98)).alloc (.cells y 98)) z
    simpa using this

set_option maxHeartbeats 1000000 in
theorem xor_ (A B : Nat) (w : World) :
    Calls Try.prog 78 #[.agg (bv A), .agg (bv B)] w fun e w' => e = .returned (.agg (bv (A ^^^ B))) ∧ Below w.heap.size w w' := by
  have s1 := bv_size A
  have s2 := bv_size B
  go_enter Try.func78, Try.ntmps78
  go_wp2_with fail
  rw [zeros16]
  obtain ⟨A0, A1, A2, B0⟩ := three w (bv A) (bv B) (bv 0)
  generalize ((w.alloc (.cells (bv A) 98)).alloc (.cells (bv B) 98)).alloc (.cells (bv 0) 98) = w1 at *
  go_loopw [6] (fun i wr => ∃ j : Nat, j ≤ 16 ∧ i = .int .i64 j ∧ Ar wr w.heap.size (av (mix j (dg (A ^^^ B)) (dg A))) ∧ Ar wr (w.heap.size + 1) (bv B) ∧ Ar wr (w.heap.size + 1 + 1) (bv 0) ∧ Below w.heap.size w wr) (fun i _ => 16 - (intOf i).toNat)
  case atStart => exact ⟨0, by omega, rfl, by rw [mix_zero]; exact A0, A1, A2, B0⟩
  case round =>
    obtain ⟨j, hj, rfl, a0, a1, a2, b0⟩ := hrel
    clear A0 A1 A2 B0
    by_cases hlt : j < 16
    · have c0 := a0.byte j hlt
      rw [mix_at] at c0
      have c1 := (a1.cell j).trans (bv_get B j hlt)
      have hf := a0.fz j
      have HX : Hid (bits .xor .u8 (dg A j : Int) (dg B j : Int) = ((dg (A ^^^ B) j : Nat) : Int)) := by
        show _ = _; rw [u8_xor_nat _ _ (dg_lt A j) (dg_lt B j), dg_xor]
      have HS := hid (mix_set j (dg (A ^^^ B)) (dg A))
      generalize dg A j = x at *
      generalize dg B j = y at *
      go_wp2_with fail
      go_region
      rw [HX.out]
      have A3 := a0.set j (.int .u8 (dg (A ^^^ B) j : Nat))
      rw [HS.out] at A3
      have A4 := a1.other (g' := w.heap.size) (by omega) j (.int .u8 (dg (A ^^^ B) j : Nat))
      have A5 := a2.other (g' := w.heap.size) (by omega) j (.int .u8 (dg (A ^^^ B) j : Nat))
      have B3 : Below w.heap.size w (wr.setCell ⟨w.heap.size, j, none⟩ (.int .u8 (dg (A ^^^ B) j : Nat))) := b0.setCell (Nat.le_refl _) _
      generalize dg (A ^^^ B) j = z at *
      clear a0 a1 a2 b0 c0 c1 hf HS HX
      go_wp2_with fail
      go_roundw
      case rel => exact ⟨j + 1, by omega, by go_num, A3, A4, A5, bel_drawn B3 1⟩
      case measure => simp [intOf]; omega
    · obtain rfl : j = 16 := by omega
      rw [mix_all, av_bv] at a0
      have S := bv_size (A ^^^ B)
      have S0 := bv_size 0
      go_wp2_with (first | (refine wpList_ld rfl _ rfl w.heap.size rfl _ a0 S ?_) | (refine wpList_st rfl rfl _ _ rfl (w.heap.size + 1 + 1) (A ^^^ B) rfl rfl _ a2 S0 ?_))
      refine bodyPost_ret (v := .agg (bv (A ^^^ B))) ?_ rfl ⟨rfl, bel_row b0 (by omega) _⟩
      exact results_bv rfl _ _ (w.heap.size + 1 + 1) (A ^^^ B) rfl (a2.row _)
end Go.Proofs.Ytgcbfamlediafaa
namespace Go.Proofs.Ytgcbfamlediafaa
set_option maxRecDepth 100000
open Go.RowKit
set_option linter.unusedVariables false

theorem ret_i8 {a b : Int} (h : a = b) : Ending.returned (.int .u8 a) = .returned (.int .u8 b) := by rw [h]
set_option maxRecDepth 100000 in
theorem t8_is : ∀ r, r < 256 → (r / 128 % 2 = 1 → (r * 2 % 256) ^^^ 27 = t8 r ∧ r &&& 128 = 128) ∧ (¬ r / 128 % 2 = 1 → r * 2 % 256 = t8 r ∧ r &&& 128 = 0) := by decide +kernel
set_option maxHeartbeats 400000 in
theorem timesX8_ (r : Nat) (w : World) (hr : r < 256) :
    Calls Try.prog 123 #[.int .u8 r] w fun e w' => e = .returned (.int .u8 (t8 r)) ∧ w' = w := by
  obtain ⟨h1, h2⟩ := t8_is r hr
  have ea := u8_and_nat r 128 hr (by omega)
  by_cases h : r / 128 % 2 = 1
  · obtain ⟨e1, e2⟩ := h1 h
    have e3 : bits .and .u8 (r : Int) 128 = 128 := by rw [show (128 : Int) = ((128 : Nat) : Int) from rfl, ea, e2]
    have e4 : bits .xor .u8 ((r : Int) * 2 % 256) 27 = ((t8 r : Nat) : Int) := by
      rw [← e1, ← u8_xor_nat (r * 2 % 256) 27 (by omega) (by omega)]; rfl
    generalize t8 r = q at *
    clear h1 h2 ea h e1 e2
    go_enter Try.func123, Try.ntmps123
    go_wp2
    go_ret
    exact ⟨rfl, rfl⟩
  · obtain ⟨e1, e2⟩ := h2 h
    have e3 : bits .and .u8 (r : Int) 128 = 0 := by rw [show (128 : Int) = ((128 : Nat) : Int) from rfl, ea, e2]; rfl
    have HQ : Hid ((r : Int) * 2 % 256 = ((t8 r : Nat) : Int)) := by show _ = _; rw [← e1]; rfl
    generalize t8 r = q at *
    clear h1 h2 ea h e1 e2
    go_enter Try.func123, Try.ntmps123
    go_wp2
    go_ret
    exact ⟨ret_i8 HQ.out, rfl⟩

/-- Bit i of a byte, as Go asks for it. -/
theorem and1_8 (q : Nat) (h : q < 256) : (q % 2 = 1 → bits .and .u8 (q : Int) 1 = 1) ∧ (¬ q % 2 = 1 → bits .and .u8 (q : Int) 1 = 0) := by
  have := u8_and_nat q 1 h (by omega)
  rw [show q &&& 1 = q % 2 from Nat.and_two_pow_sub_one_eq_mod q 1] at this
  have e : bits .and .u8 (q : Int) 1 = ((q % 2 : Nat) : Int) := this
  exact ⟨fun h1 => by rw [e, h1]; rfl, fun h0 => by rw [e, show q % 2 = 0 from by omega]; rfl⟩
/-- The same of a shifted byte. -/
theorem bit8 (b j : Nat) (h : b < 256) : (b / 2 ^ j % 2 = 1 → bits .and .u8 ((b : Int) / 2 ^ j) 1 = 1) ∧ (¬ b / 2 ^ j % 2 = 1 → bits .and .u8 ((b : Int) / 2 ^ j) 1 = 0) := by
  have := and1_8 (b / 2 ^ j) (Nat.lt_of_le_of_lt (Nat.div_le_self _ _) h)
  rwa [Int.natCast_ediv, Int.natCast_pow] at this
theorem t8s_succ : ∀ n a, t8s (n + 1) a = t8 (t8s n a)
  | 0, _ => rfl
  | n + 1, a => by rw [t8s, t8s_succ n]; rfl
theorem t8s_lt : ∀ n a, a < 256 → t8s n a < 256
  | 0, _, h => h
  | n + 1, a, h => t8s_lt n _ (t8_lt a h)
theorem p8_lt (n : Nat) : ∀ a b, a < 256 → p8 n a b < 256 := by
  induction n with
  | zero => intro a b _; rw [p8]; omega
  | succ n ih =>
    intro a b h
    rw [p8]
    exact Nat.xor_lt_two_pow (n := 8) (by split <;> omega) (ih _ _ (t8_lt a h))

set_option maxHeartbeats 400000 in
theorem mul8_ (a b : Nat) (w : World) (ha : a < 256) (hb : b < 256) :
    Calls Try.prog 113 #[.int .u8 a, .int .u8 b] w fun e w' => e = .returned (.int .u8 (mul8 a b)) ∧ w' = w := by
  go_enter Try.func113, Try.ntmps113
  go_wp2
  go_loopw [7, 0, 5] (fun i r s wr => ∃ j : Nat, j ≤ 8 ∧ i = .int .i64 j ∧ r = .int .u8 (t8s j a : Nat) ∧ s = .int .u8 (p8 j a b : Nat) ∧ wr = w) (fun i _ _ _ => 8 - (intOf i).toNat)
  case atStart => exact ⟨0, by omega, rfl, rfl, rfl, rfl⟩
  case round =>
    obtain ⟨j, hj, rfl, rfl, rfl, rfl⟩ := hrel
    by_cases hlt : j < 8
    · have HP := hid (p8_last j a b)
      have hq : b / 2 ^ j < 256 := Nat.lt_of_le_of_lt (Nat.div_le_self _ _) hb
      have HT := hid (t8s_succ j a)
      have hx := t8s_lt j a ha
      have hs := p8_lt j a b ha
      have ex := u8_xor_nat _ _ hs hx
      obtain ⟨e1, e2⟩ := bit8 b j hb
      generalize t8s j a = x at *
      generalize p8 j a b = s at *
      by_cases hc : b / 2 ^ j % 2 = 1
      · have e3 := e1 hc
        rw [if_pos hc] at HP
        clear e1 e2 hc
        go_wp2_with (go_at_call 123; refine (timesX8_ x _ hx).mono ?_; rintro e w2 ⟨rfl, hw⟩; obtain rfl := hw.symm)
        go_roundw
        case rel => exact ⟨j + 1, by omega, by go_num, by rw [HT.out], by rw [HP.out], trivial⟩
        case measure => simp [intOf]; omega
      · have e3 := e2 hc
        rw [if_neg hc, Nat.xor_zero] at HP
        clear e1 e2 hc ex
        go_wp2_with (go_at_call 123; refine (timesX8_ x _ hx).mono ?_; rintro e w2 ⟨rfl, hw⟩; obtain rfl := hw.symm)
        go_roundw
        case rel => exact ⟨j + 1, by omega, by go_num, by rw [HT.out], by rw [HP.out], trivial⟩
        case measure => simp [intOf]; omega
    · obtain rfl : j = 8 := by omega
      go_wp2
      go_ret
      exact ⟨rfl, rfl⟩

/-- k rounds of Inv8: the power, and the product of the powers. -/
def iv : Nat → Nat → Nat → Nat
  | 0, _, v => v
  | k + 1, a, v => iv k (mul8 a a) (mul8 v (mul8 a a))
set_option maxRecDepth 100000 in
theorem iv_ok : ∀ a, a < 256 → iv 7 a 1 = inv8 a := by decide +kernel

set_option maxHeartbeats 400000 in
theorem inv8_ (a : Nat) (w : World) (ha : a < 256) :
    Calls Try.prog 121 #[.int .u8 a] w fun e w' => e = .returned (.int .u8 (inv8 a)) ∧ w' = w := by
  have HE := hid (iv_ok a ha)
  go_enter Try.func121, Try.ntmps121
  go_wp2
  go_loopw [4, 0, 3] (fun i r s wr => ∃ j x v : Nat, j ≤ 7 ∧ i = .int .i64 j ∧ r = .int .u8 (x : Nat) ∧ s = .int .u8 (v : Nat) ∧ x < 256 ∧ v < 256 ∧ Hid (iv (7 - j) x v = iv 7 a 1) ∧ wr = w) (fun i _ _ _ => 7 - (intOf i).toNat)
  case atStart => exact ⟨0, a, 1, by omega, rfl, rfl, rfl, ha, by omega, rfl, rfl⟩
  case round =>
    obtain ⟨j, x, v, hj, rfl, rfl, rfl, hx, hv, HI, rfl⟩ := hrel
    by_cases hlt : j < 7
    · have HI2 : Hid (iv (7 - (j + 1)) (mul8 x x) (mul8 v (mul8 x x)) = iv 7 a 1) := by
        show _ = _
        rw [← HI.out, show 7 - j = (7 - (j + 1)) + 1 from by omega]
        rfl
      have hx2 : mul8 x x < 256 := mul8_lt hx
      have hv2 : mul8 v (mul8 x x) < 256 := mul8_lt hv
      have k1 := fun w => mul8_ x x w hx hx
      have k2 := fun w => mul8_ v (mul8 x x) w hv hx2
      generalize mul8 v (mul8 x x) = v2 at *
      generalize mul8 x x = x2 at *
      go_wp2_with fail
      refine (k1 _).mono ?_
      rintro e w2 ⟨rfl, rfl⟩
      go_wp2_with fail
      refine (k2 _).mono ?_
      rintro e w3 ⟨rfl, rfl⟩
      clear k1 k2
      go_wp2
      go_roundw
      case rel => exact ⟨j + 1, x2, v2, by omega, by go_num, rfl, rfl, hx2, hv2, HI2, trivial⟩
      case measure => simp [intOf]; omega
    · obtain rfl : j = 7 := by omega
      have HV : Hid (v = inv8 a) := by show _ = _; rw [← HE.out, ← HI.out]; rfl
      go_wp2
      go_ret
      exact ⟨ret_u8 HV.out, rfl⟩
end Go.Proofs.Ytgcbfamlediafaa
namespace Go.Proofs.Ytgcbfamlediafaa
set_option maxRecDepth 100000
open Go.RowKit
set_option linter.unusedVariables false

theorem two (w : World) (x y : Array Value) : Ar ((w.alloc (.cells x 98)).alloc (.cells y 98)) w.heap.size x ∧ Ar ((w.alloc (.cells x 98)).alloc (.cells y 98)) (w.heap.size + 1) y ∧ Below w.heap.size w ((w.alloc (.cells x 98)).alloc (.cells y 98)) := by
  refine ⟨(Ar.new w x).alloc _, ?_, ((Below.refl _ _).alloc (Nat.le_refl _) _).alloc (by simp) _⟩
  have := Ar.new (w.alloc (.cells x 98)) y
  simpa using this
theorem run_index16 (cs : Array Value) (x j : Nat) (w : World) (hj : j < 16) (hc : cs[j]? = some (.int .u8 x)) :
    (Instr.index 98 (.agg cs) (.int .i64 j)).run Try.prog w = .ok (.int .u8 x) w := by
  have h1 : (0 : Int) ≤ (j : Int) ∧ (j : Int) < 16 := by omega
  simp [Instr.index, run_underlying under16, asIntOf, h1, part, hc, go_sem]
  exact fun h => by omega
/-- What goes over from the byte ahead of i. -/
def ovr (B i : Nat) : Nat := if i = 0 then 0 else dg B (i - 1) % 2
theorem ovr_lt (B i : Nat) : ovr B i < 2 := by unfold ovr; split <;> omega
theorem half_or (B i : Nat) (hB : B < 2 ^ 128) (hi : i < 16) : dg B i / 2 ||| ovr B i * 128 = dg (B / 2) i := by
  cases i with
  | zero => rw [dg_half0 B hB]; simp [ovr]
  | succ i =>
    have : ovr B (i + 1) = dg B i % 2 := by simp [ovr]
    rw [this, dg_half B i (by omega)]
    exact or7 _ _ (dg_lt _ _)
theorem half_spell (B i : Nat) (hB : B < 2 ^ 128) (hi : i < 16) : bits .or .u8 ((dg B i : Int) / 2) ((ovr B i : Int) * 128 % 256) = ((dg (B / 2) i : Nat) : Int) := by
  have h1 := dg_lt B i
  have h2 := ovr_lt B i
  rw [← half_or B i hB hi, show (ovr B i : Int) * 128 % 256 = ((ovr B i * 128 : Nat) : Int) from by omega, show (dg B i : Int) / 2 = ((dg B i / 2 : Nat) : Int) from by omega]
  exact u8_or_nat _ _ (by omega) (by omega)
theorem tx_one {B : Nat} (h : B % 2 = 1) : ∀ i, i < 16 → dg (tx B) i = if i = 0 then dg (B / 2) 0 ^^^ 225 else dg (B / 2) i := by
  intro i hi
  unfold tx
  rw [if_pos h, dg_xor, dg_poly i hi]
  by_cases h0 : i = 0
  · rw [if_pos h0, if_pos h0, h0]
  · rw [if_neg h0, if_neg h0, Nat.xor_zero]

set_option maxHeartbeats 1000000 in
theorem timesX128_ (B : Nat) (w : World) (hB : B < 2 ^ 128) :
    Calls Try.prog 117 #[.agg (bv B)] w fun e w' => e = .returned (.agg (bv (tx B))) ∧ Below w.heap.size w w' := by
  have s1 := bv_size B
  obtain ⟨A0, A1, B0⟩ := two w (bv B) (bv 0)
  go_enter Try.func117, Try.ntmps117
  go_wp2_with (refine wpList_ld rfl _ rfl w.heap.size rfl _ (two w (bv B) _).1 s1 ?_)
  rw [zeros16]
  generalize (w.alloc (.cells (bv B) 98)).alloc (.cells (bv 0) 98) = w1 at *
  go_loopw [7, 3] (fun i o wr => ∃ j : Nat, j ≤ 16 ∧ i = .int .i64 j ∧ o = .int .u8 (ovr B j : Nat) ∧ Ar wr w.heap.size (av (mix j (dg (B / 2)) (dg B))) ∧ Ar wr (w.heap.size + 1) (bv 0) ∧ Below w.heap.size w wr) (fun i _ _ => 16 - (intOf i).toNat)
  case atStart => exact ⟨0, by omega, rfl, rfl, by rw [mix_zero]; exact A0, A1, B0⟩
  case round =>
    obtain ⟨j, hj, rfl, rfl, a0, a1, b0⟩ := hrel
    clear A0 A1 B0
    by_cases hlt : j < 16
    · have hix := run_index16 (bv B) _ j wr hlt (bv_get B j hlt)
      have c0 := a0.byte j hlt
      rw [mix_at] at c0
      have hf := a0.fz j
      have HX := hid (half_spell B j hB hlt)
      have HS := hid (mix_set j (dg (B / 2)) (dg B))
      have HO : Hid (ovr B (j + 1) = dg B j % 2) := by show _ = _; simp [ovr]
      have hx := dg_lt B j
      have hl : bits .and .u8 (dg B j : Int) 1 = ((dg B j % 2 : Nat) : Int) := by
        have := u8_and_nat (dg B j) 1 hx (by omega)
        rw [show dg B j &&& 1 = dg B j % 2 from Nat.and_two_pow_sub_one_eq_mod _ 1] at this
        exact this
      generalize dg B j % 2 = o2 at *
      generalize dg B j = x at *
      generalize ovr B j = o at *
      go_wp2_with fail
      go_roundw
      case rel =>
        rw [HX.out]
        have A3 := a0.set j (.int .u8 (dg (B / 2) j : Nat))
        rw [HS.out] at A3
        exact ⟨j + 1, by omega, by go_num, by rw [HO.out], A3, a1.other (by omega) _ _, b0.setCell (Nat.le_refl _) _⟩
      case measure => simp [intOf]; omega
    · obtain rfl : j = 16 := by omega
      have HO : Hid (ovr B 16 = B % 2) := dg_low B
      rw [mix_all] at a0
      have S := bv_size (tx B)
      have S0 := bv_size 0
      by_cases hc : B % 2 = 1
      · rw [HO.out, hc]
        have c0 := a0.byte 0 (by omega)
        have hf := a0.fz 0
        have A3 := a0.set 0 (.int .u8 ((dg (B / 2) 0 ^^^ 225 : Nat) : Int))
        rw [av_set, ← av_ext (tx_one hc), av_bv] at A3
        have A4 := a1.other (g' := w.heap.size) (by omega) 0 (.int .u8 ((dg (B / 2) 0 ^^^ 225 : Nat) : Int))
        have B3 : Below w.heap.size w (wr.setCell ⟨w.heap.size, 0, none⟩ (.int .u8 ((dg (B / 2) 0 ^^^ 225 : Nat) : Int))) := b0.setCell (Nat.le_refl _) _
        have ex : bits .xor .u8 (dg (B / 2) 0 : Int) 225 = ((dg (B / 2) 0 ^^^ 225 : Nat) : Int) := u8_xor_nat _ 225 (dg_lt _ _) (by omega)
        generalize dg (B / 2) 0 ^^^ 225 = z at *
        generalize dg (B / 2) 0 = x at *
        clear a0 a1 b0
        go_wp2_with (first | (refine wpList_ld rfl _ rfl w.heap.size rfl _ A3 S ?_) | (refine wpList_st rfl rfl _ _ rfl (w.heap.size + 1) (tx B) rfl rfl _ A4 S0 ?_))
        refine bodyPost_ret (v := .agg (bv (tx B))) ?_ rfl ⟨rfl, bel_row B3 (by omega) _⟩
        exact results_bv rfl _ _ (w.heap.size + 1) (tx B) rfl (A4.row _)
      · have HT : Hid (tx B = B / 2) := by show _ = _; unfold tx; rw [if_neg hc]
        rw [av_bv, ← HT.out] at a0
        rw [HO.out, show B % 2 = 0 from by omega]
        go_wp2_with (first | (refine wpList_ld rfl _ rfl w.heap.size rfl _ a0 S ?_) | (refine wpList_st rfl rfl _ _ rfl (w.heap.size + 1) (tx B) rfl rfl _ a1 S0 ?_))
        refine bodyPost_ret (v := .agg (bv (tx B))) ?_ rfl ⟨rfl, bel_row b0 (by omega) _⟩
        exact results_bv rfl _ _ (w.heap.size + 1) (tx B) rfl (a1.row _)
end Go.Proofs.Ytgcbfamlediafaa
