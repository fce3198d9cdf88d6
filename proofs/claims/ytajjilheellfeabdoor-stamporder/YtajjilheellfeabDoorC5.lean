import Derived.Test.YtajjilheellfeabDoorC4
import Derived.Test.YtajjilheellfeabDoorSNum
import Derived.Test.YtajjilheellfeabDoorShelf
namespace Go.Proofs.YtajjilheellfeabDoor
open Go.RowKit
set_option linter.unusedVariables false

/-- The library's table of powers of ten. -/
def Tb (w : World) : Prop := Lib.TabIs Tryd.prog w "internal/strconv.uint64pow10" .u64 Lib.pow10Tab
theorem Tb.kept {w w' : World} (h : Tb w) (hb : Below w.heap.size w w') : Tb w' := by
  unfold Tb Lib.TabIs World.var? at *
  cases hg : Tryd.prog.globalNamed "internal/strconv.uint64pow10" with
  | none => simp [hg] at h
  | some g =>
    simp only [hg, Option.bind_some] at h ⊢
    have hlt : g < w.heap.size := by
      rcases Nat.lt_or_ge g w.heap.size with h' | h'
      · exact h'
      · rw [Array.getElem?_eq_none h'] at h; simp at h
    rw [hb.block g hlt]
    exact h
theorem Tb.alloc {w : World} (h : Tb w) (o : Obj) : Tb (w.alloc o) := h.kept ((Below.refl _ _).alloc (Nat.le_refl _) _)
theorem below_grow6 (w : World) (k : Nat) (os : Array Obj) : Below w.heap.size w (Sort.grow (w.drewN k) os) :=
  ⟨rfl, rfl, rfl, by show w.heap.size ≤ (w.heap ++ os).size; rw [Array.size_append]; omega, fun j hj => by
    show (w.heap ++ os)[j]? = _
    rw [Array.getElem?_append_left hj]⟩
theorem cnt_pos (u : Nat) (h : 0 < u) : 1 ≤ cnt u := by
  rw [cnt, dif_neg (by omega)]
  omega
theorem dec_dgs (k : Nat) : ∀ u, u < k → Lib.decDigits u = (dgs u 1).map UInt8.ofNat := by
  induction k with
  | zero => intro u h; omega
  | succ k ih =>
    intro u hu
    rw [Lib.decDigits]
    by_cases h : u < 10
    · rw [dif_pos h]
      have hc := (cnt_lt 1 u).2 (by omega)
      have : dn u 1 = 1 := by unfold dn; rw [Nat.max_def]; split <;> omega
      unfold dgs
      rw [this, dl, dl, List.nil_append, Nat.mod_eq_of_lt h]
      rfl
    · rw [dif_neg h, ih (u / 10) (by omega)]
      have hc : cnt u = cnt (u / 10) + 1 := by conv => lhs; rw [cnt]
                                               rw [dif_neg (by omega)]
      have hp := cnt_pos (u / 10) (by omega)
      have e1 : dn u 1 = cnt (u / 10) + 1 := by unfold dn; rw [hc, Nat.max_def]; split <;> omega
      have e2 : dn (u / 10) 1 = cnt (u / 10) := by unfold dn; rw [Nat.max_def]; split <;> omega
      unfold dgs
      rw [e1, e2, dl, List.map_append]
      rfl
theorem itoa_sb (u : Nat) : (⟨(Lib.itoa (u : Int)).toArray⟩ : ByteArray) = sb (dgs u 1) := by
  unfold Lib.itoa
  rw [if_neg (by omega), Int.toNat_natCast, dec_dgs (u + 1) u (by omega)]
  rfl
theorem dl_pad (m : Nat) : ∀ n k, n < 10 ^ m → m ≤ k → dl n k = List.replicate (k - m) 48 ++ dl n m := by
  induction m with
  | zero =>
    intro n k h _
    obtain rfl : n = 0 := by simpa using h
    rw [dl, List.append_nil, Nat.sub_zero]
    induction k with
    | zero => rfl
    | succ k ih =>
      rw [dl, Nat.zero_div, ih (Nat.zero_le _), List.replicate_succ']
  | succ m ih =>
    intro n k h hk
    obtain ⟨k', rfl⟩ : ∃ k', k = k' + 1 := ⟨k - 1, by omega⟩
    rw [dl, dl, ih (n / 10) k' (by rw [Nat.pow_succ] at h; omega) (by omega), Nat.add_sub_add_right, List.append_assoc]
theorem repeat_sb (c : Nat) : (⟨(Lib.repeatL (⟨#[48]⟩ : ByteArray).data.toList c).toArray⟩ : ByteArray) = sb (List.replicate c 48) := by
  have e : ∀ c, Lib.repeatL (⟨#[48]⟩ : ByteArray).data.toList c = (List.replicate c 48).map UInt8.ofNat := by
    intro c
    induction c with
    | zero => rfl
    | succ c ih => rw [Lib.repeatL, ih, List.replicate_succ]; rfl
  rw [e]
  rfl
theorem dgs_nine (N : Nat) (h : N ≤ 999999999) : (dgs N 1).length ≤ 9 ∧ 1 ≤ (dgs N 1).length ∧ dgs N 9 = List.replicate (9 - (dgs N 1).length) 48 ++ dgs N 1 := by
  have hc := (cnt_lt 9 N).2 (by omega)
  have h1 : dn N 1 ≤ 9 ∧ 1 ≤ dn N 1 := by unfold dn; rw [Nat.max_def]; split <;> omega
  have hl : (dgs N 1).length = dn N 1 := by unfold dgs; rw [dl_length]
  refine ⟨by omega, by omega, ?_⟩
  rw [hl]
  unfold dgs
  rw [dn9 N h]
  exact dl_pad (dn N 1) N 9 (dn_lt N 1) h1.1
theorem itoa_ (u : Nat) (w : World) (h : u ≤ 9223372036854775807) (hT : Tb w) :
    Calls Tryd.prog 27 #[.int .i64 u] w fun e w' => e = .returned (.string (sb (dgs u 1))) ∧ Below w.heap.size w w' := by
  refine (Tryd.strconv_Itoa (u : Int) (by omega) (by omega) w hT).mono ?_
  rintro e w' ⟨rfl, k, os, rfl⟩
  exact ⟨by rw [itoa_sb], below_grow6 _ _ _⟩
theorem repeat_ (c : Nat) (w : World) (h : c ≤ 9) :
    Calls Tryd.prog 28 #[.string ⟨#[48]⟩, .int .i64 c] w fun e w' => e = .returned (.string (sb (List.replicate c 48))) ∧ Below w.heap.size w w' := by
  refine (Tryd.strings_Repeat ⟨#[48]⟩ c w (by omega) (by show 1 * c ≤ _; omega)).mono ?_
  rintro e w' ⟨rfl, g⟩
  exact ⟨by rw [repeat_sb], g⟩
end Go.Proofs.YtajjilheellfeabDoor
