import Derived.Test.YtkeogggeefnoeaaGreatDoorP18
import Derived.Test.YtkeogggeefnoeaaGreatDoorP3
import Derived.Test.YtkeogggeefnoeaaGreatDoorPMath
import Derived.Laws.IdiomStrings
import Derived.Laws.Concat
import Derived.WideShapes
namespace Go.Proofs.YtkeogggeefnoeaaGreatDoor
set_option linter.unusedSimpArgs false
set_option maxRecDepth 100000
open Go.RowKit
set_option linter.unusedVariables false

/-! Parse of what Print answered. -/
theorem tx_shape (p : List Nat) (hp : ∀ x ∈ p, x < 256) (hl : p.length = 4 ∨ p.length = 16) : (tx p).length ≤ 39 ∧ tx p ≠ [] ∧ ∀ z ∈ tx p, z ≠ 47 := by
  rcases hl with hl | hl
  · match p, hl, hp with
    | [a, b, c, d], _, hp =>
      have ha := dgs_three a (hp a (by simp))
      have hb := dgs_three b (hp b (by simp))
      have hc := dgs_three c (hp c (by simp))
      have hd := dgs_three d (hp d (by simp))
      rw [tx4]
      refine ⟨by simp only [List.length_append, List.length_cons]; omega, by simp, ?_⟩
      exact not_cons 47 46 _ _ (by decide) (dgs_not a 47 (by decide)) <| not_cons 47 46 _ _ (by decide) (dgs_not b 47 (by decide)) <| not_cons 47 46 _ _ (by decide) (dgs_not c 47 (by decide)) (dgs_not d 47 (by decide))
  · match p, hl, hp with
    | [a0, a1, a2, a3, a4, a5, a6, a7, a8, a9, a10, a11, a12, a13, a14, a15], _, hp =>
      rw [tx16]
      refine ⟨by simp [hx], by simp [hx], ?_⟩
      exact not_cons 47 58 _ _ (by decide) (hx2_not a0 a1 47 (hp _ (by simp)) (hp _ (by simp)) (.inl (by decide))) <| not_cons 47 58 _ _ (by decide) (hx2_not a2 a3 47 (hp _ (by simp)) (hp _ (by simp)) (.inl (by decide))) <| not_cons 47 58 _ _ (by decide) (hx2_not a4 a5 47 (hp _ (by simp)) (hp _ (by simp)) (.inl (by decide))) <| not_cons 47 58 _ _ (by decide) (hx2_not a6 a7 47 (hp _ (by simp)) (hp _ (by simp)) (.inl (by decide))) <| not_cons 47 58 _ _ (by decide) (hx2_not a8 a9 47 (hp _ (by simp)) (hp _ (by simp)) (.inl (by decide))) <| not_cons 47 58 _ _ (by decide) (hx2_not a10 a11 47 (hp _ (by simp)) (hp _ (by simp)) (.inl (by decide))) <| not_cons 47 58 _ _ (by decide) (hx2_not a12 a13 47 (hp _ (by simp)) (hp _ (by simp)) (.inl (by decide))) <| hx2_not a14 a15 47 (hp _ (by simp)) (hp _ (by simp)) (.inl (by decide))
theorem ta_shape {F H L : Int} (hv : va F H L = true) (hH : InU H) (hL : InU L) : (ta F H L).length ≤ 39 ∧ ta F H L ≠ [] ∧ ∀ z ∈ ta F H L, z ≠ 47 := by
  obtain ⟨hn, _⟩ := va_in hv hH hL
  have hl : (pa F H L).length = nb F / 8 := by rw [pa_length, hv]; rfl
  exact tx_shape _ (nl_lt (pa_byte F H L)) (by rw [nl_length, hl]; omega)
theorem ak_ta {F H L : Int} (hv : va F H L = true) (hH : InU H) (hL : InU L) : ak (ta F H L) = true ∧ aF (ta F H L) = F ∧ aH (ta F H L) = H ∧ aL (ta F H L) = L ∧ aE (ta F H L) = 0 := by
  obtain ⟨s1, s2, _⟩ := ta_shape hv hH hL
  obtain ⟨_, g2, g3, g4⟩ := guess_ta F H L hv hH hL
  have hk : ak (ta F H L) = true := by
    unfold ak
    rw [g2, g3, g4]
    exact decide_eq_true ⟨s1, s2, rfl⟩
  obtain ⟨q1, q2, q3, q4⟩ := a_good hk
  exact ⟨hk, q1.symm.trans g2, q2.symm.trans g3, q3.symm.trans g4, q4.symm⟩
theorem pk_tp {F H L B : Int} (hv : vp F H L B = true) (hH : InU H) (hL : InU L) : pk (tp F H L B) = true ∧ rF (tp F H L B) = F ∧ rH (tp F H L B) = H ∧ rL (tp F H L B) = L ∧ rB (tp F H L B) = B ∧ rE (tp F H L B) = 0 := by
  obtain ⟨ha, hB0, hB1, _⟩ := vp_in hv
  have hn := nb_le F
  obtain ⟨s1, s2, s3⟩ := ta_shape ha hH hL
  obtain ⟨k0, k1, k2, k3, k4⟩ := ak_ta ha hH hL
  have hd := dgs_three B.toNat (by omega)
  have e : tp F H L B = ta F H L ++ 47 :: dgs B.toNat 1 := by unfold tp; rw [hv]; rfl
  have ec : cu 47 (tp F H L B) = [ta F H L, dgs B.toNat 1] := by
    rw [e, cu_cons _ _ _ s3, cu_one _ _ (dgs_not _ 47 (by decide))]
  have e0 : x0 (tp F H L B) = ta F H L := by unfold x0; rw [ec]; rfl
  have e1 : x1 (tp F H L B) = dgs B.toNat 1 := by unfold x1; rw [ec]; rfl
  have en : nm 10 (dgs B.toNat 1) = B := by rw [nm_dgs _ (by omega)]; omega
  have hk : pk (tp F H L B) = true := by
    unfold pk rT
    rw [e0, e1, en, ec, k1, k2, k3, k4]
    refine decide_eq_true ⟨?_, rfl, rfl, rfl⟩
    rw [e, List.length_append, List.length_cons]
    omega
  obtain ⟨q1, q2, q3, q4, q5⟩ := r_good hk
  rw [e0] at q1 q2 q3
  rw [e1, en] at q4
  exact ⟨hk, q1.symm.trans k1, q2.symm.trans k2, q3.symm.trans k3, q4.symm, q5.symm⟩
/-- What is read is what would be written. -/
theorem tp_pk {l : List Nat} (h : pk l = true) : tp (rF l) (rH l) (rL l) (rB l) = l := by
  obtain ⟨q1, q2, q3, q4, _⟩ := r_good h
  rw [← q1, ← q2, ← q3, ← q4]
  exact (of_decide_eq_true (show decide _ = true from h)).2.2.2
theorem ta_ak {l : List Nat} (h : ak l = true) : ta (aF l) (aH l) (aL l) = l := by
  obtain ⟨q1, q2, q3, _⟩ := a_good h
  rw [← q1, ← q2, ← q3]
  exact (of_decide_eq_true (show decide _ = true from h)).2.2
end Go.Proofs.YtkeogggeefnoeaaGreatDoor
namespace Go.Proofs.YtkeogggeefnoeaaGreatDoor
set_option linter.unusedSimpArgs false
set_option maxRecDepth 100000
open Go.RowKit
set_option linter.unusedVariables false

theorem repeat_sb (c : Nat) : (⟨(Lib.repeatL (⟨#[48]⟩ : ByteArray).data.toList c).toArray⟩ : ByteArray) = sb (List.replicate c 48) := by
  have e : ∀ c, Lib.repeatL (⟨#[48]⟩ : ByteArray).data.toList c = (List.replicate c 48).map UInt8.ofNat := by
    intro c
    induction c with
    | zero => rfl
    | succ c ih => rw [Lib.repeatL, ih, List.replicate_succ]; rfl
  rw [e]
  rfl
theorem repeat_ (c : Nat) (w : World) (h : c ≤ 9) :
    Calls Tryz.prog 81 #[.string ⟨#[48]⟩, .int .i64 c] w fun e w' => e = .returned (.string (sb (List.replicate c 48))) ∧ Below w.heap.size w w' := by
  refine (Tryz.strings_Repeat ⟨#[48]⟩ c w (by omega) (by show 1 * c ≤ _; omega)).mono ?_
  rintro e w' ⟨rfl, g⟩
  exact ⟨by rw [repeat_sb], g⟩
theorem hg_hd (y : Nat) : hg y = hd y := rfl
theorem hc_in (x : Nat) (h : x < 65536) : 1 ≤ hc x ∧ hc x ≤ 4 := by
  unfold hc
  split
  · omega
  · split
    · omega
    · split <;> omega
theorem hk4 (x : Nat) : hk x 4 = [hg (x / 4096 % 16), hg (x / 256 % 16), hg (x / 16 % 16), hg (x % 16)] := by
  show [hg (x / 16 / 16 / 16 % 16), hg (x / 16 / 16 % 16), hg (x / 16 % 16), hg (x % 16)] = _
  rw [show x / 16 / 16 / 16 = x / 4096 from by omega, show x / 16 / 16 = x / 256 from by omega]
theorem hx_two (x : Nat) (h : x < 65536) : hx (x / 256) ++ hx (x % 256) = hk x 4 := by
  rw [hk4]
  unfold hx
  show [hd (x / 256 / 16), hd (x / 256 % 16), hd (x % 256 / 16), hd (x % 256 % 16)] = [hd (x / 4096 % 16), hd (x / 256 % 16), hd (x / 16 % 16), hd (x % 16)]
  rw [show x / 256 / 16 = x / 4096 % 16 from by omega, show x % 256 / 16 = x / 16 % 16 from by omega, show x % 256 % 16 = x % 16 from by omega]
theorem h16_pad (x : Nat) (h : x < 65536) : List.replicate (4 - hc x) 48 ++ h16 x = hx (x / 256) ++ hx (x % 256) := by
  rw [hx_two x h, hk4]
  have h0 : hg 0 = 48 := rfl
  unfold h16 hc
  split
  · rw [show x / 4096 % 16 = 0 from by omega, show x / 256 % 16 = 0 from by omega, show x / 16 % 16 = 0 from by omega]
    rfl
  · split
    · rw [show x / 4096 % 16 = 0 from by omega, show x / 256 % 16 = 0 from by omega]
      rfl
    · split
      · rw [show x / 4096 % 16 = 0 from by omega]
        show 48 :: [hg (x / 16 / 16 % 16), hg (x / 16 % 16), hg (x % 16)] = _
        rw [show x / 16 / 16 = x / 256 from by omega]
        rfl
      · show [hg (x / 16 / 16 / 16 % 16), hg (x / 16 / 16 % 16), hg (x / 16 % 16), hg (x % 16)] = _
        rw [show x / 16 / 16 / 16 = x / 4096 from by omega, show x / 16 / 16 = x / 256 from by omega]
set_option maxHeartbeats 400000 in
theorem fmtI_ (x : Nat) (w : World) (hx : x < 65536) (hT : Tb w) :
    Calls Tryz.prog 110 #[.int .u64 x, .int .i64 16] w fun e w' => e = .returned (.string (sb (h16 x))) ∧ Below w.heap.size w w' := by
  have k := fun w hT => formatBits_ x w hx hT
  go_enter Tryz.func110, Tryz.ntmps110
  go_wp2_with fail
  refine (k _ hT).mono ?_
  rintro e w1 ⟨rfl, g⟩
  go_wp2_with fail
  go_ret
  exact ⟨rfl, g⟩
set_option maxHeartbeats 400000 in
theorem fmt_ (x : Nat) (w : World) (hx : x < 65536) (hT : Tb w) :
    Calls Tryz.prog 86 #[.int .u64 x, .int .i64 16] w fun e w' => e = .returned (.string (sb (h16 x))) ∧ Below w.heap.size w w' := by
  have k := fun w hT => fmtI_ x w hx hT
  go_enter Tryz.func86, Tryz.ntmps86
  go_wp2_with fail
  refine (k _ hT).mono ?_
  rintro e w1 ⟨rfl, g⟩
  go_wp2_with fail
  go_ret
  exact ⟨rfl, g⟩
set_option maxHeartbeats 400000 in
theorem decimal_ (x : Nat) (w : World) (hx : x < 256) (hT : Tb w) :
    Calls Tryz.prog 156 #[.int .u8 x] w fun e w' => e = .returned (.string (sb (dgs x 1))) ∧ Below w.heap.size w w' := by
  have k := fun w hT => itoa_ x w (by omega) hT
  go_enter Tryz.func156, Tryz.ntmps156
  go_wp2_with fail
  refine (k _ hT).mono ?_
  rintro e w1 ⟨rfl, g⟩
  go_wp2_with fail
  go_ret
  exact ⟨rfl, g⟩
set_option maxHeartbeats 400000 in
theorem pair_ (x : Nat) (w : World) (hx' : x < 65536) (hT : Tb w) :
    Calls Tryz.prog 158 #[.int .u16 x] w fun e w' => e = .returned (.string (sb (hx (x / 256) ++ hx (x % 256)))) ∧ Below w.heap.size w w' := by
  have k1 := fun w hT => fmt_ x w hx' hT
  obtain ⟨c0, c1⟩ := hc_in x hx'
  have k2 := fun w => repeat_ (4 - hc x) w (by omega)
  have hl : (sb (h16 x)).size = hc x := by rw [sb_size]; exact hk_length _ _
  have HP : Hid (sb (List.replicate (4 - hc x) 48) ++ sb (h16 x) = sb (hx (x / 256) ++ hx (x % 256))) := by
    show _ = _
    rw [sb_append, h16_pad x hx']
  have hr : (sb (List.replicate (4 - hc x) 48)).size = 4 - hc x := by rw [sb_size, List.length_replicate]
  obtain ⟨S, HS⟩ : ∃ S, Hid (sb (hx (x / 256) ++ hx (x % 256)) = S) := ⟨_, rfl⟩
  rw [HS.out] at HP ⊢
  generalize sb (h16 x) = D at *
  generalize sb (List.replicate (4 - hc x) 48) = R at *
  generalize hc x = c at *
  have hi : (4 : Int) - (c : Int) = ((4 - c : Nat) : Int) := by omega
  have a1 := fun w => run_string_add_sum (P := Tryz.prog) w R D (by omega)
  clear HS
  go_enter Tryz.func158, Tryz.ntmps158
  go_wp2_with fail
  refine (k1 _ hT).mono ?_
  rintro e w1 ⟨rfl, g⟩
  go_wp2_with fail
  refine (k2 _).mono ?_
  rintro e w2 ⟨rfl, g2⟩
  go_wp2_with fail
  go_ret
  exact ⟨by rw [← HP.out]; rfl, bel_bel g g.size g2⟩
end Go.Proofs.YtkeogggeefnoeaaGreatDoor
namespace Go.Proofs.YtkeogggeefnoeaaGreatDoor
set_option linter.unusedSimpArgs false
set_option maxRecDepth 100000
open Go.RowKit
set_option linter.unusedVariables false

/-- The j lowest digits, the lowest first. -/
def dr (n j : Nat) : List Nat := (List.range j).map fun i => 48 + n / 10 ^ i % 10
theorem dr_length (n j : Nat) : (dr n j).length = j := by simp [dr]
theorem dr_get (n j i : Nat) (h : i < j) : (dr n j).getD i 0 = 48 + n / 10 ^ i % 10 := by simp [dr, List.getD, h]
theorem dr_more (n j : Nat) : cells (ic (dr n j)) ++ [.int .u8 ((48 + n / 10 ^ j % 10 : Nat) : Int)] = cells (ic (dr n (j + 1))) := by
  unfold dr
  rw [List.range_succ, List.map_append]
  simp [cells, ic]
theorem dl_get (k : Nat) : ∀ (n i : Nat), i < k → (dl n k).getD i 0 = 48 + n / 10 ^ (k - 1 - i) % 10 := by
  induction k with
  | zero => intro n i h; omega
  | succ k ih =>
    intro n i hi
    rw [dl]
    by_cases e : i < k
    · have h1 : (dl (n / 10) k ++ [48 + n % 10]).getD i 0 = (dl (n / 10) k).getD i 0 := by simp only [List.getD, List.getElem?_append_left (show i < (dl (n / 10) k).length by rw [dl_length]; exact e)]
      rw [h1, ih (n / 10) i e, Nat.div_div_eq_div_mul, show k + 1 - 1 - i = (k - 1 - i) + 1 from by omega, Nat.pow_succ, Nat.mul_comm 10]
    · have e' : i = k := by omega
      subst e'
      have h1 : (dl (n / 10) i ++ [48 + n % 10]).getD i 0 = 48 + n % 10 := by
        simp only [List.getD, List.getElem?_append_right (show (dl (n / 10) i).length ≤ i by rw [dl_length]; exact Nat.le_refl _), dl_length, Nat.sub_self]
        rfl
      rw [h1]
      simp
/-- The list with its first and last q places exchanged. -/
def rv (l : List Nat) (q : Nat) : List Nat := (List.range l.length).map fun i => if i < q ∨ l.length ≤ i + q then l.getD (l.length - 1 - i) 0 else l.getD i 0
theorem rv_length (l : List Nat) (q : Nat) : (rv l q).length = l.length := by simp [rv]
theorem rv_get (l : List Nat) (q i : Nat) (h : i < l.length) : (rv l q).getD i 0 = if i < q ∨ l.length ≤ i + q then l.getD (l.length - 1 - i) 0 else l.getD i 0 := by simp [rv, List.getD, h]
theorem rv_zero (l : List Nat) : rv l 0 = l := by
  refine list_ext6 (rv_length l 0) fun i hi => ?_
  rw [rv_length] at hi
  rw [rv_get l 0 i hi, if_neg (by omega)]
theorem rv_step (l : List Nat) (q : Nat) (h : 2 * q + 1 < l.length) : ((rv l q).set q (l.getD (l.length - 1 - q) 0)).set (l.length - 1 - q) (l.getD q 0) = rv l (q + 1) := by
  refine list_ext6 (by simp [rv_length]) fun i hi => ?_
  simp only [List.length_set, rv_length] at hi
  rw [rv_get l (q + 1) i hi]
  by_cases e1 : i = l.length - 1 - q
  · rw [if_pos (by omega)]
    have : (((rv l q).set q (l.getD (l.length - 1 - q) 0)).set (l.length - 1 - q) (l.getD q 0)).getD i 0 = l.getD q 0 := by
      rw [e1]
      simp only [List.getD, List.getElem?_set_self (show l.length - 1 - q < ((rv l q).set q (l[l.length - 1 - q]?.getD 0)).length by rw [List.length_set, rv_length]; omega), Option.getD_some]
    rw [this, show l.length - 1 - i = q from by omega]
  · have h2 : (((rv l q).set q (l.getD (l.length - 1 - q) 0)).set (l.length - 1 - q) (l.getD q 0)).getD i 0 = ((rv l q).set q (l.getD (l.length - 1 - q) 0)).getD i 0 := by
      simp only [List.getD, List.getElem?_set_ne (show l.length - 1 - q ≠ i by omega)]
    rw [h2]
    by_cases e2 : i = q
    · rw [if_pos (by omega), e2]
      simp only [List.getD, List.getElem?_set_self (show q < (rv l q).length by rw [rv_length]; omega), Option.getD_some]
    · have h3 : ((rv l q).set q (l.getD (l.length - 1 - q) 0)).getD i 0 = (rv l q).getD i 0 := by
        simp only [List.getD, List.getElem?_set_ne (show q ≠ i by omega)]
      rw [h3, rv_get l q i hi]
      by_cases e3 : i < q ∨ l.length ≤ i + q
      · rw [if_pos e3, if_pos (by omega)]
      · rw [if_neg e3, if_neg (by omega)]
theorem rv_all (n k q : Nat) (h : k ≤ 2 * q + 1) : rv (dr n k) q = dl n k := by
  refine list_ext6 (by rw [rv_length, dr_length, dl_length]) fun i hi => ?_
  rw [rv_length, dr_length] at hi
  rw [rv_get _ q i (by rw [dr_length]; exact hi), dr_length, dl_get k n i hi]
  by_cases e : i < q ∨ k ≤ i + q
  · rw [if_pos e, dr_get n k _ (by omega)]
  · rw [if_neg e, dr_get n k i hi, show k - 1 - i = i from by omega]
theorem dn_iff (n least j : Nat) : j < dn n least ↔ (0 < n / 10 ^ j ∨ j < least) := by
  unfold dn
  have h1 := cnt_lt j n
  have h2 : n / 10 ^ j = 0 ↔ n < 10 ^ j := by rw [Nat.div_eq_zero_iff]; have : 0 < 10 ^ j := Nat.pow_pos (by omega); omega
  generalize n / 10 ^ j = q at *
  generalize 10 ^ j = p at *
  generalize cnt n = c at *
  rw [Nat.max_def]
  split <;> omega
theorem ic_set6 (l : List Nat) (i z : Nat) : (ic l).set i (z : Int) = ic (l.set i z) := by simp [ic, List.map_set]
theorem Head.drew {w : World} {g cap : Nat} {ys : List Int} (h : Head w g cap ys) : Head w.drew g cap ys := h
/-- string(b) of such a list. -/
theorem run_text (w : World) (g cap k : Nat) (l : List Nat) (hk : l.length = k) (hy : ∀ x ∈ l, x < 256) (h : Head w g cap (ic l)) : (convert 40 9 (.slice (some ⟨g, 0, none⟩) k cap)).run Tryz.prog w = .ok (.string (sb l)) w := by
  have := run_convert_bytes_back (P := Tryz.prog) w 40 9 5 ⟨g, 0, none⟩ cap (l.map UInt8.ofNat) Tryz.underlying40 (by kernel_rfl) (by kernel_rfl) (fun j hj => by
    have hj' : j < l.length := by simpa using hj
    rw [Addr.add_lit, Nat.zero_add, h.cell j (by rw [ic_length]; exact hj'), ic_get]
    have e : (l.map UInt8.ofNat)[j].toNat = l.getD j 0 := by
      simp [List.getD, hj']
      have := hy l[j] (List.getElem_mem hj')
      omega
    rw [e])
  rw [List.length_map, hk] at this
  exact this
def lnv : Value → Nat
  | .slice _ k _ => k
  | _ => 0
theorem dr_byte (n j : Nat) : ∀ z ∈ ic (dr n j), 0 ≤ z ∧ z ≤ 255 := by
  intro z hz
  obtain ⟨x, hx, rfl⟩ := List.mem_map.1 hz
  obtain ⟨i, _, rfl⟩ := List.mem_map.1 hx
  omega
end Go.Proofs.YtkeogggeefnoeaaGreatDoor
namespace Go.Proofs.YtkeogggeefnoeaaGreatDoor
set_option linter.unusedSimpArgs false
set_option maxRecDepth 100000
open Go.RowKit
set_option linter.unusedVariables false

theorem sb_point : (⟨#[46]⟩ : ByteArray) = sb [46] := rfl
end Go.Proofs.YtkeogggeefnoeaaGreatDoor
namespace Go.Proofs.YtkeogggeefnoeaaGreatDoor
set_option linter.unusedSimpArgs false
set_option maxRecDepth 100000
open Go.RowKit
set_option linter.unusedVariables false

/-! What a text is. -/
def zs (l : List Nat) : Nat := dv (l.take (l.length - 10))
def zn (l : List Nat) : Nat := dv (l.drop (l.length - 10 + 1))
def pok (l : List Nat) : Bool := decide (zs l ≤ 9223372036854775807 ∧ vld (zs l) (zn l) = true ∧ pr (zs l) (zn l) = l)
def xs (l : List Nat) : Int := if pok l then zs l else 0
def xn (l : List Nat) : Int := if pok l then zn l else 0
def xe (l : List Nat) : Int := if pok l then 0 else 60
theorem x_bad {l : List Nat} (h : pok l = false) : 0 = xs l ∧ 0 = xn l ∧ 60 = xe l := by unfold xs xn xe; rw [h]; exact ⟨rfl, rfl, rfl⟩
theorem x_good {l : List Nat} (h : pok l = true) : (zs l : Int) = xs l ∧ (zn l : Int) = xn l ∧ 0 = xe l := by unfold xs xn xe; rw [h]; exact ⟨rfl, rfl, rfl⟩
theorem dn9 (N : Nat) (h : N ≤ 999999999) : dn N 9 = 9 := by
  have := (cnt_lt 9 N).2 (by omega)
  unfold dn
  rw [Nat.max_def]
  split <;> omega
theorem dn19 (S : Nat) (h : S ≤ 9223372036854775807) : 1 ≤ dn S 1 ∧ dn S 1 ≤ 19 := by
  have := (cnt_lt 19 S).2 (by have : (10 : Nat) ^ 19 = 10000000000000000000 := by decide
                              omega)
  unfold dn
  rw [Nat.max_def]
  split <;> omega
/-- The shape of a stamp's text. -/
theorem pr_shape (S N : Nat) (hS : S ≤ 9223372036854775807) (hN : N ≤ 999999999) : ∃ a b, pr S N = a ++ 46 :: b ∧ a = dgs S 1 ∧ b = dgs N 9 ∧ b.length = 9 ∧ 1 ≤ a.length ∧ a.length ≤ 19 ∧ (∀ x ∈ a, 48 ≤ x ∧ x ≤ 57) ∧ (∀ x ∈ b, 48 ≤ x ∧ x ≤ 57) := by
  refine ⟨dgs S 1, dgs N 9, ?_, rfl, rfl, ?_, ?_, ?_, ?_, ?_⟩
  · unfold pr vld
    rw [if_pos (decide_eq_true ⟨by omega, by omega, by omega⟩), Int.toNat_natCast, Int.toNat_natCast]
  · unfold dgs; rw [dl_length, dn9 N hN]
  · unfold dgs; rw [dl_length]; exact (dn19 S hS).1
  · unfold dgs; rw [dl_length]; exact (dn19 S hS).2
  · exact dl_digit _ _
  · exact dl_digit _ _
theorem pok_shape (l : List Nat) (h : pok l = true) : 11 ≤ l.length ∧ l.length ≤ 29 ∧ l.getD (l.length - 10) 0 = 46 ∧ zs l ≤ 9223372036854775807 ∧ ∀ i, i < l.length → i ≠ l.length - 10 → 48 ≤ l.getD i 0 ∧ l.getD i 0 ≤ 57 := by
  obtain ⟨h1, h2, h3⟩ := of_decide_eq_true (show decide _ = true from h)
  obtain ⟨_, _, hN⟩ := of_decide_eq_true (show decide _ = true from h2)
  obtain ⟨a, b, e, _, _, hb, ha1, ha2, da, db⟩ := pr_shape (zs l) (zn l) h1 (by omega)
  rw [h3] at e
  have hl : l.length = a.length + 10 := by rw [e, List.length_append, List.length_cons, hb]
  refine ⟨by omega, by omega, ?_, h1, fun i hi hne => ?_⟩
  · rw [show l.length - 10 = a.length from by omega, e]
    simp [List.getD]
  · rw [e]
    by_cases hia : i < a.length
    · have : (a ++ 46 :: b).getD i 0 = a[i] := by simp [List.getD, List.getElem?_append_left hia, hia]
      rw [this]
      exact da _ (List.getElem_mem hia)
    · obtain ⟨k, rfl⟩ : ∃ k, i = a.length + 1 + k := ⟨i - a.length - 1, by omega⟩
      have hk : k < b.length := by omega
      have : (a ++ 46 :: b).getD (a.length + 1 + k) 0 = b[k] := by
        simp only [List.getD, List.getElem?_append_right (show a.length ≤ a.length + 1 + k by omega), show a.length + 1 + k - a.length = k + 1 from by omega, List.getElem?_cons_succ]
        simp [hk]
      rw [this]
      exact db _ (List.getElem_mem hk)
theorem dv_take (l : List Nat) (j : Nat) (h : j < l.length) : dv (l.take (j + 1)) = dv (l.take j) * 10 + (l.getD j 0 - 48) := by
  rw [List.take_succ_eq_append_getElem h, dv_snoc]
  simp [List.getD, h]
theorem dv_up (l : List Nat) (k : Nat) : ∀ j, j ≤ k → dv (l.take j) ≤ dv (l.take k) := by
  induction k with
  | zero => intro j hj; rw [show j = 0 from by omega]; exact Nat.le_refl _
  | succ k ih =>
    intro j hj
    by_cases e : j = k + 1
    · rw [e]; exact Nat.le_refl _
    · have h1 := ih j (by omega)
      by_cases hk : k < l.length
      · rw [dv_take l k hk]; omega
      · rw [List.take_of_length_le (show l.length ≤ k + 1 by omega)]
        rw [List.take_of_length_le (show l.length ≤ k by omega)] at h1
        exact h1
end Go.Proofs.YtkeogggeefnoeaaGreatDoor
namespace Go.Proofs.YtkeogggeefnoeaaGreatDoor
set_option linter.unusedSimpArgs false
set_option maxRecDepth 100000
open Go.RowKit
set_option linter.unusedVariables false

theorem dv_lt (l : List Nat) (h : ∀ x ∈ l, x ≤ 57) : dv l < 10 ^ l.length := by
  have e : ∀ (l : List Nat) (x m : Nat), (∀ z ∈ l, z ≤ 57) → x < 10 ^ m → l.foldl (fun x z => x * 10 + (z - 48)) x < 10 ^ (m + l.length) := by
    intro l
    induction l with
    | nil => intro x m _ h; exact h
    | cons b l ih =>
      intro x m hl hx
      have hb := hl b (by simp)
      have := ih (x * 10 + (b - 48)) (m + 1) (fun z hz => hl z (by simp [hz])) (by rw [Nat.pow_succ]; omega)
      rw [show m + 1 + l.length = m + (b :: l).length from by simp; omega] at this
      exact this
  have := e l 0 0 h (by decide)
  rwa [Nat.zero_add] at this
theorem pr_lt (s n : Int) : ∀ x ∈ pr s n, x < 256 := by
  intro x hx
  unfold pr at hx
  split at hx
  · rcases List.mem_append.1 hx with h | h
    · have := dl_digit _ _ x h; omega
    · rcases List.mem_cons.1 h with rfl | h
      · omega
      · have := dl_digit _ _ x h; omega
  · simp at hx
end Go.Proofs.YtkeogggeefnoeaaGreatDoor
namespace Go.Proofs.YtkeogggeefnoeaaGreatDoor
set_option linter.unusedSimpArgs false
set_option maxRecDepth 100000
open Go.RowKit
set_option linter.unusedVariables false

/-! Two numbers read sign by sign: the digits ahead of the first point, and all digits behind it. -/
def lim (p : Bool) : Nat := if p then 999999999 else 9223372036854775807
def nv (q : Nat × Nat × Bool) : Nat := if q.2.2 then q.2.1 else q.1
def nup (q : Nat × Nat × Bool) (d : Nat) : Nat × Nat × Bool := if q.2.2 then (q.1, 10 * q.2.1 + d, true) else (10 * q.1 + d, q.2.1, false)
def nst (q : Nat × Nat × Bool) (x : Nat) : Option (Nat × Nat × Bool) :=
  if x = 46 then some (q.1, q.2.1, true) else if 48 ≤ x ∧ x ≤ 57 ∧ 10 * nv q + (x - 48) ≤ lim q.2.2 then some (nup q (x - 48)) else none
def nrun (q : Nat × Nat × Bool) : List Nat → Option (Nat × Nat × Bool)
  | [] => some q
  | x :: l => match nst q x with
    | some q' => nrun q' l
    | none => none
theorem nrun_append (a b : List Nat) : ∀ q, nrun q (a ++ b) = match nrun q a with
    | some q' => nrun q' b
    | none => none := by
  induction a with
  | nil => intro q; rfl
  | cons x a ih =>
    intro q
    rw [List.cons_append, nrun, nrun]
    cases nst q x with
    | none => rfl
    | some q' => exact ih q'
theorem nrun_snoc (a : List Nat) (x : Nat) (q q' : Nat × Nat × Bool) (h : nrun q a = some q') : nrun q (a ++ [x]) = nst q' x := by
  rw [nrun_append, h]
  show nrun q' [x] = _
  rw [nrun]
  cases nst q' x <;> rfl
theorem take_snoc6 (l : List Nat) (j : Nat) (h : j < l.length) : l.take (j + 1) = l.take j ++ [l.getD j 0] := by
  rw [List.take_succ_eq_append_getElem h]
  simp [List.getD, h]
theorem nrun_take (l : List Nat) (j : Nat) (q q' : Nat × Nat × Bool) (hj : j < l.length) (h : nrun q (l.take j) = some q') : nrun q (l.take (j + 1)) = nst q' (l.getD j 0) := by
  rw [take_snoc6 l j hj]
  exact nrun_snoc _ _ _ _ h
theorem nrun_stop (l : List Nat) (j : Nat) (q q' : Nat × Nat × Bool) (hj : j < l.length) (h : nrun q (l.take j) = some q') (hn : nst q' (l.getD j 0) = none) : nrun q l = none := by
  have e := nrun_take l j q q' hj h
  rw [hn] at e
  have : nrun q (l.take (j + 1) ++ l.drop (j + 1)) = none := by rw [nrun_append, e]
  rwa [List.take_append_drop] at this
theorem nrun_bound (l : List Nat) : ∀ q q', nrun q l = some q' → q.1 ≤ 9223372036854775807 → q.2.1 ≤ 999999999 → q'.1 ≤ 9223372036854775807 ∧ q'.2.1 ≤ 999999999 := by
  induction l with
  | nil => intro q q' h h1 h2; rw [nrun] at h; cases h; exact ⟨h1, h2⟩
  | cons x l ih =>
    intro q q' h h1 h2
    rw [nrun] at h
    cases e : nst q x with
    | none => rw [e] at h; cases h
    | some r =>
      rw [e] at h
      have hr : r.1 ≤ 9223372036854775807 ∧ r.2.1 ≤ 999999999 := by
        obtain ⟨s, n, p⟩ := q
        unfold nst nup nv lim at e
        by_cases hx : x = 46
        · rw [if_pos hx] at e; cases e; exact ⟨h1, h2⟩
        · rw [if_neg hx] at e
          cases p with
          | true =>
            simp only [if_true] at e
            by_cases hc : 48 ≤ x ∧ x ≤ 57 ∧ 10 * n + (x - 48) ≤ 999999999
            · rw [if_pos hc] at e; cases e; exact ⟨h1, hc.2.2⟩
            · rw [if_neg hc] at e; cases e
          | false =>
            simp only [Bool.false_eq_true, if_false] at e
            by_cases hc : 48 ≤ x ∧ x ≤ 57 ∧ 10 * s + (x - 48) ≤ 9223372036854775807
            · rw [if_pos hc] at e; cases e; exact ⟨hc.2.2, h2⟩
            · rw [if_neg hc] at e; cases e
      exact ih r q' h hr.1 hr.2
theorem nrun_sec (a : List Nat) (n : Nat) (hd : ∀ x ∈ a, 48 ≤ x ∧ x ≤ 57) (hb : dv a ≤ 9223372036854775807) : ∀ j, j ≤ a.length → nrun (0, n, false) (a.take j) = some (dv (a.take j), n, false) := by
  intro j
  induction j with
  | zero => intro _; rw [List.take_zero]; rfl
  | succ j ih =>
    intro hj
    have hj' : j < a.length := by omega
    have hx := hd _ (List.getElem_mem hj')
    rw [nrun_take a j _ _ hj' (ih (by omega)), dv_take a j hj']
    have e : a.getD j 0 = a[j] := by simp [List.getD, hj']
    have hu := dv_up a a.length (j + 1) (by omega)
    rw [List.take_length, dv_take a j hj'] at hu
    rw [e] at *
    generalize a[j] = x at *
    unfold nst nup nv lim
    rw [if_neg (by omega)]
    simp only [Bool.false_eq_true, if_false]
    rw [if_pos ⟨hx.1, hx.2, by omega⟩, Nat.mul_comm]
theorem nrun_nano (b : List Nat) (s : Nat) (hd : ∀ x ∈ b, 48 ≤ x ∧ x ≤ 57) (hb : dv b ≤ 999999999) : ∀ j, j ≤ b.length → nrun (s, 0, true) (b.take j) = some (s, dv (b.take j), true) := by
  intro j
  induction j with
  | zero => intro _; rw [List.take_zero]; rfl
  | succ j ih =>
    intro hj
    have hj' : j < b.length := by omega
    have hx := hd _ (List.getElem_mem hj')
    rw [nrun_take b j _ _ hj' (ih (by omega)), dv_take b j hj']
    have e : b.getD j 0 = b[j] := by simp [List.getD, hj']
    have hu := dv_up b b.length (j + 1) (by omega)
    rw [List.take_length, dv_take b j hj'] at hu
    rw [e] at *
    generalize b[j] = x at *
    unfold nst nup nv lim
    rw [if_neg (by omega)]
    simp only [if_true]
    rw [if_pos ⟨hx.1, hx.2, by omega⟩, Nat.mul_comm]
/-- A stamp's text is read as the stamp. -/
theorem nrun_pr (S N : Nat) (hS : S ≤ 9223372036854775807) (hN : N ≤ 999999999) : nrun (0, 0, false) (pr S N) = some (S, N, true) := by
  obtain ⟨a, b, e, ea, eb, hb9, ha1, ha2, da, db⟩ := pr_shape S N hS hN
  have vS : dv a = S := by rw [ea]; exact dv_dgs S 1
  have vN : dv b = N := by rw [eb]; exact dv_dgs N 9
  have h1 := nrun_sec a 0 da (by omega) a.length (Nat.le_refl _)
  have h2 := nrun_nano b S db (by omega) b.length (Nat.le_refl _)
  rw [List.take_length, vS] at h1
  rw [List.take_length, vN] at h2
  rw [e, nrun_append, h1]
  show nrun (S, 0, false) (46 :: b) = _
  rw [nrun]
  have e46 : nst (S, 0, false) 46 = some (S, 0, true) := rfl
  rw [e46]
  exact h2
theorem z_pr (S N : Nat) (hS : S ≤ 9223372036854775807) (hN : N ≤ 999999999) : zs (pr S N) = S ∧ zn (pr S N) = N := by
  obtain ⟨a, b, e, ea, eb, hb9, ha1, ha2, da, db⟩ := pr_shape S N hS hN
  have vS : dv a = S := by rw [ea]; exact dv_dgs S 1
  have vN : dv b = N := by rw [eb]; exact dv_dgs N 9
  have hl : (pr S N).length = a.length + 10 := by rw [e, List.length_append, List.length_cons, hb9]
  unfold zs zn
  rw [hl, show a.length + 10 - 10 = a.length from by omega, e]
  refine ⟨by rw [List.take_left, vS], ?_⟩
  have : (a ++ 46 :: b).drop (a.length + 1) = b := by
    rw [← List.drop_drop, List.drop_left]
    rfl
  rw [this, vN]
theorem vld_nat (S N : Nat) (hN : N ≤ 999999999) : vld S N = true := decide_eq_true ⟨by omega, by omega, by omega⟩
theorem pok_pr (S N : Nat) (hS : S ≤ 9223372036854775807) (hN : N ≤ 999999999) : pok (pr S N) = true := by
  obtain ⟨e1, e2⟩ := z_pr S N hS hN
  unfold pok
  rw [e1, e2]
  exact decide_eq_true ⟨hS, vld_nat S N hN, rfl⟩
theorem nrun_pok (l : List Nat) (h : pok l = true) : nrun (0, 0, false) l = some (zs l, zn l, true) := by
  obtain ⟨h1, h2, h3⟩ := of_decide_eq_true (show decide _ = true from h)
  obtain ⟨_, _, hN⟩ := of_decide_eq_true (show decide _ = true from h2)
  have := nrun_pr (zs l) (zn l) h1 (by omega)
  rwa [h3] at this
/-- What the reading answers. -/
def us (l : List Nat) : Int := match nrun (0, 0, false) l with
  | some q => (q.1 : Int)
  | none => 0
def un (l : List Nat) : Int := match nrun (0, 0, false) l with
  | some q => (q.2.1 : Int)
  | none => 0
def uo (l : List Nat) : Bool := (nrun (0, 0, false) l).isSome
theorem u_some {l : List Nat} {q : Nat × Nat × Bool} (h : nrun (0, 0, false) l = some q) : us l = (q.1 : Int) ∧ un l = (q.2.1 : Int) ∧ uo l = true := by unfold us un uo; rw [h]; exact ⟨rfl, rfl, rfl⟩
theorem u_none {l : List Nat} (h : nrun (0, 0, false) l = none) : us l = 0 ∧ un l = 0 ∧ uo l = false := by unfold us un uo; rw [h]; exact ⟨rfl, rfl, rfl⟩
/-- Taken just where the text is the one of what was read. -/
theorem u_good {l : List Nat} (ho : uo l = true) (hp : pr (us l) (un l) = l) : us l = xs l ∧ un l = xn l ∧ 0 = xe l := by
  cases e : nrun (0, 0, false) l with
  | none => rw [(u_none e).2.2] at ho; cases ho
  | some q =>
    obtain ⟨e1, e2, _⟩ := u_some e
    obtain ⟨b1, b2⟩ := nrun_bound l _ _ e (by show 0 ≤ _; omega) (by show 0 ≤ _; omega)
    rw [e1, e2] at hp
    have hk := pok_pr q.1 q.2.1 b1 b2
    obtain ⟨z1, z2⟩ := z_pr q.1 q.2.1 b1 b2
    rw [hp] at hk z1 z2
    obtain ⟨x1, x2, x3⟩ := x_good hk
    rw [e1, e2, ← x1, ← x2, z1, z2]
    exact ⟨rfl, rfl, x3⟩
theorem u_bad {l : List Nat} (h : uo l = false ∨ pr (us l) (un l) ≠ l) : 0 = xs l ∧ 0 = xn l ∧ 60 = xe l := by
  apply x_bad
  cases hk : pok l with
  | false => rfl
  | true =>
    have e := nrun_pok l hk
    obtain ⟨e1, e2, e3⟩ := u_some e
    obtain ⟨h1, h2, h3⟩ := of_decide_eq_true (show decide _ = true from hk)
    rcases h with h | h
    · rw [e3] at h; cases h
    · exact absurd (by rw [e1, e2]; exact h3) h
theorem u_in (l : List Nat) : (0 ≤ us l ∧ us l ≤ 9223372036854775807) ∧ 0 ≤ un l ∧ un l ≤ 999999999 := by
  cases e : nrun (0, 0, false) l with
  | none => obtain ⟨e1, e2, _⟩ := u_none e; rw [e1, e2]; omega
  | some q =>
    obtain ⟨e1, e2, _⟩ := u_some e
    obtain ⟨b1, b2⟩ := nrun_bound l _ _ e (by show 0 ≤ _; omega) (by show 0 ≤ _; omega)
    rw [e1, e2]
    omega
end Go.Proofs.YtkeogggeefnoeaaGreatDoor
namespace Go.Proofs.YtkeogggeefnoeaaGreatDoor
set_option linter.unusedSimpArgs false
set_option maxRecDepth 100000
set_option linter.unusedVariables false

/-! What chapters 6 and 7 tell of their texts. -/
theorem st_back (s n : Int) (h : vld s n = true) (hs : s ≤ 9223372036854775807) : xs (pr s n) = s ∧ xn (pr s n) = n ∧ xe (pr s n) = 0 := by
  obtain ⟨h1, h2, h3⟩ := of_decide_eq_true (show decide _ = true from h)
  have e1 : ((s.toNat : Nat) : Int) = s := by omega
  have e2 : ((n.toNat : Nat) : Int) = n := by omega
  have hk := pok_pr s.toNat n.toNat (by omega) (by omega)
  have hz := z_pr s.toNat n.toNat (by omega) (by omega)
  rw [e1, e2] at hk hz
  obtain ⟨q1, q2, q3⟩ := x_good hk
  rw [← q1, ← q2, ← q3, hz.1, hz.2]
  exact ⟨e1, e2, rfl⟩
theorem st_fore (l : List Nat) (h : xe l = 0) : vld (xs l) (xn l) = true ∧ pr (xs l) (xn l) = l ∧ xs l ≤ 9223372036854775807 := by
  cases hk : pok l
  · have := (x_bad hk).2.2
    rw [h] at this
    omega
  · obtain ⟨q1, q2, q3⟩ := x_good hk
    obtain ⟨h1, h2, h3⟩ := of_decide_eq_true (show decide _ = true from hk)
    rw [← q1, ← q2]
    exact ⟨h2, h3, by omega⟩
theorem st_chars (s n : Int) (h : vld s n = true) : 2 ≤ (pr s n).length ∧ ∀ x ∈ pr s n, 46 ≤ x ∧ x ≤ 57 := by
  unfold pr
  rw [if_pos h]
  have h1 := dl_length (dn s.toNat 1) s.toNat
  have h2 := dl_length (dn n.toNat 9) n.toNat
  have h3 : 9 ≤ dn n.toNat 9 := Nat.le_max_left _ _
  refine ⟨?_, fun x hx => ?_⟩
  · rw [List.length_append, List.length_cons]
    unfold dgs
    omega
  · rcases List.mem_append.1 hx with hx | hx
    · have := dl_digit _ _ x hx; omega
    · rcases List.mem_cons.1 hx with rfl | hx
      · omega
      · have := dl_digit _ _ x hx; omega
theorem pf_back (F H L B : Int) (hv : vp F H L B = true) (hH : InU H) (hL : InU L) : rF (tp F H L B) = F ∧ rH (tp F H L B) = H ∧ rL (tp F H L B) = L ∧ rB (tp F H L B) = B ∧ rE (tp F H L B) = 0 := (pk_tp hv hH hL).2
theorem pf_fore (l : List Nat) (h : rE l = 0) : vp (rF l) (rH l) (rL l) (rB l) = true ∧ tp (rF l) (rH l) (rL l) (rB l) = l ∧ InU (rH l) ∧ InU (rL l) := by
  cases hk : pk l
  · have := (r_bad hk).2.2.2.2
    rw [h] at this
    omega
  · obtain ⟨q1, q2, q3, q4, q5⟩ := r_good hk
    obtain ⟨h1, h2, h3, h4⟩ := of_decide_eq_true (show decide _ = true from hk)
    have ha := a_in (x0 l)
    unfold rT at h4
    rw [q1, q2, q3, q4] at h4
    rw [← q2, ← q3] at *
    refine ⟨?_, h4, ha.1, ha.2⟩
    cases hv : vp (rF l) (aH (x0 l)) (aL (x0 l)) (rB l)
    · exfalso
      unfold tp at h4
      rw [if_neg (by rw [hv]; simp)] at h4
      rw [← h4] at h2
      simp [cu, cq] at h2
    · rfl
theorem dgs_in (n : Nat) : ∀ x ∈ dgs n 1, 46 ≤ x ∧ x ≤ 102 := fun x hx => by have := dl_digit _ _ x hx; omega
theorem hx_in {a : Nat} (h : a < 256) : ∀ x ∈ hx a, 46 ≤ x ∧ x ≤ 102 := fun x h' => by
  unfold hx at h'
  have h1 := hd_lt (a / 16) (by omega)
  have h2 := hd_lt (a % 16) (by omega)
  simp at h'
  rcases h' with rfl | rfl <;> omega
theorem pc_in (n : Nat) (l : List Nat) (hl : ∀ x ∈ l, x < 256) (i : Nat) : ∀ x ∈ pc n l i, 46 ≤ x ∧ x ≤ 102 := by
  intro x h
  have hi : l.getD i 0 < 256 := getD_lt6 hl i
  unfold pc at h
  split at h
  · rcases List.mem_append.1 h with h | h
    · split at h
      · rw [List.mem_singleton.1 h]; omega
      · simp at h
    · exact dgs_in _ x h
  · rcases List.mem_append.1 h with h | h
    · split at h
      · rw [List.mem_singleton.1 h]; omega
      · simp at h
    · exact hx_in hi x h
theorem ta_in (F H L : Int) : ∀ x ∈ ta F H L, 46 ≤ x ∧ x ≤ 102 := by
  intro x h
  unfold ta tx txj at h
  obtain ⟨i, _, h⟩ := List.mem_flatMap.1 h
  exact pc_in _ _ (nl_lt (pa_byte F H L)) i x h
theorem pf_chars (F H L B : Int) (h : vp F H L B = true) : 2 ≤ (tp F H L B).length ∧ ∀ x ∈ tp F H L B, 46 ≤ x ∧ x ≤ 102 := by
  unfold tp
  rw [if_pos h]
  have h1 := dl_length (dn B.toNat 1) B.toNat
  have h3 : 1 ≤ dn B.toNat 1 := Nat.le_max_left _ _
  refine ⟨?_, fun x hx => ?_⟩
  · rw [List.length_append, List.length_cons]
    unfold dgs
    omega
  · rcases List.mem_append.1 hx with hx | hx
    · exact ta_in F H L x hx
    · rcases List.mem_cons.1 hx with rfl | hx
      · omega
      · exact dgs_in _ x hx
end Go.Proofs.YtkeogggeefnoeaaGreatDoor
namespace Go.Proofs.YtkeogggeefnoeaaGreatDoor
set_option linter.unusedSimpArgs false
set_option maxRecDepth 100000
set_option linter.unusedVariables false

/-! Chapter 22, pure: lines and words. -/
def blk (x : Nat) : Bool := decide (x = 32 ∨ x = 9)
def wch (x : Nat) : Bool := decide (33 ≤ x ∧ x ≤ 126)
/-- The part of a line ahead of a comment. -/
def said : List Nat → List Nat
  | [] => []
  | x :: l => if x = 35 then [] else x :: said l
def sgood (l : List Nat) : Bool := (said l).all fun x => blk x || wch x
/-- What stands between blanks. -/
def spl (cur : List Nat) : List Nat → List (List Nat)
  | [] => if cur = [] then [] else [cur]
  | x :: l => if blk x then (if cur = [] then spl [] l else cur :: spl [] l) else spl (cur ++ [x]) l
def wds (l : List Nat) : List (List Nat) := spl [] (said l)
/-- Words with one space between. -/
def jsp : List (List Nat) → List Nat
  | [] => []
  | n :: ws => n ++ ws.flatMap (32 :: ·)
/-- A word. -/
def Wd (w : List Nat) : Prop := w ≠ [] ∧ ∀ x ∈ w, wch x = true ∧ x ≠ 35
theorem wch_blk {x : Nat} (h : wch x = true) : blk x = false := by
  have := of_decide_eq_true (show decide _ = true from h)
  exact decide_eq_false (by omega)
theorem said_id : ∀ l : List Nat, (∀ x ∈ l, x ≠ 35) → said l = l
  | [], _ => rfl
  | x :: l, h => by
    unfold said
    rw [if_neg (h x List.mem_cons_self), said_id l fun y hy => h y (List.mem_cons_of_mem _ hy)]
theorem said_cut : ∀ (l m : List Nat), (∀ x ∈ l, x ≠ 35) → said (l ++ m) = l ++ said m
  | [], m, _ => rfl
  | x :: l, m, h => by
    show said (x :: (l ++ m)) = x :: (l ++ said m)
    rw [said, if_neg (h x List.mem_cons_self), said_cut l m fun y hy => h y (List.mem_cons_of_mem _ hy)]
theorem spl_word : ∀ (w cur l : List Nat), (∀ x ∈ w, wch x = true) → spl cur (w ++ l) = spl (cur ++ w) l
  | [], cur, l, _ => by simp
  | x :: w, cur, l, h => by
    show spl cur (x :: (w ++ l)) = _
    rw [show cur ++ x :: w = (cur ++ [x]) ++ w from by simp]
    rw [← spl_word w (cur ++ [x]) l fun y hy => h y (List.mem_cons_of_mem _ hy)]
    rw [spl]
    rw [if_neg (by rw [wch_blk (h x List.mem_cons_self)]; simp)]
theorem spl_rest : ∀ (ws : List (List Nat)) (cur : List Nat), cur ≠ [] → (∀ w ∈ ws, Wd w) → spl cur (ws.flatMap (32 :: ·)) = cur :: ws
  | [], cur, h, _ => by show spl cur [] = _; rw [spl, if_neg h]
  | w :: ws, cur, h, hw => by
    have h1 := hw w List.mem_cons_self
    show spl cur (32 :: (w ++ ws.flatMap (32 :: ·))) = _
    rw [spl, if_pos (by decide), if_neg h, spl_word w [] _ fun x hx => (h1.2 x hx).1]
    rw [spl_rest ws _ (by simpa using h1.1) fun y hy => hw y (List.mem_cons_of_mem _ hy)]
    rfl
theorem jsp_no {ws : List (List Nat)} (h : ∀ w ∈ ws, Wd w) : ∀ x ∈ jsp ws, x = 32 ∨ (wch x = true ∧ x ≠ 35) := by
  intro x hx
  cases ws with
  | nil => simp [jsp] at hx
  | cons n ws =>
    rcases List.mem_append.1 hx with hx | hx
    · exact .inr ((h n List.mem_cons_self).2 x hx)
    · obtain ⟨w, hw, hx⟩ := List.mem_flatMap.1 hx
      rcases List.mem_cons.1 hx with hx | hx
      · exact .inl hx
      · exact .inr ((h w (List.mem_cons_of_mem _ hw)).2 x hx)
/-- Words that were written are read. -/
theorem wds_jsp (ws : List (List Nat)) (h : ∀ w ∈ ws, Wd w) : sgood (jsp ws) = true ∧ wds (jsp ws) = ws := by
  have hs : said (jsp ws) = jsp ws := said_id _ fun x hx => (jsp_no h x hx).elim (fun e => by omega) (·.2)
  refine ⟨?_, ?_⟩
  · unfold sgood
    rw [hs, List.all_eq_true]
    intro x hx
    rcases jsp_no h x hx with rfl | e
    · decide
    · rw [e.1]; simp
  · unfold wds
    rw [hs]
    cases ws with
    | nil => rfl
    | cons n ws =>
      have h1 := h n List.mem_cons_self
      show spl [] (n ++ _) = _
      rw [spl_word n [] _ fun x hx => (h1.2 x hx).1]
      exact spl_rest ws _ (by simpa using h1.1) fun y hy => h y (List.mem_cons_of_mem _ hy)
theorem spl_wd : ∀ (l cur : List Nat), (∀ x ∈ cur, wch x = true ∧ x ≠ 35) → (∀ x ∈ l, (blk x || wch x) = true ∧ x ≠ 35) → ∀ w ∈ spl cur l, Wd w
  | [], cur, h, _, w, hw => by
    rw [spl] at hw
    split at hw
    · simp at hw
    · rename_i h0
      rw [List.mem_singleton.1 hw]
      exact ⟨h0, h⟩
  | x :: l, cur, h, hl, w, hw => by
    have hl' : ∀ y ∈ l, (blk y || wch y) = true ∧ y ≠ 35 := fun y hy => hl y (List.mem_cons_of_mem _ hy)
    have hx := hl x List.mem_cons_self
    rw [spl] at hw
    split at hw
    · split at hw
      · exact spl_wd l [] (by simp) hl' w hw
      · rename_i h0
        rcases List.mem_cons.1 hw with rfl | hw
        · exact ⟨h0, h⟩
        · exact spl_wd l [] (by simp) hl' w hw
    · rename_i hb
      refine spl_wd l _ (fun y hy => ?_) hl' w hw
      rcases List.mem_append.1 hy with hy | hy
      · exact h y hy
      · rw [List.mem_singleton.1 hy]
        refine ⟨?_, hx.2⟩
        have := hx.1
        cases hb' : blk x
        · simpa [hb'] using this
        · exact absurd hb' hb
theorem said_no : ∀ l : List Nat, ∀ x ∈ said l, x ≠ 35
  | [], x, hx => by simp [said] at hx
  | y :: l, x, hx => by
    unfold said at hx
    split at hx
    · simp at hx
    · rename_i h0
      rcases List.mem_cons.1 hx with rfl | hx
      · exact h0
      · exact said_no l x hx
theorem wds_wd {l : List Nat} (h : sgood l = true) : ∀ w ∈ wds l, Wd w := by
  refine spl_wd _ [] (by simp) fun x hx => ⟨?_, said_no l x hx⟩
  unfold sgood at h
  rw [List.all_eq_true] at h
  exact h x hx
/-! Numbers, hex, bits. -/
def numv (w : List Nat) : Option Nat := if dgs (dv w) 1 = w ∧ dv w ≤ 4294967295 then some (dv w) else none
theorem numv_dgs {n : Nat} (h : n ≤ 4294967295) : numv (dgs n 1) = some n := by
  unfold numv
  rw [dv_dgs, if_pos ⟨rfl, h⟩]
theorem numv_some {w : List Nat} {n : Nat} (h : numv w = some n) : dgs n 1 = w ∧ n ≤ 4294967295 := by
  unfold numv at h
  split at h
  · rename_i h0
    cases h
    exact h0
  · simp at h
def hdv (x : Nat) : Option Nat := if 48 ≤ x ∧ x ≤ 57 then some (x - 48) else if 97 ≤ x ∧ x ≤ 102 then some (x - 87) else if 65 ≤ x ∧ x ≤ 70 then some (x - 55) else none
def hxp : List Nat → Option (List Nat)
  | [] => some []
  | [_] => none
  | a :: b :: l => match hdv a, hdv b, hxp l with
    | some x, some y, some r => some ((16 * x + y) :: r)
    | _, _, _ => none
def hexv (w : List Nat) : Option (List Nat) := if w = [45] then some [] else hxp w
/-- Bytes as hex. -/
def hxt (b : List Nat) : List Nat := if b = [] then [45] else b.flatMap hx
theorem hdL_lt {x : Nat} (h : x < 16) : hdv (hd x) = some x ∧ wch (hd x) = true ∧ hd x ≠ 35 := by
  unfold hdv hd wch
  by_cases h9 : x < 10
  · rw [if_pos h9, if_pos (by omega), decide_eq_true (by omega)]
    exact ⟨by congr 1; omega, rfl, by omega⟩
  · rw [if_neg h9, if_neg (by omega), if_pos (by omega), decide_eq_true (by omega)]
    exact ⟨by congr 1; omega, rfl, by omega⟩
theorem hdv_lt {x y : Nat} (h : hdv x = some y) : y < 16 := by
  unfold hdv at h
  split at h
  · cases h; omega
  · split at h
    · cases h; omega
    · split at h
      · cases h; omega
      · simp at h
theorem hxp_hx : ∀ b : List Nat, (∀ x ∈ b, x < 256) → hxp (b.flatMap hx) = some b
  | [], _ => rfl
  | x :: b, h => by
    have hx' := h x List.mem_cons_self
    have ih := hxp_hx b fun y hy => h y (List.mem_cons_of_mem _ hy)
    show hxp (hd (x / 16) :: hd (x % 16) :: b.flatMap hx) = _
    rw [hxp, (hdL_lt (show x / 16 < 16 by omega)).1, (hdL_lt (show x % 16 < 16 by omega)).1, ih]
    simp only
    congr 2
    omega
theorem hexv_hxt (b : List Nat) (h : ∀ x ∈ b, x < 256) : hexv (hxt b) = some b := by
  unfold hexv hxt
  by_cases h0 : b = []
  · rw [if_pos h0, if_pos rfl, h0]
  · rw [if_neg h0, if_neg]
    · exact hxp_hx b h
    · intro e
      cases b with
      | nil => exact h0 rfl
      | cons x b => simp [hx] at e
theorem hxp_lt : ∀ (w b : List Nat), hxp w = some b → ∀ x ∈ b, x < 256
  | [], b, h, x, hx => by cases h; simp at hx
  | [_], b, h, x, hx => by simp [hxp] at h
  | p :: q :: l, b, h, x, hx => by
    rw [hxp] at h
    split at h
    · rename_i u v r h1 h2 h3
      cases h
      rcases List.mem_cons.1 hx with rfl | hx
      · have := hdv_lt h1; have := hdv_lt h2; omega
      · exact hxp_lt l r h3 x hx
    · simp at h
theorem hexv_lt {w b : List Nat} (h : hexv w = some b) : ∀ x ∈ b, x < 256 := by
  unfold hexv at h
  split at h
  · cases h; simp
  · exact hxp_lt w b h
theorem hxt_wd (b : List Nat) (h : ∀ x ∈ b, x < 256) : Wd (hxt b) := by
  unfold hxt
  split
  · exact ⟨by simp, by decide⟩
  · rename_i h0
    refine ⟨?_, fun x hx' => ?_⟩
    · cases b with
      | nil => simp at h0
      | cons y b => simp [hx]
    · obtain ⟨y, hy, hx'⟩ := List.mem_flatMap.1 hx'
      have := h y hy
      simp only [hx, List.mem_cons, List.not_mem_nil, or_false] at hx'
      rcases hx' with rfl | rfl
      · exact (hdL_lt (show y / 16 < 16 by omega)).2
      · exact (hdL_lt (show y % 16 < 16 by omega)).2
def btp : List Nat → Option (List Bool)
  | [] => some []
  | x :: l => if x = 48 ∨ x = 49 then (btp l).map (decide (x = 49) :: ·) else none
def bitv (w : List Nat) : Option (List Bool) := if w = [45] then some [] else btp w
def b1 (b : Bool) : Nat := if b then 49 else 48
def bitt (b : List Bool) : List Nat := if b = [] then [45] else b.map b1
theorem btp_map : ∀ b : List Bool, btp (b.map b1) = some b
  | [] => rfl
  | x :: b => by
    show btp (b1 x :: b.map b1) = _
    rw [btp, btp_map b]
    cases x <;> rfl
theorem bitv_bitt (b : List Bool) : bitv (bitt b) = some b := by
  unfold bitv bitt
  by_cases h0 : b = []
  · rw [if_pos h0, if_pos rfl, h0]
  · rw [if_neg h0, if_neg]
    · exact btp_map b
    · intro e
      cases b with
      | nil => exact h0 rfl
      | cons x b => cases x <;> simp [b1] at e
theorem bitt_wd (b : List Bool) : Wd (bitt b) := by
  unfold bitt
  split
  · exact ⟨by simp, by decide⟩
  · rename_i h0
    refine ⟨by simpa using h0, fun x hx => ?_⟩
    obtain ⟨y, _, rfl⟩ := List.mem_map.1 hx
    cases y <;> exact ⟨by decide, by decide⟩
end Go.Proofs.YtkeogggeefnoeaaGreatDoor
