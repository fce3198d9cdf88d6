import Derived.Test.YtajjilheellfeaaDoorS3
import Derived.Laws.IdiomStrings
namespace Go.Proofs.YtajjilheellfeaaDoor
open Go.RowKit
set_option linter.unusedVariables false

/-- Numbers as a text. -/
def sb (l : List Nat) : ByteArray := ⟨(l.map UInt8.ofNat).toArray⟩
def ic (l : List Nat) : List Int := l.map fun x : Nat => (x : Int)
theorem ic_length (l : List Nat) : (ic l).length = l.length := by simp [ic]
theorem ic_get (l : List Nat) (i : Nat) : (ic l).getD i 0 = ((l.getD i 0 : Nat) : Int) := by
  simp only [ic, List.getD, List.getElem?_map]
  cases l[i]? <;> rfl
/-- The j lowest digits, the lowest first. -/
def dr (n j : Nat) : List Nat := (List.range j).map fun i => 48 + n / 10 ^ i % 10
theorem dr_length (n j : Nat) : (dr n j).length = j := by simp [dr]
theorem dr_get (n j i : Nat) (h : i < j) : (dr n j).getD i 0 = 48 + n / 10 ^ i % 10 := by simp [dr, List.getD, h]
theorem dr_more (n j : Nat) : cells (ic (dr n j)) ++ [.int .u8 ((48 + n / 10 ^ j % 10 : Nat) : Int)] = cells (ic (dr n (j + 1))) := by
  unfold dr
  rw [List.range_succ, List.map_append]
  simp [cells, ic]
theorem dl_get (k : Nat) : ∀ (n i : Nat), i < k → (dl n k).getD i 0 = 48 + n / 10 ^ (k - 1 - i) % 10 := by
  induction k with
  | zero => intro n i h; omega
  | succ k ih =>
    intro n i hi
    rw [dl]
    by_cases e : i < k
    · have h1 : (dl (n / 10) k ++ [48 + n % 10]).getD i 0 = (dl (n / 10) k).getD i 0 := by simp only [List.getD, List.getElem?_append_left (show i < (dl (n / 10) k).length by rw [dl_length]; exact e)]
      rw [h1, ih (n / 10) i e, Nat.div_div_eq_div_mul, show k + 1 - 1 - i = (k - 1 - i) + 1 from by omega, Nat.pow_succ, Nat.mul_comm 10]
    · have e' : i = k := by omega
      subst e'
      have h1 : (dl (n / 10) i ++ [48 + n % 10]).getD i 0 = 48 + n % 10 := by
        simp only [List.getD, List.getElem?_append_right (show (dl (n / 10) i).length ≤ i by rw [dl_length]; exact Nat.le_refl _), dl_length, Nat.sub_self]
        rfl
      rw [h1]
      simp
/-- The list with its first and last q places exchanged. -/
def rv (l : List Nat) (q : Nat) : List Nat := (List.range l.length).map fun i => if i < q ∨ l.length ≤ i + q then l.getD (l.length - 1 - i) 0 else l.getD i 0
theorem rv_length (l : List Nat) (q : Nat) : (rv l q).length = l.length := by simp [rv]
theorem rv_get (l : List Nat) (q i : Nat) (h : i < l.length) : (rv l q).getD i 0 = if i < q ∨ l.length ≤ i + q then l.getD (l.length - 1 - i) 0 else l.getD i 0 := by simp [rv, List.getD, h]
theorem list_ext6 {a b : List Nat} (hl : a.length = b.length) (h : ∀ i, i < a.length → a.getD i 0 = b.getD i 0) : a = b := by
  apply List.ext_getElem hl
  intro i h1 h2
  have := h i h1
  simpa [List.getD, h1, h2] using this
theorem rv_zero (l : List Nat) : rv l 0 = l := by
  refine list_ext6 (rv_length l 0) fun i hi => ?_
  rw [rv_length] at hi
  rw [rv_get l 0 i hi, if_neg (by omega)]
theorem rv_step (l : List Nat) (q : Nat) (h : 2 * q + 1 < l.length) : ((rv l q).set q (l.getD (l.length - 1 - q) 0)).set (l.length - 1 - q) (l.getD q 0) = rv l (q + 1) := by
  refine list_ext6 (by simp [rv_length]) fun i hi => ?_
  simp only [List.length_set, rv_length] at hi
  rw [rv_get l (q + 1) i hi]
  by_cases e1 : i = l.length - 1 - q
  · rw [if_pos (by omega)]
    have : (((rv l q).set q (l.getD (l.length - 1 - q) 0)).set (l.length - 1 - q) (l.getD q 0)).getD i 0 = l.getD q 0 := by
      rw [e1]
      simp only [List.getD, List.getElem?_set_self (show l.length - 1 - q < ((rv l q).set q (l[l.length - 1 - q]?.getD 0)).length by rw [List.length_set, rv_length]; omega), Option.getD_some]
    rw [this, show l.length - 1 - i = q from by omega]
  · have h2 : (((rv l q).set q (l.getD (l.length - 1 - q) 0)).set (l.length - 1 - q) (l.getD q 0)).getD i 0 = ((rv l q).set q (l.getD (l.length - 1 - q) 0)).getD i 0 := by
      simp only [List.getD, List.getElem?_set_ne (show l.length - 1 - q ≠ i by omega)]
    rw [h2]
    by_cases e2 : i = q
    · rw [if_pos (by omega), e2]
      simp only [List.getD, List.getElem?_set_self (show q < (rv l q).length by rw [rv_length]; omega), Option.getD_some]
    · have h3 : ((rv l q).set q (l.getD (l.length - 1 - q) 0)).getD i 0 = (rv l q).getD i 0 := by
        simp only [List.getD, List.getElem?_set_ne (show q ≠ i by omega)]
      rw [h3, rv_get l q i hi]
      by_cases e3 : i < q ∨ l.length ≤ i + q
      · rw [if_pos e3, if_pos (by omega)]
      · rw [if_neg e3, if_neg (by omega)]
theorem rv_all (n k q : Nat) (h : k ≤ 2 * q + 1) : rv (dr n k) q = dl n k := by
  refine list_ext6 (by rw [rv_length, dr_length, dl_length]) fun i hi => ?_
  rw [rv_length, dr_length] at hi
  rw [rv_get _ q i (by rw [dr_length]; exact hi), dr_length, dl_get k n i hi]
  by_cases e : i < q ∨ k ≤ i + q
  · rw [if_pos e, dr_get n k _ (by omega)]
  · rw [if_neg e, dr_get n k i hi, show k - 1 - i = i from by omega]
theorem dn_iff (n least j : Nat) : j < dn n least ↔ (0 < n / 10 ^ j ∨ j < least) := by
  unfold dn
  have h1 := cnt_lt j n
  have h2 : n / 10 ^ j = 0 ↔ n < 10 ^ j := by rw [Nat.div_eq_zero_iff]; have : 0 < 10 ^ j := Nat.pow_pos (by omega); omega
  generalize n / 10 ^ j = q at *
  generalize 10 ^ j = p at *
  generalize cnt n = c at *
  rw [Nat.max_def]
  split <;> omega
theorem ic_set6 (l : List Nat) (i z : Nat) : (ic l).set i (z : Int) = ic (l.set i z) := by simp [ic, List.map_set]
theorem Head.drew {w : World} {g cap : Nat} {ys : List Int} (h : Head w g cap ys) : Head w.drew g cap ys := h
/-- string(b) of such a list. -/
theorem run_text (w : World) (g cap k : Nat) (l : List Nat) (hk : l.length = k) (hy : ∀ x ∈ l, x < 256) (h : Head w g cap (ic l)) : (convert 29 9 (.slice (some ⟨g, 0, none⟩) k cap)).run Tryd.prog w = .ok (.string (sb l)) w := by
  have := run_convert_bytes_back (P := Tryd.prog) w 29 9 5 ⟨g, 0, none⟩ cap (l.map UInt8.ofNat) Tryd.underlying29 (by kernel_rfl) (by kernel_rfl) (fun j hj => by
    have hj' : j < l.length := by simpa using hj
    rw [Addr.add_lit, Nat.zero_add, h.cell j (by rw [ic_length]; exact hj'), ic_get]
    have e : (l.map UInt8.ofNat)[j].toNat = l.getD j 0 := by
      simp [List.getD, hj']
      have := hy l[j] (List.getElem_mem hj')
      omega
    rw [e])
  rw [List.length_map, hk] at this
  exact this
def lnv : Value → Nat
  | .slice _ k _ => k
  | _ => 0
theorem dr_byte (n j : Nat) : ∀ z ∈ ic (dr n j), 0 ≤ z ∧ z ≤ 255 := by
  intro z hz
  obtain ⟨x, hx, rfl⟩ := List.mem_map.1 hz
  obtain ⟨i, _, rfl⟩ := List.mem_map.1 hx
  omega
set_option maxHeartbeats 1000000 in
theorem refDigits_ (n least : Nat) (w : World) (hn : n ≤ 9223372036854775807) (hl : least ≤ 20) (hl1 : 1 ≤ least) :
    Calls Tryd.prog 33 #[.int .i64 n, .int .i64 least] w fun e w' => e = .returned (.string (sb (dgs n least))) ∧ Below w.heap.size w w' := by
  obtain ⟨i, hi, hz0, hz1, hz2⟩ := info_parts info5
  have HDN : Hid (dn n least ≤ 20) := by
    show _ ≤ _
    have := (cnt_lt 19 n).2 (by have : (10 : Nat) ^ 19 = 10000000000000000000 := by decide
                                omega)
    unfold dn
    rw [Nat.max_def]
    split <;> omega
  go_enter Tryd.func33, Tryd.ntmps33
  go_wp2_with fail
  go_loopw [0, 5] (fun q v wr => ∃ j : Nat, j ≤ dn n least ∧ q = .int .i64 ((n / 10 ^ j : Nat) : Int) ∧ wr.ownsRow w.heap.size 5 1 v j (cells (ic (dr n j))) ∧ Below w.heap.size w wr) (fun _ v _ => 20 - lnv v)
  case atStart => exact ⟨0, by omega, by simp, World.ownsRow_nil _ _ _ _, Below.refl _ _⟩
  case round =>
    obtain ⟨j, hj, rfl, hown, B0⟩ := hrel
    have hsz := B0.size
    have HDI := hid (dn_iff n least j)
    by_cases hlt : j < dn n least
    · have HS := hid (dr_more n j)
      have hq9 : n / 10 ^ j ≤ 9223372036854775807 := Nat.le_trans (Nat.div_le_self _ _) hn
      have HQ : Hid (n / 10 ^ (j + 1) = n / 10 ^ j / 10) := by show _ = _; rw [Nat.pow_succ, Nat.div_div_eq_div_mul]
      have hor := HDI.out.1 hlt
      obtain ⟨va, vc, rfl, _, _, _, _⟩ := own_form hown (dr_byte n j)
      obtain ⟨q, Hq⟩ : ∃ q, Hid (n / 10 ^ j = q) := ⟨_, rfl⟩
      rw [Hq.out] at hq9 HQ hor HS ⊢
      rw [show ((48 + q % 10 : Nat) : Int) = 48 + (q : Int) % 10 from by omega] at HS
      have hr : (q : Int) % 10 < 10 ∧ 0 ≤ (q : Int) % 10 := by omega
      have HO := hid hown
      have HD20 := HDN.out
      obtain ⟨z, hz⟩ : ∃ z, 48 + (q : Int) % 10 = z := ⟨_, rfl⟩
      rw [hz] at HS
      have HZ := hid hz
      clear hz
      by_cases hpos : 0 < q
      · have hposI : (0 : Int) < (q : Int) := by omega
        go_wp2_with (at_builtin; refine wpList_append_own _ rfl _ _ 29 rfl w.heap.size 5 i (.int .u8 0) 1 1 Tryd.underlying29 hi hz0 hz1 hz2 rfl (by decide) _ _ _ rfl (hown.alloc _) ⟨wr.heap.size, 0, none⟩ 1 1 [.int .u8 (48 + (q : Int) % 10)] rfl rfl ?c1 ?c2 ?c3 ?c4 ?c5 ?_)
        case c1 =>
          intro j u hj
          match j, hj with
          | 0, hj => simp at hj; subst hj; simp [Addr.add]
        case c2 => intro u hu; simp at hu; subst hu; rfl
        case c3 => unfold maxLen; omega
        case c4 => omega
        case c5 => simp; omega
        intro v' w2 hown' hgrow _
        rw [HZ.out, HS.out] at hown'
        have B2 : Below w.heap.size w w2 := (B0.alloc (by omega) _).grown hgrow (by simp; omega) fun q hq => (HO.out.lt q hq).1
        obtain ⟨va', vc', rfl, _, _, _, _⟩ := own_form hown' (dr_byte n (j + 1))
        clear hgrow hown HO HS
        go_wp2_with fail
        go_roundw
        case rel => exact ⟨j + 1, by omega, by rw [HQ.out]; go_num, hown', B2⟩
        case measure => show 20 - (j + 1) < 20 - j; omega
      · obtain rfl : q = 0 := by omega
        have hz48 : z = 48 := by have := HZ.out; omega
        subst hz48
        have hlI : (j : Int) < (least : Int) := by omega
        go_wp2_with (at_builtin; refine wpList_append_own _ rfl _ _ 29 rfl w.heap.size 5 i (.int .u8 0) 1 1 Tryd.underlying29 hi hz0 hz1 hz2 rfl (by decide) _ _ _ rfl (hown.alloc _) ⟨wr.heap.size, 0, none⟩ 1 1 [.int .u8 48] rfl rfl ?c1 ?c2 ?c3 ?c4 ?c5 ?_)
        case c1 =>
          intro j u hj
          match j, hj with
          | 0, hj => simp at hj; subst hj; simp [Addr.add]
        case c2 => intro u hu; simp at hu; subst hu; rfl
        case c3 => unfold maxLen; omega
        case c4 => omega
        case c5 => simp; omega
        intro v' w2 hown' hgrow _
        rw [HS.out] at hown'
        have B2 : Below w.heap.size w w2 := (B0.alloc (by omega) _).grown hgrow (by simp; omega) fun q hq => (HO.out.lt q hq).1
        obtain ⟨va', vc', rfl, _, _, _, _⟩ := own_form hown' (dr_byte n (j + 1))
        clear hgrow hown HO HS
        go_wp2_with fail
        go_roundw
        case rel => exact ⟨j + 1, by omega, by rw [HQ.out]; rfl, hown', B2⟩
        case measure => show 20 - (j + 1) < 20 - j; omega
    · have hnot := fun h => hlt (HDI.out.2 h)
      have hq0 : n / 10 ^ j = 0 := by
        by_cases h : 0 < n / 10 ^ j
        · exact absurd (.inl h) hnot
        · exact Nat.eq_zero_of_not_pos h
      have hjl : ¬ j < least := fun h => hnot (.inr h)
      rw [hq0]
      have hjI : ¬ (j : Int) < (least : Int) := by omega
      have HK : Hid (dl n j = dgs n least) := by show _ = _; unfold dgs; rw [show j = dn n least from by omega]
      obtain ⟨g, cap, rfl, hcp, hcm, hgb, hh, hlen⟩ := own_head hown (by omega)
      have HD20 := HDN.out
      clear hown hnot hlt hq0 hjl HDI
      obtain ⟨wo, rfl⟩ : ∃ wo, wo = wr := ⟨_, rfl⟩
      go_wp2_with fail
      go_loopw [6, 7] (fun a b wr => ∃ q p : Nat, q + p + 1 = j ∧ a = .int .i64 q ∧ b = .int .i64 p ∧ Head wr g cap (ic (rv (dr n j) q)) ∧ Below w.heap.size w wr) (fun a b _ => (intOf b).toNat)
      case atStart => exact ⟨0, j - 1, by omega, rfl, by go_num, by rw [rv_zero]; exact hh, B0⟩
      case round =>
        clear hh B0
        obtain ⟨q, p, hqp, rfl, rfl, hh, B0⟩ := hrel
        have HL : Hid ((dr n j).length = j) := dr_length n j
        by_cases hlt : q < p
        · have hltI : (q : Int) < (p : Int) := by omega
          have x1 : (q : Int) < (j : Int) := by omega
          have x2 : (p : Int) < (j : Int) := by omega
          have c1 := hh.cell q (by rw [ic_length, rv_length, HL.out]; omega)
          have c2 := hh.cell p (by rw [ic_length, rv_length, HL.out]; omega)
          have f1 := hh.unfrozen q
          have f2 := hh.unfrozen p
          rw [ic_get, rv_get _ _ _ (by rw [HL.out]; omega), if_neg (by rw [HL.out]; omega)] at c1 c2
          have H2 := (hh.drew.set q ((dr n j).getD p 0 : Nat)).set p ((dr n j).getD q 0 : Nat)
          have HST := hid (rv_step (dr n j) q (by rw [HL.out]; omega))
          rw [ic_set6, ic_set6] at H2
          rw [HL.out, show j - 1 - q = p from by omega] at HST
          rw [HST.out] at H2
          have B2 : Below w.heap.size w ((wr.drew.setCell ⟨g, q, none⟩ (.int .u8 ((dr n j).getD p 0 : Nat))).setCell ⟨g, p, none⟩ (.int .u8 ((dr n j).getD q 0 : Nat))) := ((B0.drew).setCell hgb _).setCell hgb _
          have HQP := hid hqp
          clear hh B0 HST hqp
          generalize (dr n j).getD p 0 = y at *
          generalize (dr n j).getD q 0 = x at *
          go_wp2_with fail
          go_region
          go_wp2_with fail
          go_roundw
          case rel => exact ⟨q + 1, p - 1, by have := HQP.out; omega, by go_num, by go_num, H2, B2⟩
          case measure => simp [intOf]; omega
        · have hltI : ¬ (q : Int) < (p : Int) := by omega
          rw [rv_all n j q (by omega), HK.out] at hh
          have hcv := run_text wr g cap j (dgs n least) (by rw [← HK.out, dl_length]) (fun x hx => by rw [← HK.out] at hx; have := dl_digit j n x hx; omega) hh
          obtain ⟨D, HD⟩ : ∃ D, Hid (dgs n least = D) := ⟨_, rfl⟩
          rw [HD.out] at hcv
          go_wp2_with fail
          go_ret
          exact ⟨by rw [HD.out]; rfl, B0⟩
end Go.Proofs.YtajjilheellfeaaDoor
