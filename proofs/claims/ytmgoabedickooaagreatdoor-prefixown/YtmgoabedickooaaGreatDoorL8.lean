import Derived.Test.YtmgoabedickooaaGreatDoorL7
import Derived.Lib.ConvBytes
import Derived.Laws.Closers25
import Derived.Laws.Closers25b
namespace Go.Proofs.YtmgoabedickooaaGreatDoor
set_option maxRecDepth 100000
open Go.RowKit
set_option linter.unusedVariables false

/-- A sign with its bit 32 set. -/
def lw (c : Nat) : Nat := (bits BinOp.or .u8 (c : Int) 32).toNat
theorem lw_eq (c : Nat) : bits BinOp.or .u8 (c : Int) 32 = ((lw c : Nat) : Int) := by
  have := bits_lo_u8 .or (c : Int) 32
  unfold lw
  omega
theorem lw_lt (c : Nat) : lw c < 256 := by
  have h0 := bits_lo_u8 .or (c : Int) 32
  have h1 := bits_hi_u8 .or (c : Int) 32
  unfold lw
  omega
/-- A sign as a digit to the base 16, small or big. -/
def hv (c : Nat) : Option Nat := if 48 ≤ c ∧ c ≤ 57 then some (c - 48) else if 97 ≤ lw c ∧ lw c ≤ 102 then some (lw c - 87) else none
/-- ParseUint(.., 16, 16). -/
def ph (acc : Nat) : List Nat → Option Nat
  | [] => some acc
  | c :: r => match hv c with
    | none => none
    | some d => if 65535 < acc * 16 + d then none else ph (acc * 16 + d) r
def q16 (l : List Nat) : Option Nat := if l = [] then none else ph 0 l
theorem bytes_at (w : World) (l : List Nat) (hy : ∀ x ∈ l, x < 256) (j : Nat) (hj : j < l.length) : (Lib.bytesWorld w 5 (sb l)).cell? ⟨w.heap.size, j, none⟩ = some (.int .u8 ((l.getD j 0 : Nat) : Int)) := by
  rw [Lib.bytesWorld_cell w 5 (sb l) j (by rw [sb_size]; exact hj), sb_data]
  have : ((l.map UInt8.ofNat).getD j 0).toNat = l.getD j 0 := by
    simp [List.getD, hj]
    have := hy l[j] (List.getElem_mem hj)
    omega
  rw [this]
/-- What a ParseUint answers: the number, or an error. -/
def PuR (q : Option Nat) (e : Ending) : Prop :=
  match q with
  | some u => e = .returned (.tuple #[.int .u64 (u : Nat), .nilIface])
  | none => ∃ (u k : Int), (k = 1 ∨ k = 2) ∧ e = .returned (.tuple #[.int .u64 u, .iface 221 (.int .i64 k)])
set_option maxHeartbeats 4000000 in
theorem puI16_ (l : List Nat) (w : World) (hy : ∀ x ∈ l, x < 256) (hl : l.length ≤ maxLen) (hne : l ≠ []) :
    Calls Tryz.prog 209 #[.string (sb l), .int .i64 16, .int .i64 16] w fun e w' => PuR (ph 0 l) e ∧ w' = Lib.bytesWorld w 5 (sb l) := by
  have hemp : (sb l).toList.isEmpty = false := by
    rw [toList_data, sb_data]
    cases l with
    | nil => exact absurd rfl hne
    | cons x r => rfl
  have hcv := Lib.run_convert_string_bytes (P := Tryz.prog) w 9 44 5 (sb l) (u := .string) (by kernel_rfl) Tryz.underlying44 (by kernel_rfl)
  have hB := bytes_at w l hy
  have hsz := sb_size l
  obtain ⟨W1, hW1⟩ : ∃ W1, Lib.bytesWorld w 5 (sb l) = W1 := ⟨_, rfl⟩
  rw [hW1] at hcv hB ⊢
  clear hW1 hne
  obtain ⟨S, HS⟩ : ∃ S, Hid (sb l = S) := ⟨_, rfl⟩
  rw [HS.out] at hemp hcv hsz ⊢
  obtain ⟨n, HL⟩ : ∃ n, Hid (l.length = n) := ⟨_, rfl⟩
  rw [HL.out] at hsz hl
  simp only [HL.out] at hB
  unfold maxLen at hl
  have hmv : IntKind.u64.wrap (IntKind.u64.wrap 65536 - 1) = 65535 := by
    rw [IntKind.wrap_u64, IntKind.wrap_u64]
    decide
  go_enter Tryz.func209, Tryz.ntmps209
  go_wp2_with fail
  go_loop [12, 13, 101] (fun vu vn vi => ∃ (k acc : Nat) (a : Int), vu = .bool false ∧ vn = .int .u64 a ∧ vi = .int .i64 k ∧ k ≤ n ∧ Hid (a = (acc : Int) ∧ acc ≤ 65535 ∧ ph 0 l = ph acc (l.drop k))) (fun _ _ vi => n - (intOf vi).toNat)
  case atStart => exact ⟨0, 0, 0, rfl, rfl, rfl, by omega, rfl, by omega, rfl⟩
  case round =>
    obtain ⟨k, acc, a, rfl, rfl, rfl, hk, hh⟩ := hrel
    obtain ⟨ha, hacc, hph⟩ := hh.out
    have HH := hid hph
    clear hh hph
    have a0 : 0 ≤ a := by omega
    have a1 : a ≤ 65535 := by omega
    by_cases hkn : k < n
    · have hc := hB k hkn
      have hdrop : l.drop k = l.getD k 0 :: l.drop (k + 1) := by
        have h' : k < l.length := by rw [HL.out]; exact hkn
        rw [List.drop_eq_getElem_cons h']
        simp [List.getD, h']
      have hc256 : l.getD k 0 < 256 := getD_lt6 hy k
      have HE : Hid (ph 0 l = match hv (l.getD k 0) with
        | none => none
        | some d => if 65535 < acc * 16 + d then none else ph (acc * 16 + d) (l.drop (k + 1))) := by
        show _ = _
        rw [HH.out, hdrop]
        rfl
      have hlw := lw_lt (l.getD k 0)
      have HV : Hid (hv (l.getD k 0) = if 48 ≤ l.getD k 0 ∧ l.getD k 0 ≤ 57 then some (l.getD k 0 - 48) else if 97 ≤ lw (l.getD k 0) ∧ lw (l.getD k 0) ≤ 102 then some (lw (l.getD k 0) - 87) else none) := rfl
      have kl : ∀ w, Calls Tryz.prog 224 #[.int .u8 ((l.getD k 0 : Nat) : Int)] w fun e w' => e = .returned (.int .u8 ((lw (l.getD k 0) : Nat) : Int)) ∧ w' = w := fun w => by
        rw [← lw_eq]
        exact Tryz.internal_strconv_lower _ w
      clear hdrop hB HH
      have Hlw : Hid (∀ z, l.getD k 0 = z → lw z = lw (l.getD k 0)) := fun z h => by rw [h]
      generalize lw (l.getD k 0) = y at *
      generalize l.getD k 0 = c at *
      have hI : (k : Int) < (n : Int) := by omega
      by_cases hdig : 48 ≤ c ∧ c ≤ 57
      · obtain ⟨hd0, hd1⟩ := hdig
        have e95 : ((c : Int) == 95) = false := by simp; omega
        have i0 : (48 : Int) ≤ (c : Int) := by omega
        have i1 : (c : Int) ≤ 57 := by omega
        rw [HV.out, if_pos ⟨hd0, hd1⟩] at HE
        have HE2 : Hid (ph 0 l = if 65535 < acc * 16 + (c - 48) then none else ph (acc * 16 + (c - 48)) (l.drop (k + 1))) := HE
        clear HE HV kl
        by_cases hov : 65535 < acc * 16 + (c - 48)
        · rw [if_pos hov] at HE2
          have iov : 65535 < a * 16 + ((c : Int) - 48) := by omega
          clear hov hacc ha hd0 hd1
          go_wp2_with fail
          go_ret2
          refine ⟨?_, rfl⟩
          rw [HE2.out]
          exact ⟨_, _, .inl rfl, rfl⟩
        · rw [if_neg hov] at HE2
          have iov : a * 16 + ((c : Int) - 48) ≤ 65535 := by omega
          have HN : Hid (a * 16 + ((c : Int) - 48) = ((acc * 16 + (c - 48) : Nat) : Int) ∧ acc * 16 + (c - 48) ≤ 65535 ∧ ph 0 l = ph (acc * 16 + (c - 48)) (l.drop (k + 1))) := ⟨by omega, by omega, HE2.out⟩
          clear hov hacc ha hd0 hd1
          go_wp2_with fail
          refine ⟨⟨k + 1, acc * 16 + (c - 48), a * 16 + ((c : Int) - 48), rfl, (by first | rfl | (congr 1; omega)), (by first | rfl | (congr 1; omega)), by omega, HN⟩, by simp [intOf]; omega⟩
      · rw [HV.out, if_neg hdig] at HE
        clear HV
        by_cases h95 : c = 95
        · obtain rfl : y = 127 := by
            have h1 := Hlw.out 95 h95
            have h2 : lw 95 = 127 := by decide
            omega
          subst h95
          rw [if_neg (by omega)] at HE
          have HE2 : Hid (ph 0 l = none) := HE
          have kl9 : ∀ w, Calls Tryz.prog 224 #[.int .u8 95] w fun e w' => e = .returned (.int .u8 127) ∧ w' = w := kl
          clear HE hacc ha kl Hlw
          go_wp2_with (go_at_call 224; refine (kl9 _).mono ?_; rintro e w' ⟨rfl, rfl⟩)
          all_goals
            go_ret2
            refine ⟨?_, rfl⟩
            rw [HE2.out]
            exact ⟨_, _, .inr rfl, rfl⟩
        have e95 : ((c : Int) == 95) = false := by simp; omega
        clear Hlw
        by_cases hlet : 97 ≤ y ∧ y ≤ 102
        · obtain ⟨hl0, hl1⟩ := hlet
          rw [if_pos ⟨hl0, hl1⟩] at HE
          have HE2 : Hid (ph 0 l = if 65535 < acc * 16 + (y - 87) then none else ph (acc * 16 + (y - 87)) (l.drop (k + 1))) := HE
          clear HE
          have j0 : (97 : Int) ≤ (y : Int) := by omega
          have j1 : (y : Int) ≤ 102 := by omega
          by_cases hov : 65535 < acc * 16 + (y - 87)
          · rw [if_pos hov] at HE2
            have iov : 65535 < a * 16 + ((y : Int) - 97 + 10) := by omega
            clear hov hacc ha hl0 hl1
            go_wp2_with (go_at_call 224; refine (kl _).mono ?_; rintro e w' ⟨rfl, rfl⟩)
            all_goals
              go_ret2
              refine ⟨?_, rfl⟩
              rw [HE2.out]
              exact ⟨_, _, .inl rfl, rfl⟩
          · rw [if_neg hov] at HE2
            have iov : a * 16 + ((y : Int) - 97 + 10) ≤ 65535 := by omega
            have HN : Hid (a * 16 + ((y : Int) - 97 + 10) = ((acc * 16 + (y - 87) : Nat) : Int) ∧ acc * 16 + (y - 87) ≤ 65535 ∧ ph 0 l = ph (acc * 16 + (y - 87)) (l.drop (k + 1))) := ⟨by omega, by omega, HE2.out⟩
            clear hov hacc ha hl0 hl1
            go_wp2_with (go_at_call 224; refine (kl _).mono ?_; rintro e w' ⟨rfl, rfl⟩)
            all_goals
              refine ⟨⟨k + 1, acc * 16 + (y - 87), a * 16 + ((y : Int) - 97 + 10), rfl, (by first | rfl | (congr 1; omega)), (by first | rfl | (congr 1; omega)), by omega, HN⟩, by simp [intOf]; omega⟩
        · rw [if_neg hlet] at HE
          have HE2 : Hid (ph 0 l = none) := HE
          clear HE hacc ha
          go_wp2_with (go_at_call 224; refine (kl _).mono ?_; rintro e w' ⟨rfl, rfl⟩)
          all_goals
            go_ret2
            refine ⟨?_, rfl⟩
            rw [HE2.out]
            exact ⟨_, _, .inr rfl, rfl⟩
    · obtain rfl : k = n := by omega
      subst ha
      have HE : Hid (ph 0 l = some acc) := by
        show _ = _
        rw [HH.out, List.drop_of_length_le (by rw [HL.out]; exact Nat.le_refl _)]
        rfl
      clear HH hB
      go_wp2_with fail
      go_ret2
      refine ⟨?_, rfl⟩
      rw [HE.out]
      rfl
end Go.Proofs.YtmgoabedickooaaGreatDoor
