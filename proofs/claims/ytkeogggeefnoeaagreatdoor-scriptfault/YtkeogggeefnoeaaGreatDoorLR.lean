import Derived.Test.YtkeogggeefnoeaaGreatDoorM5
import Derived.Test.YtkeogggeefnoeaaGreatDoorCodeS
import Derived.Shelf.RegionOpenPlain
import Derived.Lib.ConvBytes
import Derived.Laws.Closers25
import Derived.Laws.Closers25b
import Derived.RangeFuncFrom
import Derived.RangeFuncNested
import Derived.RangeFuncBound
import Derived.RangeFuncCalls
import Derived.RangeFuncLeaves
import Derived.Shelf.Abstract
import Derived.Shelf.RegionOpen
import Derived.WalkKit
import Derived.OwnWalkIn
import Derived.TacticsInMore
import Derived.LoopNIn
import Derived.LoopIn
import Derived.OrdersIn
import Derived.OrdersHeld
import Derived.Deep.RegionHeld
import Derived.StillTail
import Derived.StillTailTactics
namespace Go.Proofs.YtkeogggeefnoeaaGreatDoor
set_option linter.unusedSimpArgs false
open Go.RowKit
set_option linter.unusedVariables false
set_option maxRecDepth 100000

section
variable {Kk : Nat → Obj → Prop} {w0 w : World} {g : Nat} {T : List Nat} {V : Nat → Prop}
theorem Pw.mono0 {r : R (List (List Nat))} {e : Ending} {w' : World} (h : Pw Kk w0 g T r e w') : Below w0.heap.size w0 w' := by
  cases r with
  | ok ws => exact h.2.bel
  | error x => exact h.2.2
set_option maxHeartbeats 4000000 in
theorem changeField_ (h : Pg Kk w0 w g T) (hT : Tb w0) (x : CD) (hx : InC x.c) (hv : Vc w0 V x) (hl : x.c.key.length ≤ 140737488355328) (f : Nat) (hf : cLet f) :
    Calls Tryz.prog 105 #[.pointer (some ⟨g, 0, none⟩), cdv x, .int .i32 (f : Int)] w fun e w' => Pw Kk w0 g T (cTx x.c f) e w' := by
  obtain ⟨⟨kd, lk, sd, key, F, H, L, B⟩, a, p⟩ := x
  unfold cdv
  simp only at hl ⊢
  have HC := hid (Cv.new w ⟨⟨kd, lk, sd, key, F, H, L, B⟩, a, p⟩)
  simp only at HC
  have hv : Vs w0 V a key.length p (ic key) := hv
  obtain ⟨n, HN⟩ : ∃ z, Hid (key.length = z) := ⟨_, rfl⟩
  rw [HN.out] at HC hv hl ⊢
  have HB := hid ((Below.refl w.heap.size w).alloc (Nat.le_refl _) (.cells #[.int .i64 kd, .int .i64 lk, .int .i64 sd, .slice a n p, .int .i64 F, .int .u64 H, .int .u64 L, .int .i64 B] 70))
  have HP := hid (h.on HB.out)
  obtain ⟨w1, HW1⟩ : ∃ z, Hid (w.alloc (.cells #[.int .i64 kd, .int .i64 lk, .int .i64 sd, .slice a n p, .int .i64 F, .int .u64 H, .int .u64 L, .int .i64 B] 70) = z) := ⟨_, rfl⟩
  obtain ⟨cg, HCG⟩ : ∃ z, Hid (w.heap.size = z) := ⟨_, rfl⟩
  rw [HW1.out] at HC HB HP
  rw [HCG.out] at HC
  have HX := hid hx
  have q1 : w1.cell? ⟨cg, 1, none⟩ = some (.int .i64 lk) := HC.out.c 1
  have q2 : w1.cell? ⟨cg, 2, none⟩ = some (.int .i64 sd) := HC.out.c 2
  have q3 : w1.cell? ⟨cg, 3, none⟩ = some (.slice a n p) := by have := HC.out.c 3; simp only [cdc, List.getElem?_cons_succ, List.getElem?_cons_zero, HN.out] at this; exact this
  have q4 : w1.cell? ⟨cg, 4, none⟩ = some (.int .i64 F) := HC.out.c 4
  have q5 : w1.cell? ⟨cg, 5, none⟩ = some (.int .u64 H) := HC.out.c 5
  have q6 : w1.cell? ⟨cg, 6, none⟩ = some (.int .u64 L) := HC.out.c 6
  have q7 : w1.cell? ⟨cg, 7, none⟩ = some (.int .i64 B) := HC.out.c 7
  clear h
  rcases hf with rfl | rfl | rfl | rfl
  · show Calls _ _ _ _ fun e w' => Pw Kk w0 g T (nTx lk) e w'
    rw [show ((108 : Nat) : Int) = 108 from rfl]
    have k1 := changeNumber_ cg 108 w1
    rw [if_pos rfl] at k1
    have k2 := number_ HP.out hT lk HX.out.lk
    obtain ⟨r, HR⟩ : ∃ z, Hid (nTx lk = z) := ⟨_, rfl⟩
    rw [HR.out] at k2 ⊢
    clear q2 q3 q4 q5 q6 q7 hv hx
    go_enter Tryz.func105, Tryz.ntmps105
    go_upto_region 1 with fail
    rw [HW1.out, HCG.out]
    go_wp2_with fail
    refine k1.mono ?_
    rintro e w2 ⟨rfl, hw⟩
    obtain rfl := hw.symm
    clear k1
    go_wp2_with fail
    refine k2.mono ?_
    intro e w3 h3
    cases r with
    | ok ws =>
      obtain ⟨rfl, h3⟩ := h3
      have H3 := hid h3
      clear k2 h3
      go_wp2_with fail
      go_ret
      exact ⟨rfl, H3.out⟩
    | error y =>
      obtain ⟨rfl, h3⟩ := h3
      have H3 := hid h3
      clear k2 h3
      go_wp2_with fail
      go_ret
      exact ⟨rfl, H3.out⟩
  · show Calls _ _ _ _ fun e w' => Pw Kk w0 g T (nTx sd) e w'
    rw [show ((115 : Nat) : Int) = 115 from rfl]
    have k1 := changeNumber_ cg 115 w1
    rw [if_neg (by decide)] at k1
    have k2 := number_ HP.out hT sd HX.out.sd
    obtain ⟨r, HR⟩ : ∃ z, Hid (nTx sd = z) := ⟨_, rfl⟩
    rw [HR.out] at k2 ⊢
    clear q1 q3 q4 q5 q6 q7 hv hx
    go_enter Tryz.func105, Tryz.ntmps105
    go_upto_region 1 with fail
    rw [HW1.out, HCG.out]
    go_wp2_with fail
    refine k1.mono ?_
    rintro e w2 ⟨rfl, hw⟩
    obtain rfl := hw.symm
    clear k1
    go_wp2_with fail
    refine k2.mono ?_
    intro e w3 h3
    cases r with
    | ok ws =>
      obtain ⟨rfl, h3⟩ := h3
      have H3 := hid h3
      clear k2 h3
      go_wp2_with fail
      go_ret
      exact ⟨rfl, H3.out⟩
    | error y =>
      obtain ⟨rfl, h3⟩ := h3
      have H3 := hid h3
      clear k2 h3
      go_wp2_with fail
      go_ret
      exact ⟨rfl, H3.out⟩
  · show Calls _ _ _ _ fun e w' => Pw Kk w0 g T (.ok [hxt key]) e w'
    rw [show ((75 : Nat) : Int) = 75 from rfl]
    have k2 := hex_ HP.out key a n p hv hl
    clear q1 q2 q4 q5 q6 q7 hv hx
    go_enter Tryz.func105, Tryz.ntmps105
    go_upto_region 1 with fail
    rw [HW1.out, HCG.out]
    go_wp2_with fail
    refine k2.mono ?_
    rintro e w3 ⟨rfl, h3⟩
    have H3 := hid h3
    clear k2 h3
    go_wp2_with fail
    go_ret
    exact ⟨rfl, by rw [spw_one]; exact H3.out⟩
  · show Calls _ _ _ _ fun e w' => Pw Kk w0 g T (if vp F H L B then .ok [tp F H L B] else .error 70) e w'
    rw [show ((80 : Nat) : Int) = 80 from rfl]
    have k2 := prefixP_ HP.out hT F H L B HX.out.f HX.out.h HX.out.l HX.out.b
    obtain ⟨r, HR⟩ : ∃ z, Hid ((if vp F H L B then .ok [tp F H L B] else .error 70 : R (List (List Nat))) = z) := ⟨_, rfl⟩
    rw [HR.out] at k2 ⊢
    clear q1 q2 q3 hv hx
    go_enter Tryz.func105, Tryz.ntmps105
    go_upto_region 1 with fail
    rw [HW1.out, HCG.out]
    go_wp2_with fail
    refine k2.mono ?_
    intro e w3 h3
    cases r with
    | ok ws =>
      obtain ⟨rfl, h3⟩ := h3
      have H3 := hid h3
      clear k2 h3
      go_wp2_with fail
      go_ret
      exact ⟨rfl, H3.out⟩
    | error y =>
      obtain ⟨rfl, h3⟩ := h3
      have H3 := hid h3
      clear k2 h3
      go_wp2_with fail
      go_ret
      exact ⟨rfl, H3.out⟩
end
end Go.Proofs.YtkeogggeefnoeaaGreatDoor
namespace Go.Proofs.YtkeogggeefnoeaaGreatDoor
set_option linter.unusedSimpArgs false
set_option maxRecDepth 100000
open Go.RowKit
set_option linter.unusedVariables false

/-- Where the first c lies; the length where there is none. -/
def ix (c : Nat) : List Nat → Nat
  | [] => 0
  | x :: r => if x = c then 0 else ix c r + 1
theorem ix_le (c : Nat) (l : List Nat) : ix c l ≤ l.length := by
  induction l with
  | nil => exact Nat.le_refl _
  | cons x r ih => rw [ix]; split <;> simp <;> omega
theorem ofNat_inj {x c : Nat} (hx : x < 256) (hc : c < 256) : UInt8.ofNat x = UInt8.ofNat c ↔ x = c := by
  constructor
  · intro h
    have := congrArg UInt8.toNat h
    simp at this
    omega
  · intro h; rw [h]
theorem index_ix (c : Nat) (hc : c < 256) (l : List Nat) (hy : ∀ x ∈ l, x < 256) : Lib.indexByte (l.map UInt8.ofNat) (UInt8.ofNat c) = if ix c l < l.length then (ix c l : Int) else -1 := by
  induction l with
  | nil => rfl
  | cons x r ih =>
    have ih := ih (fun z hz => hy z (by simp [hz]))
    have hx := ofNat_inj (hy x (by simp)) hc
    rw [List.map_cons, Lib.indexByte, ix]
    by_cases e : x = c
    · subst e
      simp
    · have e2 : ¬ UInt8.ofNat x = UInt8.ofNat c := fun h => e (hx.1 h)
      have e3 : ¬ c = x := fun h => e h.symm
      rw [ih, if_neg e]
      by_cases h : ix c r < r.length
      · simp [e2, h]
        try omega
      · simp [e2, h]
        try omega
theorem sb_data (l : List Nat) : (sb l).data.toList = l.map UInt8.ofNat := by simp [sb]
set_option maxHeartbeats 1000000 in
theorem cutL_ (c : Nat) (l : List Nat) (w : World) (hc : c < 256) (hy : ∀ x ∈ l, x < 256) (hl : l.length ≤ maxLen) :
    Calls Tryz.prog 49 #[.string (sb l), .string ⟨#[UInt8.ofNat c]⟩] w fun e w' => e = .returned (.tuple #[.string (sb (l.take (ix c l))), .string (sb (l.drop (ix c l + 1))), .bool (decide (ix c l < l.length))]) ∧ ∃ nq, w' = w.drewN nq := by
  have hI := fun w => Tryz.stringslite_Index_one (sb l) (UInt8.ofNat c) w
  rw [sb_data, index_ix c hc l hy] at hI
  have hle := ix_le c l
  have hs := sb_size l
  have HX := hid (fun a b => sb_cut l a b)
  by_cases hf : ix c l < l.length
  · rw [if_pos hf] at hI
    rw [decide_eq_true hf]
    have H1 : Hid ((sb l).extract 0 (ix c l) = sb (l.take (ix c l))) := by show _ = _; rw [HX.out, List.drop_zero]
    have H2 : Hid ((sb l).extract (ix c l + 1) l.length = sb (l.drop (ix c l + 1))) := by show _ = _; rw [HX.out, List.take_of_length_le (Nat.le_refl _)]
    generalize sb (l.take (ix c l)) = A at *
    generalize sb (l.drop (ix c l + 1)) = D at *
    generalize ix c l = i at *
    generalize sb l = S at *
    generalize l.length = n at *
    unfold maxLen at hl
    have c1 : (0 : Int) ≤ ↑i := by omega
    have c2 : (↑i : Int) ≤ ↑S.size := by omega
    have c3 : (0 : Int) ≤ ↑i + 1 := by omega
    have c4 : (↑i + 1 : Int) ≤ ↑S.size := by omega
    generalize UInt8.ofNat c = c8 at *
    go_enter Tryz.func49, Tryz.ntmps49
    go_wp2_with (go_at_call 64; refine (hI _).mono ?_; rintro e w' ⟨rfl, rfl⟩)
    go_region
    go_wp2_with fail
    go_ret3
    refine ⟨?_, 1, rfl⟩
    rw [← H1.out, ← H2.out]
    rw [← hs]
    rfl
  · rw [if_neg hf] at hI
    rw [decide_eq_false hf]
    have hi : ix c l = l.length := by omega
    rw [hi, List.take_of_length_le (Nat.le_refl _), List.drop_of_length_le (by omega)]
    generalize sb l = S at *
    generalize UInt8.ofNat c = c8 at *
    go_enter Tryz.func49, Tryz.ntmps49
    go_wp2_with (go_at_call 64; refine (hI _).mono ?_; rintro e w' ⟨rfl, rfl⟩)
    go_ret3
    exact ⟨rfl, 0, rfl⟩
set_option maxHeartbeats 400000 in
theorem cut_ (c : Nat) (l : List Nat) (w : World) (hc : c < 256) (hy : ∀ x ∈ l, x < 256) (hl : l.length ≤ maxLen) :
    Calls Tryz.prog 31 #[.string (sb l), .string ⟨#[UInt8.ofNat c]⟩] w fun e w' => e = .returned (.tuple #[.string (sb (l.take (ix c l))), .string (sb (l.drop (ix c l + 1))), .bool (decide (ix c l < l.length))]) ∧ ∃ nq, w' = w.drewN nq := by
  have k := fun w => cutL_ c l w hc hy hl
  go_enter Tryz.func31, Tryz.ntmps31
  go_wp2_with (go_at_call 49; refine (k _).mono ?_; rintro e w1 ⟨rfl, nq, rfl⟩)
  go_ret3
  exact ⟨rfl, nq, rfl⟩
end Go.Proofs.YtkeogggeefnoeaaGreatDoor
namespace Go.Proofs.YtkeogggeefnoeaaGreatDoor
set_option linter.unusedSimpArgs false
set_option maxRecDepth 100000
open Go.RowKit
set_option linter.unusedVariables false

/-- A sign with its bit 32 set. -/
def lw (c : Nat) : Nat := (bits BinOp.or .u8 (c : Int) 32).toNat
theorem lw_eq (c : Nat) : bits BinOp.or .u8 (c : Int) 32 = ((lw c : Nat) : Int) := by
  have := bits_lo_u8 .or (c : Int) 32
  unfold lw
  omega
theorem lw_lt (c : Nat) : lw c < 256 := by
  have h0 := bits_lo_u8 .or (c : Int) 32
  have h1 := bits_hi_u8 .or (c : Int) 32
  unfold lw
  omega
/-- A sign as a digit to the base 16, small or big. -/
def hv (c : Nat) : Option Nat := if 48 ≤ c ∧ c ≤ 57 then some (c - 48) else if 97 ≤ lw c ∧ lw c ≤ 102 then some (lw c - 87) else none
/-- ParseUint(.., 16, 16). -/
def ph (acc : Nat) : List Nat → Option Nat
  | [] => some acc
  | c :: r => match hv c with
    | none => none
    | some d => if 65535 < acc * 16 + d then none else ph (acc * 16 + d) r
def q16 (l : List Nat) : Option Nat := if l = [] then none else ph 0 l
theorem bytes_at (w : World) (l : List Nat) (hy : ∀ x ∈ l, x < 256) (j : Nat) (hj : j < l.length) : (Lib.bytesWorld w 5 (sb l)).cell? ⟨w.heap.size, j, none⟩ = some (.int .u8 ((l.getD j 0 : Nat) : Int)) := by
  rw [Lib.bytesWorld_cell w 5 (sb l) j (by rw [sb_size]; exact hj), sb_data]
  have : ((l.map UInt8.ofNat).getD j 0).toNat = l.getD j 0 := by
    simp [List.getD, hj]
    have := hy l[j] (List.getElem_mem hj)
    omega
  rw [this]
/-- What a ParseUint answers: the number, or an error. -/
def PuR (q : Option Nat) (e : Ending) : Prop :=
  match q with
  | some u => e = .returned (.tuple #[.int .u64 (u : Nat), .nilIface])
  | none => ∃ (u k : Int), (k = 1 ∨ k = 2) ∧ e = .returned (.tuple #[.int .u64 u, .iface 197 (.int .i64 k)])
set_option maxHeartbeats 4000000 in
theorem puI16_ (l : List Nat) (w : World) (hy : ∀ x ∈ l, x < 256) (hl : l.length ≤ maxLen) (hne : l ≠ []) :
    Calls Tryz.prog 108 #[.string (sb l), .int .i64 16, .int .i64 16] w fun e w' => PuR (ph 0 l) e ∧ w' = Lib.bytesWorld w 5 (sb l) := by
  have hemp : (sb l).toList.isEmpty = false := by
    rw [toList_data, sb_data]
    cases l with
    | nil => exact absurd rfl hne
    | cons x r => rfl
  have hcv := Lib.run_convert_string_bytes (P := Tryz.prog) w 9 40 5 (sb l) (u := .string) (by kernel_rfl) Tryz.underlying40 (by kernel_rfl)
  have hB := bytes_at w l hy
  have hsz := sb_size l
  obtain ⟨W1, hW1⟩ : ∃ W1, Lib.bytesWorld w 5 (sb l) = W1 := ⟨_, rfl⟩
  rw [hW1] at hcv hB ⊢
  clear hW1 hne
  obtain ⟨S, HS⟩ : ∃ S, Hid (sb l = S) := ⟨_, rfl⟩
  rw [HS.out] at hemp hcv hsz ⊢
  obtain ⟨n, HL⟩ : ∃ n, Hid (l.length = n) := ⟨_, rfl⟩
  rw [HL.out] at hsz hl
  simp only [HL.out] at hB
  unfold maxLen at hl
  have hmv : IntKind.u64.wrap (IntKind.u64.wrap 65536 - 1) = 65535 := by
    rw [IntKind.wrap_u64, IntKind.wrap_u64]
    decide
  go_enter Tryz.func108, Tryz.ntmps108
  go_wp2_with fail
  go_loop [12, 13, 101] (fun vu vn vi => ∃ (k acc : Nat) (a : Int), vu = .bool false ∧ vn = .int .u64 a ∧ vi = .int .i64 k ∧ k ≤ n ∧ Hid (a = (acc : Int) ∧ acc ≤ 65535 ∧ ph 0 l = ph acc (l.drop k))) (fun _ _ vi => n - (intOf vi).toNat)
  case atStart => exact ⟨0, 0, 0, rfl, rfl, rfl, by omega, rfl, by omega, rfl⟩
  case round =>
    obtain ⟨k, acc, a, rfl, rfl, rfl, hk, hh⟩ := hrel
    obtain ⟨ha, hacc, hph⟩ := hh.out
    have HH := hid hph
    clear hh hph
    have a0 : 0 ≤ a := by omega
    have a1 : a ≤ 65535 := by omega
    by_cases hkn : k < n
    · have hc := hB k hkn
      have hdrop : l.drop k = l.getD k 0 :: l.drop (k + 1) := by
        have h' : k < l.length := by rw [HL.out]; exact hkn
        rw [List.drop_eq_getElem_cons h']
        simp [List.getD, h']
      have hc256 : l.getD k 0 < 256 := getD_lt6 hy k
      have HE : Hid (ph 0 l = match hv (l.getD k 0) with
        | none => none
        | some d => if 65535 < acc * 16 + d then none else ph (acc * 16 + d) (l.drop (k + 1))) := by
        show _ = _
        rw [HH.out, hdrop]
        rfl
      have hlw := lw_lt (l.getD k 0)
      have HV : Hid (hv (l.getD k 0) = if 48 ≤ l.getD k 0 ∧ l.getD k 0 ≤ 57 then some (l.getD k 0 - 48) else if 97 ≤ lw (l.getD k 0) ∧ lw (l.getD k 0) ≤ 102 then some (lw (l.getD k 0) - 87) else none) := rfl
      have kl : ∀ w, Calls Tryz.prog 127 #[.int .u8 ((l.getD k 0 : Nat) : Int)] w fun e w' => e = .returned (.int .u8 ((lw (l.getD k 0) : Nat) : Int)) ∧ w' = w := fun w => by
        rw [← lw_eq]
        exact Tryz.internal_strconv_lower _ w
      clear hdrop hB HH
      have Hlw : Hid (∀ z, l.getD k 0 = z → lw z = lw (l.getD k 0)) := fun z h => by rw [h]
      generalize lw (l.getD k 0) = y at *
      generalize l.getD k 0 = c at *
      have hI : (k : Int) < (n : Int) := by omega
      by_cases hdig : 48 ≤ c ∧ c ≤ 57
      · obtain ⟨hd0, hd1⟩ := hdig
        have e95 : ((c : Int) == 95) = false := by simp; omega
        have i0 : (48 : Int) ≤ (c : Int) := by omega
        have i1 : (c : Int) ≤ 57 := by omega
        rw [HV.out, if_pos ⟨hd0, hd1⟩] at HE
        have HE2 : Hid (ph 0 l = if 65535 < acc * 16 + (c - 48) then none else ph (acc * 16 + (c - 48)) (l.drop (k + 1))) := HE
        clear HE HV kl
        by_cases hov : 65535 < acc * 16 + (c - 48)
        · rw [if_pos hov] at HE2
          have iov : 65535 < a * 16 + ((c : Int) - 48) := by omega
          clear hov hacc ha hd0 hd1
          go_wp2_with fail
          go_ret2
          refine ⟨?_, rfl⟩
          rw [HE2.out]
          exact ⟨_, _, .inl rfl, rfl⟩
        · rw [if_neg hov] at HE2
          have iov : a * 16 + ((c : Int) - 48) ≤ 65535 := by omega
          have HN : Hid (a * 16 + ((c : Int) - 48) = ((acc * 16 + (c - 48) : Nat) : Int) ∧ acc * 16 + (c - 48) ≤ 65535 ∧ ph 0 l = ph (acc * 16 + (c - 48)) (l.drop (k + 1))) := ⟨by omega, by omega, HE2.out⟩
          clear hov hacc ha hd0 hd1
          go_wp2_with fail
          refine ⟨⟨k + 1, acc * 16 + (c - 48), a * 16 + ((c : Int) - 48), rfl, (by first | rfl | (congr 1; omega)), (by first | rfl | (congr 1; omega)), by omega, HN⟩, by simp [intOf]; omega⟩
      · rw [HV.out, if_neg hdig] at HE
        clear HV
        by_cases h95 : c = 95
        · obtain rfl : y = 127 := by
            have h1 := Hlw.out 95 h95
            have h2 : lw 95 = 127 := by decide
            omega
          subst h95
          rw [if_neg (by omega)] at HE
          have HE2 : Hid (ph 0 l = none) := HE
          have kl9 : ∀ w, Calls Tryz.prog 127 #[.int .u8 95] w fun e w' => e = .returned (.int .u8 127) ∧ w' = w := kl
          clear HE hacc ha kl Hlw
          go_wp2_with (go_at_call 127; refine (kl9 _).mono ?_; rintro e w' ⟨rfl, rfl⟩)
          all_goals
            go_ret2
            refine ⟨?_, rfl⟩
            rw [HE2.out]
            exact ⟨_, _, .inr rfl, rfl⟩
        have e95 : ((c : Int) == 95) = false := by simp; omega
        clear Hlw
        by_cases hlet : 97 ≤ y ∧ y ≤ 102
        · obtain ⟨hl0, hl1⟩ := hlet
          rw [if_pos ⟨hl0, hl1⟩] at HE
          have HE2 : Hid (ph 0 l = if 65535 < acc * 16 + (y - 87) then none else ph (acc * 16 + (y - 87)) (l.drop (k + 1))) := HE
          clear HE
          have j0 : (97 : Int) ≤ (y : Int) := by omega
          have j1 : (y : Int) ≤ 102 := by omega
          by_cases hov : 65535 < acc * 16 + (y - 87)
          · rw [if_pos hov] at HE2
            have iov : 65535 < a * 16 + ((y : Int) - 97 + 10) := by omega
            clear hov hacc ha hl0 hl1
            go_wp2_with (go_at_call 127; refine (kl _).mono ?_; rintro e w' ⟨rfl, rfl⟩)
            all_goals
              go_ret2
              refine ⟨?_, rfl⟩
              rw [HE2.out]
              exact ⟨_, _, .inl rfl, rfl⟩
          · rw [if_neg hov] at HE2
            have iov : a * 16 + ((y : Int) - 97 + 10) ≤ 65535 := by omega
            have HN : Hid (a * 16 + ((y : Int) - 97 + 10) = ((acc * 16 + (y - 87) : Nat) : Int) ∧ acc * 16 + (y - 87) ≤ 65535 ∧ ph 0 l = ph (acc * 16 + (y - 87)) (l.drop (k + 1))) := ⟨by omega, by omega, HE2.out⟩
            clear hov hacc ha hl0 hl1
            go_wp2_with (go_at_call 127; refine (kl _).mono ?_; rintro e w' ⟨rfl, rfl⟩)
            all_goals
              refine ⟨⟨k + 1, acc * 16 + (y - 87), a * 16 + ((y : Int) - 97 + 10), rfl, (by first | rfl | (congr 1; omega)), (by first | rfl | (congr 1; omega)), by omega, HN⟩, by simp [intOf]; omega⟩
        · rw [if_neg hlet] at HE
          have HE2 : Hid (ph 0 l = none) := HE
          clear HE hacc ha
          go_wp2_with (go_at_call 127; refine (kl _).mono ?_; rintro e w' ⟨rfl, rfl⟩)
          all_goals
            go_ret2
            refine ⟨?_, rfl⟩
            rw [HE2.out]
            exact ⟨_, _, .inr rfl, rfl⟩
    · obtain rfl : k = n := by omega
      subst ha
      have HE : Hid (ph 0 l = some acc) := by
        show _ = _
        rw [HH.out, List.drop_of_length_le (by rw [HL.out]; exact Nat.le_refl _)]
        rfl
      clear HH hB
      go_wp2_with fail
      go_ret2
      refine ⟨?_, rfl⟩
      rw [HE.out]
      rfl
end Go.Proofs.YtkeogggeefnoeaaGreatDoor
namespace Go.Proofs.YtkeogggeefnoeaaGreatDoor
set_option linter.unusedSimpArgs false
set_option maxRecDepth 100000
open Go.RowKit
set_option linter.unusedVariables false

def PuP (q : Option Nat) (e : Ending) : Prop :=
  match q with
  | some u => e = .returned (.tuple #[.int .u64 (u : Nat), .nilIface])
  | none => ∃ (u : Int) (t : TypeId) (p : Value), e = .returned (.tuple #[.int .u64 u, .iface t p])
theorem gSyn : Tryz.prog.globalNamed "strconv.ErrSyntax" = some 7 := by kernel_rfl
theorem gRng : Tryz.prog.globalNamed "strconv.ErrRange" = some 8 := by kernel_rfl
theorem Tb.synCell {w : World} (h : Tb w) : ∃ tp p, w.cell? ⟨7, 0, none⟩ = some (.iface tp p) := by
  obtain ⟨tp, p, h⟩ := h.syn
  exact ⟨tp, p, by have := World.var?_cell gSyn h 0; simpa using this⟩
theorem Tb.rngCell {w : World} (h : Tb w) : ∃ tp p, w.cell? ⟨8, 0, none⟩ = some (.iface tp p) := by
  obtain ⟨tp, p, h⟩ := h.rng
  exact ⟨tp, p, by have := World.var?_cell gRng h 0; simpa using this⟩
set_option maxHeartbeats 400000 in
theorem puI0_ (w : World) : Calls Tryz.prog 108 #[.string ⟨#[]⟩, .int .i64 16, .int .i64 16] w fun e w' => PuR none e ∧ w' = w := by
  go_enter Tryz.func108, Tryz.ntmps108
  go_wp2_with fail
  go_ret2
  exact ⟨⟨_, _, .inr rfl, rfl⟩, rfl⟩
theorem puI_ (l : List Nat) (w : World) (hy : ∀ x ∈ l, x < 256) (hl : l.length ≤ maxLen) :
    Calls Tryz.prog 108 #[.string (sb l), .int .i64 16, .int .i64 16] w fun e w' => PuR (q16 l) e ∧ Below w.heap.size w w' := by
  unfold q16
  by_cases h : l = []
  · subst h
    rw [if_pos rfl]
    refine (puI0_ w).mono ?_
    rintro e w' ⟨h1, rfl⟩
    exact ⟨h1, Below.refl _ _⟩
  · rw [if_neg h]
    refine (puI16_ l w hy hl h).mono ?_
    rintro e w' ⟨h1, rfl⟩
    exact ⟨h1, Lib.bytesWorld_below _ _ _⟩
set_option maxHeartbeats 1000000 in
theorem pu16_ (l : List Nat) (w : World) (hy : ∀ x ∈ l, x < 256) (hl : l.length ≤ 140737488355328) (hT : Tb w) :
    Calls Tryz.prog 85 #[.string (sb l), .int .i64 16, .int .i64 16] w fun e w' => PuP (q16 l) e ∧ Below w.heap.size w w' := by
  have k := fun w => puI_ l w hy (by unfold maxLen; omega)
  have hsz : (sb l).size ≤ 281474976710656 := by rw [sb_size]; omega
  have kS := fun ev w hv hev => Tryz.strconv_toError_syntax ⟨#[80, 97, 114, 115, 101, 85, 105, 110, 116]⟩ (sb l) 16 16 ev w hsz hv hev
  have kR := fun ev w hv hev => Tryz.strconv_toError_range ⟨#[80, 97, 114, 115, 101, 85, 105, 110, 116]⟩ (sb l) 16 16 ev w hsz hv hev
  obtain ⟨Q, HQ⟩ : ∃ Q, Hid (q16 l = Q) := ⟨_, rfl⟩
  simp only [HQ.out] at k
  rw [HQ.out]
  generalize sb l = S at *
  go_enter Tryz.func85, Tryz.ntmps85
  go_wp2_with fail
  refine (k _).mono ?_
  rintro e w1 ⟨h1, g1⟩
  have hT1 := hT.kept g1
  cases Q with
  | some u =>
    obtain rfl : e = _ := h1
    clear k kS kR HQ
    go_wp2_with fail
    go_ret2
    exact ⟨rfl, g1⟩
  | none =>
    obtain ⟨u, q, hq, rfl⟩ := h1
    clear k HQ
    rcases hq with rfl | rfl
    · obtain ⟨tp, p, hc⟩ := hT1.rngCell
      have kk := kR _ _ hc (.inr ⟨tp, p, rfl⟩)
      clear kS kR hc
      go_wp2_with fail
      refine kk.mono ?_
      rintro e w2 ⟨N, rfl, _, _, g2⟩
      clear kk
      go_wp2_with fail
      go_ret2
      exact ⟨⟨_, _, _, rfl⟩, bel_bel g1 g1.size g2⟩
    · obtain ⟨tp, p, hc⟩ := hT1.synCell
      have kk := kS _ _ hc (.inr ⟨tp, p, rfl⟩)
      clear kS kR hc
      go_wp2_with fail
      refine kk.mono ?_
      rintro e w2 ⟨N, rfl, _, _, g2⟩
      clear kk
      go_wp2_with fail
      go_ret2
      exact ⟨⟨_, _, _, rfl⟩, bel_bel g1 g1.size g2⟩
def q10 (l : List Nat) : Option Nat := match Lib.parseUintB 8 (l.map UInt8.ofNat) with
  | .ok u => some u
  | _ => none
theorem pu10_ (l : List Nat) (w : World) (hl : l.length ≤ 140737488355328) (hT : Tb w) :
    Calls Tryz.prog 85 #[.string (sb l), .int .i64 10, .int .i64 8] w fun e w' => PuP (q10 l) e ∧ Below w.heap.size w w' := by
  have hsz : (sb l).size = l.length := sb_size l
  have hd := sb_data l
  unfold q10
  cases hq : Lib.parseUintB 8 (l.map UInt8.ofNat) with
  | ok u =>
    refine (Tryz.strconv_ParseUint_10_at8_ok (sb l) (by omega) u (by rw [hd]; exact hq) w).mono ?_
    rintro e w' ⟨rfl, hw⟩
    refine ⟨rfl, ?_⟩
    rcases hw with rfl | rfl
    · exact Below.refl _ _
    · exact Lib.bytesWorld_below _ _ _
  | «syntax» =>
    obtain ⟨tp, p, hv⟩ := hT.syn
    refine (Tryz.strconv_ParseUint_10_at8_syntax_var (sb l) (by omega) (by rw [hd]; exact hq) tp p w hv).mono ?_
    rintro e w' ⟨N, rfl, _, _, g⟩
    exact ⟨⟨_, _, _, rfl⟩, g⟩
  | range =>
    obtain ⟨tp, p, hv⟩ := hT.rng
    refine (Tryz.strconv_ParseUint_10_at8_range_var (sb l) (by omega) (by rw [hd]; exact hq) tp p w hv).mono ?_
    rintro e w' ⟨N, rfl, _, _, g⟩
    exact ⟨⟨_, _, _, rfl⟩, g⟩
/-- strconv.Atoi. -/
def qA (l : List Nat) : Option Int := match Lib.atoiAll (l.map UInt8.ofNat) with
  | .ok v => some v
  | _ => none
def AtP (q : Option Int) (e : Ending) : Prop :=
  match q with
  | some v => e = .returned (.tuple #[.int .i64 v, .nilIface])
  | none => ∃ (v : Int) (t : TypeId) (p : Value), e = .returned (.tuple #[.int .i64 v, .iface t p])
theorem atoi_ (l : List Nat) (w : World) (hl : l.length ≤ 140737488355328) (hT : Tb w) :
    Calls Tryz.prog 150 #[.string (sb l)] w fun e w' => AtP (qA l) e ∧ Below w.heap.size w w' := by
  have hsz : (sb l).size = l.length := sb_size l
  have hd := sb_data l
  unfold qA
  cases hq : Lib.atoiAll (l.map UInt8.ofNat) with
  | ok u =>
    refine (Tryz.strconv_Atoi_ok (sb l) (by omega) u (by rw [hd]; exact hq) w).mono ?_
    rintro e w' ⟨rfl, hw⟩
    refine ⟨rfl, ?_⟩
    rcases hw with rfl | ⟨t, rfl⟩
    · exact Below.refl _ _
    · exact Lib.bytesWorld_below _ _ _
  | «syntax» =>
    obtain ⟨tp, p, hv⟩ := hT.syn
    refine (Tryz.strconv_Atoi_syntax_var (sb l) (by omega) (by rw [hd]; exact hq) tp p w hv).mono ?_
    rintro e w' ⟨N, rfl, _, _, g⟩
    exact ⟨⟨_, _, _, rfl⟩, g⟩
  | range =>
    obtain ⟨tp, p, hv⟩ := hT.rng
    refine (Tryz.strconv_Atoi_range_var (sb l) (by omega) (by rw [hd]; exact hq) tp p w hv).mono ?_
    rintro e w' ⟨N, rfl, _, _, g⟩
    exact ⟨⟨_, _, _, rfl⟩, g⟩
end Go.Proofs.YtkeogggeefnoeaaGreatDoor
namespace Go.Proofs.YtkeogggeefnoeaaGreatDoor
set_option linter.unusedSimpArgs false
set_option maxRecDepth 100000
open Go.RowKit Go.Shelf
set_option linter.unusedVariables false
attribute [local go_sem] Oper.semAt_some

theorem cq_ix (c : Nat) (l : List Nat) : ∀ cur, cq c cur l = (cur ++ l.take (ix c l)) :: (if ix c l < l.length then cu c (l.drop (ix c l + 1)) else []) := by
  induction l with
  | nil => intro cur; simp [cq, ix]
  | cons x r ih =>
    intro cur
    by_cases e : x = c
    · subst e
      simp [cq, ix, cu]
    · rw [cq, if_neg e, ih, ix, if_neg e]
      simp
theorem cu_ix (c : Nat) (l : List Nat) : cu c l = l.take (ix c l) :: (if ix c l < l.length then cu c (l.drop (ix c l + 1)) else []) := by
  have := cq_ix c l []
  rw [List.nil_append] at this
  exact this
/-- A part of a text. -/
abbrev Pt := { x : List Nat // (∀ z ∈ x, z < 256) ∧ x.length ≤ 140737488355328 }
theorem cu_pts (c : Nat) (k : Nat) : ∀ l : List Nat, l.length ≤ k → (∀ z ∈ l, z < 256) → l.length ≤ 140737488355328 → ∃ xs : List Pt, xs.map (·.1) = cu c l := by
  induction k with
  | zero =>
    intro l hl hy hb
    obtain rfl : l = [] := List.eq_nil_of_length_eq_zero (by omega)
    exact ⟨[⟨[], by simp, by simp⟩], by rw [cu_ix]; rfl⟩
  | succ k ih =>
    intro l hl hy hb
    have hx : (∀ z ∈ l.take (ix c l), z < 256) ∧ (l.take (ix c l)).length ≤ 140737488355328 := ⟨fun z hz => hy z (List.mem_of_mem_take hz), by rw [List.length_take]; omega⟩
    rw [cu_ix]
    by_cases h : ix c l < l.length
    · obtain ⟨xs, he⟩ := ih (l.drop (ix c l + 1)) (by rw [List.length_drop]; omega) (fun z hz => hy z (List.mem_of_mem_drop hz)) (by rw [List.length_drop]; omega)
      rw [if_pos h]
      exact ⟨⟨_, hx⟩ :: xs, by rw [List.map_cons, he]⟩
    · rw [if_neg h]
      exact ⟨[⟨_, hx⟩], rfl⟩
def msr : Value → Value → Nat
  | .string s, .bool true => s.size + 1
  | _, _ => 0
theorem msr_lt (s : ByteArray) : msr (.string s) (.bool true) = s.size + 1 ∧ msr (.string s) (.bool false) = 0 := ⟨rfl, rfl⟩
set_option maxHeartbeats 2000000 in
theorem parts1_in (n : Nat) (hn : 1 ≤ n) (lp bt bs n₀ c : Nat) (hc : c < 256) (l : List Nat) (hy : ∀ z ∈ l, z < 256) (hl : l.length ≤ 140737488355328) (xs : List Pt) (hx : xs.map (·.1) = cu c l) (J Jx : List Pt → World → Prop)
    (hJ : ∀ pre W k, J pre W → J pre (W.drewN k))
    (hY : ∀ pre x W, J pre W → pre.length < xs.length → YieldAt Fence.wide (n - 1) Tryz.prog lp #[.string (sb x.1)] W fun e W' =>
      (e = .returned (.bool true) ∧ J (pre ++ [x]) W' ∧ Below n₀ W W') ∨ (e = .returned (.bool false) ∧ Jx (pre ++ [x]) W'))
    (W : World) (hbt : bt < n₀) (hbs : bs < n₀) (hct : W.cell? ⟨bt, 0, none⟩ = some (.string (sb l))) (hcs : W.cell? ⟨bs, 0, none⟩ = some (.string ⟨#[UInt8.ofNat c]⟩)) (h0 : J [] W) :
    CallsIn Fence.wide n Tryz.prog 177 #[.func (.yield lp) #[] #[], .pointer (some ⟨bt, 0, none⟩), .pointer (some ⟨bs, 0, none⟩)] W fun e W' => (∃ v, e = .returned v) ∧
      ((∃ ys, ys = xs ∧ J ys W') ∨ (∃ pre, pre <+: xs ∧ Jx pre W')) := by
  have k1 := fun (l : List Nat) (hy : ∀ z ∈ l, z < 256) (hl : l.length ≤ 140737488355328) w => cut_ c l w hc hy (by unfold maxLen; omega)
  refine callsIn_of_wp Tryz.func177 rfl trivial ?_ rfl
  simp only [Tryz.ntmps177, List.size_toArray, List.length_cons, List.length_nil, Nat.reduceAdd, Nat.reduceSub, Array.replicate_succ, Array.replicate_zero, List.push_toArray, List.append_toArray, List.nil_append, List.cons_append]
  gi_wp2_with (refine ⟨trivial, ?_⟩; gi_at_call 31; refine (callsIn_wide.2 (k1 l hy hl _)).mono ?_; rintro e w' ⟨rfl, nq, rfl⟩)
  have hc0 : ∀ k, (W.drewN k).cell? ⟨bs, 0, none⟩ = some (.string ⟨#[UInt8.ofNat c]⟩) := fun k => hcs
  have h00 := hJ [] W nq h0
  have hcs0 := hc0 nq
  clear h0 hc0 hcs hct
  generalize W.drewN nq = W0 at *
  gi_loopw [4, 5, 6] (fun p r m wr => ∃ (pre : List Pt) (x : Pt) (post : List Pt) (rl : List Nat) (mo : Bool), p = .string (sb x.1) ∧ r = .string (sb rl) ∧ m = .bool mo ∧ xs = pre ++ x :: post ∧ (mo = true → post.map (·.1) = cu c rl ∧ (∀ z ∈ rl, z < 256) ∧ rl.length ≤ 140737488355328) ∧ (mo = false → post = []) ∧ J pre wr ∧ wr.cell? ⟨bs, 0, none⟩ = some (.string ⟨#[UInt8.ofNat c]⟩)) (fun _ r m _ => msr r m)
  case atStart =>
    rw [cu_ix] at hx
    cases xs with
    | nil => simp at hx
    | cons x0 post =>
      rw [List.map_cons] at hx
      obtain ⟨e1, e2⟩ := List.cons.inj hx
      refine ⟨[], x0, post, l.drop (ix c l + 1), decide (ix c l < l.length), by rw [e1], rfl, rfl, rfl, fun h => ?_, fun h => ?_, h00, hcs0⟩
      · have h := of_decide_eq_true h
        rw [if_pos h] at e2
        exact ⟨e2, fun z hz => hy z (List.mem_of_mem_drop hz), by rw [List.length_drop]; omega⟩
      · have h := of_decide_eq_false h
        rw [if_neg h] at e2
        exact List.map_eq_nil_iff.1 e2
  case round =>
    clear h00 hcs0
    obtain ⟨pre, x, post, rl, mo, rfl, rfl, rfl, hxs, hm1, hm2, hJs, hcs⟩ := hrel
    obtain ⟨fn, tmps, assign, body, hy', hR⟩ := hY pre x wr hJs (by rw [hxs]; simp)
    have HM1 := hid hm1
    have HM2 := hid hm2
    have HXS := hid hxs
    have HMS := hid (msr_lt (sb rl))
    clear hm1 hm2 hxs hx hY
    generalize hX : sb x.1 = X at *
    have hX' := hid hX
    clear hX
    cases mo with
    | true =>
      obtain ⟨hpost, hry, hrl⟩ := HM1.out rfl
      have HP := hid hpost
      have kc := k1 rl hry hrl
      clear hpost k1
      gi_wp2
      refine hR.mono ?_
      rintro e W3 (⟨rfl, hJ3, hk3⟩ | ⟨rfl, hJx3⟩)
      · have hcs3 := (hk3.cell (p := ⟨bs, 0, none⟩) hbs).trans hcs
        gi_wp2_with (refine ⟨trivial, ?_⟩; gi_at_call 31; refine (callsIn_wide.2 (kc _)).mono ?_; rintro e w' ⟨rfl, nq, rfl⟩)
        have hp := HP.out
        rw [cu_ix] at hp
        cases post with
        | nil => simp at hp
        | cons y post =>
          rw [List.map_cons] at hp
          obtain ⟨e1, e2⟩ := List.cons.inj hp
          go_roundw
          case rel =>
            refine ⟨pre ++ [x], y, post, rl.drop (ix c rl + 1), decide (ix c rl < rl.length), by rw [e1], rfl, rfl, by rw [HXS.out]; simp, fun h => ?_, fun h => ?_, hJ _ _ nq hJ3, hcs3⟩
            · have h := of_decide_eq_true h
              rw [if_pos h] at e2
              exact ⟨e2, fun z hz => hry z (List.mem_of_mem_drop hz), by rw [List.length_drop]; omega⟩
            · have h := of_decide_eq_false h
              rw [if_neg h] at e2
              exact List.map_eq_nil_iff.1 e2
          case measure =>
            show msr (.string (sb (rl.drop (ix c rl + 1)))) (.bool (decide (ix c rl < rl.length))) < msr (.string (sb rl)) (.bool true)
            rw [HMS.out.1, sb_size]
            by_cases h : ix c rl < rl.length
            · rw [decide_eq_true h, (msr_lt _).1, sb_size, List.length_drop]
              omega
            · rw [decide_eq_false h, (msr_lt _).2]
              omega
      · gi_wp2
        go_end0
        exact ⟨⟨_, rfl⟩, .inr ⟨pre ++ [x], ⟨post, by rw [HXS.out]; simp⟩, hJx3⟩⟩
    | false =>
      obtain rfl := HM2.out rfl
      gi_wp2
      refine hR.mono ?_
      rintro e W3 (⟨rfl, hJ3, hk3⟩ | ⟨rfl, hJx3⟩)
      · gi_wp2
        go_end0
        exact ⟨⟨_, rfl⟩, .inl ⟨pre ++ [x], HXS.out.symm, hJ3⟩⟩
      · gi_wp2
        go_end0
        exact ⟨⟨_, rfl⟩, .inr ⟨pre ++ [x], ⟨[], by rw [HXS.out]; simp⟩, hJx3⟩⟩
end Go.Proofs.YtkeogggeefnoeaaGreatDoor
namespace Go.Proofs.YtkeogggeefnoeaaGreatDoor
set_option linter.unusedSimpArgs false
set_option maxRecDepth 100000
open Go.RowKit Go.Shelf
set_option linter.unusedVariables false

/-! A region that draws its order, within a round of a loop over a function. -/
section
variable {P : Program} {ops : Array Oper} {Q : Exit → Act → World → Prop} {lp n : Nat}
theorem rows_in {row : String} {args : Array Value} {w : World} {R : Value → World → Prop} (h : Rows P row args w R) : RowsIn (Fence.wide.inRound lp) n P row args w R :=
  fun b cs _ => let ⟨v, w', r, s⟩ := h b cs; ⟨v, w', r, stepsIn_wide.2 s⟩
theorem upon_in {o : Oper} {a : Act} {K K' : Act → World → Prop} {r : Result Next} (hK : ∀ a w, K a w → K' a w) (h : Oper.upon P o a K Q r) : Oper.uponIn (Fence.wide.inRound lp) n P o a K' Q r := by
  cases r with
  | ok x w' =>
    cases x with
    | value v => exact hK _ _ h
    | skip => exact hK _ _ h
    | defer d => exact hK _ _ h
    | enter f args =>
      refine ⟨fun hh => by simp [Fence.wide] at hh, CallsIn.inRound lp (callsIn_wide.2 (Calls.mono h (fun e w'' he => ?_)))⟩
      cases e with
      | returned v => exact hK _ _ he
      | panicked c => exact he
      | outgrown => exact he
    | row row args => exact ⟨fun hh => by simp [Fence.wide] at hh, RowsIn.mono (rows_in h) (fun v w'' he => hK _ _ he)⟩
    | _ => exact h.elim
  | halt x w' => cases x <;> first | exact h | exact h.elim
theorem op_in (hQ : LetsOut Q → False) (hd : ∀ (i : Nat) (o : Oper), ops[i]? = some o → ∀ c, o.op ≠ .defer c) {i : Nat} {a : Act} {w : World} {K K' : Act → World → Prop} (hK : ∀ a w, K a w → K' a w) (h : wpOp P ops Q i K a w) : wpOpIn (Fence.wide.inRound lp) n P ops Q i K' a w := by
  unfold wpOp at h
  unfold wpOpIn
  cases ho : ops[i]? with
  | none => rw [ho] at h; exact hK _ _ h
  | some o =>
    rw [ho] at h
    simp only at h ⊢
    by_cases hw : Region.wanted o (yielded ops a.tmps) = true
    · rw [if_pos hw] at h ⊢
      refine ⟨fun _ _ => trivial, ?_⟩
      rw [Oper.semAt_eq _ _ _ (hd i o ho)]
      rcases h with h | h
      · exact upon_in hK h
      · exact (hQ h.2).elim
    · rw [if_neg hw] at h ⊢
      exact ⟨fun _ _ => trivial, hK _ _ h⟩
theorem any_in (hQ : LetsOut Q → False) (hd : ∀ (i : Nat) (o : Oper), ops[i]? = some o → ∀ c, o.op ≠ .defer c) {md : Region.Mode} : ∀ (fuel : Nat) (listed : Array Bool) (a : Act) (w : World), wpAny P md ops Q fuel listed a w → wpAnyIn (Fence.wide.inRound lp) n P md ops Q fuel listed a w
  | 0, _, _, _, h => h
  | fuel + 1, listed, a, w, h => ⟨h.1, fun i hi => op_in hQ hd (fun a w hk => any_in hQ hd fuel _ a w hk) (h.2 i hi)⟩
/-- All that is done ahead of the last writes leaves the memory as it is: one walk serves. -/
theorem region_round {id : Nat} {a : Act} {w : World} {l : List Oper} (m : Nat) (hm : P.follows .mixedOrders = true) (hQ : LetsOut Q → False) (hd : ∀ o ∈ l, ∀ c, o.op ≠ .defer c) (hB : Region.lexTailB .any l.toArray m = true)
    (h : wpStill P l.toArray { w with drawn := w.drawn + 1 } (fun a' => wpList P l.toArray Q (l.drop m) a' { w with drawn := w.drawn + 1 }) (l.take m) a) : (Code.region id l.toArray true).wpIn (Fence.wide.inRound lp) n P Q a w := by
  simp only [Region.lexTailB, Bool.and_eq_true, decide_eq_true_eq] at hB
  obtain ⟨⟨⟨⟨b1, b2⟩, b3⟩, b4⟩, b5⟩ := hB
  have hsz : l.toArray.size = l.length := by simp
  have hmn : m < l.length := by rw [← hsz]; exact b2
  have e1 : (l.take m).length = m := by rw [List.length_take]; omega
  have e2 : (l.drop m).length = l.toArray.size - m := by rw [List.length_drop, hsz]
  have hI : HeadInv .any l.toArray m (Array.replicate l.toArray.size false) := by
    refine ⟨by simp, fun j oj _ q => ?_, fun t _ q => getD_in (by simpa using q) (getD_replicate_false _ _)⟩
    rw [getD_replicate_false] at q
    cases q
  have hH := wpAnyL_lex (md := .any) (g := l.toArray.size - m) b1 b3 b4 b2 (l.take m) 0 _ a (fun j hj => by
    rw [e1] at hj
    simp [hj]) (by rw [e1, Nat.zero_add]) hI (by rw [e1]; exact b5) h
  have hA := wpAny_of_head (Q' := Q) (g := l.toArray.size - m) (fun listed a' q => by
    have q2 := wpAny_of_seq (md := .any) (Q' := Q) (l.drop m) m listed a' { w with drawn := w.drawn + 1 } (fun j => by simp [List.getElem?_drop]) (by rw [e2]; exact q.1) q.2
    rwa [e2] at q2) _ _ _ hH
  rw [e1, show m + (l.toArray.size - m) = l.toArray.size from by omega] at hA
  exact wpIn_region_any hm (any_in hQ (fun i o ho => hd o (by
    have : l[i]? = some o := by simpa using ho
    exact List.mem_of_getElem? this)) _ _ _ _ hA)
end
end Go.Proofs.YtkeogggeefnoeaaGreatDoor
