import Derived.Test.YtmgoabedickooaaGreatDoorL7
import Derived.Lib.ConvBytes
import Derived.Laws.Closers25
import Derived.Laws.Closers25b
import Derived.RangeFuncFrom
import Derived.RangeFuncNested
import Derived.RangeFuncBound
import Derived.RangeFuncCalls
import Derived.RangeFuncLeaves
import Derived.Shelf.Abstract
import Derived.Shelf.RegionOpen
import Derived.WalkKit
import Derived.OwnWalkIn
import Derived.TacticsInMore
import Derived.LoopNIn
import Derived.LoopIn
import Derived.OrdersIn
import Derived.OrdersHeld
import Derived.Deep.RegionHeld
import Derived.StillTail
import Derived.StillTailTactics
namespace Go.Proofs.YtmgoabedickooaaGreatDoor
set_option maxRecDepth 100000
open Go.RowKit
set_option linter.unusedVariables false

/-- A sign with its bit 32 set. -/
def lw (c : Nat) : Nat := (bits BinOp.or .u8 (c : Int) 32).toNat
theorem lw_eq (c : Nat) : bits BinOp.or .u8 (c : Int) 32 = ((lw c : Nat) : Int) := by
  have := bits_lo_u8 .or (c : Int) 32
  unfold lw
  omega
theorem lw_lt (c : Nat) : lw c < 256 := by
  have h0 := bits_lo_u8 .or (c : Int) 32
  have h1 := bits_hi_u8 .or (c : Int) 32
  unfold lw
  omega
/-- A sign as a digit to the base 16, small or big. -/
def hv (c : Nat) : Option Nat := if 48 ≤ c ∧ c ≤ 57 then some (c - 48) else if 97 ≤ lw c ∧ lw c ≤ 102 then some (lw c - 87) else none
/-- ParseUint(.., 16, 16). -/
def ph (acc : Nat) : List Nat → Option Nat
  | [] => some acc
  | c :: r => match hv c with
    | none => none
    | some d => if 65535 < acc * 16 + d then none else ph (acc * 16 + d) r
def q16 (l : List Nat) : Option Nat := if l = [] then none else ph 0 l
theorem bytes_at (w : World) (l : List Nat) (hy : ∀ x ∈ l, x < 256) (j : Nat) (hj : j < l.length) : (Lib.bytesWorld w 5 (sb l)).cell? ⟨w.heap.size, j, none⟩ = some (.int .u8 ((l.getD j 0 : Nat) : Int)) := by
  rw [Lib.bytesWorld_cell w 5 (sb l) j (by rw [sb_size]; exact hj), sb_data]
  have : ((l.map UInt8.ofNat).getD j 0).toNat = l.getD j 0 := by
    simp [List.getD, hj]
    have := hy l[j] (List.getElem_mem hj)
    omega
  rw [this]
/-- What a ParseUint answers: the number, or an error. -/
def PuR (q : Option Nat) (e : Ending) : Prop :=
  match q with
  | some u => e = .returned (.tuple #[.int .u64 (u : Nat), .nilIface])
  | none => ∃ (u k : Int), (k = 1 ∨ k = 2) ∧ e = .returned (.tuple #[.int .u64 u, .iface 221 (.int .i64 k)])
set_option maxHeartbeats 4000000 in
theorem puI16_ (l : List Nat) (w : World) (hy : ∀ x ∈ l, x < 256) (hl : l.length ≤ maxLen) (hne : l ≠ []) :
    Calls Tryz.prog 209 #[.string (sb l), .int .i64 16, .int .i64 16] w fun e w' => PuR (ph 0 l) e ∧ w' = Lib.bytesWorld w 5 (sb l) := by
  have hemp : (sb l).toList.isEmpty = false := by
    rw [toList_data, sb_data]
    cases l with
    | nil => exact absurd rfl hne
    | cons x r => rfl
  have hcv := Lib.run_convert_string_bytes (P := Tryz.prog) w 9 44 5 (sb l) (u := .string) (by kernel_rfl) Tryz.underlying44 (by kernel_rfl)
  have hB := bytes_at w l hy
  have hsz := sb_size l
  obtain ⟨W1, hW1⟩ : ∃ W1, Lib.bytesWorld w 5 (sb l) = W1 := ⟨_, rfl⟩
  rw [hW1] at hcv hB ⊢
  clear hW1 hne
  obtain ⟨S, HS⟩ : ∃ S, Hid (sb l = S) := ⟨_, rfl⟩
  rw [HS.out] at hemp hcv hsz ⊢
  obtain ⟨n, HL⟩ : ∃ n, Hid (l.length = n) := ⟨_, rfl⟩
  rw [HL.out] at hsz hl
  simp only [HL.out] at hB
  unfold maxLen at hl
  have hmv : IntKind.u64.wrap (IntKind.u64.wrap 65536 - 1) = 65535 := by
    rw [IntKind.wrap_u64, IntKind.wrap_u64]
    decide
  go_enter Tryz.func209, Tryz.ntmps209
  go_wp2_with fail
  go_loop [12, 13, 101] (fun vu vn vi => ∃ (k acc : Nat) (a : Int), vu = .bool false ∧ vn = .int .u64 a ∧ vi = .int .i64 k ∧ k ≤ n ∧ Hid (a = (acc : Int) ∧ acc ≤ 65535 ∧ ph 0 l = ph acc (l.drop k))) (fun _ _ vi => n - (intOf vi).toNat)
  case atStart => exact ⟨0, 0, 0, rfl, rfl, rfl, by omega, rfl, by omega, rfl⟩
  case round =>
    obtain ⟨k, acc, a, rfl, rfl, rfl, hk, hh⟩ := hrel
    obtain ⟨ha, hacc, hph⟩ := hh.out
    have HH := hid hph
    clear hh hph
    have a0 : 0 ≤ a := by omega
    have a1 : a ≤ 65535 := by omega
    by_cases hkn : k < n
    · have hc := hB k hkn
      have hdrop : l.drop k = l.getD k 0 :: l.drop (k + 1) := by
        have h' : k < l.length := by rw [HL.out]; exact hkn
        rw [List.drop_eq_getElem_cons h']
        simp [List.getD, h']
      have hc256 : l.getD k 0 < 256 := getD_lt6 hy k
      have HE : Hid (ph 0 l = match hv (l.getD k 0) with
        | none => none
        | some d => if 65535 < acc * 16 + d then none else ph (acc * 16 + d) (l.drop (k + 1))) := by
        show _ = _
        rw [HH.out, hdrop]
        rfl
      have hlw := lw_lt (l.getD k 0)
      have HV : Hid (hv (l.getD k 0) = if 48 ≤ l.getD k 0 ∧ l.getD k 0 ≤ 57 then some (l.getD k 0 - 48) else if 97 ≤ lw (l.getD k 0) ∧ lw (l.getD k 0) ≤ 102 then some (lw (l.getD k 0) - 87) else none) := rfl
      have kl : ∀ w, Calls Tryz.prog 224 #[.int .u8 ((l.getD k 0 : Nat) : Int)] w fun e w' => e = .returned (.int .u8 ((lw (l.getD k 0) : Nat) : Int)) ∧ w' = w := fun w => by
        rw [← lw_eq]
        exact Tryz.internal_strconv_lower _ w
      clear hdrop hB HH
      have Hlw : Hid (∀ z, l.getD k 0 = z → lw z = lw (l.getD k 0)) := fun z h => by rw [h]
      generalize lw (l.getD k 0) = y at *
      generalize l.getD k 0 = c at *
      have hI : (k : Int) < (n : Int) := by omega
      by_cases hdig : 48 ≤ c ∧ c ≤ 57
      · obtain ⟨hd0, hd1⟩ := hdig
        have e95 : ((c : Int) == 95) = false := by simp; omega
        have i0 : (48 : Int) ≤ (c : Int) := by omega
        have i1 : (c : Int) ≤ 57 := by omega
        rw [HV.out, if_pos ⟨hd0, hd1⟩] at HE
        have HE2 : Hid (ph 0 l = if 65535 < acc * 16 + (c - 48) then none else ph (acc * 16 + (c - 48)) (l.drop (k + 1))) := HE
        clear HE HV kl
        by_cases hov : 65535 < acc * 16 + (c - 48)
        · rw [if_pos hov] at HE2
          have iov : 65535 < a * 16 + ((c : Int) - 48) := by omega
          clear hov hacc ha hd0 hd1
          go_wp2_with fail
          go_ret2
          refine ⟨?_, rfl⟩
          rw [HE2.out]
          exact ⟨_, _, .inl rfl, rfl⟩
        · rw [if_neg hov] at HE2
          have iov : a * 16 + ((c : Int) - 48) ≤ 65535 := by omega
          have HN : Hid (a * 16 + ((c : Int) - 48) = ((acc * 16 + (c - 48) : Nat) : Int) ∧ acc * 16 + (c - 48) ≤ 65535 ∧ ph 0 l = ph (acc * 16 + (c - 48)) (l.drop (k + 1))) := ⟨by omega, by omega, HE2.out⟩
          clear hov hacc ha hd0 hd1
          go_wp2_with fail
          refine ⟨⟨k + 1, acc * 16 + (c - 48), a * 16 + ((c : Int) - 48), rfl, (by first | rfl | (congr 1; omega)), (by first | rfl | (congr 1; omega)), by omega, HN⟩, by simp [intOf]; omega⟩
      · rw [HV.out, if_neg hdig] at HE
        clear HV
        by_cases h95 : c = 95
        · obtain rfl : y = 127 := by
            have h1 := Hlw.out 95 h95
            have h2 : lw 95 = 127 := by decide
            omega
          subst h95
          rw [if_neg (by omega)] at HE
          have HE2 : Hid (ph 0 l = none) := HE
          have kl9 : ∀ w, Calls Tryz.prog 224 #[.int .u8 95] w fun e w' => e = .returned (.int .u8 127) ∧ w' = w := kl
          clear HE hacc ha kl Hlw
          go_wp2_with (go_at_call 224; refine (kl9 _).mono ?_; rintro e w' ⟨rfl, rfl⟩)
          all_goals
            go_ret2
            refine ⟨?_, rfl⟩
            rw [HE2.out]
            exact ⟨_, _, .inr rfl, rfl⟩
        have e95 : ((c : Int) == 95) = false := by simp; omega
        clear Hlw
        by_cases hlet : 97 ≤ y ∧ y ≤ 102
        · obtain ⟨hl0, hl1⟩ := hlet
          rw [if_pos ⟨hl0, hl1⟩] at HE
          have HE2 : Hid (ph 0 l = if 65535 < acc * 16 + (y - 87) then none else ph (acc * 16 + (y - 87)) (l.drop (k + 1))) := HE
          clear HE
          have j0 : (97 : Int) ≤ (y : Int) := by omega
          have j1 : (y : Int) ≤ 102 := by omega
          by_cases hov : 65535 < acc * 16 + (y - 87)
          · rw [if_pos hov] at HE2
            have iov : 65535 < a * 16 + ((y : Int) - 97 + 10) := by omega
            clear hov hacc ha hl0 hl1
            go_wp2_with (go_at_call 224; refine (kl _).mono ?_; rintro e w' ⟨rfl, rfl⟩)
            all_goals
              go_ret2
              refine ⟨?_, rfl⟩
              rw [HE2.out]
              exact ⟨_, _, .inl rfl, rfl⟩
          · rw [if_neg hov] at HE2
            have iov : a * 16 + ((y : Int) - 97 + 10) ≤ 65535 := by omega
            have HN : Hid (a * 16 + ((y : Int) - 97 + 10) = ((acc * 16 + (y - 87) : Nat) : Int) ∧ acc * 16 + (y - 87) ≤ 65535 ∧ ph 0 l = ph (acc * 16 + (y - 87)) (l.drop (k + 1))) := ⟨by omega, by omega, HE2.out⟩
            clear hov hacc ha hl0 hl1
            go_wp2_with (go_at_call 224; refine (kl _).mono ?_; rintro e w' ⟨rfl, rfl⟩)
            all_goals
              refine ⟨⟨k + 1, acc * 16 + (y - 87), a * 16 + ((y : Int) - 97 + 10), rfl, (by first | rfl | (congr 1; omega)), (by first | rfl | (congr 1; omega)), by omega, HN⟩, by simp [intOf]; omega⟩
        · rw [if_neg hlet] at HE
          have HE2 : Hid (ph 0 l = none) := HE
          clear HE hacc ha
          go_wp2_with (go_at_call 224; refine (kl _).mono ?_; rintro e w' ⟨rfl, rfl⟩)
          all_goals
            go_ret2
            refine ⟨?_, rfl⟩
            rw [HE2.out]
            exact ⟨_, _, .inr rfl, rfl⟩
    · obtain rfl : k = n := by omega
      subst ha
      have HE : Hid (ph 0 l = some acc) := by
        show _ = _
        rw [HH.out, List.drop_of_length_le (by rw [HL.out]; exact Nat.le_refl _)]
        rfl
      clear HH hB
      go_wp2_with fail
      go_ret2
      refine ⟨?_, rfl⟩
      rw [HE.out]
      rfl
end Go.Proofs.YtmgoabedickooaaGreatDoor
namespace Go.Proofs.YtmgoabedickooaaGreatDoor
set_option maxRecDepth 100000
open Go.RowKit
set_option linter.unusedVariables false

def PuP (q : Option Nat) (e : Ending) : Prop :=
  match q with
  | some u => e = .returned (.tuple #[.int .u64 (u : Nat), .nilIface])
  | none => ∃ (u : Int) (t : TypeId) (p : Value), e = .returned (.tuple #[.int .u64 u, .iface t p])
theorem gSyn : Tryz.prog.globalNamed "strconv.ErrSyntax" = some 1 := by kernel_rfl
theorem gRng : Tryz.prog.globalNamed "strconv.ErrRange" = some 2 := by kernel_rfl
theorem Tb.synCell {w : World} (h : Tb w) : ∃ tp p, w.cell? ⟨1, 0, none⟩ = some (.iface tp p) := by
  obtain ⟨tp, p, h⟩ := h.syn
  exact ⟨tp, p, by have := World.var?_cell gSyn h 0; simpa using this⟩
theorem Tb.rngCell {w : World} (h : Tb w) : ∃ tp p, w.cell? ⟨2, 0, none⟩ = some (.iface tp p) := by
  obtain ⟨tp, p, h⟩ := h.rng
  exact ⟨tp, p, by have := World.var?_cell gRng h 0; simpa using this⟩
set_option maxHeartbeats 400000 in
theorem puI0_ (w : World) : Calls Tryz.prog 209 #[.string ⟨#[]⟩, .int .i64 16, .int .i64 16] w fun e w' => PuR none e ∧ w' = w := by
  go_enter Tryz.func209, Tryz.ntmps209
  go_wp2_with fail
  go_ret2
  exact ⟨⟨_, _, .inr rfl, rfl⟩, rfl⟩
theorem puI_ (l : List Nat) (w : World) (hy : ∀ x ∈ l, x < 256) (hl : l.length ≤ maxLen) :
    Calls Tryz.prog 209 #[.string (sb l), .int .i64 16, .int .i64 16] w fun e w' => PuR (q16 l) e ∧ Below w.heap.size w w' := by
  unfold q16
  by_cases h : l = []
  · subst h
    rw [if_pos rfl]
    refine (puI0_ w).mono ?_
    rintro e w' ⟨h1, rfl⟩
    exact ⟨h1, Below.refl _ _⟩
  · rw [if_neg h]
    refine (puI16_ l w hy hl h).mono ?_
    rintro e w' ⟨h1, rfl⟩
    exact ⟨h1, Lib.bytesWorld_below _ _ _⟩
set_option maxHeartbeats 1000000 in
theorem pu16_ (l : List Nat) (w : World) (hy : ∀ x ∈ l, x < 256) (hl : l.length ≤ 140737488355328) (hT : Tb w) :
    Calls Tryz.prog 207 #[.string (sb l), .int .i64 16, .int .i64 16] w fun e w' => PuP (q16 l) e ∧ Below w.heap.size w w' := by
  have k := fun w => puI_ l w hy (by unfold maxLen; omega)
  have hsz : (sb l).size ≤ 281474976710656 := by rw [sb_size]; omega
  have kS := fun ev w hv hev => Tryz.strconv_toError_syntax ⟨#[80, 97, 114, 115, 101, 85, 105, 110, 116]⟩ (sb l) 16 16 ev w hsz hv hev
  have kR := fun ev w hv hev => Tryz.strconv_toError_range ⟨#[80, 97, 114, 115, 101, 85, 105, 110, 116]⟩ (sb l) 16 16 ev w hsz hv hev
  obtain ⟨Q, HQ⟩ : ∃ Q, Hid (q16 l = Q) := ⟨_, rfl⟩
  simp only [HQ.out] at k
  rw [HQ.out]
  generalize sb l = S at *
  go_enter Tryz.func207, Tryz.ntmps207
  go_wp2_with fail
  refine (k _).mono ?_
  rintro e w1 ⟨h1, g1⟩
  have hT1 := hT.kept g1
  cases Q with
  | some u =>
    obtain rfl : e = _ := h1
    clear k kS kR HQ
    go_wp2_with fail
    go_ret2
    exact ⟨rfl, g1⟩
  | none =>
    obtain ⟨u, q, hq, rfl⟩ := h1
    clear k HQ
    rcases hq with rfl | rfl
    · obtain ⟨tp, p, hc⟩ := hT1.rngCell
      have kk := kR _ _ hc (.inr ⟨tp, p, rfl⟩)
      clear kS kR hc
      go_wp2_with fail
      refine kk.mono ?_
      rintro e w2 ⟨N, rfl, _, _, g2⟩
      clear kk
      go_wp2_with fail
      go_ret2
      exact ⟨⟨_, _, _, rfl⟩, bel_bel g1 g1.size g2⟩
    · obtain ⟨tp, p, hc⟩ := hT1.synCell
      have kk := kS _ _ hc (.inr ⟨tp, p, rfl⟩)
      clear kS kR hc
      go_wp2_with fail
      refine kk.mono ?_
      rintro e w2 ⟨N, rfl, _, _, g2⟩
      clear kk
      go_wp2_with fail
      go_ret2
      exact ⟨⟨_, _, _, rfl⟩, bel_bel g1 g1.size g2⟩
def q10 (l : List Nat) : Option Nat := match Lib.parseUintB 8 (l.map UInt8.ofNat) with
  | .ok u => some u
  | _ => none
theorem pu10_ (l : List Nat) (w : World) (hl : l.length ≤ 140737488355328) (hT : Tb w) :
    Calls Tryz.prog 207 #[.string (sb l), .int .i64 10, .int .i64 8] w fun e w' => PuP (q10 l) e ∧ Below w.heap.size w w' := by
  have hsz : (sb l).size = l.length := sb_size l
  have hd := sb_data l
  unfold q10
  cases hq : Lib.parseUintB 8 (l.map UInt8.ofNat) with
  | ok u =>
    refine (Tryz.strconv_ParseUint_10_at8_ok (sb l) (by omega) u (by rw [hd]; exact hq) w).mono ?_
    rintro e w' ⟨rfl, hw⟩
    refine ⟨rfl, ?_⟩
    rcases hw with rfl | rfl
    · exact Below.refl _ _
    · exact Lib.bytesWorld_below _ _ _
  | «syntax» =>
    obtain ⟨tp, p, hv⟩ := hT.syn
    refine (Tryz.strconv_ParseUint_10_at8_syntax_var (sb l) (by omega) (by rw [hd]; exact hq) tp p w hv).mono ?_
    rintro e w' ⟨N, rfl, _, _, g⟩
    exact ⟨⟨_, _, _, rfl⟩, g⟩
  | range =>
    obtain ⟨tp, p, hv⟩ := hT.rng
    refine (Tryz.strconv_ParseUint_10_at8_range_var (sb l) (by omega) (by rw [hd]; exact hq) tp p w hv).mono ?_
    rintro e w' ⟨N, rfl, _, _, g⟩
    exact ⟨⟨_, _, _, rfl⟩, g⟩
/-- strconv.Atoi. -/
def qA (l : List Nat) : Option Int := match Lib.atoiAll (l.map UInt8.ofNat) with
  | .ok v => some v
  | _ => none
def AtP (q : Option Int) (e : Ending) : Prop :=
  match q with
  | some v => e = .returned (.tuple #[.int .i64 v, .nilIface])
  | none => ∃ (v : Int) (t : TypeId) (p : Value), e = .returned (.tuple #[.int .i64 v, .iface t p])
theorem atoi_ (l : List Nat) (w : World) (hl : l.length ≤ 140737488355328) (hT : Tb w) :
    Calls Tryz.prog 56 #[.string (sb l)] w fun e w' => AtP (qA l) e ∧ Below w.heap.size w w' := by
  have hsz : (sb l).size = l.length := sb_size l
  have hd := sb_data l
  unfold qA
  cases hq : Lib.atoiAll (l.map UInt8.ofNat) with
  | ok u =>
    refine (Tryz.strconv_Atoi_ok (sb l) (by omega) u (by rw [hd]; exact hq) w).mono ?_
    rintro e w' ⟨rfl, hw⟩
    refine ⟨rfl, ?_⟩
    rcases hw with rfl | ⟨t, rfl⟩
    · exact Below.refl _ _
    · exact Lib.bytesWorld_below _ _ _
  | «syntax» =>
    obtain ⟨tp, p, hv⟩ := hT.syn
    refine (Tryz.strconv_Atoi_syntax_var (sb l) (by omega) (by rw [hd]; exact hq) tp p w hv).mono ?_
    rintro e w' ⟨N, rfl, _, _, g⟩
    exact ⟨⟨_, _, _, rfl⟩, g⟩
  | range =>
    obtain ⟨tp, p, hv⟩ := hT.rng
    refine (Tryz.strconv_Atoi_range_var (sb l) (by omega) (by rw [hd]; exact hq) tp p w hv).mono ?_
    rintro e w' ⟨N, rfl, _, _, g⟩
    exact ⟨⟨_, _, _, rfl⟩, g⟩
end Go.Proofs.YtmgoabedickooaaGreatDoor
namespace Go.Proofs.YtmgoabedickooaaGreatDoor
set_option maxRecDepth 100000
open Go.RowKit Go.Shelf
set_option linter.unusedVariables false
attribute [local go_sem] Oper.semAt_some

theorem cq_ix (c : Nat) (l : List Nat) : ∀ cur, cq c cur l = (cur ++ l.take (ix c l)) :: (if ix c l < l.length then cu c (l.drop (ix c l + 1)) else []) := by
  induction l with
  | nil => intro cur; simp [cq, ix]
  | cons x r ih =>
    intro cur
    by_cases e : x = c
    · subst e
      simp [cq, ix, cu]
    · rw [cq, if_neg e, ih, ix, if_neg e]
      simp
theorem cu_ix (c : Nat) (l : List Nat) : cu c l = l.take (ix c l) :: (if ix c l < l.length then cu c (l.drop (ix c l + 1)) else []) := by
  have := cq_ix c l []
  rw [List.nil_append] at this
  exact this
/-- A part of a text. -/
abbrev Pt := { x : List Nat // (∀ z ∈ x, z < 256) ∧ x.length ≤ 140737488355328 }
theorem cu_pts (c : Nat) (k : Nat) : ∀ l : List Nat, l.length ≤ k → (∀ z ∈ l, z < 256) → l.length ≤ 140737488355328 → ∃ xs : List Pt, xs.map (·.1) = cu c l := by
  induction k with
  | zero =>
    intro l hl hy hb
    obtain rfl : l = [] := List.eq_nil_of_length_eq_zero (by omega)
    exact ⟨[⟨[], by simp, by simp⟩], by rw [cu_ix]; rfl⟩
  | succ k ih =>
    intro l hl hy hb
    have hx : (∀ z ∈ l.take (ix c l), z < 256) ∧ (l.take (ix c l)).length ≤ 140737488355328 := ⟨fun z hz => hy z (List.mem_of_mem_take hz), by rw [List.length_take]; omega⟩
    rw [cu_ix]
    by_cases h : ix c l < l.length
    · obtain ⟨xs, he⟩ := ih (l.drop (ix c l + 1)) (by rw [List.length_drop]; omega) (fun z hz => hy z (List.mem_of_mem_drop hz)) (by rw [List.length_drop]; omega)
      rw [if_pos h]
      exact ⟨⟨_, hx⟩ :: xs, by rw [List.map_cons, he]⟩
    · rw [if_neg h]
      exact ⟨[⟨_, hx⟩], rfl⟩
def msr : Value → Value → Nat
  | .string s, .bool true => s.size + 1
  | _, _ => 0
theorem msr_lt (s : ByteArray) : msr (.string s) (.bool true) = s.size + 1 ∧ msr (.string s) (.bool false) = 0 := ⟨rfl, rfl⟩
set_option maxHeartbeats 2000000 in
theorem parts1_in (n : Nat) (hn : 1 ≤ n) (lp bt bs n₀ c : Nat) (hc : c < 256) (l : List Nat) (hy : ∀ z ∈ l, z < 256) (hl : l.length ≤ 140737488355328) (xs : List Pt) (hx : xs.map (·.1) = cu c l) (J Jx : List Pt → World → Prop)
    (hJ : ∀ pre W k, J pre W → J pre (W.drewN k))
    (hY : ∀ pre x W, J pre W → pre.length < xs.length → YieldAt Fence.wide (n - 1) Tryz.prog lp #[.string (sb x.1)] W fun e W' =>
      (e = .returned (.bool true) ∧ J (pre ++ [x]) W' ∧ Below n₀ W W') ∨ (e = .returned (.bool false) ∧ Jx (pre ++ [x]) W'))
    (W : World) (hbt : bt < n₀) (hbs : bs < n₀) (hct : W.cell? ⟨bt, 0, none⟩ = some (.string (sb l))) (hcs : W.cell? ⟨bs, 0, none⟩ = some (.string ⟨#[UInt8.ofNat c]⟩)) (h0 : J [] W) :
    CallsIn Fence.wide n Tryz.prog 208 #[.func (.yield lp) #[] #[], .pointer (some ⟨bt, 0, none⟩), .pointer (some ⟨bs, 0, none⟩)] W fun e W' => (∃ v, e = .returned v) ∧
      ((∃ ys, ys = xs ∧ J ys W') ∨ (∃ pre, pre <+: xs ∧ Jx pre W')) := by
  have k1 := fun (l : List Nat) (hy : ∀ z ∈ l, z < 256) (hl : l.length ≤ 140737488355328) w => cut_ c l w hc hy (by unfold maxLen; omega)
  refine callsIn_of_wp Tryz.func208 rfl trivial ?_ rfl
  simp only [Tryz.ntmps208, List.size_toArray, List.length_cons, List.length_nil, Nat.reduceAdd, Nat.reduceSub, Array.replicate_succ, Array.replicate_zero, List.push_toArray, List.append_toArray, List.nil_append, List.cons_append]
  gi_wp2_with (refine ⟨trivial, ?_⟩; gi_at_call 54; refine (callsIn_wide.2 (k1 l hy hl _)).mono ?_; rintro e w' ⟨rfl, nq, rfl⟩)
  have hc0 : ∀ k, (W.drewN k).cell? ⟨bs, 0, none⟩ = some (.string ⟨#[UInt8.ofNat c]⟩) := fun k => hcs
  have h00 := hJ [] W nq h0
  have hcs0 := hc0 nq
  clear h0 hc0 hcs hct
  generalize W.drewN nq = W0 at *
  gi_loopw [4, 5, 6] (fun p r m wr => ∃ (pre : List Pt) (x : Pt) (post : List Pt) (rl : List Nat) (mo : Bool), p = .string (sb x.1) ∧ r = .string (sb rl) ∧ m = .bool mo ∧ xs = pre ++ x :: post ∧ (mo = true → post.map (·.1) = cu c rl ∧ (∀ z ∈ rl, z < 256) ∧ rl.length ≤ 140737488355328) ∧ (mo = false → post = []) ∧ J pre wr ∧ wr.cell? ⟨bs, 0, none⟩ = some (.string ⟨#[UInt8.ofNat c]⟩)) (fun _ r m _ => msr r m)
  case atStart =>
    rw [cu_ix] at hx
    cases xs with
    | nil => simp at hx
    | cons x0 post =>
      rw [List.map_cons] at hx
      obtain ⟨e1, e2⟩ := List.cons.inj hx
      refine ⟨[], x0, post, l.drop (ix c l + 1), decide (ix c l < l.length), by rw [e1], rfl, rfl, rfl, fun h => ?_, fun h => ?_, h00, hcs0⟩
      · have h := of_decide_eq_true h
        rw [if_pos h] at e2
        exact ⟨e2, fun z hz => hy z (List.mem_of_mem_drop hz), by rw [List.length_drop]; omega⟩
      · have h := of_decide_eq_false h
        rw [if_neg h] at e2
        exact List.map_eq_nil_iff.1 e2
  case round =>
    clear h00 hcs0
    obtain ⟨pre, x, post, rl, mo, rfl, rfl, rfl, hxs, hm1, hm2, hJs, hcs⟩ := hrel
    obtain ⟨fn, tmps, assign, body, hy', hR⟩ := hY pre x wr hJs (by rw [hxs]; simp)
    have HM1 := hid hm1
    have HM2 := hid hm2
    have HXS := hid hxs
    have HMS := hid (msr_lt (sb rl))
    clear hm1 hm2 hxs hx hY
    generalize hX : sb x.1 = X at *
    have hX' := hid hX
    clear hX
    cases mo with
    | true =>
      obtain ⟨hpost, hry, hrl⟩ := HM1.out rfl
      have HP := hid hpost
      have kc := k1 rl hry hrl
      clear hpost k1
      gi_wp2
      refine hR.mono ?_
      rintro e W3 (⟨rfl, hJ3, hk3⟩ | ⟨rfl, hJx3⟩)
      · have hcs3 := (hk3.cell (p := ⟨bs, 0, none⟩) hbs).trans hcs
        gi_wp2_with (refine ⟨trivial, ?_⟩; gi_at_call 54; refine (callsIn_wide.2 (kc _)).mono ?_; rintro e w' ⟨rfl, nq, rfl⟩)
        have hp := HP.out
        rw [cu_ix] at hp
        cases post with
        | nil => simp at hp
        | cons y post =>
          rw [List.map_cons] at hp
          obtain ⟨e1, e2⟩ := List.cons.inj hp
          go_roundw
          case rel =>
            refine ⟨pre ++ [x], y, post, rl.drop (ix c rl + 1), decide (ix c rl < rl.length), by rw [e1], rfl, rfl, by rw [HXS.out]; simp, fun h => ?_, fun h => ?_, hJ _ _ nq hJ3, hcs3⟩
            · have h := of_decide_eq_true h
              rw [if_pos h] at e2
              exact ⟨e2, fun z hz => hry z (List.mem_of_mem_drop hz), by rw [List.length_drop]; omega⟩
            · have h := of_decide_eq_false h
              rw [if_neg h] at e2
              exact List.map_eq_nil_iff.1 e2
          case measure =>
            show msr (.string (sb (rl.drop (ix c rl + 1)))) (.bool (decide (ix c rl < rl.length))) < msr (.string (sb rl)) (.bool true)
            rw [HMS.out.1, sb_size]
            by_cases h : ix c rl < rl.length
            · rw [decide_eq_true h, (msr_lt _).1, sb_size, List.length_drop]
              omega
            · rw [decide_eq_false h, (msr_lt _).2]
              omega
      · gi_wp2
        go_end0
        exact ⟨⟨_, rfl⟩, .inr ⟨pre ++ [x], ⟨post, by rw [HXS.out]; simp⟩, hJx3⟩⟩
    | false =>
      obtain rfl := HM2.out rfl
      gi_wp2
      refine hR.mono ?_
      rintro e W3 (⟨rfl, hJ3, hk3⟩ | ⟨rfl, hJx3⟩)
      · gi_wp2
        go_end0
        exact ⟨⟨_, rfl⟩, .inl ⟨pre ++ [x], HXS.out.symm, hJ3⟩⟩
      · gi_wp2
        go_end0
        exact ⟨⟨_, rfl⟩, .inr ⟨pre ++ [x], ⟨[], by rw [HXS.out]; simp⟩, hJx3⟩⟩
end Go.Proofs.YtmgoabedickooaaGreatDoor
namespace Go.Proofs.YtmgoabedickooaaGreatDoor
set_option maxRecDepth 100000
open Go.RowKit Go.Shelf
set_option linter.unusedVariables false

/-! A region that draws its order, within a round of a loop over a function. -/
section
variable {P : Program} {ops : Array Oper} {Q : Exit → Act → World → Prop} {lp n : Nat}
theorem rows_in {row : String} {args : Array Value} {w : World} {R : Value → World → Prop} (h : Rows P row args w R) : RowsIn (Fence.wide.inRound lp) n P row args w R :=
  fun b cs _ => let ⟨v, w', r, s⟩ := h b cs; ⟨v, w', r, stepsIn_wide.2 s⟩
theorem upon_in {o : Oper} {a : Act} {K K' : Act → World → Prop} {r : Result Next} (hK : ∀ a w, K a w → K' a w) (h : Oper.upon P o a K Q r) : Oper.uponIn (Fence.wide.inRound lp) n P o a K' Q r := by
  cases r with
  | ok x w' =>
    cases x with
    | value v => exact hK _ _ h
    | skip => exact hK _ _ h
    | defer d => exact hK _ _ h
    | enter f args =>
      refine ⟨fun hh => by simp [Fence.wide] at hh, CallsIn.inRound lp (callsIn_wide.2 (Calls.mono h (fun e w'' he => ?_)))⟩
      cases e with
      | returned v => exact hK _ _ he
      | panicked c => exact he
      | outgrown => exact he
    | row row args => exact ⟨fun hh => by simp [Fence.wide] at hh, RowsIn.mono (rows_in h) (fun v w'' he => hK _ _ he)⟩
    | _ => exact h.elim
  | halt x w' => cases x <;> first | exact h | exact h.elim
theorem op_in (hQ : LetsOut Q → False) (hd : ∀ (i : Nat) (o : Oper), ops[i]? = some o → ∀ c, o.op ≠ .defer c) {i : Nat} {a : Act} {w : World} {K K' : Act → World → Prop} (hK : ∀ a w, K a w → K' a w) (h : wpOp P ops Q i K a w) : wpOpIn (Fence.wide.inRound lp) n P ops Q i K' a w := by
  unfold wpOp at h
  unfold wpOpIn
  cases ho : ops[i]? with
  | none => rw [ho] at h; exact hK _ _ h
  | some o =>
    rw [ho] at h
    simp only at h ⊢
    by_cases hw : Region.wanted o (yielded ops a.tmps) = true
    · rw [if_pos hw] at h ⊢
      refine ⟨fun _ _ => trivial, ?_⟩
      rw [Oper.semAt_eq _ _ _ (hd i o ho)]
      rcases h with h | h
      · exact upon_in hK h
      · exact (hQ h.2).elim
    · rw [if_neg hw] at h ⊢
      exact ⟨fun _ _ => trivial, hK _ _ h⟩
theorem any_in (hQ : LetsOut Q → False) (hd : ∀ (i : Nat) (o : Oper), ops[i]? = some o → ∀ c, o.op ≠ .defer c) {md : Region.Mode} : ∀ (fuel : Nat) (listed : Array Bool) (a : Act) (w : World), wpAny P md ops Q fuel listed a w → wpAnyIn (Fence.wide.inRound lp) n P md ops Q fuel listed a w
  | 0, _, _, _, h => h
  | fuel + 1, listed, a, w, h => ⟨h.1, fun i hi => op_in hQ hd (fun a w hk => any_in hQ hd fuel _ a w hk) (h.2 i hi)⟩
/-- All that is done ahead of the last writes leaves the memory as it is: one walk serves. -/
theorem region_round {id : Nat} {a : Act} {w : World} {l : List Oper} (m : Nat) (hm : P.follows .mixedOrders = true) (hQ : LetsOut Q → False) (hd : ∀ o ∈ l, ∀ c, o.op ≠ .defer c) (hB : Region.lexTailB .any l.toArray m = true)
    (h : wpStill P l.toArray { w with drawn := w.drawn + 1 } (fun a' => wpList P l.toArray Q (l.drop m) a' { w with drawn := w.drawn + 1 }) (l.take m) a) : (Code.region id l.toArray true).wpIn (Fence.wide.inRound lp) n P Q a w := by
  simp only [Region.lexTailB, Bool.and_eq_true, decide_eq_true_eq] at hB
  obtain ⟨⟨⟨⟨b1, b2⟩, b3⟩, b4⟩, b5⟩ := hB
  have hsz : l.toArray.size = l.length := by simp
  have hmn : m < l.length := by rw [← hsz]; exact b2
  have e1 : (l.take m).length = m := by rw [List.length_take]; omega
  have e2 : (l.drop m).length = l.toArray.size - m := by rw [List.length_drop, hsz]
  have hI : HeadInv .any l.toArray m (Array.replicate l.toArray.size false) := by
    refine ⟨by simp, fun j oj _ q => ?_, fun t _ q => getD_in (by simpa using q) (getD_replicate_false _ _)⟩
    rw [getD_replicate_false] at q
    cases q
  have hH := wpAnyL_lex (md := .any) (g := l.toArray.size - m) b1 b3 b4 b2 (l.take m) 0 _ a (fun j hj => by
    rw [e1] at hj
    simp [hj]) (by rw [e1, Nat.zero_add]) hI (by rw [e1]; exact b5) h
  have hA := wpAny_of_head (Q' := Q) (g := l.toArray.size - m) (fun listed a' q => by
    have q2 := wpAny_of_seq (md := .any) (Q' := Q) (l.drop m) m listed a' { w with drawn := w.drawn + 1 } (fun j => by simp [List.getElem?_drop]) (by rw [e2]; exact q.1) q.2
    rwa [e2] at q2) _ _ _ hH
  rw [e1, show m + (l.toArray.size - m) = l.toArray.size from by omega] at hA
  exact wpIn_region_any hm (any_in hQ (fun i o ho => hd o (by
    have : l[i]? = some o := by simpa using ho
    exact List.mem_of_getElem? this)) _ _ _ _ hA)
end
end Go.Proofs.YtmgoabedickooaaGreatDoor
namespace Go.Proofs.YtmgoabedickooaaGreatDoor
set_option maxRecDepth 100000
open Go.RowKit Go.Shelf
set_option linter.unusedVariables false
attribute [local go_sem] Oper.semAt_some

theorem parts1_stops (n : Nat) (hn : 1 ≤ n) (bt bs n₀ c : Nat) (hc : c < 256) (l : List Nat) (hy : ∀ z ∈ l, z < 256) (hl : l.length ≤ 140737488355328) (xs : List Pt) (hx : xs.map (·.1) = cu c l) (w : World) (hbt : bt < n₀) (hbs : bs < n₀) (hn₀ : n₀ ≤ w.heap.size)
    (hct : w.cell? ⟨bt, 0, none⟩ = some (.string (sb l))) (hcs : w.cell? ⟨bs, 0, none⟩ = some (.string ⟨#[UInt8.ofNat c]⟩)) :
    SeqStopsK Fence.wide n Tryz.prog 208 #[.pointer (some ⟨bt, 0, none⟩), .pointer (some ⟨bs, 0, none⟩)] (fun x : Pt => #[Value.string (sb x.1)]) (Below n₀) (fun ys => ys = xs) (fun pre => pre <+: xs) xs.length w := fun lp J Jx W hW hJ hJx hY h0 =>
  parts1_in n hn lp bt bs n₀ c hc l hy hl xs hx J Jx (fun pre W k h => hJ pre W (W.drewN k) none h (grown_drewN W k none) (fun r e => by cases e)) hY W hbt hbs ((hW.cell (p := ⟨bt, 0, none⟩) (by show bt < _; omega)).trans hct) ((hW.cell (p := ⟨bs, 0, none⟩) (by show bs < _; omega)).trans hcs) h0
set_option maxHeartbeats 400000 in
theorem parts_ (S D : ByteArray) (w : World) : Calls Tryz.prog 181 #[.string S, .string D] w fun e w' => e = .returned (.func (.func 208) #[] #[.pointer (some ⟨w.heap.size, 0, none⟩), .pointer (some ⟨w.heap.size + 1, 0, none⟩)]) ∧ w' = (w.alloc (.cells #[.string S] 9)).alloc (.cells #[.string D] 9) := by
  have hmf : ∀ fn first cap w, (Instr.makeFunc fn first cap).run Tryz.prog w = .ok (.func fn first cap) w := fun _ _ _ _ => rfl
  go_enter Tryz.func181, Tryz.ntmps181
  go_wp2_with fail
  go_ret
  exact ⟨rfl, rfl⟩
theorem cell_new1 (W : World) (v : Value) (t : TypeId) : (W.alloc (.cells #[v] t)).cell? ⟨W.heap.size, 0, none⟩ = some v ∧ (W.alloc (.cells #[v] t)).frozen? ⟨W.heap.size, 0, none⟩ = false := by
  have h : (W.alloc (.cells #[v] t)).heap[W.heap.size]? = some (.cells #[v] t (0, 0)) := heap_alloc_new W _
  exact ⟨(cell_of_row _ _ 0 _ t (0, 0) h).trans rfl, by unfold World.frozen?; rw [h]; rfl⟩
theorem cell_al {W : World} {a : Addr} {v : Value} {o : Obj} (h : W.cell? a = some v) : (W.alloc o).cell? a = some v := cell_kept h (World.grownBy_alloc W o none) (fun r e => by cases e)
theorem frozen_al {W : World} {a : Addr} {v : Value} {o : Obj} (h : W.cell? a = some v) (hf : W.frozen? a = false) : (W.alloc o).frozen? a = false := (frozen_kept h (World.grownBy_alloc W o none) (fun r e => by cases e)).trans hf
/-- Numbers of so many signs laid one behind the other, of two words. -/
def fv (p : Int) (vs : List Nat) : Int := vs.foldl (fun (A : Int) (v : Nat) => (A * p + (v : Int)) % 340282366920938463463374607431768211456) 0
theorem fv_snoc (p : Int) (vs : List Nat) (v : Nat) : fv p (vs ++ [v]) = (fv p vs * p + v) % 340282366920938463463374607431768211456 := by simp [fv]
/-- What gather answers. -/
def GaR (q : List Nat → Option Nat) (p : Int) (ls : List (List Nat)) (e : Ending) : Prop :=
  (∃ (H L : Int) (vs : List Nat), InU H ∧ InU L ∧ ls.map q = vs.map some ∧ ad H L = fv p vs ∧ e = .returned (.tuple #[.int .u64 H, .int .u64 L, .bool true])) ∨
  ((∃ x ∈ ls, q x = none) ∧ e = .returned (.tuple #[.int .u64 0, .int .u64 0, .bool false]))
theorem cell_be {W W' : World} {a : Addr} {v : Value} (hb : Below W.heap.size W W') (h : W.cell? a = some v) : W'.cell? a = some v := cell_kept h (grown_of_below hb) (fun r e => by cases e)
theorem frozen_be {W W' : World} {a : Addr} {v : Value} (hb : Below W.heap.size W W') (h : W.cell? a = some v) (hf : W.frozen? a = false) : W'.frozen? a = false := (frozen_kept h (grown_of_below hb) (fun r e => by cases e)).trans hf
theorem keeps_be {W W' : World} (hb : Below W.heap.size W W') : KeepsOthers W W' := KeepsOthers.of_grownBy (grown_of_below hb) (fun r o e => by cases e)
theorem orP8 (x z : Int) (x0 : 0 ≤ x) (x1 : x < 72057594037927936) (z0 : 0 ≤ z) (z1 : z < 256) : bits BinOp.or IntKind.u64 (x * 256) z = x * 256 + z := by
  obtain ⟨a, rfl⟩ := Int.eq_ofNat_of_zero_le x0
  obtain ⟨b, rfl⟩ := Int.eq_ofNat_of_zero_le z0
  have h := bits_or_u64_nat (a * 256) b (by omega) (by omega)
  have e : a * 256 ||| b = a * 256 + b := by
    have := Nat.shiftLeft_add_eq_or_of_lt (a := a) (b := b) (i := 8) (by omega)
    rw [Nat.shiftLeft_eq] at this
    exact this.symm
  rw [e] at h
  rw [show ((a : Int) * 256) = ((a * 256 : Nat) : Int) from by omega, h]
  omega
theorem wrP8 (x : Int) (h : InU x) : IntKind.u64.wrap (x * 256) = x % 72057594037927936 * 256 := by
  unfold InU at h
  rw [IntKind.wrap_u64]
  omega
/-- One number more behind the others. -/
theorem step8 {H L u : Int} (hH : InU H) (hL : InU L) (u0 : 0 ≤ u) (u1 : u < 256) :
    InU (bits BinOp.or IntKind.u64 (IntKind.u64.wrap (H * 256)) (L / 72057594037927936)) ∧ InU (bits BinOp.or IntKind.u64 (IntKind.u64.wrap (L * 256)) u) ∧
    ad (bits BinOp.or IntKind.u64 (IntKind.u64.wrap (H * 256)) (L / 72057594037927936)) (bits BinOp.or IntKind.u64 (IntKind.u64.wrap (L * 256)) u) = (ad H L * 256 + u) % 340282366920938463463374607431768211456 := by
  rw [wrP8 H hH, wrP8 L hL]
  unfold InU at hH hL
  rw [orP8 (H % 72057594037927936) (L / 72057594037927936) (by omega) (by omega) (by omega) (by omega), orP8 (L % 72057594037927936) u (by omega) (by omega) u0 u1]
  unfold InU ad
  omega
theorem orP16 (x z : Int) (x0 : 0 ≤ x) (x1 : x < 281474976710656) (z0 : 0 ≤ z) (z1 : z < 65536) : bits BinOp.or IntKind.u64 (x * 65536) z = x * 65536 + z := by
  obtain ⟨a, rfl⟩ := Int.eq_ofNat_of_zero_le x0
  obtain ⟨b, rfl⟩ := Int.eq_ofNat_of_zero_le z0
  have h := bits_or_u64_nat (a * 65536) b (by omega) (by omega)
  have e : a * 65536 ||| b = a * 65536 + b := by
    have := Nat.shiftLeft_add_eq_or_of_lt (a := a) (b := b) (i := 16) (by omega)
    rw [Nat.shiftLeft_eq] at this
    exact this.symm
  rw [e] at h
  rw [show ((a : Int) * 65536) = ((a * 65536 : Nat) : Int) from by omega, h]
  omega
theorem wrP16 (x : Int) (h : InU x) : IntKind.u64.wrap (x * 65536) = x % 281474976710656 * 65536 := by
  unfold InU at h
  rw [IntKind.wrap_u64]
  omega
/-- One number more behind the others. -/
theorem step16 {H L u : Int} (hH : InU H) (hL : InU L) (u0 : 0 ≤ u) (u1 : u < 65536) :
    InU (bits BinOp.or IntKind.u64 (IntKind.u64.wrap (H * 65536)) (L / 281474976710656)) ∧ InU (bits BinOp.or IntKind.u64 (IntKind.u64.wrap (L * 65536)) u) ∧
    ad (bits BinOp.or IntKind.u64 (IntKind.u64.wrap (H * 65536)) (L / 281474976710656)) (bits BinOp.or IntKind.u64 (IntKind.u64.wrap (L * 65536)) u) = (ad H L * 65536 + u) % 340282366920938463463374607431768211456 := by
  rw [wrP16 H hH, wrP16 L hL]
  unfold InU at hH hL
  rw [orP16 (H % 281474976710656) (L / 281474976710656) (by omega) (by omega) (by omega) (by omega), orP16 (L % 281474976710656) u (by omega) (by omega) u0 u1]
  unfold InU ad
  omega
theorem q10_lt {l : List Nat} {u : Nat} (h : q10 l = some u) : u < 256 := by
  unfold q10 at h
  cases hq : Lib.parseUintB 8 (l.map UInt8.ofNat) with
  | ok v =>
    rw [hq] at h
    have h : some v = some u := h
    obtain rfl := Option.some.inj h
    unfold Lib.parseUintB at hq
    split at hq
    · cases hq
    · have key : ∀ (l : List UInt8) (acc v : Nat), acc ≤ 255 → Lib.parseUintM 255 acc l = .ok v → v ≤ 255 := by
        intro l
        induction l with
        | nil => intro acc v h0 h; simp only [Lib.parseUintM] at h; cases h; exact h0
        | cons c r ih =>
          intro acc v h0 h
          rw [Lib.parseUintM] at h
          split at h
          · split at h
            · cases h
            · split at h
              · cases h
              · exact ih _ _ (by omega) h
          · cases h
      have := key _ 0 v (by omega) hq
      omega
  | «syntax» => rw [hq] at h; cases h
  | range => rw [hq] at h; cases h
theorem q16_lt {l : List Nat} {u : Nat} (h : q16 l = some u) : u < 65536 := by
  unfold q16 at h
  split at h
  · cases h
  · have key : ∀ (l : List Nat) (acc v : Nat), acc ≤ 65535 → ph acc l = some v → v ≤ 65535 := by
      intro l
      induction l with
      | nil => intro acc v h0 h; simp only [ph] at h; cases h; exact h0
      | cons c r ih =>
        intro acc v h0 h
        rw [ph] at h
        cases hc : hv c with
        | none => rw [hc] at h; cases h
        | some d =>
          rw [hc] at h
          simp only at h
          split at h
          · cases h
          · exact ih _ _ (by omega) h
    have := key _ 0 u (by omega) h
    omega
/-- What gather's last statement holds to. -/
def SG (w0 : World) (D : Nat) (H L : Int) (w : World) : Prop :=
  (w.cell? ⟨w0.heap.size + 1 + 1, 0, none⟩ = some (.int .u64 H) ∧ w.frozen? ⟨w0.heap.size + 1 + 1, 0, none⟩ = false) ∧ (w.cell? ⟨w0.heap.size + 1 + 1 + 1, 0, none⟩ = some (.int .u64 L) ∧ w.frozen? ⟨w0.heap.size + 1 + 1 + 1, 0, none⟩ = false) ∧ ((∃ o, w.cell? ⟨w0.heap.size + 1 + 1 + 1 + 1, 0, none⟩ = some (.bool o)) ∧ w.frozen? ⟨w0.heap.size + 1 + 1 + 1 + 1, 0, none⟩ = false) ∧ w.heap[D]? = some (.deferred (some [])) ∧ Below w0.heap.size w0 w
theorem SG.set2 {w0 w : World} {D : Nat} {H L : Int} (h : SG w0 D H L w) : SG w0 D H L (w.setCell ⟨w0.heap.size + 1 + 1, 0, none⟩ (.int .u64 H)) := by
  obtain ⟨⟨a1, a2⟩, ⟨b1, b2⟩, ⟨⟨o, c1⟩, c2⟩, d, e⟩ := h
  exact ⟨⟨World.cell?_setCell_same' w _ _ (by rw [a1]; rfl), by rw [World.frozen?_setCell]; exact a2⟩, ⟨(World.cell?_setCell_far w ⟨w0.heap.size + 1 + 1, 0, none⟩ ⟨w0.heap.size + 1 + 1 + 1, 0, none⟩ _ (by show w0.heap.size + 1 + 1 ≠ w0.heap.size + 1 + 1 + 1; omega)).trans b1, by rw [World.frozen?_setCell]; exact b2⟩, ⟨⟨o, (World.cell?_setCell_far w ⟨w0.heap.size + 1 + 1, 0, none⟩ ⟨w0.heap.size + 1 + 1 + 1 + 1, 0, none⟩ _ (by show w0.heap.size + 1 + 1 ≠ w0.heap.size + 1 + 1 + 1 + 1; omega)).trans c1⟩, by rw [World.frozen?_setCell]; exact c2⟩, (KeepsOthers.setCell w _ _).same D _ d rfl, e.setCell (p := ⟨w0.heap.size + 1 + 1, 0, none⟩) (by show w0.heap.size ≤ w0.heap.size + 1 + 1; omega) _⟩
theorem SG.set3 {w0 w : World} {D : Nat} {H L : Int} (h : SG w0 D H L w) : SG w0 D H L (w.setCell ⟨w0.heap.size + 1 + 1 + 1, 0, none⟩ (.int .u64 L)) := by
  obtain ⟨⟨a1, a2⟩, ⟨b1, b2⟩, ⟨⟨o, c1⟩, c2⟩, d, e⟩ := h
  exact ⟨⟨(World.cell?_setCell_far w ⟨w0.heap.size + 1 + 1 + 1, 0, none⟩ ⟨w0.heap.size + 1 + 1, 0, none⟩ _ (by show w0.heap.size + 1 + 1 + 1 ≠ w0.heap.size + 1 + 1; omega)).trans a1, by rw [World.frozen?_setCell]; exact a2⟩, ⟨World.cell?_setCell_same' w _ _ (by rw [b1]; rfl), by rw [World.frozen?_setCell]; exact b2⟩, ⟨⟨o, (World.cell?_setCell_far w ⟨w0.heap.size + 1 + 1 + 1, 0, none⟩ ⟨w0.heap.size + 1 + 1 + 1 + 1, 0, none⟩ _ (by show w0.heap.size + 1 + 1 + 1 ≠ w0.heap.size + 1 + 1 + 1 + 1; omega)).trans c1⟩, by rw [World.frozen?_setCell]; exact c2⟩, (KeepsOthers.setCell w _ _).same D _ d rfl, e.setCell (p := ⟨w0.heap.size + 1 + 1 + 1, 0, none⟩) (by show w0.heap.size ≤ w0.heap.size + 1 + 1 + 1; omega) _⟩
theorem SG.set4 {w0 w : World} {D : Nat} {H L : Int} (h : SG w0 D H L w) : SG w0 D H L (w.setCell ⟨w0.heap.size + 1 + 1 + 1 + 1, 0, none⟩ (.bool true)) ∧ (w.setCell ⟨w0.heap.size + 1 + 1 + 1 + 1, 0, none⟩ (.bool true)).cell? ⟨w0.heap.size + 1 + 1 + 1 + 1, 0, none⟩ = some (.bool true) := by
  obtain ⟨⟨a1, a2⟩, ⟨b1, b2⟩, ⟨⟨o, c1⟩, c2⟩, d, e⟩ := h
  have x := World.cell?_setCell_same' w ⟨w0.heap.size + 1 + 1 + 1 + 1, 0, none⟩ (.bool true) (by rw [c1]; rfl)
  exact ⟨⟨⟨(World.cell?_setCell_far w ⟨w0.heap.size + 1 + 1 + 1 + 1, 0, none⟩ ⟨w0.heap.size + 1 + 1, 0, none⟩ _ (by show w0.heap.size + 1 + 1 + 1 + 1 ≠ w0.heap.size + 1 + 1; omega)).trans a1, by rw [World.frozen?_setCell]; exact a2⟩, ⟨(World.cell?_setCell_far w ⟨w0.heap.size + 1 + 1 + 1 + 1, 0, none⟩ ⟨w0.heap.size + 1 + 1 + 1, 0, none⟩ _ (by show w0.heap.size + 1 + 1 + 1 + 1 ≠ w0.heap.size + 1 + 1 + 1; omega)).trans b1, by rw [World.frozen?_setCell]; exact b2⟩, ⟨⟨true, x⟩, by rw [World.frozen?_setCell]; exact c2⟩, (KeepsOthers.setCell w _ _).same D _ d rfl, e.setCell (p := ⟨w0.heap.size + 1 + 1 + 1 + 1, 0, none⟩) (by show w0.heap.size ≤ w0.heap.size + 1 + 1 + 1 + 1; omega) _⟩, x⟩
theorem wpIn_only {F : Fence} {n : Nat} {P : Program} {c : Code} {Q : Exit → Act → World → Prop} {a : Act} {w : World} (h : c.wpIn F n P (fun e a w => e = .normal ∧ Q e a w) a w) : c.wpIn F n P Q a w := wpIn_mono h (fun _ _ _ h => h.2)

set_option maxHeartbeats 4000000 in
theorem gather8_ (bt bs c : Nat) (hc : c < 256) (l : List Nat) (hy : ∀ z ∈ l, z < 256) (hl : l.length ≤ 140737488355328) (xs : List Pt) (hx : xs.map (·.1) = cu c l) (w : World) (hT : Tb w) (hbt : bt < w.heap.size) (hbs : bs < w.heap.size)
    (hct : w.cell? ⟨bt, 0, none⟩ = some (.string (sb l))) (hcs : w.cell? ⟨bs, 0, none⟩ = some (.string ⟨#[UInt8.ofNat c]⟩)) :
    Calls Tryz.prog 180 #[.func (.func 208) #[] #[.pointer (some ⟨bt, 0, none⟩), .pointer (some ⟨bs, 0, none⟩)], .int .i64 10, .int .i64 8] w fun e w' => GaR q10 256 (cu c l) e ∧ Below w.heap.size w w' := by
  have kp : ∀ (x : List Nat) (w : World), (∀ z ∈ x, z < 256) → x.length ≤ 140737488355328 → Tb w → Calls Tryz.prog 207 #[.string (sb x), .int .i64 10, .int .i64 8] w fun e w' => PuP (q10 x) e ∧ Below w.heap.size w w' := fun x w hy hl hT => pu10_ x w hl hT
  have B0 : Below w.heap.size w (((((w.alloc (.cells #[.int .i64 10] 3)).alloc (.cells #[.int .i64 8] 3)).alloc (.cells #[.int .u64 0] 46)).alloc (.cells #[.int .u64 0] 46)).alloc (.cells #[.bool false] 4)) := ((((((Below.refl _ w).alloc (Nat.le_refl _) _).alloc (by simp) _).alloc (by simp; omega) _).alloc (by simp; omega) _).alloc (by simp; omega) _)
  have c0 := cell_new1 w (.int .i64 10) 3
  have c1 := cell_new1 (w.alloc (.cells #[.int .i64 10] 3)) (.int .i64 8) 3
  have c2 := cell_new1 ((w.alloc (.cells #[.int .i64 10] 3)).alloc (.cells #[.int .i64 8] 3)) (.int .u64 0) 46
  have c3 := cell_new1 (((w.alloc (.cells #[.int .i64 10] 3)).alloc (.cells #[.int .i64 8] 3)).alloc (.cells #[.int .u64 0] 46)) (.int .u64 0) 46
  have c4 := cell_new1 ((((w.alloc (.cells #[.int .i64 10] 3)).alloc (.cells #[.int .i64 8] 3)).alloc (.cells #[.int .u64 0] 46)).alloc (.cells #[.int .u64 0] 46)) (.bool false) 4
  simp only [World.size_alloc] at c1 c2 c3 c4
  have hstop := parts1_stops 2 (by omega) bt bs w.heap.size c hc l hy hl xs hx (((((w.alloc (.cells #[.int .i64 10] 3)).alloc (.cells #[.int .i64 8] 3)).alloc (.cells #[.int .u64 0] 46)).alloc (.cells #[.int .u64 0] 46)).alloc (.cells #[.bool false] 4)) hbt hbs (by simp; omega) ((B0.cell (p := ⟨bt, 0, none⟩) hbt).trans hct) ((B0.cell (p := ⟨bs, 0, none⟩) hbs).trans hcs)
  refine (callsIn_wide (n := 3)).1 ?_
  refine callsIn_of_wp_marks Tryz.func180 rfl trivial ?_ rfl
  simp only [Tryz.ntmps180, List.size_toArray, List.length_cons, List.length_nil, Nat.reduceAdd, Nat.reduceSub, Array.replicate_succ, Array.replicate_zero, List.push_toArray, List.append_toArray, List.nil_append, List.cons_append]
  gi_wp2
  refine wpIn_rangeFunc_ownF rfl (by omega) (gf := 208) (lb := #[.pointer (some ⟨bt, 0, none⟩), .pointer (some ⟨bs, 0, none⟩)]) rfl trivial (enters_of Tryz.func208 (by kernel_rfl) rfl)
    hstop belowK_t (belowK_b (by simp; omega)) (Below.refl _ _) (fun _ => rfl)
    (fun pre W => (∃ (H L : Int) (vs : List Nat), InU H ∧ InU L ∧ W.cell? ⟨w.heap.size, 0, none⟩ = some (.int .i64 10) ∧ W.cell? ⟨w.heap.size + 1, 0, none⟩ = some (.int .i64 8) ∧ (W.cell? ⟨w.heap.size + 1 + 1, 0, none⟩ = some (.int .u64 H) ∧ W.frozen? ⟨w.heap.size + 1 + 1, 0, none⟩ = false) ∧ (W.cell? ⟨w.heap.size + 1 + 1 + 1, 0, none⟩ = some (.int .u64 L) ∧ W.frozen? ⟨w.heap.size + 1 + 1 + 1, 0, none⟩ = false) ∧ (W.cell? ⟨w.heap.size + 1 + 1 + 1 + 1, 0, none⟩ = some (.bool false) ∧ W.frozen? ⟨w.heap.size + 1 + 1 + 1 + 1, 0, none⟩ = false) ∧ Hid (pre.map (fun x => q10 x.1) = vs.map some ∧ ad H L = fv 256 vs)) ∧ Below w.heap.size w W)
    (fun c pre W => (c = .ret ∧ (∃ x ∈ pre, q10 x.1 = none) ∧ W.cell? ⟨w.heap.size + 1 + 1, 0, none⟩ = some (.int .u64 0) ∧ W.cell? ⟨w.heap.size + 1 + 1 + 1, 0, none⟩ = some (.int .u64 0) ∧ W.cell? ⟨w.heap.size + 1 + 1 + 1 + 1, 0, none⟩ = some (.bool false)) ∧ Below w.heap.size w W)
    (OwnFrom.and (Own.from (fun s A B row hs hg hr => by
      obtain ⟨H, L, vs, h1, h2, h3, h4, h5, h6, h7, h8⟩ := hs
      exact ⟨H, L, vs, h1, h2, cell_kept h3 hg hr, cell_kept h4 hg hr, ⟨cell_kept h5.1 hg hr, (frozen_kept h5.1 hg hr).trans h5.2⟩, ⟨cell_kept h6.1 hg hr, (frozen_kept h6.1 hg hr).trans h6.2⟩, ⟨cell_kept h7.1 hg hr, (frozen_kept h7.1 hg hr).trans h7.2⟩, h8⟩) _) (ownFrom_below (Nat.le_refl _) (by simp; omega)))
    (fun c => OwnFrom.and (Own.from (fun s A B row hs hg hr => ⟨hs.1, hs.2.1, cell_kept hs.2.2.1 hg hr, cell_kept hs.2.2.2.1 hg hr, cell_kept hs.2.2.2.2 hg hr⟩) _) (ownFrom_below (Nat.le_refl _) (by simp; omega)))
    ⟨⟨0, 0, [], by unfold InU; omega, by unfold InU; omega, cell_al (cell_al (cell_al (cell_al c0.1))), cell_al (cell_al (cell_al c1.1)), ⟨cell_al (cell_al c2.1), frozen_al (cell_al c2.1) (frozen_al c2.1 c2.2)⟩, ⟨cell_al c3.1, frozen_al c3.1 c3.2⟩, c4, ⟨rfl, rfl⟩⟩, B0⟩
    (fun x => { tmps := #[.func (.func 208) #[] #[.pointer (some ⟨bt, 0, none⟩), .pointer (some ⟨bs, 0, none⟩)], .int .i64 10, .int .i64 8, undef, .pointer (some ⟨w.heap.size, 0, none⟩), .pointer (some ⟨w.heap.size + 1, 0, none⟩), .pointer (some ⟨w.heap.size + 1 + 1, 0, none⟩), .pointer (some ⟨w.heap.size + 1 + 1 + 1, 0, none⟩), .pointer (some ⟨w.heap.size + 1 + 1 + 1 + 1, 0, none⟩), .string (sb x.1), undef, undef, .func (.func 208) #[] #[.pointer (some ⟨bt, 0, none⟩), .pointer (some ⟨bs, 0, none⟩)], .string (sb x.1), undef, undef, undef, undef, undef, undef, undef, undef, undef, undef, undef, undef, undef, undef, undef, undef, undef, undef, undef, undef, undef, undef, undef, undef], defers := [] }) ?assign ?body ?done ?stop
  case assign =>
    intro l x W K hK
    gi_wp2
    exact hK
  case body =>
    clear hstop c0 c1 c2 c3 c4 B0 hct hcs
    rintro lp pre x W ⟨⟨H, L, vs, hH, hL, d0, d1, ⟨d2, f2⟩, ⟨d3, f3⟩, ⟨d4, f4⟩, HH⟩, hB⟩ _
    have hTW := hT.kept hB
    have kx := kp x.1 W x.2.1 x.2.2 hTW
    have HX : Hid (sb x.1 = sb x.1) := rfl
    clear kp
    cases hq : q10 x.1 with
    | none =>
      rw [hq] at kx
      have HQ := hid hq
      clear hq
      generalize sb x.1 = X at *
      gi_wp2_with fail
      refine ⟨trivial, ?_⟩
      refine (CallsIn.inRound lp (callsIn_wide.2 kx)).mono ?_
      rintro e w1 ⟨⟨u, tt, p, rfl⟩, g⟩
      have k0 := keeps_be g
      have hB1 := bel_bel hB hB.size g
      replace f2 := frozen_be g d2 f2
      replace f3 := frozen_be g d3 f3
      replace f4 := frozen_be g d4 f4
      replace d2 := cell_be g d2
      replace d3 := cell_be g d3
      replace d4 := cell_be g d4
      clear kx d0 d1 hTW g
      gi_wp2
      have x2 := World.cell?_setCell_same' w1 ⟨w.heap.size + 1 + 1, 0, none⟩ (.int .u64 0) (by rw [d2]; rfl)
      have y3 := (World.cell?_setCell_far w1 ⟨w.heap.size + 1 + 1, 0, none⟩ ⟨w.heap.size + 1 + 1 + 1, 0, none⟩ (.int .u64 0) (by show w.heap.size + 1 + 1 ≠ w.heap.size + 1 + 1 + 1; omega)).trans d3
      have y4 := (World.cell?_setCell_far w1 ⟨w.heap.size + 1 + 1, 0, none⟩ ⟨w.heap.size + 1 + 1 + 1 + 1, 0, none⟩ (.int .u64 0) (by show w.heap.size + 1 + 1 ≠ w.heap.size + 1 + 1 + 1 + 1; omega)).trans d4
      generalize hw2 : w1.setCell ⟨w.heap.size + 1 + 1, 0, none⟩ (.int .u64 0) = w2 at *
      have x3 := World.cell?_setCell_same' w2 ⟨w.heap.size + 1 + 1 + 1, 0, none⟩ (.int .u64 0) (by rw [y3]; rfl)
      have z2 := (World.cell?_setCell_far w2 ⟨w.heap.size + 1 + 1 + 1, 0, none⟩ ⟨w.heap.size + 1 + 1, 0, none⟩ (.int .u64 0) (by show w.heap.size + 1 + 1 + 1 ≠ w.heap.size + 1 + 1; omega)).trans x2
      have z4 := (World.cell?_setCell_far w2 ⟨w.heap.size + 1 + 1 + 1, 0, none⟩ ⟨w.heap.size + 1 + 1 + 1 + 1, 0, none⟩ (.int .u64 0) (by show w.heap.size + 1 + 1 + 1 ≠ w.heap.size + 1 + 1 + 1 + 1; omega)).trans y4
      generalize hw3 : w2.setCell ⟨w.heap.size + 1 + 1 + 1, 0, none⟩ (.int .u64 0) = w3 at *
      have v4 := World.cell?_setCell_same' w3 ⟨w.heap.size + 1 + 1 + 1 + 1, 0, none⟩ (.bool false) (by rw [z4]; rfl)
      have v2 := (World.cell?_setCell_far w3 ⟨w.heap.size + 1 + 1 + 1 + 1, 0, none⟩ ⟨w.heap.size + 1 + 1, 0, none⟩ (.bool false) (by show w.heap.size + 1 + 1 + 1 + 1 ≠ w.heap.size + 1 + 1; omega)).trans z2
      have v3 := (World.cell?_setCell_far w3 ⟨w.heap.size + 1 + 1 + 1 + 1, 0, none⟩ ⟨w.heap.size + 1 + 1 + 1, 0, none⟩ (.bool false) (by show w.heap.size + 1 + 1 + 1 + 1 ≠ w.heap.size + 1 + 1 + 1; omega)).trans x3
      have q3 : KeepsOthers W w3 := by rw [← hw3, ← hw2]; exact (k0.trans (KeepsOthers.setCell _ _ _)).trans (KeepsOthers.setCell _ _ _)
      have b3 : Below w.heap.size w w3 := by rw [← hw3, ← hw2]; exact (hB1.setCell (p := ⟨w.heap.size + 1 + 1, 0, none⟩) (by show w.heap.size ≤ w.heap.size + 1 + 1; omega) _).setCell (p := ⟨w.heap.size + 1 + 1 + 1, 0, none⟩) (by show w.heap.size ≤ w.heap.size + 1 + 1 + 1; omega) _
      exact ⟨q3.trans (KeepsOthers.setCell _ _ _), ⟨rfl, ⟨x, by simp, HQ.out⟩, v2, v3, v4⟩, b3.setCell (p := ⟨w.heap.size + 1 + 1 + 1 + 1, 0, none⟩) (by show w.heap.size ≤ w.heap.size + 1 + 1 + 1 + 1; omega) _⟩
    | some u =>
      rw [hq] at kx
      have HQ := hid hq
      clear hq
      generalize sb x.1 = X at *
      gi_wp2_with fail
      refine ⟨trivial, ?_⟩
      refine (CallsIn.inRound lp (callsIn_wide.2 kx)).mono ?_
      rintro e w1 ⟨he, g⟩
      obtain rfl : e = _ := he
      have k0 := keeps_be g
      have hB1 := bel_bel hB hB.size g
      replace f2 := frozen_be g d2 f2
      replace f3 := frozen_be g d3 f3
      replace f4 := frozen_be g d4 f4
      replace d0 := cell_be g d0
      replace d1 := cell_be g d1
      replace d2 := cell_be g d2
      replace d3 := cell_be g d3
      replace d4 := cell_be g d4
      clear kx hTW
      gi_wp2
      have hmx : Tryz.prog.follows .mixedOrders = true := by kernel_rfl
      obtain ⟨hH0, hH1⟩ := hH
      obtain ⟨hL0, hL1⟩ := hL
      have ew : IntKind.i64.wrap 56 = 56 := by rw [IntKind.wrap_i64]; decide
      refine region_round 8 hmx ?hq (by simp) (by kernel_rfl) ?_
      case hq => rintro ⟨_, _, hh⟩; exact hh
      simp only [List.take_succ_cons, List.take_zero, List.drop_succ_cons, List.drop_zero]
      repeat still_step
      try refine wpStill_nil ?_
      have hu : (0 : Int) ≤ (u : Int) ∧ (u : Int) < 256 := by have := q10_lt HQ.out; omega
      obtain ⟨s1, s2, s3⟩ := step8 ⟨hH0, hH1⟩ ⟨hL0, hL1⟩ hu.1 hu.2
      have HS3 := hid s3
      have HI1 := hid s1
      have HI2 := hid s2
      clear s1 s2 s3 hu hmx
      generalize hN : bits BinOp.or IntKind.u64 (IntKind.u64.wrap (H * 256)) (L / 72057594037927936) = N at *
      have HN := hid hN
      clear hN
      have e0 : ({ w1 with drawn := w1.drawn + 1 } : World).cell? ⟨w.heap.size, 0, none⟩ = some (.int .i64 10) := d0
      have e1 : ({ w1 with drawn := w1.drawn + 1 } : World).cell? ⟨w.heap.size + 1, 0, none⟩ = some (.int .i64 8) := d1
      have e2 : ({ w1 with drawn := w1.drawn + 1 } : World).cell? ⟨w.heap.size + 1 + 1, 0, none⟩ = some (.int .u64 H) := d2
      have e3 : ({ w1 with drawn := w1.drawn + 1 } : World).cell? ⟨w.heap.size + 1 + 1 + 1, 0, none⟩ = some (.int .u64 L) := d3
      have e4 : ({ w1 with drawn := w1.drawn + 1 } : World).cell? ⟨w.heap.size + 1 + 1 + 1 + 1, 0, none⟩ = some (.bool false) := d4
      have k2 : ({ w1 with drawn := w1.drawn + 1 } : World).frozen? ⟨w.heap.size + 1 + 1, 0, none⟩ = false := f2
      have k3 : ({ w1 with drawn := w1.drawn + 1 } : World).frozen? ⟨w.heap.size + 1 + 1 + 1, 0, none⟩ = false := f3
      have k4 : ({ w1 with drawn := w1.drawn + 1 } : World).frozen? ⟨w.heap.size + 1 + 1 + 1 + 1, 0, none⟩ = false := f4
      have k1 : KeepsOthers W ({ w1 with drawn := w1.drawn + 1 } : World) := k0.trans (KeepsOthers.drew w1)
      have hB2 : Below w.heap.size w ({ w1 with drawn := w1.drawn + 1 } : World) := bel_drew1 hB1
      have hBW : Below W.heap.size W ({ w1 with drawn := w1.drawn + 1 } : World) := bel_drew1 g
      clear d0 d1 d2 d3 d4 f2 f3 f4 k0 hB1 g
      generalize ({ w1 with drawn := w1.drawn + 1 } : World) = w2 at *
      have x2 := World.cell?_setCell_same' w2 ⟨w.heap.size + 1 + 1, 0, none⟩ (.int .u64 N) (by rw [e2]; rfl)
      have x0 := (World.cell?_setCell_far w2 ⟨w.heap.size + 1 + 1, 0, none⟩ ⟨w.heap.size, 0, none⟩ (.int .u64 N) (by show w.heap.size + 1 + 1 ≠ w.heap.size; omega)).trans e0
      have x1 := (World.cell?_setCell_far w2 ⟨w.heap.size + 1 + 1, 0, none⟩ ⟨w.heap.size + 1, 0, none⟩ (.int .u64 N) (by show w.heap.size + 1 + 1 ≠ w.heap.size + 1; omega)).trans e1
      have x3 := (World.cell?_setCell_far w2 ⟨w.heap.size + 1 + 1, 0, none⟩ ⟨w.heap.size + 1 + 1 + 1, 0, none⟩ (.int .u64 N) (by show w.heap.size + 1 + 1 ≠ w.heap.size + 1 + 1 + 1; omega)).trans e3
      have x4 := (World.cell?_setCell_far w2 ⟨w.heap.size + 1 + 1, 0, none⟩ ⟨w.heap.size + 1 + 1 + 1 + 1, 0, none⟩ (.int .u64 N) (by show w.heap.size + 1 + 1 ≠ w.heap.size + 1 + 1 + 1 + 1; omega)).trans e4
      go_wp2_with fail
      have k3' : (w2.setCell ⟨w.heap.size + 1 + 1, 0, none⟩ (.int .u64 N)).frozen? ⟨w.heap.size + 1 + 1 + 1, 0, none⟩ = false := by rw [World.frozen?_setCell]; exact k3
      have k2' : (w2.setCell ⟨w.heap.size + 1 + 1, 0, none⟩ (.int .u64 N)).frozen? ⟨w.heap.size + 1 + 1, 0, none⟩ = false := by rw [World.frozen?_setCell]; exact k2
      have k4' : (w2.setCell ⟨w.heap.size + 1 + 1, 0, none⟩ (.int .u64 N)).frozen? ⟨w.heap.size + 1 + 1 + 1 + 1, 0, none⟩ = false := by rw [World.frozen?_setCell]; exact k4
      have q1 : KeepsOthers W (w2.setCell ⟨w.heap.size + 1 + 1, 0, none⟩ (.int .u64 N)) := k1.trans (KeepsOthers.setCell _ _ _)
      have b1 : Below w.heap.size w (w2.setCell ⟨w.heap.size + 1 + 1, 0, none⟩ (.int .u64 N)) := hB2.setCell (p := ⟨w.heap.size + 1 + 1, 0, none⟩) (by show w.heap.size ≤ w.heap.size + 1 + 1; omega) _
      have bW : Below w.heap.size W (w2.setCell ⟨w.heap.size + 1 + 1, 0, none⟩ (.int .u64 N)) := (hBW.mono hB.size).setCell (p := ⟨w.heap.size + 1 + 1, 0, none⟩) (by show w.heap.size ≤ w.heap.size + 1 + 1; omega) _
      clear e0 e1 e2 e3 e4 k2 k3 k4 k1 hB2 hBW
      generalize w2.setCell ⟨w.heap.size + 1 + 1, 0, none⟩ (.int .u64 N) = w3 at *
      generalize hM : bits BinOp.or IntKind.u64 (IntKind.u64.wrap (L * 256)) (u : Int) = M at *
      have HMM := hid hM
      clear hM
      gi_wp2
      have y3 := World.cell?_setCell_same' w3 ⟨w.heap.size + 1 + 1 + 1, 0, none⟩ (.int .u64 M) (by rw [x3]; rfl)
      have y0 := (World.cell?_setCell_far w3 ⟨w.heap.size + 1 + 1 + 1, 0, none⟩ ⟨w.heap.size, 0, none⟩ (.int .u64 M) (by show w.heap.size + 1 + 1 + 1 ≠ w.heap.size; omega)).trans x0
      have y1 := (World.cell?_setCell_far w3 ⟨w.heap.size + 1 + 1 + 1, 0, none⟩ ⟨w.heap.size + 1, 0, none⟩ (.int .u64 M) (by show w.heap.size + 1 + 1 + 1 ≠ w.heap.size + 1; omega)).trans x1
      have y2 := (World.cell?_setCell_far w3 ⟨w.heap.size + 1 + 1 + 1, 0, none⟩ ⟨w.heap.size + 1 + 1, 0, none⟩ (.int .u64 M) (by show w.heap.size + 1 + 1 + 1 ≠ w.heap.size + 1 + 1; omega)).trans x2
      have y4 := (World.cell?_setCell_far w3 ⟨w.heap.size + 1 + 1 + 1, 0, none⟩ ⟨w.heap.size + 1 + 1 + 1 + 1, 0, none⟩ (.int .u64 M) (by show w.heap.size + 1 + 1 + 1 ≠ w.heap.size + 1 + 1 + 1 + 1; omega)).trans x4
      have hfin : Hid ((pre ++ [x]).map (fun x => q10 x.1) = (vs ++ [u]).map some ∧ ad N M = fv 256 (vs ++ [u])) := by
        refine ⟨?_, ?_⟩
        · rw [List.map_append, List.map_append, HH.out.1, List.map_cons, HQ.out]
          rfl
        · rw [fv_snoc, ← HH.out.2]
          exact HS3.out
      rw [HMM.out]
      exact ⟨q1.trans (KeepsOthers.setCell _ _ _), bW.setCell (p := ⟨w.heap.size + 1 + 1 + 1, 0, none⟩) (by show w.heap.size ≤ w.heap.size + 1 + 1 + 1; omega) _, ⟨N, M, vs ++ [u], HI1.out, HI2.out, y0, y1, ⟨y2, by rw [World.frozen?_setCell]; exact k2'⟩, ⟨y3, by rw [World.frozen?_setCell]; exact k3'⟩, ⟨y4, by rw [World.frozen?_setCell]; exact k4'⟩, hfin⟩, b1.setCell (p := ⟨w.heap.size + 1 + 1 + 1, 0, none⟩) (by show w.heap.size ≤ w.heap.size + 1 + 1 + 1; omega) _⟩
  case done =>
    clear hstop c0 c1 c2 c3 c4 B0 hct hcs kp
    rintro D ys W hD rfl ⟨⟨H, L, vs, hH, hL, d0, d1, ⟨d2, f2⟩, ⟨d3, f3⟩, ⟨d4, f4⟩, HH⟩, hB⟩ hK
    gi_wp2
    refine wpIn_only ?_
    refine wpIn_wide.2 ?_
    refine wp_region_held_drew (S := SG w D H L) (by kernel_rfl) ⟨⟨d2, f2⟩, ⟨d3, f3⟩, ⟨⟨_, d4⟩, f4⟩, hK, bel_drew1 hB⟩ (fun hHeld => ?_)
    clear d0 d1 d2 d3 d4 f2 f3 f4 hK hB
    generalize W.drew = w2 at *
    refine take_to 0 36 (.int .u64 H) rfl rfl (by kernel_rfl) (by kernel_rfl) (by kernel_rfl) (fun _ _ _ h => by cases h.1) (Or.inl ⟨by rfl, fun w' h => ?_⟩) hHeld ?_
    · have x0 := h.1.1
      go_simp
    try simp only [List.setIfInBounds_toArray, List.set_cons_zero, List.set_cons_succ]
    refine take_to 1 37 (.int .u64 L) rfl rfl (by kernel_rfl) (by kernel_rfl) (by kernel_rfl) (fun _ _ _ h => by cases h.1) (Or.inl ⟨by rfl, fun w' h => ?_⟩) hHeld ?_
    · have x0 := h.2.1.1
      go_simp
    try simp only [List.setIfInBounds_toArray, List.set_cons_zero, List.set_cons_succ]
    refine wpAnyH_ready (rs := [2]) (by kernel_rfl) (by simp) ?_
    refine AllReadyH.cons rfl (fun K' hK' => ?_) AllReadyH.nil
    rw [if_pos (by rfl)]
    obtain ⟨⟨a1, a2⟩, ⟨b1, b2⟩, ⟨⟨o, c1⟩, c2⟩, _, _⟩ := id hHeld
    go_wp2_with fail
    refine hK'.out _ _ hHeld.set2 (fun hHeld => ?_)
    clear hK' K' a1 a2 b1 b2 c1 c2
    try simp only [Act.put, List.setIfInBounds_toArray, List.set_cons_zero, List.set_cons_succ]
    generalize w2.setCell ⟨w.heap.size + 1 + 1, 0, none⟩ (.int .u64 H) = w3 at *
    refine wpAnyH_ready (rs := [3]) (by kernel_rfl) (by simp) ?_
    refine AllReadyH.cons rfl (fun K' hK' => ?_) AllReadyH.nil
    rw [if_pos (by rfl)]
    obtain ⟨⟨a1, a2⟩, ⟨b1, b2⟩, ⟨⟨o, c1⟩, c2⟩, _, _⟩ := id hHeld
    go_wp2_with fail
    refine hK'.out _ _ hHeld.set3 (fun hHeld => ?_)
    clear hK' K' a1 a2 b1 b2 c1 c2
    try simp only [Act.put, List.setIfInBounds_toArray, List.set_cons_zero, List.set_cons_succ]
    generalize w3.setCell ⟨w.heap.size + 1 + 1 + 1, 0, none⟩ (.int .u64 L) = w4 at *
    have v4 := hHeld.set4.2
    refine wpAnyH_ready (rs := [4]) (by kernel_rfl) (by simp) ?_
    refine AllReadyH.cons rfl (fun K' hK' => ?_) AllReadyH.nil
    rw [if_pos (by rfl)]
    obtain ⟨⟨a1, a2⟩, ⟨b1, b2⟩, ⟨⟨o, c1⟩, c2⟩, _, _⟩ := id hHeld
    go_wp2_with fail
    refine hK'.out _ _ hHeld.set4.1 (fun hHeld => ?_)
    clear hK' K' a1 a2 b1 b2 c1 c2
    try simp only [Act.put, List.setIfInBounds_toArray, List.set_cons_zero, List.set_cons_succ]
    generalize w4.setCell ⟨w.heap.size + 1 + 1 + 1 + 1, 0, none⟩ (.bool true) = w5 at *
    refine wpAnyH_done (by kernel_rfl) ?_ _
    refine ⟨rfl, ?_⟩
    obtain ⟨⟨v2, _⟩, ⟨v3, _⟩, _, q4, b4⟩ := hHeld
    go_wp2_with fail
    gi_wp2
    refine ⟨by simp, .inl ⟨_, _, rfl, run_takeDeferred q4, ?_⟩⟩
    have r2 := cell_kept v2 (grownBy_putObj' _ D (.deferred none)) (fun r e => by cases e; exact ⟨_, q4, rfl⟩)
    have r3 := cell_kept v3 (grownBy_putObj' _ D (.deferred none)) (fun r e => by cases e; exact ⟨_, q4, rfl⟩)
    have r4 := cell_kept v4 (grownBy_putObj' _ D (.deferred none)) (fun r e => by cases e; exact ⟨_, q4, rfl⟩)
    refine ⟨.tuple #[.int .u64 H, .int .u64 L, .bool true], ?_, .inl ⟨H, L, vs, hH, hL, ?_, HH.out.2, rfl⟩, b4.trans (belowK_b (w := w) (Nat.le_refl _) _ D _ _ (by simp at hD; omega) q4 rfl rfl)⟩
    · simp [results, Tryz.f180, go_sem, r2, r3, r4]
    · rw [← hx, List.map_map]
      exact HH.out.1
  case stop =>
    clear hstop c0 c1 c2 c3 c4 B0 hct hcs kp
    rintro D cc pre W hD hpre ⟨⟨rfl, ⟨x, hxm, hxq⟩, d2, d3, d4⟩, hB⟩ hK
    gi_wp2
    refine ⟨by simp, .inl ⟨_, _, rfl, run_takeDeferred hK, ?_⟩⟩
    have r2 := cell_kept d2 (grownBy_putObj' _ D (.deferred none)) (fun r e => by cases e; exact ⟨_, hK, rfl⟩)
    have r3 := cell_kept d3 (grownBy_putObj' _ D (.deferred none)) (fun r e => by cases e; exact ⟨_, hK, rfl⟩)
    have r4 := cell_kept d4 (grownBy_putObj' _ D (.deferred none)) (fun r e => by cases e; exact ⟨_, hK, rfl⟩)
    refine ⟨.tuple #[.int .u64 0, .int .u64 0, .bool false], ?_, .inr ⟨⟨x.1, ?_, hxq⟩, rfl⟩, hB.trans (belowK_b (w := w) (Nat.le_refl _) _ D _ _ (by simp at hD; omega) hK rfl rfl)⟩
    · simp [results, Tryz.f180, go_sem, r2, r3, r4]
    · rw [← hx]
      exact List.mem_map.2 ⟨x, hpre.subset hxm, rfl⟩

set_option maxHeartbeats 4000000 in
theorem gather16_ (bt bs c : Nat) (hc : c < 256) (l : List Nat) (hy : ∀ z ∈ l, z < 256) (hl : l.length ≤ 140737488355328) (xs : List Pt) (hx : xs.map (·.1) = cu c l) (w : World) (hT : Tb w) (hbt : bt < w.heap.size) (hbs : bs < w.heap.size)
    (hct : w.cell? ⟨bt, 0, none⟩ = some (.string (sb l))) (hcs : w.cell? ⟨bs, 0, none⟩ = some (.string ⟨#[UInt8.ofNat c]⟩)) :
    Calls Tryz.prog 180 #[.func (.func 208) #[] #[.pointer (some ⟨bt, 0, none⟩), .pointer (some ⟨bs, 0, none⟩)], .int .i64 16, .int .i64 16] w fun e w' => GaR q16 65536 (cu c l) e ∧ Below w.heap.size w w' := by
  have kp : ∀ (x : List Nat) (w : World), (∀ z ∈ x, z < 256) → x.length ≤ 140737488355328 → Tb w → Calls Tryz.prog 207 #[.string (sb x), .int .i64 16, .int .i64 16] w fun e w' => PuP (q16 x) e ∧ Below w.heap.size w w' := fun x w hy hl hT => pu16_ x w hy hl hT
  have B0 : Below w.heap.size w (((((w.alloc (.cells #[.int .i64 16] 3)).alloc (.cells #[.int .i64 16] 3)).alloc (.cells #[.int .u64 0] 46)).alloc (.cells #[.int .u64 0] 46)).alloc (.cells #[.bool false] 4)) := ((((((Below.refl _ w).alloc (Nat.le_refl _) _).alloc (by simp) _).alloc (by simp; omega) _).alloc (by simp; omega) _).alloc (by simp; omega) _)
  have c0 := cell_new1 w (.int .i64 16) 3
  have c1 := cell_new1 (w.alloc (.cells #[.int .i64 16] 3)) (.int .i64 16) 3
  have c2 := cell_new1 ((w.alloc (.cells #[.int .i64 16] 3)).alloc (.cells #[.int .i64 16] 3)) (.int .u64 0) 46
  have c3 := cell_new1 (((w.alloc (.cells #[.int .i64 16] 3)).alloc (.cells #[.int .i64 16] 3)).alloc (.cells #[.int .u64 0] 46)) (.int .u64 0) 46
  have c4 := cell_new1 ((((w.alloc (.cells #[.int .i64 16] 3)).alloc (.cells #[.int .i64 16] 3)).alloc (.cells #[.int .u64 0] 46)).alloc (.cells #[.int .u64 0] 46)) (.bool false) 4
  simp only [World.size_alloc] at c1 c2 c3 c4
  have hstop := parts1_stops 2 (by omega) bt bs w.heap.size c hc l hy hl xs hx (((((w.alloc (.cells #[.int .i64 16] 3)).alloc (.cells #[.int .i64 16] 3)).alloc (.cells #[.int .u64 0] 46)).alloc (.cells #[.int .u64 0] 46)).alloc (.cells #[.bool false] 4)) hbt hbs (by simp; omega) ((B0.cell (p := ⟨bt, 0, none⟩) hbt).trans hct) ((B0.cell (p := ⟨bs, 0, none⟩) hbs).trans hcs)
  refine (callsIn_wide (n := 3)).1 ?_
  refine callsIn_of_wp_marks Tryz.func180 rfl trivial ?_ rfl
  simp only [Tryz.ntmps180, List.size_toArray, List.length_cons, List.length_nil, Nat.reduceAdd, Nat.reduceSub, Array.replicate_succ, Array.replicate_zero, List.push_toArray, List.append_toArray, List.nil_append, List.cons_append]
  gi_wp2
  refine wpIn_rangeFunc_ownF rfl (by omega) (gf := 208) (lb := #[.pointer (some ⟨bt, 0, none⟩), .pointer (some ⟨bs, 0, none⟩)]) rfl trivial (enters_of Tryz.func208 (by kernel_rfl) rfl)
    hstop belowK_t (belowK_b (by simp; omega)) (Below.refl _ _) (fun _ => rfl)
    (fun pre W => (∃ (H L : Int) (vs : List Nat), InU H ∧ InU L ∧ W.cell? ⟨w.heap.size, 0, none⟩ = some (.int .i64 16) ∧ W.cell? ⟨w.heap.size + 1, 0, none⟩ = some (.int .i64 16) ∧ (W.cell? ⟨w.heap.size + 1 + 1, 0, none⟩ = some (.int .u64 H) ∧ W.frozen? ⟨w.heap.size + 1 + 1, 0, none⟩ = false) ∧ (W.cell? ⟨w.heap.size + 1 + 1 + 1, 0, none⟩ = some (.int .u64 L) ∧ W.frozen? ⟨w.heap.size + 1 + 1 + 1, 0, none⟩ = false) ∧ (W.cell? ⟨w.heap.size + 1 + 1 + 1 + 1, 0, none⟩ = some (.bool false) ∧ W.frozen? ⟨w.heap.size + 1 + 1 + 1 + 1, 0, none⟩ = false) ∧ Hid (pre.map (fun x => q16 x.1) = vs.map some ∧ ad H L = fv 65536 vs)) ∧ Below w.heap.size w W)
    (fun c pre W => (c = .ret ∧ (∃ x ∈ pre, q16 x.1 = none) ∧ W.cell? ⟨w.heap.size + 1 + 1, 0, none⟩ = some (.int .u64 0) ∧ W.cell? ⟨w.heap.size + 1 + 1 + 1, 0, none⟩ = some (.int .u64 0) ∧ W.cell? ⟨w.heap.size + 1 + 1 + 1 + 1, 0, none⟩ = some (.bool false)) ∧ Below w.heap.size w W)
    (OwnFrom.and (Own.from (fun s A B row hs hg hr => by
      obtain ⟨H, L, vs, h1, h2, h3, h4, h5, h6, h7, h8⟩ := hs
      exact ⟨H, L, vs, h1, h2, cell_kept h3 hg hr, cell_kept h4 hg hr, ⟨cell_kept h5.1 hg hr, (frozen_kept h5.1 hg hr).trans h5.2⟩, ⟨cell_kept h6.1 hg hr, (frozen_kept h6.1 hg hr).trans h6.2⟩, ⟨cell_kept h7.1 hg hr, (frozen_kept h7.1 hg hr).trans h7.2⟩, h8⟩) _) (ownFrom_below (Nat.le_refl _) (by simp; omega)))
    (fun c => OwnFrom.and (Own.from (fun s A B row hs hg hr => ⟨hs.1, hs.2.1, cell_kept hs.2.2.1 hg hr, cell_kept hs.2.2.2.1 hg hr, cell_kept hs.2.2.2.2 hg hr⟩) _) (ownFrom_below (Nat.le_refl _) (by simp; omega)))
    ⟨⟨0, 0, [], by unfold InU; omega, by unfold InU; omega, cell_al (cell_al (cell_al (cell_al c0.1))), cell_al (cell_al (cell_al c1.1)), ⟨cell_al (cell_al c2.1), frozen_al (cell_al c2.1) (frozen_al c2.1 c2.2)⟩, ⟨cell_al c3.1, frozen_al c3.1 c3.2⟩, c4, ⟨rfl, rfl⟩⟩, B0⟩
    (fun x => { tmps := #[.func (.func 208) #[] #[.pointer (some ⟨bt, 0, none⟩), .pointer (some ⟨bs, 0, none⟩)], .int .i64 16, .int .i64 16, undef, .pointer (some ⟨w.heap.size, 0, none⟩), .pointer (some ⟨w.heap.size + 1, 0, none⟩), .pointer (some ⟨w.heap.size + 1 + 1, 0, none⟩), .pointer (some ⟨w.heap.size + 1 + 1 + 1, 0, none⟩), .pointer (some ⟨w.heap.size + 1 + 1 + 1 + 1, 0, none⟩), .string (sb x.1), undef, undef, .func (.func 208) #[] #[.pointer (some ⟨bt, 0, none⟩), .pointer (some ⟨bs, 0, none⟩)], .string (sb x.1), undef, undef, undef, undef, undef, undef, undef, undef, undef, undef, undef, undef, undef, undef, undef, undef, undef, undef, undef, undef, undef, undef, undef, undef], defers := [] }) ?assign ?body ?done ?stop
  case assign =>
    intro l x W K hK
    gi_wp2
    exact hK
  case body =>
    clear hstop c0 c1 c2 c3 c4 B0 hct hcs
    rintro lp pre x W ⟨⟨H, L, vs, hH, hL, d0, d1, ⟨d2, f2⟩, ⟨d3, f3⟩, ⟨d4, f4⟩, HH⟩, hB⟩ _
    have hTW := hT.kept hB
    have kx := kp x.1 W x.2.1 x.2.2 hTW
    have HX : Hid (sb x.1 = sb x.1) := rfl
    clear kp
    cases hq : q16 x.1 with
    | none =>
      rw [hq] at kx
      have HQ := hid hq
      clear hq
      generalize sb x.1 = X at *
      gi_wp2_with fail
      refine ⟨trivial, ?_⟩
      refine (CallsIn.inRound lp (callsIn_wide.2 kx)).mono ?_
      rintro e w1 ⟨⟨u, tt, p, rfl⟩, g⟩
      have k0 := keeps_be g
      have hB1 := bel_bel hB hB.size g
      replace f2 := frozen_be g d2 f2
      replace f3 := frozen_be g d3 f3
      replace f4 := frozen_be g d4 f4
      replace d2 := cell_be g d2
      replace d3 := cell_be g d3
      replace d4 := cell_be g d4
      clear kx d0 d1 hTW g
      gi_wp2
      have x2 := World.cell?_setCell_same' w1 ⟨w.heap.size + 1 + 1, 0, none⟩ (.int .u64 0) (by rw [d2]; rfl)
      have y3 := (World.cell?_setCell_far w1 ⟨w.heap.size + 1 + 1, 0, none⟩ ⟨w.heap.size + 1 + 1 + 1, 0, none⟩ (.int .u64 0) (by show w.heap.size + 1 + 1 ≠ w.heap.size + 1 + 1 + 1; omega)).trans d3
      have y4 := (World.cell?_setCell_far w1 ⟨w.heap.size + 1 + 1, 0, none⟩ ⟨w.heap.size + 1 + 1 + 1 + 1, 0, none⟩ (.int .u64 0) (by show w.heap.size + 1 + 1 ≠ w.heap.size + 1 + 1 + 1 + 1; omega)).trans d4
      generalize hw2 : w1.setCell ⟨w.heap.size + 1 + 1, 0, none⟩ (.int .u64 0) = w2 at *
      have x3 := World.cell?_setCell_same' w2 ⟨w.heap.size + 1 + 1 + 1, 0, none⟩ (.int .u64 0) (by rw [y3]; rfl)
      have z2 := (World.cell?_setCell_far w2 ⟨w.heap.size + 1 + 1 + 1, 0, none⟩ ⟨w.heap.size + 1 + 1, 0, none⟩ (.int .u64 0) (by show w.heap.size + 1 + 1 + 1 ≠ w.heap.size + 1 + 1; omega)).trans x2
      have z4 := (World.cell?_setCell_far w2 ⟨w.heap.size + 1 + 1 + 1, 0, none⟩ ⟨w.heap.size + 1 + 1 + 1 + 1, 0, none⟩ (.int .u64 0) (by show w.heap.size + 1 + 1 + 1 ≠ w.heap.size + 1 + 1 + 1 + 1; omega)).trans y4
      generalize hw3 : w2.setCell ⟨w.heap.size + 1 + 1 + 1, 0, none⟩ (.int .u64 0) = w3 at *
      have v4 := World.cell?_setCell_same' w3 ⟨w.heap.size + 1 + 1 + 1 + 1, 0, none⟩ (.bool false) (by rw [z4]; rfl)
      have v2 := (World.cell?_setCell_far w3 ⟨w.heap.size + 1 + 1 + 1 + 1, 0, none⟩ ⟨w.heap.size + 1 + 1, 0, none⟩ (.bool false) (by show w.heap.size + 1 + 1 + 1 + 1 ≠ w.heap.size + 1 + 1; omega)).trans z2
      have v3 := (World.cell?_setCell_far w3 ⟨w.heap.size + 1 + 1 + 1 + 1, 0, none⟩ ⟨w.heap.size + 1 + 1 + 1, 0, none⟩ (.bool false) (by show w.heap.size + 1 + 1 + 1 + 1 ≠ w.heap.size + 1 + 1 + 1; omega)).trans x3
      have q3 : KeepsOthers W w3 := by rw [← hw3, ← hw2]; exact (k0.trans (KeepsOthers.setCell _ _ _)).trans (KeepsOthers.setCell _ _ _)
      have b3 : Below w.heap.size w w3 := by rw [← hw3, ← hw2]; exact (hB1.setCell (p := ⟨w.heap.size + 1 + 1, 0, none⟩) (by show w.heap.size ≤ w.heap.size + 1 + 1; omega) _).setCell (p := ⟨w.heap.size + 1 + 1 + 1, 0, none⟩) (by show w.heap.size ≤ w.heap.size + 1 + 1 + 1; omega) _
      exact ⟨q3.trans (KeepsOthers.setCell _ _ _), ⟨rfl, ⟨x, by simp, HQ.out⟩, v2, v3, v4⟩, b3.setCell (p := ⟨w.heap.size + 1 + 1 + 1 + 1, 0, none⟩) (by show w.heap.size ≤ w.heap.size + 1 + 1 + 1 + 1; omega) _⟩
    | some u =>
      rw [hq] at kx
      have HQ := hid hq
      clear hq
      generalize sb x.1 = X at *
      gi_wp2_with fail
      refine ⟨trivial, ?_⟩
      refine (CallsIn.inRound lp (callsIn_wide.2 kx)).mono ?_
      rintro e w1 ⟨he, g⟩
      obtain rfl : e = _ := he
      have k0 := keeps_be g
      have hB1 := bel_bel hB hB.size g
      replace f2 := frozen_be g d2 f2
      replace f3 := frozen_be g d3 f3
      replace f4 := frozen_be g d4 f4
      replace d0 := cell_be g d0
      replace d1 := cell_be g d1
      replace d2 := cell_be g d2
      replace d3 := cell_be g d3
      replace d4 := cell_be g d4
      clear kx hTW
      gi_wp2
      have hmx : Tryz.prog.follows .mixedOrders = true := by kernel_rfl
      obtain ⟨hH0, hH1⟩ := hH
      obtain ⟨hL0, hL1⟩ := hL
      have ew : IntKind.i64.wrap 48 = 48 := by rw [IntKind.wrap_i64]; decide
      refine region_round 8 hmx ?hq (by simp) (by kernel_rfl) ?_
      case hq => rintro ⟨_, _, hh⟩; exact hh
      simp only [List.take_succ_cons, List.take_zero, List.drop_succ_cons, List.drop_zero]
      repeat still_step
      try refine wpStill_nil ?_
      have hu : (0 : Int) ≤ (u : Int) ∧ (u : Int) < 65536 := by have := q16_lt HQ.out; omega
      obtain ⟨s1, s2, s3⟩ := step16 ⟨hH0, hH1⟩ ⟨hL0, hL1⟩ hu.1 hu.2
      have HS3 := hid s3
      have HI1 := hid s1
      have HI2 := hid s2
      clear s1 s2 s3 hu hmx
      generalize hN : bits BinOp.or IntKind.u64 (IntKind.u64.wrap (H * 65536)) (L / 281474976710656) = N at *
      have HN := hid hN
      clear hN
      have e0 : ({ w1 with drawn := w1.drawn + 1 } : World).cell? ⟨w.heap.size, 0, none⟩ = some (.int .i64 16) := d0
      have e1 : ({ w1 with drawn := w1.drawn + 1 } : World).cell? ⟨w.heap.size + 1, 0, none⟩ = some (.int .i64 16) := d1
      have e2 : ({ w1 with drawn := w1.drawn + 1 } : World).cell? ⟨w.heap.size + 1 + 1, 0, none⟩ = some (.int .u64 H) := d2
      have e3 : ({ w1 with drawn := w1.drawn + 1 } : World).cell? ⟨w.heap.size + 1 + 1 + 1, 0, none⟩ = some (.int .u64 L) := d3
      have e4 : ({ w1 with drawn := w1.drawn + 1 } : World).cell? ⟨w.heap.size + 1 + 1 + 1 + 1, 0, none⟩ = some (.bool false) := d4
      have k2 : ({ w1 with drawn := w1.drawn + 1 } : World).frozen? ⟨w.heap.size + 1 + 1, 0, none⟩ = false := f2
      have k3 : ({ w1 with drawn := w1.drawn + 1 } : World).frozen? ⟨w.heap.size + 1 + 1 + 1, 0, none⟩ = false := f3
      have k4 : ({ w1 with drawn := w1.drawn + 1 } : World).frozen? ⟨w.heap.size + 1 + 1 + 1 + 1, 0, none⟩ = false := f4
      have k1 : KeepsOthers W ({ w1 with drawn := w1.drawn + 1 } : World) := k0.trans (KeepsOthers.drew w1)
      have hB2 : Below w.heap.size w ({ w1 with drawn := w1.drawn + 1 } : World) := bel_drew1 hB1
      have hBW : Below W.heap.size W ({ w1 with drawn := w1.drawn + 1 } : World) := bel_drew1 g
      clear d0 d1 d2 d3 d4 f2 f3 f4 k0 hB1 g
      generalize ({ w1 with drawn := w1.drawn + 1 } : World) = w2 at *
      have x2 := World.cell?_setCell_same' w2 ⟨w.heap.size + 1 + 1, 0, none⟩ (.int .u64 N) (by rw [e2]; rfl)
      have x0 := (World.cell?_setCell_far w2 ⟨w.heap.size + 1 + 1, 0, none⟩ ⟨w.heap.size, 0, none⟩ (.int .u64 N) (by show w.heap.size + 1 + 1 ≠ w.heap.size; omega)).trans e0
      have x1 := (World.cell?_setCell_far w2 ⟨w.heap.size + 1 + 1, 0, none⟩ ⟨w.heap.size + 1, 0, none⟩ (.int .u64 N) (by show w.heap.size + 1 + 1 ≠ w.heap.size + 1; omega)).trans e1
      have x3 := (World.cell?_setCell_far w2 ⟨w.heap.size + 1 + 1, 0, none⟩ ⟨w.heap.size + 1 + 1 + 1, 0, none⟩ (.int .u64 N) (by show w.heap.size + 1 + 1 ≠ w.heap.size + 1 + 1 + 1; omega)).trans e3
      have x4 := (World.cell?_setCell_far w2 ⟨w.heap.size + 1 + 1, 0, none⟩ ⟨w.heap.size + 1 + 1 + 1 + 1, 0, none⟩ (.int .u64 N) (by show w.heap.size + 1 + 1 ≠ w.heap.size + 1 + 1 + 1 + 1; omega)).trans e4
      go_wp2_with fail
      have k3' : (w2.setCell ⟨w.heap.size + 1 + 1, 0, none⟩ (.int .u64 N)).frozen? ⟨w.heap.size + 1 + 1 + 1, 0, none⟩ = false := by rw [World.frozen?_setCell]; exact k3
      have k2' : (w2.setCell ⟨w.heap.size + 1 + 1, 0, none⟩ (.int .u64 N)).frozen? ⟨w.heap.size + 1 + 1, 0, none⟩ = false := by rw [World.frozen?_setCell]; exact k2
      have k4' : (w2.setCell ⟨w.heap.size + 1 + 1, 0, none⟩ (.int .u64 N)).frozen? ⟨w.heap.size + 1 + 1 + 1 + 1, 0, none⟩ = false := by rw [World.frozen?_setCell]; exact k4
      have q1 : KeepsOthers W (w2.setCell ⟨w.heap.size + 1 + 1, 0, none⟩ (.int .u64 N)) := k1.trans (KeepsOthers.setCell _ _ _)
      have b1 : Below w.heap.size w (w2.setCell ⟨w.heap.size + 1 + 1, 0, none⟩ (.int .u64 N)) := hB2.setCell (p := ⟨w.heap.size + 1 + 1, 0, none⟩) (by show w.heap.size ≤ w.heap.size + 1 + 1; omega) _
      have bW : Below w.heap.size W (w2.setCell ⟨w.heap.size + 1 + 1, 0, none⟩ (.int .u64 N)) := (hBW.mono hB.size).setCell (p := ⟨w.heap.size + 1 + 1, 0, none⟩) (by show w.heap.size ≤ w.heap.size + 1 + 1; omega) _
      clear e0 e1 e2 e3 e4 k2 k3 k4 k1 hB2 hBW
      generalize w2.setCell ⟨w.heap.size + 1 + 1, 0, none⟩ (.int .u64 N) = w3 at *
      generalize hM : bits BinOp.or IntKind.u64 (IntKind.u64.wrap (L * 65536)) (u : Int) = M at *
      have HMM := hid hM
      clear hM
      gi_wp2
      have y3 := World.cell?_setCell_same' w3 ⟨w.heap.size + 1 + 1 + 1, 0, none⟩ (.int .u64 M) (by rw [x3]; rfl)
      have y0 := (World.cell?_setCell_far w3 ⟨w.heap.size + 1 + 1 + 1, 0, none⟩ ⟨w.heap.size, 0, none⟩ (.int .u64 M) (by show w.heap.size + 1 + 1 + 1 ≠ w.heap.size; omega)).trans x0
      have y1 := (World.cell?_setCell_far w3 ⟨w.heap.size + 1 + 1 + 1, 0, none⟩ ⟨w.heap.size + 1, 0, none⟩ (.int .u64 M) (by show w.heap.size + 1 + 1 + 1 ≠ w.heap.size + 1; omega)).trans x1
      have y2 := (World.cell?_setCell_far w3 ⟨w.heap.size + 1 + 1 + 1, 0, none⟩ ⟨w.heap.size + 1 + 1, 0, none⟩ (.int .u64 M) (by show w.heap.size + 1 + 1 + 1 ≠ w.heap.size + 1 + 1; omega)).trans x2
      have y4 := (World.cell?_setCell_far w3 ⟨w.heap.size + 1 + 1 + 1, 0, none⟩ ⟨w.heap.size + 1 + 1 + 1 + 1, 0, none⟩ (.int .u64 M) (by show w.heap.size + 1 + 1 + 1 ≠ w.heap.size + 1 + 1 + 1 + 1; omega)).trans x4
      have hfin : Hid ((pre ++ [x]).map (fun x => q16 x.1) = (vs ++ [u]).map some ∧ ad N M = fv 65536 (vs ++ [u])) := by
        refine ⟨?_, ?_⟩
        · rw [List.map_append, List.map_append, HH.out.1, List.map_cons, HQ.out]
          rfl
        · rw [fv_snoc, ← HH.out.2]
          exact HS3.out
      rw [HMM.out]
      exact ⟨q1.trans (KeepsOthers.setCell _ _ _), bW.setCell (p := ⟨w.heap.size + 1 + 1 + 1, 0, none⟩) (by show w.heap.size ≤ w.heap.size + 1 + 1 + 1; omega) _, ⟨N, M, vs ++ [u], HI1.out, HI2.out, y0, y1, ⟨y2, by rw [World.frozen?_setCell]; exact k2'⟩, ⟨y3, by rw [World.frozen?_setCell]; exact k3'⟩, ⟨y4, by rw [World.frozen?_setCell]; exact k4'⟩, hfin⟩, b1.setCell (p := ⟨w.heap.size + 1 + 1 + 1, 0, none⟩) (by show w.heap.size ≤ w.heap.size + 1 + 1 + 1; omega) _⟩
  case done =>
    clear hstop c0 c1 c2 c3 c4 B0 hct hcs kp
    rintro D ys W hD rfl ⟨⟨H, L, vs, hH, hL, d0, d1, ⟨d2, f2⟩, ⟨d3, f3⟩, ⟨d4, f4⟩, HH⟩, hB⟩ hK
    gi_wp2
    refine wpIn_only ?_
    refine wpIn_wide.2 ?_
    refine wp_region_held_drew (S := SG w D H L) (by kernel_rfl) ⟨⟨d2, f2⟩, ⟨d3, f3⟩, ⟨⟨_, d4⟩, f4⟩, hK, bel_drew1 hB⟩ (fun hHeld => ?_)
    clear d0 d1 d2 d3 d4 f2 f3 f4 hK hB
    generalize W.drew = w2 at *
    refine take_to 0 36 (.int .u64 H) rfl rfl (by kernel_rfl) (by kernel_rfl) (by kernel_rfl) (fun _ _ _ h => by cases h.1) (Or.inl ⟨by rfl, fun w' h => ?_⟩) hHeld ?_
    · have x0 := h.1.1
      go_simp
    try simp only [List.setIfInBounds_toArray, List.set_cons_zero, List.set_cons_succ]
    refine take_to 1 37 (.int .u64 L) rfl rfl (by kernel_rfl) (by kernel_rfl) (by kernel_rfl) (fun _ _ _ h => by cases h.1) (Or.inl ⟨by rfl, fun w' h => ?_⟩) hHeld ?_
    · have x0 := h.2.1.1
      go_simp
    try simp only [List.setIfInBounds_toArray, List.set_cons_zero, List.set_cons_succ]
    refine wpAnyH_ready (rs := [2]) (by kernel_rfl) (by simp) ?_
    refine AllReadyH.cons rfl (fun K' hK' => ?_) AllReadyH.nil
    rw [if_pos (by rfl)]
    obtain ⟨⟨a1, a2⟩, ⟨b1, b2⟩, ⟨⟨o, c1⟩, c2⟩, _, _⟩ := id hHeld
    go_wp2_with fail
    refine hK'.out _ _ hHeld.set2 (fun hHeld => ?_)
    clear hK' K' a1 a2 b1 b2 c1 c2
    try simp only [Act.put, List.setIfInBounds_toArray, List.set_cons_zero, List.set_cons_succ]
    generalize w2.setCell ⟨w.heap.size + 1 + 1, 0, none⟩ (.int .u64 H) = w3 at *
    refine wpAnyH_ready (rs := [3]) (by kernel_rfl) (by simp) ?_
    refine AllReadyH.cons rfl (fun K' hK' => ?_) AllReadyH.nil
    rw [if_pos (by rfl)]
    obtain ⟨⟨a1, a2⟩, ⟨b1, b2⟩, ⟨⟨o, c1⟩, c2⟩, _, _⟩ := id hHeld
    go_wp2_with fail
    refine hK'.out _ _ hHeld.set3 (fun hHeld => ?_)
    clear hK' K' a1 a2 b1 b2 c1 c2
    try simp only [Act.put, List.setIfInBounds_toArray, List.set_cons_zero, List.set_cons_succ]
    generalize w3.setCell ⟨w.heap.size + 1 + 1 + 1, 0, none⟩ (.int .u64 L) = w4 at *
    have v4 := hHeld.set4.2
    refine wpAnyH_ready (rs := [4]) (by kernel_rfl) (by simp) ?_
    refine AllReadyH.cons rfl (fun K' hK' => ?_) AllReadyH.nil
    rw [if_pos (by rfl)]
    obtain ⟨⟨a1, a2⟩, ⟨b1, b2⟩, ⟨⟨o, c1⟩, c2⟩, _, _⟩ := id hHeld
    go_wp2_with fail
    refine hK'.out _ _ hHeld.set4.1 (fun hHeld => ?_)
    clear hK' K' a1 a2 b1 b2 c1 c2
    try simp only [Act.put, List.setIfInBounds_toArray, List.set_cons_zero, List.set_cons_succ]
    generalize w4.setCell ⟨w.heap.size + 1 + 1 + 1 + 1, 0, none⟩ (.bool true) = w5 at *
    refine wpAnyH_done (by kernel_rfl) ?_ _
    refine ⟨rfl, ?_⟩
    obtain ⟨⟨v2, _⟩, ⟨v3, _⟩, _, q4, b4⟩ := hHeld
    go_wp2_with fail
    gi_wp2
    refine ⟨by simp, .inl ⟨_, _, rfl, run_takeDeferred q4, ?_⟩⟩
    have r2 := cell_kept v2 (grownBy_putObj' _ D (.deferred none)) (fun r e => by cases e; exact ⟨_, q4, rfl⟩)
    have r3 := cell_kept v3 (grownBy_putObj' _ D (.deferred none)) (fun r e => by cases e; exact ⟨_, q4, rfl⟩)
    have r4 := cell_kept v4 (grownBy_putObj' _ D (.deferred none)) (fun r e => by cases e; exact ⟨_, q4, rfl⟩)
    refine ⟨.tuple #[.int .u64 H, .int .u64 L, .bool true], ?_, .inl ⟨H, L, vs, hH, hL, ?_, HH.out.2, rfl⟩, b4.trans (belowK_b (w := w) (Nat.le_refl _) _ D _ _ (by simp at hD; omega) q4 rfl rfl)⟩
    · simp [results, Tryz.f180, go_sem, r2, r3, r4]
    · rw [← hx, List.map_map]
      exact HH.out.1
  case stop =>
    clear hstop c0 c1 c2 c3 c4 B0 hct hcs kp
    rintro D cc pre W hD hpre ⟨⟨rfl, ⟨x, hxm, hxq⟩, d2, d3, d4⟩, hB⟩ hK
    gi_wp2
    refine ⟨by simp, .inl ⟨_, _, rfl, run_takeDeferred hK, ?_⟩⟩
    have r2 := cell_kept d2 (grownBy_putObj' _ D (.deferred none)) (fun r e => by cases e; exact ⟨_, hK, rfl⟩)
    have r3 := cell_kept d3 (grownBy_putObj' _ D (.deferred none)) (fun r e => by cases e; exact ⟨_, hK, rfl⟩)
    have r4 := cell_kept d4 (grownBy_putObj' _ D (.deferred none)) (fun r e => by cases e; exact ⟨_, hK, rfl⟩)
    refine ⟨.tuple #[.int .u64 0, .int .u64 0, .bool false], ?_, .inr ⟨⟨x.1, ?_, hxq⟩, rfl⟩, hB.trans (belowK_b (w := w) (Nat.le_refl _) _ D _ _ (by simp at hD; omega) hK rfl rfl)⟩
    · simp [results, Tryz.f180, go_sem, r2, r3, r4]
    · rw [← hx]
      exact List.mem_map.2 ⟨x, hpre.subset hxm, rfl⟩
end Go.Proofs.YtmgoabedickooaaGreatDoor
