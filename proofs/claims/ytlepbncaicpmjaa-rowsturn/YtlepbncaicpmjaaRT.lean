import Derived.Test.YtlepbncaicpmjaaRP
namespace Go.Proofs.Ytlepbncaicpmjaa
set_option maxRecDepth 100000
open Go.RowKit
set_option linter.unusedVariables false

theorem own_of_row {w : World} {B g : Nat} {zs : List Int} (h : Row w g zs) (hb : B ≤ g) (hl : zs.length ≤ maxLen) : w.ownsRow B 5 1 (.slice (some ⟨g, 0, none⟩) zs.length zs.length) zs.length (cells zs) := by
  refine ⟨by rw [cells_length, Nat.mul_one], .inr ⟨g, zs.length, _, rfl, hb, h, Nat.le_refl _, hl, by simp [cells_length], ?_⟩⟩
  rw [Nat.mul_one]
  exact List.take_of_length_le (by simp [cells_length])
/-- Put of the numbers: the bytes and the number behind them, in new memory. -/
theorem oput8 (a : Option Addr) (n c : Nat) (zs : List Int) (x : Int) (w : World) (hb : Bs w a n zs) (hn : n ≤ 100000) (h0 : 0 ≤ x) (h1 : x ≤ 255) :
    Calls Try.prog 24 #[.slice a n c, .int .u8 x] w fun e w' => ∃ v, e = .returned v ∧ w'.ownsRow w.heap.size 5 1 v (n + 1) (cells (zs ++ be 1 x)) ∧ Below w.heap.size w w' := by
  refine (putW8 a n c zs x w hb (by omega) h0 h1).mono ?_
  rintro e w' ⟨rfl, h, g⟩
  have hl : (zs ++ be 1 x).length = n + 1 := by rw [List.length_append, be_length, hb.1]
  have o := own_of_row h (Nat.le_refl _) (by rw [hl]; unfold maxLen; omega)
  rw [hl] at o
  exact ⟨_, rfl, o, below_of_grown g⟩
/-- Put of the numbers: the bytes and the number behind them, in new memory. -/
theorem oput32 (a : Option Addr) (n c : Nat) (zs : List Int) (x : Int) (w : World) (hb : Bs w a n zs) (hn : n ≤ 100000) (h0 : 0 ≤ x) (h1 : x ≤ 4294967295) :
    Calls Try.prog 25 #[.slice a n c, .int .u32 x] w fun e w' => ∃ v, e = .returned v ∧ w'.ownsRow w.heap.size 5 1 v (n + 4) (cells (zs ++ be 4 x)) ∧ Below w.heap.size w w' := by
  refine (putW32 a n c zs x w hb (by omega) h0 h1).mono ?_
  rintro e w' ⟨rfl, h, g⟩
  have hl : (zs ++ be 4 x).length = n + 4 := by rw [List.length_append, be_length, hb.1]
  have o := own_of_row h (Nat.le_refl _) (by rw [hl]; unfold maxLen; omega)
  rw [hl] at o
  exact ⟨_, rfl, o, below_of_grown g⟩
/-- Put of the numbers: the bytes and the number behind them, in new memory. -/
theorem oput64 (a : Option Addr) (n c : Nat) (zs : List Int) (x : Int) (w : World) (hb : Bs w a n zs) (hn : n ≤ 100000) (h0 : 0 ≤ x) (h1 : x ≤ 18446744073709551615) :
    Calls Try.prog 22 #[.slice a n c, .int .u64 x] w fun e w' => ∃ v, e = .returned v ∧ w'.ownsRow w.heap.size 5 1 v (n + 8) (cells (zs ++ be 8 x)) ∧ Below w.heap.size w w' := by
  refine (putW64 a n c zs x w hb (by omega) h0 h1).mono ?_
  rintro e w' ⟨rfl, h, g⟩
  have hl : (zs ++ be 8 x).length = n + 8 := by rw [List.length_append, be_length, hb.1]
  have o := own_of_row h (Nat.le_refl _) (by rw [hl]; unfold maxLen; omega)
  rw [hl] at o
  exact ⟨_, rfl, o, below_of_grown g⟩
set_option maxHeartbeats 400000 in
/-- The landed PutBoots. -/
theorem putBoots_ (n : Int) (w : World) (hn : -9223372036854775808 ≤ n ∧ n ≤ 9223372036854775807) :
    Calls Try.prog 11 #[.int .i64 n] w fun e w' => Rp w (bK n) (bV n) (bE n) e w' := by
  have BA : Below w.heap.size w (w.alloc (.cells #[.slice none 0 0, .slice none 0 0] 38)) := (Below.refl _ _).alloc (Nat.le_refl _) _
  have m1 := heap_alloc_new w (.cells #[.slice none 0 0, .slice none 0 0] 38)
  by_cases h : 0 ≤ n ∧ n ≤ 4611686018427387904
  · have hok : bOk n = true := decide_eq_true h
    have HK : Hid (bK n = [66]) := by show _ = _; unfold bK; rw [hok]; rfl
    have HV : Hid (bV n = be 8 n) := by show _ = _; unfold bV; rw [hok]; rfl
    have HE : Hid (bE n = 0) := by show _ = _; unfold bE; rw [hok]; rfl
    rw [HK.out, HV.out, HE.out]
    have kw := fun wx => rwithin_ n 0 4611686018427387904 wx
    have hw : wtn n 0 4611686018427387904 = true := decide_eq_true h
    rw [hw] at kw
    have hwr : IntKind.u64.wrap n = n := by simp [IntKind.wrap, IntKind.bits, IntKind.signed]; omega
    have n0 : 0 ≤ n := h.1
    have n1 : n < 18446744073709551616 := by omega
    clear hok HK HV HE h hw
    have HBA := hid BA
    have HM := hid m1
    clear BA m1
    go_enter Try.func11, Try.ntmps11
    go_wp2_with fail
    refine (kw _).mono ?_
    rintro e w1 ⟨rfl, hw⟩
    rw [hw]
    clear hw w1 kw
    have BA : Below w.heap.size w ((w.alloc (.cells #[.slice none 0 0, .slice none 0 0] 38)).alloc (.cells #[.int .u8 66] 5)) := HBA.out.alloc (by simp) _
    have m1 : ((w.alloc (.cells #[.slice none 0 0, .slice none 0 0] 38)).alloc (.cells #[.int .u8 66] 5)).heap[w.heap.size]? = some (.cells #[.slice none 0 0, .slice none 0 0] 38 (0, 0)) := (Below.heap_alloc _ _ _ (by simp)).trans HM.out
    have m2 : Bs ((w.alloc (.cells #[.slice none 0 0, .slice none 0 0] 38)).alloc (.cells #[.int .u8 66] 5)) (some ⟨w.heap.size + 1, 0, none⟩) 1 [66] := by
      have := bs_lit (w.alloc (.cells #[.slice none 0 0, .slice none 0 0] 38)) [66] (0, 0) (Okb1 66 (by omega))
      rw [World.size_alloc] at this
      exact this
    clear HM HBA
    go_wp2_with fail
    refine (oput64 none 0 0 [] n _ ⟨rfl, by simp, .inl rfl⟩ (by omega) n0 (by omega)).mono ?_
    rintro e w2 ⟨v2, rfl, o2, g2⟩
    rw [List.nil_append] at o2
    obtain ⟨va, vc, rfl, vs⟩ := Vs.ofOwn o2 (be_byte _ _)
    have HB := hid (bel_bel BA BA.size g2)
    have HM := hid ((g2.block w.heap.size (by simp; omega)).trans m1)
    have HKB := hid (m2.below g2)
    have HVS := hid (vs.wide (V' := fun x => w.heap.size < x) fun x _ hx => by simp at hx; omega)
    clear BA m1 m2 o2 g2 vs
    have c0 := (two_cell HM.out).1
    have c1 := (two_cell HM.out).2
    have f0 := two_fz HM.out 0
    have f1 := two_fz HM.out 1
    have HM2 := hid (two_set (a := .slice (some ⟨w.heap.size + 1, 0, none⟩) 1 1) (b := .slice va 8 vc) HM.out)
    have HO := fun j (h : j ≠ w.heap.size) => two_other (w := w2) (a := .slice (some ⟨w.heap.size + 1, 0, none⟩) 1 1) (b := .slice va 8 vc) h
    have HB3 := hid ((HB.out.setCell (p := ⟨w.heap.size, 0, none⟩) (Nat.le_refl _) (.slice (some ⟨w.heap.size + 1, 0, none⟩) 1 1)).setCell (p := ⟨w.heap.size, 1, none⟩) (Nat.le_refl _) (.slice va 8 vc))
    go_wp2_with fail
    refine bodyPost_ret (v := .tuple #[.agg #[.slice (some ⟨w.heap.size + 1, 0, none⟩) 1 1, .slice va 8 vc], .int .i64 0]) ?_ rfl ?_
    · exact results_rw rfl _ _ w.heap.size _ _ 1 1 8 vc _ rfl rfl (two_cell HM2.out).1 (two_cell HM2.out).2
    · refine ⟨some ⟨w.heap.size + 1, 0, none⟩, 1, va, vc, by rw [be_length]; rfl, ?_, ?_, HB3.out⟩
      · exact ⟨HKB.out.same_block fun ad e _ => by obtain rfl := Option.some.inj e; exact HO _ (by show w.heap.size + 1 ≠ _; omega), by simp, by unfold maxLen; simp, fun e => (by cases e), fun ad e _ => by obtain rfl := Option.some.inj e; show w.heap.size ≤ w.heap.size + 1; omega⟩
      · rw [be_length]
        exact (HVS.out.step fun x _ hx _ => HO x (by omega)).wide fun x _ hx => by omega
  · have hok : bOk n = false := decide_eq_false h
    have HK : Hid (bK n = []) := by show _ = _; unfold bK; rw [hok]; rfl
    have HV : Hid (bV n = []) := by show _ = _; unfold bV; rw [hok]; rfl
    have HE : Hid (bE n = 114) := by show _ = _; unfold bE; rw [hok]; rfl
    rw [HK.out, HV.out, HE.out]
    have kw := fun wx => rwithin_ n 0 4611686018427387904 wx
    have hw : wtn n 0 4611686018427387904 = false := decide_eq_false h
    rw [hw] at kw
    have HM2 := hid m1
    have HB2 := hid BA
    clear hok HK HV HE BA m1 hw h
    go_enter Try.func11, Try.ntmps11
    go_wp2_with fail
    refine (kw _).mono ?_
    rintro e w1 ⟨rfl, hw⟩
    rw [hw]
    clear hw w1 kw
    go_wp2_with fail
    refine bodyPost_ret (v := .tuple #[.agg #[.slice none 0 0, .slice none 0 0], .int .i64 114]) ?_ rfl ⟨none, 0, none, 0, rfl, vs_none _ _, vs_none _ _, HB2.out⟩
    exact results_rw rfl _ _ w.heap.size _ _ 0 0 0 0 _ rfl rfl (two_cell HM2.out).1 (two_cell HM2.out).2
end Go.Proofs.Ytlepbncaicpmjaa
namespace Go.Proofs.Ytlepbncaicpmjaa
set_option maxRecDepth 100000
open Go.RowKit
set_option linter.unusedVariables false

/-- What readBoots reads of a value. -/
def brd (v : List Int) : Int := IntKind.i64.wrap (gv 8 v 0)
theorem brd_in (v : List Int) : -9223372036854775808 ≤ brd v ∧ brd v ≤ 9223372036854775807 := by
  unfold brd
  simp [IntKind.wrap, IntKind.bits, IntKind.signed]
  split <;> omega
/-- A row whose Put is this row. -/
def gtB (k v : List Int) : Bool := decide (bE (brd v) = 0) && sameB (bK (brd v)) k && sameB (bV (brd v)) v
theorem gtB_eq (k v : List Int) (hb : Okb v) : gtB k v = gbOk k v ∧ (gbOk k v = true → brd v = val v) := by
  have key : gbOk k v = true → brd v = val v ∧ bOk (val v) = true := fun h => by
    obtain ⟨h1, h2, h3⟩ := of_decide_eq_true h
    have hv := val_bound v hb
    have e : gv 8 v 0 = val v := by
      rw [(g_yes (p := 0) (show 8 ≤ v.length by omega)).1, List.take_of_length_le (by omega)]
    refine ⟨?_, decide_eq_true ⟨hv.1, h2⟩⟩
    unfold brd
    rw [e]
    simp [IntKind.wrap, IntKind.bits, IntKind.signed]
    omega
  refine ⟨?_, fun h => (key h).1⟩
  cases hg : gbOk k v with
  | true =>
    obtain ⟨e1, e2⟩ := key hg
    obtain ⟨h1, h2, h3⟩ := of_decide_eq_true hg
    unfold gtB
    rw [e1]
    have f1 : bK (val v) = [66] := by unfold bK; rw [e2]; rfl
    have f2 : bV (val v) = be 8 (val v) := by unfold bV; rw [e2]; rfl
    have f3 : bE (val v) = 0 := by unfold bE; rw [e2]; rfl
    rw [f1, f2, f3, be_val8 hb h1, h3, sameB_self, sameB_self]
    rfl
  | false =>
    cases hq : gtB k v with
    | false => rfl
    | true =>
      exfalso
      unfold gtB at hq
      simp only [Bool.and_eq_true, decide_eq_true_eq] at hq
      obtain ⟨⟨q1, q2⟩, q3⟩ := hq
      have ok : bOk (brd v) = true := by
        cases h : bOk (brd v) with
        | true => rfl
        | false => unfold bE at q1; rw [h] at q1; simp at q1
      unfold bK at q2
      unfold bV at q3
      rw [ok] at q2 q3
      simp only [if_true] at q2 q3
      have k66 : k = [66] := (of_decide_eq_true q2).symm
      have v8 : be 8 (brd v) = v := of_decide_eq_true q3
      have hlen : v.length = 8 := by rw [← v8, be_length]
      have hin := of_decide_eq_true ok
      have e : gv 8 v 0 = val v := by
        rw [(g_yes (p := 0) (show 8 ≤ v.length by omega)).1, List.take_of_length_le (by omega)]
      have hv := val_bound v hb
      rw [hlen] at hv
      have : val v = brd v := by
        have hz : val (be 8 (brd v)) = brd v := by rw [val_be]; exact Int.emod_eq_of_lt hin.1 (by have := hin.2; omega)
        rw [v8] at hz
        exact hz
      have : gbOk k v = true := decide_eq_true ⟨hlen, by rw [this]; exact hin.2, k66⟩
      rw [hg] at this
      cases this
end Go.Proofs.Ytlepbncaicpmjaa
namespace Go.Proofs.Ytlepbncaicpmjaa
set_option maxRecDepth 100000
open Go.RowKit
set_option linter.unusedVariables false

theorem bE_or (n : Int) : bE n = 0 ∨ bE n = 114 := by unfold bE; split <;> simp
theorem only_cell {q : Nat} {w w' : World} (h : Only q w w') {p : Addr} (hp : p.block ≠ q) : w'.cell? p = w.cell? p := World.cell?_of_block (h.block p.block hp)
end Go.Proofs.Ytlepbncaicpmjaa
