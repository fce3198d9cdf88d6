import Derived.Test.YtacjhbhmhgekhaaNL
namespace Go.Proofs.Ytacjhbhmhgekhaa
open Go.RowKit
set_option linter.unusedVariables false
set_option maxRecDepth 100000

/-- Bytes that came in. -/
theorem in_vs {w w' : World} {a : Option Addr} {n c : Nat} {d : List Int} (h : Vs w (fun x => x < w.heap.size) a n c d) (hb : Below w.heap.size w w') : Vs w' (fun x => x < w.heap.size) a n c d := h.step fun k hk _ _ => hb.block k hk
theorem fnd_one {d : List Int} {k : Int} (h : k ≠ 2) : fnd [⟨2, 1, d⟩] k = none := by
  unfold fnd
  rw [List.find?_eq_none]
  intro x hx
  rw [List.mem_singleton] at hx
  subst hx
  simp
  exact fun e => h e.symm
set_option maxHeartbeats 8000000 in
/-- NetRefuses. -/
theorem netRefuses_ (a : Option Addr) (n c : Nat) (d : List Int) (no at' v : Int) (w : World) (hd : Vs w (fun x => x < w.heap.size) a n c d) (hno : i64r no) (hat : i64r at') (hv : i64r v) :
    Calls Try.prog 8 #[.slice a n c, .int .i64 no, .int .i64 at', .int .i64 v] w fun e w' => e = .returned (.bool true) ∧ Below w.heap.size w w' := by
  have HD := hid hd
  have HNO := hid hno
  have HAT := hid hat
  have HVV := hid hv
  have hdl : d.length = n := hd.bs.1
  have HDL := hid hdl
  unfold i64r at hno hat hv
  clear hd hdl
  by_cases hn : n ≤ 4096
  case neg =>
    have hnI : (4096 : Int) < n := by omega
    go_enter Try.func8, Try.ntmps8
    go_wp2_with fail
    refine (known_ w).mono ?_
    rintro e w1 ⟨rfl, g1⟩
    have k1 := newK (w0 := w) (K := fun _ => False) g1 (fun _ e => e.elim)
    clear g1
    go_wp2_with fail
    refine k1.mono ?_
    rintro e w2 ⟨p, rfl, h, -⟩
    have HB := hid h.bel
    clear k1 h
    go_wp2_with fail
    go_ret
    exact ⟨rfl, HB.out⟩
  case pos =>
  have hnI : ¬ (4096 : Int) < n := by omega
  go_enter Try.func8, Try.ntmps8
  go_wp2_with fail
  refine (known_ w).mono ?_
  rintro e w1 ⟨rfl, g1⟩
  have k1 := newK (w0 := w) (K := fun _ => False) g1 (fun _ e => e.elim)
  clear g1
  go_wp2_with fail
  refine k1.mono ?_
  rintro e w2 ⟨p, rfl, h, -⟩
  have HP : Hid (∀ k, k < w.heap.size → k ≠ p) := fun k hk e => by have := h.p0.1; omega
  have k2 := sendK h (to := 0) (A := 1) (G := 1) (L' := [⟨1, 0, d⟩]) (in_vs HD.out h.bel) HP.out (by omega) (i64c 0 (by decide)) (by omega) rfl rfl rfl
  clear k1 h
  go_wp2_with fail
  refine k2.mono ?_
  rintro e w3 ⟨rfl, h, -⟩
  have k3 := sendK h (to := 1) (A := 2) (G := 2) (L' := [⟨1, 0, d⟩, ⟨2, 1, d⟩]) (in_vs HD.out h.bel) HP.out (by omega) (i64c 1 (by decide)) (by omega) rfl rfl rfl
  clear k2 h
  go_wp2_with fail
  refine k3.mono ?_
  rintro e w4 ⟨rfl, h, -⟩
  have k4 := dropK h (k := 1) (E := 0) (L' := [⟨2, 1, d⟩]) (i64c 1 (by decide)) rfl rfl
  clear k3 h
  go_wp2_with fail
  refine k4.mono ?_
  rintro e w5 ⟨rfl, h, -⟩
  have k5 := underK h
  clear k4 h
  go_wp2_with fail
  refine k5.mono ?_
  rintro e w6 ⟨aw, nw, cw, hnw, rfl, hfl, h, -⟩
  obtain rfl : nw = 1 := hnw
  have HFL : Hid (∀ wx, Kx (fun k => False ∨ (w5.heap.size ≤ k ∧ k < w6.heap.size)) w6 wx → Fls wx (fun k => w5.heap.size ≤ k ∧ k < w6.heap.size) aw 1 [⟨2, 1, d⟩]) := fun wx hk => hfl.kx hk fun k e => .inr e
  have HH := hid h
  clear k5 h hfl
  have FIN : Hid (∀ wx, Hk w wx (fun k => False ∨ (w5.heap.size ≤ k ∧ k < w6.heap.size)) p [⟨2, 1, d⟩] 2 → Kx (fun k => False ∨ (w5.heap.size ≤ k ∧ k < w6.heap.size)) w6 wx → Calls Try.prog 17 #[.pointer (some ⟨p, 0, none⟩)] wx fun e w7 => ∃ au cu, e = .returned (.slice au 1 cu) ∧ Calls Try.prog 27 #[.slice au 1 cu, .slice aw 1 cw] w7 fun e w8 => e = .returned (.bool true) ∧ Calls Try.prog 14 #[.pointer (some ⟨p, 0, none⟩), .int .i64 0, .slice none 0 0] w8 fun e w9 => e = .returned (.int .i64 3) ∧ Below w.heap.size w w9) := by
    intro wx hx hk
    refine (underK hx).mono ?_
    rintro e w7 ⟨au, nu, cu, hnu, rfl, hfl7, h7, hb7⟩
    obtain rfl : nu = 1 := hnu
    refine ⟨au, cu, rfl, ?_⟩
    have hf2 := (HFL.out wx hk).below hb7
    refine (sameFlights_ _ _ au aw 1 cu 1 cw _ _ w7 hfl7 hf2 (by omega) (by omega) (by have := HDL.out; intro f hf; rw [List.mem_singleton] at hf; subst hf; show d.length ≤ _; omega) (by have := HDL.out; intro f hf; rw [List.mem_singleton] at hf; subst hf; show d.length ≤ _; omega) (Q := true) (decide_eq_true rfl)).mono ?_
    rintro e w8 ⟨rfl, g8⟩
    refine ⟨rfl, ?_⟩
    have h8 := h7.on g8
    refine (sendK h8 (to := 0) (A := 3) (G := 3) (vs_none w8 (fun _ => False)) (fun k e => e.elim) (by omega) (i64c 0 (by decide)) (by omega) rfl rfl rfl).mono ?_
    rintro e w9 ⟨rfl, h9, -⟩
    exact ⟨rfl, h9.bel⟩
  have FLE : Hid ((at' < 0 ∨ (n : Int) ≤ at' ∨ v < 1 ∨ 255 < v) → flE [⟨2, 1, d⟩] 2 at' v = 2 ∧ flL [⟨2, 1, d⟩] 2 at' v = [⟨2, 1, d⟩]) := by
    intro hbad
    have e1 : flE [⟨2, 1, d⟩] 2 at' v = 2 := by
      unfold flE
      rw [show fnd [⟨2, 1, d⟩] 2 = some ⟨2, 1, d⟩ from rfl]
      simp only [HDL.out]
      rw [if_pos hbad]
    exact ⟨e1, by unfold flL; rw [e1]; rfl⟩
  have h5 : (at' < 0) ∨ (¬ at' < 0 ∧ (n : Int) ≤ at') ∨ (¬ at' < 0 ∧ ¬ (n : Int) ≤ at' ∧ v < 1) ∨ (¬ at' < 0 ∧ ¬ (n : Int) ≤ at' ∧ ¬ v < 1 ∧ 255 < v) ∨ (¬ at' < 0 ∧ ¬ (n : Int) ≤ at' ∧ ¬ v < 1 ∧ ¬ 255 < v) := by omega
  by_cases hn2 : no = 2
  case pos =>
    have hn2b : (no != 2) = false := by simp [hn2]
    clear hn2
    rcases h5 with q1 | ⟨q1, q2⟩ | ⟨q1, q2, q3⟩ | ⟨q1, q2, q3, q4⟩ | ⟨q1, q2, q3, q4⟩
    · have e2 := FLE.out (by omega)
      have k6 := flipK HH.out (k := 2) (t := at') (x := v) (i64c 2 (by decide)) HAT.out HVV.out e2.1 e2.2
      clear e2
      go_wp2_with fail
      refine k6.mono ?_
      rintro e w7 ⟨rfl, h, hk⟩
      have k7 := FIN.out w7 h hk
      have kn := num_ 2 w7
      clear k6 h hk
      go_wp2_with (go_at_call 16; refine kn.mono ?_; rintro e wz ⟨rfl, hwz⟩; subst hwz)
      refine k7.mono ?_
      rintro e w8 ⟨au, cu, rfl, k8⟩
      clear k7 kn
      go_wp2_with fail
      refine k8.mono ?_
      rintro e w9 ⟨rfl, k9⟩
      clear k8
      go_wp2_with fail
      refine k9.mono ?_
      rintro e w10 ⟨rfl, g10⟩
      have HB := hid g10
      clear k9 g10
      go_wp2_with fail
      go_ret
      exact ⟨rfl, HB.out⟩
    · have e2 := FLE.out (by omega)
      have k6 := flipK HH.out (k := 2) (t := at') (x := v) (i64c 2 (by decide)) HAT.out HVV.out e2.1 e2.2
      clear e2
      go_wp2_with fail
      refine k6.mono ?_
      rintro e w7 ⟨rfl, h, hk⟩
      have k7 := FIN.out w7 h hk
      have kn := num_ 2 w7
      clear k6 h hk
      go_wp2_with (go_at_call 16; refine kn.mono ?_; rintro e wz ⟨rfl, hwz⟩; subst hwz)
      refine k7.mono ?_
      rintro e w8 ⟨au, cu, rfl, k8⟩
      clear k7 kn
      go_wp2_with fail
      refine k8.mono ?_
      rintro e w9 ⟨rfl, k9⟩
      clear k8
      go_wp2_with fail
      refine k9.mono ?_
      rintro e w10 ⟨rfl, g10⟩
      have HB := hid g10
      clear k9 g10
      go_wp2_with fail
      go_ret
      exact ⟨rfl, HB.out⟩
    · have e2 := FLE.out (by omega)
      have k6 := flipK HH.out (k := 2) (t := at') (x := v) (i64c 2 (by decide)) HAT.out HVV.out e2.1 e2.2
      clear e2
      go_wp2_with fail
      refine k6.mono ?_
      rintro e w7 ⟨rfl, h, hk⟩
      have k7 := FIN.out w7 h hk
      have kn := num_ 2 w7
      clear k6 h hk
      go_wp2_with (go_at_call 16; refine kn.mono ?_; rintro e wz ⟨rfl, hwz⟩; subst hwz)
      refine k7.mono ?_
      rintro e w8 ⟨au, cu, rfl, k8⟩
      clear k7 kn
      go_wp2_with fail
      refine k8.mono ?_
      rintro e w9 ⟨rfl, k9⟩
      clear k8
      go_wp2_with fail
      refine k9.mono ?_
      rintro e w10 ⟨rfl, g10⟩
      have HB := hid g10
      clear k9 g10
      go_wp2_with fail
      go_ret
      exact ⟨rfl, HB.out⟩
    · have e2 := FLE.out (by omega)
      have k6 := flipK HH.out (k := 2) (t := at') (x := v) (i64c 2 (by decide)) HAT.out HVV.out e2.1 e2.2
      clear e2
      go_wp2_with fail
      refine k6.mono ?_
      rintro e w7 ⟨rfl, h, hk⟩
      have k7 := FIN.out w7 h hk
      have kn := num_ 2 w7
      clear k6 h hk
      go_wp2_with (go_at_call 16; refine kn.mono ?_; rintro e wz ⟨rfl, hwz⟩; subst hwz)
      refine k7.mono ?_
      rintro e w8 ⟨au, cu, rfl, k8⟩
      clear k7 kn
      go_wp2_with fail
      refine k8.mono ?_
      rintro e w9 ⟨rfl, k9⟩
      clear k8
      go_wp2_with fail
      refine k9.mono ?_
      rintro e w10 ⟨rfl, g10⟩
      have HB := hid g10
      clear k9 g10
      go_wp2_with fail
      go_ret
      exact ⟨rfl, HB.out⟩
    have k7 := FIN.out w6 HH.out (fun _ _ => rfl)
    go_wp2_with fail
    refine k7.mono ?_
    rintro e w8 ⟨au, cu, rfl, k8⟩
    clear k7
    go_wp2_with fail
    refine k8.mono ?_
    rintro e w9 ⟨rfl, k9⟩
    clear k8
    go_wp2_with fail
    refine k9.mono ?_
    rintro e w10 ⟨rfl, g10⟩
    have HB := hid g10
    clear k9 g10
    go_wp2_with fail
    go_ret
    exact ⟨rfl, HB.out⟩
  case neg =>
    have hn2b : (no != 2) = true := by simp [hn2]
    have hfn := fnd_one (d := d) hn2
    have HFN := hid hfn
    have hlo : outL [⟨2, 1, d⟩] no = [⟨2, 1, d⟩] := outL_none hfn
    have HLO := hid hlo
    have k6 := takeK HH.out (k := no) (f := fl0) (n := 0) (E := 218) (L' := [⟨2, 1, d⟩]) HNO.out (by rw [hfn]; rfl) rfl (by unfold erN; rw [hfn]; rfl) hlo
    clear hn2 hfn hlo
    go_wp2_with fail
    refine k6.mono ?_
    rintro e w7 ⟨a7, c7, V7, rfl, hv7, h, hk⟩
    have HV7 := hid hv7
    have HK7 := hid hk
    have h7 := h.on ((Below.refl w7.heap.size w7).alloc (Nat.le_refl _) (.cells #[.int .i64 fl0.no, .int .i64 fl0.to, .slice a7 0 c7] 49))
    have HFM := hid (Fm.new w7 fl0.no fl0.to a7 0 c7)
    have HK8 := hid (h.kx ((Below.refl w7.heap.size w7).alloc (Nat.le_refl _) (.cells #[.int .i64 fl0.no, .int .i64 fl0.to, .slice a7 0 c7] 49)))
    have k7 := dropK h7 (k := no) (E := 218) (L' := [⟨2, 1, d⟩]) HNO.out (by unfold erN; rw [HFN.out]; rfl) HLO.out
    clear k6 h h7 hv7 hk
    go_wp2_with fail
    refine k7.mono ?_
    rintro e w8 ⟨rfl, h, hk8⟩
    have HK9 := hid hk8
    have k8 := copyK h (k := no) (A := 0) (E := 218) (G := 2) (L' := [⟨2, 1, d⟩]) HNO.out (by omega) (by unfold cpyA; rw [HFN.out]; rfl) (by unfold erN; rw [HFN.out]; rfl) (by unfold cpyL; rw [HFN.out]) (by unfold cpyG; rw [HFN.out]; rfl)
    clear k7 h hk8
    go_wp2_with fail
    refine k8.mono ?_
    rintro e w9 ⟨rfl, h, hk9⟩
    have HK10 := hid hk9
    have e3 : flE [⟨2, 1, d⟩] no 0 1 = 218 := by unfold flE; rw [HFN.out]
    have k9 := flipK h (k := no) (t := 0) (x := 1) (E := 218) (L' := [⟨2, 1, d⟩]) HNO.out (i64c 0 (by decide)) (i64c 1 (by decide)) e3 (by unfold flL; rw [e3]; rfl)
    clear k8 h hk9 e3
    go_wp2_with fail
    refine k9.mono ?_
    rintro e w10 ⟨rfl, h, hk10⟩
    obtain ⟨vb, HVB⟩ : ∃ z, Hid (w7.heap.size = z) := ⟨_, rfl⟩
    have HKA := hid (((HK9.out.trans HK10.out).trans hk10))
    have HFM10 : Hid (Fm w10 vb 0 0 a7 0 c7) := by
      rw [← HVB.out]
      exact HFM.out.kx HKA.out (.inr ⟨Nat.le_refl _, by simp⟩)
    have y0 := HFM10.out.c0
    have y1 := HFM10.out.c1
    have y2 := HFM10.out.c2
    have k10 := sameFlight_ a7 none 0 c7 0 0 fl0 fl0 w10 ⟨rfl, fun z hz => by simp [fl0] at hz, .inl rfl⟩ ⟨rfl, fun z hz => by simp [fl0] at hz, .inl rfl⟩ (by omega) (by omega) (Q := true) (by decide)
    have HH10 := hid h
    have HKK : Hid (Kx (fun k => False ∨ (w5.heap.size ≤ k ∧ k < w6.heap.size)) w6 w10) := (HK7.out.trans (HK8.out.weak fun k e => .inl e)).trans (HKA.out.weak fun k e => .inl (.inl e))
    rw [HVB.out]
    clear k9 h hk10 HFM HK7 HK8 HK9 HK10 HKA HV7
    go_wp2_with fail
    refine k10.mono ?_
    rintro e w11 ⟨rfl, g11⟩
    have HH11 : Hid (Hk w w11 (fun k => False ∨ (w5.heap.size ≤ k ∧ k < w6.heap.size)) p [⟨2, 1, d⟩] 2) := (HH10.out.on g11).less fun k e => .inl (.inl (.inl e))
    have HK11 : Hid (Kx (fun k => False ∨ (w5.heap.size ≤ k ∧ k < w6.heap.size)) w6 w11) := HKK.out.trans fun k e => g11.block k (HH10.out.kl k (.inl (.inl e)))
    have kn := num_ 218 w11
    clear k10 g11 y0 y1 y2 HFM10 HKK HH10
    rcases h5 with q1 | ⟨q1, q2⟩ | ⟨q1, q2, q3⟩ | ⟨q1, q2, q3, q4⟩ | ⟨q1, q2, q3, q4⟩
    · have e2 := FLE.out (by omega)
      have k6 := flipK HH11.out (k := 2) (t := at') (x := v) (i64c 2 (by decide)) HAT.out HVV.out e2.1 e2.2
      clear e2
      go_wp2_with (go_at_call 16; refine kn.mono ?_; rintro e wz ⟨rfl, hwz⟩; subst hwz)
      refine k6.mono ?_
      rintro e w7 ⟨rfl, h, hk⟩
      have k7 := FIN.out w7 h (HK11.out.trans hk)
      have kn := num_ 2 w7
      clear k6 h hk
      go_wp2_with (go_at_call 16; refine kn.mono ?_; rintro e wz ⟨rfl, hwz⟩; subst hwz)
      refine k7.mono ?_
      rintro e w8 ⟨au, cu, rfl, k8⟩
      clear k7 kn
      go_wp2_with fail
      refine k8.mono ?_
      rintro e w9 ⟨rfl, k9⟩
      clear k8
      go_wp2_with fail
      refine k9.mono ?_
      rintro e w10 ⟨rfl, g10⟩
      have HB := hid g10
      clear k9 g10
      go_wp2_with fail
      go_ret
      exact ⟨rfl, HB.out⟩
    · have e2 := FLE.out (by omega)
      have k6 := flipK HH11.out (k := 2) (t := at') (x := v) (i64c 2 (by decide)) HAT.out HVV.out e2.1 e2.2
      clear e2
      go_wp2_with (go_at_call 16; refine kn.mono ?_; rintro e wz ⟨rfl, hwz⟩; subst hwz)
      refine k6.mono ?_
      rintro e w7 ⟨rfl, h, hk⟩
      have k7 := FIN.out w7 h (HK11.out.trans hk)
      have kn := num_ 2 w7
      clear k6 h hk
      go_wp2_with (go_at_call 16; refine kn.mono ?_; rintro e wz ⟨rfl, hwz⟩; subst hwz)
      refine k7.mono ?_
      rintro e w8 ⟨au, cu, rfl, k8⟩
      clear k7 kn
      go_wp2_with fail
      refine k8.mono ?_
      rintro e w9 ⟨rfl, k9⟩
      clear k8
      go_wp2_with fail
      refine k9.mono ?_
      rintro e w10 ⟨rfl, g10⟩
      have HB := hid g10
      clear k9 g10
      go_wp2_with fail
      go_ret
      exact ⟨rfl, HB.out⟩
    · have e2 := FLE.out (by omega)
      have k6 := flipK HH11.out (k := 2) (t := at') (x := v) (i64c 2 (by decide)) HAT.out HVV.out e2.1 e2.2
      clear e2
      go_wp2_with (go_at_call 16; refine kn.mono ?_; rintro e wz ⟨rfl, hwz⟩; subst hwz)
      refine k6.mono ?_
      rintro e w7 ⟨rfl, h, hk⟩
      have k7 := FIN.out w7 h (HK11.out.trans hk)
      have kn := num_ 2 w7
      clear k6 h hk
      go_wp2_with (go_at_call 16; refine kn.mono ?_; rintro e wz ⟨rfl, hwz⟩; subst hwz)
      refine k7.mono ?_
      rintro e w8 ⟨au, cu, rfl, k8⟩
      clear k7 kn
      go_wp2_with fail
      refine k8.mono ?_
      rintro e w9 ⟨rfl, k9⟩
      clear k8
      go_wp2_with fail
      refine k9.mono ?_
      rintro e w10 ⟨rfl, g10⟩
      have HB := hid g10
      clear k9 g10
      go_wp2_with fail
      go_ret
      exact ⟨rfl, HB.out⟩
    · have e2 := FLE.out (by omega)
      have k6 := flipK HH11.out (k := 2) (t := at') (x := v) (i64c 2 (by decide)) HAT.out HVV.out e2.1 e2.2
      clear e2
      go_wp2_with (go_at_call 16; refine kn.mono ?_; rintro e wz ⟨rfl, hwz⟩; subst hwz)
      refine k6.mono ?_
      rintro e w7 ⟨rfl, h, hk⟩
      have k7 := FIN.out w7 h (HK11.out.trans hk)
      have kn := num_ 2 w7
      clear k6 h hk
      go_wp2_with (go_at_call 16; refine kn.mono ?_; rintro e wz ⟨rfl, hwz⟩; subst hwz)
      refine k7.mono ?_
      rintro e w8 ⟨au, cu, rfl, k8⟩
      clear k7 kn
      go_wp2_with fail
      refine k8.mono ?_
      rintro e w9 ⟨rfl, k9⟩
      clear k8
      go_wp2_with fail
      refine k9.mono ?_
      rintro e w10 ⟨rfl, g10⟩
      have HB := hid g10
      clear k9 g10
      go_wp2_with fail
      go_ret
      exact ⟨rfl, HB.out⟩
    have k7 := FIN.out w11 HH11.out HK11.out
    go_wp2_with (go_at_call 16; refine kn.mono ?_; rintro e wz ⟨rfl, hwz⟩; subst hwz)
    refine k7.mono ?_
    rintro e w8 ⟨au, cu, rfl, k8⟩
    clear k7
    go_wp2_with fail
    refine k8.mono ?_
    rintro e w9 ⟨rfl, k9⟩
    clear k8
    go_wp2_with fail
    refine k9.mono ?_
    rintro e w10 ⟨rfl, g10⟩
    have HB := hid g10
    clear k9 g10
    go_wp2_with fail
    go_ret
    exact ⟨rfl, HB.out⟩
end Go.Proofs.Ytacjhbhmhgekhaa
