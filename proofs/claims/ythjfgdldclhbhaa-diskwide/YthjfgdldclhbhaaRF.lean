import Derived.Test.YthjfgdldclhbhaaRE
namespace Go.Proofs.Ythjfgdldclhbhaa
set_option maxRecDepth 100000
open Go.RowKit Go.Shelf
set_option linter.unusedVariables false

set_option maxHeartbeats 4000000 in
theorem rcrash_ (e : Nat) (s : St) (N : Nat → Prop) (gl : Nat) (cur : Array Value) (pa : Option Addr) (pc : Nat) (I : List It) (fa : Option Addr) (fc : Nat) (fs : List (Int × Int)) (a1 : Option Addr) (n1 c1 : Nat) (ks : List Bool) (w : World) (h : Rk w e s N gl cur pa pc I fa fc fs) (hp : s.P.length ≤ 1000000) (hb : Bl w a1 n1 ks) (hq : ∀ ad, a1 = some ad → 0 < n1 → ¬ N ad.block) (hn1 : n1 ≤ 140737488355328) :
    Calls Try.prog 74 #[.pointer (some ⟨e, 0, none⟩), .slice a1 n1 c1] w fun en w' => en = .returned (.tuple #[]) ∧ Rd w' e (crS s ks) N ∧ Fr N w w' := by
  have HNE := hid h.ne
  have HNL := hid h.nl
  have hIl : I.length ≤ 1000000 := by have := congrArg List.length h.ip; rw [List.length_map] at this; omega
  have HB := hid hb
  have HQ := hid hq
  have HR := hid h
  have hkl := hb.1
  clear h hb hq
  go_enter Try.func74, Try.ntmps74
  go_wp2_with fail
  go_loopw [4] (fun i wr => ∃ (j : Nat) (cur' : Array Value), j ≤ I.length ∧ j ≤ n1 ∧ i = .int .i64 j ∧ Rk wr e { s with S := layA s.S (keepL (s.P.take j) ks) } N gl cur' pa pc I fa fc fs ∧ Fr N w wr) (fun i _ => I.length - (intOf i).toNat)
  case atStart => exact ⟨0, cur, Nat.zero_le _, Nat.zero_le _, rfl, by rw [List.take_zero, keepL_nil']; exact HR.out, .refl _ _⟩
  case round =>
    clear HR
    obtain ⟨j, cur', hj, hjn, rfl, hr, hf⟩ := hrel
    have c2 := hr.c2
    by_cases hlt : j < I.length ∧ j < n1
    · have hjI : (j : Int) < (I.length : Int) := by omega
      have hjK : (j : Int) < (n1 : Int) := by omega
      obtain ⟨x, HX⟩ : ∃ x, Hid (I[j]? = some x) := ⟨I[j]'hlt.1, by show _ = _; simp [hlt.1]⟩
      obtain ⟨gp, rfl, hpp, hpm, d0, d1⟩ := hr.cellI HX.out
      have HPj : Hid (s.P[j]? = some (x.S, x.Z)) := by
        have ip : s.P = I.map fun x => (x.S, x.Z) := hr.ip
        show _ = _
        rw [ip, List.getElem?_map, HX.out]
        rfl
      have HSS : Hid (layA s.S (keepL (s.P.take (j + 1)) ks) = layA (layA s.S (keepL (s.P.take j) ks)) (if ks[j]? = some true then [(x.S, x.Z)] else [])) := by
        show _ = _
        have hjl : (s.P.take j).length = j := by
          rw [List.length_take]
          have := (List.getElem?_eq_some_iff.1 HPj.out).1
          omega
        rw [← layA_app, List.take_add_one, HPj.out]
        show layA s.S (keepL (s.P.take j ++ [(x.S, x.Z)]) ks) = _
        rw [keepL_snoc, hjl]
      have kl := rlay_ e _ N gl cur' _ pc I fa fc fs x wr hr (List.mem_of_getElem? HX.out)
      obtain ⟨b, off, rfl, hcb⟩ : ∃ b off, a1 = some ⟨b, off, none⟩ ∧ ∀ i, i < n1 → wr.cell? ⟨b, off + i, none⟩ = some (.bool (ks.getD i false)) := by
        rcases (HB.out.fr hf HQ.out).2 with h0 | h
        · omega
        · exact h
      have e1 := hcb j hlt.2
      have HKS : Hid (ks[j]? = some (ks.getD j false)) := by show _ = _; simp [List.getD, show j < ks.length from by omega]
      obtain ⟨r, HRR⟩ : ∃ r, Hid (ks.getD j false = r) := ⟨_, rfl⟩
      rw [HRR.out] at e1 HKS
      have HF := hid hf
      have HR := hid hr
      clear hr hf hlt hcb
      obtain ⟨xS, xg, xc, xZ⟩ := x
      simp only at *
      cases r with
      | true =>
        go_wp2_with fail
        refine kl.mono ?_
        rintro en w3 ⟨rfl, ⟨cur3, R3⟩, G3⟩
        have F3 := hid (HF.out.trans (Fr.of G3 HNL.out))
        have HR3 := hid R3
        clear kl R3 G3 HF HR d0 d1 c2 e1
        go_wp2_with fail
        go_roundw
        case rel => exact ⟨j + 1, cur3, by omega, by omega, by go_num, by rw [HSS.out, HKS.out, if_pos rfl]; exact HR3.out, F3.out⟩
        case measure => simp [intOf]; omega
      | false =>
        clear kl
        go_wp2_with fail
        go_roundw
        case rel => exact ⟨j + 1, cur', by omega, by omega, by go_num, by rw [HSS.out, HKS.out, if_neg (by simp)]; exact HR.out, HF.out⟩
        case measure => simp [intOf]; omega
    · have HL : Hid (keepL (s.P.take j) ks = keepL s.P ks) := by
        show _ = _
        by_cases hjl : j < I.length
        · have : j = ks.length := by omega
          rw [this, keepL_take]
        · rw [List.take_of_length_le (by have ip : s.P = I.map fun x => (x.S, x.Z) := hr.ip; rw [ip, List.length_map]; omega)]
      rw [HL.out] at hr
      have f2 := hr.fz 2
      have f4 := hr.fz 4
      have f5 := hr.fz 5
      have f3 := hr.fz 3
      have c4 := hr.c4
      have c5 := hr.c5
      have c3 := hr.c3
      have R4 := ((hr.clrP.clrF).s5 0).s3 true
      have FF := hid (hf.trans (Fr.of (grown_set (grown_set (grown_set (grown_set (grown_refl wr (some e)) 2 (.slice none 0 0)) 4 (.slice none 0 0)) 5 (.int .i64 0)) 3 (.bool true)) HNE.out))
      have RF : Hid (Rd ((((wr.setCell ⟨e, 2, none⟩ (.slice none 0 0)).setCell ⟨e, 4, none⟩ (.slice none 0 0)).setCell ⟨e, 5, none⟩ (.int .i64 0)).setCell ⟨e, 3, none⟩ (.bool true)) e (crS s ks) N) := ⟨_, _, _, _, _, _, _, _, R4⟩
      have hjj : ¬ (j : Int) < (I.length : Int) ∨ ((j : Int) < (I.length : Int) ∧ ¬ (j : Int) < (n1 : Int)) := by omega
      clear hr hf hlt R4
      rcases hjj with hjI | ⟨hjI, hjK⟩
      all_goals
        go_wp2_with fail
        go_end0
        exact ⟨rfl, RF.out, FF.out⟩
set_option maxHeartbeats 4000000 in
theorem rread_ (e : Nat) (i : Int) (s : St) (N : Nat → Prop) (gl : Nat) (cur : Array Value) (pa : Option Addr) (pc : Nat) (I : List It) (fa : Option Addr) (fc : Nat) (fs : List (Int × Int)) (w : World) (h : Rk w e s N gl cur pa pc I fa fc fs) (hc : s.c ≤ 1000000) (hp : s.P.length ≤ 1000000) :
    Calls Try.prog 36 #[.pointer (some ⟨e, 0, none⟩), .int .i64 i] w fun en w' => ∃ v, en = .returned (.tuple #[v, .int .i64 (rdE s i)]) ∧ w'.ownsRow w.heap.size 5 1 v (rdB s i).length (cells (rdB s i)) ∧ Rd w' e (rdS s i) N ∧ Fr N w w' := by
  have c0 := h.c0
  have HNE := hid h.ne
  have hIl : I.length ≤ 1000000 := by have := congrArg List.length h.ip; rw [List.length_map] at this; omega
  by_cases hin : 0 ≤ i ∧ i < (s.n : Int)
  case neg =>
    have E1 : rdE s i = 101 := by unfold rdE; rw [if_neg hin]
    have E2 : rdS s i = s := by unfold rdS; rw [if_neg hin]
    have E3 : rdB s i = [] := by unfold rdB; rw [E1, if_neg (by decide)]
    rw [E1, E2, E3]
    have HR := hid h
    have hcs : i < 0 ∨ (¬ i < 0 ∧ ¬ i < (s.n : Int)) := by omega
    clear h hin E1 E2 E3
    rcases hcs with q | ⟨q1, q2⟩
    all_goals
      go_enter Try.func36, Try.ntmps36
      go_wp2_with fail
      go_ret2
      exact ⟨_, rfl, World.ownsRow_nil _ _ _ _, ⟨_, _, _, _, _, _, _, _, HR.out⟩, .refl _ _⟩
  case pos =>
    obtain ⟨hi0, hin⟩ := hin
    obtain ⟨k, rfl⟩ := Int.eq_ofNat_of_zero_le hi0
    have hi0' : ¬ (k : Int) < 0 := by omega
    have E1 : rdE s (k : Int) = opE s := by unfold rdE; rw [if_pos ⟨hi0, hin⟩]
    have E2 : rdS s (k : Int) = opS s := by unfold rdS; rw [if_pos ⟨hi0, hin⟩]
    have km := rmeets_ e s N gl cur pa pc I fa fc fs w h hc
    have hkn : k < s.n := by omega
    obtain ⟨s1, HS1⟩ : ∃ s1, Hid (opS s = s1) := ⟨_, rfl⟩
    have HSS : Hid (s1.S = s.S) := by show _ = _; rw [← HS1.out]; exact opS_S s
    have HPP : Hid (s1.P = s.P) := by show _ = _; rw [← HS1.out]; exact opS_P s
    have HNN : Hid (s1.n = s.n) := by show _ = _; rw [← HS1.out]; exact opS_n s
    obtain ⟨E, HE⟩ : ∃ E, Hid (opE s = E) := ⟨_, rfl⟩
    rw [E1, E2]
    rw [HS1.out, HE.out] at km
    rw [HE.out] at E1 ⊢
    rw [HS1.out]
    have HIP := hid h.ip
    clear h
    by_cases hE : E = 0
    · subst hE
      have E3 : rdB s (k : Int) = layA s.S s.P k := by unfold rdB; rw [E1, if_pos rfl]; rfl
      rw [E3]
      obtain ⟨R, HRR⟩ : ∃ R, Hid (layA s.S s.P k = R) := ⟨_, rfl⟩
      rw [HRR.out]
      clear E1 E2 E3
      go_enter Try.func36, Try.ntmps36
      go_wp2_with fail
      refine km.mono ?_
      rintro en w1 ⟨rfl, R1, g1⟩
      have F1 := hid (Fr.of g1 HNE.out)
      have HR1 := hid R1
      have c2 := R1.c2
      clear km R1 g1 c0
      go_wp2_with fail
      go_loop [7] (fun u => ∃ m : Nat, m ≤ I.length ∧ u = .int .i64 ((m : Int) - 1) ∧ ∀ y ∈ dl I m, y.2.S ≠ k) (fun u => (intOf u + 1).toNat)
      case atStart => exact ⟨I.length, Nat.le_refl _, rfl, fun y hy => by rw [dl_top] at hy; simp at hy⟩
      case round =>
        obtain ⟨m, hm, rfl, hall⟩ := hrel
        have HALL := hid hall
        clear hall
        cases m with
        | zero =>
          have HRS : Hid (R = s1.S k) := by
            show _ = _
            rw [← HRR.out, HIP.out, HSS.out]
            exact lat_none HALL.out
          have kl := rlasting_ e s1 N gl cur pa pc I fa fc fs k w1 HR1.out (by rw [HNN.out]; exact hkn)
          rw [← HRS.out] at kl
          go_wp2_with fail
          refine kl.mono ?_
          rintro en w2 ⟨v2, rfl, o2, g2⟩
          have HO := hid o2
          have HR2 := hid (HR1.out.below g2)
          have F2 := hid (F1.out.below g2)
          have hsz := F1.out.size
          clear kl o2 g2
          go_wp2_with fail
          go_ret2
          refine ⟨_, rfl, ?_, ⟨_, _, _, _, _, _, _, _, HR2.out⟩, F2.out⟩
          have hl : R.length = 512 := by have := HO.out.1; rw [cells_length] at this; omega
          rw [hl]
          exact own_mono HO.out hsz
        | succ m =>
          have em : (((m + 1 : Nat) : Int) - 1) = (m : Int) := by omega
          rw [em]
          have hx : I[m]? = some (I.getD m default) := by simp [List.getD, show m < I.length from by omega]
          obtain ⟨gp, hpa, hpp, hpm, d0, d1⟩ := HR1.out.cellI hx
          have HST := hid (dl_step I m (by omega))
          have hitx := (HR1.out.it _ (List.mem_of_getElem? hx)).2.1
          generalize I.getD m default = x at *
          have hmI : (m : Int) < (I.length : Int) := by omega
          have hm0 : ¬ (m : Int) < 0 := by omega
          rw [hpa] at c2
          by_cases hS : x.S = k
          · have e1 : ((x.S : Int) == (k : Int)) = true := by simp; omega
            have HRZ : Hid (R = x.Z) := by
              show _ = _
              rw [← HRR.out, HIP.out]
              exact (lat_some (S := s.S) (m := m) (z := ((m : Int), x)) (by omega) HST.out.symm HALL.out hS).2
            have kb := refBytes (some ⟨x.g, 0, none⟩) 512 x.c x.Z w1 hitx (by omega)
            rw [← HRZ.out] at kb
            clear hx hitx hpa em hS
            go_wp2_with fail
            refine kb.mono ?_
            rintro en w2 ⟨v2, rfl, o2, g2⟩
            have HO := hid o2
            have HR2 := hid (HR1.out.below g2)
            have F2 := hid (F1.out.below g2)
            have hsz := F1.out.size
            clear kb o2 g2
            go_wp2_with fail
            go_ret2
            refine ⟨_, rfl, ?_, ⟨_, _, _, _, _, _, _, _, HR2.out⟩, F2.out⟩
            have hl : R.length = 512 := by have := HO.out.1; rw [cells_length] at this; omega
            rw [hl]
            exact own_mono HO.out hsz
          · have e1 : ((x.S : Int) == (k : Int)) = false := by simp; omega
            have HAL2 : Hid (∀ y ∈ dl I m, y.2.S ≠ k) := fun y hy => by
              rw [HST.out] at hy
              rcases List.mem_append.1 hy with hy | hy
              · exact HALL.out y hy
              · rw [List.mem_singleton] at hy
                subst hy
                exact hS
            clear hx hitx hpa em hS
            go_wp2_with fail
            go_round
            case rel => exact ⟨m, by omega, rfl, HAL2.out⟩
            case measure => simp [intOf]
    · have tE : (E != 0) = true := by simpa using hE
      have E3 : rdB s (k : Int) = [] := by unfold rdB; rw [E1, if_neg hE]
      rw [E3]
      clear E1 E2 E3
      go_enter Try.func36, Try.ntmps36
      go_wp2_with fail
      refine km.mono ?_
      rintro en w1 ⟨rfl, R1, g1⟩
      have F1 := hid (Fr.of g1 HNE.out)
      have HR1 := hid R1
      clear km R1 g1
      go_wp2_with fail
      go_ret2
      exact ⟨_, rfl, World.ownsRow_nil _ _ _ _, ⟨_, _, _, _, _, _, _, _, HR1.out⟩, F1.out⟩
end Go.Proofs.Ythjfgdldclhbhaa
