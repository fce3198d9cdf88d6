import Derived.Test.YtheafbbihejdmabMF
namespace Go.Proofs.Ytheafbbihejdmab
set_option maxRecDepth 100000
open Go.RowKit Go.Shelf
set_option linter.unusedVariables false

/-- Nothing but a Claim counts claims. -/
theorem fol_k (x : Ov) (s : St) (hx : x.K ≠ 11) : (x.fol s).k = s.k := by
  unfold Ov.fol folS
  have o3 := opS_k s
  split
  · unfold rdS
    split
    · exact o3
    · rfl
  split
  · unfold wrS
    split
    · split
      · exact o3
      · exact o3
    · rfl
  split
  · unfold flS
    split
    · exact o3
    · exact o3
  split
  · unfold arS
    split
    · rfl
    · rfl
  split
  · unfold crS
    rfl
  rfl
set_option maxHeartbeats 8000000 in
theorem diskClaims_ (a : Option Addr) (n c : Nat) (O : Nat → Ov) (w : World) (hO : IsOps w a n O) (hn : n ≤ 140737488355328) :
    Calls Try.prog 3 #[.slice a n c] w fun e w' => e = .returned (.bool true) ∧ Below w.heap.size w w' := by
  have HO := hid hO
  clear hO
  go_enter Try.func3, Try.ntmps3
  go_wp2_with fail
  refine (first_ w).mono ?_
  rintro e w1 ⟨rfl, B1⟩
  go_wp2_with fail
  refine (new_ 32 w1 (by decide) (by decide)).mono ?_
  rintro e w2 ⟨d, rfl, D2, g2⟩
  have B2 := bel_bel B1 B1.size g2
  have S0 := hid (sy_new (w0 := w) D2 (fun b hb => Nat.le_trans B1.size hb.1) B2)
  generalize (fun b => w1.heap.size ≤ b ∧ b < w2.heap.size) = Q0 at *
  clear B1 g2 D2 B2
  go_wp2_with (refine wpList_mz rfl rfl ?_)
  go_loopw [6, 7] (fun hd i wr => ∃ (j : Nat) (s : St) (Q : Nat → Prop), j ≤ n ∧ j ≤ 300 ∧ hd = .int .i64 s.k ∧ i = .int .i64 j ∧ Sy w wr d s Q w2.heap.size ∧ s.c ≤ j ∧ s.P.length ≤ j ∧ s.k ≤ j) (fun _ i _ => n - (intOf i).toNat)
  case atStart => exact ⟨0, _, _, Nat.zero_le _, Nat.zero_le _, rfl, rfl, S0.out, Nat.le_refl _, Nat.le_refl _, Nat.le_refl _⟩
  case round =>
    clear S0
    obtain ⟨j, s, Q, hj, hj3, rfl, rfl, hs, hc, hp, hk⟩ := hrel
    generalize w2.heap.size = g at *
    by_cases hlt : j < n ∧ j < 300
    · have hjI : (j : Int) < (n : Int) := by omega
      have hjI3 : (j : Int) < 300 := by omega
      obtain ⟨b, off, rfl, c0, c1, c2, c3, c4, c5⟩ := HO.out.cells hlt.1 hs.bel
      by_cases hK : (O j).K = 11
      · have kc := claimD hs.dev (by omega)
        have HS := hid hs
        rw [hK] at c0
        obtain ⟨k, HK⟩ : ∃ k, Hid (s.k = k) := ⟨_, rfl⟩
        have kc' := kc
        rw [HK.out] at kc' hk
        rw [HK.out]
        clear hs kc c1 c2 c3 c4 c5 hlt
        go_wp2_with fail
        refine kc'.mono ?_
        rintro e w3 ⟨rfl, D3, F3⟩
        have S3 := hid (HS.out.step0 D3 F3 rfl rfl rfl)
        clear kc' c0 D3 F3
        have ht : (((k + 1 : Nat) : Int) != (k : Int) + 1) = false := by simp
        go_wp2_with fail
        go_roundw
        case rel => exact ⟨j + 1, _, Q, by omega, by omega, by go_num, by go_num, S3.out, by show s.c ≤ _; omega, by show s.P.length ≤ _; omega, by show k + 1 ≤ _; omega⟩
        case measure => simp [intOf]; omega
      · have kf := follows_ w wr d g s Q (O j) hs (HO.out.ok hlt.1) (by omega) (by omega) (by omega)
        have hle := fol_le (O j) s
        have hkk := fol_k (O j) s hK
        have hKb : ((O j).K == 11) = false := by simpa using hK
        obtain ⟨s', HS'⟩ : ∃ s', Hid ((O j).fol s = s') := ⟨_, rfl⟩
        rw [HS'.out] at kf hle hkk
        generalize (O j).K = oK at *
        generalize (O j).I = oI at *
        generalize (O j).sc = osc at *
        generalize (O j).Da = oDa at *
        generalize (O j).Dn = oDn at *
        generalize (O j).Dc = oDc at *
        generalize (O j).Fa = oFa at *
        generalize (O j).Fn = oFn at *
        generalize (O j).Fc = oFc at *
        generalize (O j).Ka = oKa at *
        generalize (O j).Kn = oKn at *
        generalize (O j).Kc = oKc at *
        clear hs hlt
        go_wp2_with fail
        refine kf.mono ?_
        rintro e w3 ⟨rfl, Q3, S3⟩
        have HS3 := hid S3
        have kd := claimedD S3.dev
        clear kf c0 c1 c2 c3 c4 c5 S3
        rw [hkk] at kd
        go_wp2_with fail
        refine kd.mono ?_
        rintro e w4 ⟨rfl, rfl⟩
        have ht : ((s.k : Int) != (s.k : Int)) = false := by simp
        go_wp2_with fail
        go_roundw
        case rel => exact ⟨j + 1, s', Q3, by omega, by omega, by rw [hkk], by go_num, HS3.out, by omega, by omega, by omega⟩
        case measure => simp [intOf]; omega
    · have kd := claimedD hs.dev
      have HS := hid hs
      clear hs
      have hjj : ¬ (j : Int) < (n : Int) ∨ ((j : Int) < (n : Int) ∧ ¬ (j : Int) < 300) := by omega
      clear hlt
      have ht : ((s.k : Int) == (s.k : Int)) = true := by simp
      rcases hjj with hjI | ⟨hjI, hjI3⟩
      all_goals
        go_wp2_with fail
        refine kd.mono ?_
        rintro e w4 ⟨rfl, rfl⟩
        go_wp2_with fail
        go_ret
        exact ⟨by simp, HS.out.bel⟩
end Go.Proofs.Ytheafbbihejdmab
