import Derived.Test.YtcbmgpmjnehjdaaGreatRP
import Derived.Test.YtcbmgpmjnehjdaaGreatSI
namespace Go.Proofs.YtcbmgpmjnehjdaaGreat
set_option maxRecDepth 100000
open Go.RowKit
set_option linter.unusedVariables false

set_option maxHeartbeats 2000000 in
/-- The landed validRising. -/
theorem validRising_ (pa : Option Addr) (n d : Nat) (ps : List Px) (w : World) (hp : Ps w pa n ps) (hn : n ≤ maxLen) (q : Bool) (hq : (q = true) ↔ Pg ps n) :
    Calls Tryz.prog 136 #[.slice pa n d] w fun e w' => e = .returned (.bool q) ∧ Below w.heap.size w w' := by
  unfold maxLen at hn
  have hl := hp.len
  have HP := hid hp
  have HG := hid hq
  clear hp hq
  go_enter Tryz.func136, Tryz.ntmps136
  go_wp2_with fail
  go_loopw [3, 4, 7] (fun _ _ i wr => ∃ j : Nat, j ≤ n ∧ i = .int .i64 j ∧ Hid (Pg ps j) ∧ Hid (Bw w wr)) (fun _ _ i _ => n - (intOf i).toNat)
  case atStart => exact ⟨0, by omega, rfl, fun i hi => absurd hi (Nat.not_lt_zero i), Below.refl _ _⟩
  case round =>
    obtain ⟨j, hj, rfl, HG0, HBr⟩ := hrel
    by_cases hlt : j < n
    · have hjI : (j : Int) < n := by omega
      obtain ⟨b, off, rfl, hc⟩ : ∃ b off, pa = some ⟨b, off, none⟩ ∧ ∀ i, i < n → Pc wr b (off + i * 4) (ps.getD i px0) := by
        rcases (HP.out.on HBr.out).at' with h0 | h1
        · omega
        · exact h1
      have c0 := (hc j hlt).c0
      have c1 := (hc j hlt).c1
      have c2 := (hc j hlt).c2
      have c3 := (hc j hlt).c3
      have okp : ∀ i, i < n → (ps.getD i px0).ok := fun i hi => by
        have e : ps.getD i px0 = ps[i]'(by omega) := by simp [List.getD, show i < ps.length by omega]
        rw [e]
        exact HP.out.ok _ (List.getElem_mem _)
      have hxo := okp j hlt
      obtain ⟨x, HX⟩ : ∃ x, Hid (ps.getD j px0 = x) := ⟨_, rfl⟩
      rw [HX.out] at c0 c1 c2 c3 hxo
      have HPC := hid hc
      have HXO := hid hxo
      clear hc hxo
      obtain ⟨xF, xH, xL, xB⟩ := x
      have kv := fun wx => pvalid_ xF xH xL xB wx HXO.out.F HXO.out.H HXO.out.L HXO.out.B
      obtain ⟨vx, Hvx⟩ : ∃ r, Hid (vp xF xH xL xB = r) := ⟨_, rfl⟩
      rw [Hvx.out] at kv
      simp only at c0 c1 c2 c3
      go_wp2_with fail
      clear c0 c1 c2 c3
      have B1 := pnew wr xF xH xL xB
      have m1 := Pm.new wr xF xH xL xB
      have HB1 := hid (Bw.on HBr.out B1)
      have HC1 : Hid (∀ i, i < n → Pc (wr.alloc (.cells #[.int .i64 xF, .int .u64 xH, .int .u64 xL, .int .i64 xB] 121)) b (off + i * 4) (ps.getD i px0)) := fun i hi => (HPC.out i hi).on B1
      have A0 := hid m1.c0
      have A1 := hid m1.c1
      have A2 := hid m1.c2
      have A3 := hid m1.c3
      obtain ⟨g, Hg⟩ : ∃ g, Hid (wr.heap.size = g) := ⟨_, rfl⟩
      rw [Hg.out] at A0 A1 A2 A3 ⊢
      clear B1 m1 HPC HBr
      generalize (wr.alloc (.cells #[.int .i64 xF, .int .u64 xH, .int .u64 xL, .int .i64 xB] 121)) = w1 at *
      cases vx
      · have HF : Hid (false = q) := by
          show _ = _
          cases q
          · rfl
          · exfalso
            have h := ((HG.out.1 rfl) j hlt).1
            rw [HX.out, Hvx.out] at h
            cases h
        refine wp_quietC (Bw w1) (by kernel_rfl) (by kernel_rfl) (Bw.drew w1) ?_
        repeat (first | go_big_quiet_skip | (go_big_quiet_want; go_big_quiet_op; first | go_big_quiet_on | (apply Exists.intro; refine ⟨fun wq hq => ?_, ?_⟩; (· first | (with_reducible rfl) | (go_at_call 135; exact (kv _).mono fun _ _ h => ⟨h.1, hq.on h.2⟩) | (have q1 := hq.cell A0.out; have q2 := hq.cell A1.out; have q3 := hq.cell A2.out; have q4 := hq.cell A3.out; go_simp; rfl) | rfl); go_big_quiet_on)))
        refine wpQuiet_nil ?_
        intro w3 s3
        have HB3 := hid (Bw.on HB1.out s3)
        clear s3
        go_wp2_with fail
        go_ret
        exact ⟨ret_bool HF.out, HB3.out⟩
      · have HPJ : Hid (∀ (h : 0 < j → cp (ps.getD (j - 1) px0).F (ps.getD (j - 1) px0).H (ps.getD (j - 1) px0).L (ps.getD (j - 1) px0).B xF xH xL xB < 0), Pg ps (j + 1)) := fun h i hi => by
          by_cases hij : i = j
          · subst hij
            rw [HX.out]
            exact ⟨Hvx.out, h⟩
          · exact HG0.out i (by omega)
        by_cases hj0 : j = 0
        · have HP1 := hid (HPJ.out (fun h => absurd h (by omega)))
          subst hj0
          clear HPJ
          refine wp_quietC (Bw w1) (by kernel_rfl) (by kernel_rfl) (Bw.drew w1) ?_
          repeat (first | go_big_quiet_skip | (go_big_quiet_want; go_big_quiet_op; first | go_big_quiet_on | (apply Exists.intro; refine ⟨fun wq hq => ?_, ?_⟩; (· first | (with_reducible rfl) | (go_at_call 135; exact (kv _).mono fun _ _ h => ⟨h.1, hq.on h.2⟩) | (have q1 := hq.cell A0.out; have q2 := hq.cell A1.out; have q3 := hq.cell A2.out; have q4 := hq.cell A3.out; go_simp; rfl) | rfl); go_big_quiet_on)))
          refine wpQuiet_nil ?_
          intro w3 s3
          have HB3 := hid (Bw.on HB1.out s3)
          clear s3
          go_wp2_with fail
          go_roundw
          case rel => exact ⟨0 + 1, by omega, by go_num, HP1, HB3⟩
          case measure => simp [intOf]; omega
        · obtain ⟨i, rfl⟩ : ∃ i, j = i + 1 := ⟨j - 1, by omega⟩
          have hlt' : i < n := by omega
          have hyo := okp i hlt'
          obtain ⟨y, HYx⟩ : ∃ y, Hid (ps.getD i px0 = y) := ⟨_, rfl⟩
          rw [HYx.out] at hyo
          have B0 := hid (HC1.out i hlt').c0
          have B1 := hid (HC1.out i hlt').c1
          have B2 := hid (HC1.out i hlt').c2
          have B3 := hid (HC1.out i hlt').c3
          rw [HYx.out] at B0 B1 B2 B3
          obtain ⟨yF, yH, yL, yB⟩ := y
          have kc := fun wx => compare_ yF yH yL yB xF xH xL xB wx hyo.F hyo.H hyo.L hyo.B HXO.out.F HXO.out.H HXO.out.L HXO.out.B
          obtain ⟨r, Hr⟩ : ∃ r, Hid (cp yF yH yL yB xF xH xL xB = r) := ⟨_, rfl⟩
          rw [Hr.out] at kc
          have hi0 : (0 : Int) ≤ (i : Int) := by omega
          have hwi : IntKind.i64.wrap (i : Int) = (i : Int) := by simp [IntKind.wrap, IntKind.bits, IntKind.signed]; omega
          have hiI : (i : Int) < n := by omega
          have hgt : ((i + 1 : Nat) : Int) > 0 := by omega
          clear hyo
          refine wp_quietC (Bw w1) (by kernel_rfl) (by kernel_rfl) (Bw.drew w1) ?_
          repeat (first | go_big_quiet_skip | (go_big_quiet_want; go_big_quiet_op; first | go_big_quiet_on | (apply Exists.intro; refine ⟨fun wq hq => ?_, ?_⟩; (· first | (with_reducible rfl) | (go_at_call 135; exact (kv _).mono fun _ _ h => ⟨h.1, hq.on h.2⟩) | (go_at_call 165; exact (kc _).mono fun _ _ h => ⟨h.1, hq.on h.2⟩) | (have q1 := hq.cell A0.out; have q2 := hq.cell A1.out; have q3 := hq.cell A2.out; have q4 := hq.cell A3.out; have q5 := hq.cell B0.out; have q6 := hq.cell B1.out; have q7 := hq.cell B2.out; have q8 := hq.cell B3.out; go_simp; rfl) | rfl); go_big_quiet_on)))
          refine wpQuiet_nil ?_
          intro w3 s3
          have HB3 := hid (Bw.on HB1.out s3)
          clear s3
          by_cases hr : 0 ≤ r
          · have HF : Hid (false = q) := by
              show _ = _
              cases q
              · rfl
              · exfalso
                have h := ((HG.out.1 rfl) (i + 1) hlt).2 (by omega)
                rw [HX.out, show i + 1 - 1 = i from rfl, HYx.out, Hr.out] at h
                omega
            go_wp2_with fail
            go_ret
            exact ⟨ret_bool HF.out, HB3.out⟩
          · have HP1 := hid (HPJ.out (fun _ => by rw [show i + 1 - 1 = i from rfl, HYx.out, Hr.out]; omega))
            go_wp2_with fail
            go_roundw
            case rel => exact ⟨i + 1 + 1, by omega, by go_num, HP1, HB3⟩
            case measure => simp [intOf]; omega
    · have hjI : ¬ (j : Int) < n := by omega
      obtain rfl : j = n := by omega
      have HT : Hid (true = q) := (HG.out.2 HG0.out).symm
      go_wp2_with fail
      go_ret
      exact ⟨ret_bool HT.out, HBr.out⟩
end Go.Proofs.YtcbmgpmjnehjdaaGreat
