import Derived.Test.YtlepbncaicpmjaaWK
namespace Go.Proofs.Ytlepbncaicpmjaa
set_option maxRecDepth 100000
open Go.RowKit Go.Maps
set_option linter.unusedVariables false

set_option maxHeartbeats 2000000 in
/-- The law's in. -/
theorem in15_ (V : Nat → Prop) (a ka va : Option Addr) (n c kn kc vn vc : Nat) (L : Tab) (k v : List Int) (w : World) (hl : Rwl w V a n L) (hk : Bs w ka kn k) (hv : Bs w va vn v) (hn : n ≤ 1000000) (h1 : kn ≤ maxLen) (h2 : vn ≤ maxLen) :
    Calls Try.prog 10 #[.slice a n c, .agg #[.slice ka kn kc, .slice va vn vc]] w fun e w' => e = .returned (.bool (L.any fun p => sameB p.1 k && sameB p.2 v)) ∧ Below w.heap.size w w' := by
  have hlen := hl.len
  have HL := hid hl
  have HK := hid hk
  have HV := hid hv
  clear hl hk hv
  have m1 := heap_alloc_new w (.cells #[.slice ka kn kc, .slice va vn vc] 38)
  have R0 := hid (two_cell m1).1
  have R1 := hid (two_cell m1).2
  have HBW : Hid (Bw w (w.alloc (.cells #[.slice ka kn kc, .slice va vn vc] 38))) := bel_al w _
  clear m1
  obtain ⟨W1, HW1⟩ : ∃ y, Hid (w.alloc (.cells #[.slice ka kn kc, .slice va vn vc] 38) = y) := ⟨_, rfl⟩
  obtain ⟨g, Hg⟩ : ∃ y, Hid (w.heap.size = y) := ⟨_, rfl⟩
  rw [HW1.out, Hg.out] at R0 R1
  rw [HW1.out] at HBW
  go_enter Try.func10, Try.ntmps10
  go_wp2_with fail
  rw [HW1.out, Hg.out]
  go_loopw [5] (fun i wr => ∃ j : Nat, j ≤ n ∧ i = .int .i64 j ∧ Hid (Bw W1 wr) ∧ Hid ((L.take j).any (fun p => sameB p.1 k && sameB p.2 v) = false)) (fun i _ => n - (intOf i).toNat)
  case atStart => exact ⟨0, by omega, rfl, Below.refl _ _, rfl⟩
  case round =>
    obtain ⟨j, hj, rfl, HB, HA⟩ := hrel
    have HBr : Hid (Bw w wr) := HBW.out.to4 HB.out (Below.size HBW.out)
    by_cases hlt : j < n
    · have hjI : (j : Int) < n := by omega
      obtain ⟨b, off, rfl, hc⟩ : ∃ b off, a = some ⟨b, off, none⟩ ∧ ∀ i, i < n → RowAt wr V b (off + i * 2) (L.getD i ([], [])) := by
        rcases (HL.out.below HBr.out).cells with h0 | ⟨b, off, e, -, h⟩
        · omega
        · exact ⟨b, off, e, h⟩
      have HT : Hid (L.take (j + 1) = L.take j ++ [L.getD j ([], [])]) := by
        have h : j < L.length := by omega
        have e : L.getD j ([], []) = L[j] := by simp [List.getD, h]
        show _ = _
        rw [e]
        exact List.take_succ_eq_append_getElem h
      have HI : Hid (L.getD j ([], []) ∈ L) := by
        have h : j < L.length := by omega
        have e : L.getD j ([], []) = L[j] := by simp [List.getD, h]
        show _ ∈ _
        rw [e]
        exact List.getElem_mem h
      obtain ⟨x, HX⟩ : ∃ x, Hid (L.getD j ([], []) = x) := ⟨_, rfl⟩
      have hx := hc j hlt
      rw [HX.out] at hx HT HI
      obtain ⟨xk, xv⟩ := x
      obtain ⟨qa, qc, ra, rc, c0, c1, vk, vv⟩ := hx
      simp only at c0 c1 vk vv
      have ks := fun wx (hq : Bw wr wx) => sameRow_ qa ra ka va xk.length qc xv.length rc kn kc vn vc xk xv k v wx (vk.bs.below hq) (vv.bs.below hq) (HK.out.below (HBr.out.on hq)) (HV.out.below (HBr.out.on hq)) (Nat.le_trans vk.nc vk.cm) (Nat.le_trans vv.nc vv.cm) h1 h2
      obtain ⟨q, hq⟩ : ∃ q, (sameB xk k && sameB xv v) = q := ⟨_, rfl⟩
      rw [hq] at ks
      have HQ := hid hq
      obtain ⟨xl, Hxl⟩ : ∃ z : Nat, Hid (xk.length = z) := ⟨_, rfl⟩
      obtain ⟨yl, Hyl⟩ : ∃ z : Nat, Hid (xv.length = z) := ⟨_, rfl⟩
      rw [Hxl.out] at c0 ks
      rw [Hyl.out] at c1 ks
      have A0 := hid c0
      have A1 := hid c1
      have B0 := hid (Bw.cell HB.out R0.out)
      have B1 := hid (Bw.cell HB.out R1.out)
      clear hc c0 c1 vk vv hq
      go_wp2_with fail
      refine wp_quietC (Bw wr) (by kernel_rfl) (by kernel_rfl) (Bw.drew wr) ?_
      repeat (first | go_big_quiet_skip | (go_big_quiet_want; go_big_quiet_op; first | go_big_quiet_on | (apply Exists.intro; refine ⟨fun wq hq => ?_, ?_⟩; (· first | (with_reducible rfl) | (go_at_call 12; exact (ks _ hq).mono fun _ _ h => ⟨h.1, hq.on h.2⟩) | (have q1 := hq.cell A0.out; have q2 := hq.cell A1.out; have q5 := hq.cell B0.out; have q6 := hq.cell B1.out; go_simp; rfl) | rfl); go_big_quiet_on)))
      refine wpQuiet_nil ?_
      intro w3 s3
      have HB3 := hid (Bw.on HB.out s3)
      clear s3 ks
      cases q with
      | true =>
        go_wp2_with fail
        go_ret
        refine ⟨?_, HBW.out.to4 HB3.out (Below.size HBW.out)⟩
        have h : (L.any fun p => sameB p.1 k && sameB p.2 v) = true := List.any_eq_true.2 ⟨_, HI.out, HQ.out⟩
        rw [h]
        rfl
      | false =>
        go_wp2_with fail
        go_roundw
        case rel => exact ⟨j + 1, by omega, by go_num, HB3, by show _ = _; rw [HT.out, List.any_append, HA.out]; simp only [List.any_cons, List.any_nil, Bool.or_false, Bool.false_or]; exact HQ.out⟩
        case measure => simp [intOf]; omega
    · have hjI : ¬ (j : Int) < n := by omega
      obtain rfl : j = n := by omega
      rw [List.take_of_length_le (by omega)] at HA
      go_wp2_with fail
      go_ret
      refine ⟨?_, HBr.out⟩
      rw [HA.out]
      rfl
end Go.Proofs.Ytlepbncaicpmjaa
