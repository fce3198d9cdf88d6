import Derived.Test.YtejnknkehigkdaaCode
namespace Go.Proofs.Ytejnknkehigkdaa
open Go.RowKit
set_option linter.unusedVariables false

theorem num_ (x : Int) (w : World) : Calls Try.prog 15 #[.int .i64 x] w fun e w' => e = .returned (.int .i64 x) ∧ w' = w := by
  go_enter Try.func15, Try.ntmps15
  go_wp2
  go_ret
  exact ⟨rfl, rfl⟩
theorem cells_rep (k : Nat) : cells (List.replicate k 99) ++ [.int .u8 99] = cells (List.replicate (k + 1) 99) := by
  rw [List.replicate_succ', cells_append]; rfl
theorem ex_eq (w : World) : (Op.equalIn 10000 36 (.agg (av (bl (kf (List.replicate 32 99)) (fun i => 17 * i) 14))) (.agg #[Value.int IntKind.u8 145, Value.int IntKind.u8 164, Value.int IntKind.u8 84, Value.int IntKind.u8 235, Value.int IntKind.u8 105, Value.int IntKind.u8 134, Value.int IntKind.u8 214, Value.int IntKind.u8 71, Value.int IntKind.u8 20, Value.int IntKind.u8 56, Value.int IntKind.u8 129, Value.int IntKind.u8 247, Value.int IntKind.u8 44, Value.int IntKind.u8 186, Value.int IntKind.u8 31, Value.int IntKind.u8 102])).run Try.prog w = .ok true w := by
  rw [show #[Value.int IntKind.u8 145, Value.int IntKind.u8 164, Value.int IntKind.u8 84, Value.int IntKind.u8 235, Value.int IntKind.u8 105, Value.int IntKind.u8 134, Value.int IntKind.u8 214, Value.int IntKind.u8 71, Value.int IntKind.u8 20, Value.int IntKind.u8 56, Value.int IntKind.u8 129, Value.int IntKind.u8 247, Value.int IntKind.u8 44, Value.int IntKind.u8 186, Value.int IntKind.u8 31, Value.int IntKind.u8 102] = av (fun i => (exV.getD 14 []).getD i 0) from by kernel_rfl]
  exact run_eqyes (ex_bl 14 (Nat.le_refl _)) w
theorem ex_box : sbx 60 = 235 := by decide +kernel

set_option maxRecDepth 100000 in
set_option maxHeartbeats 2000000 in
theorem first_ (w : World) :
    Calls Try.prog 11 #[] w fun e w' => e = .returned (.bool true) ∧ Below w.heap.size w w' := by
  obtain ⟨i, hi, hz0, hz1, hz2⟩ := info_parts info5
  have ks := fun w => sbox_ 60 w (by omega)
  rw [ex_box] at ks
  go_enter Try.func11, Try.ntmps11
  go_wp2_with fail
  go_loopw [1, 2] (fun v i wr => ∃ k : Nat, k ≤ 32 ∧ i = .int .i64 k ∧ wr.ownsRow w.heap.size 5 1 v k (cells (List.replicate k 99)) ∧ Below w.heap.size w wr) (fun _ i _ => 32 - (intOf i).toNat)
  case atStart => exact ⟨0, by omega, rfl, World.ownsRow_nil _ _ _ _, Below.refl _ _⟩
  case round =>
    obtain ⟨k, hk, rfl, hown, hbl⟩ := hrel
    have hsz := hbl.size
    by_cases hlt : k < 32
    · have HS := hid (cells_rep k)
      go_wp2_with (at_builtin; refine wpList_append_own _ rfl _ _ 25 rfl w.heap.size 5 i (.int .u8 0) 1 1 Try.underlying25 hi hz0 hz1 hz2 rfl (by decide) _ _ _ rfl (hown.alloc _) ⟨wr.heap.size, 0, none⟩ 1 1 [.int .u8 99] rfl rfl ?c1 ?c2 ?c3 ?c4 ?c5 ?_)
      case c1 =>
        intro j u hj
        match j, hj with
        | 0, hj => simp at hj; subst hj; simp [Addr.add]
      case c2 => intro u hu; simp at hu; subst hu; rfl
      case c3 => unfold maxLen; omega
      case c4 => omega
      case c5 => simp; omega
      intro v' w1 hown' hgrow _
      have hown2 : w1.ownsRow w.heap.size 5 1 v' (k + 1) (cells (List.replicate (k + 1) 99)) := by rw [← HS.out]; exact hown'
      have hbl2 : Below w.heap.size w w1 := (hbl.alloc (by omega) _).grown hgrow (by simp; omega) fun q hq => (hown.lt q hq).1
      clear hown' hgrow hown
      go_wp2
      go_roundw
      case rel => exact ⟨k + 1, by omega, by go_num, hown2, hbl2⟩
      case measure => simp [intOf]; omega
    · have hk32 : k = 32 := by omega
      rw [hk32] at hown
      have hge : ¬ (k : Int) < 32 := by omega
      clear hk32 hlt hk
      obtain ⟨ka, kc, rfl, kb, _⟩ := own_form hown (by intro z hz; rw [List.eq_of_mem_replicate hz]; omega)
      obtain ⟨wq, rfl⟩ : ∃ wq, wq = wr := ⟨_, rfl⟩
      have A0 := Ar.new wq (av fun _ => 0)
      have B0 := (Below.refl wq.heap.size wq).alloc (Nat.le_refl _) (.cells (av fun _ => 0) 36)
      clear hown
      go_wp2_with fail
      rw [zeros16a]
      generalize wq.alloc (.cells (av fun _ => 0) 36) = w0 at *
      go_loopw [4] (fun i wr => ∃ j : Nat, j ≤ 16 ∧ i = .int .i64 j ∧ Ar wr wq.heap.size (av (mix j (fun i => 17 * i) fun _ => 0)) ∧ Below wq.heap.size wq wr) (fun i _ => 16 - (intOf i).toNat)
      case atStart => exact ⟨0, by omega, rfl, by rw [mix_zero]; exact A0, B0⟩
      case round =>
        obtain ⟨j, hj, rfl, a0, b0⟩ := hrel
        clear A0 B0
        by_cases hlt : j < 16
        · have c0 := a0.byte j hlt
          have f0 := a0.fz j
          have HS := hid (mix_set j (fun i => 17 * i) fun _ => 0)
          have A3 := a0.set j (.int .u8 ((17 * j : Nat) : Int))
          rw [HS.out] at A3
          have B3 : Below wq.heap.size wq (wr.setCell ⟨wq.heap.size, j, none⟩ (.int .u8 ((17 * j : Nat) : Int))) := b0.setCell (Nat.le_refl _) _
          have HJ : Hid (((17 * j : Nat) : Int) = 17 * (j : Int)) := by show _ = _; omega
          rw [HJ.out] at A3 B3
          clear a0 b0 HS
          generalize mix j (fun i => 17 * i) (fun _ => 0) j = o at *
          go_wp2_with fail
          go_roundw
          case rel => exact ⟨j + 1, by omega, by go_num, A3, B3⟩
          case measure => simp [intOf]; omega
        · have hj16 : j = 16 := by omega
          rw [hj16, mix_all] at a0
          have hge2 : ¬ (j : Int) < 16 := by omega
          clear hj16 hlt hj
          have kb := kb.below b0
          have BB := bel_bel hbl hsz b0
          have SS := BB.size
          clear hbl hsz b0
          obtain ⟨w1, rfl⟩ : ∃ w1, w1 = wr := ⟨_, rfl⟩
          go_wp2_with fail
          refine (new_ ka 32 kc _ _ kb rfl).mono ?_
          rintro e w2 ⟨gc, rfl, _, cc, g⟩
          rw [show (List.replicate 32 (99 : Int)).map Int.toNat = List.replicate 32 99 from by decide] at cc
          have a0 := a0.kept g
          have BB := bel_bel BB SS g
          have SS := BB.size
          have HK : Hid (∀ j, kf (List.replicate 32 99) j < 256) := kf_lt (by decide)
          have HF : Hid (∀ i, i < 16 → (fun i => 17 * i) i < 256) := fun i hi => by show 17 * i < 256; omega
          have kblk := fun w h => block_ gc (kf (List.replicate 32 99)) (fun i => 17 * i) w h HK.out HF.out
          have q1 := ex_eq
          generalize bl (kf (List.replicate 32 99)) (fun i => 17 * i) 14 = fb at *
          clear kb g
          go_wp2_with fail
          refine (num_ 0 _).mono ?_
          rintro e w3 ⟨rfl, rfl⟩
          go_wp2_with (refine wpList_lda rfl _ rfl _ rfl _ (by exact a0) ?_)
          refine (kblk _ cc).mono ?_
          rintro e w4 ⟨rfl, g⟩
          have BB := bel_bel BB SS g
          have SS := BB.size
          have BB := BB.alloc SS (.cells (av fb) 36)
          have A4 := Ar.new w4 (av fb)
          clear g kblk a0 SS cc
          go_wp2_with (refine wpList_stna rfl rfl _ _ rfl _ _ _ rfl rfl rfl (by rfl) ?_)
          generalize hg4 : w4.heap.size = g4 at *
          clear hg4
          generalize w4.alloc (.cells (av fb) 36) = w5 at *
          have SS := BB.size
          refine (ks _).mono ?_
          rintro e w6 ⟨rfl, g⟩
          have BB := bel_bel BB SS g
          have A4 := A4.kept g
          clear g ks SS
          have Q1 := hid q1
          clear q1
          go_wp2_with (first | (refine wpList_ldga rfl _ rfl _ rfl _ (by exact A4) ?_) | (refine wpList_eqa rfl _ _ _ rfl _ _ rfl rfl true Q1.out ?_))
          go_ret
          exact ⟨rfl, BB⟩
end Go.Proofs.Ytejnknkehigkdaa
