import Derived.Test.YtmnmmkonkimjeaaGreatDoorCode6
import Derived.Test.YtmnmmkonkimjeaaGreatDoorGcmEx
namespace Go.Proofs.YtmnmmkonkimjeaaGreatDoor
open Go.RowKit
set_option linter.unusedVariables false
set_option maxRecDepth 100000

theorem num_ (x : Int) (w : World) : Calls Tryz.prog 8 #[.int .i64 x] w fun e w' => e = .returned (.int .i64 x) ∧ w' = w := by
  go_enter Tryz.func8, Tryz.ntmps8
  go_wp2
  go_ret
  exact ⟨rfl, rfl⟩
/-- n bytes, each y more than the one ahead. -/
def sp (x y n : Nat) : List Nat := (List.range n).map fun i => (x + i * y) % 256
theorem sp_lt (x y n : Nat) : ∀ z ∈ sp x y n, z < 256 := by
  intro z hz
  obtain ⟨i, _, rfl⟩ := List.mem_map.1 hz
  exact Nat.mod_lt _ (by omega)
theorem sp_more (x y j : Nat) : cells (ic (sp x y j)) ++ [.int .u8 (((x + j * y) % 256 : Nat) : Int)] = cells (ic (sp x y (j + 1))) := by
  unfold sp
  rw [List.range_succ, List.map_append, ic_append, cells_append]
  rfl
theorem sp_next (x y j : Nat) : (((x + j * y) % 256 : Nat) : Int) + (y : Int) = (((x + j * y) % 256 + y : Nat) : Int) := by omega
theorem sp_step (x y j : Nat) : ((x + j * y) % 256 + y) % 256 = (x + (j + 1) * y) % 256 := by
  rw [Nat.add_mul, Nat.one_mul, ← Nat.add_assoc]
  omega
set_option maxHeartbeats 400000 in
theorem steps_ (x y n : Nat) (w : World) (hx : x < 256) (hy : y < 256) (hn : n ≤ 1000000) :
    Calls Tryz.prog 15 #[.int .u8 x, .int .u8 y, .int .i64 n] w fun en w' => ∃ v, en = .returned v ∧ w'.ownsRow w.heap.size 5 1 v n (cells (ic (sp x y n))) ∧ Below w.heap.size w w' := by
  obtain ⟨i, hi, hz0, hz1, hz2⟩ := info_parts info5
  go_enter Tryz.func15, Tryz.ntmps15
  go_wp2
  go_loopw [7, 8, 9] (fun v q i wr => ∃ j : Nat, j ≤ n ∧ i = .int .i64 j ∧ q = .int .u8 (((x + j * y) % 256 : Nat) : Int) ∧ wr.ownsRow w.heap.size 5 1 v j (cells (ic (sp x y j))) ∧ Below w.heap.size w wr) (fun _ _ i _ => n - (intOf i).toNat)
  case atStart => exact ⟨0, by omega, rfl, by rw [Nat.zero_mul, Nat.add_zero, Nat.mod_eq_of_lt hx], World.ownsRow_nil _ _ _ _, Below.refl _ _⟩
  case round =>
    obtain ⟨j, hj, rfl, rfl, hown, hbl⟩ := hrel
    have hsz := hbl.size
    by_cases hlt : j < n
    · have HS := hid (sp_more x y j)
      have HX : Hid (((((x + j * y) % 256 : Nat) : Int) + (y : Int)) % 256 = (((x + (j + 1) * y) % 256 : Nat) : Int)) := by
        show _ = _
        rw [← sp_step]
        omega
      generalize (x + j * y) % 256 = q at *
      go_wp2_with (at_builtin; refine wpList_append_own _ rfl _ _ 22 rfl w.heap.size 5 i (.int .u8 0) 1 1 Tryz.underlying22 hi hz0 hz1 hz2 rfl (by decide) _ _ _ rfl (hown.alloc _) ⟨wr.heap.size, 0, none⟩ 1 1 [.int .u8 (q : Nat)] rfl rfl ?c1 ?c2 ?c3 ?c4 ?c5 ?_)
      case c1 =>
        intro j u hj
        match j, hj with
        | 0, hj => simp at hj; subst hj; simp [Addr.add]
      case c2 => intro u hu; simp at hu; subst hu; rfl
      case c3 => unfold maxLen; omega
      case c4 => omega
      case c5 => simp; omega
      intro v' w1 hown' hgrow _
      have hown2 : w1.ownsRow w.heap.size 5 1 v' (j + 1) (cells (ic (sp x y (j + 1)))) := by rw [← HS.out]; exact hown'
      have hbl2 : Below w.heap.size w w1 := (hbl.alloc (by omega) _).grown hgrow (by simp; omega) fun q hq => (hown.lt q hq).1
      clear hown' hgrow hown
      go_wp2_with fail
      go_roundw
      case rel => exact ⟨j + 1, by omega, by go_num, by rw [HX.out], hown2, hbl2⟩
      case measure => simp [intOf]; omega
    · obtain rfl : j = n := by omega
      go_wp2
      go_ret
      exact ⟨_, rfl, hown, hbl⟩
theorem sp_key : sp 3 7 32 = kyK := by decide
theorem sp_nonce : sp 200 255 12 = kyN := by decide
theorem ey_tl : tl (kf kyK) kyN [] [] = eyW := by
  have := ey_seal
  unfold sl at this
  exact this
theorem ey_lit : #[Value.int IntKind.u8 228, Value.int IntKind.u8 212, Value.int IntKind.u8 229, Value.int IntKind.u8 190, Value.int IntKind.u8 127, Value.int IntKind.u8 114, Value.int IntKind.u8 122, Value.int IntKind.u8 154, Value.int IntKind.u8 16, Value.int IntKind.u8 64, Value.int IntKind.u8 77, Value.int IntKind.u8 112, Value.int IntKind.u8 167, Value.int IntKind.u8 65, Value.int IntKind.u8 232, Value.int IntKind.u8 191] = (cells (ic eyW)).toArray := rfl
theorem ey_bytes : ∀ x ∈ eyW, x < 256 := by decide
theorem Bs.empty (w : World) : Bs w none 0 (ic []) := ⟨rfl, by simp [ic], .inl rfl⟩
set_option maxHeartbeats 1000000 in
theorem first_ (w : World) :
    Calls Tryz.prog 4 #[] w fun e w' => e = .returned (.bool true) ∧ Below w.heap.size w w' := by
  have k1 := fun w => steps_ 3 7 32 w (by omega) (by omega) (by omega)
  have k2 := fun w => steps_ 200 255 12 w (by omega) (by omega) (by omega)
  rw [sp_key] at k1
  rw [sp_nonce] at k2
  go_enter Tryz.func4, Tryz.ntmps4
  go_wp2_with fail
  refine (k1 _).mono ?_
  rintro e w1 ⟨v1, rfl, ho1, B0⟩
  obtain ⟨ka, kc, rfl, kb, _⟩ := own_form ho1 (ic_bytes ky_lt)
  clear ho1 k1
  go_wp2_with fail
  refine (k2 _).mono ?_
  rintro e w2 ⟨v2, rfl, ho2, g2⟩
  obtain ⟨na, nc, rfl, nb, _⟩ := own_form ho2 (ic_bytes kn_lt)
  have kb := kb.below g2
  have B0 := bel_bel B0 B0.size g2
  clear ho2 k2 g2
  go_wp2_with fail
  refine (seal_ ka na none none kc nc 0 0 0 0 kyK kyN [] [] w2 kb nb (Bs.empty _) (Bs.empty _) ky_lt kn_lt (by simp) (by simp) (by omega) (by omega) (by omega) (by unfold maxLen; omega) (by omega) (by unfold maxLen; omega)).mono ?_
  rintro e w3 ⟨sa, scap, rfl, sb, _, _, g2⟩
  rw [ey_seal] at sb
  have kb := kb.below g2
  have nb := nb.below g2
  have B0 := bel_bel B0 B0.size g2
  clear g2
  have wb : Bs (w3.alloc (.cells (cells (ic eyW)).toArray 5)) (some ⟨w3.heap.size, 0, none⟩) 16 (ic eyW) := Bs.new w3 (ic eyW) 5 (ic_bytes ey_bytes)
  have g3 : Below w3.heap.size w3 (w3.alloc (.cells (cells (ic eyW)).toArray 5)) := (Below.refl _ _).alloc (Nat.le_refl _) _
  have sb := sb.below g3
  have kb := kb.below g3
  have nb := nb.below g3
  have B0 := bel_bel B0 B0.size g3
  clear g3
  go_wp2_with fail
  rw [ey_lit]
  generalize w3.heap.size = gw at *
  generalize w3.alloc (.cells (cells (ic eyW)).toArray 5) = w4 at *
  refine (same_yes sa (some ⟨gw, 0, none⟩) 16 scap 16 16 (ic eyW) w4 sb wb (by omega) (by omega)).mono ?_
  rintro e w5 ⟨rfl, D⟩
  have kb := kb.drawn D
  have nb := nb.drawn D
  have wb := wb.drawn D
  have B0 := bel_bel B0 B0.size D.below
  clear D sb
  go_wp2_with fail
  refine (open_ ka na none (some ⟨gw, 0, none⟩) kc nc 0 0 0 16 kyK kyN [] eyW w5 kb nb (Bs.empty _) wb ky_lt kn_lt (by simp) ey_bytes (by omega) (by omega) (by omega) (by omega) (by unfold maxLen; omega) (by unfold maxLen; omega)).mono ?_
  rintro e w6 ⟨g2, h⟩
  have B0 := bel_bel B0 B0.size g2
  rcases h with ⟨_, oa, ocap, rfl, _, _, _⟩ | ⟨h, _⟩
  · clear g2 kb nb wb
    go_wp2_with fail
    refine (num_ 0 _).mono ?_
    rintro e w7 ⟨rfl, rfl⟩
    go_wp2_with fail
    go_ret
    exact ⟨rfl, B0⟩
  · exact absurd (by rw [List.drop_zero, List.take_zero, ey_tl]) h
end Go.Proofs.YtmnmmkonkimjeaaGreatDoor
