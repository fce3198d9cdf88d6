import Derived.Test.YtkeogggeefnoeaaGreatDoorBVal
import Derived.Test.YtkeogggeefnoeaaGreatDoorBWid
import Derived.Test.YtkeogggeefnoeaaGreatDoorPA
namespace Go.Proofs.YtkeogggeefnoeaaGreatDoor
set_option linter.unusedSimpArgs false
set_option maxRecDepth 100000
open Go.RowKit
set_option linter.unusedVariables false

theorem valLt8 {zs : List Int} (hW : 1 ≤ zs.length) (hb : ∀ z ∈ zs.take 1, 0 ≤ z ∧ z ≤ 255) : 0 ≤ val (zs.take 1) ∧ val (zs.take 1) < 256 := val_w hW hb

set_option maxHeartbeats 400000 in
theorem get8_whole (r g : Nat) (zs : List Int) (p : Int) (w : World) (h : Rd w r g zs p) (hm : 1 ≤ zs.length) (hn : zs.length ≤ 1000000000) (hp : 0 ≤ p) (hp1 : p ≤ 1000000000) :
    Calls Tryz.prog 165 #[.pointer (some ⟨r, 0, none⟩)] w fun en w' => en = .returned (.int .u8 (val (zs.take 1))) ∧ Rd w' r g (zs.drop 1) (p + 1) ∧ Only r w w' := by
  go_enter Tryz.func165, Tryz.ntmps165
  go_wp2_with (first
    | (go_at_call 174; refine (width8 _).mono ?_; rintro e w' ⟨rfl, hw⟩; obtain rfl := hw.symm; clear hw)
    | (go_at_call 173; refine (take_whole r g 1 zs p _ h hm hn hp hp1).mono ?_; rintro e w1 ⟨a, rfl, h1, h2, h3⟩))
  have H2 := hid h2
  clear h2
  obtain ⟨e1, e2, e3⟩ := h1.bs
  clear h1
  go_loop [3, 5, 10] (fun x _ i => ∃ k : Nat, k ≤ 1 ∧ x = .int .u64 (vk zs 1 k) ∧ i = .int .i64 k) (fun _ _ i => 1 - (intOf i).toNat)
  case atStart => exact ⟨0, by omega, by rw [vk_zero], rfl⟩
  case round =>
    obtain ⟨k, hk, rfl, rfl⟩ := hrel
    by_cases hlt : k < 1
    · rcases e3 with e3 | ⟨b, off, rfl, hc⟩
      · omega
      have hck := hc k hlt
      have hzb := getD_byte (zs.take 1) k (by omega) e2
      have hst := hid (vk_step zs 1 k (by omega))
      have hv := vk_small zs 1 k (by omega) (by omega) e2
      clear hc e1 e2
      generalize (zs.take 1).getD k 0 = z at *
      have hor := or8 (vk zs 1 k) z hv.1 hv.2 hzb.1 hzb.2
      obtain ⟨z0, z1⟩ := hzb
      obtain ⟨v0, v1⟩ := hv
      go_wp2
      go_round
      case rel => exact ⟨k + 1, by omega, by rw [hst.out], by go_num⟩
      case measure => simp [intOf]; omega
    · obtain rfl : k = 1 := by omega
      have hval := valLt8 hm e2
      rw [vk_all zs 1 hm]
      generalize hgv : val (zs.take 1) = v at *
      have HV := hid hgv
      clear hgv
      obtain ⟨v0, v1⟩ := hval
      clear e1 e2 e3
      go_wp2
      go_ret
      exact ⟨congrArg (fun q => Ending.returned (.int .u8 q)) HV.out.symm, (by first | exact H2.out | simpa using H2.out), h3⟩

set_option maxHeartbeats 400000 in
theorem get8_short (r g : Nat) (zs : List Int) (p : Int) (w : World) (h : Rd w r g zs p) (hm : zs.length < 1) :
    Calls Tryz.prog 165 #[.pointer (some ⟨r, 0, none⟩)] w fun en w' => en = .returned (.int .u8 0) ∧ Rb w' r p 10 ∧ Only r w w' := by
  have hB : Brk 1 zs.length 10 := .inr ⟨by omega, by omega, rfl⟩
  go_enter Tryz.func165, Tryz.ntmps165
  go_wp2_with (first
    | (go_at_call 174; refine (width8 _).mono ?_; rintro e w' ⟨rfl, hw⟩; obtain rfl := hw.symm; clear hw)
    | (go_at_call 173; refine (take_breaks r g 1 10 zs p _ h hB).mono ?_; rintro e w1 ⟨rfl, h1, h2⟩))
  go_loop [3, 5, 10] (fun x _ i => x = .int .u64 0 ∧ i = .int .i64 0) (fun _ _ i => 0)
  case atStart => exact ⟨rfl, rfl⟩
  case round =>
    obtain ⟨rfl, rfl⟩ := hrel
    go_wp2
    go_ret
    exact ⟨rfl, h1, h2⟩

set_option maxHeartbeats 400000 in
theorem get8_broken (r : Nat) (p e : Int) (w : World) (h : Rb w r p e) :
    Calls Tryz.prog 165 #[.pointer (some ⟨r, 0, none⟩)] w fun en w' => en = .returned (.int .u8 0) ∧ w' = w := by
  go_enter Tryz.func165, Tryz.ntmps165
  go_wp2_with (first
    | (go_at_call 174; refine (width8 _).mono ?_; rintro e w' ⟨rfl, hw⟩; obtain rfl := hw.symm; clear hw)
    | (go_at_call 173; refine (take_broken r 0 0 none p e 1 _ h.1 h.2).mono ?_; rintro e w1 ⟨rfl, hw⟩; obtain rfl := hw.symm; clear hw))
  go_loop [3, 5, 10] (fun x _ i => x = .int .u64 0 ∧ i = .int .i64 0) (fun _ _ i => 0)
  case atStart => exact ⟨rfl, rfl⟩
  case round =>
    obtain ⟨rfl, rfl⟩ := hrel
    go_wp2
    go_ret
    exact ⟨rfl, rfl⟩

theorem valLt16 {zs : List Int} (hW : 2 ≤ zs.length) (hb : ∀ z ∈ zs.take 2, 0 ≤ z ∧ z ≤ 255) : 0 ≤ val (zs.take 2) ∧ val (zs.take 2) < 65536 := val_w hW hb

set_option maxHeartbeats 400000 in
theorem get16_whole (r g : Nat) (zs : List Int) (p : Int) (w : World) (h : Rd w r g zs p) (hm : 2 ≤ zs.length) (hn : zs.length ≤ 1000000000) (hp : 0 ≤ p) (hp1 : p ≤ 1000000000) :
    Calls Tryz.prog 166 #[.pointer (some ⟨r, 0, none⟩)] w fun en w' => en = .returned (.int .u16 (val (zs.take 2))) ∧ Rd w' r g (zs.drop 2) (p + 2) ∧ Only r w w' := by
  go_enter Tryz.func166, Tryz.ntmps166
  go_wp2_with (first
    | (go_at_call 175; refine (width16 _).mono ?_; rintro e w' ⟨rfl, hw⟩; obtain rfl := hw.symm; clear hw)
    | (go_at_call 173; refine (take_whole r g 2 zs p _ h hm hn hp hp1).mono ?_; rintro e w1 ⟨a, rfl, h1, h2, h3⟩))
  have H2 := hid h2
  clear h2
  obtain ⟨e1, e2, e3⟩ := h1.bs
  clear h1
  go_loop [3, 5, 10] (fun x _ i => ∃ k : Nat, k ≤ 2 ∧ x = .int .u64 (vk zs 2 k) ∧ i = .int .i64 k) (fun _ _ i => 2 - (intOf i).toNat)
  case atStart => exact ⟨0, by omega, by rw [vk_zero], rfl⟩
  case round =>
    obtain ⟨k, hk, rfl, rfl⟩ := hrel
    by_cases hlt : k < 2
    · rcases e3 with e3 | ⟨b, off, rfl, hc⟩
      · omega
      have hck := hc k hlt
      have hzb := getD_byte (zs.take 2) k (by omega) e2
      have hst := hid (vk_step zs 2 k (by omega))
      have hv := vk_small zs 2 k (by omega) (by omega) e2
      clear hc e1 e2
      generalize (zs.take 2).getD k 0 = z at *
      have hor := or8 (vk zs 2 k) z hv.1 hv.2 hzb.1 hzb.2
      obtain ⟨z0, z1⟩ := hzb
      obtain ⟨v0, v1⟩ := hv
      go_wp2
      go_round
      case rel => exact ⟨k + 1, by omega, by rw [hst.out], by go_num⟩
      case measure => simp [intOf]; omega
    · obtain rfl : k = 2 := by omega
      have hval := valLt16 hm e2
      rw [vk_all zs 2 hm]
      generalize hgv : val (zs.take 2) = v at *
      have HV := hid hgv
      clear hgv
      obtain ⟨v0, v1⟩ := hval
      clear e1 e2 e3
      go_wp2
      go_ret
      exact ⟨congrArg (fun q => Ending.returned (.int .u16 q)) HV.out.symm, (by first | exact H2.out | simpa using H2.out), h3⟩

set_option maxHeartbeats 400000 in
theorem get16_short (r g : Nat) (zs : List Int) (p : Int) (w : World) (h : Rd w r g zs p) (hm : zs.length < 2) :
    Calls Tryz.prog 166 #[.pointer (some ⟨r, 0, none⟩)] w fun en w' => en = .returned (.int .u16 0) ∧ Rb w' r p 10 ∧ Only r w w' := by
  have hB : Brk 2 zs.length 10 := .inr ⟨by omega, by omega, rfl⟩
  go_enter Tryz.func166, Tryz.ntmps166
  go_wp2_with (first
    | (go_at_call 175; refine (width16 _).mono ?_; rintro e w' ⟨rfl, hw⟩; obtain rfl := hw.symm; clear hw)
    | (go_at_call 173; refine (take_breaks r g 2 10 zs p _ h hB).mono ?_; rintro e w1 ⟨rfl, h1, h2⟩))
  go_loop [3, 5, 10] (fun x _ i => x = .int .u64 0 ∧ i = .int .i64 0) (fun _ _ i => 0)
  case atStart => exact ⟨rfl, rfl⟩
  case round =>
    obtain ⟨rfl, rfl⟩ := hrel
    go_wp2
    go_ret
    exact ⟨rfl, h1, h2⟩

set_option maxHeartbeats 400000 in
theorem get16_broken (r : Nat) (p e : Int) (w : World) (h : Rb w r p e) :
    Calls Tryz.prog 166 #[.pointer (some ⟨r, 0, none⟩)] w fun en w' => en = .returned (.int .u16 0) ∧ w' = w := by
  go_enter Tryz.func166, Tryz.ntmps166
  go_wp2_with (first
    | (go_at_call 175; refine (width16 _).mono ?_; rintro e w' ⟨rfl, hw⟩; obtain rfl := hw.symm; clear hw)
    | (go_at_call 173; refine (take_broken r 0 0 none p e 2 _ h.1 h.2).mono ?_; rintro e w1 ⟨rfl, hw⟩; obtain rfl := hw.symm; clear hw))
  go_loop [3, 5, 10] (fun x _ i => x = .int .u64 0 ∧ i = .int .i64 0) (fun _ _ i => 0)
  case atStart => exact ⟨rfl, rfl⟩
  case round =>
    obtain ⟨rfl, rfl⟩ := hrel
    go_wp2
    go_ret
    exact ⟨rfl, rfl⟩


end Go.Proofs.YtkeogggeefnoeaaGreatDoor
namespace Go.Proofs.YtkeogggeefnoeaaGreatDoor
set_option linter.unusedSimpArgs false
set_option maxRecDepth 100000
open Go.RowKit
set_option linter.unusedVariables false

theorem Row.own {w : World} {g b : Nat} {zs : List Int} (h : Row w g zs) (hb : b ≤ g) (hm : zs.length ≤ maxLen) : w.ownsRow b 5 1 (.slice (some ⟨g, 0, none⟩) zs.length zs.length) zs.length (cells zs) :=
  ⟨by rw [cells_length, Nat.mul_one], .inr ⟨g, zs.length, _, rfl, hb, h, Nat.le_refl _, hm, by simp [cells_length], by rw [Nat.mul_one]; exact List.take_of_length_le (by rw [cells_length]; exact Nat.le_refl _)⟩⟩
theorem be_ad {H L : Int} (hH : InU H) (hL : InU L) : be 8 H ++ be 8 L = be 16 (ad H L) := by
  unfold InU at hH hL
  have h1 : be 8 H = [H / 256 ^ 7 % 256, H / 256 ^ 6 % 256, H / 256 ^ 5 % 256, H / 256 ^ 4 % 256, H / 256 ^ 3 % 256, H / 256 ^ 2 % 256, H / 256 ^ 1 % 256, H / 256 ^ 0 % 256] := rfl
  have h2 : be 8 L = [L / 256 ^ 7 % 256, L / 256 ^ 6 % 256, L / 256 ^ 5 % 256, L / 256 ^ 4 % 256, L / 256 ^ 3 % 256, L / 256 ^ 2 % 256, L / 256 ^ 1 % 256, L / 256 ^ 0 % 256] := rfl
  have hv := be_val (be 8 H ++ be 8 L) (fun z hz => by
    rcases List.mem_append.1 hz with h | h
    · exact be_byte _ _ z h
    · exact be_byte _ _ z h)
  have hl : (be 8 H ++ be 8 L).length = 16 := rfl
  rw [hl] at hv
  have e : val (be 8 H ++ be 8 L) = ad H L := by
    have ea : val (be 8 H ++ be 8 L) = val (be 8 H) * 256 ^ 8 + val (be 8 L) := by
      have := fold_val (be 8 L) (val (be 8 H))
      unfold val at *
      rw [List.foldl_append, this]
      rfl
    rw [ea, val_be, val_be]
    unfold ad
    have : (256 : Int) ^ 8 = 18446744073709551616 := by decide
    rw [this]
    omega
  rw [e] at hv
  exact hv.symm
set_option maxHeartbeats 1000000 in
theorem putAddr_ (F H L : Int) (w : World) (hF : InI F) (hH : InU H) (hL : InU L) :
    Calls Tryz.prog 153 #[.agg #[.int .i64 F, .int .u64 H, .int .u64 L]] w fun e w' => ∃ v, e = .returned v ∧ w'.ownsRow w.heap.size 5 1 v (pa F H L).length (cells (pa F H L)) ∧ Below w.heap.size w w' := by
  have B0 := anew w F H L
  have m0 := Am.new w F H L
  have k1 := fun w => validAddr_ F H L w hF hH hL
  have c0 := m0.c0
  have c1 := m0.c1
  have c2 := m0.c2
  go_enter Tryz.func153, Tryz.ntmps153
  go_wp2_with fail
  clear c0 c1 c2
  refine (k1 _).mono ?_
  rintro e w1 ⟨rfl, g2⟩
  replace m0 := m0.kept g2
  replace B0 := bel_bel B0 B0.size g2
  clear g2 k1
  have c0 := m0.c0
  have c1 := m0.c1
  have c2 := m0.c2
  cases hv : va F H L with
  | false =>
    go_wp2_with fail
    go_ret
    have e : pa F H L = [] := by unfold pa; rw [hv]; rfl
    rw [e]
    exact ⟨_, rfl, World.ownsRow_nil _ _ _ _, B0⟩
  | true =>
    have hFF := of_decide_eq_true (show decide _ = true from hv)
    have HP : Hid (pa F H L = be (nb F / 8) (ad H L)) := by show _ = _; unfold pa; rw [hv]; rfl
    have hz : Bs w1 none 0 [] := ⟨rfl, by simp, .inl rfl⟩
    have hs := B0.size
    by_cases h4 : F = 4
    · subst h4
      obtain ⟨rfl, h2⟩ : H = 0 ∧ L < 4294967296 := by
        rcases hFF with h | h
        · omega
        · exact h.2
      have hLm : L % 4294967296 = L := Int.emod_eq_of_lt hL.1 h2
      have HQ : Hid (pa 4 0 L = be 4 L) := by
        show _ = _
        rw [HP.out]
        show be 4 (ad 0 L) = _
        unfold ad
        rw [Int.zero_mul, Int.zero_add]
      have k2 := fun w hz => put32 none 0 0 [] L w hz (by omega) hL.1 (by omega)
      clear hFF hv HP hH
      unfold InU at hL
      go_wp2_with fail
      refine (k2 _ hz).mono ?_
      rintro e w2 ⟨rfl, hr, g2⟩
      clear c0 c1 c2
      replace B0 := bel_grow B0 B0.size g2
      go_wp2_with fail
      go_ret
      rw [HQ.out]
      rw [List.nil_append] at hr
      exact ⟨_, rfl, hr.own hs (by rw [be_length]; unfold maxLen; omega), B0⟩
    · have e4 : (F == 4) = false := by simpa using h4
      obtain rfl : F = 6 := by
        rcases hFF with h | h
        · exact h
        · exact absurd h.1 h4
      have HQ : Hid (pa 6 H L = be 8 H ++ be 8 L) := by
        show _ = _
        rw [HP.out, be_ad hH hL]
        rfl
      have k2 := fun w hz => put64 none 0 0 [] H w hz (by omega) hH.1 hH.2
      have k3 := fun g w hz => put64 (some ⟨g, 0, none⟩) 8 8 (be 8 H) L w hz (by omega) hL.1 hL.2
      clear hFF hv HP
      go_wp2_with fail
      refine wp_region_held_drew (S := fun wx => Am wx w.heap.size 6 H L) (by kernel_rfl) m0.drew (fun hHeld => ?_)
      replace m0 := m0.drew
      replace B0 := bel_drew1 B0
      replace hz : Bs w1.drew none 0 [] := ⟨rfl, by simp, .inl rfl⟩
      have hs1 : w.heap.size ≤ w1.drew.heap.size := hs
      clear c0 c1 c2
      generalize w1.drew = wd at *
      refine take_to 0 15 (.pointer (some ⟨w.heap.size, 1, none⟩)) rfl rfl (by kernel_rfl) (by kernel_rfl) (by kernel_rfl) (fun _ _ _ h => h) (Or.inl ⟨by rfl, fun w' h => ?_⟩) hHeld ?_
      · go_simp
      try simp only [List.setIfInBounds_toArray, List.set_cons_zero, List.set_cons_succ]
      refine take_to 1 16 (.int .u64 H) rfl rfl (by kernel_rfl) (by kernel_rfl) (by kernel_rfl) (fun _ _ _ h => h) (Or.inl ⟨by rfl, fun w' h => ?_⟩) hHeld ?_
      · have x0 := Am.c1 h
        go_simp
      try simp only [List.setIfInBounds_toArray, List.set_cons_zero, List.set_cons_succ]
      refine take_to 3 18 (.pointer (some ⟨w.heap.size, 2, none⟩)) rfl rfl (by kernel_rfl) (by kernel_rfl) (by kernel_rfl) (fun _ _ _ h => h) (Or.inl ⟨by rfl, fun w' h => ?_⟩) hHeld ?_
      · go_simp
      try simp only [List.setIfInBounds_toArray, List.set_cons_zero, List.set_cons_succ]
      refine take_to 4 19 (.int .u64 L) rfl rfl (by kernel_rfl) (by kernel_rfl) (by kernel_rfl) (fun _ _ _ h => h) (Or.inl ⟨by rfl, fun w' h => ?_⟩) hHeld ?_
      · have x0 := Am.c2 h
        go_simp
      try simp only [List.setIfInBounds_toArray, List.set_cons_zero, List.set_cons_succ]
      refine wpAnyH_ready (rs := [2]) (by kernel_rfl) (by simp) ?_
      refine AllReadyH.cons rfl (fun K' hK' => ?_) AllReadyH.nil
      rw [if_pos (by rfl)]
      go_wp2_with fail
      refine (k2 _ hz).mono ?_
      rintro e w2 ⟨rfl, hr, g2⟩
      replace m0 := m0.kept (below_of_grown g2)
      replace B0 := bel_grow B0 hs1 g2
      rw [List.nil_append] at hr
      have hb := (hr.bs (be_byte 8 H)).len (be_length 8 H)
      have hs2 := B0.size
      clear g2
      clear hHeld
      try go_wp2_with fail
      refine hK'.out _ _ m0 (fun hHeld => ?_)
      clear hK' K'
      try simp only [Act.put, List.setIfInBounds_toArray, List.set_cons_zero, List.set_cons_succ]
      refine wpAnyH_ready (rs := [5]) (by kernel_rfl) (by simp) ?_
      refine AllReadyH.cons rfl (fun K' hK' => ?_) AllReadyH.nil
      rw [if_pos (by rfl)]
      go_wp2_with fail
      refine (k3 _ _ hb).mono ?_
      rintro e w3 ⟨rfl, hr2, g3⟩
      replace m0 := m0.kept (below_of_grown g3)
      replace B0 := bel_grow B0 hs2 g3
      clear g3
      clear hHeld
      try go_wp2_with fail
      refine hK'.out _ _ m0 (fun hHeld => ?_)
      clear hK' K'
      try simp only [Act.put, List.setIfInBounds_toArray, List.set_cons_zero, List.set_cons_succ]
      refine take_to 6 2 (.slice (some ⟨w2.heap.size, 0, none⟩) 16 16) rfl rfl (by kernel_rfl) (by kernel_rfl) (by kernel_rfl) (fun _ _ _ h => h) (Or.inl ⟨by rfl, fun w' h => ?_⟩) hHeld ?_
      · go_simp
      try simp only [List.setIfInBounds_toArray, List.set_cons_zero, List.set_cons_succ]
      refine wpAnyH_done (by kernel_rfl) ?_ _
      go_wp2_with fail
      go_ret
      rw [HQ.out]
      exact ⟨_, rfl, hr2.own hs2 (by rw [List.length_append, be_length, be_length]; unfold maxLen; omega), B0⟩
end Go.Proofs.YtkeogggeefnoeaaGreatDoor
namespace Go.Proofs.YtkeogggeefnoeaaGreatDoor
set_option linter.unusedSimpArgs false
set_option maxRecDepth 100000
open Go.RowKit
set_option linter.unusedVariables false

/-- A reader, whole or broken: what is left, its place, its error. -/
def RS (w : World) (r g : Nat) (l : List Int) (p e : Int) : Prop := (e = 0 ∧ Rd w r g l p) ∨ Rb w r p e
def gv (W : Nat) (l : List Int) (e : Int) : Int := if e = 0 ∧ W ≤ l.length then val (l.take W) else 0
def gl (W : Nat) (l : List Int) (e : Int) : List Int := if e = 0 ∧ W ≤ l.length then l.drop W else l
def gp (W : Nat) (l : List Int) (e p : Int) : Int := if e = 0 ∧ W ≤ l.length then p + W else p
def ge (W : Nat) (l : List Int) (e : Int) : Int := if e = 0 then (if W ≤ l.length then 0 else 10) else e
theorem g_yes {W : Nat} {l : List Int} {p : Int} (h : W ≤ l.length) : gv W l 0 = val (l.take W) ∧ gl W l 0 = l.drop W ∧ gp W l 0 p = p + W ∧ ge W l 0 = 0 := by
  unfold gv gl gp ge
  rw [if_pos ⟨rfl, h⟩, if_pos ⟨rfl, h⟩, if_pos ⟨rfl, h⟩, if_pos rfl, if_pos h]
  exact ⟨rfl, rfl, rfl, rfl⟩
theorem g_no {W : Nat} {l : List Int} {p : Int} (h : l.length < W) : gv W l 0 = 0 ∧ gl W l 0 = l ∧ gp W l 0 p = p ∧ ge W l 0 = 10 := by
  unfold gv gl gp ge
  rw [if_neg (by omega), if_neg (by omega), if_neg (by omega), if_pos rfl, if_neg (by omega)]
  exact ⟨rfl, rfl, rfl, rfl⟩
theorem g_bad {W : Nat} {l : List Int} {p e : Int} (h : e ≠ 0) : gv W l e = 0 ∧ gl W l e = l ∧ gp W l e p = p ∧ ge W l e = e := by
  unfold gv gl gp ge
  rw [if_neg (fun h' => h h'.1), if_neg (fun h' => h h'.1), if_neg (fun h' => h h'.1), if_neg h]
  exact ⟨rfl, rfl, rfl, rfl⟩
theorem gl_sub {W : Nat} {l : List Int} {e : Int} (h : ∀ z ∈ l, 0 ≤ z ∧ z ≤ 255) : (∀ z ∈ gl W l e, 0 ≤ z ∧ z ≤ 255) ∧ (gl W l e).length ≤ l.length := by
  unfold gl
  split
  · exact ⟨fun z hz => h z (List.mem_of_mem_drop hz), by simp⟩
  · exact ⟨h, Nat.le_refl _⟩
theorem gp_in {W : Nat} {l : List Int} {e p : Int} {m : Int} (h : 0 ≤ p ∧ p ≤ m) : 0 ≤ gp W l e p ∧ gp W l e p ≤ m + W := by
  unfold gp
  split <;> omega
theorem gvIn8 {l : List Int} {e : Int} (h : ∀ z ∈ l, 0 ≤ z ∧ z ≤ 255) : 0 ≤ gv 1 l e ∧ gv 1 l e ≤ 255 := by
  unfold gv
  split
  · rename_i hh
    have := valLt8 hh.2 (fun z hz => h z (List.mem_of_mem_take hz))
    omega
  · omega
theorem getAny8 (r g : Nat) (l : List Int) (p e : Int) (w : World) (h : RS w r g l p e) (hl : l.length ≤ 1000) (hp : 0 ≤ p ∧ p ≤ 1000) :
    Calls Tryz.prog 165 #[.pointer (some ⟨r, 0, none⟩)] w fun en w' => en = .returned (.int .u8 (gv 1 l e)) ∧ RS w' r g (gl 1 l e) (gp 1 l e p) (ge 1 l e) ∧ Only r w w' := by
  rcases h with ⟨rfl, h⟩ | h
  · by_cases hm : 1 ≤ l.length
    · obtain ⟨e1, e2, e3, e4⟩ := g_yes (p := p) hm
      rw [e1, e2, e3, e4]
      refine (get8_whole r g l p w h hm (by omega) hp.1 (by omega)).mono ?_
      rintro en w' ⟨rfl, h1, h2⟩
      exact ⟨rfl, .inl ⟨rfl, h1⟩, h2⟩
    · obtain ⟨e1, e2, e3, e4⟩ := g_no (p := p) (show l.length < 1 by omega)
      rw [e1, e2, e3, e4]
      refine (get8_short r g l p w h (by omega)).mono ?_
      rintro en w' ⟨rfl, h1, h2⟩
      exact ⟨rfl, .inr h1, h2⟩
  · obtain ⟨e1, e2, e3, e4⟩ := g_bad (W := 1) (l := l) (p := p) (bne_iff_ne.1 h.2)
    rw [e1, e2, e3, e4]
    refine (get8_broken r p e w h).mono ?_
    rintro en w' ⟨rfl, rfl⟩
    exact ⟨rfl, .inr h, Only.refl _ _⟩
theorem gvIn16 {l : List Int} {e : Int} (h : ∀ z ∈ l, 0 ≤ z ∧ z ≤ 255) : 0 ≤ gv 2 l e ∧ gv 2 l e ≤ 65535 := by
  unfold gv
  split
  · rename_i hh
    have := valLt16 hh.2 (fun z hz => h z (List.mem_of_mem_take hz))
    omega
  · omega
theorem getAny16 (r g : Nat) (l : List Int) (p e : Int) (w : World) (h : RS w r g l p e) (hl : l.length ≤ 1000) (hp : 0 ≤ p ∧ p ≤ 1000) :
    Calls Tryz.prog 166 #[.pointer (some ⟨r, 0, none⟩)] w fun en w' => en = .returned (.int .u16 (gv 2 l e)) ∧ RS w' r g (gl 2 l e) (gp 2 l e p) (ge 2 l e) ∧ Only r w w' := by
  rcases h with ⟨rfl, h⟩ | h
  · by_cases hm : 2 ≤ l.length
    · obtain ⟨e1, e2, e3, e4⟩ := g_yes (p := p) hm
      rw [e1, e2, e3, e4]
      refine (get16_whole r g l p w h hm (by omega) hp.1 (by omega)).mono ?_
      rintro en w' ⟨rfl, h1, h2⟩
      exact ⟨rfl, .inl ⟨rfl, h1⟩, h2⟩
    · obtain ⟨e1, e2, e3, e4⟩ := g_no (p := p) (show l.length < 2 by omega)
      rw [e1, e2, e3, e4]
      refine (get16_short r g l p w h (by omega)).mono ?_
      rintro en w' ⟨rfl, h1, h2⟩
      exact ⟨rfl, .inr h1, h2⟩
  · obtain ⟨e1, e2, e3, e4⟩ := g_bad (W := 2) (l := l) (p := p) (bne_iff_ne.1 h.2)
    rw [e1, e2, e3, e4]
    refine (get16_broken r p e w h).mono ?_
    rintro en w' ⟨rfl, rfl⟩
    exact ⟨rfl, .inr h, Only.refl _ _⟩
theorem RS.lt {w : World} {r g : Nat} {l : List Int} {p e : Int} (h : RS w r g l p e) : r < w.heap.size := by
  rcases h with ⟨_, h⟩ | h
  · exact h.lt
  · exact h.lt
theorem RS.kept {w w' : World} {r g : Nat} {l : List Int} {p e : Int} (h : RS w r g l p e) (hb : Below w.heap.size w w') : RS w' r g l p e := by
  rcases h with ⟨h0, h⟩ | h
  · exact .inl ⟨h0, h.kept (hb.block r h.lt) (fun hg => hb.block g hg)⟩
  · exact .inr (h.kept (hb.block r h.lt))
theorem RS.other {w w' : World} {r g q : Nat} {l : List Int} {p e : Int} (h : RS w r g l p e) (ho : ∀ k, k ≠ q → w'.heap[k]? = w.heap[k]?) (hr : r ≠ q) (hg : g ≠ q) : RS w' r g l p e := by
  rcases h with ⟨h0, h⟩ | h
  · exact .inl ⟨h0, h.kept (ho r hr) (fun _ => ho g hg)⟩
  · exact .inr (h.kept (ho r hr))
theorem Pm.only {w w' : World} {r g : Nat} {F H L B : Int} (h : Pm w g F H L B) (ho : Only r w w') (hn : g ≠ r) : Pm w' g F H L B := h.at (ho.block g hn)
theorem bel_only {b r : Nat} {w0 w w' : World} (h : Below b w0 w) (ho : Only r w w') (hb : b ≤ r) : Below b w0 w' := h.trans (ho.below hb)
theorem Pm.set0 {w : World} {g : Nat} {F H L B : Int} (h : Pm w g F H L B) (x : Int) : Pm (w.setCell ⟨g, 0, none⟩ (.int .i64 x)) g x H L B := by
  unfold Pm at *; simp [World.setCell, Array.getElem?_modify, h]
theorem Pm.set1 {w : World} {g : Nat} {F H L B : Int} (h : Pm w g F H L B) (x : Int) : Pm (w.setCell ⟨g, 1, none⟩ (.int .u64 x)) g F x L B := by
  unfold Pm at *; simp [World.setCell, Array.getElem?_modify, h]
theorem Pm.set2 {w : World} {g : Nat} {F H L B : Int} (h : Pm w g F H L B) (x : Int) : Pm (w.setCell ⟨g, 2, none⟩ (.int .u64 x)) g F H x B := by
  unfold Pm at *; simp [World.setCell, Array.getElem?_modify, h]
theorem Pm.set3 {w : World} {g : Nat} {F H L B : Int} (h : Pm w g F H L B) (x : Int) : Pm (w.setCell ⟨g, 3, none⟩ (.int .i64 x)) g F H L x := by
  unfold Pm at *; simp [World.setCell, Array.getElem?_modify, h]
/-- What read answers, number by number. -/
def rdF (l : List Int) : Int := gv 1 l 0
def rdB (l : List Int) : Int := gv 1 (gl 1 l 0) (ge 1 l 0)
def rdl (l : List Int) : List Int := gl 1 (gl 1 l 0) (ge 1 l 0)
def rde (l : List Int) : Int := ge 1 (gl 1 l 0) (ge 1 l 0)
def rdp (l : List Int) : Int := gp 1 (gl 1 l 0) (ge 1 l 0) (gp 1 l 0 0)
def rdH (l : List Int) : Int := if rdF l = 4 then 0 else gv 8 (rdl l) (rde l)
def rdL (l : List Int) : Int := if rdF l = 4 then gv 4 (rdl l) (rde l) else gv 8 (gl 8 (rdl l) (rde l)) (ge 8 (rdl l) (rde l))
def rdP (l : List Int) : Int := if rdF l = 4 then gp 4 (rdl l) (rde l) (rdp l) else gp 8 (gl 8 (rdl l) (rde l)) (ge 8 (rdl l) (rde l)) (gp 8 (rdl l) (rde l) (rdp l))
def rdE (l : List Int) : Int := if rdF l = 4 then ge 4 (rdl l) (rde l) else ge 8 (gl 8 (rdl l) (rde l)) (ge 8 (rdl l) (rde l))
end Go.Proofs.YtkeogggeefnoeaaGreatDoor
namespace Go.Proofs.YtkeogggeefnoeaaGreatDoor
set_option linter.unusedSimpArgs false
set_option maxRecDepth 100000
open Go.RowKit
set_option linter.unusedVariables false

theorem val_nil : val [] = 0 := rfl
theorem val_one (a : Int) : val [a] = a := by rw [val_cons, val_nil]; simp
theorem rd_two (a b : Int) (s : List Int) : rdF (a :: b :: s) = a ∧ rdB (a :: b :: s) = b ∧ rdl (a :: b :: s) = s ∧ rde (a :: b :: s) = 0 ∧ rdp (a :: b :: s) = 2 := by
  obtain ⟨e1, e2, e3, e4⟩ := g_yes (W := 1) (l := a :: b :: s) (p := 0) (by simp)
  obtain ⟨f1, f2, f3, f4⟩ := g_yes (W := 1) (l := b :: s) (p := 0 + 1) (by simp)
  unfold rdF rdB rdl rde rdp
  rw [e1, e2, e3, e4]
  show _ ∧ gv 1 (b :: s) 0 = b ∧ gl 1 (b :: s) 0 = s ∧ ge 1 (b :: s) 0 = 0 ∧ gp 1 (b :: s) 0 (0 + (1 : Nat)) = 2
  have f3' : gp 1 (b :: s) 0 (0 + (1 : Nat)) = 2 := f3
  rw [f1, f2, f4, f3']
  exact ⟨val_one a, val_one b, rfl, rfl, rfl⟩
theorem rd_bad {l : List Int} (h : rde l ≠ 0) : rdE l ≠ 0 := by
  unfold rdE
  split
  · rw [(g_bad (W := 4) (l := rdl l) (p := 0) h).2.2.2]; exact h
  · have e := (g_bad (W := 8) (l := rdl l) (p := 0) h).2.2.2
    rw [e, (g_bad (W := 8) (l := gl 8 (rdl l) (rde l)) (p := 0) h).2.2.2]
    exact h
theorem rd_few {l : List Int} (h : l.length < 2) : rdE l ≠ 0 := by
  refine rd_bad ?_
  unfold rde
  match l, h with
  | [], _ =>
    have e1 : ge 1 ([] : List Int) 0 = 10 := by decide
    rw [e1, (g_bad (W := 1) (l := gl 1 ([] : List Int) 0) (p := 0) (e := 10) (by decide)).2.2.2]
    decide
  | [a], _ =>
    obtain ⟨_, e2, _, e4⟩ := g_yes (W := 1) (l := [a]) (p := 0) (by simp)
    rw [e2, e4]
    show ge 1 ([] : List Int) 0 ≠ 0
    decide
theorem val_app (x y : List Int) : val (x ++ y) = val x * 256 ^ y.length + val y := by
  have := fold_val y (val x)
  unfold val at *
  rw [List.foldl_append, this]
theorem ah_four {S : List Int} (hb : ∀ z ∈ S, 0 ≤ z ∧ z ≤ 255) (h : S.length = 4) : ah S = 0 ∧ al S = val S := by
  have := val_bound S hb
  rw [h] at this
  have e : (256 : Int) ^ 4 = 4294967296 := by decide
  rw [e] at this
  unfold ah al
  omega
theorem ah_16 {S : List Int} (hb : ∀ z ∈ S, 0 ≤ z ∧ z ≤ 255) (h : S.length = 16) : ah S = val (S.take 8) ∧ al S = val (S.drop 8) := by
  have h1 := val_app (S.take 8) (S.drop 8)
  rw [List.take_append_drop] at h1
  have hl : (S.drop 8).length = 8 := by rw [List.length_drop, h]
  have h2 := val_bound (S.drop 8) (fun z hz => hb z (List.mem_of_mem_drop hz))
  rw [hl] at h1 h2
  have e : (256 : Int) ^ 8 = 18446744073709551616 := by decide
  rw [e] at h1 h2
  unfold ah al
  rw [h1]
  omega
/-- What read says of a list's beginning is what Get says of the list. -/
theorem rd_gk (zs : List Int) (hb : ∀ z ∈ zs, 0 ≤ z ∧ z ≤ 255) :
    (decide (rdE (zs.take 18) = 0) && vp (rdF (zs.take 18)) (rdH (zs.take 18)) (rdL (zs.take 18)) (rdB (zs.take 18))) = gk zs ∧
    (gk zs = true → rdF (zs.take 18) = g0 zs ∧ rdH (zs.take 18) = ah (gs7 zs) ∧ rdL (zs.take 18) = al (gs7 zs) ∧ rdB (zs.take 18) = zs.getD 1 0 ∧ rdP (zs.take 18) = ((2 + gm zs : Nat) : Int)) := by
  by_cases h2 : zs.length < 2
  · have e : gk zs = false := by unfold gk; rw [decide_eq_false (by omega), Bool.false_and]
    rw [e, decide_eq_false (rd_few (by rw [List.length_take]; omega)), Bool.false_and]
    exact ⟨rfl, fun h => by cases h⟩
  · match zs, h2 with
    | [], h => simp at h
    | [a], h => simp at h
    | a :: b :: t, _ =>
      have hbt : ∀ z ∈ t, 0 ≤ z ∧ z ≤ 255 := fun z hz => hb z (by simp [hz])
      have el : (a :: b :: t).take 18 = a :: b :: t.take 16 := rfl
      rw [el]
      obtain ⟨e1, e2, e3, e4, e5⟩ := rd_two a b (t.take 16)
      have g1 : g0 (a :: b :: t) = a := rfl
      have g2 : (a :: b :: t).getD 1 0 = b := rfl
      have g3 : (a :: b :: t).length = t.length + 2 := rfl
      have g4 : gm (a :: b :: t) = nb a / 8 := rfl
      have g5 : gs7 (a :: b :: t) = t.take (nb a / 8) := rfl
      unfold gk rdE rdH rdL rdP
      rw [e1, e2, e3, e4, e5, g1, g2, g3, g4, g5]
      by_cases h4 : a = 4
      · subst h4
        rw [if_pos rfl, if_pos rfl, if_pos rfl, if_pos rfl, show nb 4 / 8 = 4 from rfl]
        by_cases hl : 4 ≤ t.length
        · have hl' : 4 ≤ (t.take 16).length := by rw [List.length_take]; omega
          obtain ⟨y1, y2, y3, y4⟩ := g_yes (W := 4) (l := t.take 16) (p := 2) hl'
          have et : (t.take 16).take 4 = t.take 4 := by rw [List.take_take]; rfl
          obtain ⟨s1, s2⟩ := ah_four (S := t.take 4) (fun z hz => hbt z (List.mem_of_mem_take hz)) (by rw [List.length_take]; omega)
          rw [y1, y3, y4, et, s1, s2, decide_eq_true rfl, decide_eq_true (by omega)]
          exact ⟨rfl, fun _ => ⟨rfl, rfl, rfl, rfl, rfl⟩⟩
        · have hl' : (t.take 16).length < 4 := by rw [List.length_take]; omega
          obtain ⟨y1, y2, y3, y4⟩ := g_no (W := 4) (l := t.take 16) (p := 2) hl'
          rw [y4, decide_eq_false (by decide), Bool.false_and, decide_eq_false (by omega), Bool.false_and]
          exact ⟨rfl, fun h => by cases h⟩
      · rw [if_neg h4, if_neg h4, if_neg h4, if_neg h4]
        by_cases h6 : a = 6
        · subst h6
          rw [show nb 6 / 8 = 16 from rfl]
          by_cases hl : 16 ≤ t.length
          · have hl' : (t.take 16).length = 16 := by rw [List.length_take]; omega
            obtain ⟨y1, y2, y3, y4⟩ := g_yes (W := 8) (l := t.take 16) (p := 2) (by omega)
            rw [y1, y2, y3, y4]
            obtain ⟨x1, x2, x3, x4⟩ := g_yes (W := 8) (l := (t.take 16).drop 8) (p := 2 + 8) (by rw [List.length_drop]; omega)
            have x3' : gp 8 ((t.take 16).drop 8) 0 (2 + (8 : Nat)) = 18 := x3
            have et : ((t.take 16).drop 8).take 8 = (t.take 16).drop 8 := List.take_of_length_le (by rw [List.length_drop]; omega)
            obtain ⟨s1, s2⟩ := ah_16 (S := t.take 16) (fun z hz => hbt z (List.mem_of_mem_take hz)) hl'
            rw [x1, x3', x4, et, s1, s2, decide_eq_true rfl, decide_eq_true (by omega)]
            exact ⟨rfl, fun _ => ⟨rfl, rfl, rfl, rfl, rfl⟩⟩
          · have hE : ge 8 (gl 8 (t.take 16) 0) (ge 8 (t.take 16) 0) ≠ 0 := by
              by_cases h8 : 8 ≤ (t.take 16).length
              · obtain ⟨y1, y2, y3, y4⟩ := g_yes (W := 8) (l := t.take 16) (p := 2) h8
                rw [y2, y4, (g_no (W := 8) (l := (t.take 16).drop 8) (p := 2) (by rw [List.length_drop, List.length_take]; omega)).2.2.2]
                decide
              · obtain ⟨y1, y2, y3, y4⟩ := g_no (W := 8) (l := t.take 16) (p := 2) (by omega)
                rw [y2, y4, (g_bad (W := 8) (l := t.take 16) (p := 2) (e := 10) (by decide)).2.2.2]
                decide
            rw [decide_eq_false hE, Bool.false_and, decide_eq_false (by omega), Bool.false_and]
            exact ⟨rfl, fun h => by cases h⟩
        · have hv : ∀ H L, va a H L = false := fun H L => decide_eq_false (by omega)
          rw [show nb a = 0 from by unfold nb; rw [if_neg h4, if_neg h6]]
          have hvp : ∀ H L, vp a H L b = false := fun H L => va_out (hv H L) b
          rw [hvp, Bool.and_false, hvp, Bool.and_false]
          exact ⟨rfl, fun h => by cases h⟩
end Go.Proofs.YtkeogggeefnoeaaGreatDoor
namespace Go.Proofs.YtkeogggeefnoeaaGreatDoor
set_option linter.unusedSimpArgs false
set_option maxRecDepth 100000
open Go.RowKit
set_option linter.unusedVariables false

theorem Bs.cut {w : World} {a : Option Addr} {n m : Nat} {zs : List Int} (h : Bs w a n zs) (hm : m ≤ n) : Bs w a m (zs.take m) := by
  refine ⟨by rw [List.length_take, h.1]; omega, fun z hz => h.2.1 z (List.mem_of_mem_take hz), ?_⟩
  rcases h.2.2 with h0 | ⟨b, off, rfl, hc⟩
  · exact .inl (by omega)
  · refine .inr ⟨b, off, rfl, fun i hi => ?_⟩
    rw [hc i (by omega)]
    simp only [List.getD, List.getElem?_take, if_pos hi]
/-- A new reader, all its memory new: its bytes lie below it. -/
theorem newReader7 (a : Option Addr) (n c : Nat) (zs : List Int) (w : World) (hb : Bs w a n zs) (ha : a = none → c = 0) (hn : n ≤ 1000000) (hnc : n ≤ c) (h0 : 0 < w.heap.size) :
    Calls Tryz.prog 152 #[.slice a n c] w fun en w' => ∃ r g, en = .returned (.pointer (some ⟨r, 0, none⟩)) ∧ RS w' r g zs 0 0 ∧ w.heap.size ≤ r ∧ g < r ∧ Below w.heap.size w w' := by
  cases a with
  | none =>
    obtain rfl : c = 0 := ha rfl
    obtain rfl : n = 0 := by omega
    obtain rfl : zs = [] := List.eq_nil_of_length_eq_zero hb.1
    refine (newReader_nil w).mono ?_
    rintro en w' ⟨rfl, rfl⟩
    exact ⟨w.heap.size, 0, rfl, .inl ⟨rfl, by omega, none, 0, 0, heap_alloc_new w _, rfl, Nat.le_refl _, by unfold maxLen; omega, by simp, .inl ⟨rfl, rfl, rfl⟩⟩, Nat.le_refl _, h0, (Below.refl _ _).alloc (Nat.le_refl _) _⟩
  | some x =>
    refine (newReader_some x n c zs w hb hn).mono ?_
    rintro en w' ⟨g, cap, cur, w1, rfl, hbg, hgg, hnc', hcm, hcs, ht, hg, rfl⟩
    have hs := hg.size
    have hlt : g < w1.heap.size := (Array.getElem?_eq_some_iff.1 hgg).1
    refine ⟨w1.heap.size, g, rfl, .inl ⟨rfl, by omega, some ⟨g, 0, none⟩, n, cap, heap_alloc_new w1 _, hb.1, hnc', hcm, hb.2.1, .inr ⟨0, cur, rfl, ?_, by omega, ?_⟩⟩, hs, hlt, (below_of_grown hg).alloc hs _⟩
    · rw [Below.heap_alloc w1 _ g hlt]; exact hgg
    · simpa using ht
end Go.Proofs.YtkeogggeefnoeaaGreatDoor
namespace Go.Proofs.YtkeogggeefnoeaaGreatDoor
set_option linter.unusedSimpArgs false
set_option maxRecDepth 100000
open Go.RowKit
set_option linter.unusedVariables false

theorem RS.bel {b : Nat} {w w' : World} {r g : Nat} {l : List Int} {p e : Int} (h : RS w r g l p e) (hb : Below b w w') (hr : r < b) (hg : g < b) : RS w' r g l p e := by
  rcases h with ⟨h0, h⟩ | h
  · exact .inl ⟨h0, h.kept (hb.block r hr) (fun _ => hb.block g hg)⟩
  · exact .inr (h.kept (hb.block r hr))
theorem own_from {w w' : World} {B e s n : Nat} {v : Value} {xs : List Value} (h : w.ownsRow B e s v n xs) (ho : ∀ k, B ≤ k → w'.heap[k]? = w.heap[k]?) : w'.ownsRow B e s v n xs := by
  obtain ⟨h1, h2⟩ := h
  refine ⟨h1, ?_⟩
  rcases h2 with h2 | ⟨g, cap, cur, e1, hb, hg, r⟩
  · exact .inl h2
  · exact .inr ⟨g, cap, cur, e1, hb, by rw [ho g hb]; exact hg, r⟩
def slen : Value → Nat
  | .slice _ n _ => n
  | _ => 0
theorem own_slen {w : World} {B e s n : Nat} {v : Value} {xs : List Value} (h : w.ownsRow B e s v n xs) : slen v = n := by
  rcases h.2 with ⟨rfl, h2⟩ | ⟨g, cap, cur, rfl, _⟩
  · exact h2.symm
  · rfl
theorem leftAny (r g : Nat) (l : List Int) (p : Int) (w : World) (h : RS w r g l p 0) :
    Calls Tryz.prog 164 #[.pointer (some ⟨r, 0, none⟩)] w fun en w' => en = .returned (.int .i64 l.length) ∧ w' = w := by
  rcases h with ⟨_, h⟩ | h
  · exact left_whole r g l p w h
  · exact absurd h.2 (by decide)
def t8 (x : Nat) : List Nat := dgs x 1
def t16 (x : Nat) : List Nat := hx (x / 256) ++ hx (x % 256)
/-- The number that the i-th W bytes are. -/
def vw (W : Nat) (l : List Int) (i : Nat) : Nat := (val ((l.drop (W * i)).take W)).toNat
def wt (t : Nat → List Nat) (W : Nat) (l : List Int) (j : Nat) : List (List Nat) := (List.range j).map fun i => t (vw W l i)
theorem wt_length (t : Nat → List Nat) (W : Nat) (l : List Int) (j : Nat) : (wt t W l j).length = j := by simp [wt]
theorem wt_succ (t : Nat → List Nat) (W : Nat) (l : List Int) (j : Nat) : wt t W l (j + 1) = wt t W l j ++ [t (vw W l j)] := by
  simp [wt, List.range_succ]
theorem t8_le (x : Nat) (h : x < 256) : (sb (t8 x)).size ≤ 4 := by rw [sb_size]; have := dgs_three x h; unfold t8; omega
theorem t16_le (x : Nat) : (sb (t16 x)).size ≤ 4 := by rw [sb_size]; unfold t16 hx; simp
theorem vwLt8 {l : List Int} (hb : ∀ z ∈ l, 0 ≤ z ∧ z ≤ 255) (i : Nat) (h : 1 * i + 1 ≤ l.length) : val ((l.drop (1 * i)).take 1) = ((vw 1 l i : Nat) : Int) ∧ vw 1 l i < 256 := by
  have h1 := valLt8 (zs := l.drop (1 * i)) (by rw [List.length_drop]; omega) (fun z hz => hb z (List.mem_of_mem_drop (List.mem_of_mem_take hz)))
  unfold vw
  omega
set_option maxHeartbeats 1000000 in
theorem written8_ (r g m : Nat) (l : List Int) (w : World) (h : RS w r g l 0 0) (hl : l.length = 1 * m) (hm : m ≤ 16) (hb : ∀ z ∈ l, 0 ≤ z ∧ z ≤ 255) (hgr : g < r) (w0 : World) (hT : Tb w0) (hr0 : w0.heap.size ≤ r) (hB0 : Below w0.heap.size w0 w) :
    Calls Tryz.prog 155 #[.pointer (some ⟨r, 0, none⟩), .func (.func 156) #[] #[]] w fun e w' => ∃ v, e = .returned v ∧ w'.ownsRow w.heap.size 9 1 v m (tv (wt t8 1 l m)) ∧ Below r w w' := by
  obtain ⟨i5, hi, hz0, hz1, hz2⟩ := info_parts info_s
  have hrw := h.lt
  go_enter Tryz.func155, Tryz.ntmps155
  go_wp2_with fail
  go_loopw [5] (fun v wr => ∃ j : Nat, j ≤ m ∧ RS wr r g (l.drop (1 * j)) ((1 * j : Nat) : Int) 0 ∧ wr.ownsRow w.heap.size 9 1 v j (tv (wt t8 1 l j)) ∧ Below r w wr) (fun v _ => m - slen v)
  case atStart => exact ⟨0, by omega, h, World.ownsRow_nil _ _ _ _, Below.refl _ _⟩
  case round =>
    rename_i v _
    obtain ⟨j, hj, rs, hown, B0⟩ := hrel
    have hsl := own_slen hown
    have kL := fun w rs => leftAny r g (l.drop (1 * j)) ((1 * j : Nat) : Int) w rs
    have hlen : (l.drop (1 * j)).length = 1 * (m - j) := by rw [List.length_drop]; omega
    rw [hlen] at kL
    by_cases hlt : j < m
    · have hI : (0 : Int) < ((1 * (m - j) : Nat) : Int) := by omega
      obtain ⟨hv, hvl⟩ := vwLt8 hb j (by omega)
      obtain ⟨y1, y2, y3, y4⟩ := g_yes (W := 1) (l := l.drop (1 * j)) (p := ((1 * j : Nat) : Int)) (by omega)
      have kG := fun w rs => getAny8 r g (l.drop (1 * j)) ((1 * j : Nat) : Int) 0 w rs (by omega) (by omega)
      rw [y1, y2, y3, y4, hv, List.drop_drop] at kG
      have kT := fun w hT => decimal_ (vw 1 l j) w hvl hT
      have HSS : Hid (tv (wt t8 1 l j) ++ [.string (sb (t8 (vw 1 l j)))] = tv (wt t8 1 l (j + 1))) := by
        show _ = _
        rw [wt_succ]
        simp [tv]
      have kT2 : ∀ w, Tb w → Calls Tryz.prog 156 #[.int .u8 (vw 1 l j : Nat)] w fun e w' => e = .returned (.string (sb (t8 (vw 1 l j)))) ∧ Below w.heap.size w w' := kT
      have hrs : ((1 * j : Nat) : Int) + (1 : Nat) = ((1 * (j + 1) : Nat) : Int) := by omega
      have hrd : 1 * j + 1 = 1 * (j + 1) := by omega
      rw [hrs, hrd] at kG
      clear kT hv y1 y2 y3 y4 hlen
      generalize sb (t8 (vw 1 l j)) = X at *
      generalize vw 1 l j = x at *
      generalize (1 * (m - j) : Nat) = q at *
      go_wp2_with fail
      refine (kL _ rs).mono ?_
      rintro e w1 ⟨rfl, rfl⟩
      clear kL
      go_wp2_with fail
      refine (kG _ rs).mono ?_
      rintro e w2 ⟨rfl, rs2, ho⟩
      replace hown := own_from hown (fun k hk => ho.block k (by omega))
      replace B0 := bel_only B0 ho (Nat.le_refl _)
      clear rs kG ho
      have hs0 := B0.size
      have hT2 : Tb w2 := hT.kept (hB0.trans (B0.mono hr0))
      go_wp2_with fail
      refine (kT2 _ hT2).mono ?_
      rintro e w3 ⟨rfl, g3⟩
      replace hown := own_bel7 hown g3
      replace rs2 := rs2.kept g3
      replace B0 := bel_bel B0 (by omega) g3
      have hs := Nat.le_trans hs0 g3.size
      clear kT2 hT2 g3
      have HO := hid hown
      go_wp2_with (at_builtin; refine wpList_append_own _ rfl _ _ 86 rfl w.heap.size 9 i5 (.string ⟨#[]⟩) 1 16 Tryz.underlying86 hi hz0 hz1 hz2 rfl (by decide) _ _ _ rfl (hown.alloc _) ⟨w3.heap.size, 0, none⟩ 1 1 [.string X] rfl rfl ?c1 ?c2 ?c3 ?c4 ?c5 ?_)
      case c1 => exact one_src _ _ _
      case c2 => intro u hu; rw [List.mem_singleton.1 hu]; rfl
      case c3 => unfold maxLen; omega
      case c4 => omega
      case c5 => simp <;> omega
      intro v' w6 hown' hgrow _
      have hown2 : w6.ownsRow w.heap.size 9 1 v' (j + 1) (tv (wt t8 1 l (j + 1))) := by rw [← HSS.out]; exact hown'
      have B3 : Below w.heap.size w3 w6 := ((Below.refl _ w3).alloc (by omega) _).grown hgrow (by simp; omega) fun p hp => (HO.out.lt p hp).1
      replace rs2 := rs2.bel B3 hrw (by omega)
      replace B0 := B0.trans (B3.mono (by omega))
      have hsl2 := own_slen hown2
      clear hown' hgrow HO HSS hown B3
      go_wp2_with fail
      go_roundw
      case rel => exact ⟨j + 1, by omega, rs2, hown2, B0⟩
      case measure => simp [hsl2, hsl] <;> omega
    · obtain rfl : j = m := by omega
      have e0 : 1 * (j - j) = 0 := by omega
      rw [e0] at kL
      clear hlen e0
      go_wp2_with fail
      refine (kL _ rs).mono ?_
      rintro e w1 ⟨rfl, rfl⟩
      clear kL
      go_wp2_with fail
      go_ret
      exact ⟨_, rfl, hown, B0⟩
theorem vwLt16 {l : List Int} (hb : ∀ z ∈ l, 0 ≤ z ∧ z ≤ 255) (i : Nat) (h : 2 * i + 2 ≤ l.length) : val ((l.drop (2 * i)).take 2) = ((vw 2 l i : Nat) : Int) ∧ vw 2 l i < 65536 := by
  have h1 := valLt16 (zs := l.drop (2 * i)) (by rw [List.length_drop]; omega) (fun z hz => hb z (List.mem_of_mem_drop (List.mem_of_mem_take hz)))
  unfold vw
  omega
set_option maxHeartbeats 1000000 in
theorem written16_ (r g m : Nat) (l : List Int) (w : World) (h : RS w r g l 0 0) (hl : l.length = 2 * m) (hm : m ≤ 16) (hb : ∀ z ∈ l, 0 ≤ z ∧ z ≤ 255) (hgr : g < r) (w0 : World) (hT : Tb w0) (hr0 : w0.heap.size ≤ r) (hB0 : Below w0.heap.size w0 w) :
    Calls Tryz.prog 157 #[.pointer (some ⟨r, 0, none⟩), .func (.func 158) #[] #[]] w fun e w' => ∃ v, e = .returned v ∧ w'.ownsRow w.heap.size 9 1 v m (tv (wt t16 2 l m)) ∧ Below r w w' := by
  obtain ⟨i5, hi, hz0, hz1, hz2⟩ := info_parts info_s
  have hrw := h.lt
  go_enter Tryz.func157, Tryz.ntmps157
  go_wp2_with fail
  go_loopw [5] (fun v wr => ∃ j : Nat, j ≤ m ∧ RS wr r g (l.drop (2 * j)) ((2 * j : Nat) : Int) 0 ∧ wr.ownsRow w.heap.size 9 1 v j (tv (wt t16 2 l j)) ∧ Below r w wr) (fun v _ => m - slen v)
  case atStart => exact ⟨0, by omega, h, World.ownsRow_nil _ _ _ _, Below.refl _ _⟩
  case round =>
    rename_i v _
    obtain ⟨j, hj, rs, hown, B0⟩ := hrel
    have hsl := own_slen hown
    have kL := fun w rs => leftAny r g (l.drop (2 * j)) ((2 * j : Nat) : Int) w rs
    have hlen : (l.drop (2 * j)).length = 2 * (m - j) := by rw [List.length_drop]; omega
    rw [hlen] at kL
    by_cases hlt : j < m
    · have hI : (0 : Int) < ((2 * (m - j) : Nat) : Int) := by omega
      obtain ⟨hv, hvl⟩ := vwLt16 hb j (by omega)
      obtain ⟨y1, y2, y3, y4⟩ := g_yes (W := 2) (l := l.drop (2 * j)) (p := ((2 * j : Nat) : Int)) (by omega)
      have kG := fun w rs => getAny16 r g (l.drop (2 * j)) ((2 * j : Nat) : Int) 0 w rs (by omega) (by omega)
      rw [y1, y2, y3, y4, hv, List.drop_drop] at kG
      have kT := fun w hT => pair_ (vw 2 l j) w hvl hT
      have HSS : Hid (tv (wt t16 2 l j) ++ [.string (sb (t16 (vw 2 l j)))] = tv (wt t16 2 l (j + 1))) := by
        show _ = _
        rw [wt_succ]
        simp [tv]
      have kT2 : ∀ w, Tb w → Calls Tryz.prog 158 #[.int .u16 (vw 2 l j : Nat)] w fun e w' => e = .returned (.string (sb (t16 (vw 2 l j)))) ∧ Below w.heap.size w w' := kT
      have hrs : ((2 * j : Nat) : Int) + (2 : Nat) = ((2 * (j + 1) : Nat) : Int) := by omega
      have hrd : 2 * j + 2 = 2 * (j + 1) := by omega
      rw [hrs, hrd] at kG
      clear kT hv y1 y2 y3 y4 hlen
      generalize sb (t16 (vw 2 l j)) = X at *
      generalize vw 2 l j = x at *
      generalize (2 * (m - j) : Nat) = q at *
      go_wp2_with fail
      refine (kL _ rs).mono ?_
      rintro e w1 ⟨rfl, rfl⟩
      clear kL
      go_wp2_with fail
      refine (kG _ rs).mono ?_
      rintro e w2 ⟨rfl, rs2, ho⟩
      replace hown := own_from hown (fun k hk => ho.block k (by omega))
      replace B0 := bel_only B0 ho (Nat.le_refl _)
      clear rs kG ho
      have hs0 := B0.size
      have hT2 : Tb w2 := hT.kept (hB0.trans (B0.mono hr0))
      go_wp2_with fail
      refine (kT2 _ hT2).mono ?_
      rintro e w3 ⟨rfl, g3⟩
      replace hown := own_bel7 hown g3
      replace rs2 := rs2.kept g3
      replace B0 := bel_bel B0 (by omega) g3
      have hs := Nat.le_trans hs0 g3.size
      clear kT2 hT2 g3
      have HO := hid hown
      go_wp2_with (at_builtin; refine wpList_append_own _ rfl _ _ 86 rfl w.heap.size 9 i5 (.string ⟨#[]⟩) 1 16 Tryz.underlying86 hi hz0 hz1 hz2 rfl (by decide) _ _ _ rfl (hown.alloc _) ⟨w3.heap.size, 0, none⟩ 1 1 [.string X] rfl rfl ?c1 ?c2 ?c3 ?c4 ?c5 ?_)
      case c1 => exact one_src _ _ _
      case c2 => intro u hu; rw [List.mem_singleton.1 hu]; rfl
      case c3 => unfold maxLen; omega
      case c4 => omega
      case c5 => simp <;> omega
      intro v' w6 hown' hgrow _
      have hown2 : w6.ownsRow w.heap.size 9 1 v' (j + 1) (tv (wt t16 2 l (j + 1))) := by rw [← HSS.out]; exact hown'
      have B3 : Below w.heap.size w3 w6 := ((Below.refl _ w3).alloc (by omega) _).grown hgrow (by simp; omega) fun p hp => (HO.out.lt p hp).1
      replace rs2 := rs2.bel B3 hrw (by omega)
      replace B0 := B0.trans (B3.mono (by omega))
      have hsl2 := own_slen hown2
      clear hown' hgrow HO HSS hown B3
      go_wp2_with fail
      go_roundw
      case rel => exact ⟨j + 1, by omega, rs2, hown2, B0⟩
      case measure => simp [hsl2, hsl] <;> omega
    · obtain rfl : j = m := by omega
      have e0 : 2 * (j - j) = 0 := by omega
      rw [e0] at kL
      clear hlen e0
      go_wp2_with fail
      refine (kL _ rs).mono ?_
      rintro e w1 ⟨rfl, rfl⟩
      clear kL
      go_wp2_with fail
      go_ret
      exact ⟨_, rfl, hown, B0⟩
end Go.Proofs.YtkeogggeefnoeaaGreatDoor
namespace Go.Proofs.YtkeogggeefnoeaaGreatDoor
set_option linter.unusedSimpArgs false
set_option maxRecDepth 100000
open Go.RowKit
set_option linter.unusedVariables false

/-- Texts joined by a sign. -/
def jn (c : Nat) : List (List Nat) → List Nat
  | [] => []
  | [x] => x
  | x :: y :: r => x ++ c :: jn c (y :: r)
theorem join_sb (c : Nat) (ls : List (List Nat)) : (⟨(Lib.join ((ls.map sb).map (·.data.toList)) (sb [c]).data.toList).toArray⟩ : ByteArray) = sb (jn c ls) := by
  have e : ∀ ls : List (List Nat), Lib.join ((ls.map sb).map (·.data.toList)) (sb [c]).data.toList = (jn c ls).map UInt8.ofNat := by
    intro ls
    induction ls with
    | nil => rfl
    | cons x r ih =>
      cases r with
      | nil => simp [Lib.join, List.intercalate, jn, sb]
      | cons y r =>
        rw [jn, List.map_append]
        show _ = x.map UInt8.ofNat ++ (UInt8.ofNat c :: (jn c (y :: r)).map UInt8.ofNat)
        rw [← ih]
        simp [Lib.join, List.intercalate, sb]
  rw [e]
  rfl
theorem join_len (c : Nat) (ls : List (List Nat)) (h : ∀ x ∈ ls, x.length ≤ 4) : (jn c ls).length ≤ 5 * ls.length := by
  induction ls with
  | nil => simp [jn]
  | cons x r ih =>
    cases r with
    | nil => have := h x (by simp); simp [jn]; omega
    | cons y r =>
      have h1 := h x (by simp)
      have h2 := ih (fun z hz => h z (by simp [hz]))
      rw [jn, List.length_append, List.length_cons]
      simp only [List.length_cons] at h2 ⊢
      omega
theorem joinLib_len (c : Nat) (ls : List (List Nat)) : (Lib.join ((ls.map sb).map (·.data.toList)) (sb [c]).data.toList).length = (jn c ls).length := by
  have := congrArg (fun b : ByteArray => b.data.size) (join_sb c ls)
  simpa [sb] using this
theorem tv_cell {w : World} {g n : Nat} {cur : Array Value} {ls : List (List Nat)} (hg : w.heap[g]? = some (.cells cur 9 (0, 0))) (ht : cur.toList.take n = tv ls) (hn : ls.length = n) (j : Nat) (x : ByteArray) (h : (ls.map sb)[j]? = some x) : w.cell? ⟨g, 0 + j, none⟩ = some (.string x) := by
  rw [Nat.zero_add, cell_of_row w g j cur _ (0, 0) hg]
  have hj : j < ls.length := by have := (List.getElem?_eq_some_iff.1 h).1; simpa using this
  have h1 : (tv ls)[j]? = some (.string x) := by
    simp only [tv, List.getElem?_map] at h ⊢
    cases q : ls[j]? with
    | none => rw [q] at h; simp at h
    | some y => rw [q] at h; simp at h; simp [h]
  rw [← ht, List.getElem?_take, if_pos (by omega)] at h1
  simpa using h1
/-- strings.Join of an own row of texts. -/
theorem join_ (c m : Nat) (v : Value) (ls : List (List Nat)) (B : Nat) (w : World) (hown : w.ownsRow B 9 1 v m (tv ls)) (hm : ls.length = m) (hs : m ≤ 16) (hx : ∀ x ∈ ls, x.length ≤ 4) :
    Calls Tryz.prog 154 #[v, .string (sb [c])] w fun e w' => e = .returned (.string (sb (jn c ls))) ∧ Below w.heap.size w w' := by
  have hjl := join_len c ls hx
  rcases hown.2 with ⟨rfl, h0⟩ | ⟨g, cap, cur, rfl, hb, hg, hnc, hcm, hsz, ht⟩
  · obtain rfl : m = 0 := h0
    obtain rfl : ls = [] := List.eq_nil_of_length_eq_zero hm
    refine (Tryz.strings_Join_none none 0 (sb [c]) w).mono ?_
    rintro e w' ⟨rfl, rfl⟩
    exact ⟨rfl, Below.refl _ _⟩
  · rw [Nat.mul_one] at ht hsz
    have hlt : g < w.heap.size := (Array.getElem?_eq_some_iff.1 hg).1
    have k := Tryz.strings_Join g 0 cap (ls.map sb) (sb [c]) w (fun j x h => tv_cell hg ht hm j x h) hlt (by rw [List.length_map]; omega) (by rw [List.length_map]; omega) (by rw [joinLib_len]; omega)
    rw [List.length_map, hm] at k
    refine k.mono ?_
    rintro e w' ⟨rfl, g2⟩
    exact ⟨by rw [join_sb], g2⟩
end Go.Proofs.YtkeogggeefnoeaaGreatDoor
