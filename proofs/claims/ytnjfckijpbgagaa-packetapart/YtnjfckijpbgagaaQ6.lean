import Derived.Test.YtnjfckijpbgagaaBVal
import Derived.Test.YtnjfckijpbgagaaQ3
namespace Go.Proofs.Ytnjfckijpbgagaa
set_option maxRecDepth 100000
open Go.RowKit
set_option linter.unusedVariables false

theorem valLt8 {zs : List Int} (hW : 1 ≤ zs.length) (hb : ∀ z ∈ zs.take 1, 0 ≤ z ∧ z ≤ 255) : 0 ≤ val (zs.take 1) ∧ val (zs.take 1) < 256 := val_w hW hb

set_option maxHeartbeats 400000 in
theorem get8_whole (r g : Nat) (zs : List Int) (p : Int) (w : World) (h : Rd w r g zs p) (hm : 1 ≤ zs.length) (hn : zs.length ≤ 1000000000) (hp : 0 ≤ p) (hp1 : p ≤ 1000000000) :
    Calls Try.prog 84 #[.pointer (some ⟨r, 0, none⟩)] w fun en w' => en = .returned (.int .u8 (val (zs.take 1))) ∧ Rd w' r g (zs.drop 1) (p + 1) ∧ Only r w w' := by
  go_enter Try.func84, Try.ntmps84
  go_wp2_with (first
    | (go_at_call 69; refine (width8 _).mono ?_; rintro e w' ⟨rfl, hw⟩; obtain rfl := hw.symm; clear hw)
    | (go_at_call 106; refine (take_whole r g 1 zs p _ h hm hn hp hp1).mono ?_; rintro e w1 ⟨a, rfl, h1, h2, h3⟩))
  have H2 := hid h2
  clear h2
  obtain ⟨e1, e2, e3⟩ := h1.bs
  clear h1
  go_loop [3, 5, 10] (fun x _ i => ∃ k : Nat, k ≤ 1 ∧ x = .int .u64 (vk zs 1 k) ∧ i = .int .i64 k) (fun _ _ i => 1 - (intOf i).toNat)
  case atStart => exact ⟨0, by omega, by rw [vk_zero], rfl⟩
  case round =>
    obtain ⟨k, hk, rfl, rfl⟩ := hrel
    by_cases hlt : k < 1
    · rcases e3 with e3 | ⟨b, off, rfl, hc⟩
      · omega
      have hck := hc k hlt
      have hzb := getD_byteP (zs.take 1) k (by omega) e2
      have hst := hid (vk_step zs 1 k (by omega))
      have hv := vk_small zs 1 k (by omega) (by omega) e2
      clear hc e1 e2
      generalize (zs.take 1).getD k 0 = z at *
      have hor := or8 (vk zs 1 k) z hv.1 hv.2 hzb.1 hzb.2
      obtain ⟨z0, z1⟩ := hzb
      obtain ⟨v0, v1⟩ := hv
      go_wp2
      go_round
      case rel => exact ⟨k + 1, by omega, by rw [hst.out], by go_num⟩
      case measure => simp [intOf]; omega
    · obtain rfl : k = 1 := by omega
      have hval := valLt8 hm e2
      rw [vk_all zs 1 hm]
      generalize hgv : val (zs.take 1) = v at *
      have HV := hid hgv
      clear hgv
      obtain ⟨v0, v1⟩ := hval
      clear e1 e2 e3
      go_wp2
      go_ret
      exact ⟨congrArg (fun q => Ending.returned (.int .u8 q)) HV.out.symm, (by first | exact H2.out | simpa using H2.out), h3⟩

set_option maxHeartbeats 400000 in
theorem get8_short (r g : Nat) (zs : List Int) (p : Int) (w : World) (h : Rd w r g zs p) (hm : zs.length < 1) :
    Calls Try.prog 84 #[.pointer (some ⟨r, 0, none⟩)] w fun en w' => en = .returned (.int .u8 0) ∧ Rb w' r p 10 ∧ Only r w w' := by
  have hB : Brk 1 zs.length 10 := .inr ⟨by omega, by omega, rfl⟩
  go_enter Try.func84, Try.ntmps84
  go_wp2_with (first
    | (go_at_call 69; refine (width8 _).mono ?_; rintro e w' ⟨rfl, hw⟩; obtain rfl := hw.symm; clear hw)
    | (go_at_call 106; refine (take_breaks r g 1 10 zs p _ h hB).mono ?_; rintro e w1 ⟨rfl, h1, h2⟩))
  go_loop [3, 5, 10] (fun x _ i => x = .int .u64 0 ∧ i = .int .i64 0) (fun _ _ i => 0)
  case atStart => exact ⟨rfl, rfl⟩
  case round =>
    obtain ⟨rfl, rfl⟩ := hrel
    go_wp2
    go_ret
    exact ⟨rfl, h1, h2⟩

set_option maxHeartbeats 400000 in
theorem get8_broken (r : Nat) (p e : Int) (w : World) (h : Rb w r p e) :
    Calls Try.prog 84 #[.pointer (some ⟨r, 0, none⟩)] w fun en w' => en = .returned (.int .u8 0) ∧ w' = w := by
  go_enter Try.func84, Try.ntmps84
  go_wp2_with (first
    | (go_at_call 69; refine (width8 _).mono ?_; rintro e w' ⟨rfl, hw⟩; obtain rfl := hw.symm; clear hw)
    | (go_at_call 106; refine (take_broken r 0 0 none p e 1 _ h.1 h.2).mono ?_; rintro e w1 ⟨rfl, hw⟩; obtain rfl := hw.symm; clear hw))
  go_loop [3, 5, 10] (fun x _ i => x = .int .u64 0 ∧ i = .int .i64 0) (fun _ _ i => 0)
  case atStart => exact ⟨rfl, rfl⟩
  case round =>
    obtain ⟨rfl, rfl⟩ := hrel
    go_wp2
    go_ret
    exact ⟨rfl, rfl⟩

theorem valLt32 {zs : List Int} (hW : 4 ≤ zs.length) (hb : ∀ z ∈ zs.take 4, 0 ≤ z ∧ z ≤ 255) : 0 ≤ val (zs.take 4) ∧ val (zs.take 4) < 4294967296 := val_w hW hb

set_option maxHeartbeats 400000 in
theorem get32_whole (r g : Nat) (zs : List Int) (p : Int) (w : World) (h : Rd w r g zs p) (hm : 4 ≤ zs.length) (hn : zs.length ≤ 1000000000) (hp : 0 ≤ p) (hp1 : p ≤ 1000000000) :
    Calls Try.prog 86 #[.pointer (some ⟨r, 0, none⟩)] w fun en w' => en = .returned (.int .u32 (val (zs.take 4))) ∧ Rd w' r g (zs.drop 4) (p + 4) ∧ Only r w w' := by
  go_enter Try.func86, Try.ntmps86
  go_wp2_with (first
    | (go_at_call 68; refine (width32 _).mono ?_; rintro e w' ⟨rfl, hw⟩; obtain rfl := hw.symm; clear hw)
    | (go_at_call 106; refine (take_whole r g 4 zs p _ h hm hn hp hp1).mono ?_; rintro e w1 ⟨a, rfl, h1, h2, h3⟩))
  have H2 := hid h2
  clear h2
  obtain ⟨e1, e2, e3⟩ := h1.bs
  clear h1
  go_loop [3, 5, 10] (fun x _ i => ∃ k : Nat, k ≤ 4 ∧ x = .int .u64 (vk zs 4 k) ∧ i = .int .i64 k) (fun _ _ i => 4 - (intOf i).toNat)
  case atStart => exact ⟨0, by omega, by rw [vk_zero], rfl⟩
  case round =>
    obtain ⟨k, hk, rfl, rfl⟩ := hrel
    by_cases hlt : k < 4
    · rcases e3 with e3 | ⟨b, off, rfl, hc⟩
      · omega
      have hck := hc k hlt
      have hzb := getD_byteP (zs.take 4) k (by omega) e2
      have hst := hid (vk_step zs 4 k (by omega))
      have hv := vk_small zs 4 k (by omega) (by omega) e2
      clear hc e1 e2
      generalize (zs.take 4).getD k 0 = z at *
      have hor := or8 (vk zs 4 k) z hv.1 hv.2 hzb.1 hzb.2
      obtain ⟨z0, z1⟩ := hzb
      obtain ⟨v0, v1⟩ := hv
      go_wp2
      go_round
      case rel => exact ⟨k + 1, by omega, by rw [hst.out], by go_num⟩
      case measure => simp [intOf]; omega
    · obtain rfl : k = 4 := by omega
      have hval := valLt32 hm e2
      rw [vk_all zs 4 hm]
      generalize hgv : val (zs.take 4) = v at *
      have HV := hid hgv
      clear hgv
      obtain ⟨v0, v1⟩ := hval
      clear e1 e2 e3
      go_wp2
      go_ret
      exact ⟨congrArg (fun q => Ending.returned (.int .u32 q)) HV.out.symm, (by first | exact H2.out | simpa using H2.out), h3⟩

set_option maxHeartbeats 400000 in
theorem get32_short (r g : Nat) (zs : List Int) (p : Int) (w : World) (h : Rd w r g zs p) (hm : zs.length < 4) :
    Calls Try.prog 86 #[.pointer (some ⟨r, 0, none⟩)] w fun en w' => en = .returned (.int .u32 0) ∧ Rb w' r p 10 ∧ Only r w w' := by
  have hB : Brk 4 zs.length 10 := .inr ⟨by omega, by omega, rfl⟩
  go_enter Try.func86, Try.ntmps86
  go_wp2_with (first
    | (go_at_call 68; refine (width32 _).mono ?_; rintro e w' ⟨rfl, hw⟩; obtain rfl := hw.symm; clear hw)
    | (go_at_call 106; refine (take_breaks r g 4 10 zs p _ h hB).mono ?_; rintro e w1 ⟨rfl, h1, h2⟩))
  go_loop [3, 5, 10] (fun x _ i => x = .int .u64 0 ∧ i = .int .i64 0) (fun _ _ i => 0)
  case atStart => exact ⟨rfl, rfl⟩
  case round =>
    obtain ⟨rfl, rfl⟩ := hrel
    go_wp2
    go_ret
    exact ⟨rfl, h1, h2⟩

set_option maxHeartbeats 400000 in
theorem get32_broken (r : Nat) (p e : Int) (w : World) (h : Rb w r p e) :
    Calls Try.prog 86 #[.pointer (some ⟨r, 0, none⟩)] w fun en w' => en = .returned (.int .u32 0) ∧ w' = w := by
  go_enter Try.func86, Try.ntmps86
  go_wp2_with (first
    | (go_at_call 68; refine (width32 _).mono ?_; rintro e w' ⟨rfl, hw⟩; obtain rfl := hw.symm; clear hw)
    | (go_at_call 106; refine (take_broken r 0 0 none p e 4 _ h.1 h.2).mono ?_; rintro e w1 ⟨rfl, hw⟩; obtain rfl := hw.symm; clear hw))
  go_loop [3, 5, 10] (fun x _ i => x = .int .u64 0 ∧ i = .int .i64 0) (fun _ _ i => 0)
  case atStart => exact ⟨rfl, rfl⟩
  case round =>
    obtain ⟨rfl, rfl⟩ := hrel
    go_wp2
    go_ret
    exact ⟨rfl, rfl⟩

theorem valLt64 {zs : List Int} (hW : 8 ≤ zs.length) (hb : ∀ z ∈ zs.take 8, 0 ≤ z ∧ z ≤ 255) : 0 ≤ val (zs.take 8) ∧ val (zs.take 8) < 18446744073709551616 := val_w hW hb

set_option maxHeartbeats 400000 in
theorem get64_whole (r g : Nat) (zs : List Int) (p : Int) (w : World) (h : Rd w r g zs p) (hm : 8 ≤ zs.length) (hn : zs.length ≤ 1000000000) (hp : 0 ≤ p) (hp1 : p ≤ 1000000000) :
    Calls Try.prog 87 #[.pointer (some ⟨r, 0, none⟩)] w fun en w' => en = .returned (.int .u64 (val (zs.take 8))) ∧ Rd w' r g (zs.drop 8) (p + 8) ∧ Only r w w' := by
  go_enter Try.func87, Try.ntmps87
  go_wp2_with (first
    | (go_at_call 67; refine (width64 _).mono ?_; rintro e w' ⟨rfl, hw⟩; obtain rfl := hw.symm; clear hw)
    | (go_at_call 106; refine (take_whole r g 8 zs p _ h hm hn hp hp1).mono ?_; rintro e w1 ⟨a, rfl, h1, h2, h3⟩))
  have H2 := hid h2
  clear h2
  obtain ⟨e1, e2, e3⟩ := h1.bs
  clear h1
  go_loop [3, 5, 10] (fun x _ i => ∃ k : Nat, k ≤ 8 ∧ x = .int .u64 (vk zs 8 k) ∧ i = .int .i64 k) (fun _ _ i => 8 - (intOf i).toNat)
  case atStart => exact ⟨0, by omega, by rw [vk_zero], rfl⟩
  case round =>
    obtain ⟨k, hk, rfl, rfl⟩ := hrel
    by_cases hlt : k < 8
    · rcases e3 with e3 | ⟨b, off, rfl, hc⟩
      · omega
      have hck := hc k hlt
      have hzb := getD_byteP (zs.take 8) k (by omega) e2
      have hst := hid (vk_step zs 8 k (by omega))
      have hv := vk_small zs 8 k (by omega) (by omega) e2
      clear hc e1 e2
      generalize (zs.take 8).getD k 0 = z at *
      have hor := or8 (vk zs 8 k) z hv.1 hv.2 hzb.1 hzb.2
      obtain ⟨z0, z1⟩ := hzb
      obtain ⟨v0, v1⟩ := hv
      go_wp2
      go_round
      case rel => exact ⟨k + 1, by omega, by rw [hst.out], by go_num⟩
      case measure => simp [intOf]; omega
    · obtain rfl : k = 8 := by omega
      have hval := valLt64 hm e2
      rw [vk_all zs 8 hm]
      generalize hgv : val (zs.take 8) = v at *
      have HV := hid hgv
      clear hgv
      obtain ⟨v0, v1⟩ := hval
      clear e1 e2 e3
      go_wp2
      go_ret
      exact ⟨congrArg (fun q => Ending.returned (.int .u64 q)) HV.out.symm, (by first | exact H2.out | simpa using H2.out), h3⟩

set_option maxHeartbeats 400000 in
theorem get64_short (r g : Nat) (zs : List Int) (p : Int) (w : World) (h : Rd w r g zs p) (hm : zs.length < 8) :
    Calls Try.prog 87 #[.pointer (some ⟨r, 0, none⟩)] w fun en w' => en = .returned (.int .u64 0) ∧ Rb w' r p 10 ∧ Only r w w' := by
  have hB : Brk 8 zs.length 10 := .inr ⟨by omega, by omega, rfl⟩
  go_enter Try.func87, Try.ntmps87
  go_wp2_with (first
    | (go_at_call 67; refine (width64 _).mono ?_; rintro e w' ⟨rfl, hw⟩; obtain rfl := hw.symm; clear hw)
    | (go_at_call 106; refine (take_breaks r g 8 10 zs p _ h hB).mono ?_; rintro e w1 ⟨rfl, h1, h2⟩))
  go_loop [3, 5, 10] (fun x _ i => x = .int .u64 0 ∧ i = .int .i64 0) (fun _ _ i => 0)
  case atStart => exact ⟨rfl, rfl⟩
  case round =>
    obtain ⟨rfl, rfl⟩ := hrel
    go_wp2
    go_ret
    exact ⟨rfl, h1, h2⟩

set_option maxHeartbeats 400000 in
theorem get64_broken (r : Nat) (p e : Int) (w : World) (h : Rb w r p e) :
    Calls Try.prog 87 #[.pointer (some ⟨r, 0, none⟩)] w fun en w' => en = .returned (.int .u64 0) ∧ w' = w := by
  go_enter Try.func87, Try.ntmps87
  go_wp2_with (first
    | (go_at_call 67; refine (width64 _).mono ?_; rintro e w' ⟨rfl, hw⟩; obtain rfl := hw.symm; clear hw)
    | (go_at_call 106; refine (take_broken r 0 0 none p e 8 _ h.1 h.2).mono ?_; rintro e w1 ⟨rfl, hw⟩; obtain rfl := hw.symm; clear hw))
  go_loop [3, 5, 10] (fun x _ i => x = .int .u64 0 ∧ i = .int .i64 0) (fun _ _ i => 0)
  case atStart => exact ⟨rfl, rfl⟩
  case round =>
    obtain ⟨rfl, rfl⟩ := hrel
    go_wp2
    go_ret
    exact ⟨rfl, rfl⟩


end Go.Proofs.Ytnjfckijpbgagaa
namespace Go.Proofs.Ytnjfckijpbgagaa
set_option maxRecDepth 100000
open Go.RowKit
set_option linter.unusedVariables false

theorem Row.own {w : World} {g b : Nat} {zs : List Int} (h : Row w g zs) (hb : b ≤ g) (hm : zs.length ≤ maxLen) : w.ownsRow b 5 1 (.slice (some ⟨g, 0, none⟩) zs.length zs.length) zs.length (cells zs) :=
  ⟨by rw [cells_length, Nat.mul_one], .inr ⟨g, zs.length, _, rfl, hb, h, Nat.le_refl _, hm, by simp [cells_length], by rw [Nat.mul_one]; exact List.take_of_length_le (by rw [cells_length]; exact Nat.le_refl _)⟩⟩
theorem be_ad {H L : Int} (hH : InU H) (hL : InU L) : be 8 H ++ be 8 L = be 16 (ad H L) := by
  unfold InU at hH hL
  have h1 : be 8 H = [H / 256 ^ 7 % 256, H / 256 ^ 6 % 256, H / 256 ^ 5 % 256, H / 256 ^ 4 % 256, H / 256 ^ 3 % 256, H / 256 ^ 2 % 256, H / 256 ^ 1 % 256, H / 256 ^ 0 % 256] := rfl
  have h2 : be 8 L = [L / 256 ^ 7 % 256, L / 256 ^ 6 % 256, L / 256 ^ 5 % 256, L / 256 ^ 4 % 256, L / 256 ^ 3 % 256, L / 256 ^ 2 % 256, L / 256 ^ 1 % 256, L / 256 ^ 0 % 256] := rfl
  have hv := be_val (be 8 H ++ be 8 L) (fun z hz => by
    rcases List.mem_append.1 hz with h | h
    · exact be_byte _ _ z h
    · exact be_byte _ _ z h)
  have hl : (be 8 H ++ be 8 L).length = 16 := rfl
  rw [hl] at hv
  have e : val (be 8 H ++ be 8 L) = ad H L := by
    have ea : val (be 8 H ++ be 8 L) = val (be 8 H) * 256 ^ 8 + val (be 8 L) := by
      have := fold_val (be 8 L) (val (be 8 H))
      unfold val at *
      rw [List.foldl_append, this]
      rfl
    rw [ea, val_be, val_be]
    unfold ad
    have : (256 : Int) ^ 8 = 18446744073709551616 := by decide
    rw [this]
    omega
  rw [e] at hv
  exact hv.symm
set_option maxHeartbeats 1000000 in
theorem putAddr_ (F H L : Int) (w : World) (hF : InI F) (hH : InU H) (hL : InU L) :
    Calls Try.prog 38 #[.agg #[.int .i64 F, .int .u64 H, .int .u64 L]] w fun e w' => ∃ v, e = .returned v ∧ w'.ownsRow w.heap.size 5 1 v (pa F H L).length (cells (pa F H L)) ∧ Below w.heap.size w w' := by
  have B0 := anew w F H L
  have m0 := Am.new w F H L
  have k1 := fun w => validAddr_ F H L w hF hH hL
  have c0 := m0.c0
  have c1 := m0.c1
  have c2 := m0.c2
  go_enter Try.func38, Try.ntmps38
  go_wp2_with fail
  clear c0 c1 c2
  refine (k1 _).mono ?_
  rintro e w1 ⟨rfl, g2⟩
  replace m0 := m0.kept g2
  replace B0 := bel_bel B0 B0.size g2
  clear g2 k1
  have c0 := m0.c0
  have c1 := m0.c1
  have c2 := m0.c2
  cases hv : va F H L with
  | false =>
    go_wp2_with fail
    go_ret
    have e : pa F H L = [] := by unfold pa; rw [hv]; rfl
    rw [e]
    exact ⟨_, rfl, World.ownsRow_nil _ _ _ _, B0⟩
  | true =>
    have hFF := of_decide_eq_true (show decide _ = true from hv)
    have HP : Hid (pa F H L = be (nb F / 8) (ad H L)) := by show _ = _; unfold pa; rw [hv]; rfl
    have hz : Bs w1 none 0 [] := ⟨rfl, by simp, .inl rfl⟩
    have hs := B0.size
    by_cases h4 : F = 4
    · subst h4
      obtain ⟨rfl, h2⟩ : H = 0 ∧ L < 4294967296 := by
        rcases hFF with h | h
        · omega
        · exact h.2
      have hLm : L % 4294967296 = L := Int.emod_eq_of_lt hL.1 h2
      have HQ : Hid (pa 4 0 L = be 4 L) := by
        show _ = _
        rw [HP.out]
        show be 4 (ad 0 L) = _
        unfold ad
        rw [Int.zero_mul, Int.zero_add]
      have k2 := fun w hz => putW32 none 0 0 [] L w hz (by omega) hL.1 (by omega)
      clear hFF hv HP hH
      unfold InU at hL
      go_wp2_with fail
      refine (k2 _ hz).mono ?_
      rintro e w2 ⟨rfl, hr, g2⟩
      clear c0 c1 c2
      replace B0 := bel_grow B0 B0.size g2
      go_wp2_with fail
      go_ret
      rw [HQ.out]
      rw [List.nil_append] at hr
      exact ⟨_, rfl, hr.own hs (by rw [be_length]; unfold maxLen; omega), B0⟩
    · have e4 : (F == 4) = false := by simpa using h4
      obtain rfl : F = 6 := by
        rcases hFF with h | h
        · exact h
        · exact absurd h.1 h4
      have HQ : Hid (pa 6 H L = be 8 H ++ be 8 L) := by
        show _ = _
        rw [HP.out, be_ad hH hL]
        rfl
      have k2 := fun w hz => putW64 none 0 0 [] H w hz (by omega) hH.1 hH.2
      have k3 := fun g w hz => putW64 (some ⟨g, 0, none⟩) 8 8 (be 8 H) L w hz (by omega) hL.1 hL.2
      clear hFF hv HP
      go_wp2_with fail
      refine wp_region_held_drew (S := fun wx => Am wx w.heap.size 6 H L) (by kernel_rfl) m0.drew (fun hHeld => ?_)
      replace m0 := m0.drew
      replace B0 := bel_drew1P B0
      replace hz : Bs w1.drew none 0 [] := ⟨rfl, by simp, .inl rfl⟩
      have hs1 : w.heap.size ≤ w1.drew.heap.size := hs
      clear c0 c1 c2
      generalize w1.drew = wd at *
      refine take_toP 0 15 (.pointer (some ⟨w.heap.size, 1, none⟩)) rfl rfl (by kernel_rfl) (by kernel_rfl) (by kernel_rfl) (fun _ _ _ h => h) (Or.inl ⟨by rfl, fun w' h => ?_⟩) hHeld ?_
      · go_simp
      try simp only [List.setIfInBounds_toArray, List.set_cons_zero, List.set_cons_succ]
      refine take_toP 1 16 (.int .u64 H) rfl rfl (by kernel_rfl) (by kernel_rfl) (by kernel_rfl) (fun _ _ _ h => h) (Or.inl ⟨by rfl, fun w' h => ?_⟩) hHeld ?_
      · have x0 := Am.c1 h
        go_simp
      try simp only [List.setIfInBounds_toArray, List.set_cons_zero, List.set_cons_succ]
      refine take_toP 3 18 (.pointer (some ⟨w.heap.size, 2, none⟩)) rfl rfl (by kernel_rfl) (by kernel_rfl) (by kernel_rfl) (fun _ _ _ h => h) (Or.inl ⟨by rfl, fun w' h => ?_⟩) hHeld ?_
      · go_simp
      try simp only [List.setIfInBounds_toArray, List.set_cons_zero, List.set_cons_succ]
      refine take_toP 4 19 (.int .u64 L) rfl rfl (by kernel_rfl) (by kernel_rfl) (by kernel_rfl) (fun _ _ _ h => h) (Or.inl ⟨by rfl, fun w' h => ?_⟩) hHeld ?_
      · have x0 := Am.c2 h
        go_simp
      try simp only [List.setIfInBounds_toArray, List.set_cons_zero, List.set_cons_succ]
      refine wpAnyH_ready (rs := [2]) (by kernel_rfl) (by simp) ?_
      refine AllReadyH.cons rfl (fun K' hK' => ?_) AllReadyH.nil
      rw [if_pos (by rfl)]
      go_wp2_with fail
      refine (k2 _ hz).mono ?_
      rintro e w2 ⟨rfl, hr, g2⟩
      replace m0 := m0.kept (below_of_grown g2)
      replace B0 := bel_grow B0 hs1 g2
      rw [List.nil_append] at hr
      have hb := (hr.bs (be_byte 8 H)).len (be_length 8 H)
      have hs2 := B0.size
      clear g2
      clear hHeld
      try go_wp2_with fail
      refine hK'.out _ _ m0 (fun hHeld => ?_)
      clear hK' K'
      try simp only [Act.put, List.setIfInBounds_toArray, List.set_cons_zero, List.set_cons_succ]
      refine wpAnyH_ready (rs := [5]) (by kernel_rfl) (by simp) ?_
      refine AllReadyH.cons rfl (fun K' hK' => ?_) AllReadyH.nil
      rw [if_pos (by rfl)]
      go_wp2_with fail
      refine (k3 _ _ hb).mono ?_
      rintro e w3 ⟨rfl, hr2, g3⟩
      replace m0 := m0.kept (below_of_grown g3)
      replace B0 := bel_grow B0 hs2 g3
      clear g3
      clear hHeld
      try go_wp2_with fail
      refine hK'.out _ _ m0 (fun hHeld => ?_)
      clear hK' K'
      try simp only [Act.put, List.setIfInBounds_toArray, List.set_cons_zero, List.set_cons_succ]
      refine take_toP 6 2 (.slice (some ⟨w2.heap.size, 0, none⟩) 16 16) rfl rfl (by kernel_rfl) (by kernel_rfl) (by kernel_rfl) (fun _ _ _ h => h) (Or.inl ⟨by rfl, fun w' h => ?_⟩) hHeld ?_
      · go_simp
      try simp only [List.setIfInBounds_toArray, List.set_cons_zero, List.set_cons_succ]
      refine wpAnyH_done (by kernel_rfl) ?_ _
      go_wp2_with fail
      go_ret
      rw [HQ.out]
      exact ⟨_, rfl, hr2.own hs2 (by rw [List.length_append, be_length, be_length]; unfold maxLen; omega), B0⟩
end Go.Proofs.Ytnjfckijpbgagaa
