import Derived.Test.YtghehfhkiknjhaaBVal
namespace Go.Proofs.Ytghehfhkiknjhaa
set_option maxRecDepth 100000
open Go.RowKit
set_option linter.unusedVariables false

theorem valLt8 {zs : List Int} (hW : 1 ≤ zs.length) (hb : ∀ z ∈ zs.take 1, 0 ≤ z ∧ z ≤ 255) : 0 ≤ val (zs.take 1) ∧ val (zs.take 1) < 256 := val_w hW hb

set_option maxHeartbeats 400000 in
theorem get8_whole (r g : Nat) (zs : List Int) (p : Int) (w : World) (h : Rd w r g zs p) (hm : 1 ≤ zs.length) (hn : zs.length ≤ 1000000000) (hp : 0 ≤ p) (hp1 : p ≤ 1000000000) :
    Calls Try.prog 73 #[.pointer (some ⟨r, 0, none⟩)] w fun en w' => en = .returned (.int .u8 (val (zs.take 1))) ∧ Rd w' r g (zs.drop 1) (p + 1) ∧ Only r w w' := by
  go_enter Try.func73, Try.ntmps73
  go_wp2_with (first
    | (go_at_call 79; refine (width8 _).mono ?_; rintro e w' ⟨rfl, hw⟩; obtain rfl := hw.symm; clear hw)
    | (go_at_call 83; refine (take_whole r g 1 zs p _ h hm hn hp hp1).mono ?_; rintro e w1 ⟨a, rfl, h1, h2, h3⟩))
  have H2 := hid h2
  clear h2
  obtain ⟨e1, e2, e3⟩ := h1.bs
  clear h1
  go_loop [3, 5, 10] (fun x _ i => ∃ k : Nat, k ≤ 1 ∧ x = .int .u64 (vk zs 1 k) ∧ i = .int .i64 k) (fun _ _ i => 1 - (intOf i).toNat)
  case atStart => exact ⟨0, by omega, by rw [vk_zero], rfl⟩
  case round =>
    obtain ⟨k, hk, rfl, rfl⟩ := hrel
    by_cases hlt : k < 1
    · rcases e3 with e3 | ⟨b, off, rfl, hc⟩
      · omega
      have hck := hc k hlt
      have hzb := getD_byteP (zs.take 1) k (by omega) e2
      have hst := hid (vk_step zs 1 k (by omega))
      have hv := vk_small zs 1 k (by omega) (by omega) e2
      clear hc e1 e2
      generalize (zs.take 1).getD k 0 = z at *
      have hor := or8 (vk zs 1 k) z hv.1 hv.2 hzb.1 hzb.2
      obtain ⟨z0, z1⟩ := hzb
      obtain ⟨v0, v1⟩ := hv
      go_wp2
      go_round
      case rel => exact ⟨k + 1, by omega, by rw [hst.out], by go_num⟩
      case measure => simp [intOf]; omega
    · obtain rfl : k = 1 := by omega
      have hval := valLt8 hm e2
      rw [vk_all zs 1 hm]
      generalize hgv : val (zs.take 1) = v at *
      have HV := hid hgv
      clear hgv
      obtain ⟨v0, v1⟩ := hval
      clear e1 e2 e3
      go_wp2
      go_ret
      exact ⟨congrArg (fun q => Ending.returned (.int .u8 q)) HV.out.symm, (by first | exact H2.out | simpa using H2.out), h3⟩

set_option maxHeartbeats 400000 in
theorem get8_short (r g : Nat) (zs : List Int) (p : Int) (w : World) (h : Rd w r g zs p) (hm : zs.length < 1) :
    Calls Try.prog 73 #[.pointer (some ⟨r, 0, none⟩)] w fun en w' => en = .returned (.int .u8 0) ∧ Rb w' r p 10 ∧ Only r w w' := by
  have hB : Brk 1 zs.length 10 := .inr ⟨by omega, by omega, rfl⟩
  go_enter Try.func73, Try.ntmps73
  go_wp2_with (first
    | (go_at_call 79; refine (width8 _).mono ?_; rintro e w' ⟨rfl, hw⟩; obtain rfl := hw.symm; clear hw)
    | (go_at_call 83; refine (take_breaks r g 1 10 zs p _ h hB).mono ?_; rintro e w1 ⟨rfl, h1, h2⟩))
  go_loop [3, 5, 10] (fun x _ i => x = .int .u64 0 ∧ i = .int .i64 0) (fun _ _ i => 0)
  case atStart => exact ⟨rfl, rfl⟩
  case round =>
    obtain ⟨rfl, rfl⟩ := hrel
    go_wp2
    go_ret
    exact ⟨rfl, h1, h2⟩

set_option maxHeartbeats 400000 in
theorem get8_broken (r : Nat) (p e : Int) (w : World) (h : Rb w r p e) :
    Calls Try.prog 73 #[.pointer (some ⟨r, 0, none⟩)] w fun en w' => en = .returned (.int .u8 0) ∧ w' = w := by
  go_enter Try.func73, Try.ntmps73
  go_wp2_with (first
    | (go_at_call 79; refine (width8 _).mono ?_; rintro e w' ⟨rfl, hw⟩; obtain rfl := hw.symm; clear hw)
    | (go_at_call 83; refine (take_broken r 0 0 none p e 1 _ h.1 h.2).mono ?_; rintro e w1 ⟨rfl, hw⟩; obtain rfl := hw.symm; clear hw))
  go_loop [3, 5, 10] (fun x _ i => x = .int .u64 0 ∧ i = .int .i64 0) (fun _ _ i => 0)
  case atStart => exact ⟨rfl, rfl⟩
  case round =>
    obtain ⟨rfl, rfl⟩ := hrel
    go_wp2
    go_ret
    exact ⟨rfl, rfl⟩

theorem valLt16 {zs : List Int} (hW : 2 ≤ zs.length) (hb : ∀ z ∈ zs.take 2, 0 ≤ z ∧ z ≤ 255) : 0 ≤ val (zs.take 2) ∧ val (zs.take 2) < 65536 := val_w hW hb

set_option maxHeartbeats 400000 in
theorem get16_whole (r g : Nat) (zs : List Int) (p : Int) (w : World) (h : Rd w r g zs p) (hm : 2 ≤ zs.length) (hn : zs.length ≤ 1000000000) (hp : 0 ≤ p) (hp1 : p ≤ 1000000000) :
    Calls Try.prog 74 #[.pointer (some ⟨r, 0, none⟩)] w fun en w' => en = .returned (.int .u16 (val (zs.take 2))) ∧ Rd w' r g (zs.drop 2) (p + 2) ∧ Only r w w' := by
  go_enter Try.func74, Try.ntmps74
  go_wp2_with (first
    | (go_at_call 80; refine (width16 _).mono ?_; rintro e w' ⟨rfl, hw⟩; obtain rfl := hw.symm; clear hw)
    | (go_at_call 83; refine (take_whole r g 2 zs p _ h hm hn hp hp1).mono ?_; rintro e w1 ⟨a, rfl, h1, h2, h3⟩))
  have H2 := hid h2
  clear h2
  obtain ⟨e1, e2, e3⟩ := h1.bs
  clear h1
  go_loop [3, 5, 10] (fun x _ i => ∃ k : Nat, k ≤ 2 ∧ x = .int .u64 (vk zs 2 k) ∧ i = .int .i64 k) (fun _ _ i => 2 - (intOf i).toNat)
  case atStart => exact ⟨0, by omega, by rw [vk_zero], rfl⟩
  case round =>
    obtain ⟨k, hk, rfl, rfl⟩ := hrel
    by_cases hlt : k < 2
    · rcases e3 with e3 | ⟨b, off, rfl, hc⟩
      · omega
      have hck := hc k hlt
      have hzb := getD_byteP (zs.take 2) k (by omega) e2
      have hst := hid (vk_step zs 2 k (by omega))
      have hv := vk_small zs 2 k (by omega) (by omega) e2
      clear hc e1 e2
      generalize (zs.take 2).getD k 0 = z at *
      have hor := or8 (vk zs 2 k) z hv.1 hv.2 hzb.1 hzb.2
      obtain ⟨z0, z1⟩ := hzb
      obtain ⟨v0, v1⟩ := hv
      go_wp2
      go_round
      case rel => exact ⟨k + 1, by omega, by rw [hst.out], by go_num⟩
      case measure => simp [intOf]; omega
    · obtain rfl : k = 2 := by omega
      have hval := valLt16 hm e2
      rw [vk_all zs 2 hm]
      generalize hgv : val (zs.take 2) = v at *
      have HV := hid hgv
      clear hgv
      obtain ⟨v0, v1⟩ := hval
      clear e1 e2 e3
      go_wp2
      go_ret
      exact ⟨congrArg (fun q => Ending.returned (.int .u16 q)) HV.out.symm, (by first | exact H2.out | simpa using H2.out), h3⟩

set_option maxHeartbeats 400000 in
theorem get16_short (r g : Nat) (zs : List Int) (p : Int) (w : World) (h : Rd w r g zs p) (hm : zs.length < 2) :
    Calls Try.prog 74 #[.pointer (some ⟨r, 0, none⟩)] w fun en w' => en = .returned (.int .u16 0) ∧ Rb w' r p 10 ∧ Only r w w' := by
  have hB : Brk 2 zs.length 10 := .inr ⟨by omega, by omega, rfl⟩
  go_enter Try.func74, Try.ntmps74
  go_wp2_with (first
    | (go_at_call 80; refine (width16 _).mono ?_; rintro e w' ⟨rfl, hw⟩; obtain rfl := hw.symm; clear hw)
    | (go_at_call 83; refine (take_breaks r g 2 10 zs p _ h hB).mono ?_; rintro e w1 ⟨rfl, h1, h2⟩))
  go_loop [3, 5, 10] (fun x _ i => x = .int .u64 0 ∧ i = .int .i64 0) (fun _ _ i => 0)
  case atStart => exact ⟨rfl, rfl⟩
  case round =>
    obtain ⟨rfl, rfl⟩ := hrel
    go_wp2
    go_ret
    exact ⟨rfl, h1, h2⟩

set_option maxHeartbeats 400000 in
theorem get16_broken (r : Nat) (p e : Int) (w : World) (h : Rb w r p e) :
    Calls Try.prog 74 #[.pointer (some ⟨r, 0, none⟩)] w fun en w' => en = .returned (.int .u16 0) ∧ w' = w := by
  go_enter Try.func74, Try.ntmps74
  go_wp2_with (first
    | (go_at_call 80; refine (width16 _).mono ?_; rintro e w' ⟨rfl, hw⟩; obtain rfl := hw.symm; clear hw)
    | (go_at_call 83; refine (take_broken r 0 0 none p e 2 _ h.1 h.2).mono ?_; rintro e w1 ⟨rfl, hw⟩; obtain rfl := hw.symm; clear hw))
  go_loop [3, 5, 10] (fun x _ i => x = .int .u64 0 ∧ i = .int .i64 0) (fun _ _ i => 0)
  case atStart => exact ⟨rfl, rfl⟩
  case round =>
    obtain ⟨rfl, rfl⟩ := hrel
    go_wp2
    go_ret
    exact ⟨rfl, rfl⟩


end Go.Proofs.Ytghehfhkiknjhaa
