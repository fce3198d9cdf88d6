import Derived.Test.YtblcpdffiafgnaaGreatDoorBClone
import Derived.Laws.Bits64b
import Derived.Test.YtblcpdffiafgnaaGreatDoorD1
import Derived.Test.YtblcpdffiafgnaaGreatDoorSP
namespace Go.Proofs.YtblcpdffiafgnaaGreatDoor
set_option maxRecDepth 100000
open Go.RowKit
set_option linter.unusedVariables false

set_option maxHeartbeats 400000 in
set_option maxHeartbeats 400000 in
theorem err_ (r n c : Nat) (a : Option Addr) (p e : Int) (w : World) (h : Rdr w r a n c p e) :
    Calls Tryz.prog 123 #[.pointer (some ⟨r, 0, none⟩)] w fun en w' => en = .returned (.tuple #[.int .i64 e, .int .i64 p]) ∧ ∃ nq, w' = w.drewN nq := by
  have h1 := h.c1
  have h2 := h.c2
  clear h
  go_enter Tryz.func123, Tryz.ntmps123
  go_wp2
  go_quiet (fail)
  go_wp2
  go_ret2
  exact ⟨rfl, _, rfl⟩

theorem err_whole (r g : Nat) (zs : List Int) (p : Int) (w : World) (h : RdB w r g zs p) :
    Calls Tryz.prog 123 #[.pointer (some ⟨r, 0, none⟩)] w fun en w' => en = .returned (.tuple #[.int .i64 0, .int .i64 p]) ∧ ∃ nq, w' = w.drewN nq := by
  obtain ⟨_, a, n, c, h1, h2⟩ := h
  exact err_ r n c a p 0 w h1
theorem err_broken (r : Nat) (p e : Int) (w : World) (h : Rb w r p e) :
    Calls Tryz.prog 123 #[.pointer (some ⟨r, 0, none⟩)] w fun en w' => en = .returned (.tuple #[.int .i64 e, .int .i64 p]) ∧ ∃ nq, w' = w.drewN nq := err_ r 0 0 none p e w h.1

end Go.Proofs.YtblcpdffiafgnaaGreatDoor
namespace Go.Proofs.YtblcpdffiafgnaaGreatDoor
set_option maxRecDepth 100000
open Go.RowKit

/-- What Get holds behind k rounds. -/
def vk (zs : List Int) (W k : Nat) : Int := val ((zs.take W).take k)
theorem vk_zero (zs : List Int) (W : Nat) : vk zs W 0 = 0 := by simp [vk, val]
theorem vk_all (zs : List Int) (W : Nat) (h : W ≤ zs.length) : vk zs W W = val (zs.take W) := by
  unfold vk; rw [List.take_of_length_le (by simp; omega)]
theorem vk_step (zs : List Int) (W k : Nat) (h : k < (zs.take W).length) : vk zs W (k + 1) = vk zs W k * 256 + (zs.take W).getD k 0 := by
  unfold vk
  rw [List.take_succ_eq_append_getElem h, val_snoc]
  simp only [List.getD, List.getElem?_eq_getElem h, Option.getD_some]
theorem vk_bound (zs : List Int) (W k : Nat) (hk : k ≤ (zs.take W).length) (hb : ∀ z ∈ zs.take W, 0 ≤ z ∧ z ≤ 255) : 0 ≤ vk zs W k ∧ vk zs W k < 256 ^ k := by
  have := val_bound ((zs.take W).take k) fun z hz => hb z (List.mem_of_mem_take hz)
  rwa [List.length_take, Nat.min_eq_left hk] at this
theorem vk_small (zs : List Int) (W k : Nat) (hk : k < (zs.take W).length) (h8 : k < 8) (hb : ∀ z ∈ zs.take W, 0 ≤ z ∧ z ≤ 255) : 0 ≤ vk zs W k ∧ vk zs W k < 72057594037927936 := by
  have h := vk_bound zs W k (by omega) hb
  refine ⟨h.1, Int.lt_of_lt_of_le h.2 ?_⟩
  have e : k = 0 ∨ k = 1 ∨ k = 2 ∨ k = 3 ∨ k = 4 ∨ k = 5 ∨ k = 6 ∨ k = 7 := by omega
  rcases e with rfl | rfl | rfl | rfl | rfl | rfl | rfl | rfl <;> decide
theorem getD_byteP (l : List Int) (k : Nat) (h : k < l.length) (hb : ∀ z ∈ l, 0 ≤ z ∧ z ≤ 255) : 0 ≤ l.getD k 0 ∧ l.getD k 0 ≤ 255 := by
  simp only [List.getD, List.getElem?_eq_getElem h, Option.getD_some]
  exact hb _ (List.getElem_mem h)
theorem val_w {zs : List Int} {W : Nat} (hW : W ≤ zs.length) (hb : ∀ z ∈ zs.take W, 0 ≤ z ∧ z ≤ 255) : 0 ≤ val (zs.take W) ∧ val (zs.take W) < 256 ^ W := by
  have := val_bound (zs.take W) hb
  rwa [List.length_take, Nat.min_eq_left hW] at this

end Go.Proofs.YtblcpdffiafgnaaGreatDoor
namespace Go.Proofs.YtblcpdffiafgnaaGreatDoor
set_option maxRecDepth 100000
open Go.RowKit
set_option linter.unusedVariables false

theorem valLt16 {zs : List Int} (hW : 2 ≤ zs.length) (hb : ∀ z ∈ zs.take 2, 0 ≤ z ∧ z ≤ 255) : 0 ≤ val (zs.take 2) ∧ val (zs.take 2) < 65536 := val_w hW hb

set_option maxHeartbeats 400000 in
theorem get16_whole (r g : Nat) (zs : List Int) (p : Int) (w : World) (h : RdB w r g zs p) (hm : 2 ≤ zs.length) (hn : zs.length ≤ 1000000000) (hp : 0 ≤ p) (hp1 : p ≤ 1000000000) :
    Calls Tryz.prog 150 #[.pointer (some ⟨r, 0, none⟩)] w fun en w' => en = .returned (.int .u16 (val (zs.take 2))) ∧ RdB w' r g (zs.drop 2) (p + 2) ∧ Only r w w' := by
  go_enter Tryz.func150, Tryz.ntmps150
  go_wp2_with (first
    | (go_at_call 119; refine (width16 _).mono ?_; rintro e w' ⟨rfl, hw⟩; obtain rfl := hw.symm; clear hw)
    | (go_at_call 133; refine (take_whole r g 2 zs p _ h hm hn hp hp1).mono ?_; rintro e w1 ⟨a, rfl, h1, h2, h3⟩))
  have H2 := hid h2
  clear h2
  obtain ⟨e1, e2, e3⟩ := h1.bs
  clear h1
  go_loop [3, 5, 10] (fun x _ i => ∃ k : Nat, k ≤ 2 ∧ x = .int .u64 (vk zs 2 k) ∧ i = .int .i64 k) (fun _ _ i => 2 - (intOf i).toNat)
  case atStart => exact ⟨0, by omega, by rw [vk_zero], rfl⟩
  case round =>
    obtain ⟨k, hk, rfl, rfl⟩ := hrel
    by_cases hlt : k < 2
    · rcases e3 with e3 | ⟨b, off, rfl, hc⟩
      · omega
      have hck := hc k hlt
      have hzb := getD_byteP (zs.take 2) k (by omega) e2
      have hst := hid (vk_step zs 2 k (by omega))
      have hv := vk_small zs 2 k (by omega) (by omega) e2
      clear hc e1 e2
      generalize (zs.take 2).getD k 0 = z at *
      have hor := or8 (vk zs 2 k) z hv.1 hv.2 hzb.1 hzb.2
      obtain ⟨z0, z1⟩ := hzb
      obtain ⟨v0, v1⟩ := hv
      go_wp2
      go_round
      case rel => exact ⟨k + 1, by omega, by rw [hst.out], by go_num⟩
      case measure => simp [intOf]; omega
    · obtain rfl : k = 2 := by omega
      have hval := valLt16 hm e2
      rw [vk_all zs 2 hm]
      generalize hgv : val (zs.take 2) = v at *
      have HV := hid hgv
      clear hgv
      obtain ⟨v0, v1⟩ := hval
      clear e1 e2 e3
      go_wp2
      go_ret
      exact ⟨congrArg (fun q => Ending.returned (.int .u16 q)) HV.out.symm, (by first | exact H2.out | simpa using H2.out), h3⟩

set_option maxHeartbeats 400000 in
theorem get16_short (r g : Nat) (zs : List Int) (p : Int) (w : World) (h : RdB w r g zs p) (hm : zs.length < 2) :
    Calls Tryz.prog 150 #[.pointer (some ⟨r, 0, none⟩)] w fun en w' => en = .returned (.int .u16 0) ∧ Rb w' r p 10 ∧ Only r w w' := by
  have hB : Brk 2 zs.length 10 := .inr ⟨by omega, by omega, rfl⟩
  go_enter Tryz.func150, Tryz.ntmps150
  go_wp2_with (first
    | (go_at_call 119; refine (width16 _).mono ?_; rintro e w' ⟨rfl, hw⟩; obtain rfl := hw.symm; clear hw)
    | (go_at_call 133; refine (take_breaks r g 2 10 zs p _ h hB).mono ?_; rintro e w1 ⟨rfl, h1, h2⟩))
  go_loop [3, 5, 10] (fun x _ i => x = .int .u64 0 ∧ i = .int .i64 0) (fun _ _ i => 0)
  case atStart => exact ⟨rfl, rfl⟩
  case round =>
    obtain ⟨rfl, rfl⟩ := hrel
    go_wp2
    go_ret
    exact ⟨rfl, h1, h2⟩

set_option maxHeartbeats 400000 in
theorem get16_broken (r : Nat) (p e : Int) (w : World) (h : Rb w r p e) :
    Calls Tryz.prog 150 #[.pointer (some ⟨r, 0, none⟩)] w fun en w' => en = .returned (.int .u16 0) ∧ w' = w := by
  go_enter Tryz.func150, Tryz.ntmps150
  go_wp2_with (first
    | (go_at_call 119; refine (width16 _).mono ?_; rintro e w' ⟨rfl, hw⟩; obtain rfl := hw.symm; clear hw)
    | (go_at_call 133; refine (take_broken r 0 0 none p e 2 _ h.1 h.2).mono ?_; rintro e w1 ⟨rfl, hw⟩; obtain rfl := hw.symm; clear hw))
  go_loop [3, 5, 10] (fun x _ i => x = .int .u64 0 ∧ i = .int .i64 0) (fun _ _ i => 0)
  case atStart => exact ⟨rfl, rfl⟩
  case round =>
    obtain ⟨rfl, rfl⟩ := hrel
    go_wp2
    go_ret
    exact ⟨rfl, rfl⟩

theorem valLt32 {zs : List Int} (hW : 4 ≤ zs.length) (hb : ∀ z ∈ zs.take 4, 0 ≤ z ∧ z ≤ 255) : 0 ≤ val (zs.take 4) ∧ val (zs.take 4) < 4294967296 := val_w hW hb

set_option maxHeartbeats 400000 in
theorem get32_whole (r g : Nat) (zs : List Int) (p : Int) (w : World) (h : RdB w r g zs p) (hm : 4 ≤ zs.length) (hn : zs.length ≤ 1000000000) (hp : 0 ≤ p) (hp1 : p ≤ 1000000000) :
    Calls Tryz.prog 122 #[.pointer (some ⟨r, 0, none⟩)] w fun en w' => en = .returned (.int .u32 (val (zs.take 4))) ∧ RdB w' r g (zs.drop 4) (p + 4) ∧ Only r w w' := by
  go_enter Tryz.func122, Tryz.ntmps122
  go_wp2_with (first
    | (go_at_call 101; refine (width32 _).mono ?_; rintro e w' ⟨rfl, hw⟩; obtain rfl := hw.symm; clear hw)
    | (go_at_call 133; refine (take_whole r g 4 zs p _ h hm hn hp hp1).mono ?_; rintro e w1 ⟨a, rfl, h1, h2, h3⟩))
  have H2 := hid h2
  clear h2
  obtain ⟨e1, e2, e3⟩ := h1.bs
  clear h1
  go_loop [3, 5, 10] (fun x _ i => ∃ k : Nat, k ≤ 4 ∧ x = .int .u64 (vk zs 4 k) ∧ i = .int .i64 k) (fun _ _ i => 4 - (intOf i).toNat)
  case atStart => exact ⟨0, by omega, by rw [vk_zero], rfl⟩
  case round =>
    obtain ⟨k, hk, rfl, rfl⟩ := hrel
    by_cases hlt : k < 4
    · rcases e3 with e3 | ⟨b, off, rfl, hc⟩
      · omega
      have hck := hc k hlt
      have hzb := getD_byteP (zs.take 4) k (by omega) e2
      have hst := hid (vk_step zs 4 k (by omega))
      have hv := vk_small zs 4 k (by omega) (by omega) e2
      clear hc e1 e2
      generalize (zs.take 4).getD k 0 = z at *
      have hor := or8 (vk zs 4 k) z hv.1 hv.2 hzb.1 hzb.2
      obtain ⟨z0, z1⟩ := hzb
      obtain ⟨v0, v1⟩ := hv
      go_wp2
      go_round
      case rel => exact ⟨k + 1, by omega, by rw [hst.out], by go_num⟩
      case measure => simp [intOf]; omega
    · obtain rfl : k = 4 := by omega
      have hval := valLt32 hm e2
      rw [vk_all zs 4 hm]
      generalize hgv : val (zs.take 4) = v at *
      have HV := hid hgv
      clear hgv
      obtain ⟨v0, v1⟩ := hval
      clear e1 e2 e3
      go_wp2
      go_ret
      exact ⟨congrArg (fun q => Ending.returned (.int .u32 q)) HV.out.symm, (by first | exact H2.out | simpa using H2.out), h3⟩

set_option maxHeartbeats 400000 in
theorem get32_short (r g : Nat) (zs : List Int) (p : Int) (w : World) (h : RdB w r g zs p) (hm : zs.length < 4) :
    Calls Tryz.prog 122 #[.pointer (some ⟨r, 0, none⟩)] w fun en w' => en = .returned (.int .u32 0) ∧ Rb w' r p 10 ∧ Only r w w' := by
  have hB : Brk 4 zs.length 10 := .inr ⟨by omega, by omega, rfl⟩
  go_enter Tryz.func122, Tryz.ntmps122
  go_wp2_with (first
    | (go_at_call 101; refine (width32 _).mono ?_; rintro e w' ⟨rfl, hw⟩; obtain rfl := hw.symm; clear hw)
    | (go_at_call 133; refine (take_breaks r g 4 10 zs p _ h hB).mono ?_; rintro e w1 ⟨rfl, h1, h2⟩))
  go_loop [3, 5, 10] (fun x _ i => x = .int .u64 0 ∧ i = .int .i64 0) (fun _ _ i => 0)
  case atStart => exact ⟨rfl, rfl⟩
  case round =>
    obtain ⟨rfl, rfl⟩ := hrel
    go_wp2
    go_ret
    exact ⟨rfl, h1, h2⟩

set_option maxHeartbeats 400000 in
theorem get32_broken (r : Nat) (p e : Int) (w : World) (h : Rb w r p e) :
    Calls Tryz.prog 122 #[.pointer (some ⟨r, 0, none⟩)] w fun en w' => en = .returned (.int .u32 0) ∧ w' = w := by
  go_enter Tryz.func122, Tryz.ntmps122
  go_wp2_with (first
    | (go_at_call 101; refine (width32 _).mono ?_; rintro e w' ⟨rfl, hw⟩; obtain rfl := hw.symm; clear hw)
    | (go_at_call 133; refine (take_broken r 0 0 none p e 4 _ h.1 h.2).mono ?_; rintro e w1 ⟨rfl, hw⟩; obtain rfl := hw.symm; clear hw))
  go_loop [3, 5, 10] (fun x _ i => x = .int .u64 0 ∧ i = .int .i64 0) (fun _ _ i => 0)
  case atStart => exact ⟨rfl, rfl⟩
  case round =>
    obtain ⟨rfl, rfl⟩ := hrel
    go_wp2
    go_ret
    exact ⟨rfl, rfl⟩

theorem valLt64 {zs : List Int} (hW : 8 ≤ zs.length) (hb : ∀ z ∈ zs.take 8, 0 ≤ z ∧ z ≤ 255) : 0 ≤ val (zs.take 8) ∧ val (zs.take 8) < 18446744073709551616 := val_w hW hb

set_option maxHeartbeats 400000 in
theorem get64_whole (r g : Nat) (zs : List Int) (p : Int) (w : World) (h : RdB w r g zs p) (hm : 8 ≤ zs.length) (hn : zs.length ≤ 1000000000) (hp : 0 ≤ p) (hp1 : p ≤ 1000000000) :
    Calls Tryz.prog 151 #[.pointer (some ⟨r, 0, none⟩)] w fun en w' => en = .returned (.int .u64 (val (zs.take 8))) ∧ RdB w' r g (zs.drop 8) (p + 8) ∧ Only r w w' := by
  go_enter Tryz.func151, Tryz.ntmps151
  go_wp2_with (first
    | (go_at_call 145; refine (width64 _).mono ?_; rintro e w' ⟨rfl, hw⟩; obtain rfl := hw.symm; clear hw)
    | (go_at_call 133; refine (take_whole r g 8 zs p _ h hm hn hp hp1).mono ?_; rintro e w1 ⟨a, rfl, h1, h2, h3⟩))
  have H2 := hid h2
  clear h2
  obtain ⟨e1, e2, e3⟩ := h1.bs
  clear h1
  go_loop [3, 5, 10] (fun x _ i => ∃ k : Nat, k ≤ 8 ∧ x = .int .u64 (vk zs 8 k) ∧ i = .int .i64 k) (fun _ _ i => 8 - (intOf i).toNat)
  case atStart => exact ⟨0, by omega, by rw [vk_zero], rfl⟩
  case round =>
    obtain ⟨k, hk, rfl, rfl⟩ := hrel
    by_cases hlt : k < 8
    · rcases e3 with e3 | ⟨b, off, rfl, hc⟩
      · omega
      have hck := hc k hlt
      have hzb := getD_byteP (zs.take 8) k (by omega) e2
      have hst := hid (vk_step zs 8 k (by omega))
      have hv := vk_small zs 8 k (by omega) (by omega) e2
      clear hc e1 e2
      generalize (zs.take 8).getD k 0 = z at *
      have hor := or8 (vk zs 8 k) z hv.1 hv.2 hzb.1 hzb.2
      obtain ⟨z0, z1⟩ := hzb
      obtain ⟨v0, v1⟩ := hv
      go_wp2
      go_round
      case rel => exact ⟨k + 1, by omega, by rw [hst.out], by go_num⟩
      case measure => simp [intOf]; omega
    · obtain rfl : k = 8 := by omega
      have hval := valLt64 hm e2
      rw [vk_all zs 8 hm]
      generalize hgv : val (zs.take 8) = v at *
      have HV := hid hgv
      clear hgv
      obtain ⟨v0, v1⟩ := hval
      clear e1 e2 e3
      go_wp2
      go_ret
      exact ⟨congrArg (fun q => Ending.returned (.int .u64 q)) HV.out.symm, (by first | exact H2.out | simpa using H2.out), h3⟩

set_option maxHeartbeats 400000 in
theorem get64_short (r g : Nat) (zs : List Int) (p : Int) (w : World) (h : RdB w r g zs p) (hm : zs.length < 8) :
    Calls Tryz.prog 151 #[.pointer (some ⟨r, 0, none⟩)] w fun en w' => en = .returned (.int .u64 0) ∧ Rb w' r p 10 ∧ Only r w w' := by
  have hB : Brk 8 zs.length 10 := .inr ⟨by omega, by omega, rfl⟩
  go_enter Tryz.func151, Tryz.ntmps151
  go_wp2_with (first
    | (go_at_call 145; refine (width64 _).mono ?_; rintro e w' ⟨rfl, hw⟩; obtain rfl := hw.symm; clear hw)
    | (go_at_call 133; refine (take_breaks r g 8 10 zs p _ h hB).mono ?_; rintro e w1 ⟨rfl, h1, h2⟩))
  go_loop [3, 5, 10] (fun x _ i => x = .int .u64 0 ∧ i = .int .i64 0) (fun _ _ i => 0)
  case atStart => exact ⟨rfl, rfl⟩
  case round =>
    obtain ⟨rfl, rfl⟩ := hrel
    go_wp2
    go_ret
    exact ⟨rfl, h1, h2⟩

set_option maxHeartbeats 400000 in
theorem get64_broken (r : Nat) (p e : Int) (w : World) (h : Rb w r p e) :
    Calls Tryz.prog 151 #[.pointer (some ⟨r, 0, none⟩)] w fun en w' => en = .returned (.int .u64 0) ∧ w' = w := by
  go_enter Tryz.func151, Tryz.ntmps151
  go_wp2_with (first
    | (go_at_call 145; refine (width64 _).mono ?_; rintro e w' ⟨rfl, hw⟩; obtain rfl := hw.symm; clear hw)
    | (go_at_call 133; refine (take_broken r 0 0 none p e 8 _ h.1 h.2).mono ?_; rintro e w1 ⟨rfl, hw⟩; obtain rfl := hw.symm; clear hw))
  go_loop [3, 5, 10] (fun x _ i => x = .int .u64 0 ∧ i = .int .i64 0) (fun _ _ i => 0)
  case atStart => exact ⟨rfl, rfl⟩
  case round =>
    obtain ⟨rfl, rfl⟩ := hrel
    go_wp2
    go_ret
    exact ⟨rfl, rfl⟩


end Go.Proofs.YtblcpdffiafgnaaGreatDoor
namespace Go.Proofs.YtblcpdffiafgnaaGreatDoor
set_option maxRecDepth 100000
open Go.RowKit
set_option linter.unusedVariables false

/-- The table of four steps lies in its variable. -/
def Tab (w : World) : Prop := 0 < w.heap.size ∧ ∀ i, i < 16 → w.cell? ⟨0, i, none⟩ = some (.int .u32 (tab.getD i 0))
theorem Tab.below {w w' : World} {B : Nat} (h : Tab w) (hb : Below B w w') (hB : 0 < B) : Tab w' :=
  ⟨Nat.lt_of_lt_of_le h.1 hb.size, fun i hi => (hb.cell hB).trans (h.2 i hi)⟩
theorem Tab.bel {w w' : World} (h : Tab w) (hb : Below w.heap.size w w') : Tab w' := h.below hb h.1
theorem Tab.drawn {w w' : World} (h : Tab w) (hd : Drawn w w') : Tab w' := h.bel hd.below
theorem Drawn.refl (w : World) : Drawn w w := ⟨rfl, rfl, rfl, rfl⟩
theorem Drawn.trans {a b c : World} (h : Drawn a b) (k : Drawn b c) : Drawn a c := ⟨k.os.trans h.os, k.tape.trans h.tape, k.output.trans h.output, k.heap.trans h.heap⟩
theorem Drawn.drewN {a b : World} (h : Drawn a b) (n : Nat) : Drawn a (b.drewN n) := h.trans (drawnN b n)
theorem bel_draw {B : Nat} {a b c : World} (h : Below B a b) (hd : Drawn b c) : Below B a c := h.trans ⟨hd.os, hd.tape, hd.output, by rw [hd.heap]; exact Nat.le_refl _, fun k _ => by rw [hd.heap]⟩
end Go.Proofs.YtblcpdffiafgnaaGreatDoor
