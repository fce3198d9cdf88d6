import Derived.Test.YtmgoabedickooaaGreatDoorL1
import Derived.Test.YtmgoabedickooaaGreatDoorP21
namespace Go.Proofs.YtmgoabedickooaaGreatDoor
set_option maxRecDepth 100000
open Go.RowKit
set_option linter.unusedVariables false

theorem repeat_sb (c : Nat) : (⟨(Lib.repeatL (⟨#[48]⟩ : ByteArray).data.toList c).toArray⟩ : ByteArray) = sb (List.replicate c 48) := by
  have e : ∀ c, Lib.repeatL (⟨#[48]⟩ : ByteArray).data.toList c = (List.replicate c 48).map UInt8.ofNat := by
    intro c
    induction c with
    | zero => rfl
    | succ c ih => rw [Lib.repeatL, ih, List.replicate_succ]; rfl
  rw [e]
  rfl
theorem repeat_ (c : Nat) (w : World) (h : c ≤ 9) :
    Calls Tryz.prog 176 #[.string ⟨#[48]⟩, .int .i64 c] w fun e w' => e = .returned (.string (sb (List.replicate c 48))) ∧ Below w.heap.size w w' := by
  refine (Tryz.strings_Repeat ⟨#[48]⟩ c w (by omega) (by show 1 * c ≤ _; omega)).mono ?_
  rintro e w' ⟨rfl, g⟩
  exact ⟨by rw [repeat_sb], g⟩
theorem hg_hd (y : Nat) : hg y = hd y := rfl
theorem hc_in (x : Nat) (h : x < 65536) : 1 ≤ hc x ∧ hc x ≤ 4 := by
  unfold hc
  split
  · omega
  · split
    · omega
    · split <;> omega
theorem hk4 (x : Nat) : hk x 4 = [hg (x / 4096 % 16), hg (x / 256 % 16), hg (x / 16 % 16), hg (x % 16)] := by
  show [hg (x / 16 / 16 / 16 % 16), hg (x / 16 / 16 % 16), hg (x / 16 % 16), hg (x % 16)] = _
  rw [show x / 16 / 16 / 16 = x / 4096 from by omega, show x / 16 / 16 = x / 256 from by omega]
theorem hx_two (x : Nat) (h : x < 65536) : hx (x / 256) ++ hx (x % 256) = hk x 4 := by
  rw [hk4]
  unfold hx
  show [hd (x / 256 / 16), hd (x / 256 % 16), hd (x % 256 / 16), hd (x % 256 % 16)] = [hd (x / 4096 % 16), hd (x / 256 % 16), hd (x / 16 % 16), hd (x % 16)]
  rw [show x / 256 / 16 = x / 4096 % 16 from by omega, show x % 256 / 16 = x / 16 % 16 from by omega, show x % 256 % 16 = x % 16 from by omega]
theorem h16_pad (x : Nat) (h : x < 65536) : List.replicate (4 - hc x) 48 ++ h16 x = hx (x / 256) ++ hx (x % 256) := by
  rw [hx_two x h, hk4]
  have h0 : hg 0 = 48 := rfl
  unfold h16 hc
  split
  · rw [show x / 4096 % 16 = 0 from by omega, show x / 256 % 16 = 0 from by omega, show x / 16 % 16 = 0 from by omega]
    rfl
  · split
    · rw [show x / 4096 % 16 = 0 from by omega, show x / 256 % 16 = 0 from by omega]
      rfl
    · split
      · rw [show x / 4096 % 16 = 0 from by omega]
        show 48 :: [hg (x / 16 / 16 % 16), hg (x / 16 % 16), hg (x % 16)] = _
        rw [show x / 16 / 16 = x / 256 from by omega]
        rfl
      · show [hg (x / 16 / 16 / 16 % 16), hg (x / 16 / 16 % 16), hg (x / 16 % 16), hg (x % 16)] = _
        rw [show x / 16 / 16 / 16 = x / 4096 from by omega, show x / 16 / 16 = x / 256 from by omega]
set_option maxHeartbeats 400000 in
theorem fmtI_ (x : Nat) (w : World) (hx : x < 65536) (hT : Tb w) :
    Calls Tryz.prog 194 #[.int .u64 x, .int .i64 16] w fun e w' => e = .returned (.string (sb (h16 x))) ∧ Below w.heap.size w w' := by
  have k := fun w hT => formatBits_ x w hx hT
  go_enter Tryz.func194, Tryz.ntmps194
  go_wp2_with fail
  refine (k _ hT).mono ?_
  rintro e w1 ⟨rfl, g⟩
  go_wp2_with fail
  go_ret
  exact ⟨rfl, g⟩
set_option maxHeartbeats 400000 in
theorem fmt_ (x : Nat) (w : World) (hx : x < 65536) (hT : Tb w) :
    Calls Tryz.prog 175 #[.int .u64 x, .int .i64 16] w fun e w' => e = .returned (.string (sb (h16 x))) ∧ Below w.heap.size w w' := by
  have k := fun w hT => fmtI_ x w hx hT
  go_enter Tryz.func175, Tryz.ntmps175
  go_wp2_with fail
  refine (k _ hT).mono ?_
  rintro e w1 ⟨rfl, g⟩
  go_wp2_with fail
  go_ret
  exact ⟨rfl, g⟩
set_option maxHeartbeats 400000 in
theorem decimal_ (x : Nat) (w : World) (hx : x < 256) (hT : Tb w) :
    Calls Tryz.prog 123 #[.int .u8 x] w fun e w' => e = .returned (.string (sb (dgs x 1))) ∧ Below w.heap.size w w' := by
  have k := fun w hT => itoa_ x w (by omega) hT
  go_enter Tryz.func123, Tryz.ntmps123
  go_wp2_with fail
  refine (k _ hT).mono ?_
  rintro e w1 ⟨rfl, g⟩
  go_wp2_with fail
  go_ret
  exact ⟨rfl, g⟩
set_option maxHeartbeats 400000 in
theorem pair_ (x : Nat) (w : World) (hx' : x < 65536) (hT : Tb w) :
    Calls Tryz.prog 125 #[.int .u16 x] w fun e w' => e = .returned (.string (sb (hx (x / 256) ++ hx (x % 256)))) ∧ Below w.heap.size w w' := by
  have k1 := fun w hT => fmt_ x w hx' hT
  obtain ⟨c0, c1⟩ := hc_in x hx'
  have k2 := fun w => repeat_ (4 - hc x) w (by omega)
  have hl : (sb (h16 x)).size = hc x := by rw [sb_size]; exact hk_length _ _
  have HP : Hid (sb (List.replicate (4 - hc x) 48) ++ sb (h16 x) = sb (hx (x / 256) ++ hx (x % 256))) := by
    show _ = _
    rw [sb_append, h16_pad x hx']
  have hr : (sb (List.replicate (4 - hc x) 48)).size = 4 - hc x := by rw [sb_size, List.length_replicate]
  obtain ⟨S, HS⟩ : ∃ S, Hid (sb (hx (x / 256) ++ hx (x % 256)) = S) := ⟨_, rfl⟩
  rw [HS.out] at HP ⊢
  generalize sb (h16 x) = D at *
  generalize sb (List.replicate (4 - hc x) 48) = R at *
  generalize hc x = c at *
  have hi : (4 : Int) - (c : Int) = ((4 - c : Nat) : Int) := by omega
  have a1 := fun w => run_string_add_sum (P := Tryz.prog) w R D (by omega)
  clear HS
  go_enter Tryz.func125, Tryz.ntmps125
  go_wp2_with fail
  refine (k1 _ hT).mono ?_
  rintro e w1 ⟨rfl, g⟩
  go_wp2_with fail
  refine (k2 _).mono ?_
  rintro e w2 ⟨rfl, g2⟩
  go_wp2_with fail
  go_ret
  exact ⟨by rw [← HP.out]; rfl, bel_bel g g.size g2⟩
end Go.Proofs.YtmgoabedickooaaGreatDoor
