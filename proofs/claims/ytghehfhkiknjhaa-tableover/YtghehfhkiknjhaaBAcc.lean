import Derived.Test.YtghehfhkiknjhaaBClone
namespace Go.Proofs.Ytghehfhkiknjhaa
set_option maxRecDepth 100000
open Go.RowKit
set_option linter.unusedVariables false

set_option maxHeartbeats 400000 in
theorem left_ (r n c : Nat) (a : Option Addr) (p e : Int) (w : World) (h : Rdr w r a n c p e) :
    Calls Try.prog 59 #[.pointer (some ⟨r, 0, none⟩)] w fun en w' => en = .returned (.int .i64 n) ∧ w' = w := by
  have h0 := h.c0
  clear h
  go_enter Try.func59, Try.ntmps59
  go_wp2
  go_ret
  exact ⟨rfl, rfl⟩

theorem left_whole (r g : Nat) (zs : List Int) (p : Int) (w : World) (h : Rd w r g zs p) :
    Calls Try.prog 59 #[.pointer (some ⟨r, 0, none⟩)] w fun en w' => en = .returned (.int .i64 zs.length) ∧ w' = w := by
  obtain ⟨_, a, n, c, h1, h2⟩ := h
  rw [h2.1]
  exact left_ r n c a p 0 w h1
theorem left_broken (r : Nat) (p e : Int) (w : World) (h : Rb w r p e) :
    Calls Try.prog 59 #[.pointer (some ⟨r, 0, none⟩)] w fun en w' => en = .returned (.int .i64 0) ∧ w' = w := left_ r 0 0 none p e w h.1
theorem bytes_whole (r g m : Nat) (zs : List Int) (p : Int) (w : World) (h : Rd w r g zs p) (hm : m ≤ zs.length) (hn : zs.length ≤ 1000000000) (hp : 0 ≤ p) (hp1 : p ≤ 1000000000) :
    Calls Try.prog 75 #[.pointer (some ⟨r, 0, none⟩), .int .i64 m] w fun en w' => ∃ a, en = .returned (.slice a m m) ∧ Lies w' g a m m (zs.take m) ∧ Rd w' r g (zs.drop m) (p + m) ∧ Only r w w' := by
  go_enter Try.func75, Try.ntmps75
  go_wp2_with (go_at_call 83; refine (take_whole r g m zs p _ h hm hn hp hp1).mono ?_; rintro e w1 ⟨a, rfl, h1, h2, h3⟩)
  go_ret
  exact ⟨a, rfl, h1, h2, h3⟩
set_option maxHeartbeats 400000 in
theorem bytes_breaks (r g : Nat) (m : Int) (zs : List Int) (p : Int) (w : World) (h : Rd w r g zs p) (q : Int) (hm : Brk m zs.length q) :
    Calls Try.prog 75 #[.pointer (some ⟨r, 0, none⟩), .int .i64 m] w fun en w' => en = .returned (.slice none 0 0) ∧ Rb w' r p q ∧ Only r w w' := by
  go_enter Try.func75, Try.ntmps75
  go_wp2_with (go_at_call 83; refine (take_breaks r g m q zs p _ h hm).mono ?_; rintro e w1 ⟨rfl, h1, h2⟩)
  go_ret
  exact ⟨rfl, h1, h2⟩
set_option maxHeartbeats 400000 in
theorem bytes_broken (r : Nat) (m p e : Int) (w : World) (h : Rb w r p e) :
    Calls Try.prog 75 #[.pointer (some ⟨r, 0, none⟩), .int .i64 m] w fun en w' => en = .returned (.slice none 0 0) ∧ w' = w := by
  go_enter Try.func75, Try.ntmps75
  go_wp2_with (go_at_call 83; refine (take_broken r 0 0 none p e m _ h.1 h.2).mono ?_; rintro e w1 ⟨rfl, hw⟩; obtain rfl := hw.symm)
  go_ret
  exact ⟨rfl, rfl⟩

end Go.Proofs.Ytghehfhkiknjhaa
