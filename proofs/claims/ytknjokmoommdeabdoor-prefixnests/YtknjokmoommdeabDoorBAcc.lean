import Derived.Test.YtknjokmoommdeabDoorBClone
namespace Go.Proofs.YtknjokmoommdeabDoor
open Go.RowKit
set_option linter.unusedVariables false

set_option maxHeartbeats 400000 in
theorem left_ (r n c : Nat) (a : Option Addr) (p e : Int) (w : World) (h : Rdr w r a n c p e) :
    Calls Tryd.prog 43 #[.pointer (some ⟨r, 0, none⟩)] w fun en w' => en = .returned (.int .i64 n) ∧ w' = w := by
  have h0 := h.c0
  clear h
  go_enter Tryd.func43, Tryd.ntmps43
  go_wp2
  go_ret
  exact ⟨rfl, rfl⟩

theorem left_whole (r g : Nat) (zs : List Int) (p : Int) (w : World) (h : Rd w r g zs p) :
    Calls Tryd.prog 43 #[.pointer (some ⟨r, 0, none⟩)] w fun en w' => en = .returned (.int .i64 zs.length) ∧ w' = w := by
  obtain ⟨_, a, n, c, h1, h2⟩ := h
  rw [h2.1]
  exact left_ r n c a p 0 w h1
theorem left_broken (r : Nat) (p e : Int) (w : World) (h : Rb w r p e) :
    Calls Tryd.prog 43 #[.pointer (some ⟨r, 0, none⟩)] w fun en w' => en = .returned (.int .i64 0) ∧ w' = w := left_ r 0 0 none p e w h.1
end Go.Proofs.YtknjokmoommdeabDoor
