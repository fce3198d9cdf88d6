import Derived.Test.YtmgoabedickooaaGreatDoorBClone
namespace Go.Proofs.YtmgoabedickooaaGreatDoor
set_option maxRecDepth 100000
open Go.RowKit
set_option linter.unusedVariables false

set_option maxHeartbeats 400000 in
theorem left_ (r n c : Nat) (a : Option Addr) (p e : Int) (w : World) (h : Rdr w r a n c p e) :
    Calls Tryz.prog 173 #[.pointer (some ⟨r, 0, none⟩)] w fun en w' => en = .returned (.int .i64 n) ∧ w' = w := by
  have h0 := h.c0
  clear h
  go_enter Tryz.func173, Tryz.ntmps173
  go_wp2
  go_ret
  exact ⟨rfl, rfl⟩

set_option maxHeartbeats 400000 in
theorem err_ (r n c : Nat) (a : Option Addr) (p e : Int) (w : World) (h : Rdr w r a n c p e) :
    Calls Tryz.prog 27 #[.pointer (some ⟨r, 0, none⟩)] w fun en w' => en = .returned (.tuple #[.int .i64 e, .int .i64 p]) ∧ ∃ nq, w' = w.drewN nq := by
  have h1 := h.c1
  have h2 := h.c2
  clear h
  go_enter Tryz.func27, Tryz.ntmps27
  go_wp2
  go_quiet (fail)
  go_wp2
  go_ret2
  exact ⟨rfl, _, rfl⟩

theorem left_whole (r g : Nat) (zs : List Int) (p : Int) (w : World) (h : Rd w r g zs p) :
    Calls Tryz.prog 173 #[.pointer (some ⟨r, 0, none⟩)] w fun en w' => en = .returned (.int .i64 zs.length) ∧ w' = w := by
  obtain ⟨_, a, n, c, h1, h2⟩ := h
  rw [h2.1]
  exact left_ r n c a p 0 w h1
theorem left_broken (r : Nat) (p e : Int) (w : World) (h : Rb w r p e) :
    Calls Tryz.prog 173 #[.pointer (some ⟨r, 0, none⟩)] w fun en w' => en = .returned (.int .i64 0) ∧ w' = w := left_ r 0 0 none p e w h.1
theorem err_whole (r g : Nat) (zs : List Int) (p : Int) (w : World) (h : Rd w r g zs p) :
    Calls Tryz.prog 27 #[.pointer (some ⟨r, 0, none⟩)] w fun en w' => en = .returned (.tuple #[.int .i64 0, .int .i64 p]) ∧ ∃ nq, w' = w.drewN nq := by
  obtain ⟨_, a, n, c, h1, h2⟩ := h
  exact err_ r n c a p 0 w h1
theorem err_broken (r : Nat) (p e : Int) (w : World) (h : Rb w r p e) :
    Calls Tryz.prog 27 #[.pointer (some ⟨r, 0, none⟩)] w fun en w' => en = .returned (.tuple #[.int .i64 e, .int .i64 p]) ∧ ∃ nq, w' = w.drewN nq := err_ r 0 0 none p e w h.1

end Go.Proofs.YtmgoabedickooaaGreatDoor
