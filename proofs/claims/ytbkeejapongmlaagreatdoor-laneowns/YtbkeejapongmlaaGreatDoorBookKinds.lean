import Derived.Test.YtbkeejapongmlaaGreatDoorBookTriv
namespace Go.Proofs.YtbkeejapongmlaaGreatDoor.Kp
set_option maxRecDepth 100000
open Go.RowKit
set_option linter.unusedVariables false

set_option maxHeartbeats 400000 in
theorem boolsWrite_ (k : Nat) (ps id : Int) (v2 v3 v4 : Value) (w : World) (h : Bk w k ps v2 v3 v4) :
    Calls Tryz.prog 48 #[.pointer (some ⟨k, 0, none⟩), .int .i64 id] w fun en w' => en = .returned (.int .i64 id) ∧ w' = w := by
  have hc := h.nils 5 (by omega) (by omega)
  clear h
  go_enter Tryz.func48, Tryz.ntmps48
  go_wp2
  go_loop [1, 5] (fun q i => q = .int .i64 id ∧ i = .int .i64 0) (fun _ _ => 0)
  case atStart => exact ⟨rfl, rfl⟩
  case round =>
    obtain ⟨rfl, rfl⟩ := hrel
    go_wp2
    go_ret
    exact ⟨rfl, rfl⟩
set_option maxHeartbeats 400000 in
theorem boolsHold_ (k : Nat) (ps id : Int) (v2 v3 v4 : Value) (w : World) (h : Bk w k ps v2 v3 v4) :
    Calls Tryz.prog 65 #[.pointer (some ⟨k, 0, none⟩), .int .i64 id] w fun en w' => en = .returned (.tuple #[.int .i64 id, .bool true]) ∧ w' = w := by
  have hc := h.nils 5 (by omega) (by omega)
  clear h
  go_enter Tryz.func65, Tryz.ntmps65
  go_wp2
  go_loop [1, 6, 7] (fun q all i => q = .int .i64 id ∧ all = .bool true ∧ i = .int .i64 0) (fun _ _ _ => 0)
  case atStart => exact ⟨rfl, rfl, rfl⟩
  case round =>
    obtain ⟨rfl, rfl, rfl⟩ := hrel
    go_wp2
    go_ret2
    exact ⟨rfl, rfl⟩
set_option maxHeartbeats 400000 in
theorem boolsGrow_ (k : Nat) (ps id t : Int) (v2 v3 v4 : Value) (w : World) (h : Bk w k ps v2 v3 v4) :
    Calls Tryz.prog 82 #[.pointer (some ⟨k, 0, none⟩), .int .i64 id, .int .i64 t] w fun en w' => en = .returned (.int .i64 id) ∧ w' = w := by
  have hc := h.nils 5 (by omega) (by omega)
  clear h
  go_enter Tryz.func82, Tryz.ntmps82
  go_wp2
  go_loop [1, 7] (fun q i => q = .int .i64 id ∧ i = .int .i64 0) (fun _ _ => 0)
  case atStart => exact ⟨rfl, rfl⟩
  case round =>
    obtain ⟨rfl, rfl⟩ := hrel
    go_wp2
    go_ret
    exact ⟨rfl, rfl⟩

set_option maxHeartbeats 400000 in
theorem intsWrite_ (k : Nat) (ps id : Int) (v2 v3 v4 : Value) (w : World) (h : Bk w k ps v2 v3 v4) :
    Calls Tryz.prog 49 #[.pointer (some ⟨k, 0, none⟩), .int .i64 id] w fun en w' => en = .returned (.int .i64 id) ∧ w' = w := by
  have hc := h.nils 8 (by omega) (by omega)
  clear h
  go_enter Tryz.func49, Tryz.ntmps49
  go_wp2
  go_loop [1, 5] (fun q i => q = .int .i64 id ∧ i = .int .i64 0) (fun _ _ => 0)
  case atStart => exact ⟨rfl, rfl⟩
  case round =>
    obtain ⟨rfl, rfl⟩ := hrel
    go_wp2
    go_ret
    exact ⟨rfl, rfl⟩
set_option maxHeartbeats 400000 in
theorem intsHold_ (k : Nat) (ps id : Int) (v2 v3 v4 : Value) (w : World) (h : Bk w k ps v2 v3 v4) :
    Calls Tryz.prog 66 #[.pointer (some ⟨k, 0, none⟩), .int .i64 id] w fun en w' => en = .returned (.tuple #[.int .i64 id, .bool true]) ∧ w' = w := by
  have hc := h.nils 8 (by omega) (by omega)
  clear h
  go_enter Tryz.func66, Tryz.ntmps66
  go_wp2
  go_loop [1, 6, 7] (fun q all i => q = .int .i64 id ∧ all = .bool true ∧ i = .int .i64 0) (fun _ _ _ => 0)
  case atStart => exact ⟨rfl, rfl, rfl⟩
  case round =>
    obtain ⟨rfl, rfl, rfl⟩ := hrel
    go_wp2
    go_ret2
    exact ⟨rfl, rfl⟩
set_option maxHeartbeats 400000 in
theorem intsGrow_ (k : Nat) (ps id t : Int) (v2 v3 v4 : Value) (w : World) (h : Bk w k ps v2 v3 v4) :
    Calls Tryz.prog 83 #[.pointer (some ⟨k, 0, none⟩), .int .i64 id, .int .i64 t] w fun en w' => en = .returned (.int .i64 id) ∧ w' = w := by
  have hc := h.nils 8 (by omega) (by omega)
  clear h
  go_enter Tryz.func83, Tryz.ntmps83
  go_wp2
  go_loop [1, 7] (fun q i => q = .int .i64 id ∧ i = .int .i64 0) (fun _ _ => 0)
  case atStart => exact ⟨rfl, rfl⟩
  case round =>
    obtain ⟨rfl, rfl⟩ := hrel
    go_wp2
    go_ret
    exact ⟨rfl, rfl⟩

set_option maxHeartbeats 400000 in
theorem textsWrite_ (k : Nat) (ps id : Int) (v2 v3 v4 : Value) (w : World) (h : Bk w k ps v2 v3 v4) :
    Calls Tryz.prog 50 #[.pointer (some ⟨k, 0, none⟩), .int .i64 id] w fun en w' => en = .returned (.int .i64 id) ∧ w' = w := by
  have hc := h.nils 11 (by omega) (by omega)
  clear h
  go_enter Tryz.func50, Tryz.ntmps50
  go_wp2
  go_loop [1, 5] (fun q i => q = .int .i64 id ∧ i = .int .i64 0) (fun _ _ => 0)
  case atStart => exact ⟨rfl, rfl⟩
  case round =>
    obtain ⟨rfl, rfl⟩ := hrel
    go_wp2
    go_ret
    exact ⟨rfl, rfl⟩
set_option maxHeartbeats 400000 in
theorem textsHold_ (k : Nat) (ps id : Int) (v2 v3 v4 : Value) (w : World) (h : Bk w k ps v2 v3 v4) :
    Calls Tryz.prog 67 #[.pointer (some ⟨k, 0, none⟩), .int .i64 id] w fun en w' => en = .returned (.tuple #[.int .i64 id, .bool true]) ∧ w' = w := by
  have hc := h.nils 11 (by omega) (by omega)
  clear h
  go_enter Tryz.func67, Tryz.ntmps67
  go_wp2
  go_loop [1, 6, 7] (fun q all i => q = .int .i64 id ∧ all = .bool true ∧ i = .int .i64 0) (fun _ _ _ => 0)
  case atStart => exact ⟨rfl, rfl, rfl⟩
  case round =>
    obtain ⟨rfl, rfl, rfl⟩ := hrel
    go_wp2
    go_ret2
    exact ⟨rfl, rfl⟩
set_option maxHeartbeats 400000 in
theorem textsGrow_ (k : Nat) (ps id t : Int) (v2 v3 v4 : Value) (w : World) (h : Bk w k ps v2 v3 v4) :
    Calls Tryz.prog 84 #[.pointer (some ⟨k, 0, none⟩), .int .i64 id, .int .i64 t] w fun en w' => en = .returned (.int .i64 id) ∧ w' = w := by
  have hc := h.nils 11 (by omega) (by omega)
  clear h
  go_enter Tryz.func84, Tryz.ntmps84
  go_wp2
  go_loop [1, 7] (fun q i => q = .int .i64 id ∧ i = .int .i64 0) (fun _ _ => 0)
  case atStart => exact ⟨rfl, rfl⟩
  case round =>
    obtain ⟨rfl, rfl⟩ := hrel
    go_wp2
    go_ret
    exact ⟨rfl, rfl⟩

set_option maxHeartbeats 400000 in
theorem byteListsWrite_ (k : Nat) (ps id : Int) (v2 v3 v4 : Value) (w : World) (h : Bk w k ps v2 v3 v4) :
    Calls Tryz.prog 51 #[.pointer (some ⟨k, 0, none⟩), .int .i64 id] w fun en w' => en = .returned (.int .i64 id) ∧ w' = w := by
  have hc := h.nils 14 (by omega) (by omega)
  clear h
  go_enter Tryz.func51, Tryz.ntmps51
  go_wp2
  go_loop [1, 5] (fun q i => q = .int .i64 id ∧ i = .int .i64 0) (fun _ _ => 0)
  case atStart => exact ⟨rfl, rfl⟩
  case round =>
    obtain ⟨rfl, rfl⟩ := hrel
    go_wp2
    go_ret
    exact ⟨rfl, rfl⟩
set_option maxHeartbeats 400000 in
theorem byteListsHold_ (k : Nat) (ps id : Int) (v2 v3 v4 : Value) (w : World) (h : Bk w k ps v2 v3 v4) :
    Calls Tryz.prog 68 #[.pointer (some ⟨k, 0, none⟩), .int .i64 id] w fun en w' => en = .returned (.tuple #[.int .i64 id, .bool true]) ∧ w' = w := by
  have hc := h.nils 14 (by omega) (by omega)
  clear h
  go_enter Tryz.func68, Tryz.ntmps68
  go_wp2
  go_loop [1, 6, 7] (fun q all i => q = .int .i64 id ∧ all = .bool true ∧ i = .int .i64 0) (fun _ _ _ => 0)
  case atStart => exact ⟨rfl, rfl, rfl⟩
  case round =>
    obtain ⟨rfl, rfl, rfl⟩ := hrel
    go_wp2
    go_ret2
    exact ⟨rfl, rfl⟩
set_option maxHeartbeats 400000 in
theorem byteListsGrow_ (k : Nat) (ps id t : Int) (v2 v3 v4 : Value) (w : World) (h : Bk w k ps v2 v3 v4) :
    Calls Tryz.prog 85 #[.pointer (some ⟨k, 0, none⟩), .int .i64 id, .int .i64 t] w fun en w' => en = .returned (.int .i64 id) ∧ w' = w := by
  have hc := h.nils 14 (by omega) (by omega)
  clear h
  go_enter Tryz.func85, Tryz.ntmps85
  go_wp2
  go_loop [1, 7] (fun q i => q = .int .i64 id ∧ i = .int .i64 0) (fun _ _ => 0)
  case atStart => exact ⟨rfl, rfl⟩
  case round =>
    obtain ⟨rfl, rfl⟩ := hrel
    go_wp2
    go_ret
    exact ⟨rfl, rfl⟩

set_option maxHeartbeats 400000 in
theorem prefixesWrite_ (k : Nat) (ps id : Int) (v2 v3 v4 : Value) (w : World) (h : Bk w k ps v2 v3 v4) :
    Calls Tryz.prog 52 #[.pointer (some ⟨k, 0, none⟩), .int .i64 id] w fun en w' => en = .returned (.int .i64 id) ∧ w' = w := by
  have hc := h.nils 17 (by omega) (by omega)
  clear h
  go_enter Tryz.func52, Tryz.ntmps52
  go_wp2
  go_loop [1, 5] (fun q i => q = .int .i64 id ∧ i = .int .i64 0) (fun _ _ => 0)
  case atStart => exact ⟨rfl, rfl⟩
  case round =>
    obtain ⟨rfl, rfl⟩ := hrel
    go_wp2
    go_ret
    exact ⟨rfl, rfl⟩
set_option maxHeartbeats 400000 in
theorem prefixesHold_ (k : Nat) (ps id : Int) (v2 v3 v4 : Value) (w : World) (h : Bk w k ps v2 v3 v4) :
    Calls Tryz.prog 69 #[.pointer (some ⟨k, 0, none⟩), .int .i64 id] w fun en w' => en = .returned (.tuple #[.int .i64 id, .bool true]) ∧ w' = w := by
  have hc := h.nils 17 (by omega) (by omega)
  clear h
  go_enter Tryz.func69, Tryz.ntmps69
  go_wp2
  go_loop [1, 6, 7] (fun q all i => q = .int .i64 id ∧ all = .bool true ∧ i = .int .i64 0) (fun _ _ _ => 0)
  case atStart => exact ⟨rfl, rfl, rfl⟩
  case round =>
    obtain ⟨rfl, rfl, rfl⟩ := hrel
    go_wp2
    go_ret2
    exact ⟨rfl, rfl⟩
set_option maxHeartbeats 400000 in
theorem prefixesGrow_ (k : Nat) (ps id t : Int) (v2 v3 v4 : Value) (w : World) (h : Bk w k ps v2 v3 v4) :
    Calls Tryz.prog 86 #[.pointer (some ⟨k, 0, none⟩), .int .i64 id, .int .i64 t] w fun en w' => en = .returned (.int .i64 id) ∧ w' = w := by
  have hc := h.nils 17 (by omega) (by omega)
  clear h
  go_enter Tryz.func86, Tryz.ntmps86
  go_wp2
  go_loop [1, 7] (fun q i => q = .int .i64 id ∧ i = .int .i64 0) (fun _ _ => 0)
  case atStart => exact ⟨rfl, rfl⟩
  case round =>
    obtain ⟨rfl, rfl⟩ := hrel
    go_wp2
    go_ret
    exact ⟨rfl, rfl⟩

set_option maxHeartbeats 400000 in
theorem openingsWrite_ (k : Nat) (ps id : Int) (v2 v3 v4 : Value) (w : World) (h : Bk w k ps v2 v3 v4) :
    Calls Tryz.prog 53 #[.pointer (some ⟨k, 0, none⟩), .int .i64 id] w fun en w' => en = .returned (.int .i64 id) ∧ w' = w := by
  have hc := h.nils 20 (by omega) (by omega)
  clear h
  go_enter Tryz.func53, Tryz.ntmps53
  go_wp2
  go_loop [1, 5] (fun q i => q = .int .i64 id ∧ i = .int .i64 0) (fun _ _ => 0)
  case atStart => exact ⟨rfl, rfl⟩
  case round =>
    obtain ⟨rfl, rfl⟩ := hrel
    go_wp2
    go_ret
    exact ⟨rfl, rfl⟩
set_option maxHeartbeats 400000 in
theorem openingsHold_ (k : Nat) (ps id : Int) (v2 v3 v4 : Value) (w : World) (h : Bk w k ps v2 v3 v4) :
    Calls Tryz.prog 70 #[.pointer (some ⟨k, 0, none⟩), .int .i64 id] w fun en w' => en = .returned (.tuple #[.int .i64 id, .bool true]) ∧ w' = w := by
  have hc := h.nils 20 (by omega) (by omega)
  clear h
  go_enter Tryz.func70, Tryz.ntmps70
  go_wp2
  go_loop [1, 6, 7] (fun q all i => q = .int .i64 id ∧ all = .bool true ∧ i = .int .i64 0) (fun _ _ _ => 0)
  case atStart => exact ⟨rfl, rfl, rfl⟩
  case round =>
    obtain ⟨rfl, rfl, rfl⟩ := hrel
    go_wp2
    go_ret2
    exact ⟨rfl, rfl⟩
set_option maxHeartbeats 400000 in
theorem openingsGrow_ (k : Nat) (ps id t : Int) (v2 v3 v4 : Value) (w : World) (h : Bk w k ps v2 v3 v4) :
    Calls Tryz.prog 87 #[.pointer (some ⟨k, 0, none⟩), .int .i64 id, .int .i64 t] w fun en w' => en = .returned (.int .i64 id) ∧ w' = w := by
  have hc := h.nils 20 (by omega) (by omega)
  clear h
  go_enter Tryz.func87, Tryz.ntmps87
  go_wp2
  go_loop [1, 7] (fun q i => q = .int .i64 id ∧ i = .int .i64 0) (fun _ _ => 0)
  case atStart => exact ⟨rfl, rfl⟩
  case round =>
    obtain ⟨rfl, rfl⟩ := hrel
    go_wp2
    go_ret
    exact ⟨rfl, rfl⟩

set_option maxHeartbeats 400000 in
theorem peersWrite_ (k : Nat) (ps id : Int) (v2 v3 v4 : Value) (w : World) (h : Bk w k ps v2 v3 v4) :
    Calls Tryz.prog 54 #[.pointer (some ⟨k, 0, none⟩), .int .i64 id] w fun en w' => en = .returned (.int .i64 id) ∧ w' = w := by
  have hc := h.nils 23 (by omega) (by omega)
  clear h
  go_enter Tryz.func54, Tryz.ntmps54
  go_wp2
  go_loop [1, 5] (fun q i => q = .int .i64 id ∧ i = .int .i64 0) (fun _ _ => 0)
  case atStart => exact ⟨rfl, rfl⟩
  case round =>
    obtain ⟨rfl, rfl⟩ := hrel
    go_wp2
    go_ret
    exact ⟨rfl, rfl⟩
set_option maxHeartbeats 400000 in
theorem peersHold_ (k : Nat) (ps id : Int) (v2 v3 v4 : Value) (w : World) (h : Bk w k ps v2 v3 v4) :
    Calls Tryz.prog 71 #[.pointer (some ⟨k, 0, none⟩), .int .i64 id] w fun en w' => en = .returned (.tuple #[.int .i64 id, .bool true]) ∧ w' = w := by
  have hc := h.nils 23 (by omega) (by omega)
  clear h
  go_enter Tryz.func71, Tryz.ntmps71
  go_wp2
  go_loop [1, 6, 7] (fun q all i => q = .int .i64 id ∧ all = .bool true ∧ i = .int .i64 0) (fun _ _ _ => 0)
  case atStart => exact ⟨rfl, rfl, rfl⟩
  case round =>
    obtain ⟨rfl, rfl, rfl⟩ := hrel
    go_wp2
    go_ret2
    exact ⟨rfl, rfl⟩
set_option maxHeartbeats 400000 in
theorem peersGrow_ (k : Nat) (ps id t : Int) (v2 v3 v4 : Value) (w : World) (h : Bk w k ps v2 v3 v4) :
    Calls Tryz.prog 88 #[.pointer (some ⟨k, 0, none⟩), .int .i64 id, .int .i64 t] w fun en w' => en = .returned (.int .i64 id) ∧ w' = w := by
  have hc := h.nils 23 (by omega) (by omega)
  clear h
  go_enter Tryz.func88, Tryz.ntmps88
  go_wp2
  go_loop [1, 7] (fun q i => q = .int .i64 id ∧ i = .int .i64 0) (fun _ _ => 0)
  case atStart => exact ⟨rfl, rfl⟩
  case round =>
    obtain ⟨rfl, rfl⟩ := hrel
    go_wp2
    go_ret
    exact ⟨rfl, rfl⟩

set_option maxHeartbeats 400000 in
theorem lanesWrite_ (k : Nat) (ps id : Int) (v2 v3 v4 : Value) (w : World) (h : Bk w k ps v2 v3 v4) :
    Calls Tryz.prog 55 #[.pointer (some ⟨k, 0, none⟩), .int .i64 id] w fun en w' => en = .returned (.int .i64 id) ∧ w' = w := by
  have hc := h.nils 26 (by omega) (by omega)
  clear h
  go_enter Tryz.func55, Tryz.ntmps55
  go_wp2
  go_loop [1, 5] (fun q i => q = .int .i64 id ∧ i = .int .i64 0) (fun _ _ => 0)
  case atStart => exact ⟨rfl, rfl⟩
  case round =>
    obtain ⟨rfl, rfl⟩ := hrel
    go_wp2
    go_ret
    exact ⟨rfl, rfl⟩
set_option maxHeartbeats 400000 in
theorem lanesHold_ (k : Nat) (ps id : Int) (v2 v3 v4 : Value) (w : World) (h : Bk w k ps v2 v3 v4) :
    Calls Tryz.prog 72 #[.pointer (some ⟨k, 0, none⟩), .int .i64 id] w fun en w' => en = .returned (.tuple #[.int .i64 id, .bool true]) ∧ w' = w := by
  have hc := h.nils 26 (by omega) (by omega)
  clear h
  go_enter Tryz.func72, Tryz.ntmps72
  go_wp2
  go_loop [1, 6, 7] (fun q all i => q = .int .i64 id ∧ all = .bool true ∧ i = .int .i64 0) (fun _ _ _ => 0)
  case atStart => exact ⟨rfl, rfl, rfl⟩
  case round =>
    obtain ⟨rfl, rfl, rfl⟩ := hrel
    go_wp2
    go_ret2
    exact ⟨rfl, rfl⟩
set_option maxHeartbeats 400000 in
theorem lanesGrow_ (k : Nat) (ps id t : Int) (v2 v3 v4 : Value) (w : World) (h : Bk w k ps v2 v3 v4) :
    Calls Tryz.prog 89 #[.pointer (some ⟨k, 0, none⟩), .int .i64 id, .int .i64 t] w fun en w' => en = .returned (.int .i64 id) ∧ w' = w := by
  have hc := h.nils 26 (by omega) (by omega)
  clear h
  go_enter Tryz.func89, Tryz.ntmps89
  go_wp2
  go_loop [1, 7] (fun q i => q = .int .i64 id ∧ i = .int .i64 0) (fun _ _ => 0)
  case atStart => exact ⟨rfl, rfl⟩
  case round =>
    obtain ⟨rfl, rfl⟩ := hrel
    go_wp2
    go_ret
    exact ⟨rfl, rfl⟩

set_option maxHeartbeats 400000 in
theorem rowsWrite_ (k : Nat) (ps id : Int) (v2 v3 v4 : Value) (w : World) (h : Bk w k ps v2 v3 v4) :
    Calls Tryz.prog 56 #[.pointer (some ⟨k, 0, none⟩), .int .i64 id] w fun en w' => en = .returned (.int .i64 id) ∧ w' = w := by
  have hc := h.nils 29 (by omega) (by omega)
  clear h
  go_enter Tryz.func56, Tryz.ntmps56
  go_wp2
  go_loop [1, 5] (fun q i => q = .int .i64 id ∧ i = .int .i64 0) (fun _ _ => 0)
  case atStart => exact ⟨rfl, rfl⟩
  case round =>
    obtain ⟨rfl, rfl⟩ := hrel
    go_wp2
    go_ret
    exact ⟨rfl, rfl⟩
set_option maxHeartbeats 400000 in
theorem rowsHold_ (k : Nat) (ps id : Int) (v2 v3 v4 : Value) (w : World) (h : Bk w k ps v2 v3 v4) :
    Calls Tryz.prog 73 #[.pointer (some ⟨k, 0, none⟩), .int .i64 id] w fun en w' => en = .returned (.tuple #[.int .i64 id, .bool true]) ∧ w' = w := by
  have hc := h.nils 29 (by omega) (by omega)
  clear h
  go_enter Tryz.func73, Tryz.ntmps73
  go_wp2
  go_loop [1, 6, 7] (fun q all i => q = .int .i64 id ∧ all = .bool true ∧ i = .int .i64 0) (fun _ _ _ => 0)
  case atStart => exact ⟨rfl, rfl, rfl⟩
  case round =>
    obtain ⟨rfl, rfl, rfl⟩ := hrel
    go_wp2
    go_ret2
    exact ⟨rfl, rfl⟩
set_option maxHeartbeats 400000 in
theorem rowsGrow_ (k : Nat) (ps id t : Int) (v2 v3 v4 : Value) (w : World) (h : Bk w k ps v2 v3 v4) :
    Calls Tryz.prog 90 #[.pointer (some ⟨k, 0, none⟩), .int .i64 id, .int .i64 t] w fun en w' => en = .returned (.int .i64 id) ∧ w' = w := by
  have hc := h.nils 29 (by omega) (by omega)
  clear h
  go_enter Tryz.func90, Tryz.ntmps90
  go_wp2
  go_loop [1, 7] (fun q i => q = .int .i64 id ∧ i = .int .i64 0) (fun _ _ => 0)
  case atStart => exact ⟨rfl, rfl⟩
  case round =>
    obtain ⟨rfl, rfl⟩ := hrel
    go_wp2
    go_ret
    exact ⟨rfl, rfl⟩

set_option maxHeartbeats 400000 in
theorem setsWrite_ (k : Nat) (ps id : Int) (v2 v3 v4 : Value) (w : World) (h : Bk w k ps v2 v3 v4) :
    Calls Tryz.prog 57 #[.pointer (some ⟨k, 0, none⟩), .int .i64 id] w fun en w' => en = .returned (.int .i64 id) ∧ w' = w := by
  have hc := h.nils 32 (by omega) (by omega)
  clear h
  go_enter Tryz.func57, Tryz.ntmps57
  go_wp2
  go_loop [1, 5] (fun q i => q = .int .i64 id ∧ i = .int .i64 0) (fun _ _ => 0)
  case atStart => exact ⟨rfl, rfl⟩
  case round =>
    obtain ⟨rfl, rfl⟩ := hrel
    go_wp2
    go_ret
    exact ⟨rfl, rfl⟩
set_option maxHeartbeats 400000 in
theorem setsHold_ (k : Nat) (ps id : Int) (v2 v3 v4 : Value) (w : World) (h : Bk w k ps v2 v3 v4) :
    Calls Tryz.prog 74 #[.pointer (some ⟨k, 0, none⟩), .int .i64 id] w fun en w' => en = .returned (.tuple #[.int .i64 id, .bool true]) ∧ w' = w := by
  have hc := h.nils 32 (by omega) (by omega)
  clear h
  go_enter Tryz.func74, Tryz.ntmps74
  go_wp2
  go_loop [1, 6, 7] (fun q all i => q = .int .i64 id ∧ all = .bool true ∧ i = .int .i64 0) (fun _ _ _ => 0)
  case atStart => exact ⟨rfl, rfl, rfl⟩
  case round =>
    obtain ⟨rfl, rfl, rfl⟩ := hrel
    go_wp2
    go_ret2
    exact ⟨rfl, rfl⟩
set_option maxHeartbeats 400000 in
theorem setsGrow_ (k : Nat) (ps id t : Int) (v2 v3 v4 : Value) (w : World) (h : Bk w k ps v2 v3 v4) :
    Calls Tryz.prog 91 #[.pointer (some ⟨k, 0, none⟩), .int .i64 id, .int .i64 t] w fun en w' => en = .returned (.int .i64 id) ∧ w' = w := by
  have hc := h.nils 32 (by omega) (by omega)
  clear h
  go_enter Tryz.func91, Tryz.ntmps91
  go_wp2
  go_loop [1, 7] (fun q i => q = .int .i64 id ∧ i = .int .i64 0) (fun _ _ => 0)
  case atStart => exact ⟨rfl, rfl⟩
  case round =>
    obtain ⟨rfl, rfl⟩ := hrel
    go_wp2
    go_ret
    exact ⟨rfl, rfl⟩

set_option maxHeartbeats 400000 in
theorem pendingsWrite_ (k : Nat) (ps id : Int) (v2 v3 v4 : Value) (w : World) (h : Bk w k ps v2 v3 v4) :
    Calls Tryz.prog 58 #[.pointer (some ⟨k, 0, none⟩), .int .i64 id] w fun en w' => en = .returned (.int .i64 id) ∧ w' = w := by
  have hc := h.nils 35 (by omega) (by omega)
  clear h
  go_enter Tryz.func58, Tryz.ntmps58
  go_wp2
  go_loop [1, 5] (fun q i => q = .int .i64 id ∧ i = .int .i64 0) (fun _ _ => 0)
  case atStart => exact ⟨rfl, rfl⟩
  case round =>
    obtain ⟨rfl, rfl⟩ := hrel
    go_wp2
    go_ret
    exact ⟨rfl, rfl⟩
set_option maxHeartbeats 400000 in
theorem pendingsHold_ (k : Nat) (ps id : Int) (v2 v3 v4 : Value) (w : World) (h : Bk w k ps v2 v3 v4) :
    Calls Tryz.prog 75 #[.pointer (some ⟨k, 0, none⟩), .int .i64 id] w fun en w' => en = .returned (.tuple #[.int .i64 id, .bool true]) ∧ w' = w := by
  have hc := h.nils 35 (by omega) (by omega)
  clear h
  go_enter Tryz.func75, Tryz.ntmps75
  go_wp2
  go_loop [1, 6, 7] (fun q all i => q = .int .i64 id ∧ all = .bool true ∧ i = .int .i64 0) (fun _ _ _ => 0)
  case atStart => exact ⟨rfl, rfl, rfl⟩
  case round =>
    obtain ⟨rfl, rfl, rfl⟩ := hrel
    go_wp2
    go_ret2
    exact ⟨rfl, rfl⟩
set_option maxHeartbeats 400000 in
theorem pendingsGrow_ (k : Nat) (ps id t : Int) (v2 v3 v4 : Value) (w : World) (h : Bk w k ps v2 v3 v4) :
    Calls Tryz.prog 92 #[.pointer (some ⟨k, 0, none⟩), .int .i64 id, .int .i64 t] w fun en w' => en = .returned (.int .i64 id) ∧ w' = w := by
  have hc := h.nils 35 (by omega) (by omega)
  clear h
  go_enter Tryz.func92, Tryz.ntmps92
  go_wp2
  go_loop [1, 7] (fun q i => q = .int .i64 id ∧ i = .int .i64 0) (fun _ _ => 0)
  case atStart => exact ⟨rfl, rfl⟩
  case round =>
    obtain ⟨rfl, rfl⟩ := hrel
    go_wp2
    go_ret
    exact ⟨rfl, rfl⟩

set_option maxHeartbeats 400000 in
theorem changesWrite_ (k : Nat) (ps id : Int) (v2 v3 v4 : Value) (w : World) (h : Bk w k ps v2 v3 v4) :
    Calls Tryz.prog 59 #[.pointer (some ⟨k, 0, none⟩), .int .i64 id] w fun en w' => en = .returned (.int .i64 id) ∧ w' = w := by
  have hc := h.nils 38 (by omega) (by omega)
  clear h
  go_enter Tryz.func59, Tryz.ntmps59
  go_wp2
  go_loop [1, 5] (fun q i => q = .int .i64 id ∧ i = .int .i64 0) (fun _ _ => 0)
  case atStart => exact ⟨rfl, rfl⟩
  case round =>
    obtain ⟨rfl, rfl⟩ := hrel
    go_wp2
    go_ret
    exact ⟨rfl, rfl⟩
set_option maxHeartbeats 400000 in
theorem changesHold_ (k : Nat) (ps id : Int) (v2 v3 v4 : Value) (w : World) (h : Bk w k ps v2 v3 v4) :
    Calls Tryz.prog 76 #[.pointer (some ⟨k, 0, none⟩), .int .i64 id] w fun en w' => en = .returned (.tuple #[.int .i64 id, .bool true]) ∧ w' = w := by
  have hc := h.nils 38 (by omega) (by omega)
  clear h
  go_enter Tryz.func76, Tryz.ntmps76
  go_wp2
  go_loop [1, 6, 7] (fun q all i => q = .int .i64 id ∧ all = .bool true ∧ i = .int .i64 0) (fun _ _ _ => 0)
  case atStart => exact ⟨rfl, rfl, rfl⟩
  case round =>
    obtain ⟨rfl, rfl, rfl⟩ := hrel
    go_wp2
    go_ret2
    exact ⟨rfl, rfl⟩
set_option maxHeartbeats 400000 in
theorem changesGrow_ (k : Nat) (ps id t : Int) (v2 v3 v4 : Value) (w : World) (h : Bk w k ps v2 v3 v4) :
    Calls Tryz.prog 93 #[.pointer (some ⟨k, 0, none⟩), .int .i64 id, .int .i64 t] w fun en w' => en = .returned (.int .i64 id) ∧ w' = w := by
  have hc := h.nils 38 (by omega) (by omega)
  clear h
  go_enter Tryz.func93, Tryz.ntmps93
  go_wp2
  go_loop [1, 7] (fun q i => q = .int .i64 id ∧ i = .int .i64 0) (fun _ _ => 0)
  case atStart => exact ⟨rfl, rfl⟩
  case round =>
    obtain ⟨rfl, rfl⟩ := hrel
    go_wp2
    go_ret
    exact ⟨rfl, rfl⟩

set_option maxHeartbeats 400000 in
theorem faultsWrite_ (k : Nat) (ps id : Int) (v2 v3 v4 : Value) (w : World) (h : Bk w k ps v2 v3 v4) :
    Calls Tryz.prog 60 #[.pointer (some ⟨k, 0, none⟩), .int .i64 id] w fun en w' => en = .returned (.int .i64 id) ∧ w' = w := by
  have hc := h.nils 41 (by omega) (by omega)
  clear h
  go_enter Tryz.func60, Tryz.ntmps60
  go_wp2
  go_loop [1, 5] (fun q i => q = .int .i64 id ∧ i = .int .i64 0) (fun _ _ => 0)
  case atStart => exact ⟨rfl, rfl⟩
  case round =>
    obtain ⟨rfl, rfl⟩ := hrel
    go_wp2
    go_ret
    exact ⟨rfl, rfl⟩
set_option maxHeartbeats 400000 in
theorem faultsHold_ (k : Nat) (ps id : Int) (v2 v3 v4 : Value) (w : World) (h : Bk w k ps v2 v3 v4) :
    Calls Tryz.prog 77 #[.pointer (some ⟨k, 0, none⟩), .int .i64 id] w fun en w' => en = .returned (.tuple #[.int .i64 id, .bool true]) ∧ w' = w := by
  have hc := h.nils 41 (by omega) (by omega)
  clear h
  go_enter Tryz.func77, Tryz.ntmps77
  go_wp2
  go_loop [1, 6, 7] (fun q all i => q = .int .i64 id ∧ all = .bool true ∧ i = .int .i64 0) (fun _ _ _ => 0)
  case atStart => exact ⟨rfl, rfl, rfl⟩
  case round =>
    obtain ⟨rfl, rfl, rfl⟩ := hrel
    go_wp2
    go_ret2
    exact ⟨rfl, rfl⟩
set_option maxHeartbeats 400000 in
theorem faultsGrow_ (k : Nat) (ps id t : Int) (v2 v3 v4 : Value) (w : World) (h : Bk w k ps v2 v3 v4) :
    Calls Tryz.prog 94 #[.pointer (some ⟨k, 0, none⟩), .int .i64 id, .int .i64 t] w fun en w' => en = .returned (.int .i64 id) ∧ w' = w := by
  have hc := h.nils 41 (by omega) (by omega)
  clear h
  go_enter Tryz.func94, Tryz.ntmps94
  go_wp2
  go_loop [1, 7] (fun q i => q = .int .i64 id ∧ i = .int .i64 0) (fun _ _ => 0)
  case atStart => exact ⟨rfl, rfl⟩
  case round =>
    obtain ⟨rfl, rfl⟩ := hrel
    go_wp2
    go_ret
    exact ⟨rfl, rfl⟩

set_option maxHeartbeats 400000 in
theorem flightsWrite_ (k : Nat) (ps id : Int) (v2 v3 v4 : Value) (w : World) (h : Bk w k ps v2 v3 v4) :
    Calls Tryz.prog 61 #[.pointer (some ⟨k, 0, none⟩), .int .i64 id] w fun en w' => en = .returned (.int .i64 id) ∧ w' = w := by
  have hc := h.nils 44 (by omega) (by omega)
  clear h
  go_enter Tryz.func61, Tryz.ntmps61
  go_wp2
  go_loop [1, 5] (fun q i => q = .int .i64 id ∧ i = .int .i64 0) (fun _ _ => 0)
  case atStart => exact ⟨rfl, rfl⟩
  case round =>
    obtain ⟨rfl, rfl⟩ := hrel
    go_wp2
    go_ret
    exact ⟨rfl, rfl⟩
set_option maxHeartbeats 400000 in
theorem flightsHold_ (k : Nat) (ps id : Int) (v2 v3 v4 : Value) (w : World) (h : Bk w k ps v2 v3 v4) :
    Calls Tryz.prog 78 #[.pointer (some ⟨k, 0, none⟩), .int .i64 id] w fun en w' => en = .returned (.tuple #[.int .i64 id, .bool true]) ∧ w' = w := by
  have hc := h.nils 44 (by omega) (by omega)
  clear h
  go_enter Tryz.func78, Tryz.ntmps78
  go_wp2
  go_loop [1, 6, 7] (fun q all i => q = .int .i64 id ∧ all = .bool true ∧ i = .int .i64 0) (fun _ _ _ => 0)
  case atStart => exact ⟨rfl, rfl, rfl⟩
  case round =>
    obtain ⟨rfl, rfl, rfl⟩ := hrel
    go_wp2
    go_ret2
    exact ⟨rfl, rfl⟩
set_option maxHeartbeats 400000 in
theorem flightsGrow_ (k : Nat) (ps id t : Int) (v2 v3 v4 : Value) (w : World) (h : Bk w k ps v2 v3 v4) :
    Calls Tryz.prog 95 #[.pointer (some ⟨k, 0, none⟩), .int .i64 id, .int .i64 t] w fun en w' => en = .returned (.int .i64 id) ∧ w' = w := by
  have hc := h.nils 44 (by omega) (by omega)
  clear h
  go_enter Tryz.func95, Tryz.ntmps95
  go_wp2
  go_loop [1, 7] (fun q i => q = .int .i64 id ∧ i = .int .i64 0) (fun _ _ => 0)
  case atStart => exact ⟨rfl, rfl⟩
  case round =>
    obtain ⟨rfl, rfl⟩ := hrel
    go_wp2
    go_ret
    exact ⟨rfl, rfl⟩

set_option maxHeartbeats 400000 in
theorem opsWrite_ (k : Nat) (ps id : Int) (v2 v3 v4 : Value) (w : World) (h : Bk w k ps v2 v3 v4) :
    Calls Tryz.prog 62 #[.pointer (some ⟨k, 0, none⟩), .int .i64 id] w fun en w' => en = .returned (.int .i64 id) ∧ w' = w := by
  have hc := h.nils 47 (by omega) (by omega)
  clear h
  go_enter Tryz.func62, Tryz.ntmps62
  go_wp2
  go_loop [1, 5] (fun q i => q = .int .i64 id ∧ i = .int .i64 0) (fun _ _ => 0)
  case atStart => exact ⟨rfl, rfl⟩
  case round =>
    obtain ⟨rfl, rfl⟩ := hrel
    go_wp2
    go_ret
    exact ⟨rfl, rfl⟩
set_option maxHeartbeats 400000 in
theorem opsHold_ (k : Nat) (ps id : Int) (v2 v3 v4 : Value) (w : World) (h : Bk w k ps v2 v3 v4) :
    Calls Tryz.prog 79 #[.pointer (some ⟨k, 0, none⟩), .int .i64 id] w fun en w' => en = .returned (.tuple #[.int .i64 id, .bool true]) ∧ w' = w := by
  have hc := h.nils 47 (by omega) (by omega)
  clear h
  go_enter Tryz.func79, Tryz.ntmps79
  go_wp2
  go_loop [1, 6, 7] (fun q all i => q = .int .i64 id ∧ all = .bool true ∧ i = .int .i64 0) (fun _ _ _ => 0)
  case atStart => exact ⟨rfl, rfl, rfl⟩
  case round =>
    obtain ⟨rfl, rfl, rfl⟩ := hrel
    go_wp2
    go_ret2
    exact ⟨rfl, rfl⟩
set_option maxHeartbeats 400000 in
theorem opsGrow_ (k : Nat) (ps id t : Int) (v2 v3 v4 : Value) (w : World) (h : Bk w k ps v2 v3 v4) :
    Calls Tryz.prog 96 #[.pointer (some ⟨k, 0, none⟩), .int .i64 id, .int .i64 t] w fun en w' => en = .returned (.int .i64 id) ∧ w' = w := by
  have hc := h.nils 47 (by omega) (by omega)
  clear h
  go_enter Tryz.func96, Tryz.ntmps96
  go_wp2
  go_loop [1, 7] (fun q i => q = .int .i64 id ∧ i = .int .i64 0) (fun _ _ => 0)
  case atStart => exact ⟨rfl, rfl⟩
  case round =>
    obtain ⟨rfl, rfl⟩ := hrel
    go_wp2
    go_ret
    exact ⟨rfl, rfl⟩

set_option maxHeartbeats 400000 in
theorem eventsWrite_ (k : Nat) (ps id : Int) (v2 v3 v4 : Value) (w : World) (h : Bk w k ps v2 v3 v4) :
    Calls Tryz.prog 63 #[.pointer (some ⟨k, 0, none⟩), .int .i64 id] w fun en w' => en = .returned (.int .i64 id) ∧ w' = w := by
  have hc := h.nils 50 (by omega) (by omega)
  clear h
  go_enter Tryz.func63, Tryz.ntmps63
  go_wp2
  go_loop [1, 5] (fun q i => q = .int .i64 id ∧ i = .int .i64 0) (fun _ _ => 0)
  case atStart => exact ⟨rfl, rfl⟩
  case round =>
    obtain ⟨rfl, rfl⟩ := hrel
    go_wp2
    go_ret
    exact ⟨rfl, rfl⟩
set_option maxHeartbeats 400000 in
theorem eventsHold_ (k : Nat) (ps id : Int) (v2 v3 v4 : Value) (w : World) (h : Bk w k ps v2 v3 v4) :
    Calls Tryz.prog 80 #[.pointer (some ⟨k, 0, none⟩), .int .i64 id] w fun en w' => en = .returned (.tuple #[.int .i64 id, .bool true]) ∧ w' = w := by
  have hc := h.nils 50 (by omega) (by omega)
  clear h
  go_enter Tryz.func80, Tryz.ntmps80
  go_wp2
  go_loop [1, 6, 7] (fun q all i => q = .int .i64 id ∧ all = .bool true ∧ i = .int .i64 0) (fun _ _ _ => 0)
  case atStart => exact ⟨rfl, rfl, rfl⟩
  case round =>
    obtain ⟨rfl, rfl, rfl⟩ := hrel
    go_wp2
    go_ret2
    exact ⟨rfl, rfl⟩
set_option maxHeartbeats 400000 in
theorem eventsGrow_ (k : Nat) (ps id t : Int) (v2 v3 v4 : Value) (w : World) (h : Bk w k ps v2 v3 v4) :
    Calls Tryz.prog 97 #[.pointer (some ⟨k, 0, none⟩), .int .i64 id, .int .i64 t] w fun en w' => en = .returned (.int .i64 id) ∧ w' = w := by
  have hc := h.nils 50 (by omega) (by omega)
  clear h
  go_enter Tryz.func97, Tryz.ntmps97
  go_wp2
  go_loop [1, 7] (fun q i => q = .int .i64 id ∧ i = .int .i64 0) (fun _ _ => 0)
  case atStart => exact ⟨rfl, rfl⟩
  case round =>
    obtain ⟨rfl, rfl⟩ := hrel
    go_wp2
    go_ret
    exact ⟨rfl, rfl⟩

end Go.Proofs.YtbkeejapongmlaaGreatDoor.Kp
