import Derived.Test.YtbkeejapongmlaaGreatDoorBookAll
namespace Go.Proofs.YtbkeejapongmlaaGreatDoor.Kp
set_option maxRecDepth 100000
open Go.RowKit
set_option linter.unusedVariables false

set_option maxHeartbeats 400000 in
theorem wasOf_ (k : Nat) (ps : Int) (v2 v3 v4 : Value) (w : World) (h : Bk w k ps v2 v3 v4) :
    Calls Tryz.prog 45 #[.pointer (some ⟨k, 0, none⟩)] w fun en w' => en = .returned (.bool true) ∧ w' = w := by
  have c1 := h.nils 17 (by omega) (by omega)
  have c2 := h.nils 23 (by omega) (by omega)
  have c3 := h.nils 26 (by omega) (by omega)
  have c4 := h.nils 29 (by omega) (by omega)
  have c5 := h.nils 32 (by omega) (by omega)
  have c6 := h.nils 38 (by omega) (by omega)
  clear h
  go_enter Tryz.func45, Tryz.ntmps45
  go_wp2
  go_loop [3] (fun i => i = .int .i64 0) (fun _ => 0)
  case atStart => exact rfl
  case round =>
    obtain rfl := hrel
    go_wp2
    go_loop [4] (fun i => i = .int .i64 0) (fun _ => 0)
    case atStart => exact rfl
    case round =>
      obtain rfl := hrel
      go_wp2
      go_loop [5] (fun i => i = .int .i64 0) (fun _ => 0)
      case atStart => exact rfl
      case round =>
        obtain rfl := hrel
        go_wp2
        go_loop [6] (fun i => i = .int .i64 0) (fun _ => 0)
        case atStart => exact rfl
        case round =>
          obtain rfl := hrel
          go_wp2
          go_loop [7] (fun i => i = .int .i64 0) (fun _ => 0)
          case atStart => exact rfl
          case round =>
            obtain rfl := hrel
            go_wp2
            go_loop [8] (fun i => i = .int .i64 0) (fun _ => 0)
            case atStart => exact rfl
            case round =>
              obtain rfl := hrel
              go_wp2
              go_ret
              exact ⟨rfl, rfl⟩

set_option maxHeartbeats 400000 in
theorem wasToo_ (k : Nat) (ps : Int) (v2 v3 v4 : Value) (w : World) (h : Bk w k ps v2 v3 v4) :
    Calls Tryz.prog 46 #[.pointer (some ⟨k, 0, none⟩)] w fun en w' => en = .returned (.bool true) ∧ w' = w := by
  have c1 := h.nils 35 (by omega) (by omega)
  have c2 := h.nils 41 (by omega) (by omega)
  have c3 := h.nils 44 (by omega) (by omega)
  have c4 := h.nils 47 (by omega) (by omega)
  have c5 := h.nils 50 (by omega) (by omega)
  clear h
  go_enter Tryz.func46, Tryz.ntmps46
  go_wp2
  go_loop [3] (fun i => i = .int .i64 0) (fun _ => 0)
  case atStart => exact rfl
  case round =>
    obtain rfl := hrel
    go_wp2
    go_loop [4] (fun i => i = .int .i64 0) (fun _ => 0)
    case atStart => exact rfl
    case round =>
      obtain rfl := hrel
      go_wp2
      go_loop [5] (fun i => i = .int .i64 0) (fun _ => 0)
      case atStart => exact rfl
      case round =>
        obtain rfl := hrel
        go_wp2
        go_loop [6] (fun i => i = .int .i64 0) (fun _ => 0)
        case atStart => exact rfl
        case round =>
          obtain rfl := hrel
          go_wp2
          go_loop [7] (fun i => i = .int .i64 0) (fun _ => 0)
          case atStart => exact rfl
          case round =>
            obtain rfl := hrel
            go_wp2
            go_ret
            exact ⟨rfl, rfl⟩

/-- A list and the copy that was taken of it show the same bytes. -/
def SameE (w : World) (e f : Ent) : Prop := ∃ zs, Bs w e.a e.n zs ∧ Bs w f.a f.n zs ∧ e.n ≤ 100000 ∧ f.n ≤ 100000

set_option maxRecDepth 100000 in
set_option maxHeartbeats 1000000 in
theorem was_ (k base m : Nat) (ps : Int) (E G : Nat → Ent) (v2 v3 v4 : Value) (w : World) (h : Bk w k ps v2 v3 v4) (ht : w.ownsRow base 22 1 v2 m (vals m E)) (hu : w.ownsRow base 22 1 v3 m (vals m G)) (hs : ∀ i, i < m → SameE w (E i) (G i)) (hm : m ≤ 1000) :
    Calls Tryz.prog 44 #[.pointer (some ⟨k, 0, none⟩)] w fun en w' => en = .returned (.bool true) ∧ Drawn w w' := by
  obtain ⟨a2, c2, rfl, hg⟩ := tab_at ht
  obtain ⟨a3, c3, rfl, hg3⟩ := tab_at hu
  have n1 := h.nils 5 (by omega) (by omega)
  have n2 := h.nils 8 (by omega) (by omega)
  have n3 := h.nils 11 (by omega) (by omega)
  have n4 := h.nils 14 (by omega) (by omega)
  have n5 := h.nils 20 (by omega) (by omega)
  have d2 := h.c2
  have d3 := h.c3
  clear h ht hu
  go_enter Tryz.func44, Tryz.ntmps44
  go_wp2
  go_loopw [3] (fun i wr => ∃ x nq : Nat, x ≤ m ∧ i = .int .i64 x ∧ wr = w.drewN nq) (fun i _ => m - (intOf i).toNat)
  case atStart => exact ⟨0, 0, by omega, rfl, rfl⟩
  case round =>
    obtain ⟨x, nq, hx, rfl, rfl⟩ := hrel
    by_cases hlt : x < m
    · rcases hg with hg | ⟨g, rfl, _, hcell⟩
      · omega
      rcases hg3 with hg3 | ⟨g3, rfl, _, hcell3⟩
      · omega
      have q1 : w.cell? ⟨g, x, none⟩ = some (.slice (E x).a (E x).n (E x).c) := hcell x hlt
      have q3 : w.cell? ⟨g3, x, none⟩ = some (.slice (G x).a (G x).n (G x).c) := hcell3 x hlt
      have i1 : (x : Int) < (m : Int) := by omega
      have hS : Hid (∀ n, SameE (w.drewN (nq + n)) (E x) (G x)) := fun n => by
        obtain ⟨zs, s1, s2, s3, s4⟩ := hs x hlt
        exact ⟨zs, s1.drawn (drawnN w _), s2.drawn (drawnN w _), s3, s4⟩
      clear hcell hcell3 hs
      generalize E x = ex at *
      generalize G x = gx at *
      have HC : Hid (∀ n, Calls Tryz.prog 40 #[.slice ex.a ex.n ex.c, .slice gx.a gx.n gx.c] (w.drewN (nq + n)) fun e w' => e = .returned (.bool true) ∧ ∃ nx, w' = w.drewN (nq + nx)) := fun n => by
        obtain ⟨zs, s1, s2, s3, s4⟩ := hS.out n
        refine (same _ _ _ _ _ _ zs zs _ s1 s2 (by unfold maxLen; omega) (by unfold maxLen; omega)).mono ?_
        rintro e w' ⟨rfl, hw⟩
        obtain ⟨q, rfl⟩ := hw
        exact ⟨ret_bool (by simp [sameB]), n + q, by rw [World.drewN_drewN, Nat.add_assoc]⟩
      clear hS
      go_wp2
      go_quiet ((go_at_call 40; exact HC.out _))
      go_wp2
      go_roundw
      case rel => exact ⟨x + 1, _, by omega, by go_num, rfl⟩
      case measure => simp [intOf]; omega
    · have HD : Hid (Drawn w (w.drewN nq)) := drawnN w nq
      clear hs hg hg3
      go_wp2
      go_loop [4] (fun i => i = .int .i64 0) (fun _ => 0)
      case atStart => exact rfl
      case round =>
        obtain rfl := hrel
        go_wp2
        go_loop [5] (fun i => i = .int .i64 0) (fun _ => 0)
        case atStart => exact rfl
        case round =>
          obtain rfl := hrel
          go_wp2
          go_loop [6] (fun i => i = .int .i64 0) (fun _ => 0)
          case atStart => exact rfl
          case round =>
            obtain rfl := hrel
            go_wp2
            go_loop [8] (fun i => i = .int .i64 0) (fun _ => 0)
            case atStart => exact rfl
            case round =>
              obtain rfl := hrel
              go_wp2
              go_loop [10] (fun i => i = .int .i64 0) (fun _ => 0)
              case atStart => exact rfl
              case round =>
                obtain rfl := hrel
                go_wp2
                go_ret
                exact ⟨rfl, HD.out⟩

set_option maxHeartbeats 400000 in
theorem untouched_ (k base m : Nat) (ps : Int) (E G : Nat → Ent) (v2 v3 v4 : Value) (w : World) (h : Bk w k ps v2 v3 v4) (ht : w.ownsRow base 22 1 v2 m (vals m E)) (hu : w.ownsRow base 22 1 v3 m (vals m G)) (hs : ∀ i, i < m → SameE w (E i) (G i)) (hm : m ≤ 1000) :
    Calls Tryz.prog 36 #[.pointer (some ⟨k, 0, none⟩)] w fun en w' => en = .returned (.bool true) ∧ Drawn w w' := by
  go_enter Tryz.func36, Tryz.ntmps36
  go_wp2_with fail
  refine (was_ k base m ps E G v2 v3 v4 w h ht hu hs hm).mono ?_
  rintro en w1 ⟨rfl, hd⟩
  have h1 : Bk w1 k ps v2 v3 v4 := h.at (by rw [hd.heap])
  clear h ht hu hs
  go_wp2_with fail
  refine (wasOf_ k ps v2 v3 v4 w1 h1).mono ?_
  rintro en w' ⟨rfl, hw⟩
  obtain rfl := hw.symm
  clear hw
  go_wp2_with fail
  refine (wasToo_ k ps v2 v3 v4 w1 h1).mono ?_
  rintro en w' ⟨rfl, hw⟩
  obtain rfl := hw.symm
  clear hw
  go_wp2_with fail
  go_ret
  exact ⟨rfl, hd⟩
end Go.Proofs.YtbkeejapongmlaaGreatDoor.Kp
