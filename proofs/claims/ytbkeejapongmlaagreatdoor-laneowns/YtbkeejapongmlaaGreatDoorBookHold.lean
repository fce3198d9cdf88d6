import Derived.Test.YtbkeejapongmlaaGreatDoorBookWrite
namespace Go.Proofs.YtbkeejapongmlaaGreatDoor.Kp
set_option maxRecDepth 100000
open Go.RowKit
set_option linter.unusedVariables false

set_option maxHeartbeats 400000 in
theorem bytesShow_ (k : Nat) (ps id : Int) (e : Ent) (v2 v3 v4 : Value) (w : World) (h : Bk w k ps v2 v3 v4) (hs : e.Sh w fun j => mk ps id j) (hn : e.n ≤ 1000000) (i0 : 0 ≤ id) (i1 : id ≤ 100000) :
    Calls Tryz.prog 128 #[.pointer (some ⟨k, 0, none⟩), e.val, .int .i64 id] w fun en w' => en = .returned (.bool true) ∧ w' = w := by
  obtain ⟨a, n, c⟩ := e
  show Calls _ _ #[_, .slice a n c, _] _ _
  simp only [Ent.Sh] at hs hn
  go_enter Tryz.func128, Tryz.ntmps128
  go_wp2
  go_loop [7] (fun i => ∃ j : Nat, j ≤ n ∧ i = .int .i64 j) (fun i => n - (intOf i).toNat)
  case atStart => exact ⟨0, by omega, rfl⟩
  case round =>
    obtain ⟨j, hj, rfl⟩ := hrel
    by_cases hlt : j < n
    · rcases hs with hs | ⟨b, off, rfl, hc⟩
      · omega
      have q := hc j hlt
      have H := hid h
      have i2 : (j : Int) < (n : Int) := by omega
      clear hc h
      go_wp2_with (go_at_call 111; refine (byteMark_ k ps id j v2 v3 v4 w H.out i0 i1 (by omega) (by omega)).mono ?_; rintro e w' ⟨rfl, hw⟩; obtain rfl := hw.symm; clear hw)
      go_round
      case rel => exact ⟨j + 1, by omega, by go_num⟩
      case measure => simp [intOf]; omega
    · go_wp2_with fail
      go_ret
      exact ⟨rfl, rfl⟩

set_option maxRecDepth 100000 in
set_option maxHeartbeats 1000000 in
theorem bytesHold_ (k base m mg : Nat) (ps : Int) (E F : Nat → Ent) (v2 v3 v4 : Value) (w : World) (h : Bk w k ps v2 v3 v4) (ht : w.ownsRow base 22 1 v2 m (vals m E)) (hu : w.ownsRow base 22 1 v4 mg (vals mg F)) (hmg : mg = 0 ∨ mg = m)
    (hE : ∀ i, i < m → (E i).n ≤ 1000000 ∧ (E i).Sh w fun j => mk ps (i + 1) j) (hF : ∀ i, i < mg → (F i).n ≤ 1000000 ∧ (F i).Sh w fun j => mk ps (i + 1) j) (hm : m ≤ 1000) :
    Calls Tryz.prog 64 #[.pointer (some ⟨k, 0, none⟩), .int .i64 0] w fun en w' => en = .returned (.tuple #[.int .i64 m, .bool true]) ∧ w' = w := by
  obtain ⟨a2, c2, rfl, hg⟩ := tab_at ht
  obtain ⟨a4, c4, rfl, hg4⟩ := tab_at hu
  have d2 := h.c2
  have d4 := h.c4
  have H := hid h
  clear h ht hu
  go_enter Tryz.func64, Tryz.ntmps64
  go_wp2
  go_loop [1, 6, 7] (fun q all i => ∃ x : Nat, x ≤ m ∧ q = .int .i64 x ∧ all = .bool true ∧ i = .int .i64 x) (fun _ _ i => m - (intOf i).toNat)
  case atStart => exact ⟨0, by omega, rfl, rfl, rfl⟩
  case round =>
    obtain ⟨x, hx, rfl, rfl, rfl⟩ := hrel
    by_cases hlt : x < m
    · rcases hg with hg | ⟨g, rfl, _, hcell⟩
      · omega
      have q1 : w.cell? ⟨g, x, none⟩ = some (.slice (E x).a (E x).n (E x).c) := hcell x hlt
      have i1 : (x : Int) < (m : Int) := by omega
      have hEx := hid (hE x hlt)
      have HS := hid (bytesShow_ k ps ((x : Int) + 1) (E x) (.slice (some ⟨g, 0, none⟩) m c2) v3 (.slice a4 mg c4) w H.out hEx.out.2 hEx.out.1 (by omega) (by omega))
      clear hcell hE
      rcases hmg with rfl | rfl
      · have i2 : ¬ (x : Int) < 0 := by omega
        go_wp2_with fail
        refine HS.out.mono ?_
        rintro e w' ⟨rfl, hw⟩
        obtain rfl := hw.symm
        clear hw
        go_wp2_with fail
        go_round
        case rel => exact ⟨x + 1, by omega, by go_num, rfl, by go_num⟩
        case measure => simp [intOf]; omega
      · rcases hg4 with hg4 | ⟨g4, rfl, _, hcell4⟩
        · omega
        have q4 : w.cell? ⟨g4, x, none⟩ = some (.slice (F x).a (F x).n (F x).c) := hcell4 x hlt
        have hFx := hid (hF x hlt)
        have HT := hid (bytesShow_ k ps ((x : Int) + 1) (F x) (.slice (some ⟨g, 0, none⟩) mg c2) v3 (.slice (some ⟨g4, 0, none⟩) mg c4) w H.out hFx.out.2 hFx.out.1 (by omega) (by omega))
        clear hcell4 hF
        go_wp2_with fail
        refine HS.out.mono ?_
        rintro e w' ⟨rfl, hw⟩
        obtain rfl := hw.symm
        clear hw
        go_wp2_with fail
        refine HT.out.mono ?_
        rintro e w' ⟨rfl, hw⟩
        obtain rfl := hw.symm
        clear hw
        go_wp2_with fail
        go_round
        case rel => exact ⟨x + 1, by omega, by go_num, rfl, by go_num⟩
        case measure => simp [intOf]; omega
    · obtain rfl : m = x := by omega
      go_wp2_with fail
      go_ret2
      exact ⟨rfl, rfl⟩
end Go.Proofs.YtbkeejapongmlaaGreatDoor.Kp
