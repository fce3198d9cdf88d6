import Derived.Test.YtbkeejapongmlaaGreatDoorBookGrow0
import Derived.Test.YtbkeejapongmlaaGreatDoorBookKinds
namespace Go.Proofs.YtbkeejapongmlaaGreatDoor.Kp
set_option maxRecDepth 100000
open Go.RowKit
set_option linter.unusedVariables false

set_option maxRecDepth 100000 in
set_option maxHeartbeats 1000000 in
theorem write_ (k base m : Nat) (ps : Int) (E : Nat → Ent) (v2 v3 v4 : Value) (w : World) (h : Bk w k ps v2 v3 v4) (ht : w.ownsRow base 22 1 v2 m (vals m E)) (hok : ∀ i, i < m → (E i).Ok w) (hdj : Dj m E) (hm : m ≤ 1000) :
    Calls Tryz.prog 37 #[.pointer (some ⟨k, 0, none⟩)] w fun en w' => en = .returned (.tuple #[]) ∧ Wk (Els m E) w w' ∧ ∀ i, i < m → (E i).Sh w' fun j => mk ps (i + 1) j := by
  have c0 := h.c0
  go_enter Tryz.func37, Tryz.ntmps37
  go_wp2_with fail
  refine (bytesWrite_ k base m ps E v2 v3 v4 w h ht hok hdj hm).mono ?_
  rintro en w1 ⟨rfl, hW, hS⟩
  have hb : Bk w1 k ps v2 v3 v4 := bk_wk h hW fun b i ⟨q, hq, he⟩ => he.blk (hok q hq)
  have HB := hid hb
  have HS := hid hS
  clear h ht hok hb hS c0
  go_wp2_with fail
  refine (boolsWrite_ k ps _ v2 v3 v4 w1 HB.out).mono ?_
  rintro en w' ⟨rfl, hw⟩
  obtain rfl := hw.symm
  clear hw
  go_wp2_with fail
  refine (intsWrite_ k ps _ v2 v3 v4 w1 HB.out).mono ?_
  rintro en w' ⟨rfl, hw⟩
  obtain rfl := hw.symm
  clear hw
  go_wp2_with fail
  refine (textsWrite_ k ps _ v2 v3 v4 w1 HB.out).mono ?_
  rintro en w' ⟨rfl, hw⟩
  obtain rfl := hw.symm
  clear hw
  go_wp2_with fail
  refine (byteListsWrite_ k ps _ v2 v3 v4 w1 HB.out).mono ?_
  rintro en w' ⟨rfl, hw⟩
  obtain rfl := hw.symm
  clear hw
  go_wp2_with fail
  refine (prefixesWrite_ k ps _ v2 v3 v4 w1 HB.out).mono ?_
  rintro en w' ⟨rfl, hw⟩
  obtain rfl := hw.symm
  clear hw
  go_wp2_with fail
  refine (openingsWrite_ k ps _ v2 v3 v4 w1 HB.out).mono ?_
  rintro en w' ⟨rfl, hw⟩
  obtain rfl := hw.symm
  clear hw
  go_wp2_with fail
  refine (peersWrite_ k ps _ v2 v3 v4 w1 HB.out).mono ?_
  rintro en w' ⟨rfl, hw⟩
  obtain rfl := hw.symm
  clear hw
  go_wp2_with fail
  refine (lanesWrite_ k ps _ v2 v3 v4 w1 HB.out).mono ?_
  rintro en w' ⟨rfl, hw⟩
  obtain rfl := hw.symm
  clear hw
  go_wp2_with fail
  refine (rowsWrite_ k ps _ v2 v3 v4 w1 HB.out).mono ?_
  rintro en w' ⟨rfl, hw⟩
  obtain rfl := hw.symm
  clear hw
  go_wp2_with fail
  refine (setsWrite_ k ps _ v2 v3 v4 w1 HB.out).mono ?_
  rintro en w' ⟨rfl, hw⟩
  obtain rfl := hw.symm
  clear hw
  go_wp2_with fail
  refine (pendingsWrite_ k ps _ v2 v3 v4 w1 HB.out).mono ?_
  rintro en w' ⟨rfl, hw⟩
  obtain rfl := hw.symm
  clear hw
  go_wp2_with fail
  refine (changesWrite_ k ps _ v2 v3 v4 w1 HB.out).mono ?_
  rintro en w' ⟨rfl, hw⟩
  obtain rfl := hw.symm
  clear hw
  go_wp2_with fail
  refine (faultsWrite_ k ps _ v2 v3 v4 w1 HB.out).mono ?_
  rintro en w' ⟨rfl, hw⟩
  obtain rfl := hw.symm
  clear hw
  go_wp2_with fail
  refine (flightsWrite_ k ps _ v2 v3 v4 w1 HB.out).mono ?_
  rintro en w' ⟨rfl, hw⟩
  obtain rfl := hw.symm
  clear hw
  go_wp2_with fail
  refine (opsWrite_ k ps _ v2 v3 v4 w1 HB.out).mono ?_
  rintro en w' ⟨rfl, hw⟩
  obtain rfl := hw.symm
  clear hw
  go_wp2_with fail
  refine (eventsWrite_ k ps _ v2 v3 v4 w1 HB.out).mono ?_
  rintro en w' ⟨rfl, hw⟩
  obtain rfl := hw.symm
  clear hw
  go_wp2_with fail
  go_end0
  exact ⟨rfl, hW, HS.out⟩

set_option maxRecDepth 100000 in
set_option maxHeartbeats 2000000 in
theorem holds_ (k base m mg : Nat) (ps : Int) (E F : Nat → Ent) (v2 v3 v4 : Value) (w : World) (h : Bk w k ps v2 v3 v4) (ht : w.ownsRow base 22 1 v2 m (vals m E)) (hu : w.ownsRow base 22 1 v4 mg (vals mg F)) (hmg : mg = 0 ∨ mg = m)
    (hE : ∀ i, i < m → (E i).n ≤ 1000000 ∧ (E i).Sh w fun j => mk ps (i + 1) j) (hF : ∀ i, i < mg → (F i).n ≤ 1000000 ∧ (F i).Sh w fun j => mk ps (i + 1) j) (hm : m ≤ 1000) :
    Calls Tryz.prog 38 #[.pointer (some ⟨k, 0, none⟩)] w fun en w' => en = .returned (.bool true) ∧ w' = w := by
  have c0 := h.c0
  have HB := hid h
  have H1 := hid (bytesHold_ k base m mg ps E F v2 v3 v4 w h ht hu hmg hE hF hm)
  clear h ht hu hE hF
  go_enter Tryz.func38, Tryz.ntmps38
  go_wp2_with fail
  refine H1.out.mono ?_
  rintro en w' ⟨rfl, hw⟩
  obtain rfl := hw.symm
  clear hw H1 c0
  go_wp2_with fail
  refine (boolsHold_ k ps _ v2 v3 v4 w HB.out).mono ?_
  rintro en w' ⟨rfl, hw⟩
  obtain rfl := hw.symm
  clear hw
  go_wp2_with fail
  refine (intsHold_ k ps _ v2 v3 v4 w HB.out).mono ?_
  rintro en w' ⟨rfl, hw⟩
  obtain rfl := hw.symm
  clear hw
  go_wp2_with fail
  refine (textsHold_ k ps _ v2 v3 v4 w HB.out).mono ?_
  rintro en w' ⟨rfl, hw⟩
  obtain rfl := hw.symm
  clear hw
  go_wp2_with fail
  refine (byteListsHold_ k ps _ v2 v3 v4 w HB.out).mono ?_
  rintro en w' ⟨rfl, hw⟩
  obtain rfl := hw.symm
  clear hw
  go_wp2_with fail
  refine (prefixesHold_ k ps _ v2 v3 v4 w HB.out).mono ?_
  rintro en w' ⟨rfl, hw⟩
  obtain rfl := hw.symm
  clear hw
  go_wp2_with fail
  refine (openingsHold_ k ps _ v2 v3 v4 w HB.out).mono ?_
  rintro en w' ⟨rfl, hw⟩
  obtain rfl := hw.symm
  clear hw
  go_wp2_with fail
  refine (peersHold_ k ps _ v2 v3 v4 w HB.out).mono ?_
  rintro en w' ⟨rfl, hw⟩
  obtain rfl := hw.symm
  clear hw
  go_wp2_with fail
  refine (lanesHold_ k ps _ v2 v3 v4 w HB.out).mono ?_
  rintro en w' ⟨rfl, hw⟩
  obtain rfl := hw.symm
  clear hw
  go_wp2_with fail
  refine (rowsHold_ k ps _ v2 v3 v4 w HB.out).mono ?_
  rintro en w' ⟨rfl, hw⟩
  obtain rfl := hw.symm
  clear hw
  go_wp2_with fail
  refine (setsHold_ k ps _ v2 v3 v4 w HB.out).mono ?_
  rintro en w' ⟨rfl, hw⟩
  obtain rfl := hw.symm
  clear hw
  go_wp2_with fail
  refine (pendingsHold_ k ps _ v2 v3 v4 w HB.out).mono ?_
  rintro en w' ⟨rfl, hw⟩
  obtain rfl := hw.symm
  clear hw
  go_wp2_with fail
  refine (changesHold_ k ps _ v2 v3 v4 w HB.out).mono ?_
  rintro en w' ⟨rfl, hw⟩
  obtain rfl := hw.symm
  clear hw
  go_wp2_with fail
  refine (faultsHold_ k ps _ v2 v3 v4 w HB.out).mono ?_
  rintro en w' ⟨rfl, hw⟩
  obtain rfl := hw.symm
  clear hw
  go_wp2_with fail
  refine (flightsHold_ k ps _ v2 v3 v4 w HB.out).mono ?_
  rintro en w' ⟨rfl, hw⟩
  obtain rfl := hw.symm
  clear hw
  go_wp2_with fail
  refine (opsHold_ k ps _ v2 v3 v4 w HB.out).mono ?_
  rintro en w' ⟨rfl, hw⟩
  obtain rfl := hw.symm
  clear hw
  go_wp2_with fail
  refine (eventsHold_ k ps _ v2 v3 v4 w HB.out).mono ?_
  rintro en w' ⟨rfl, hw⟩
  obtain rfl := hw.symm
  clear hw
  go_wp2_with fail
  go_ret
  exact ⟨rfl, rfl⟩

set_option maxRecDepth 100000 in
set_option maxHeartbeats 2000000 in
theorem grow_ (k base m : Nat) (ps : Int) (E F0 : Nat → Ent) (v2 v3 v4 : Value) (w : World) (h : St w w k base m 0 ps (fun _ => 1) E F0 v2 v3 v4) (hE0 : ∀ l, l < m → (E l).Ok w ∧ (E l).n ≤ 5000) (hdj : Dj m E) (hm : m ≤ 1000) (hbase : base ≤ w.heap.size) :
    Calls Tryz.prog 39 #[.pointer (some ⟨k, 0, none⟩)] w fun en w' => en = .returned (.tuple #[]) ∧ ∃ F v4', St w w' k base m m ps (fun _ => 70) E F v2 v3 v4' := by
  go_enter Tryz.func39, Tryz.ntmps39
  go_wp2_with fail
  go_loopw [2] (fun t wr => ∃ y : Nat, y ≤ 70 ∧ t = .int .i64 y ∧ ((y = 0 ∧ wr = w) ∨ (0 < y ∧ ∃ F v4', St w wr k base m m ps (fun _ => y) E F v2 v3 v4'))) (fun t _ => 70 - (intOf t).toNat)
  case atStart => exact ⟨0, by omega, rfl, .inl ⟨rfl, rfl⟩⟩
  case round =>
    obtain ⟨y, hy, rfl, hS⟩ := hrel
    by_cases hlt : y < 70
    · have i1 : (y : Int) < 70 := by omega
      rcases hS with ⟨rfl, rfl⟩ | ⟨hy0, F, v4', hS⟩
      · have c0 := h.bk.c0
        have H1 := hid (bytesGrow0_ wr k base m ps E F0 v2 v3 v4 wr h hE0 hdj hm hbase)
        clear h
        go_wp2_with fail
        refine H1.out.mono ?_
        rintro en w1 ⟨rfl, F, v4', hS⟩
        have HS := hid hS
        clear hS H1 c0
        go_wp2_with fail
        refine (boolsGrow_ k ps _ _ v2 v3 v4' w1 HS.out.bk).mono ?_
        rintro en w' ⟨rfl, hw⟩
        obtain rfl := hw.symm
        clear hw
        go_wp2_with fail
        refine (intsGrow_ k ps _ _ v2 v3 v4' w1 HS.out.bk).mono ?_
        rintro en w' ⟨rfl, hw⟩
        obtain rfl := hw.symm
        clear hw
        go_wp2_with fail
        refine (textsGrow_ k ps _ _ v2 v3 v4' w1 HS.out.bk).mono ?_
        rintro en w' ⟨rfl, hw⟩
        obtain rfl := hw.symm
        clear hw
        go_wp2_with fail
        refine (byteListsGrow_ k ps _ _ v2 v3 v4' w1 HS.out.bk).mono ?_
        rintro en w' ⟨rfl, hw⟩
        obtain rfl := hw.symm
        clear hw
        go_wp2_with fail
        refine (prefixesGrow_ k ps _ _ v2 v3 v4' w1 HS.out.bk).mono ?_
        rintro en w' ⟨rfl, hw⟩
        obtain rfl := hw.symm
        clear hw
        go_wp2_with fail
        refine (openingsGrow_ k ps _ _ v2 v3 v4' w1 HS.out.bk).mono ?_
        rintro en w' ⟨rfl, hw⟩
        obtain rfl := hw.symm
        clear hw
        go_wp2_with fail
        refine (peersGrow_ k ps _ _ v2 v3 v4' w1 HS.out.bk).mono ?_
        rintro en w' ⟨rfl, hw⟩
        obtain rfl := hw.symm
        clear hw
        go_wp2_with fail
        refine (lanesGrow_ k ps _ _ v2 v3 v4' w1 HS.out.bk).mono ?_
        rintro en w' ⟨rfl, hw⟩
        obtain rfl := hw.symm
        clear hw
        go_wp2_with fail
        refine (rowsGrow_ k ps _ _ v2 v3 v4' w1 HS.out.bk).mono ?_
        rintro en w' ⟨rfl, hw⟩
        obtain rfl := hw.symm
        clear hw
        go_wp2_with fail
        refine (setsGrow_ k ps _ _ v2 v3 v4' w1 HS.out.bk).mono ?_
        rintro en w' ⟨rfl, hw⟩
        obtain rfl := hw.symm
        clear hw
        go_wp2_with fail
        refine (pendingsGrow_ k ps _ _ v2 v3 v4' w1 HS.out.bk).mono ?_
        rintro en w' ⟨rfl, hw⟩
        obtain rfl := hw.symm
        clear hw
        go_wp2_with fail
        refine (changesGrow_ k ps _ _ v2 v3 v4' w1 HS.out.bk).mono ?_
        rintro en w' ⟨rfl, hw⟩
        obtain rfl := hw.symm
        clear hw
        go_wp2_with fail
        refine (faultsGrow_ k ps _ _ v2 v3 v4' w1 HS.out.bk).mono ?_
        rintro en w' ⟨rfl, hw⟩
        obtain rfl := hw.symm
        clear hw
        go_wp2_with fail
        refine (flightsGrow_ k ps _ _ v2 v3 v4' w1 HS.out.bk).mono ?_
        rintro en w' ⟨rfl, hw⟩
        obtain rfl := hw.symm
        clear hw
        go_wp2_with fail
        refine (opsGrow_ k ps _ _ v2 v3 v4' w1 HS.out.bk).mono ?_
        rintro en w' ⟨rfl, hw⟩
        obtain rfl := hw.symm
        clear hw
        go_wp2_with fail
        refine (eventsGrow_ k ps _ _ v2 v3 v4' w1 HS.out.bk).mono ?_
        rintro en w' ⟨rfl, hw⟩
        obtain rfl := hw.symm
        clear hw
        go_wp2_with fail
        go_roundw
        case rel => exact ⟨1, by omega, by go_num, .inr ⟨by omega, F, v4', HS.out⟩⟩
        case measure => simp [intOf]
      · have c0 := hS.bk.c0
        have H1 := hid (bytesGrow_ w k base m y ps (fun _ => y) E F v2 v3 v4' wr hS hE0 hdj hm hy0 (fun _ => by omega))
        clear h hS
        go_wp2_with fail
        refine H1.out.mono ?_
        rintro en w1 ⟨rfl, F, hS⟩
        have HS := hid hS
        clear hS H1 c0
        go_wp2_with fail
        refine (boolsGrow_ k ps _ _ v2 v3 v4' w1 HS.out.bk).mono ?_
        rintro en w' ⟨rfl, hw⟩
        obtain rfl := hw.symm
        clear hw
        go_wp2_with fail
        refine (intsGrow_ k ps _ _ v2 v3 v4' w1 HS.out.bk).mono ?_
        rintro en w' ⟨rfl, hw⟩
        obtain rfl := hw.symm
        clear hw
        go_wp2_with fail
        refine (textsGrow_ k ps _ _ v2 v3 v4' w1 HS.out.bk).mono ?_
        rintro en w' ⟨rfl, hw⟩
        obtain rfl := hw.symm
        clear hw
        go_wp2_with fail
        refine (byteListsGrow_ k ps _ _ v2 v3 v4' w1 HS.out.bk).mono ?_
        rintro en w' ⟨rfl, hw⟩
        obtain rfl := hw.symm
        clear hw
        go_wp2_with fail
        refine (prefixesGrow_ k ps _ _ v2 v3 v4' w1 HS.out.bk).mono ?_
        rintro en w' ⟨rfl, hw⟩
        obtain rfl := hw.symm
        clear hw
        go_wp2_with fail
        refine (openingsGrow_ k ps _ _ v2 v3 v4' w1 HS.out.bk).mono ?_
        rintro en w' ⟨rfl, hw⟩
        obtain rfl := hw.symm
        clear hw
        go_wp2_with fail
        refine (peersGrow_ k ps _ _ v2 v3 v4' w1 HS.out.bk).mono ?_
        rintro en w' ⟨rfl, hw⟩
        obtain rfl := hw.symm
        clear hw
        go_wp2_with fail
        refine (lanesGrow_ k ps _ _ v2 v3 v4' w1 HS.out.bk).mono ?_
        rintro en w' ⟨rfl, hw⟩
        obtain rfl := hw.symm
        clear hw
        go_wp2_with fail
        refine (rowsGrow_ k ps _ _ v2 v3 v4' w1 HS.out.bk).mono ?_
        rintro en w' ⟨rfl, hw⟩
        obtain rfl := hw.symm
        clear hw
        go_wp2_with fail
        refine (setsGrow_ k ps _ _ v2 v3 v4' w1 HS.out.bk).mono ?_
        rintro en w' ⟨rfl, hw⟩
        obtain rfl := hw.symm
        clear hw
        go_wp2_with fail
        refine (pendingsGrow_ k ps _ _ v2 v3 v4' w1 HS.out.bk).mono ?_
        rintro en w' ⟨rfl, hw⟩
        obtain rfl := hw.symm
        clear hw
        go_wp2_with fail
        refine (changesGrow_ k ps _ _ v2 v3 v4' w1 HS.out.bk).mono ?_
        rintro en w' ⟨rfl, hw⟩
        obtain rfl := hw.symm
        clear hw
        go_wp2_with fail
        refine (faultsGrow_ k ps _ _ v2 v3 v4' w1 HS.out.bk).mono ?_
        rintro en w' ⟨rfl, hw⟩
        obtain rfl := hw.symm
        clear hw
        go_wp2_with fail
        refine (flightsGrow_ k ps _ _ v2 v3 v4' w1 HS.out.bk).mono ?_
        rintro en w' ⟨rfl, hw⟩
        obtain rfl := hw.symm
        clear hw
        go_wp2_with fail
        refine (opsGrow_ k ps _ _ v2 v3 v4' w1 HS.out.bk).mono ?_
        rintro en w' ⟨rfl, hw⟩
        obtain rfl := hw.symm
        clear hw
        go_wp2_with fail
        refine (eventsGrow_ k ps _ _ v2 v3 v4' w1 HS.out.bk).mono ?_
        rintro en w' ⟨rfl, hw⟩
        obtain rfl := hw.symm
        clear hw
        go_wp2_with fail
        go_roundw
        case rel => exact ⟨y + 1, by omega, by go_num, .inr ⟨by omega, F, v4', HS.out⟩⟩
        case measure => simp [intOf]; omega
    · rcases hS with ⟨rfl, rfl⟩ | ⟨hy0, F, v4', hS⟩
      · omega
      obtain rfl : y = 70 := by omega
      go_wp2_with fail
      go_end0
      exact ⟨rfl, F, v4', hS⟩
end Go.Proofs.YtbkeejapongmlaaGreatDoor.Kp
