import Derived.Test.YtacjhbhmhgekhaaLP0
namespace Go.Proofs.Ytacjhbhmhgekhaa
open Go.RowKit
set_option linter.unusedVariables false
set_option maxRecDepth 100000

set_option maxHeartbeats 8000000 in
/-- NetPlays. -/
theorem netPlays_ (a : Option Addr) (n cp : Nat) (l : List Wop) (w : World) (hl : Opl w a n l) :
    Calls Try.prog 3 #[.slice a n cp] w fun e w' => e = .returned (.bool true) ∧ Below w.heap.size w w' := by
  have HL := hid hl
  clear hl
  go_enter Try.func3, Try.ntmps3
  go_wp2_with fail
  refine (known_ w).mono ?_
  rintro e w1 ⟨rfl, g1⟩
  have G1 := hid g1
  have k1 := begin_ w w1 g1
  clear g1
  go_wp2_with fail
  refine k1.mono ?_
  rintro e w2 ⟨q, p, r, rfl, h2, g2⟩
  have H2 := hid (Pq.begin G1.out h2 g2)
  have k2 := begin_ w w2 H2.out.bel
  clear k1 h2 g2
  go_wp2_with fail
  refine k2.mono ?_
  rintro e w3 ⟨q', p', r', rfl, h3, g3⟩
  have H3 : Hid (Ab w w3 q q' 0) := ⟨_, _, H2.out.on g3, Pq.begin H2.out.bel h3 g3, fun k a b => by omega⟩
  clear k2 h3 g3 H2 G1
  go_wp2_with fail
  go_loopw [5] (fun i wr => ∃ j : Nat, j ≤ n ∧ (j : Int) ≤ 300 ∧ i = .int .i64 j ∧ Hid (Ab w wr q q' (1100 * (j : Int)))) (fun i _ => n - (intOf i).toNat)
  case atStart => exact ⟨0, by omega, by omega, rfl, H3⟩
  case round =>
    clear H3
    obtain ⟨j, hj, hj2, rfl, HT⟩ := hrel
    by_cases hlt : j < n ∧ (j : Int) < 300
    case neg =>
      have hor : (j : Int) < n ∧ ¬ (j : Int) < 300 ∨ ¬ (j : Int) < n := by omega
      clear hlt
      rcases hor with ⟨hjI, h20⟩ | hjI
      all_goals
        have k1 := HT.out.under
        go_wp2_with fail
        refine k1.mono ?_
        rintro e w4 ⟨rfl, h4⟩
        have k2 := h4.swap.under
        clear k1 h4
        go_wp2_with fail
        refine k2.mono ?_
        rintro e w5 ⟨rfl, h5⟩
        have HB := hid h5.bel
        have k3 := known_ w5
        clear k2 h5
        go_wp2_with fail
        refine k3.mono ?_
        rintro e w6 ⟨rfl, g6⟩
        have HB6 : Hid (Below w.heap.size w w6) := bel_bel HB.out HB.out.size g6
        clear k3 g6
        go_wp2_with fail
        go_ret
        exact ⟨rfl, HB6.out⟩
    case pos =>
      obtain ⟨hlt, h20⟩ := hlt
      have hjI : (j : Int) < n := by omega
      have HJ : Hid (1100 * (j : Int) ≤ 900000000) := by show _ ≤ _; omega
      obtain ⟨b, off, y, rfl, hok, hat⟩ := HL.out.get hlt
      have hx := hat wr HT.out.bel
      have o0 := hx.1.o0
      have o1 := hx.1.o1
      have o2 := hx.1.o2
      have o3 := hx.1.o3
      have o4 := hx.1.o4
      have o5 := hx.1.o5
      have o6 := hx.1.o6
      have hb : y.sc = true ∨ y.sc = false := by cases y.sc <;> simp
      rcases hb with hb | hb
      all_goals rw [hb] at o1
      · have k1 := HT.out.swap.plays HJ.out hok hx.2
        unfold Wop.v at k1
        rw [hb] at k1
        clear hat hx hok
        go_wp2_with fail
        refine k1.mono ?_
        rintro e w4 ⟨rfl, h4⟩
        have H4 : Hid (Ab w w4 q q' (1100 * ((j + 1 : Nat) : Int))) := by have := h4.swap; rw [show 1100 * ((j + 1 : Nat) : Int) = 1100 * (j : Int) + 1100 by omega]; exact this
        clear k1 h4 o0 o1 o2 o3 o4 o5 o6
        go_wp2_with fail
        go_roundw
        case rel => exact ⟨j + 1, by omega, by omega, by go_num, H4⟩
        case measure => simp [intOf]; omega
      · have k1 := HT.out.plays HJ.out hok hx.2
        unfold Wop.v at k1
        rw [hb] at k1
        clear hat hx hok
        go_wp2_with fail
        refine k1.mono ?_
        rintro e w4 ⟨rfl, h4⟩
        have H4 : Hid (Ab w w4 q q' (1100 * ((j + 1 : Nat) : Int))) := by rw [show 1100 * ((j + 1 : Nat) : Int) = 1100 * (j : Int) + 1100 by omega]; exact h4
        clear k1 h4 o0 o1 o2 o3 o4 o5 o6
        go_wp2_with fail
        go_roundw
        case rel => exact ⟨j + 1, by omega, by omega, by go_num, H4⟩
        case measure => simp [intOf]; omega
end Go.Proofs.Ytacjhbhmhgekhaa
