import Derived.Test.YtcbmgpmjnehjdaaGreatWO
namespace Go.Proofs.YtcbmgpmjnehjdaaGreat
set_option maxRecDepth 100000
open Go.RowKit Go.Maps
set_option linter.unusedVariables false

theorem fcell {w : World} {g : Nat} {a b c d : Value} {T : TypeId} (h : w.heap[g]? = some (.cells #[a, b, c, d] T (0, 0))) : w.cell? ⟨g, 0, none⟩ = some a ∧ w.cell? ⟨g, 1, none⟩ = some b ∧ w.cell? ⟨g, 2, none⟩ = some c ∧ w.cell? ⟨g, 3, none⟩ = some d :=
  ⟨by rw [cell_of_row w g 0 _ T (0, 0) h]; rfl, by rw [cell_of_row w g 1 _ T (0, 0) h]; rfl, by rw [cell_of_row w g 2 _ T (0, 0) h]; rfl, by rw [cell_of_row w g 3 _ T (0, 0) h]; rfl⟩
def Fq (w : World) (pn qn ln mn : Nat) (e : Ending) (w' : World) : Prop := ∃ q : Bool, e = .returned (.bool q) ∧ (q = true → pn ≤ 60 ∧ qn ≤ 60 ∧ ln ≤ 60 ∧ mn ≤ 60) ∧ Below w.heap.size w w'
set_option maxHeartbeats 2000000 in
/-- The law's fits. -/
theorem fits_ (pa qa la ma : Option Addr) (pn pc qn qc ln lc mn mc : Nat) (ps qs : List Pr) (w : World) (hp : Pls w pa pn ps) (hq : Pls w qa qn qs) :
    Calls Tryz.prog 12 #[.agg #[.slice pa pn pc, .slice qa qn qc, .slice la ln lc, .slice ma mn mc]] w fun e w' => Fq w pn qn ln mn e w' := by
  have m1 := heap_alloc_new w (.cells #[.slice pa pn pc, .slice qa qn qc, .slice la ln lc, .slice ma mn mc] 37)
  obtain ⟨y0, y1, y2, y3⟩ := fcell m1
  have HB := hid (bel_al w (.cells #[.slice pa pn pc, .slice qa qn qc, .slice la ln lc, .slice ma mn mc] 37))
  have HP := hid (hp.on HB.out)
  have HQ := hid (hq.on HB.out)
  obtain ⟨W1, HW1⟩ : ∃ y, Hid (w.alloc (.cells #[.slice pa pn pc, .slice qa qn qc, .slice la ln lc, .slice ma mn mc] 37) = y) := ⟨_, rfl⟩
  obtain ⟨g, Hg⟩ : ∃ y, Hid (w.heap.size = y) := ⟨_, rfl⟩
  rw [HW1.out] at y0 y1 y2 y3 HB HP HQ
  rw [Hg.out] at y0 y1 y2 y3
  clear hp hq m1
  go_enter Tryz.func12, Tryz.ntmps12
  go_wp2_with fail
  rw [HW1.out, Hg.out]
  go_loopw [3] (fun i wr => ∃ j : Nat, j ≤ pn ∧ i = .int .i64 j ∧ wr = W1) (fun i _ => pn - (intOf i).toNat)
  case atStart => exact ⟨0, by omega, rfl, by first | rfl | trivial⟩
  case round =>
    obtain ⟨j, hj, rfl, hW⟩ := hrel
    obtain rfl : W1 = wr := hW.symm
    by_cases hlj : (j : Int) < pn
    · by_cases hkj : (j : Int) < 60
      · obtain ⟨bj, oj, ej, hc⟩ : ∃ b off, pa = some ⟨b, off, none⟩ ∧ ∀ i, i < pn → PeerAt W1 b (off + i * 3) (ps.getD i pr0) := by
          rcases HP.out.at' with h0 | h1
          · omega
          · exact h1
        obtain ⟨ka, kc, xa, xc, ⟨-, -, c2⟩, -⟩ := hc j (by omega)
        obtain ⟨z, hz⟩ : ∃ z : Nat, ((ps.getD j pr0).ps).length = z := ⟨_, rfl⟩
        rw [hz] at c2
        subst ej
        by_cases hg : (60 : Int) < z
        · go_wp2_with fail
          go_ret
          exact ⟨false, rfl, fun h => (by cases h), HB.out⟩
        · go_wp2_with fail
          go_roundw
          case rel => exact ⟨j + 1, by omega, by go_num, by first | rfl | trivial⟩
          case measure => simp [intOf]; omega
      · go_wp2_with fail
        go_loopw [4] (fun i wr => ∃ t : Nat, t ≤ qn ∧ i = .int .i64 t ∧ wr = W1) (fun i _ => qn - (intOf i).toNat)
        case atStart => exact ⟨0, by omega, rfl, by first | rfl | trivial⟩
        case round =>
          obtain ⟨t, ht, rfl, hW⟩ := hrel
          obtain rfl : W1 = wr := hW.symm
          by_cases hlt : (t : Int) < qn
          · by_cases hkt : (t : Int) < 60
            · obtain ⟨bt, ot, et, hc⟩ : ∃ b off, qa = some ⟨b, off, none⟩ ∧ ∀ i, i < qn → PeerAt W1 b (off + i * 3) (qs.getD i pr0) := by
                rcases HQ.out.at' with h0 | h1
                · omega
                · exact h1
              obtain ⟨ka, kc, xa, xc, ⟨-, -, c2⟩, -⟩ := hc t (by omega)
              obtain ⟨z, hz⟩ : ∃ z : Nat, ((qs.getD t pr0).ps).length = z := ⟨_, rfl⟩
              rw [hz] at c2
              subst et
              by_cases hg : (60 : Int) < z
              · go_wp2_with fail
                go_ret
                exact ⟨false, rfl, fun h => (by cases h), HB.out⟩
              · go_wp2_with fail
                go_roundw
                case rel => exact ⟨t + 1, by omega, by go_num, by first | rfl | trivial⟩
                case measure => simp [intOf]; omega
            · skip
              by_cases h1 : (pn : Int) ≤ 60
              case neg =>
                first
                | (exfalso; omega)
                | (go_wp2_with fail; go_ret; first | exact ⟨false, rfl, fun h => (by cases h), HB.out⟩ | exact ⟨decide ((mn : Int) ≤ 60), rfl, fun h => absurd (of_decide_eq_true h) (by omega), HB.out⟩)
              by_cases h2 : (qn : Int) ≤ 60
              case neg =>
                first
                | (exfalso; omega)
                | (go_wp2_with fail; go_ret; first | exact ⟨false, rfl, fun h => (by cases h), HB.out⟩ | exact ⟨decide ((mn : Int) ≤ 60), rfl, fun h => absurd (of_decide_eq_true h) (by omega), HB.out⟩)
              by_cases h3 : (ln : Int) ≤ 60
              case neg =>
                first
                | (exfalso; omega)
                | (go_wp2_with fail; go_ret; first | exact ⟨false, rfl, fun h => (by cases h), HB.out⟩ | exact ⟨decide ((mn : Int) ≤ 60), rfl, fun h => absurd (of_decide_eq_true h) (by omega), HB.out⟩)
              by_cases h4 : (mn : Int) ≤ 60
              case neg =>
                first
                | (exfalso; omega)
                | (go_wp2_with fail; go_ret; first | exact ⟨false, rfl, fun h => (by cases h), HB.out⟩ | exact ⟨decide ((mn : Int) ≤ 60), rfl, fun h => absurd (of_decide_eq_true h) (by omega), HB.out⟩)
              first
              | (exfalso; omega)
              | (go_wp2_with fail; go_ret; first | exact ⟨true, rfl, fun _ => by omega, HB.out⟩ | exact ⟨decide ((mn : Int) ≤ 60), rfl, fun _ => by omega, HB.out⟩)
          · skip
            by_cases h1 : (pn : Int) ≤ 60
            case neg =>
              first
              | (exfalso; omega)
              | (go_wp2_with fail; go_ret; first | exact ⟨false, rfl, fun h => (by cases h), HB.out⟩ | exact ⟨decide ((mn : Int) ≤ 60), rfl, fun h => absurd (of_decide_eq_true h) (by omega), HB.out⟩)
            by_cases h2 : (qn : Int) ≤ 60
            case neg =>
              first
              | (exfalso; omega)
              | (go_wp2_with fail; go_ret; first | exact ⟨false, rfl, fun h => (by cases h), HB.out⟩ | exact ⟨decide ((mn : Int) ≤ 60), rfl, fun h => absurd (of_decide_eq_true h) (by omega), HB.out⟩)
            by_cases h3 : (ln : Int) ≤ 60
            case neg =>
              first
              | (exfalso; omega)
              | (go_wp2_with fail; go_ret; first | exact ⟨false, rfl, fun h => (by cases h), HB.out⟩ | exact ⟨decide ((mn : Int) ≤ 60), rfl, fun h => absurd (of_decide_eq_true h) (by omega), HB.out⟩)
            by_cases h4 : (mn : Int) ≤ 60
            case neg =>
              first
              | (exfalso; omega)
              | (go_wp2_with fail; go_ret; first | exact ⟨false, rfl, fun h => (by cases h), HB.out⟩ | exact ⟨decide ((mn : Int) ≤ 60), rfl, fun h => absurd (of_decide_eq_true h) (by omega), HB.out⟩)
            first
            | (exfalso; omega)
            | (go_wp2_with fail; go_ret; first | exact ⟨true, rfl, fun _ => by omega, HB.out⟩ | exact ⟨decide ((mn : Int) ≤ 60), rfl, fun _ => by omega, HB.out⟩)
    · go_wp2_with fail
      go_loopw [4] (fun i wr => ∃ t : Nat, t ≤ qn ∧ i = .int .i64 t ∧ wr = W1) (fun i _ => qn - (intOf i).toNat)
      case atStart => exact ⟨0, by omega, rfl, by first | rfl | trivial⟩
      case round =>
        obtain ⟨t, ht, rfl, hW⟩ := hrel
        obtain rfl : W1 = wr := hW.symm
        by_cases hlt : (t : Int) < qn
        · by_cases hkt : (t : Int) < 60
          · obtain ⟨bt, ot, et, hc⟩ : ∃ b off, qa = some ⟨b, off, none⟩ ∧ ∀ i, i < qn → PeerAt W1 b (off + i * 3) (qs.getD i pr0) := by
              rcases HQ.out.at' with h0 | h1
              · omega
              · exact h1
            obtain ⟨ka, kc, xa, xc, ⟨-, -, c2⟩, -⟩ := hc t (by omega)
            obtain ⟨z, hz⟩ : ∃ z : Nat, ((qs.getD t pr0).ps).length = z := ⟨_, rfl⟩
            rw [hz] at c2
            subst et
            by_cases hg : (60 : Int) < z
            · go_wp2_with fail
              go_ret
              exact ⟨false, rfl, fun h => (by cases h), HB.out⟩
            · go_wp2_with fail
              go_roundw
              case rel => exact ⟨t + 1, by omega, by go_num, by first | rfl | trivial⟩
              case measure => simp [intOf]; omega
          · skip
            by_cases h1 : (pn : Int) ≤ 60
            case neg =>
              first
              | (exfalso; omega)
              | (go_wp2_with fail; go_ret; first | exact ⟨false, rfl, fun h => (by cases h), HB.out⟩ | exact ⟨decide ((mn : Int) ≤ 60), rfl, fun h => absurd (of_decide_eq_true h) (by omega), HB.out⟩)
            by_cases h2 : (qn : Int) ≤ 60
            case neg =>
              first
              | (exfalso; omega)
              | (go_wp2_with fail; go_ret; first | exact ⟨false, rfl, fun h => (by cases h), HB.out⟩ | exact ⟨decide ((mn : Int) ≤ 60), rfl, fun h => absurd (of_decide_eq_true h) (by omega), HB.out⟩)
            by_cases h3 : (ln : Int) ≤ 60
            case neg =>
              first
              | (exfalso; omega)
              | (go_wp2_with fail; go_ret; first | exact ⟨false, rfl, fun h => (by cases h), HB.out⟩ | exact ⟨decide ((mn : Int) ≤ 60), rfl, fun h => absurd (of_decide_eq_true h) (by omega), HB.out⟩)
            by_cases h4 : (mn : Int) ≤ 60
            case neg =>
              first
              | (exfalso; omega)
              | (go_wp2_with fail; go_ret; first | exact ⟨false, rfl, fun h => (by cases h), HB.out⟩ | exact ⟨decide ((mn : Int) ≤ 60), rfl, fun h => absurd (of_decide_eq_true h) (by omega), HB.out⟩)
            first
            | (exfalso; omega)
            | (go_wp2_with fail; go_ret; first | exact ⟨true, rfl, fun _ => by omega, HB.out⟩ | exact ⟨decide ((mn : Int) ≤ 60), rfl, fun _ => by omega, HB.out⟩)
        · skip
          by_cases h1 : (pn : Int) ≤ 60
          case neg =>
            first
            | (exfalso; omega)
            | (go_wp2_with fail; go_ret; first | exact ⟨false, rfl, fun h => (by cases h), HB.out⟩ | exact ⟨decide ((mn : Int) ≤ 60), rfl, fun h => absurd (of_decide_eq_true h) (by omega), HB.out⟩)
          by_cases h2 : (qn : Int) ≤ 60
          case neg =>
            first
            | (exfalso; omega)
            | (go_wp2_with fail; go_ret; first | exact ⟨false, rfl, fun h => (by cases h), HB.out⟩ | exact ⟨decide ((mn : Int) ≤ 60), rfl, fun h => absurd (of_decide_eq_true h) (by omega), HB.out⟩)
          by_cases h3 : (ln : Int) ≤ 60
          case neg =>
            first
            | (exfalso; omega)
            | (go_wp2_with fail; go_ret; first | exact ⟨false, rfl, fun h => (by cases h), HB.out⟩ | exact ⟨decide ((mn : Int) ≤ 60), rfl, fun h => absurd (of_decide_eq_true h) (by omega), HB.out⟩)
          by_cases h4 : (mn : Int) ≤ 60
          case neg =>
            first
            | (exfalso; omega)
            | (go_wp2_with fail; go_ret; first | exact ⟨false, rfl, fun h => (by cases h), HB.out⟩ | exact ⟨decide ((mn : Int) ≤ 60), rfl, fun h => absurd (of_decide_eq_true h) (by omega), HB.out⟩)
          first
          | (exfalso; omega)
          | (go_wp2_with fail; go_ret; first | exact ⟨true, rfl, fun _ => by omega, HB.out⟩ | exact ⟨decide ((mn : Int) ≤ 60), rfl, fun _ => by omega, HB.out⟩)
end Go.Proofs.YtcbmgpmjnehjdaaGreat
namespace Go.Proofs.YtcbmgpmjnehjdaaGreat
set_option maxRecDepth 100000
open Go.RowKit Go.Maps
set_option linter.unusedVariables false

def Fq2 (w : World) (pn qn ln mn : Nat) (ps qs : List Pr) (e : Ending) (w' : World) : Prop := ∃ q : Bool, e = .returned (.bool q) ∧ (q = true → pn ≤ 60 ∧ qn ≤ 60 ∧ ln ≤ 60 ∧ mn ≤ 60 ∧ (∀ i, i < pn → ((ps.getD i pr0).ps).length ≤ 60) ∧ (∀ i, i < qn → ((qs.getD i pr0).ps).length ≤ 60)) ∧ Below w.heap.size w w'
set_option maxHeartbeats 2000000 in
/-- The law's fits. -/
theorem fits2_ (pa qa la ma : Option Addr) (pn pc qn qc ln lc mn mc : Nat) (ps qs : List Pr) (w : World) (hp : Pls w pa pn ps) (hq : Pls w qa qn qs) :
    Calls Tryz.prog 12 #[.agg #[.slice pa pn pc, .slice qa qn qc, .slice la ln lc, .slice ma mn mc]] w fun e w' => Fq2 w pn qn ln mn ps qs e w' := by
  have m1 := heap_alloc_new w (.cells #[.slice pa pn pc, .slice qa qn qc, .slice la ln lc, .slice ma mn mc] 37)
  obtain ⟨y0, y1, y2, y3⟩ := fcell m1
  have HB := hid (bel_al w (.cells #[.slice pa pn pc, .slice qa qn qc, .slice la ln lc, .slice ma mn mc] 37))
  have HP := hid (hp.on HB.out)
  have HQ := hid (hq.on HB.out)
  obtain ⟨W1, HW1⟩ : ∃ y, Hid (w.alloc (.cells #[.slice pa pn pc, .slice qa qn qc, .slice la ln lc, .slice ma mn mc] 37) = y) := ⟨_, rfl⟩
  obtain ⟨g, Hg⟩ : ∃ y, Hid (w.heap.size = y) := ⟨_, rfl⟩
  rw [HW1.out] at y0 y1 y2 y3 HB HP HQ
  rw [Hg.out] at y0 y1 y2 y3
  clear hp hq m1
  go_enter Tryz.func12, Tryz.ntmps12
  go_wp2_with fail
  rw [HW1.out, Hg.out]
  go_loopw [3] (fun i wr => ∃ j : Nat, j ≤ pn ∧ i = .int .i64 j ∧ wr = W1 ∧ Hid (∀ i, i < j → ((ps.getD i pr0).ps).length ≤ 60)) (fun i _ => pn - (intOf i).toNat)
  case atStart => exact ⟨0, by omega, rfl, by first | rfl | trivial, fun i hi => by omega⟩
  case round =>
    obtain ⟨j, hj, rfl, hW, HGj⟩ := hrel
    obtain rfl : W1 = wr := hW.symm
    by_cases hlj : (j : Int) < pn
    · by_cases hkj : (j : Int) < 60
      · obtain ⟨bj, oj, ej, hc⟩ : ∃ b off, pa = some ⟨b, off, none⟩ ∧ ∀ i, i < pn → PeerAt W1 b (off + i * 3) (ps.getD i pr0) := by
          rcases HP.out.at' with h0 | h1
          · omega
          · exact h1
        obtain ⟨ka, kc, xa, xc, ⟨-, -, c2⟩, -⟩ := hc j (by omega)
        obtain ⟨z, hz⟩ : ∃ z : Nat, ((ps.getD j pr0).ps).length = z := ⟨_, rfl⟩
        rw [hz] at c2
        subst ej
        by_cases hg : (60 : Int) < z
        · go_wp2_with fail
          go_ret
          exact ⟨false, rfl, fun h => (by cases h), HB.out⟩
        · go_wp2_with fail
          go_roundw
          case rel => exact ⟨j + 1, by omega, by go_num, by first | rfl | trivial, fun i hi => by
            by_cases h : i = j
            · subst h; rw [hz]; omega
            · exact HGj.out i (by omega)⟩
          case measure => simp [intOf]; omega
      · go_wp2_with fail
        go_loopw [4] (fun i wr => ∃ t : Nat, t ≤ qn ∧ i = .int .i64 t ∧ wr = W1 ∧ Hid (∀ i, i < t → ((qs.getD i pr0).ps).length ≤ 60)) (fun i _ => qn - (intOf i).toNat)
        case atStart => exact ⟨0, by omega, rfl, by first | rfl | trivial, fun i hi => by omega⟩
        case round =>
          obtain ⟨t, ht, rfl, hW, HGt⟩ := hrel
          obtain rfl : W1 = wr := hW.symm
          by_cases hlt : (t : Int) < qn
          · by_cases hkt : (t : Int) < 60
            · obtain ⟨bt, ot, et, hc⟩ : ∃ b off, qa = some ⟨b, off, none⟩ ∧ ∀ i, i < qn → PeerAt W1 b (off + i * 3) (qs.getD i pr0) := by
                rcases HQ.out.at' with h0 | h1
                · omega
                · exact h1
              obtain ⟨ka, kc, xa, xc, ⟨-, -, c2⟩, -⟩ := hc t (by omega)
              obtain ⟨z, hz⟩ : ∃ z : Nat, ((qs.getD t pr0).ps).length = z := ⟨_, rfl⟩
              rw [hz] at c2
              subst et
              by_cases hg : (60 : Int) < z
              · go_wp2_with fail
                go_ret
                exact ⟨false, rfl, fun h => (by cases h), HB.out⟩
              · go_wp2_with fail
                go_roundw
                case rel => exact ⟨t + 1, by omega, by go_num, by first | rfl | trivial, fun i hi => by
                  by_cases h : i = t
                  · subst h; rw [hz]; omega
                  · exact HGt.out i (by omega)⟩
                case measure => simp [intOf]; omega
            · skip
              by_cases h1 : (pn : Int) ≤ 60
              case neg =>
                first
                | (exfalso; omega)
                | (go_wp2_with fail; go_ret; first | exact ⟨false, rfl, fun h => (by cases h), HB.out⟩ | exact ⟨decide ((mn : Int) ≤ 60), rfl, fun h => absurd (of_decide_eq_true h) (by omega), HB.out⟩)
              by_cases h2 : (qn : Int) ≤ 60
              case neg =>
                first
                | (exfalso; omega)
                | (go_wp2_with fail; go_ret; first | exact ⟨false, rfl, fun h => (by cases h), HB.out⟩ | exact ⟨decide ((mn : Int) ≤ 60), rfl, fun h => absurd (of_decide_eq_true h) (by omega), HB.out⟩)
              by_cases h3 : (ln : Int) ≤ 60
              case neg =>
                first
                | (exfalso; omega)
                | (go_wp2_with fail; go_ret; first | exact ⟨false, rfl, fun h => (by cases h), HB.out⟩ | exact ⟨decide ((mn : Int) ≤ 60), rfl, fun h => absurd (of_decide_eq_true h) (by omega), HB.out⟩)
              by_cases h4 : (mn : Int) ≤ 60
              case neg =>
                first
                | (exfalso; omega)
                | (go_wp2_with fail; go_ret; first | exact ⟨false, rfl, fun h => (by cases h), HB.out⟩ | exact ⟨decide ((mn : Int) ≤ 60), rfl, fun h => absurd (of_decide_eq_true h) (by omega), HB.out⟩)
              first
              | (exfalso; omega)
              | (go_wp2_with fail; go_ret; first | exact ⟨true, rfl, fun _ => ⟨by omega, by omega, by omega, by omega, fun i hi => HGj.out i (by omega), fun i hi => HGt.out i (by omega)⟩, HB.out⟩ | exact ⟨decide ((mn : Int) ≤ 60), rfl, fun _ => ⟨by omega, by omega, by omega, by omega, fun i hi => HGj.out i (by omega), fun i hi => HGt.out i (by omega)⟩, HB.out⟩)
          · skip
            by_cases h1 : (pn : Int) ≤ 60
            case neg =>
              first
              | (exfalso; omega)
              | (go_wp2_with fail; go_ret; first | exact ⟨false, rfl, fun h => (by cases h), HB.out⟩ | exact ⟨decide ((mn : Int) ≤ 60), rfl, fun h => absurd (of_decide_eq_true h) (by omega), HB.out⟩)
            by_cases h2 : (qn : Int) ≤ 60
            case neg =>
              first
              | (exfalso; omega)
              | (go_wp2_with fail; go_ret; first | exact ⟨false, rfl, fun h => (by cases h), HB.out⟩ | exact ⟨decide ((mn : Int) ≤ 60), rfl, fun h => absurd (of_decide_eq_true h) (by omega), HB.out⟩)
            by_cases h3 : (ln : Int) ≤ 60
            case neg =>
              first
              | (exfalso; omega)
              | (go_wp2_with fail; go_ret; first | exact ⟨false, rfl, fun h => (by cases h), HB.out⟩ | exact ⟨decide ((mn : Int) ≤ 60), rfl, fun h => absurd (of_decide_eq_true h) (by omega), HB.out⟩)
            by_cases h4 : (mn : Int) ≤ 60
            case neg =>
              first
              | (exfalso; omega)
              | (go_wp2_with fail; go_ret; first | exact ⟨false, rfl, fun h => (by cases h), HB.out⟩ | exact ⟨decide ((mn : Int) ≤ 60), rfl, fun h => absurd (of_decide_eq_true h) (by omega), HB.out⟩)
            first
            | (exfalso; omega)
            | (go_wp2_with fail; go_ret; first | exact ⟨true, rfl, fun _ => ⟨by omega, by omega, by omega, by omega, fun i hi => HGj.out i (by omega), fun i hi => HGt.out i (by omega)⟩, HB.out⟩ | exact ⟨decide ((mn : Int) ≤ 60), rfl, fun _ => ⟨by omega, by omega, by omega, by omega, fun i hi => HGj.out i (by omega), fun i hi => HGt.out i (by omega)⟩, HB.out⟩)
    · go_wp2_with fail
      go_loopw [4] (fun i wr => ∃ t : Nat, t ≤ qn ∧ i = .int .i64 t ∧ wr = W1 ∧ Hid (∀ i, i < t → ((qs.getD i pr0).ps).length ≤ 60)) (fun i _ => qn - (intOf i).toNat)
      case atStart => exact ⟨0, by omega, rfl, by first | rfl | trivial, fun i hi => by omega⟩
      case round =>
        obtain ⟨t, ht, rfl, hW, HGt⟩ := hrel
        obtain rfl : W1 = wr := hW.symm
        by_cases hlt : (t : Int) < qn
        · by_cases hkt : (t : Int) < 60
          · obtain ⟨bt, ot, et, hc⟩ : ∃ b off, qa = some ⟨b, off, none⟩ ∧ ∀ i, i < qn → PeerAt W1 b (off + i * 3) (qs.getD i pr0) := by
              rcases HQ.out.at' with h0 | h1
              · omega
              · exact h1
            obtain ⟨ka, kc, xa, xc, ⟨-, -, c2⟩, -⟩ := hc t (by omega)
            obtain ⟨z, hz⟩ : ∃ z : Nat, ((qs.getD t pr0).ps).length = z := ⟨_, rfl⟩
            rw [hz] at c2
            subst et
            by_cases hg : (60 : Int) < z
            · go_wp2_with fail
              go_ret
              exact ⟨false, rfl, fun h => (by cases h), HB.out⟩
            · go_wp2_with fail
              go_roundw
              case rel => exact ⟨t + 1, by omega, by go_num, by first | rfl | trivial, fun i hi => by
                by_cases h : i = t
                · subst h; rw [hz]; omega
                · exact HGt.out i (by omega)⟩
              case measure => simp [intOf]; omega
          · skip
            by_cases h1 : (pn : Int) ≤ 60
            case neg =>
              first
              | (exfalso; omega)
              | (go_wp2_with fail; go_ret; first | exact ⟨false, rfl, fun h => (by cases h), HB.out⟩ | exact ⟨decide ((mn : Int) ≤ 60), rfl, fun h => absurd (of_decide_eq_true h) (by omega), HB.out⟩)
            by_cases h2 : (qn : Int) ≤ 60
            case neg =>
              first
              | (exfalso; omega)
              | (go_wp2_with fail; go_ret; first | exact ⟨false, rfl, fun h => (by cases h), HB.out⟩ | exact ⟨decide ((mn : Int) ≤ 60), rfl, fun h => absurd (of_decide_eq_true h) (by omega), HB.out⟩)
            by_cases h3 : (ln : Int) ≤ 60
            case neg =>
              first
              | (exfalso; omega)
              | (go_wp2_with fail; go_ret; first | exact ⟨false, rfl, fun h => (by cases h), HB.out⟩ | exact ⟨decide ((mn : Int) ≤ 60), rfl, fun h => absurd (of_decide_eq_true h) (by omega), HB.out⟩)
            by_cases h4 : (mn : Int) ≤ 60
            case neg =>
              first
              | (exfalso; omega)
              | (go_wp2_with fail; go_ret; first | exact ⟨false, rfl, fun h => (by cases h), HB.out⟩ | exact ⟨decide ((mn : Int) ≤ 60), rfl, fun h => absurd (of_decide_eq_true h) (by omega), HB.out⟩)
            first
            | (exfalso; omega)
            | (go_wp2_with fail; go_ret; first | exact ⟨true, rfl, fun _ => ⟨by omega, by omega, by omega, by omega, fun i hi => HGj.out i (by omega), fun i hi => HGt.out i (by omega)⟩, HB.out⟩ | exact ⟨decide ((mn : Int) ≤ 60), rfl, fun _ => ⟨by omega, by omega, by omega, by omega, fun i hi => HGj.out i (by omega), fun i hi => HGt.out i (by omega)⟩, HB.out⟩)
        · skip
          by_cases h1 : (pn : Int) ≤ 60
          case neg =>
            first
            | (exfalso; omega)
            | (go_wp2_with fail; go_ret; first | exact ⟨false, rfl, fun h => (by cases h), HB.out⟩ | exact ⟨decide ((mn : Int) ≤ 60), rfl, fun h => absurd (of_decide_eq_true h) (by omega), HB.out⟩)
          by_cases h2 : (qn : Int) ≤ 60
          case neg =>
            first
            | (exfalso; omega)
            | (go_wp2_with fail; go_ret; first | exact ⟨false, rfl, fun h => (by cases h), HB.out⟩ | exact ⟨decide ((mn : Int) ≤ 60), rfl, fun h => absurd (of_decide_eq_true h) (by omega), HB.out⟩)
          by_cases h3 : (ln : Int) ≤ 60
          case neg =>
            first
            | (exfalso; omega)
            | (go_wp2_with fail; go_ret; first | exact ⟨false, rfl, fun h => (by cases h), HB.out⟩ | exact ⟨decide ((mn : Int) ≤ 60), rfl, fun h => absurd (of_decide_eq_true h) (by omega), HB.out⟩)
          by_cases h4 : (mn : Int) ≤ 60
          case neg =>
            first
            | (exfalso; omega)
            | (go_wp2_with fail; go_ret; first | exact ⟨false, rfl, fun h => (by cases h), HB.out⟩ | exact ⟨decide ((mn : Int) ≤ 60), rfl, fun h => absurd (of_decide_eq_true h) (by omega), HB.out⟩)
          first
          | (exfalso; omega)
          | (go_wp2_with fail; go_ret; first | exact ⟨true, rfl, fun _ => ⟨by omega, by omega, by omega, by omega, fun i hi => HGj.out i (by omega), fun i hi => HGt.out i (by omega)⟩, HB.out⟩ | exact ⟨decide ((mn : Int) ≤ 60), rfl, fun _ => ⟨by omega, by omega, by omega, by omega, fun i hi => HGj.out i (by omega), fun i hi => HGt.out i (by omega)⟩, HB.out⟩)
end Go.Proofs.YtcbmgpmjnehjdaaGreat
