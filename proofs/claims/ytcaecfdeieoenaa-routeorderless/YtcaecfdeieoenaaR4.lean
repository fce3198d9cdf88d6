import Derived.Test.YtcaecfdeieoenaaR3
import Derived.Deep.RegionHeld
namespace Go.Proofs.Ytcaecfdeieoenaa
open Go.RowKit
set_option linter.unusedVariables false

theorem cell_be8 {W W' : World} {a : Addr} {v : Value} (hb : Below W.heap.size W W') (h : W.cell? a = some v) : W'.cell? a = some v := (hb.cell (World.block_lt_of_cell? W _ h)).trans h
/-- One way of a table's list, and a prefix in a variable. -/
def SAt (k g q o : Nat) (s : Value) (x p : Wy) (w0 w1 w : World) : Prop :=
  (w.cell? ⟨k, 0, none⟩ = some s ∧ w.cell? ⟨q, o, none⟩ = some (.int .i64 x.F) ∧ w.cell? ⟨q, o + 1, none⟩ = some (.int .u64 x.H) ∧ w.cell? ⟨q, o + 2, none⟩ = some (.int .u64 x.L) ∧ w.cell? ⟨q, o + 3, none⟩ = some (.int .i64 x.B) ∧
    w.cell? ⟨g, 0, none⟩ = some (.int .i64 p.F) ∧ w.cell? ⟨g, 1, none⟩ = some (.int .u64 p.H) ∧ w.cell? ⟨g, 2, none⟩ = some (.int .u64 p.L) ∧ w.cell? ⟨g, 3, none⟩ = some (.int .i64 p.B)) ∧ Below w0.heap.size w0 w ∧ Below w1.heap.size w1 w
theorem SAt.kept {k g q o : Nat} {s : Value} {x p : Wy} {w0 w1 w w' : World} (h : SAt k g q o s x p w0 w1 w) (hb : Below w.heap.size w w') : SAt k g q o s x p w0 w1 w' := by
  obtain ⟨⟨c0, c1, c2, c3, c4, c5, c6, c7, c8⟩, b, b1⟩ := h
  exact ⟨⟨cell_be8 hb c0, cell_be8 hb c1, cell_be8 hb c2, cell_be8 hb c3, cell_be8 hb c4, cell_be8 hb c5, cell_be8 hb c6, cell_be8 hb c7, cell_be8 hb c8⟩, bel_bel b b.size hb, bel_bel b1 b1.size hb⟩
theorem SAt.drew {k g q o : Nat} {s : Value} {x p : Wy} {w0 w1 w : World} (h : SAt k g q o s x p w0 w1 w) : SAt k g q o s x p w0 w1 { w with drawn := w.drawn + 1 } := h.kept ⟨rfl, rfl, rfl, Nat.le_refl _, fun _ _ => rfl⟩
theorem spx_sm (x p : Wy) : spx x.F x.H x.L x.B p.F p.H p.L p.B = x.sm p := by
  unfold spx Wy.sm
  exact decide_eq_decide.2 ⟨fun h => ⟨h.1.1, h.1.2.1, h.1.2.2, h.2⟩, fun h => ⟨⟨h.1, h.2.1, h.2.2.1⟩, h.2.2.2⟩⟩
theorem ixo_at {l : List Wy} {p x : Wy} {j : Nat} (hx : l[j]? = some x) (hs : x.sm p = true) (hb : ∀ i, i < j → ∀ y, l[i]? = some y → y.sm p = false) : ixo l p = j := by
  have : l.findIdx? (fun x => x.sm p) = some j := by
    rw [List.findIdx?_eq_some_iff_getElem]
    obtain ⟨hj, e⟩ := List.getElem?_eq_some_iff.1 hx
    refine ⟨hj, by rw [e]; exact hs, fun i hi => ?_⟩
    rw [hb i hi _ (List.getElem?_eq_getElem (by omega))]
    simp
  unfold ixo
  rw [this]
theorem ixo_none {l : List Wy} {p : Wy} (hb : ∀ i, i < l.length → ∀ y, l[i]? = some y → y.sm p = false) : ixo l p = -1 := by
  have : l.findIdx? (fun x => x.sm p) = none := by
    rw [List.findIdx?_eq_none_iff]
    intro x hx
    obtain ⟨i, hi, rfl⟩ := List.getElem_of_mem hx
    rw [hb i hi _ (List.getElem?_eq_getElem hi)]
  unfold ixo
  rw [this]
set_option maxHeartbeats 2000000 in
theorem refAt_ (v : Value) (l : List Wy) (p : Wy) (w : World) (h : Rt w v l) :
    Calls Try.prog 45 #[v, p.px] w fun e w' => e = .returned (.int .i64 (ixo l p)) ∧ Below w.heap.size w w' := by
  obtain ⟨k, s, rfl, hk, hs⟩ := h
  obtain ⟨a, c, rfl, hn, hc, HW⟩ := hs.read
  have ck := Rt.cell hk
  have B0 := pnew w p.F p.H p.L p.B
  have m0 := Pm.new w p.F p.H p.L p.B
  have HWh := hid (HW.kept B0)
  replace ck := cell_be8 B0 ck
  unfold maxLen at hc
  clear hk hs HW
  unfold Wy.px
  go_enter Try.func45, Try.ntmps45
  go_wp2_with fail
  generalize w.alloc (.cells #[.int .i64 p.F, .int .u64 p.H, .int .u64 p.L, .int .i64 p.B] 32) = w1 at *
  go_loopw [5] (fun i wr => ∃ j : Nat, j ≤ l.length ∧ i = .int .i64 j ∧ Below w.heap.size w wr ∧ Below w1.heap.size w1 wr ∧ ∀ i, i < j → ∀ y, l[i]? = some y → y.sm p = false) (fun i _ => l.length - (intOf i).toNat)
  case atStart => exact ⟨0, by omega, rfl, B0, Below.refl _ _, fun i hi => by omega⟩
  case round =>
    obtain ⟨j, hj, rfl, hB, hB1, hno⟩ := hrel
    have m1 := m0.kept hB1
    have d0 := cell_be8 hB1 ck
    clear B0
    by_cases hlt : j < l.length
    · have hI : (j : Int) < (l.length : Int) := by omega
      obtain ⟨x, hx⟩ : ∃ x, l[j]? = some x := ⟨_, List.getElem?_eq_getElem hlt⟩
      obtain ⟨q, off, rfl, hq⟩ : ∃ q off, a = some ⟨q, off, none⟩ ∧ (w1.cell? ⟨q, off + j * 5, none⟩ = some (.int .i64 x.F) ∧ w1.cell? ⟨q, off + j * 5 + 1, none⟩ = some (.int .u64 x.H) ∧ w1.cell? ⟨q, off + j * 5 + 2, none⟩ = some (.int .u64 x.L) ∧ w1.cell? ⟨q, off + j * 5 + 3, none⟩ = some (.int .i64 x.B)) := by
        rcases HWh.out.2 with h | ⟨q, off, e, h⟩
        · rw [h] at hlt
          simp at hlt
        · obtain ⟨c0, c1, c2, c3, _⟩ := h j x hx
          exact ⟨q, off, e, c0, c1, c2, c3⟩
      obtain ⟨q0, q1, q2, q3⟩ := hq
      have S0 : SAt k w.heap.size q (off + j * 5) (.slice (some ⟨q, off, none⟩) l.length c) x p w w1 wr := ⟨⟨d0, cell_be8 hB1 q0, cell_be8 hB1 q1, cell_be8 hB1 q2, cell_be8 hB1 q3, m1.c0, m1.c1, m1.c2, m1.c3⟩, hB, hB1⟩
      have k1 := fun w => samePrefix_ x.F x.H x.L x.B p.F p.H p.L p.B w
      rw [spx_sm] at k1
      go_wp2_with fail
      refine wp_region_quiet (C := SAt k w.heap.size q (off + j * 5) (.slice (some ⟨q, off, none⟩) l.length c) x p w w1) (by kernel_rfl) (by kernel_rfl) S0.drew ?_
      repeat
        refine wpQuiet_step (fun K hK => ?_)
        go_simp
        first
          | (refine hK _ ?_; clear hK K)
          | (apply Exists.intro
             refine ⟨fun wq hq => ?_, hK _ ?_⟩
             · first
               | rfl
               | (go_at_call 16; exact (k1 _).mono fun _ _ h => ⟨h.1, hq.kept h.2⟩)
               | (obtain ⟨⟨q0, q1, q2, q3, q4, q5, q6, q7, q8⟩, _⟩ := hq; go_simp; rfl)
             clear hK K)
      refine wpQuiet_nil ?_
      intro w2 s2
      obtain ⟨_, hB2, g2⟩ := s2
      cases hs : x.sm p with
      | true =>
        have HS := hid (ixo_at hx hs hno)
        clear hs
        go_wp2_with fail
        go_ret
        exact ⟨by rw [HS.out]; rfl, hB2⟩
      | false =>
        have HS := hid hs
        have HN := hid hno
        clear hs hno
        go_wp2_with fail
        go_roundw
        case rel =>
          refine ⟨j + 1, by omega, rfl, hB2, g2, fun i hi y hy => ?_⟩
          rcases Nat.lt_or_ge i j with h | h
          · exact HN.out i h y hy
          · obtain rfl : i = j := by omega
            rw [hx] at hy
            obtain rfl := Option.some.inj hy
            exact HS.out
        case measure => simp [intOf]; omega
    · have hI : ¬ (j : Int) < (l.length : Int) := by omega
      go_wp2_with fail
      go_ret
      exact ⟨by rw [ixo_none (fun i hi => hno i (by omega))]; rfl, hB⟩
end Go.Proofs.Ytcaecfdeieoenaa
