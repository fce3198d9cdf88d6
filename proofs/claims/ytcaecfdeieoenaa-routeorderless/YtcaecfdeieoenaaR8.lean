import Derived.Test.YtcaecfdeieoenaaR7
namespace Go.Proofs.Ytcaecfdeieoenaa
open Go.RowKit
set_option linter.unusedVariables false

/-- What Find tells. -/
def fK (l : List Wy) (F H L : Int) : Int := match fnd l F H L with
  | none => 0
  | some y => y.K
def fO (l : List Wy) (F H L : Int) : Bool := (fnd l F H L).isSome
/-- One way of a list, the bits of another one, and an address in a variable. -/
def SFd (k g q o oy : Nat) (s : Value) (x : Wy) (yB F H L : Int) (w0 w1 w : World) : Prop :=
  (w.cell? ⟨k, 0, none⟩ = some s ∧ w.cell? ⟨q, o, none⟩ = some (.int .i64 x.F) ∧ w.cell? ⟨q, o + 1, none⟩ = some (.int .u64 x.H) ∧ w.cell? ⟨q, o + 2, none⟩ = some (.int .u64 x.L) ∧ w.cell? ⟨q, o + 3, none⟩ = some (.int .i64 x.B) ∧ w.cell? ⟨q, oy + 3, none⟩ = some (.int .i64 yB) ∧
    w.cell? ⟨g, 0, none⟩ = some (.int .i64 F) ∧ w.cell? ⟨g, 1, none⟩ = some (.int .u64 H) ∧ w.cell? ⟨g, 2, none⟩ = some (.int .u64 L)) ∧ Below w0.heap.size w0 w ∧ Below w1.heap.size w1 w
theorem SFd.kept {k g q o oy : Nat} {s : Value} {x : Wy} {yB F H L : Int} {w0 w1 w w' : World} (h : SFd k g q o oy s x yB F H L w0 w1 w) (hb : Below w.heap.size w w') : SFd k g q o oy s x yB F H L w0 w1 w' := by
  obtain ⟨⟨c0, c1, c2, c3, c4, c5, c6, c7, c8⟩, b, b1⟩ := h
  exact ⟨⟨cell_be8 hb c0, cell_be8 hb c1, cell_be8 hb c2, cell_be8 hb c3, cell_be8 hb c4, cell_be8 hb c5, cell_be8 hb c6, cell_be8 hb c7, cell_be8 hb c8⟩, bel_bel b b.size hb, bel_bel b1 b1.size hb⟩
theorem SFd.drew {k g q o oy : Nat} {s : Value} {x : Wy} {yB F H L : Int} {w0 w1 w : World} (h : SFd k g q o oy s x yB F H L w0 w1 w) : SFd k g q o oy s x yB F H L w0 w1 { w with drawn := w.drawn + 1 } := h.kept ⟨rfl, rfl, rfl, Nat.le_refl _, fun _ _ => rfl⟩
/-- Where the best one stands. -/
def Bst (l : List Wy) (b : Option Wy) (t : Int) : Prop := match b with
  | none => t = -1
  | some y => ∃ i : Nat, t = i ∧ i < l.length ∧ l[i]? = some y
theorem fold_snoc {l : List Wy} {j : Nat} {x : Wy} (F H L : Int) (hx : l[j]? = some x) : (l.take (j + 1)).foldl (fstep F H L) none = fstep F H L ((l.take j).foldl (fstep F H L) none) x := by
  rw [← take_snoc hx, List.foldl_append]
  rfl
set_option maxRecDepth 100000 in
set_option maxHeartbeats 4000000 in
theorem refFind_ (v : Value) (l : List Wy) (F H L : Int) (w : World) (h : Rt w v l) (hH : InU H) (hL : InU L) :
    Calls Try.prog 26 #[v, .agg #[.int .i64 F, .int .u64 H, .int .u64 L]] w fun e w' => e = .returned (.tuple #[.int .i64 (fK l F H L), .bool (fO l F H L)]) ∧ Below w.heap.size w w' := by
  obtain ⟨k, s, rfl, hk, hs⟩ := h
  obtain ⟨a, c, rfl, hn, hc, HW⟩ := hs.read
  have ck := Rt.cell hk
  have B0 := anew w F H L
  have m0 := Am.new w F H L
  have HWh := hid (HW.kept B0)
  replace ck := cell_be8 B0 ck
  unfold maxLen at hc
  clear hk hs HW
  go_enter Try.func26, Try.ntmps26
  go_wp2_with fail
  generalize w.alloc (.cells #[.int .i64 F, .int .u64 H, .int .u64 L] 30) = w1 at *
  go_loopw [6, 7] (fun bv i wr => ∃ (j : Nat) (t : Int), j ≤ l.length ∧ i = .int .i64 j ∧ bv = .int .i64 t ∧ Bst l ((l.take j).foldl (fstep F H L) none) t ∧ Below w.heap.size w wr ∧ Below w1.heap.size w1 wr) (fun _ i _ => l.length - (intOf i).toNat)
  case atStart => exact ⟨0, -1, by omega, rfl, rfl, rfl, B0, Below.refl _ _⟩
  case round =>
    obtain ⟨j, t, hj, rfl, rfl, hb, hB, hB1⟩ := hrel
    have m1 := m0.kept hB1
    have d0 := cell_be8 hB1 ck
    by_cases hlt : j < l.length
    · have hI : (j : Int) < (l.length : Int) := by omega
      obtain ⟨x, hx⟩ : ∃ x, l[j]? = some x := ⟨_, List.getElem?_eq_getElem hlt⟩
      have HF := hid (fold_snoc F H L hx)
      obtain ⟨q, off, rfl, hq⟩ : ∃ q off, a = some ⟨q, off, none⟩ ∧ Hid (∀ i x, l[i]? = some x → (w1.cell? ⟨q, off + i * 5, none⟩ = some (.int .i64 x.F) ∧ w1.cell? ⟨q, off + i * 5 + 1, none⟩ = some (.int .u64 x.H) ∧ w1.cell? ⟨q, off + i * 5 + 2, none⟩ = some (.int .u64 x.L) ∧ w1.cell? ⟨q, off + i * 5 + 3, none⟩ = some (.int .i64 x.B) ∧ w1.cell? ⟨q, off + i * 5 + 4, none⟩ = some (.int .i64 x.K))) := by
        rcases HWh.out.2 with h | ⟨q, off, e, h⟩
        · rw [h] at hlt
          simp at hlt
        · exact ⟨q, off, e, h⟩
      obtain ⟨xF, xH, xL, xB, xK⟩ := HWh.out.1 x (List.mem_of_getElem? hx)
      have k1 : ∀ w, Calls Try.prog 14 #[.agg #[.int .i64 x.F, .int .u64 x.H, .int .u64 x.L, .int .i64 x.B], .agg #[.int .i64 F, .int .u64 H, .int .u64 L]] w fun e w' => e = .returned (.bool (x.ho F H L)) ∧ Below w.heap.size w w' := fun w => refHolds_ x.F x.H x.L x.B F H L w xH xL xB hH hL
      obtain ⟨n0, n1, n2, n3, _⟩ := hq.out j x hx
      obtain ⟨b, hbe⟩ : ∃ b, Hid ((l.take j).foldl (fstep F H L) none = b) := ⟨_, rfl⟩
      rw [hbe.out] at hb HF
      obtain ⟨i, yB, hi, hyB, hty⟩ : ∃ (i : Nat) (yB : Int), i < l.length ∧ w1.cell? ⟨q, off + i * 5 + 3, none⟩ = some (.int .i64 yB) ∧ ((b = none ∧ t = -1) ∨ (∃ y, b = some y ∧ t = i ∧ y.B = yB ∧ l[i]? = some y)) := by
        cases b with
        | none => exact ⟨j, x.B, hlt, n3, .inl ⟨rfl, hb⟩⟩
        | some y =>
          obtain ⟨i, e, hi, hy⟩ := hb
          exact ⟨i, y.B, hi, (hq.out i y hy).2.2.2.1, .inr ⟨y, rfl, e, rfl, hy⟩⟩
      have S0 : SFd k w.heap.size q (off + j * 5) (off + i * 5) (.slice (some ⟨q, off, none⟩) l.length c) x yB F H L w w1 wr := ⟨⟨d0, cell_be8 hB1 n0, cell_be8 hB1 n1, cell_be8 hB1 n2, cell_be8 hB1 n3, cell_be8 hB1 hyB, m1.c0, m1.c1, m1.c2⟩, hB, hB1⟩
      have HT := hid hty
      have HBE := hid hb
      clear n0 n1 n2 n3 xF xH xL xB xK hb hbe hty hyB
      go_wp2_with fail
      refine wp_region_quiet (C := SFd k w.heap.size q (off + j * 5) (off + i * 5) (.slice (some ⟨q, off, none⟩) l.length c) x yB F H L w w1) (by kernel_rfl) (by kernel_rfl) S0.drew ?_
      repeat
        refine wpQuiet_step (fun K hK => ?_)
        go_simp
        first
          | (refine hK _ ?_; clear hK K)
          | (apply Exists.intro
             refine ⟨fun wq hq => ?_, hK _ ?_⟩
             · first
               | rfl
               | (go_at_call 14; exact (k1 _).mono fun _ _ h => ⟨h.1, hq.kept h.2⟩)
               | (obtain ⟨⟨q0, q1, q2, q3, q4, q5, q6, q7, q8⟩, _⟩ := hq; go_simp; rfl)
             clear hK K)
      refine wpQuiet_nil ?_
      intro w2 s2
      clear S0 k1 d0 m1 hB hB1
      cases hh : x.ho F H L with
      | false =>
        have HE : Hid (fstep F H L b x = b) := by show _ = _; unfold fstep; rw [hh]; rfl
        clear hh
        go_wp2_with fail
        obtain ⟨⟨r0, r1, r2, r3, r4, r5, r6, r7, r8⟩, hB4, g4⟩ := s2
        go_quiet (fail)
        go_wp2_with fail
        go_roundw
        case rel => exact ⟨j + 1, t, by omega, rfl, rfl, by rw [HF.out, HE.out]; exact HBE.out, bel_drawn hB4 _, bel_drawn g4 _⟩
        case measure => simp [intOf]; omega
      | true =>
        rcases HT.out with ⟨rfl, rfl⟩ | ⟨y, rfl, rfl, rfl, hy⟩
        · have HE : Hid (fstep F H L none x = some x) := by show _ = _; unfold fstep; rw [hh]; rfl
          clear hh
          go_wp2_with fail
          obtain ⟨⟨r0, r1, r2, r3, r4, r5, r6, r7, r8⟩, hB4, g4⟩ := s2
          go_quiet (fail)
          go_wp2_with fail
          go_roundw
          case rel => exact ⟨j + 1, j, by omega, rfl, rfl, by rw [HF.out, HE.out]; exact ⟨j, rfl, hlt, hx⟩, bel_drawn hB4 _, bel_drawn g4 _⟩
          case measure => simp [intOf]; omega
        · have hnn : ¬ (i : Int) < 0 := by omega
          have hii : (i : Int) < (l.length : Int) := by omega
          by_cases hgt : y.B < x.B
          · have HE : Hid (fstep F H L (some y) x = some x) := by show _ = _; simp [fstep, bet, hh, hgt]
            clear hh
            go_wp2_with fail
            obtain ⟨⟨r0, r1, r2, r3, r4, r5, r6, r7, r8⟩, hB4, g4⟩ := s2
            go_quiet (fail)
            go_wp2_with fail
            go_roundw
            case rel => exact ⟨j + 1, j, by omega, rfl, rfl, by rw [HF.out, HE.out]; exact ⟨j, rfl, hlt, hx⟩, bel_drawn hB4 _, bel_drawn g4 _⟩
            case measure => simp [intOf]; omega
          · have HE : Hid (fstep F H L (some y) x = some y) := by show _ = _; simp [fstep, bet, hh, hgt]
            clear hh
            go_wp2_with fail
            obtain ⟨⟨r0, r1, r2, r3, r4, r5, r6, r7, r8⟩, hB4, g4⟩ := s2
            go_quiet (fail)
            go_wp2_with fail
            go_roundw
            case rel => exact ⟨j + 1, i, by omega, rfl, rfl, by rw [HF.out, HE.out]; exact HBE.out, bel_drawn hB4 _, bel_drawn g4 _⟩
            case measure => simp [intOf]; omega
    · have hI : ¬ (j : Int) < (l.length : Int) := by omega
      obtain rfl : j = l.length := by omega
      rw [List.take_length] at hb
      have HE : Hid (fK l F H L = (match l.foldl (fstep F H L) none with | none => 0 | some y => y.K) ∧ fO l F H L = (l.foldl (fstep F H L) none).isSome) := ⟨rfl, rfl⟩
      cases hf : l.foldl (fstep F H L) none with
      | none =>
        rw [hf] at hb HE
        obtain rfl : t = -1 := hb
        clear hf
        go_wp2_with fail
        go_ret2
        exact ⟨by rw [HE.out.1, HE.out.2]; rfl, hB⟩
      | some y =>
        rw [hf] at hb HE
        obtain ⟨i, rfl, hi, hy⟩ := hb
        obtain ⟨q, off, rfl, hq⟩ : ∃ q off, a = some ⟨q, off, none⟩ ∧ (w1.cell? ⟨q, off + i * 5 + 4, none⟩ = some (.int .i64 y.K)) := by
          rcases HWh.out.2 with h | ⟨q, off, e, h⟩
          · rw [h] at hi
            simp at hi
          · exact ⟨q, off, e, (h i y hy).2.2.2.2⟩
        have e4 := cell_be8 hB1 hq
        have hnn : ¬ (i : Int) < 0 := by omega
        have hii : (i : Int) < (l.length : Int) := by omega
        clear hf hq
        go_wp2_with fail
        go_ret2
        exact ⟨by rw [HE.out.1, HE.out.2]; rfl, hB⟩
end Go.Proofs.Ytcaecfdeieoenaa
