import Derived.Test.YtejokaehdfcjlaaGreatDoorS3
import Derived.Laws.BytesString
import Derived.Laws.BytesArg
namespace Go.Proofs.YtejokaehdfcjlaaGreatDoor
set_option maxRecDepth 100000
open Go.RowKit
set_option linter.unusedVariables false

theorem number64_ (a : Option Addr) (c : Nat) (zs : List Int) (w : World) (hb : Bs w a 8 zs) (hc : 8 ≤ c) :
    Calls Tryz.prog 39 #[.slice a 8 c] w fun e w' => e = .returned (.int .u64 (val zs)) ∧ Below w.heap.size w w' := by
  have hne : a ≠ none := by
    rcases hb.2.2 with h | ⟨b, off, rfl, _⟩
    · omega
    · simp
  have ht : zs.take 8 = zs := List.take_of_length_le (by rw [hb.1]; exact Nat.le_refl _)
  have hln := hb.1
  have HB := hid hb
  clear hb
  go_enter Tryz.func39, Tryz.ntmps39
  go_wp2_with fail
  refine (newReader a 8 c zs w HB.out (fun h => absurd h hne) (by omega) hc).mono ?_
  rintro e1 w1 ⟨r, g, rfl, h1, h2, h3, _, h4⟩
  go_wp2_with fail
  refine (get64_whole r g zs 0 w1 h1 (by omega) (by omega) (by omega) (by omega)).mono ?_
  rintro e2 w2 ⟨rfl, h5, h6⟩
  rw [ht]
  have B : Below w.heap.size w w2 := (below_of_grown h4).trans (h6.below h2)
  go_wp2
  go_ret
  exact ⟨rfl, B⟩
theorem number32_ (a : Option Addr) (c : Nat) (zs : List Int) (w : World) (hb : Bs w a 4 zs) (hc : 4 ≤ c) :
    Calls Tryz.prog 40 #[.slice a 4 c] w fun e w' => e = .returned (.int .u32 (val zs)) ∧ Below w.heap.size w w' := by
  have hne : a ≠ none := by
    rcases hb.2.2 with h | ⟨b, off, rfl, _⟩
    · omega
    · simp
  have ht : zs.take 4 = zs := List.take_of_length_le (by rw [hb.1]; exact Nat.le_refl _)
  have hln := hb.1
  have HB := hid hb
  clear hb
  go_enter Tryz.func40, Tryz.ntmps40
  go_wp2_with fail
  refine (newReader a 4 c zs w HB.out (fun h => absurd h hne) (by omega) hc).mono ?_
  rintro e1 w1 ⟨r, g, rfl, h1, h2, h3, _, h4⟩
  go_wp2_with fail
  refine (get32_whole r g zs 0 w1 h1 (by omega) (by omega) (by omega) (by omega)).mono ?_
  rintro e2 w2 ⟨rfl, h5, h6⟩
  rw [ht]
  have B : Below w.heap.size w w2 := (below_of_grown h4).trans (h6.below h2)
  go_wp2
  go_ret
  exact ⟨rfl, B⟩
theorem number16_ (a : Option Addr) (c : Nat) (zs : List Int) (w : World) (hb : Bs w a 2 zs) (hc : 2 ≤ c) :
    Calls Tryz.prog 38 #[.slice a 2 c] w fun e w' => e = .returned (.int .u16 (val zs)) ∧ Below w.heap.size w w' := by
  have hne : a ≠ none := by
    rcases hb.2.2 with h | ⟨b, off, rfl, _⟩
    · omega
    · simp
  have ht : zs.take 2 = zs := List.take_of_length_le (by rw [hb.1]; exact Nat.le_refl _)
  have hln := hb.1
  have HB := hid hb
  clear hb
  go_enter Tryz.func38, Tryz.ntmps38
  go_wp2_with fail
  refine (newReader a 2 c zs w HB.out (fun h => absurd h hne) (by omega) hc).mono ?_
  rintro e1 w1 ⟨r, g, rfl, h1, h2, h3, _, h4⟩
  go_wp2_with fail
  refine (get16_whole r g zs 0 w1 h1 (by omega) (by omega) (by omega) (by omega)).mono ?_
  rintro e2 w2 ⟨rfl, h5, h6⟩
  rw [ht]
  have B : Below w.heap.size w w2 := (below_of_grown h4).trans (h6.below h2)
  go_wp2
  go_ret
  exact ⟨rfl, B⟩

/-- A text of bytes in memory. -/
theorem run_txt {w : World} {a : Option Addr} {n : Nat} {zs : List Int} (c : Nat) (hb : Bs w a n zs) : (convert 44 9 (.slice a n c)).run Tryz.prog w = .ok (.string (bt zs)) w := by
  have hu : Tryz.prog.underlying 9 = some .string := by kernel_rfl
  have hy : Tryz.prog.underlying 5 = some (.int .u8) := by kernel_rfl
  have hl : (zs.map fun z => UInt8.ofNat z.toNat).length = n := by rw [List.length_map, hb.1]
  cases a with
  | none =>
    have h0 : n = 0 := by rcases hb.2.2 with h | ⟨_, _, h, _⟩; exact h; cases h
    subst h0
    obtain rfl : zs = [] := List.eq_nil_of_length_eq_zero hb.1
    exact run_convert_bytes_nil (P := Tryz.prog) w 44 5 Tryz.underlying44 hy 0 c _ hu
  | some x =>
    have := run_convert_bytes_back (P := Tryz.prog) w 44 9 5 x c (zs.map fun z => UInt8.ofNat z.toNat) Tryz.underlying44 hy hu (fun j hj => by
      have hj' : j < zs.length := by simpa using hj
      have hc := hb.src1 (w1 := w) (grow_refl _ _) j _ (cells_get zs j hj')
      have hz := hb.2.1 zs[j] (List.getElem_mem hj')
      rw [hc]
      simp only [List.getD, List.getElem?_eq_getElem hj', Option.getD_some, List.getElem_map]
      congr 2
      simp
      omega)
    rw [hl] at this
    exact this
theorem bt_inj {xs ys : List Int} (hx : By xs) (hy : By ys) (h : bt xs = bt ys) : xs = ys := by
  rw [← tb_bt xs hx, h, tb_bt ys hy]
theorem bt_same {xs ys : List Int} (hx : By xs) (hy : By ys) : ((bt xs).toList == (bt ys).toList) = sameB xs ys := by
  unfold sameB
  by_cases h : xs = ys
  · subst h; simp
  · rw [decide_eq_false h, beq_eq_false_iff_ne]
    exact fun k => h (bt_inj hx hy (toList_inj k))
theorem equal_ (a b : Option Addr) (n c m d : Nat) (xs ys : List Int) (w : World) (hx : Bs w a n xs) (hy : Bs w b m ys) :
    Calls Tryz.prog 26 #[.slice a n c, .slice b m d] w fun e w' => e = .returned (.bool (sameB xs ys)) ∧ w' = w := by
  have k1 := run_txt c hx
  have k2 := run_txt d hy
  have H := hid (bt_same hx.2.1 hy.2.1)
  clear hx hy
  generalize bt xs = X at *
  generalize bt ys = Y at *
  go_enter Tryz.func26, Tryz.ntmps26
  go_wp2
  go_ret
  exact ⟨ret_bool H.out, rfl⟩
end Go.Proofs.YtejokaehdfcjlaaGreatDoor
