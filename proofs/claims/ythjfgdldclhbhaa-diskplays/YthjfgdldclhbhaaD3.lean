import Derived.Test.YthjfgdldclhbhaaD2
import Derived.Shelf.Abstract
namespace Go.Proofs.Ythjfgdldclhbhaa
open Go.RowKit Go.Shelf
set_option linter.unusedVariables false
set_option maxRecDepth 100000

/-- cmp.Compare. -/
def cmpI (x y : Int) : Int := if x < y then -1 else if y < x then 1 else 0
theorem isNaN_ (x : Int) (w : World) : Calls Try.prog 79 #[.int .i64 x] w fun e w' => e = .returned (.bool false) ∧ w' = w := by
  have h : (x != x) = false := by simp
  go_enter Try.func79, Try.ntmps79
  go_wp2_with fail
  go_ret
  exact ⟨rfl, rfl⟩
set_option maxHeartbeats 400000 in
theorem compare_ (x y : Int) (w : World) : Calls Try.prog 61 #[.int .i64 x, .int .i64 y] w fun e w' => e = .returned (.int .i64 (cmpI x y)) ∧ w' = w := by
  unfold cmpI
  by_cases h1 : x < y
  · rw [if_pos h1]
    go_enter Try.func61, Try.ntmps61
    go_wp2_with (go_at_call 79; refine (isNaN_ _ _).mono ?_; rintro e w' ⟨rfl, rfl⟩)
    go_ret
    exact ⟨rfl, rfl⟩
  · rw [if_neg h1]
    by_cases h2 : y < x
    · rw [if_pos h2]
      go_enter Try.func61, Try.ntmps61
      go_wp2_with (go_at_call 79; refine (isNaN_ _ _).mono ?_; rintro e w' ⟨rfl, rfl⟩)
      go_ret
      exact ⟨rfl, rfl⟩
    · rw [if_neg h2]
      go_enter Try.func61, Try.ntmps61
      go_wp2_with (go_at_call 79; refine (isNaN_ _ _).mono ?_; rintro e w' ⟨rfl, rfl⟩)
      go_ret
      exact ⟨rfl, rfl⟩
set_option maxHeartbeats 400000 in
theorem cmpT_ (A K x : Int) (w : World) : Calls Try.prog 82 #[.agg #[.int .i64 A, .int .i64 K], .int .i64 x] w fun e w' => e = .returned (.int .i64 (cmpI A x)) ∧ w' = w.alloc (.cells #[.int .i64 A, .int .i64 K] 71) := by
  obtain ⟨r, hr⟩ : ∃ r, cmpI A x = r := ⟨_, rfl⟩
  have kc := fun w => compare_ A x w
  rw [hr] at *
  clear hr
  go_enter Try.func82, Try.ntmps82
  go_wp2_with (go_at_call 61; refine (kc _).mono ?_; rintro e w' ⟨rfl, rfl⟩)
  go_ret
  exact ⟨rfl, rfl⟩
set_option maxHeartbeats 400000 in
theorem cmpA_ (A K A' K' : Int) (w : World) : Calls Try.prog 60 #[.agg #[.int .i64 A, .int .i64 K], .agg #[.int .i64 A', .int .i64 K']] w fun e w' => e = .returned (.int .i64 (cmpI A A')) ∧ w' = (w.alloc (.cells #[.int .i64 A, .int .i64 K] 71)).alloc (.cells #[.int .i64 A', .int .i64 K'] 71) := by
  obtain ⟨r, hr⟩ : ∃ r, cmpI A A' = r := ⟨_, rfl⟩
  have kc := fun w => compare_ A A' w
  rw [hr] at *
  clear hr
  go_enter Try.func60, Try.ntmps60
  go_wp2_with (go_at_call 61; refine (kc _).mono ?_; rintro e w' ⟨rfl, rfl⟩)
  go_ret
  exact ⟨rfl, rfl⟩
/-- A slice of faults. -/
def Fs (w : World) (a : Option Addr) (m : Nat) (fs : List (Int × Int)) : Prop :=
  fs.length = m ∧ (m = 0 ∨ ∃ b off, a = some ⟨b, off, none⟩ ∧ ∀ i, i < m → w.cell? ⟨b, off + i * 2, none⟩ = some (.int .i64 (fs.getD i (0, 0)).1) ∧ w.cell? ⟨b, off + i * 2 + 1, none⟩ = some (.int .i64 (fs.getD i (0, 0)).2))
theorem Fs.below {w w' : World} {a : Option Addr} {m : Nat} {fs : List (Int × Int)} (h : Fs w a m fs) (hb : Below w.heap.size w w') : Fs w' a m fs := by
  refine ⟨h.1, ?_⟩
  rcases h.2 with h0 | ⟨b, off, rfl, hc⟩
  · exact .inl h0
  · refine .inr ⟨b, off, rfl, fun i hi => ?_⟩
    have hlt := World.block_lt_of_cell? w _ (hc i hi).1
    exact ⟨(hb.cell (p := ⟨b, off + i * 2, none⟩) hlt).trans (hc i hi).1, (hb.cell (p := ⟨b, off + i * 2 + 1, none⟩) hlt).trans (hc i hi).2⟩
/-- In the order of At. -/
def srt (fs : List (Int × Int)) : Prop := fs.Pairwise (fun a b => a.1 < b.1)
theorem srt_lt {fs : List (Int × Int)} (h : srt fs) {i j : Nat} (hij : i < j) (hj : j < fs.length) : (fs.getD i (0, 0)).1 < (fs.getD j (0, 0)).1 := by
  have := List.pairwise_iff_getElem.1 h i j (by omega) hj hij
  simp [List.getD, hj, show i < fs.length from by omega]
  exact this
theorem srt_ne {fs : List (Int × Int)} (h : srt fs) : fs.Pairwise (fun a b => a.1 ≠ b.1) := List.Pairwise.imp (fun h => by omega) h
theorem lookF_at {fs : List (Int × Int)} (h : srt fs) {i : Nat} (hi : i < fs.length) : lookF fs (fs.getD i (0, 0)).1 = (fs.getD i (0, 0)).2 := by
  have : fs.getD i (0, 0) ∈ fs := by simp [List.getD, hi]
  exact lookF_some (srt_ne h) this
theorem lookF_off {fs : List (Int × Int)} {x : Int} (h : ∀ i, i < fs.length → (fs.getD i (0, 0)).1 ≠ x) : lookF fs x = 0 := by
  refine lookF_none (fun f hf => ?_)
  obtain ⟨i, hi, rfl⟩ := List.getElem_of_mem hf
  have := h i hi
  simpa [List.getD, hi] using this
/-- Where x stands, or would stand. -/
def Bsr (fs : List (Int × Int)) (x : Int) (i : Nat) (f : Bool) : Prop := i ≤ fs.length ∧ (f = true → i < fs.length ∧ (fs.getD i (0, 0)).1 = x) ∧ (f = false → ∀ j, j < fs.length → (fs.getD j (0, 0)).1 ≠ x)
set_option maxHeartbeats 1000000 in
theorem search_ (a : Option Addr) (m cp : Nat) (fs : List (Int × Int)) (x : Int) (w : World) (h : Fs w a m fs) (hs : srt fs) (hm : m ≤ 140737488355328) :
    Calls Try.prog 81 #[.slice a m cp, .int .i64 x, .func (.func 82) #[] #[]] w fun e w' => (∃ (i : Nat) (f : Bool), e = .returned (.tuple #[.int .i64 i, .bool f]) ∧ Bsr fs x i f) ∧ Below w.heap.size w w' := by
  have HF := hid h
  have HSR := hid hs
  have hl := h.1
  have eg : ∀ args w, (callFunc 82 args).run Try.prog w = .ok (.enter 82 args) w := enters_of Try.func82 (by kernel_rfl) rfl
  clear h hs
  go_enter Try.func81, Try.ntmps81
  go_wp2_with fail
  go_loopw [9, 10] (fun s9 s10 wr => ∃ lo hi : Nat, s9 = .int .i64 lo ∧ s10 = .int .i64 hi ∧ lo ≤ hi ∧ hi ≤ m ∧ Below w.heap.size w wr ∧ (∀ t, t < lo → (fs.getD t (0, 0)).1 < x) ∧ (∀ t, hi ≤ t → t < m → x ≤ (fs.getD t (0, 0)).1)) (fun s9 s10 _ => (intOf s10).toNat - (intOf s9).toNat)
  case atStart => exact ⟨0, m, rfl, rfl, Nat.zero_le _, Nat.le_refl _, Below.refl _ _, fun t ht => absurd ht (Nat.not_lt_zero _), fun t h1 h2 => by omega⟩
  case round =>
    obtain ⟨lo, hi, rfl, rfl, hlh, him, hbl, i1, i2⟩ := hrel
    have HI1 := hid i1
    have HI2 := hid i2
    clear i1 i2
    by_cases hlt : lo < hi
    · obtain ⟨b, off, rfl, hc⟩ : ∃ b off, a = some ⟨b, off, none⟩ ∧ ∀ i, i < m → w.cell? ⟨b, off + i * 2, none⟩ = some (.int .i64 (fs.getD i (0, 0)).1) ∧ w.cell? ⟨b, off + i * 2 + 1, none⟩ = some (.int .i64 (fs.getD i (0, 0)).2) := by
        rcases HF.out.2 with h0 | h
        · omega
        · exact h
      obtain ⟨q, HQ⟩ : ∃ q, Hid (q = (lo + hi) / 2) := ⟨_, rfl⟩
      have hq1 : lo ≤ q ∧ q < hi := by have := HQ.out; omega
      have c0 := (hbl.cell (p := ⟨b, off + q * 2, none⟩) (World.block_lt_of_cell? w _ (hc q (by omega)).1)).trans (hc q (by omega)).1
      have c1 := (hbl.cell (p := ⟨b, off + q * 2 + 1, none⟩) (World.block_lt_of_cell? w _ (hc q (by omega)).2)).trans (hc q (by omega)).2
      obtain ⟨A, HA⟩ : ∃ A, Hid ((fs.getD q (0, 0)).1 = A) := ⟨_, rfl⟩
      obtain ⟨K, HK⟩ : ∃ K, Hid ((fs.getD q (0, 0)).2 = K) := ⟨_, rfl⟩
      rw [HA.out] at c0
      rw [HK.out] at c1
      have hq2 : ((lo : Int) + hi) / 2 = (q : Int) := by have := HQ.out; omega
      have kc := fun w => cmpT_ A K x w
      obtain ⟨r, HR⟩ : ∃ r, Hid (cmpI A x = r) := ⟨_, rfl⟩
      simp only [HR.out] at kc
      clear hc
      by_cases hr : r < 0
      · go_wp2_with (go_at_call 82; refine (kc _).mono ?_; rintro e w' ⟨rfl, rfl⟩)
        refine ⟨⟨q + 1, hi, by go_num, rfl, by omega, him, hbl.alloc hbl.size _, fun t ht => ?_, HI2.out⟩, by simp [intOf]; omega⟩
        have hA : (fs.getD q (0, 0)).1 < x := by
          have h1 := HR.out
          rw [HA.out]
          unfold cmpI at h1
          split at h1
          · assumption
          · split at h1 <;> omega
        by_cases e : t = q
        · rw [e]; exact hA
        · have := srt_lt HSR.out (show t < q by omega) (by omega)
          omega
      · go_wp2_with (go_at_call 82; refine (kc _).mono ?_; rintro e w' ⟨rfl, rfl⟩)
        refine ⟨⟨lo, q, rfl, rfl, by omega, by omega, hbl.alloc hbl.size _, HI1.out, fun t h1 h2 => ?_⟩, by simp [intOf]; omega⟩
        have hA : x ≤ (fs.getD q (0, 0)).1 := by
          have h1 := HR.out
          rw [HA.out]
          unfold cmpI at h1
          split at h1
          · omega
          · omega
        by_cases e : t = q
        · rw [e]; exact hA
        · have := srt_lt HSR.out (show q < t by omega) (by omega)
          omega
    · obtain rfl : lo = hi := by omega
      by_cases hlm : lo < m
      · obtain ⟨b, off, rfl, hc⟩ : ∃ b off, a = some ⟨b, off, none⟩ ∧ ∀ i, i < m → w.cell? ⟨b, off + i * 2, none⟩ = some (.int .i64 (fs.getD i (0, 0)).1) ∧ w.cell? ⟨b, off + i * 2 + 1, none⟩ = some (.int .i64 (fs.getD i (0, 0)).2) := by
          rcases HF.out.2 with h0 | h
          · omega
          · exact h
        have c0 := (hbl.cell (p := ⟨b, off + lo * 2, none⟩) (World.block_lt_of_cell? w _ (hc lo (by omega)).1)).trans (hc lo (by omega)).1
        have c1 := (hbl.cell (p := ⟨b, off + lo * 2 + 1, none⟩) (World.block_lt_of_cell? w _ (hc lo (by omega)).2)).trans (hc lo (by omega)).2
        obtain ⟨A, HA⟩ : ∃ A, Hid ((fs.getD lo (0, 0)).1 = A) := ⟨_, rfl⟩
        obtain ⟨K, HK⟩ : ∃ K, Hid ((fs.getD lo (0, 0)).2 = K) := ⟨_, rfl⟩
        rw [HA.out] at c0
        rw [HK.out] at c1
        have kc := fun w => cmpT_ A K x w
        obtain ⟨r, HR⟩ : ∃ r, Hid (cmpI A x = r) := ⟨_, rfl⟩
        simp only [HR.out] at kc
        have HE : Hid (Bsr fs x lo (r == 0)) := by
          refine ⟨by omega, fun h => ⟨by omega, ?_⟩, fun h j hj e => ?_⟩
          · have h1 := HR.out
            have h2 : r = 0 := by simpa using h
            rw [HA.out]
            unfold cmpI at h1
            split at h1
            · omega
            · split at h1 <;> omega
          · have h1 := HR.out
            have h2 : r ≠ 0 := by simpa using h
            have hA : A ≠ x := fun e => by
              unfold cmpI at h1
              rw [if_neg (by omega), if_neg (by omega)] at h1
              exact h2 h1.symm
            rw [← HA.out] at hA
            rcases Nat.lt_trichotomy j lo with h3 | rfl | h3
            · have := HI1.out j h3; omega
            · exact hA e
            · have := srt_lt HSR.out h3 (by omega)
              have := HI2.out lo (Nat.le_refl _) hlm
              omega
        clear hc
        have hI : (lo : Int) < (m : Int) := by omega
        go_wp2_with (go_at_call 82; refine (kc _).mono ?_; rintro e w' ⟨rfl, rfl⟩)
        go_ret2
        exact ⟨⟨lo, _, rfl, HE.out⟩, hbl.alloc hbl.size _⟩
      · have HE : Hid (Bsr fs x lo false) := by
          refine ⟨by omega, fun h => ?_, fun _ j hj => ?_⟩
          · simp at h
          · have := HI1.out j (by omega)
            omega
        have hI : ¬ (lo : Int) < (m : Int) := by omega
        go_wp2_with fail
        go_ret2
        exact ⟨⟨lo, .inl ⟨rfl, HE.out⟩⟩, hbl⟩
set_option maxHeartbeats 1000000 in
/-- What the number x meets. -/
theorem meets_ (go : Nat) (a : Option Addr) (m cp : Nat) (fs : List (Int × Int)) (x : Int) (w : World) (hg : w.heap[go]? = some (.cells #[.slice a m cp] 31 (0, 0))) (h : Fs w a m fs) (hs : srt fs) (hm : m ≤ 140737488355328) :
    Calls Try.prog 80 #[.int .i64 x, .pointer (some ⟨go, 0, none⟩)] w fun e w' => e = .returned (.int .i64 (lookF fs x)) ∧ Below w.heap.size w w' := by
  have hgl := (Array.getElem?_eq_some_iff.1 hg).1
  have c0 : w.cell? ⟨go, 0, none⟩ = some (.slice a m cp) := (cell_of_row _ _ 0 _ _ (0, 0) hg).trans rfl
  have HF := hid h
  have hl := h.1
  have ks := search_ a m cp fs x w h hs hm
  have HSR := hid hs
  obtain ⟨R, HR0⟩ : ∃ R, Hid (lookF fs x = R) := ⟨_, rfl⟩
  rw [HR0.out]
  clear h hs hg
  go_enter Try.func80, Try.ntmps80
  go_wp2_with fail
  refine ks.mono ?_
  rintro e w1 ⟨⟨i, f, rfl, hB⟩, g1⟩
  have c1 := (g1.cell (p := ⟨go, 0, none⟩) hgl).trans c0
  clear c0 hgl ks
  cases f with
  | false =>
    have HR : Hid (lookF fs x = 0) := lookF_off (hB.2.2 rfl)
    go_wp2_with fail
    go_ret
    exact ⟨by rw [← HR0.out, HR.out]; rfl, g1⟩
  | true =>
    obtain ⟨h1, h2⟩ := hB.2.1 rfl
    have HR : Hid (lookF fs x = (fs.getD i (0, 0)).2) := by
      show _ = _
      rw [← h2]
      exact lookF_at HSR.out h1
    obtain ⟨b, off, rfl, hc⟩ : ∃ b off, a = some ⟨b, off, none⟩ ∧ ∀ i, i < m → w.cell? ⟨b, off + i * 2, none⟩ = some (.int .i64 (fs.getD i (0, 0)).1) ∧ w.cell? ⟨b, off + i * 2 + 1, none⟩ = some (.int .i64 (fs.getD i (0, 0)).2) := by
      rcases HF.out.2 with h0 | h
      · omega
      · exact h
    have e1 := (g1.cell (p := ⟨b, off + i * 2 + 1, none⟩) (World.block_lt_of_cell? w _ (hc i (by omega)).2)).trans (hc i (by omega)).2
    have hil : (i : Int) < (m : Int) := by omega
    obtain ⟨K, HK⟩ : ∃ K, Hid ((fs.getD i (0, 0)).2 = K) := ⟨_, rfl⟩
    rw [HK.out] at e1
    have HRK : Hid (R = K) := by rw [← HR0.out, HR.out, HK.out]; exact rfl
    clear hc h2 hB HR
    go_wp2_with fail
    go_ret
    exact ⟨by rw [HRK.out]; rfl, g1⟩
end Go.Proofs.Ythjfgdldclhbhaa
