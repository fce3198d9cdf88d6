import Derived.Test.YtblcpdffiafgnaaGreatDoorD1
import Derived.Shelf.Abstract
import Derived.Deep.RegionHeld
import Derived.Laws.CopyOwn
import Derived.Deep.RegionLaw
namespace Go.Proofs.YtblcpdffiafgnaaGreatDoor
open Go.RowKit
set_option linter.unusedVariables false
set_option maxRecDepth 100000

theorem sectors_ (d gl N cp : Nat) (pv fv : Value) (c : Int) (on : Bool) (k : Int) (w : World) (h : Dm w d (.slice (some ⟨gl, 0, none⟩) (512 * N) cp) pv fv c on k) (hN : N ≤ 8192) :
    Calls Tryz.prog 59 #[.pointer (some ⟨d, 0, none⟩)] w fun e w' => e = .returned (.int .i64 N) ∧ w' = w := by
  have m0 := h.c0
  have hd : ((512 * N : Nat) : Int) / 512 = (N : Int) := by omega
  have hd' : (512 * (N : Int)) / 512 = (N : Int) := by omega
  have hb : (512 * N : Nat) ≤ 4194304 := by omega
  clear h
  go_enter Tryz.func59, Tryz.ntmps59
  go_wp2_with fail
  go_ret
  exact ⟨rfl, rfl⟩
theorem has_ (d gl N cp : Nat) (pv fv : Value) (c : Int) (on : Bool) (k i : Int) (w : World) (h : Dm w d (.slice (some ⟨gl, 0, none⟩) (512 * N) cp) pv fv c on k) (hN : N ≤ 8192) :
    Calls Tryz.prog 81 #[.pointer (some ⟨d, 0, none⟩), .int .i64 i] w fun e w' => e = .returned (.bool (decide (0 ≤ i ∧ i < N))) ∧ w' = w := by
  have kS := sectors_ d gl N cp pv fv c on k w h hN
  clear h
  by_cases h0 : 0 ≤ i
  · have HR : Hid (decide (0 ≤ i ∧ i < (N : Int)) = decide (i < (N : Int))) := by show _ = _; simp [h0]
    rw [HR.out]
    obtain ⟨r, hr⟩ : ∃ r, decide (i < (N : Int)) = r := ⟨_, rfl⟩
    rw [hr]
    go_enter Tryz.func81, Tryz.ntmps81
    go_wp2_with (go_at_call 59; refine kS.mono ?_; rintro e w' ⟨rfl, rfl⟩)
    go_ret
    exact ⟨rfl, rfl⟩
  · have HR : decide (0 ≤ i ∧ i < (N : Int)) = false := by simp [h0]
    rw [HR]
    clear HR
    go_enter Tryz.func81, Tryz.ntmps81
    go_wp2_with fail
    go_ret
    exact ⟨rfl, rfl⟩
theorem done_ (d : Nat) (lv pv fv : Value) (c : Int) (on : Bool) (k : Int) (w : World) (h : Dm w d lv pv fv c on k) :
    Calls Tryz.prog 24 #[.pointer (some ⟨d, 0, none⟩)] w fun e w' => e = .returned (.int .i64 c) ∧ w' = w := by
  have m := h.c3
  clear h
  go_enter Tryz.func24, Tryz.ntmps24
  go_wp2_with fail
  go_ret
  exact ⟨rfl, rfl⟩
theorem claimed_ (d : Nat) (lv pv fv : Value) (c : Int) (on : Bool) (k : Int) (w : World) (h : Dm w d lv pv fv c on k) :
    Calls Tryz.prog 69 #[.pointer (some ⟨d, 0, none⟩)] w fun e w' => e = .returned (.int .i64 k) ∧ w' = w := by
  have m := h.c5
  clear h
  go_enter Tryz.func69, Tryz.ntmps69
  go_wp2_with fail
  go_ret
  exact ⟨rfl, rfl⟩
theorem claim_ (d : Nat) (lv pv fv : Value) (c : Int) (on : Bool) (k : Nat) (w : World) (h : Dm w d lv pv fv c on k) (hk : k ≤ 1000000) :
    Calls Tryz.prog 29 #[.pointer (some ⟨d, 0, none⟩)] w fun e w' => e = .returned (.int .i64 ((k + 1 : Nat) : Int)) ∧ Dm w' d lv pv fv c on ((k + 1 : Nat) : Int) ∧ w.grownBy w' (some d) := by
  have m := h.c5
  have f := h.fz 5
  have M := h.s5 ((k : Int) + 1)
  have m' := M.c5
  have HM := hid M
  have HG := hid (grown_set (grown_refl w (some d)) 5 (.int .i64 ((k : Int) + 1)))
  clear h M
  go_enter Tryz.func29, Tryz.ntmps29
  go_wp2_with fail
  go_ret
  exact ⟨by simp, by simpa using HM.out, HG.out⟩
/-- A sector of the lasting bytes. -/
theorem sector_ (d gl N i : Nat) (pv fv : Value) (c : Int) (on : Bool) (k : Int) (w : World) (h : Dm w d (.slice (some ⟨gl, 0, none⟩) (512 * N) (512 * N)) pv fv c on k) (hN : N ≤ 8192) (hi : i < N) :
    Calls Tryz.prog 74 #[.pointer (some ⟨d, 0, none⟩), .int .i64 i] w fun e w' => e = .returned (.slice (some ⟨gl, i * 512, none⟩) 512 (512 * N - i * 512)) ∧ w' = w := by
  have m0 := h.c0
  have hb : (512 * N : Nat) ≤ 4194304 := by omega
  have h1 : (i : Int) * 512 ≤ 4194304 := by omega
  have h2 : ((i : Int) + 1) * 512 ≤ ((512 * N : Nat) : Int) := by omega
  have h3 : (i : Int) * 512 ≤ ((i : Int) + 1) * 512 := by omega
  clear h
  go_enter Tryz.func74, Tryz.ntmps74
  go_wp2_with fail
  go_ret
  exact ⟨by rw [show (i + 1) * 512 - i * 512 = 512 from by omega]; rfl, rfl⟩
end Go.Proofs.YtblcpdffiafgnaaGreatDoor
namespace Go.Proofs.YtblcpdffiafgnaaGreatDoor
open Go.RowKit Go.Shelf
set_option linter.unusedVariables false
set_option maxRecDepth 100000

/-- cmp.Compare. -/
def cmpI (x y : Int) : Int := if x < y then -1 else if y < x then 1 else 0
theorem isNaN_ (x : Int) (w : World) : Calls Tryz.prog 65 #[.int .i64 x] w fun e w' => e = .returned (.bool false) ∧ w' = w := by
  have h : (x != x) = false := by simp
  go_enter Tryz.func65, Tryz.ntmps65
  go_wp2_with fail
  go_ret
  exact ⟨rfl, rfl⟩
set_option maxHeartbeats 400000 in
theorem compare_ (x y : Int) (w : World) : Calls Tryz.prog 42 #[.int .i64 x, .int .i64 y] w fun e w' => e = .returned (.int .i64 (cmpI x y)) ∧ w' = w := by
  unfold cmpI
  by_cases h1 : x < y
  · rw [if_pos h1]
    go_enter Tryz.func42, Tryz.ntmps42
    go_wp2_with (go_at_call 65; refine (isNaN_ _ _).mono ?_; rintro e w' ⟨rfl, rfl⟩)
    go_ret
    exact ⟨rfl, rfl⟩
  · rw [if_neg h1]
    by_cases h2 : y < x
    · rw [if_pos h2]
      go_enter Tryz.func42, Tryz.ntmps42
      go_wp2_with (go_at_call 65; refine (isNaN_ _ _).mono ?_; rintro e w' ⟨rfl, rfl⟩)
      go_ret
      exact ⟨rfl, rfl⟩
    · rw [if_neg h2]
      go_enter Tryz.func42, Tryz.ntmps42
      go_wp2_with (go_at_call 65; refine (isNaN_ _ _).mono ?_; rintro e w' ⟨rfl, rfl⟩)
      go_ret
      exact ⟨rfl, rfl⟩
set_option maxHeartbeats 400000 in
theorem cmpT_ (A K x : Int) (w : World) : Calls Tryz.prog 68 #[.agg #[.int .i64 A, .int .i64 K], .int .i64 x] w fun e w' => e = .returned (.int .i64 (cmpI A x)) ∧ w' = w.alloc (.cells #[.int .i64 A, .int .i64 K] 50) := by
  obtain ⟨r, hr⟩ : ∃ r, cmpI A x = r := ⟨_, rfl⟩
  have kc := fun w => compare_ A x w
  rw [hr] at *
  clear hr
  go_enter Tryz.func68, Tryz.ntmps68
  go_wp2_with (go_at_call 42; refine (kc _).mono ?_; rintro e w' ⟨rfl, rfl⟩)
  go_ret
  exact ⟨rfl, rfl⟩
set_option maxHeartbeats 400000 in
theorem cmpA_ (A K A' K' : Int) (w : World) : Calls Tryz.prog 41 #[.agg #[.int .i64 A, .int .i64 K], .agg #[.int .i64 A', .int .i64 K']] w fun e w' => e = .returned (.int .i64 (cmpI A A')) ∧ w' = (w.alloc (.cells #[.int .i64 A, .int .i64 K] 50)).alloc (.cells #[.int .i64 A', .int .i64 K'] 50) := by
  obtain ⟨r, hr⟩ : ∃ r, cmpI A A' = r := ⟨_, rfl⟩
  have kc := fun w => compare_ A A' w
  rw [hr] at *
  clear hr
  go_enter Tryz.func41, Tryz.ntmps41
  go_wp2_with (go_at_call 42; refine (kc _).mono ?_; rintro e w' ⟨rfl, rfl⟩)
  go_ret
  exact ⟨rfl, rfl⟩
/-- A slice of faults. -/
def Fs (w : World) (a : Option Addr) (m : Nat) (fs : List (Int × Int)) : Prop :=
  fs.length = m ∧ (m = 0 ∨ ∃ b off, a = some ⟨b, off, none⟩ ∧ ∀ i, i < m → w.cell? ⟨b, off + i * 2, none⟩ = some (.int .i64 (fs.getD i (0, 0)).1) ∧ w.cell? ⟨b, off + i * 2 + 1, none⟩ = some (.int .i64 (fs.getD i (0, 0)).2))
theorem Fs.below {w w' : World} {a : Option Addr} {m : Nat} {fs : List (Int × Int)} (h : Fs w a m fs) (hb : Below w.heap.size w w') : Fs w' a m fs := by
  refine ⟨h.1, ?_⟩
  rcases h.2 with h0 | ⟨b, off, rfl, hc⟩
  · exact .inl h0
  · refine .inr ⟨b, off, rfl, fun i hi => ?_⟩
    have hlt := World.block_lt_of_cell? w _ (hc i hi).1
    exact ⟨(hb.cell (p := ⟨b, off + i * 2, none⟩) hlt).trans (hc i hi).1, (hb.cell (p := ⟨b, off + i * 2 + 1, none⟩) hlt).trans (hc i hi).2⟩
/-- In the order of At. -/
def srt (fs : List (Int × Int)) : Prop := fs.Pairwise (fun a b => a.1 < b.1)
theorem srt_lt {fs : List (Int × Int)} (h : srt fs) {i j : Nat} (hij : i < j) (hj : j < fs.length) : (fs.getD i (0, 0)).1 < (fs.getD j (0, 0)).1 := by
  have := List.pairwise_iff_getElem.1 h i j (by omega) hj hij
  simp [List.getD, hj, show i < fs.length from by omega]
  exact this
theorem srt_ne {fs : List (Int × Int)} (h : srt fs) : fs.Pairwise (fun a b => a.1 ≠ b.1) := List.Pairwise.imp (fun h => by omega) h
theorem lookF_at {fs : List (Int × Int)} (h : srt fs) {i : Nat} (hi : i < fs.length) : lookF fs (fs.getD i (0, 0)).1 = (fs.getD i (0, 0)).2 := by
  have : fs.getD i (0, 0) ∈ fs := by simp [List.getD, hi]
  exact lookF_some (srt_ne h) this
theorem lookF_off {fs : List (Int × Int)} {x : Int} (h : ∀ i, i < fs.length → (fs.getD i (0, 0)).1 ≠ x) : lookF fs x = 0 := by
  refine lookF_none (fun f hf => ?_)
  obtain ⟨i, hi, rfl⟩ := List.getElem_of_mem hf
  have := h i hi
  simpa [List.getD, hi] using this
/-- Where x stands, or would stand. -/
def Bsr (fs : List (Int × Int)) (x : Int) (i : Nat) (f : Bool) : Prop := i ≤ fs.length ∧ (f = true → i < fs.length ∧ (fs.getD i (0, 0)).1 = x) ∧ (f = false → ∀ j, j < fs.length → (fs.getD j (0, 0)).1 ≠ x)
set_option maxHeartbeats 1000000 in
theorem search_ (a : Option Addr) (m cp : Nat) (fs : List (Int × Int)) (x : Int) (w : World) (h : Fs w a m fs) (hs : srt fs) (hm : m ≤ 140737488355328) :
    Calls Tryz.prog 67 #[.slice a m cp, .int .i64 x, .func (.func 68) #[] #[]] w fun e w' => (∃ (i : Nat) (f : Bool), e = .returned (.tuple #[.int .i64 i, .bool f]) ∧ Bsr fs x i f) ∧ Below w.heap.size w w' := by
  have HF := hid h
  have HSR := hid hs
  have hl := h.1
  have eg : ∀ args w, (callFunc 68 args).run Tryz.prog w = .ok (.enter 68 args) w := enters_of Tryz.func68 (by kernel_rfl) rfl
  clear h hs
  go_enter Tryz.func67, Tryz.ntmps67
  go_wp2_with fail
  go_loopw [9, 10] (fun s9 s10 wr => ∃ lo hi : Nat, s9 = .int .i64 lo ∧ s10 = .int .i64 hi ∧ lo ≤ hi ∧ hi ≤ m ∧ Below w.heap.size w wr ∧ (∀ t, t < lo → (fs.getD t (0, 0)).1 < x) ∧ (∀ t, hi ≤ t → t < m → x ≤ (fs.getD t (0, 0)).1)) (fun s9 s10 _ => (intOf s10).toNat - (intOf s9).toNat)
  case atStart => exact ⟨0, m, rfl, rfl, Nat.zero_le _, Nat.le_refl _, Below.refl _ _, fun t ht => absurd ht (Nat.not_lt_zero _), fun t h1 h2 => by omega⟩
  case round =>
    obtain ⟨lo, hi, rfl, rfl, hlh, him, hbl, i1, i2⟩ := hrel
    have HI1 := hid i1
    have HI2 := hid i2
    clear i1 i2
    by_cases hlt : lo < hi
    · obtain ⟨b, off, rfl, hc⟩ : ∃ b off, a = some ⟨b, off, none⟩ ∧ ∀ i, i < m → w.cell? ⟨b, off + i * 2, none⟩ = some (.int .i64 (fs.getD i (0, 0)).1) ∧ w.cell? ⟨b, off + i * 2 + 1, none⟩ = some (.int .i64 (fs.getD i (0, 0)).2) := by
        rcases HF.out.2 with h0 | h
        · omega
        · exact h
      obtain ⟨q, HQ⟩ : ∃ q, Hid (q = (lo + hi) / 2) := ⟨_, rfl⟩
      have hq1 : lo ≤ q ∧ q < hi := by have := HQ.out; omega
      have c0 := (hbl.cell (p := ⟨b, off + q * 2, none⟩) (World.block_lt_of_cell? w _ (hc q (by omega)).1)).trans (hc q (by omega)).1
      have c1 := (hbl.cell (p := ⟨b, off + q * 2 + 1, none⟩) (World.block_lt_of_cell? w _ (hc q (by omega)).2)).trans (hc q (by omega)).2
      obtain ⟨A, HA⟩ : ∃ A, Hid ((fs.getD q (0, 0)).1 = A) := ⟨_, rfl⟩
      obtain ⟨K, HK⟩ : ∃ K, Hid ((fs.getD q (0, 0)).2 = K) := ⟨_, rfl⟩
      rw [HA.out] at c0
      rw [HK.out] at c1
      have hq2 : ((lo : Int) + hi) / 2 = (q : Int) := by have := HQ.out; omega
      have kc := fun w => cmpT_ A K x w
      obtain ⟨r, HR⟩ : ∃ r, Hid (cmpI A x = r) := ⟨_, rfl⟩
      simp only [HR.out] at kc
      clear hc
      by_cases hr : r < 0
      · go_wp2_with (go_at_call 68; refine (kc _).mono ?_; rintro e w' ⟨rfl, rfl⟩)
        refine ⟨⟨q + 1, hi, by go_num, rfl, by omega, him, hbl.alloc hbl.size _, fun t ht => ?_, HI2.out⟩, by simp [intOf]; omega⟩
        have hA : (fs.getD q (0, 0)).1 < x := by
          have h1 := HR.out
          rw [HA.out]
          unfold cmpI at h1
          split at h1
          · assumption
          · split at h1 <;> omega
        by_cases e : t = q
        · rw [e]; exact hA
        · have := srt_lt HSR.out (show t < q by omega) (by omega)
          omega
      · go_wp2_with (go_at_call 68; refine (kc _).mono ?_; rintro e w' ⟨rfl, rfl⟩)
        refine ⟨⟨lo, q, rfl, rfl, by omega, by omega, hbl.alloc hbl.size _, HI1.out, fun t h1 h2 => ?_⟩, by simp [intOf]; omega⟩
        have hA : x ≤ (fs.getD q (0, 0)).1 := by
          have h1 := HR.out
          rw [HA.out]
          unfold cmpI at h1
          split at h1
          · omega
          · omega
        by_cases e : t = q
        · rw [e]; exact hA
        · have := srt_lt HSR.out (show q < t by omega) (by omega)
          omega
    · obtain rfl : lo = hi := by omega
      by_cases hlm : lo < m
      · obtain ⟨b, off, rfl, hc⟩ : ∃ b off, a = some ⟨b, off, none⟩ ∧ ∀ i, i < m → w.cell? ⟨b, off + i * 2, none⟩ = some (.int .i64 (fs.getD i (0, 0)).1) ∧ w.cell? ⟨b, off + i * 2 + 1, none⟩ = some (.int .i64 (fs.getD i (0, 0)).2) := by
          rcases HF.out.2 with h0 | h
          · omega
          · exact h
        have c0 := (hbl.cell (p := ⟨b, off + lo * 2, none⟩) (World.block_lt_of_cell? w _ (hc lo (by omega)).1)).trans (hc lo (by omega)).1
        have c1 := (hbl.cell (p := ⟨b, off + lo * 2 + 1, none⟩) (World.block_lt_of_cell? w _ (hc lo (by omega)).2)).trans (hc lo (by omega)).2
        obtain ⟨A, HA⟩ : ∃ A, Hid ((fs.getD lo (0, 0)).1 = A) := ⟨_, rfl⟩
        obtain ⟨K, HK⟩ : ∃ K, Hid ((fs.getD lo (0, 0)).2 = K) := ⟨_, rfl⟩
        rw [HA.out] at c0
        rw [HK.out] at c1
        have kc := fun w => cmpT_ A K x w
        obtain ⟨r, HR⟩ : ∃ r, Hid (cmpI A x = r) := ⟨_, rfl⟩
        simp only [HR.out] at kc
        have HE : Hid (Bsr fs x lo (r == 0)) := by
          refine ⟨by omega, fun h => ⟨by omega, ?_⟩, fun h j hj e => ?_⟩
          · have h1 := HR.out
            have h2 : r = 0 := by simpa using h
            rw [HA.out]
            unfold cmpI at h1
            split at h1
            · omega
            · split at h1 <;> omega
          · have h1 := HR.out
            have h2 : r ≠ 0 := by simpa using h
            have hA : A ≠ x := fun e => by
              unfold cmpI at h1
              rw [if_neg (by omega), if_neg (by omega)] at h1
              exact h2 h1.symm
            rw [← HA.out] at hA
            rcases Nat.lt_trichotomy j lo with h3 | rfl | h3
            · have := HI1.out j h3; omega
            · exact hA e
            · have := srt_lt HSR.out h3 (by omega)
              have := HI2.out lo (Nat.le_refl _) hlm
              omega
        clear hc
        have hI : (lo : Int) < (m : Int) := by omega
        go_wp2_with (go_at_call 68; refine (kc _).mono ?_; rintro e w' ⟨rfl, rfl⟩)
        go_ret2
        exact ⟨⟨lo, _, rfl, HE.out⟩, hbl.alloc hbl.size _⟩
      · have HE : Hid (Bsr fs x lo false) := by
          refine ⟨by omega, fun h => ?_, fun _ j hj => ?_⟩
          · simp at h
          · have := HI1.out j (by omega)
            omega
        have hI : ¬ (lo : Int) < (m : Int) := by omega
        go_wp2_with fail
        go_ret2
        exact ⟨⟨lo, .inl ⟨rfl, HE.out⟩⟩, hbl⟩
set_option maxHeartbeats 1000000 in
/-- What the number x meets. -/
theorem meets_ (go : Nat) (a : Option Addr) (m cp : Nat) (fs : List (Int × Int)) (x : Int) (w : World) (hg : w.heap[go]? = some (.cells #[.slice a m cp] 28 (0, 0))) (h : Fs w a m fs) (hs : srt fs) (hm : m ≤ 140737488355328) :
    Calls Tryz.prog 66 #[.int .i64 x, .pointer (some ⟨go, 0, none⟩)] w fun e w' => e = .returned (.int .i64 (lookF fs x)) ∧ Below w.heap.size w w' := by
  have hgl := (Array.getElem?_eq_some_iff.1 hg).1
  have c0 : w.cell? ⟨go, 0, none⟩ = some (.slice a m cp) := (cell_of_row _ _ 0 _ _ (0, 0) hg).trans rfl
  have HF := hid h
  have hl := h.1
  have ks := search_ a m cp fs x w h hs hm
  have HSR := hid hs
  obtain ⟨R, HR0⟩ : ∃ R, Hid (lookF fs x = R) := ⟨_, rfl⟩
  rw [HR0.out]
  clear h hs hg
  go_enter Tryz.func66, Tryz.ntmps66
  go_wp2_with fail
  refine ks.mono ?_
  rintro e w1 ⟨⟨i, f, rfl, hB⟩, g1⟩
  have c1 := (g1.cell (p := ⟨go, 0, none⟩) hgl).trans c0
  clear c0 hgl ks
  cases f with
  | false =>
    have HR : Hid (lookF fs x = 0) := lookF_off (hB.2.2 rfl)
    go_wp2_with fail
    go_ret
    exact ⟨by rw [← HR0.out, HR.out]; rfl, g1⟩
  | true =>
    obtain ⟨h1, h2⟩ := hB.2.1 rfl
    have HR : Hid (lookF fs x = (fs.getD i (0, 0)).2) := by
      show _ = _
      rw [← h2]
      exact lookF_at HSR.out h1
    obtain ⟨b, off, rfl, hc⟩ : ∃ b off, a = some ⟨b, off, none⟩ ∧ ∀ i, i < m → w.cell? ⟨b, off + i * 2, none⟩ = some (.int .i64 (fs.getD i (0, 0)).1) ∧ w.cell? ⟨b, off + i * 2 + 1, none⟩ = some (.int .i64 (fs.getD i (0, 0)).2) := by
      rcases HF.out.2 with h0 | h
      · omega
      · exact h
    have e1 := (g1.cell (p := ⟨b, off + i * 2 + 1, none⟩) (World.block_lt_of_cell? w _ (hc i (by omega)).2)).trans (hc i (by omega)).2
    have hil : (i : Int) < (m : Int) := by omega
    obtain ⟨K, HK⟩ : ∃ K, Hid ((fs.getD i (0, 0)).2 = K) := ⟨_, rfl⟩
    rw [HK.out] at e1
    have HRK : Hid (R = K) := by rw [← HR0.out, HR.out, HK.out]; exact rfl
    clear hc h2 hB HR
    go_wp2_with fail
    go_ret
    exact ⟨by rw [HRK.out]; rfl, g1⟩
end Go.Proofs.YtblcpdffiafgnaaGreatDoor
namespace Go.Proofs.YtblcpdffiafgnaaGreatDoor
open Go.RowKit Go.Shelf
set_option linter.unusedVariables false
set_option maxRecDepth 100000

/-- The function over the list at go says F. -/
structure Ft (w : World) (go : Nat) (F : Int → Int) (a : Option Addr) (m cp : Nat) (fs : List (Int × Int)) : Prop where
  bx : w.heap[go]? = some (.cells #[.slice a m cp] 28 (0, 0))
  rw : ∀ ad, a = some ad → ∃ cur, w.heap[ad.block]? = some (.cells cur 50 (0, 0))
  hfs : Fs w a m fs
  hsr : srt fs
  hm : m ≤ 140737488355328
  hF : F = lookF fs
section
variable {w w' : World} {go : Nat} {F : Int → Int} {a : Option Addr} {m cp : Nat} {fs : List (Int × Int)}
theorem Fs.at (h : Fs w a m fs) (e : ∀ ad, a = some ad → w'.heap[ad.block]? = w.heap[ad.block]?) : Fs w' a m fs := by
  refine ⟨h.1, ?_⟩
  rcases h.2 with h0 | ⟨b, off, rfl, hc⟩
  · exact .inl h0
  · refine .inr ⟨b, off, rfl, fun i hi => ?_⟩
    have := e _ rfl
    exact ⟨(World.cell?_of_block (w := w) (a := ⟨b, off + i * 2, none⟩) this).trans (hc i hi).1, (World.cell?_of_block (w := w) (a := ⟨b, off + i * 2 + 1, none⟩) this).trans (hc i hi).2⟩
theorem Ft.at (h : Ft w go F a m cp fs) (e1 : w'.heap[go]? = w.heap[go]?) (e2 : ∀ ad, a = some ad → w'.heap[ad.block]? = w.heap[ad.block]?) : Ft w' go F a m cp fs :=
  ⟨e1.trans h.bx, fun ad ha => by obtain ⟨cur, hc⟩ := h.rw ad ha; exact ⟨cur, (e2 ad ha).trans hc⟩, h.hfs.at e2, h.hsr, h.hm, h.hF⟩
theorem Ft.grown {d : Nat} {lv pv fv : Value} {c : Int} {on : Bool} {k : Int} (h : Ft w go F a m cp fs) (hd : Dm w d lv pv fv c on k) (hg : w.grownBy w' (some d)) : Ft w' go F a m cp fs := by
  refine h.at (hg.block _ (Array.getElem?_eq_some_iff.1 h.bx).1 (fun e => ?_)) (fun ad ha => ?_)
  · have h1 := h.bx
    rw [Option.some.inj e] at h1
    unfold Dm at hd
    rw [hd] at h1
    simp at h1
  · obtain ⟨cur, hc⟩ := h.rw ad ha
    refine hg.block _ (Array.getElem?_eq_some_iff.1 hc).1 (fun e => ?_)
    rw [Option.some.inj e] at hc
    unfold Dm at hd
    rw [hd] at hc
    simp at hc
end
set_option maxHeartbeats 1000000 in
theorem operate_ (d : Nat) (lv pv : Value) (go c : Nat) (on : Bool) (k : Int) (F : Int → Int) (a : Option Addr) (m cp : Nat) (fs : List (Int × Int)) (w : World) (h : Dm w d lv pv (fnv go) c on k) (hf : Ft w go F a m cp fs) (hc : c ≤ 1000000) :
    Calls Tryz.prog 82 #[.pointer (some ⟨d, 0, none⟩)] w fun e w' => e = .returned (.int .i64 (if on then (if F ((c : Int) + 1) = 1 then 104 else if F ((c : Int) + 1) = 2 then 103 else 0) else 104)) ∧ Dm w' d lv pv (fnv go) (if on then (c : Int) + 1 else c) (on && decide (F ((c : Int) + 1) ≠ 1)) k ∧ w.grownBy w' (some d) := by
  cases on with
  | false =>
    have m4 := h.c4
    have H := hid h
    clear h hf
    simp only [Bool.false_and]
    go_enter Tryz.func82, Tryz.ntmps82
    go_wp2_with fail
    go_ret
    exact ⟨rfl, H.out, grown_refl _ _⟩
  | true =>
    have m4 := h.c4
    have m3 := h.c3
    have f3 := h.fz 3
    have M1 := h.s3 ((c : Int) + 1)
    have G1 := grown_set (grown_refl w (some d)) 3 (.int .i64 ((c : Int) + 1))
    have FT := hf.grown h G1
    have n3 := M1.c3
    have n2 := M1.c2
    unfold fnv at n2
    have hlt := M1.lt
    have HM := hid M1
    have HG := hid G1
    have HFT := hid FT
    have ho : w.heap.size = (w.setCell ⟨d, 3, none⟩ (.int .i64 ((c : Int) + 1))).heap.size := by simp [World.setCell]
    obtain ⟨R, HR⟩ : ∃ R, Hid (F ((c : Int) + 1) = R) := ⟨_, rfl⟩
    simp only [Bool.true_and, if_true]
    rw [HR.out]
    have kM : ∀ wx : World, wx.heap = (w.setCell ⟨d, 3, none⟩ (.int .i64 ((c : Int) + 1))).heap → Calls Tryz.prog 66 #[.int .i64 ((c : Int) + 1), .pointer (some ⟨go, 0, none⟩)] wx fun e w' => e = .returned (.int .i64 R) ∧ Below wx.heap.size wx w' := fun wx hw => by
      have FX := HFT.out.at (w' := wx) (congrArg (fun z => z[go]?) hw) (fun ad _ => congrArg (fun z => z[ad.block]?) hw)
      have := meets_ go a m cp fs ((c : Int) + 1) wx FX.bx FX.hfs FX.hsr FX.hm
      rw [← FX.hF, HR.out] at this
      exact this
    obtain ⟨E, HE0⟩ : ∃ E, Hid ((if R = 1 then (104 : Int) else if R = 2 then 103 else 0) = E) := ⟨_, rfl⟩
    obtain ⟨D, HD0⟩ : ∃ D, Hid (decide (R ≠ 1) = D) := ⟨_, rfl⟩
    rw [HE0.out, HD0.out]
    clear h hf FT M1 G1 ho
    go_enter Tryz.func82, Tryz.ntmps82
    go_wp2_with fail
    go_region_held (fun wx => wx.cell? ⟨d, 2, none⟩ = some (.func (.func 66) #[] #[.pointer (some ⟨go, 0, none⟩)]) ∧ wx.cell? ⟨d, 3, none⟩ = some (.int .i64 ((c : Int) + 1))) (go_keep) (first | (go_at_call 66; refine (kM _ (by rfl)).mono ?_; rintro e w2 ⟨rfl, g2⟩; have u2 := (g2.cell (p := ⟨d, 2, none⟩) hlt).trans n2; have u3 := (g2.cell (p := ⟨d, 3, none⟩) hlt).trans n3))
    have hsz : w.heap.size ≤ w2.heap.size := Nat.le_trans HG.out.size g2.size
    have M2 := HM.out.at (g2.block d HM.out.lt)
    have G2 : w.grownBy w2 (some d) := ⟨g2.os.trans HG.out.os, g2.tape.trans HG.out.tape, g2.output.trans HG.out.output, hsz, fun b hb hn => (g2.block b (Nat.lt_of_lt_of_le hb HG.out.size)).trans (HG.out.block b hb hn)⟩
    clear g2 u2 u3 n2 n3 kM m3 m4 f3 hlt HM HG HFT
    by_cases h1 : R = 1
    · have e1 : (R == 1) = true := by simpa using h1
      have v4 := M2.c4
      have f4 := M2.fz 4
      have HM := hid (M2.s4 false)
      have HG := hid (grown_set G2 4 (.bool false))
      have HE : Hid ((if R = 1 then (104 : Int) else if R = 2 then 103 else 0) = 104) := if_pos h1
      have HD : Hid (decide (R ≠ 1) = false) := by show _ = _; simp [h1]
      clear h1 M2 G2
      go_wp2_with fail
      go_ret
      exact ⟨by rw [← HE0.out, HE.out]; rfl, by rw [← HD0.out, HD.out]; exact HM.out, HG.out⟩
    · have e1 : (R == 1) = false := by simpa using h1
      have HD : Hid (decide (R ≠ 1) = true) := by show _ = _; simp [h1]
      have HM := hid M2
      have HG := hid G2
      by_cases h2 : R = 2
      · have e2 : (R == 2) = true := by simpa using h2
        have HE : Hid ((if R = 1 then (104 : Int) else if R = 2 then 103 else 0) = 103) := by show _ = _; rw [if_neg h1, if_pos h2]
        clear h1 h2 M2 G2
        go_wp2_with fail
        go_ret
        exact ⟨by rw [← HE0.out, HE.out]; rfl, by rw [← HD0.out, HD.out]; exact HM.out, HG.out⟩
      · have e2 : (R == 2) = false := by simpa using h2
        have HE : Hid ((if R = 1 then (104 : Int) else if R = 2 then 103 else 0) = 0) := by show _ = _; rw [if_neg h1, if_neg h2]
        clear h1 h2 M2 G2
        go_wp2_with fail
        go_ret
        exact ⟨by rw [← HE0.out, HE.out]; rfl, by rw [← HD0.out, HD.out]; exact HM.out, HG.out⟩
end Go.Proofs.YtblcpdffiafgnaaGreatDoor
namespace Go.Proofs.YtblcpdffiafgnaaGreatDoor
open Go.RowKit Go.Shelf
set_option linter.unusedVariables false
set_option maxRecDepth 100000

/-- What lasts. -/
def Ls (w : World) (gl n : Nat) (S : Nat → List Int) : Prop := w.heap[gl]? = some (.cells (cells (flat S n)).toArray 5 (0, 0)) ∧ ∀ i, i < n → Sc5 (S i)
theorem Ls.lt {w : World} {gl n : Nat} {S : Nat → List Int} (h : Ls w gl n S) : gl < w.heap.size := (Array.getElem?_eq_some_iff.1 h.1).1
theorem Ls.at {w w' : World} {gl n : Nat} {S : Nat → List Int} (h : Ls w gl n S) (e : w'.heap[gl]? = w.heap[gl]?) : Ls w' gl n S := ⟨e.trans h.1, h.2⟩
theorem Ls.len {w : World} {gl n : Nat} {S : Nat → List Int} (h : Ls w gl n S) : (flat S n).length = 512 * n := flat_length n (fun i hi => (h.2 i hi).1)
theorem Ls.all {w : World} {gl n : Nat} {S : Nat → List Int} (h : Ls w gl n S) : Bs w (some ⟨gl, 0, none⟩) (512 * n) (flat S n) := Bs.ofCells h.1 h.len (flat_byte n h.2)
theorem Ls.sec {w : World} {gl n : Nat} {S : Nat → List Int} (h : Ls w gl n S) {i : Nat} (hi : i < n) : Bs w (some ⟨gl, i * 512, none⟩) 512 (S i) := by
  refine ⟨(h.2 i hi).1, (h.2 i hi).2, .inr ⟨gl, i * 512, rfl, fun j hj => ?_⟩⟩
  rw [cell_of_row w gl _ _ 5 (0, 0) h.1]
  have hl := h.len
  have := cells_get (flat S n) (i * 512 + j) (by omega)
  rw [show i * 512 + j = 512 * i + j from by omega, flat_get n (fun i hi => (h.2 i hi).1) i hi j hj] at this
  rw [show i * 512 + j = 512 * i + j from by omega]
  simpa using this
theorem splice_flat {S : Nat → List Int} {z : List Int} (hz : z.length = 512) : ∀ n, (∀ i, i < n → (S i).length = 512) → ∀ i, i < n → splice (flat S n) (i * 512) z = flat (lay1 S (i, z)) n
  | 0, _ => by omega
  | n + 1, h => by
    intro i hi
    have hl := flat_length n (fun i hi => h i (by omega))
    have hn := h n (by omega)
    by_cases e : i = n
    · subst e
      rw [flat, flat, flat_congr i (S := lay1 S (i, z)) (R := S) (fun j hj => by unfold lay1; rw [if_neg (by show j ≠ i; omega)])]
      unfold splice
      rw [List.take_left' (by omega), List.drop_of_length_le (by rw [List.length_append]; omega), List.append_nil]
      congr 1
      unfold lay1
      rw [if_pos rfl]
    · have ih := splice_flat hz n (fun i hi => h i (by omega)) i (by omega)
      rw [flat, flat, ← ih]
      unfold splice
      rw [List.take_append_of_le_length (by omega), List.drop_append_of_le_length (by omega)]
      have : lay1 S (i, z) n = S n := by unfold lay1; rw [if_neg (by show n ≠ i; omega)]
      rw [this, List.append_assoc, List.append_assoc]
theorem cells_spliceD (xs zs : List Int) (off : Nat) : splice (cells xs) off (cells zs) = cells (splice xs off zs) := by
  unfold splice cells
  simp [List.map_take, List.map_drop]
theorem Sc5.lay {S : Nat → List Int} {n i : Nat} {z : List Int} (h : ∀ i, i < n → Sc5 (S i)) (hz : Sc5 z) : ∀ j, j < n → Sc5 (lay1 S (i, z) j) := fun j hj => by
  unfold lay1
  split
  · exact hz
  · exact h j hj
theorem size1 : (Tryz.prog.info? 5).map (·.size) = some 1 := by kernel_rfl
theorem step_cp10 {ops : Array Oper} {o : Oper} {a : Act} {w : World} {K : Act → World → Prop} {Q : Exit → Act → World → Prop} {E : Prop} (hgd : o.guard = none) (d s : Operand)
    (ho : o.op = .call { callee := .builtin .copy, args := #[d, s], argTypes := #[27, 27] }) (gl n i dc g sc : Nat) (S : Nat → List Int) (z : List Int)
    (hd : a.eval d = .slice (some ⟨gl, i * 512, none⟩) 512 dc) (hs : a.eval s = .slice (some ⟨g, 0, none⟩) 512 sc) (hL : Ls w gl n S) (hi : i < n) (hz : Bs w (some ⟨g, 0, none⟩) 512 z)
    (h : ∀ w', Hid (Ls w' gl n (lay1 S (i, z))) → Hid (w.grownBy w' (some gl)) → K (a.put o.dst (goInt 512)) w') :
    if Region.wanted o (yielded ops a.tmps) = true then Oper.wp Tryz.prog o a w K Q else E := by
  have hw : Region.wanted o (yielded ops a.tmps) = true := by simp [Region.wanted, hgd]
  rw [if_pos hw]
  have hzl : (cells z).length = 512 := by rw [cells_length, hz.1]
  have hl := hL.len
  have hrun := run_copy_row (P := Tryz.prog) w 27 27 o.type 5 gl (i * 512) 512 dc ⟨g, 0, none⟩ 512 sc (cells (flat S n)).toArray 5 (cells z) Tryz.underlying27 size1 hL.1 (by rw [hzl]; rfl) (hz.src1 (grown_of_below (Below.refl _ _))) (by rw [hzl]; simp [cells_length, hl]; omega) (cells_one z)
  unfold Oper.wp
  rw [hzl] at hrun
  simp only [execOp, ho, resolve, invoke, builtin, hd, hs, Sem.run_bind, Sem.run_pure, Result.andThen_ok, List.map_toArray, List.map_cons, List.map_nil, hrun]
  refine h _ ?_ ?_
  · refine ⟨?_, Sc5.lay hL.2 ⟨hz.1, hz.2.1⟩⟩
    rw [setRow_heap w gl _ _ 5 _ hL.1]
    have e : (cells (flat S n)).take (i * 512) ++ cells z ++ (cells (flat S n)).drop (i * 512 + 512) = cells (flat (lay1 S (i, z)) n) := by
      rw [← splice_flat hz.1 n (fun i hi => (hL.2 i hi).1) i hi, ← cells_spliceD]
      unfold splice
      rw [hzl, List.append_assoc]
    rw [e]
  · exact ⟨rfl, rfl, rfl, by simp [World.setRow], fun b hb hn => setRow_other w gl b _ (fun e => hn (by rw [e]))⟩
theorem Bs.at {w w' : World} {g n : Nat} {zs : List Int} (h : Bs w (some ⟨g, 0, none⟩) n zs) (e : w'.heap[g]? = w.heap[g]?) : Bs w' (some ⟨g, 0, none⟩) n zs := by
  refine ⟨h.1, h.2.1, ?_⟩
  rcases h.2.2 with h0 | ⟨b, off, e', hc⟩
  · exact .inl h0
  · simp at e'
    obtain ⟨rfl, rfl⟩ := e'
    exact .inr ⟨g, 0, rfl, fun i hi => (World.cell?_of_block (w := w) (a := ⟨g, 0 + i, none⟩) e).trans (hc i hi)⟩
set_option maxHeartbeats 1000000 in
theorem lay_ (d gl n i g sc : Nat) (S : Nat → List Int) (z : List Int) (pv fv : Value) (c : Int) (on : Bool) (k : Int) (w : World) (h : Dm w d (.slice (some ⟨gl, 0, none⟩) (512 * n) (512 * n)) pv fv c on k) (hn : n ≤ 8192) (hi : i < n) (hL : Ls w gl n S) (hz : Bs w (some ⟨g, 0, none⟩) 512 z) :
    Calls Tryz.prog 54 #[.pointer (some ⟨d, 0, none⟩), .agg #[.int .i64 i, .slice (some ⟨g, 0, none⟩) 512 sc]] w fun e w' => e = .returned (.tuple #[]) ∧ Ls w' gl n (lay1 S (i, z)) ∧ w.grownBy w' (some gl) := by
  have B1 := (Below.refl w.heap.size w).alloc (Nat.le_refl _) (.cells #[.int .i64 i, .slice (some ⟨g, 0, none⟩) 512 sc] 95)
  have kS := fun wx hw => sector_ d gl n i pv fv c on k wx (h.at hw) hn hi
  have HL := hid (hL.at (B1.block gl hL.lt))
  have HZ := hid (hz.below B1)
  have hlt := h.lt
  have HD : Hid ((w.alloc (.cells #[.int .i64 i, .slice (some ⟨g, 0, none⟩) 512 sc] 95)).heap[d]? = w.heap[d]?) := B1.block d hlt
  have HB := hid B1
  clear B1 h hL hz hlt
  go_enter Tryz.func54, Tryz.ntmps54
  go_wp2_with fail
  go_region_law (first
    | (go_simp; go_at_call 74; refine (kS _ (by exact HD.out)).mono ?_; rintro e w' ⟨rfl, hw⟩; obtain rfl := hw.symm; clear hw)
    | (refine step_cp10 rfl (.tmp 7) (.tmp 9) rfl gl n i (512 * n - i * 512) g sc S z rfl rfl (by exact HL.out) hi (by exact HZ.out) ?_; intro w3 L3 G3))
  all_goals
    have G4 : w.grownBy w3 (some gl) := ⟨G3.out.os.trans HB.out.os, G3.out.tape.trans HB.out.tape, G3.out.output.trans HB.out.output, Nat.le_trans HB.out.size G3.out.size, fun b hb hn => (G3.out.block b (Nat.lt_of_lt_of_le hb HB.out.size) hn).trans (HB.out.block b hb)⟩
    have L4 := L3.out
    clear G3 HB HD HZ HL L3 kS
    go_wp2_with fail
    go_end0
    exact ⟨rfl, L4, G4⟩
end Go.Proofs.YtblcpdffiafgnaaGreatDoor
