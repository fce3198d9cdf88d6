import Derived.Test.YtmgoabedickooaaGreatDoorPTxt
import Derived.Laws.IdiomStrings
namespace Go.Proofs.YtmgoabedickooaaGreatDoor
set_option maxRecDepth 100000
open Go.RowKit
set_option linter.unusedVariables false

/-! The library: numbers written to the base 16. -/
def hg (x : Nat) : Nat := if x < 10 then 48 + x else 87 + x
def rw8 (n : Nat) (f : Nat → Nat) : Array Value := ((List.range n).map fun i => Value.int .u8 (f i : Nat)).toArray
theorem rw8_size (n : Nat) (f : Nat → Nat) : (rw8 n f).size = n := by simp [rw8]
theorem rw8_get (n : Nat) (f : Nat → Nat) (i : Nat) (h : i < n) : (rw8 n f)[i]? = some (.int .u8 (f i : Nat)) := by simp [rw8, h]
theorem rw8_set (n : Nat) (f : Nat → Nat) (i x : Nat) : (rw8 n f).setIfInBounds i (.int .u8 (x : Nat)) = rw8 n fun j => if j = i then x else f j := by
  apply Array.ext_getElem?
  intro j
  rw [Array.getElem?_setIfInBounds, rw8_size]
  by_cases hj : j < n
  · rw [rw8_get _ _ j hj, rw8_get _ _ j hj]
    by_cases h : i = j
    · subst h; simp [hj]
    · rw [if_neg h, if_neg (fun e => h e.symm)]
  · have e1 : ∀ f, (rw8 n f)[j]? = none := fun f => Array.getElem?_eq_none (by rw [rw8_size]; omega)
    rw [e1, e1]
    split
    · rw [if_neg (by omega)]
    · rfl
/-- A row of bytes in a variable. -/
def Rw (w : World) (g : Nat) (t : TypeId) (n : Nat) (f : Nat → Nat) : Prop := w.heap[g]? = some (.cells (rw8 n f) t (0, 0))
theorem Rw.lt {w : World} {g t n : Nat} {f : Nat → Nat} (h : Rw w g t n f) : g < w.heap.size := (Array.getElem?_eq_some_iff.1 h).1
theorem Rw.fz {w : World} {g t n : Nat} {f : Nat → Nat} (h : Rw w g t n f) (i : Nat) : w.frozen? ⟨g, i, none⟩ = false := by unfold Rw at h; simp [World.frozen?, h]
theorem Rw.byte {w : World} {g t n : Nat} {f : Nat → Nat} (h : Rw w g t n f) (i : Nat) (hi : i < n) : w.cell? ⟨g, i, none⟩ = some (.int .u8 (f i : Nat)) := (cell_of_row w g i _ t (0, 0) h).trans (rw8_get n f i hi)
theorem Rw.set {w : World} {g t n : Nat} {f : Nat → Nat} (h : Rw w g t n f) (i x : Nat) : Rw (w.setCell ⟨g, i, none⟩ (.int .u8 (x : Nat))) g t n fun j => if j = i then x else f j := by
  unfold Rw at *; rw [← rw8_set]; simp [World.setCell, Array.getElem?_modify, h]
theorem Rw.new (w : World) (t n : Nat) (f : Nat → Nat) : Rw (w.alloc (.cells (rw8 n f) t)) w.heap.size t n f := heap_alloc_new w _
/-- The k lowest digits of x to the base 16, the highest first. -/
def hk (x : Nat) : Nat → List Nat
  | 0 => []
  | k + 1 => hk (x / 16) k ++ [hg (x % 16)]
theorem hk_length (k : Nat) : ∀ x, (hk x k).length = k := by
  induction k with
  | zero => intro x; rfl
  | succ k ih => intro x; rw [hk, List.length_append, ih]; rfl
def hc (x : Nat) : Nat := if x < 16 then 1 else if x < 256 then 2 else if x < 4096 then 3 else 4
/-- x to the base 16. -/
def h16 (x : Nat) : List Nat := hk x (hc x)
theorem zero65 : Tryz.zeroCells254 = rw8 65 (fun _ => 0) := by kernel_rfl
theorem pow2_ (w : World) : Calls Tryz.prog 220 #[.int .i64 16] w fun e w' => e = .returned (.bool true) ∧ w' = w := by
  have h : bits BinOp.and .i64 16 15 = 0 := by decide
  go_enter Tryz.func220, Tryz.ntmps220
  go_wp2_with fail
  go_ret
  exact ⟨rfl, rfl⟩
theorem gBru : Tryz.prog.globalNamed "math/bits.deBruijn64tab" = some 5 := by kernel_rfl
theorem tz64_ (w : World) (hT : Tb w) : Calls Tryz.prog 227 #[.int .u64 16] w fun e w' => e = .returned (.int .i64 4) ∧ w' = w := by
  obtain ⟨cs, h1, h2⟩ := hT.bru
  have hc : w.cell? ⟨5, 15, none⟩ = some (.int .u8 4) := by
    have := World.var?_cell gBru h1 15
    rw [h2] at this
    exact this
  clear h1 h2 hT
  have e1 : IntKind.u64.wrap (-16) = 18446744073709551600 := by rw [IntKind.wrap_u64]; decide
  have e2 : bits BinOp.and .u64 16 18446744073709551600 = 16 := by decide
  have e3 : IntKind.u64.wrap 4573923408821661840 = 4573923408821661840 := by rw [IntKind.wrap_u64]; decide
  go_enter Tryz.func227, Tryz.ntmps227
  go_wp2_with fail
  go_ret
  exact ⟨rfl, rfl⟩
theorem tz_ (w : World) (hT : Tb w) : Calls Tryz.prog 221 #[.int .u64 16] w fun e w' => e = .returned (.int .i64 4) ∧ w' = w := by
  have k := tz64_ w hT
  go_enter Tryz.func221, Tryz.ntmps221
  go_wp2_with (go_at_call 227; refine k.mono ?_; rintro e w' ⟨rfl, rfl⟩)
  go_ret
  exact ⟨rfl, rfl⟩
theorem hk_get (k : Nat) : ∀ x i, i < k → (hk x k).getD i 0 = hg (x / 16 ^ (k - 1 - i) % 16) := by
  induction k with
  | zero => intro x i h; omega
  | succ k ih =>
    intro x i h
    rw [hk]
    by_cases e : i < k
    · have e1 : (hk (x / 16) k ++ [hg (x % 16)]).getD i 0 = (hk (x / 16) k).getD i 0 := by
        simp only [List.getD]
        rw [List.getElem?_append_left (by rw [hk_length]; exact e)]
      rw [e1, ih (x / 16) i e, Nat.div_div_eq_div_mul]
      have : 16 * 16 ^ (k - 1 - i) = 16 ^ (k + 1 - 1 - i) := by
        rw [Nat.mul_comm, ← Nat.pow_succ]
        congr 1
        omega
      rw [this]
    · obtain rfl : i = k := by omega
      simp only [List.getD]
      rw [List.getElem?_append_right (by rw [hk_length]; exact Nat.le_refl _), hk_length]
      simp
theorem hg_lt (y : Nat) (h : y < 16) : hg y < 256 := by unfold hg; split <;> omega
theorem hk_lt (k : Nat) : ∀ x, ∀ z ∈ hk x k, z < 256 := by
  induction k with
  | zero => intro x z hz; simp [hk] at hz
  | succ k ih =>
    intro x z hz
    rw [hk] at hz
    rcases List.mem_append.1 hz with h | h
    · exact ih _ z h
    · simp at h
      rw [h]
      exact hg_lt _ (by omega)
def d36 : ByteArray := ⟨#[48, 49, 50, 51, 52, 53, 54, 55, 56, 57, 97, 98, 99, 100, 101, 102, 103, 104, 105, 106, 107, 108, 109, 110, 111, 112, 113, 114, 115, 116, 117, 118, 119, 120, 121, 122]⟩
theorem dig36 (y : Nat) (hy : y < 16) (h : y < d36.size) : (d36[y]'h).toNat = hg y := by
  have e : ∀ y : Nat, (hy : y < 16) → ((d36)[y]'(Nat.lt_of_lt_of_le hy (by decide))).toNat = hg y := by decide
  exact e y hy
theorem and15 (U : Nat) (h : U < 65536) : bits BinOp.and .u64 (U : Int) 15 = ((U % 16 : Nat) : Int) := by
  have e := bits_and_u64_nat U 15 (by omega) (by omega)
  have e2 : U &&& 15 = U % 16 := Nat.and_two_pow_sub_one_eq_mod U 4
  rw [e2] at e
  exact e
/-- A text out of a row's end. -/
theorem run_text16 (w : World) (g t k cap tt : Nat) (f : Nat → Nat) (l : List Nat) (hr : Rw w g tt 65 f) (hk : l.length = k) (ht : t + k = 65) (hy : ∀ x ∈ l, x < 256) (hf : ∀ i, i < k → f (t + i) = l.getD i 0) : (convert 44 9 (.slice (some ⟨g, t, none⟩) k cap)).run Tryz.prog w = .ok (.string (sb l)) w := by
  have := run_convert_bytes_back (P := Tryz.prog) w 44 9 5 ⟨g, t, none⟩ cap (l.map UInt8.ofNat) Tryz.underlying44 (by kernel_rfl) (by kernel_rfl) (fun j hj => by
    have hj' : j < l.length := by simpa using hj
    rw [Addr.add_lit, hr.byte (t + j) (by omega), hf j (by omega)]
    have e : (l.map UInt8.ofNat)[j].toNat = l.getD j 0 := by
      simp [List.getD, hj']
      have := hy l[j] (List.getElem_mem hj')
      omega
    rw [e])
  rw [List.length_map, hk] at this
  exact this
theorem sl65 (g t k : Nat) (W : World) (h : t + k = 65) (hk : 0 < k) : (Instr.sliceAt 254 (.pointer (some ⟨g, 0, none⟩)) (some (.int .i64 (t : Int))) none none).run Tryz.prog W = .ok (.slice (some ⟨g, t, none⟩) k k) W := by
  have hal : Tryz.prog.arrayLen 254 = 65 := by kernel_rfl
  have he : Tryz.prog.elem 254 = 5 := by kernel_rfl
  rw [run_sliceAt_array_l W 254 ⟨g, 0, none⟩ (by kernel_rfl) .i64 (t : Int) (by omega) (by rw [hal]; omega), hal, he, Tryz.sizeOf5, Result.andThen_ok]
  unfold slicedAt
  rw [Int.toNat_natCast, if_neg (by omega), Nat.mul_one, Addr.add_lit, Nat.zero_add, show 65 - t = k from by omega]
theorem h16_of (x j : Nat) (hj : j ≤ 3) (h0 : j = 0 ∨ 16 ^ j ≤ x) (h1 : x / 16 ^ j < 16) : h16 x = hk x (j + 1) := by
  unfold h16
  congr 1
  unfold hc
  have : j = 0 ∨ j = 1 ∨ j = 2 ∨ j = 3 := by omega
  rcases this with rfl | rfl | rfl | rfl
  · rw [if_pos (by omega)]
  · have h2 : 16 ≤ x := by omega
    have h3 : x < 256 := by omega
    rw [if_neg (by omega), if_pos h3]
  · have h2 : 256 ≤ x := by omega
    have h3 : x < 4096 := by omega
    rw [if_neg (by omega), if_neg (by omega), if_pos h3]
  · have h2 : 4096 ≤ x := by omega
    rw [if_neg (by omega), if_neg (by omega), if_neg (by omega)]
set_option maxHeartbeats 1000000 in
theorem formatBits_ (x : Nat) (w : World) (hx : x < 65536) (hT : Tb w) :
    Calls Tryz.prog 201 #[.slice none 0 0, .int .u64 x, .int .i64 16, .bool false, .bool false] w fun e w' => e = .returned (.tuple #[.slice none 0 0, .string (sb (h16 x))]) ∧ Below w.heap.size w w' := by
  have B0 : Below w.heap.size w (w.alloc (.cells Tryz.zeroCells254 254)) := (Below.refl _ _).alloc (Nat.le_refl _) _
  have r0 : Rw (w.alloc (.cells Tryz.zeroCells254 254)) w.heap.size 254 65 (fun _ => 0) := by
    rw [zero65]
    exact Rw.new w 254 65 (fun _ => 0)
  have hT1 := hT.kept B0
  have HS := hid (h16_of x)
  obtain ⟨S, HSS⟩ : ∃ S, Hid (sb (h16 x) = S) := ⟨_, rfl⟩
  rw [HSS.out]
  go_enter Tryz.func201, Tryz.ntmps201
  go_name_bytes_deep 40 MG hMG
  clear hMG
  go_name_bytes_deep 30 DG hDG
  obtain rfl : DG = d36 := hDG.symm
  clear hDG
  go_wp2_with fail
  refine (pow2_ _).mono ?_
  rintro e w1 ⟨rfl, rfl⟩
  generalize w.alloc (.cells Tryz.zeroCells254 254) = w1 at *
  go_wp2_with fail
  refine (tz_ _ hT1).mono ?_
  rintro e w2 ⟨rfl, rfl⟩
  clear hT1
  go_wp2_with fail
  go_loopw [1, 13] (fun u i wr => ∃ j t U : Nat, j ≤ 3 ∧ t + j = 64 ∧ U < 65536 ∧ u = .int .u64 (U : Int) ∧ i = .int .i64 ((t : Int) + 1) ∧ Hid (U = x / 16 ^ j ∧ (j = 0 ∨ 16 ^ j ≤ x) ∧ (∃ f, Rw wr w.heap.size 254 65 f ∧ ∀ k, k < j → f (64 - k) = hg (x / 16 ^ k % 16))) ∧ Below w.heap.size w wr) (fun _ i _ => (intOf i).toNat)
  case atStart => exact ⟨0, 64, x, by omega, rfl, hx, rfl, rfl, ⟨by simp, .inl rfl, _, r0, fun k h => by omega⟩, B0⟩
  case round =>
    clear r0 B0
    obtain ⟨j, t, U, hj, htj, hU, rfl, rfl, HH, B0⟩ := hrel
    obtain ⟨hUx, hpx, f, r0, hf⟩ := HH.out
    clear HH
    have c0 := r0.byte t (by omega)
    have f0 := r0.fz t
    have hsz : d36.size = 36 := rfl
    have hmod : ((U % 16 : Nat) : Int) < 36 := by omega
    have q1 : ∀ h : U % 16 < d36.size, (d36[U % 16]'h).toNat = hg (U % 16) := fun h => dig36 _ (by omega) h
    have ha := and15 U hU
    by_cases hlt : 16 ≤ U
    · have hj3 : j + 1 ≤ 3 := by
        have : j = 0 ∨ j = 1 ∨ j = 2 ∨ j = 3 := by omega
        rcases this with rfl | rfl | rfl | rfl
        · omega
        · omega
        · omega
        · exfalso; rw [hUx] at hlt; omega
      have HN : Hid (U / 16 = x / 16 ^ (j + 1) ∧ (j + 1 = 0 ∨ 16 ^ (j + 1) ≤ x) ∧ (∃ f, Rw (wr.setCell ⟨w.heap.size, t, none⟩ (.int .u8 ((hg (U % 16) : Nat) : Int))) w.heap.size 254 65 f ∧ ∀ k, k < j + 1 → f (64 - k) = hg (x / 16 ^ k % 16))) := by
        refine ⟨by rw [hUx, Nat.div_div_eq_div_mul, ← Nat.pow_succ], .inr ?_, _, r0.set t _, fun k hk => ?_⟩
        · rw [hUx] at hlt
          have := Nat.mul_le_mul_right (16 ^ j) hlt
          rw [Nat.pow_succ, Nat.mul_comm]
          exact Nat.le_trans this (Nat.div_mul_le_self x (16 ^ j))
        · by_cases e : k = j
          · subst e
            rw [if_pos (by omega), hUx]
          · rw [if_neg (by omega)]
            exact hf k (by omega)
      have hI : (16 : Int) ≤ (U : Int) := by omega
      clear hf hUx hpx hlt
      have hlt4 : hg (U % 16) < 256 := hg_lt _ (by omega)
      generalize hg (U % 16) = y at *
      go_wp2_with fail
      go_roundw
      case rel => exact ⟨j + 1, t - 1, U / 16, hj3, by omega, by omega, by go_num, by go_num, HN, B0.setCell (p := ⟨w.heap.size, t, none⟩) (Nat.le_refl _) _⟩
      case measure => simp [intOf]
    · have hU16 : U % 16 = U := Nat.mod_eq_of_lt (by omega)
      rw [hU16] at q1
      have HE := hid (HS.out j hj hpx (by omega))
      have r1 := r0.set t (hg U)
      have hcv := run_text16 (wr.setCell ⟨w.heap.size, t, none⟩ (.int .u8 ((hg U : Nat) : Int))) w.heap.size t (j + 1) (j + 1) _ _ (hk x (j + 1)) r1 (hk_length _ _) (by omega) (hk_lt _ _) (fun i hi => by
        rw [hk_get (j + 1) x i hi]
        by_cases e : i = 0
        · subst e
          rw [if_pos (by omega), Nat.add_sub_cancel, Nat.sub_zero, ← hUx, hU16]
        · rw [if_neg (by omega), ← hf (j + 1 - 1 - i) (by omega)]
          congr 1
          omega)
      rw [← HE.out, HSS.out] at hcv
      have hsl : ∀ W, (Instr.sliceAt 254 (.pointer (some ⟨w.heap.size, 0, none⟩)) (some (.int .i64 (t : Int))) none none).run Tryz.prog W = .ok (.slice (some ⟨w.heap.size, t, none⟩) (j + 1) (j + 1)) W := fun W => sl65 _ _ _ W (by omega) (by omega)
      have hI : ¬ (16 : Int) ≤ (U : Int) := by omega
      have hI2 : decide ((16 : Int) ≤ (U : Int)) = false := decide_eq_false hI
      have hI3 : (U : Int) < 36 := by omega
      clear hf hUx hpx hlt r1 HE HS ha hU16
      have B1 := B0.setCell (p := ⟨w.heap.size, t, none⟩) (Nat.le_refl _) (.int .u8 ((hg U : Nat) : Int))
      generalize hg U = y at *
      go_wp2_with fail
      go_ret2
      exact ⟨rfl, B1⟩
end Go.Proofs.YtmgoabedickooaaGreatDoor
