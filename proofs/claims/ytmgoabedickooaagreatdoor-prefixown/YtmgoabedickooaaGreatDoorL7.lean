import Derived.Test.YtmgoabedickooaaGreatDoorPTxt
import Derived.Laws.IdiomStrings
import Derived.Test.YtmgoabedickooaaGreatDoorP21
import Derived.Test.YtmgoabedickooaaGreatDoorQ9
import Derived.Shelf.RegionOpenPlain
namespace Go.Proofs.YtmgoabedickooaaGreatDoor
set_option maxRecDepth 100000
open Go.RowKit
set_option linter.unusedVariables false

/-! The library: numbers written to the base 16. -/
def hg (x : Nat) : Nat := if x < 10 then 48 + x else 87 + x
def rw8 (n : Nat) (f : Nat → Nat) : Array Value := ((List.range n).map fun i => Value.int .u8 (f i : Nat)).toArray
theorem rw8_size (n : Nat) (f : Nat → Nat) : (rw8 n f).size = n := by simp [rw8]
theorem rw8_get (n : Nat) (f : Nat → Nat) (i : Nat) (h : i < n) : (rw8 n f)[i]? = some (.int .u8 (f i : Nat)) := by simp [rw8, h]
theorem rw8_set (n : Nat) (f : Nat → Nat) (i x : Nat) : (rw8 n f).setIfInBounds i (.int .u8 (x : Nat)) = rw8 n fun j => if j = i then x else f j := by
  apply Array.ext_getElem?
  intro j
  rw [Array.getElem?_setIfInBounds, rw8_size]
  by_cases hj : j < n
  · rw [rw8_get _ _ j hj, rw8_get _ _ j hj]
    by_cases h : i = j
    · subst h; simp [hj]
    · rw [if_neg h, if_neg (fun e => h e.symm)]
  · have e1 : ∀ f, (rw8 n f)[j]? = none := fun f => Array.getElem?_eq_none (by rw [rw8_size]; omega)
    rw [e1, e1]
    split
    · rw [if_neg (by omega)]
    · rfl
/-- A row of bytes in a variable. -/
def Rw (w : World) (g : Nat) (t : TypeId) (n : Nat) (f : Nat → Nat) : Prop := w.heap[g]? = some (.cells (rw8 n f) t (0, 0))
theorem Rw.lt {w : World} {g t n : Nat} {f : Nat → Nat} (h : Rw w g t n f) : g < w.heap.size := (Array.getElem?_eq_some_iff.1 h).1
theorem Rw.fz {w : World} {g t n : Nat} {f : Nat → Nat} (h : Rw w g t n f) (i : Nat) : w.frozen? ⟨g, i, none⟩ = false := by unfold Rw at h; simp [World.frozen?, h]
theorem Rw.byte {w : World} {g t n : Nat} {f : Nat → Nat} (h : Rw w g t n f) (i : Nat) (hi : i < n) : w.cell? ⟨g, i, none⟩ = some (.int .u8 (f i : Nat)) := (cell_of_row w g i _ t (0, 0) h).trans (rw8_get n f i hi)
theorem Rw.set {w : World} {g t n : Nat} {f : Nat → Nat} (h : Rw w g t n f) (i x : Nat) : Rw (w.setCell ⟨g, i, none⟩ (.int .u8 (x : Nat))) g t n fun j => if j = i then x else f j := by
  unfold Rw at *; rw [← rw8_set]; simp [World.setCell, Array.getElem?_modify, h]
theorem Rw.new (w : World) (t n : Nat) (f : Nat → Nat) : Rw (w.alloc (.cells (rw8 n f) t)) w.heap.size t n f := heap_alloc_new w _
/-- The k lowest digits of x to the base 16, the highest first. -/
def hk (x : Nat) : Nat → List Nat
  | 0 => []
  | k + 1 => hk (x / 16) k ++ [hg (x % 16)]
theorem hk_length (k : Nat) : ∀ x, (hk x k).length = k := by
  induction k with
  | zero => intro x; rfl
  | succ k ih => intro x; rw [hk, List.length_append, ih]; rfl
def hc (x : Nat) : Nat := if x < 16 then 1 else if x < 256 then 2 else if x < 4096 then 3 else 4
/-- x to the base 16. -/
def h16 (x : Nat) : List Nat := hk x (hc x)
theorem zero65 : Tryz.zeroCells254 = rw8 65 (fun _ => 0) := by kernel_rfl
theorem pow2_ (w : World) : Calls Tryz.prog 220 #[.int .i64 16] w fun e w' => e = .returned (.bool true) ∧ w' = w := by
  have h : bits BinOp.and .i64 16 15 = 0 := by decide
  go_enter Tryz.func220, Tryz.ntmps220
  go_wp2_with fail
  go_ret
  exact ⟨rfl, rfl⟩
theorem gBru : Tryz.prog.globalNamed "math/bits.deBruijn64tab" = some 5 := by kernel_rfl
theorem tz64_ (w : World) (hT : Tb w) : Calls Tryz.prog 227 #[.int .u64 16] w fun e w' => e = .returned (.int .i64 4) ∧ w' = w := by
  obtain ⟨cs, h1, h2⟩ := hT.bru
  have hc : w.cell? ⟨5, 15, none⟩ = some (.int .u8 4) := by
    have := World.var?_cell gBru h1 15
    rw [h2] at this
    exact this
  clear h1 h2 hT
  have e1 : IntKind.u64.wrap (-16) = 18446744073709551600 := by rw [IntKind.wrap_u64]; decide
  have e2 : bits BinOp.and .u64 16 18446744073709551600 = 16 := by decide
  have e3 : IntKind.u64.wrap 4573923408821661840 = 4573923408821661840 := by rw [IntKind.wrap_u64]; decide
  go_enter Tryz.func227, Tryz.ntmps227
  go_wp2_with fail
  go_ret
  exact ⟨rfl, rfl⟩
theorem tz_ (w : World) (hT : Tb w) : Calls Tryz.prog 221 #[.int .u64 16] w fun e w' => e = .returned (.int .i64 4) ∧ w' = w := by
  have k := tz64_ w hT
  go_enter Tryz.func221, Tryz.ntmps221
  go_wp2_with (go_at_call 227; refine k.mono ?_; rintro e w' ⟨rfl, rfl⟩)
  go_ret
  exact ⟨rfl, rfl⟩
theorem hk_get (k : Nat) : ∀ x i, i < k → (hk x k).getD i 0 = hg (x / 16 ^ (k - 1 - i) % 16) := by
  induction k with
  | zero => intro x i h; omega
  | succ k ih =>
    intro x i h
    rw [hk]
    by_cases e : i < k
    · have e1 : (hk (x / 16) k ++ [hg (x % 16)]).getD i 0 = (hk (x / 16) k).getD i 0 := by
        simp only [List.getD]
        rw [List.getElem?_append_left (by rw [hk_length]; exact e)]
      rw [e1, ih (x / 16) i e, Nat.div_div_eq_div_mul]
      have : 16 * 16 ^ (k - 1 - i) = 16 ^ (k + 1 - 1 - i) := by
        rw [Nat.mul_comm, ← Nat.pow_succ]
        congr 1
        omega
      rw [this]
    · obtain rfl : i = k := by omega
      simp only [List.getD]
      rw [List.getElem?_append_right (by rw [hk_length]; exact Nat.le_refl _), hk_length]
      simp
theorem hg_lt (y : Nat) (h : y < 16) : hg y < 256 := by unfold hg; split <;> omega
theorem hk_lt (k : Nat) : ∀ x, ∀ z ∈ hk x k, z < 256 := by
  induction k with
  | zero => intro x z hz; simp [hk] at hz
  | succ k ih =>
    intro x z hz
    rw [hk] at hz
    rcases List.mem_append.1 hz with h | h
    · exact ih _ z h
    · simp at h
      rw [h]
      exact hg_lt _ (by omega)
def d36 : ByteArray := ⟨#[48, 49, 50, 51, 52, 53, 54, 55, 56, 57, 97, 98, 99, 100, 101, 102, 103, 104, 105, 106, 107, 108, 109, 110, 111, 112, 113, 114, 115, 116, 117, 118, 119, 120, 121, 122]⟩
theorem dig36 (y : Nat) (hy : y < 16) (h : y < d36.size) : (d36[y]'h).toNat = hg y := by
  have e : ∀ y : Nat, (hy : y < 16) → ((d36)[y]'(Nat.lt_of_lt_of_le hy (by decide))).toNat = hg y := by decide
  exact e y hy
theorem and15 (U : Nat) (h : U < 65536) : bits BinOp.and .u64 (U : Int) 15 = ((U % 16 : Nat) : Int) := by
  have e := bits_and_u64_nat U 15 (by omega) (by omega)
  have e2 : U &&& 15 = U % 16 := Nat.and_two_pow_sub_one_eq_mod U 4
  rw [e2] at e
  exact e
/-- A text out of a row's end. -/
theorem run_text16 (w : World) (g t k cap tt : Nat) (f : Nat → Nat) (l : List Nat) (hr : Rw w g tt 65 f) (hk : l.length = k) (ht : t + k = 65) (hy : ∀ x ∈ l, x < 256) (hf : ∀ i, i < k → f (t + i) = l.getD i 0) : (convert 44 9 (.slice (some ⟨g, t, none⟩) k cap)).run Tryz.prog w = .ok (.string (sb l)) w := by
  have := run_convert_bytes_back (P := Tryz.prog) w 44 9 5 ⟨g, t, none⟩ cap (l.map UInt8.ofNat) Tryz.underlying44 (by kernel_rfl) (by kernel_rfl) (fun j hj => by
    have hj' : j < l.length := by simpa using hj
    rw [Addr.add_lit, hr.byte (t + j) (by omega), hf j (by omega)]
    have e : (l.map UInt8.ofNat)[j].toNat = l.getD j 0 := by
      simp [List.getD, hj']
      have := hy l[j] (List.getElem_mem hj')
      omega
    rw [e])
  rw [List.length_map, hk] at this
  exact this
theorem sl65 (g t k : Nat) (W : World) (h : t + k = 65) (hk : 0 < k) : (Instr.sliceAt 254 (.pointer (some ⟨g, 0, none⟩)) (some (.int .i64 (t : Int))) none none).run Tryz.prog W = .ok (.slice (some ⟨g, t, none⟩) k k) W := by
  have hal : Tryz.prog.arrayLen 254 = 65 := by kernel_rfl
  have he : Tryz.prog.elem 254 = 5 := by kernel_rfl
  rw [run_sliceAt_array_l W 254 ⟨g, 0, none⟩ (by kernel_rfl) .i64 (t : Int) (by omega) (by rw [hal]; omega), hal, he, Tryz.sizeOf5, Result.andThen_ok]
  unfold slicedAt
  rw [Int.toNat_natCast, if_neg (by omega), Nat.mul_one, Addr.add_lit, Nat.zero_add, show 65 - t = k from by omega]
theorem h16_of (x j : Nat) (hj : j ≤ 3) (h0 : j = 0 ∨ 16 ^ j ≤ x) (h1 : x / 16 ^ j < 16) : h16 x = hk x (j + 1) := by
  unfold h16
  congr 1
  unfold hc
  have : j = 0 ∨ j = 1 ∨ j = 2 ∨ j = 3 := by omega
  rcases this with rfl | rfl | rfl | rfl
  · rw [if_pos (by omega)]
  · have h2 : 16 ≤ x := by omega
    have h3 : x < 256 := by omega
    rw [if_neg (by omega), if_pos h3]
  · have h2 : 256 ≤ x := by omega
    have h3 : x < 4096 := by omega
    rw [if_neg (by omega), if_neg (by omega), if_pos h3]
  · have h2 : 4096 ≤ x := by omega
    rw [if_neg (by omega), if_neg (by omega), if_neg (by omega)]
set_option maxHeartbeats 1000000 in
theorem formatBits_ (x : Nat) (w : World) (hx : x < 65536) (hT : Tb w) :
    Calls Tryz.prog 201 #[.slice none 0 0, .int .u64 x, .int .i64 16, .bool false, .bool false] w fun e w' => e = .returned (.tuple #[.slice none 0 0, .string (sb (h16 x))]) ∧ Below w.heap.size w w' := by
  have B0 : Below w.heap.size w (w.alloc (.cells Tryz.zeroCells254 254)) := (Below.refl _ _).alloc (Nat.le_refl _) _
  have r0 : Rw (w.alloc (.cells Tryz.zeroCells254 254)) w.heap.size 254 65 (fun _ => 0) := by
    rw [zero65]
    exact Rw.new w 254 65 (fun _ => 0)
  have hT1 := hT.kept B0
  have HS := hid (h16_of x)
  obtain ⟨S, HSS⟩ : ∃ S, Hid (sb (h16 x) = S) := ⟨_, rfl⟩
  rw [HSS.out]
  go_enter Tryz.func201, Tryz.ntmps201
  go_name_bytes_deep 40 MG hMG
  clear hMG
  go_name_bytes_deep 30 DG hDG
  obtain rfl : DG = d36 := hDG.symm
  clear hDG
  go_wp2_with fail
  refine (pow2_ _).mono ?_
  rintro e w1 ⟨rfl, rfl⟩
  generalize w.alloc (.cells Tryz.zeroCells254 254) = w1 at *
  go_wp2_with fail
  refine (tz_ _ hT1).mono ?_
  rintro e w2 ⟨rfl, rfl⟩
  clear hT1
  go_wp2_with fail
  go_loopw [1, 13] (fun u i wr => ∃ j t U : Nat, j ≤ 3 ∧ t + j = 64 ∧ U < 65536 ∧ u = .int .u64 (U : Int) ∧ i = .int .i64 ((t : Int) + 1) ∧ Hid (U = x / 16 ^ j ∧ (j = 0 ∨ 16 ^ j ≤ x) ∧ (∃ f, Rw wr w.heap.size 254 65 f ∧ ∀ k, k < j → f (64 - k) = hg (x / 16 ^ k % 16))) ∧ Below w.heap.size w wr) (fun _ i _ => (intOf i).toNat)
  case atStart => exact ⟨0, 64, x, by omega, rfl, hx, rfl, rfl, ⟨by simp, .inl rfl, _, r0, fun k h => by omega⟩, B0⟩
  case round =>
    clear r0 B0
    obtain ⟨j, t, U, hj, htj, hU, rfl, rfl, HH, B0⟩ := hrel
    obtain ⟨hUx, hpx, f, r0, hf⟩ := HH.out
    clear HH
    have c0 := r0.byte t (by omega)
    have f0 := r0.fz t
    have hsz : d36.size = 36 := rfl
    have hmod : ((U % 16 : Nat) : Int) < 36 := by omega
    have q1 : ∀ h : U % 16 < d36.size, (d36[U % 16]'h).toNat = hg (U % 16) := fun h => dig36 _ (by omega) h
    have ha := and15 U hU
    by_cases hlt : 16 ≤ U
    · have hj3 : j + 1 ≤ 3 := by
        have : j = 0 ∨ j = 1 ∨ j = 2 ∨ j = 3 := by omega
        rcases this with rfl | rfl | rfl | rfl
        · omega
        · omega
        · omega
        · exfalso; rw [hUx] at hlt; omega
      have HN : Hid (U / 16 = x / 16 ^ (j + 1) ∧ (j + 1 = 0 ∨ 16 ^ (j + 1) ≤ x) ∧ (∃ f, Rw (wr.setCell ⟨w.heap.size, t, none⟩ (.int .u8 ((hg (U % 16) : Nat) : Int))) w.heap.size 254 65 f ∧ ∀ k, k < j + 1 → f (64 - k) = hg (x / 16 ^ k % 16))) := by
        refine ⟨by rw [hUx, Nat.div_div_eq_div_mul, ← Nat.pow_succ], .inr ?_, _, r0.set t _, fun k hk => ?_⟩
        · rw [hUx] at hlt
          have := Nat.mul_le_mul_right (16 ^ j) hlt
          rw [Nat.pow_succ, Nat.mul_comm]
          exact Nat.le_trans this (Nat.div_mul_le_self x (16 ^ j))
        · by_cases e : k = j
          · subst e
            rw [if_pos (by omega), hUx]
          · rw [if_neg (by omega)]
            exact hf k (by omega)
      have hI : (16 : Int) ≤ (U : Int) := by omega
      clear hf hUx hpx hlt
      have hlt4 : hg (U % 16) < 256 := hg_lt _ (by omega)
      generalize hg (U % 16) = y at *
      go_wp2_with fail
      go_roundw
      case rel => exact ⟨j + 1, t - 1, U / 16, hj3, by omega, by omega, by go_num, by go_num, HN, B0.setCell (p := ⟨w.heap.size, t, none⟩) (Nat.le_refl _) _⟩
      case measure => simp [intOf]
    · have hU16 : U % 16 = U := Nat.mod_eq_of_lt (by omega)
      rw [hU16] at q1
      have HE := hid (HS.out j hj hpx (by omega))
      have r1 := r0.set t (hg U)
      have hcv := run_text16 (wr.setCell ⟨w.heap.size, t, none⟩ (.int .u8 ((hg U : Nat) : Int))) w.heap.size t (j + 1) (j + 1) _ _ (hk x (j + 1)) r1 (hk_length _ _) (by omega) (hk_lt _ _) (fun i hi => by
        rw [hk_get (j + 1) x i hi]
        by_cases e : i = 0
        · subst e
          rw [if_pos (by omega), Nat.add_sub_cancel, Nat.sub_zero, ← hUx, hU16]
        · rw [if_neg (by omega), ← hf (j + 1 - 1 - i) (by omega)]
          congr 1
          omega)
      rw [← HE.out, HSS.out] at hcv
      have hsl : ∀ W, (Instr.sliceAt 254 (.pointer (some ⟨w.heap.size, 0, none⟩)) (some (.int .i64 (t : Int))) none none).run Tryz.prog W = .ok (.slice (some ⟨w.heap.size, t, none⟩) (j + 1) (j + 1)) W := fun W => sl65 _ _ _ W (by omega) (by omega)
      have hI : ¬ (16 : Int) ≤ (U : Int) := by omega
      have hI2 : decide ((16 : Int) ≤ (U : Int)) = false := decide_eq_false hI
      have hI3 : (U : Int) < 36 := by omega
      clear hf hUx hpx hlt r1 HE HS ha hU16
      have B1 := B0.setCell (p := ⟨w.heap.size, t, none⟩) (Nat.le_refl _) (.int .u8 ((hg U : Nat) : Int))
      generalize hg U = y at *
      go_wp2_with fail
      go_ret2
      exact ⟨rfl, B1⟩
end Go.Proofs.YtmgoabedickooaaGreatDoor
namespace Go.Proofs.YtmgoabedickooaaGreatDoor
set_option maxRecDepth 100000
open Go.RowKit
set_option linter.unusedVariables false

theorem repeat_sb (c : Nat) : (⟨(Lib.repeatL (⟨#[48]⟩ : ByteArray).data.toList c).toArray⟩ : ByteArray) = sb (List.replicate c 48) := by
  have e : ∀ c, Lib.repeatL (⟨#[48]⟩ : ByteArray).data.toList c = (List.replicate c 48).map UInt8.ofNat := by
    intro c
    induction c with
    | zero => rfl
    | succ c ih => rw [Lib.repeatL, ih, List.replicate_succ]; rfl
  rw [e]
  rfl
theorem repeat_ (c : Nat) (w : World) (h : c ≤ 9) :
    Calls Tryz.prog 176 #[.string ⟨#[48]⟩, .int .i64 c] w fun e w' => e = .returned (.string (sb (List.replicate c 48))) ∧ Below w.heap.size w w' := by
  refine (Tryz.strings_Repeat ⟨#[48]⟩ c w (by omega) (by show 1 * c ≤ _; omega)).mono ?_
  rintro e w' ⟨rfl, g⟩
  exact ⟨by rw [repeat_sb], g⟩
theorem hg_hd (y : Nat) : hg y = hd y := rfl
theorem hc_in (x : Nat) (h : x < 65536) : 1 ≤ hc x ∧ hc x ≤ 4 := by
  unfold hc
  split
  · omega
  · split
    · omega
    · split <;> omega
theorem hk4 (x : Nat) : hk x 4 = [hg (x / 4096 % 16), hg (x / 256 % 16), hg (x / 16 % 16), hg (x % 16)] := by
  show [hg (x / 16 / 16 / 16 % 16), hg (x / 16 / 16 % 16), hg (x / 16 % 16), hg (x % 16)] = _
  rw [show x / 16 / 16 / 16 = x / 4096 from by omega, show x / 16 / 16 = x / 256 from by omega]
theorem hx_two (x : Nat) (h : x < 65536) : hx (x / 256) ++ hx (x % 256) = hk x 4 := by
  rw [hk4]
  unfold hx
  show [hd (x / 256 / 16), hd (x / 256 % 16), hd (x % 256 / 16), hd (x % 256 % 16)] = [hd (x / 4096 % 16), hd (x / 256 % 16), hd (x / 16 % 16), hd (x % 16)]
  rw [show x / 256 / 16 = x / 4096 % 16 from by omega, show x % 256 / 16 = x / 16 % 16 from by omega, show x % 256 % 16 = x % 16 from by omega]
theorem h16_pad (x : Nat) (h : x < 65536) : List.replicate (4 - hc x) 48 ++ h16 x = hx (x / 256) ++ hx (x % 256) := by
  rw [hx_two x h, hk4]
  have h0 : hg 0 = 48 := rfl
  unfold h16 hc
  split
  · rw [show x / 4096 % 16 = 0 from by omega, show x / 256 % 16 = 0 from by omega, show x / 16 % 16 = 0 from by omega]
    rfl
  · split
    · rw [show x / 4096 % 16 = 0 from by omega, show x / 256 % 16 = 0 from by omega]
      rfl
    · split
      · rw [show x / 4096 % 16 = 0 from by omega]
        show 48 :: [hg (x / 16 / 16 % 16), hg (x / 16 % 16), hg (x % 16)] = _
        rw [show x / 16 / 16 = x / 256 from by omega]
        rfl
      · show [hg (x / 16 / 16 / 16 % 16), hg (x / 16 / 16 % 16), hg (x / 16 % 16), hg (x % 16)] = _
        rw [show x / 16 / 16 / 16 = x / 4096 from by omega, show x / 16 / 16 = x / 256 from by omega]
set_option maxHeartbeats 400000 in
theorem fmtI_ (x : Nat) (w : World) (hx : x < 65536) (hT : Tb w) :
    Calls Tryz.prog 194 #[.int .u64 x, .int .i64 16] w fun e w' => e = .returned (.string (sb (h16 x))) ∧ Below w.heap.size w w' := by
  have k := fun w hT => formatBits_ x w hx hT
  go_enter Tryz.func194, Tryz.ntmps194
  go_wp2_with fail
  refine (k _ hT).mono ?_
  rintro e w1 ⟨rfl, g⟩
  go_wp2_with fail
  go_ret
  exact ⟨rfl, g⟩
set_option maxHeartbeats 400000 in
theorem fmt_ (x : Nat) (w : World) (hx : x < 65536) (hT : Tb w) :
    Calls Tryz.prog 175 #[.int .u64 x, .int .i64 16] w fun e w' => e = .returned (.string (sb (h16 x))) ∧ Below w.heap.size w w' := by
  have k := fun w hT => fmtI_ x w hx hT
  go_enter Tryz.func175, Tryz.ntmps175
  go_wp2_with fail
  refine (k _ hT).mono ?_
  rintro e w1 ⟨rfl, g⟩
  go_wp2_with fail
  go_ret
  exact ⟨rfl, g⟩
set_option maxHeartbeats 400000 in
theorem decimal_ (x : Nat) (w : World) (hx : x < 256) (hT : Tb w) :
    Calls Tryz.prog 123 #[.int .u8 x] w fun e w' => e = .returned (.string (sb (dgs x 1))) ∧ Below w.heap.size w w' := by
  have k := fun w hT => itoa_ x w (by omega) hT
  go_enter Tryz.func123, Tryz.ntmps123
  go_wp2_with fail
  refine (k _ hT).mono ?_
  rintro e w1 ⟨rfl, g⟩
  go_wp2_with fail
  go_ret
  exact ⟨rfl, g⟩
set_option maxHeartbeats 400000 in
theorem pair_ (x : Nat) (w : World) (hx' : x < 65536) (hT : Tb w) :
    Calls Tryz.prog 125 #[.int .u16 x] w fun e w' => e = .returned (.string (sb (hx (x / 256) ++ hx (x % 256)))) ∧ Below w.heap.size w w' := by
  have k1 := fun w hT => fmt_ x w hx' hT
  obtain ⟨c0, c1⟩ := hc_in x hx'
  have k2 := fun w => repeat_ (4 - hc x) w (by omega)
  have hl : (sb (h16 x)).size = hc x := by rw [sb_size]; exact hk_length _ _
  have HP : Hid (sb (List.replicate (4 - hc x) 48) ++ sb (h16 x) = sb (hx (x / 256) ++ hx (x % 256))) := by
    show _ = _
    rw [sb_append, h16_pad x hx']
  have hr : (sb (List.replicate (4 - hc x) 48)).size = 4 - hc x := by rw [sb_size, List.length_replicate]
  obtain ⟨S, HS⟩ : ∃ S, Hid (sb (hx (x / 256) ++ hx (x % 256)) = S) := ⟨_, rfl⟩
  rw [HS.out] at HP ⊢
  generalize sb (h16 x) = D at *
  generalize sb (List.replicate (4 - hc x) 48) = R at *
  generalize hc x = c at *
  have hi : (4 : Int) - (c : Int) = ((4 - c : Nat) : Int) := by omega
  have a1 := fun w => run_string_add_sum (P := Tryz.prog) w R D (by omega)
  clear HS
  go_enter Tryz.func125, Tryz.ntmps125
  go_wp2_with fail
  refine (k1 _ hT).mono ?_
  rintro e w1 ⟨rfl, g⟩
  go_wp2_with fail
  refine (k2 _).mono ?_
  rintro e w2 ⟨rfl, g2⟩
  go_wp2_with fail
  go_ret
  exact ⟨by rw [← HP.out]; rfl, bel_bel g g.size g2⟩
end Go.Proofs.YtmgoabedickooaaGreatDoor
namespace Go.Proofs.YtmgoabedickooaaGreatDoor
set_option maxRecDepth 100000
open Go.RowKit
set_option linter.unusedVariables false

theorem RS.bel {b : Nat} {w w' : World} {r g : Nat} {l : List Int} {p e : Int} (h : RS w r g l p e) (hb : Below b w w') (hr : r < b) (hg : g < b) : RS w' r g l p e := by
  rcases h with ⟨h0, h⟩ | h
  · exact .inl ⟨h0, h.kept (hb.block r hr) (fun _ => hb.block g hg)⟩
  · exact .inr (h.kept (hb.block r hr))
theorem own_from {w w' : World} {B e s n : Nat} {v : Value} {xs : List Value} (h : w.ownsRow B e s v n xs) (ho : ∀ k, B ≤ k → w'.heap[k]? = w.heap[k]?) : w'.ownsRow B e s v n xs := by
  obtain ⟨h1, h2⟩ := h
  refine ⟨h1, ?_⟩
  rcases h2 with h2 | ⟨g, cap, cur, e1, hb, hg, r⟩
  · exact .inl h2
  · exact .inr ⟨g, cap, cur, e1, hb, by rw [ho g hb]; exact hg, r⟩
def slen : Value → Nat
  | .slice _ n _ => n
  | _ => 0
theorem own_slen {w : World} {B e s n : Nat} {v : Value} {xs : List Value} (h : w.ownsRow B e s v n xs) : slen v = n := by
  rcases h.2 with ⟨rfl, h2⟩ | ⟨g, cap, cur, rfl, _⟩
  · exact h2.symm
  · rfl
theorem leftAny (r g : Nat) (l : List Int) (p : Int) (w : World) (h : RS w r g l p 0) :
    Calls Tryz.prog 173 #[.pointer (some ⟨r, 0, none⟩)] w fun en w' => en = .returned (.int .i64 l.length) ∧ w' = w := by
  rcases h with ⟨_, h⟩ | h
  · exact left_whole r g l p w h
  · exact absurd h.2 (by decide)
def t8 (x : Nat) : List Nat := dgs x 1
def t16 (x : Nat) : List Nat := hx (x / 256) ++ hx (x % 256)
/-- The number that the i-th W bytes are. -/
def vw (W : Nat) (l : List Int) (i : Nat) : Nat := (val ((l.drop (W * i)).take W)).toNat
def wt (t : Nat → List Nat) (W : Nat) (l : List Int) (j : Nat) : List (List Nat) := (List.range j).map fun i => t (vw W l i)
theorem wt_length (t : Nat → List Nat) (W : Nat) (l : List Int) (j : Nat) : (wt t W l j).length = j := by simp [wt]
theorem wt_succ (t : Nat → List Nat) (W : Nat) (l : List Int) (j : Nat) : wt t W l (j + 1) = wt t W l j ++ [t (vw W l j)] := by
  simp [wt, List.range_succ]
theorem t8_le (x : Nat) (h : x < 256) : (sb (t8 x)).size ≤ 4 := by rw [sb_size]; have := dgs_three x h; unfold t8; omega
theorem t16_le (x : Nat) : (sb (t16 x)).size ≤ 4 := by rw [sb_size]; unfold t16 hx; simp
theorem vwLt8 {l : List Int} (hb : ∀ z ∈ l, 0 ≤ z ∧ z ≤ 255) (i : Nat) (h : 1 * i + 1 ≤ l.length) : val ((l.drop (1 * i)).take 1) = ((vw 1 l i : Nat) : Int) ∧ vw 1 l i < 256 := by
  have h1 := valLt8 (zs := l.drop (1 * i)) (by rw [List.length_drop]; omega) (fun z hz => hb z (List.mem_of_mem_drop (List.mem_of_mem_take hz)))
  unfold vw
  omega
set_option maxHeartbeats 1000000 in
theorem written8_ (r g m : Nat) (l : List Int) (w : World) (h : RS w r g l 0 0) (hl : l.length = 1 * m) (hm : m ≤ 16) (hb : ∀ z ∈ l, 0 ≤ z ∧ z ≤ 255) (hgr : g < r) (w0 : World) (hT : Tb w0) (hr0 : w0.heap.size ≤ r) (hB0 : Below w0.heap.size w0 w) :
    Calls Tryz.prog 122 #[.pointer (some ⟨r, 0, none⟩), .func (.func 123) #[] #[]] w fun e w' => ∃ v, e = .returned v ∧ w'.ownsRow w.heap.size 9 1 v m (tv (wt t8 1 l m)) ∧ Below r w w' := by
  obtain ⟨i5, hi, hz0, hz1, hz2⟩ := info_parts info_s
  have hrw := h.lt
  go_enter Tryz.func122, Tryz.ntmps122
  go_wp2_with fail
  go_loopw [5] (fun v wr => ∃ j : Nat, j ≤ m ∧ RS wr r g (l.drop (1 * j)) ((1 * j : Nat) : Int) 0 ∧ wr.ownsRow w.heap.size 9 1 v j (tv (wt t8 1 l j)) ∧ Below r w wr) (fun v _ => m - slen v)
  case atStart => exact ⟨0, by omega, h, World.ownsRow_nil _ _ _ _, Below.refl _ _⟩
  case round =>
    rename_i v _
    obtain ⟨j, hj, rs, hown, B0⟩ := hrel
    have hsl := own_slen hown
    have kL := fun w rs => leftAny r g (l.drop (1 * j)) ((1 * j : Nat) : Int) w rs
    have hlen : (l.drop (1 * j)).length = 1 * (m - j) := by rw [List.length_drop]; omega
    rw [hlen] at kL
    by_cases hlt : j < m
    · have hI : (0 : Int) < ((1 * (m - j) : Nat) : Int) := by omega
      obtain ⟨hv, hvl⟩ := vwLt8 hb j (by omega)
      obtain ⟨y1, y2, y3, y4⟩ := g_yes (W := 1) (l := l.drop (1 * j)) (p := ((1 * j : Nat) : Int)) (by omega)
      have kG := fun w rs => getAny8 r g (l.drop (1 * j)) ((1 * j : Nat) : Int) 0 w rs (by omega) (by omega)
      rw [y1, y2, y3, y4, hv, List.drop_drop] at kG
      have kT := fun w hT => decimal_ (vw 1 l j) w hvl hT
      have HSS : Hid (tv (wt t8 1 l j) ++ [.string (sb (t8 (vw 1 l j)))] = tv (wt t8 1 l (j + 1))) := by
        show _ = _
        rw [wt_succ]
        simp [tv]
      have kT2 : ∀ w, Tb w → Calls Tryz.prog 123 #[.int .u8 (vw 1 l j : Nat)] w fun e w' => e = .returned (.string (sb (t8 (vw 1 l j)))) ∧ Below w.heap.size w w' := kT
      have hrs : ((1 * j : Nat) : Int) + (1 : Nat) = ((1 * (j + 1) : Nat) : Int) := by omega
      have hrd : 1 * j + 1 = 1 * (j + 1) := by omega
      rw [hrs, hrd] at kG
      clear kT hv y1 y2 y3 y4 hlen
      generalize sb (t8 (vw 1 l j)) = X at *
      generalize vw 1 l j = x at *
      generalize (1 * (m - j) : Nat) = q at *
      go_wp2_with fail
      refine (kL _ rs).mono ?_
      rintro e w1 ⟨rfl, rfl⟩
      clear kL
      go_wp2_with fail
      refine (kG _ rs).mono ?_
      rintro e w2 ⟨rfl, rs2, ho⟩
      replace hown := own_from hown (fun k hk => ho.block k (by omega))
      replace B0 := bel_only B0 ho (Nat.le_refl _)
      clear rs kG ho
      have hs0 := B0.size
      have hT2 : Tb w2 := hT.kept (hB0.trans (B0.mono hr0))
      go_wp2_with fail
      refine (kT2 _ hT2).mono ?_
      rintro e w3 ⟨rfl, g3⟩
      replace hown := own_bel7 hown g3
      replace rs2 := rs2.kept g3
      replace B0 := bel_bel B0 (by omega) g3
      have hs := Nat.le_trans hs0 g3.size
      clear kT2 hT2 g3
      have HO := hid hown
      go_wp2_with (at_builtin; refine wpList_append_own _ rfl _ _ 108 rfl w.heap.size 9 i5 (.string ⟨#[]⟩) 1 16 Tryz.underlying108 hi hz0 hz1 hz2 rfl (by decide) _ _ _ rfl (hown.alloc _) ⟨w3.heap.size, 0, none⟩ 1 1 [.string X] rfl rfl ?c1 ?c2 ?c3 ?c4 ?c5 ?_)
      case c1 => exact one_src _ _ _
      case c2 => intro u hu; rw [List.mem_singleton.1 hu]; rfl
      case c3 => unfold maxLen; omega
      case c4 => omega
      case c5 => simp <;> omega
      intro v' w6 hown' hgrow _
      have hown2 : w6.ownsRow w.heap.size 9 1 v' (j + 1) (tv (wt t8 1 l (j + 1))) := by rw [← HSS.out]; exact hown'
      have B3 : Below w.heap.size w3 w6 := ((Below.refl _ w3).alloc (by omega) _).grown hgrow (by simp; omega) fun p hp => (HO.out.lt p hp).1
      replace rs2 := rs2.bel B3 hrw (by omega)
      replace B0 := B0.trans (B3.mono (by omega))
      have hsl2 := own_slen hown2
      clear hown' hgrow HO HSS hown B3
      go_wp2_with fail
      go_roundw
      case rel => exact ⟨j + 1, by omega, rs2, hown2, B0⟩
      case measure => simp [hsl2, hsl] <;> omega
    · obtain rfl : j = m := by omega
      have e0 : 1 * (j - j) = 0 := by omega
      rw [e0] at kL
      clear hlen e0
      go_wp2_with fail
      refine (kL _ rs).mono ?_
      rintro e w1 ⟨rfl, rfl⟩
      clear kL
      go_wp2_with fail
      go_ret
      exact ⟨_, rfl, hown, B0⟩
theorem vwLt16 {l : List Int} (hb : ∀ z ∈ l, 0 ≤ z ∧ z ≤ 255) (i : Nat) (h : 2 * i + 2 ≤ l.length) : val ((l.drop (2 * i)).take 2) = ((vw 2 l i : Nat) : Int) ∧ vw 2 l i < 65536 := by
  have h1 := valLt16 (zs := l.drop (2 * i)) (by rw [List.length_drop]; omega) (fun z hz => hb z (List.mem_of_mem_drop (List.mem_of_mem_take hz)))
  unfold vw
  omega
set_option maxHeartbeats 1000000 in
theorem written16_ (r g m : Nat) (l : List Int) (w : World) (h : RS w r g l 0 0) (hl : l.length = 2 * m) (hm : m ≤ 16) (hb : ∀ z ∈ l, 0 ≤ z ∧ z ≤ 255) (hgr : g < r) (w0 : World) (hT : Tb w0) (hr0 : w0.heap.size ≤ r) (hB0 : Below w0.heap.size w0 w) :
    Calls Tryz.prog 124 #[.pointer (some ⟨r, 0, none⟩), .func (.func 125) #[] #[]] w fun e w' => ∃ v, e = .returned v ∧ w'.ownsRow w.heap.size 9 1 v m (tv (wt t16 2 l m)) ∧ Below r w w' := by
  obtain ⟨i5, hi, hz0, hz1, hz2⟩ := info_parts info_s
  have hrw := h.lt
  go_enter Tryz.func124, Tryz.ntmps124
  go_wp2_with fail
  go_loopw [5] (fun v wr => ∃ j : Nat, j ≤ m ∧ RS wr r g (l.drop (2 * j)) ((2 * j : Nat) : Int) 0 ∧ wr.ownsRow w.heap.size 9 1 v j (tv (wt t16 2 l j)) ∧ Below r w wr) (fun v _ => m - slen v)
  case atStart => exact ⟨0, by omega, h, World.ownsRow_nil _ _ _ _, Below.refl _ _⟩
  case round =>
    rename_i v _
    obtain ⟨j, hj, rs, hown, B0⟩ := hrel
    have hsl := own_slen hown
    have kL := fun w rs => leftAny r g (l.drop (2 * j)) ((2 * j : Nat) : Int) w rs
    have hlen : (l.drop (2 * j)).length = 2 * (m - j) := by rw [List.length_drop]; omega
    rw [hlen] at kL
    by_cases hlt : j < m
    · have hI : (0 : Int) < ((2 * (m - j) : Nat) : Int) := by omega
      obtain ⟨hv, hvl⟩ := vwLt16 hb j (by omega)
      obtain ⟨y1, y2, y3, y4⟩ := g_yes (W := 2) (l := l.drop (2 * j)) (p := ((2 * j : Nat) : Int)) (by omega)
      have kG := fun w rs => getAny16 r g (l.drop (2 * j)) ((2 * j : Nat) : Int) 0 w rs (by omega) (by omega)
      rw [y1, y2, y3, y4, hv, List.drop_drop] at kG
      have kT := fun w hT => pair_ (vw 2 l j) w hvl hT
      have HSS : Hid (tv (wt t16 2 l j) ++ [.string (sb (t16 (vw 2 l j)))] = tv (wt t16 2 l (j + 1))) := by
        show _ = _
        rw [wt_succ]
        simp [tv]
      have kT2 : ∀ w, Tb w → Calls Tryz.prog 125 #[.int .u16 (vw 2 l j : Nat)] w fun e w' => e = .returned (.string (sb (t16 (vw 2 l j)))) ∧ Below w.heap.size w w' := kT
      have hrs : ((2 * j : Nat) : Int) + (2 : Nat) = ((2 * (j + 1) : Nat) : Int) := by omega
      have hrd : 2 * j + 2 = 2 * (j + 1) := by omega
      rw [hrs, hrd] at kG
      clear kT hv y1 y2 y3 y4 hlen
      generalize sb (t16 (vw 2 l j)) = X at *
      generalize vw 2 l j = x at *
      generalize (2 * (m - j) : Nat) = q at *
      go_wp2_with fail
      refine (kL _ rs).mono ?_
      rintro e w1 ⟨rfl, rfl⟩
      clear kL
      go_wp2_with fail
      refine (kG _ rs).mono ?_
      rintro e w2 ⟨rfl, rs2, ho⟩
      replace hown := own_from hown (fun k hk => ho.block k (by omega))
      replace B0 := bel_only B0 ho (Nat.le_refl _)
      clear rs kG ho
      have hs0 := B0.size
      have hT2 : Tb w2 := hT.kept (hB0.trans (B0.mono hr0))
      go_wp2_with fail
      refine (kT2 _ hT2).mono ?_
      rintro e w3 ⟨rfl, g3⟩
      replace hown := own_bel7 hown g3
      replace rs2 := rs2.kept g3
      replace B0 := bel_bel B0 (by omega) g3
      have hs := Nat.le_trans hs0 g3.size
      clear kT2 hT2 g3
      have HO := hid hown
      go_wp2_with (at_builtin; refine wpList_append_own _ rfl _ _ 108 rfl w.heap.size 9 i5 (.string ⟨#[]⟩) 1 16 Tryz.underlying108 hi hz0 hz1 hz2 rfl (by decide) _ _ _ rfl (hown.alloc _) ⟨w3.heap.size, 0, none⟩ 1 1 [.string X] rfl rfl ?c1 ?c2 ?c3 ?c4 ?c5 ?_)
      case c1 => exact one_src _ _ _
      case c2 => intro u hu; rw [List.mem_singleton.1 hu]; rfl
      case c3 => unfold maxLen; omega
      case c4 => omega
      case c5 => simp <;> omega
      intro v' w6 hown' hgrow _
      have hown2 : w6.ownsRow w.heap.size 9 1 v' (j + 1) (tv (wt t16 2 l (j + 1))) := by rw [← HSS.out]; exact hown'
      have B3 : Below w.heap.size w3 w6 := ((Below.refl _ w3).alloc (by omega) _).grown hgrow (by simp; omega) fun p hp => (HO.out.lt p hp).1
      replace rs2 := rs2.bel B3 hrw (by omega)
      replace B0 := B0.trans (B3.mono (by omega))
      have hsl2 := own_slen hown2
      clear hown' hgrow HO HSS hown B3
      go_wp2_with fail
      go_roundw
      case rel => exact ⟨j + 1, by omega, rs2, hown2, B0⟩
      case measure => simp [hsl2, hsl] <;> omega
    · obtain rfl : j = m := by omega
      have e0 : 2 * (j - j) = 0 := by omega
      rw [e0] at kL
      clear hlen e0
      go_wp2_with fail
      refine (kL _ rs).mono ?_
      rintro e w1 ⟨rfl, rfl⟩
      clear kL
      go_wp2_with fail
      go_ret
      exact ⟨_, rfl, hown, B0⟩
end Go.Proofs.YtmgoabedickooaaGreatDoor
namespace Go.Proofs.YtmgoabedickooaaGreatDoor
set_option maxRecDepth 100000
open Go.RowKit
set_option linter.unusedVariables false

/-- Texts joined by a sign. -/
def jn (c : Nat) : List (List Nat) → List Nat
  | [] => []
  | [x] => x
  | x :: y :: r => x ++ c :: jn c (y :: r)
theorem join_sb (c : Nat) (ls : List (List Nat)) : (⟨(Lib.join ((ls.map sb).map (·.data.toList)) (sb [c]).data.toList).toArray⟩ : ByteArray) = sb (jn c ls) := by
  have e : ∀ ls : List (List Nat), Lib.join ((ls.map sb).map (·.data.toList)) (sb [c]).data.toList = (jn c ls).map UInt8.ofNat := by
    intro ls
    induction ls with
    | nil => rfl
    | cons x r ih =>
      cases r with
      | nil => simp [Lib.join, List.intercalate, jn, sb]
      | cons y r =>
        rw [jn, List.map_append]
        show _ = x.map UInt8.ofNat ++ (UInt8.ofNat c :: (jn c (y :: r)).map UInt8.ofNat)
        rw [← ih]
        simp [Lib.join, List.intercalate, sb]
  rw [e]
  rfl
theorem join_len (c : Nat) (ls : List (List Nat)) (h : ∀ x ∈ ls, x.length ≤ 4) : (jn c ls).length ≤ 5 * ls.length := by
  induction ls with
  | nil => simp [jn]
  | cons x r ih =>
    cases r with
    | nil => have := h x (by simp); simp [jn]; omega
    | cons y r =>
      have h1 := h x (by simp)
      have h2 := ih (fun z hz => h z (by simp [hz]))
      rw [jn, List.length_append, List.length_cons]
      simp only [List.length_cons] at h2 ⊢
      omega
theorem joinLib_len (c : Nat) (ls : List (List Nat)) : (Lib.join ((ls.map sb).map (·.data.toList)) (sb [c]).data.toList).length = (jn c ls).length := by
  have := congrArg (fun b : ByteArray => b.data.size) (join_sb c ls)
  simpa [sb] using this
theorem tv_cell {w : World} {g n : Nat} {cur : Array Value} {ls : List (List Nat)} (hg : w.heap[g]? = some (.cells cur 9 (0, 0))) (ht : cur.toList.take n = tv ls) (hn : ls.length = n) (j : Nat) (x : ByteArray) (h : (ls.map sb)[j]? = some x) : w.cell? ⟨g, 0 + j, none⟩ = some (.string x) := by
  rw [Nat.zero_add, cell_of_row w g j cur _ (0, 0) hg]
  have hj : j < ls.length := by have := (List.getElem?_eq_some_iff.1 h).1; simpa using this
  have h1 : (tv ls)[j]? = some (.string x) := by
    simp only [tv, List.getElem?_map] at h ⊢
    cases q : ls[j]? with
    | none => rw [q] at h; simp at h
    | some y => rw [q] at h; simp at h; simp [h]
  rw [← ht, List.getElem?_take, if_pos (by omega)] at h1
  simpa using h1
/-- strings.Join of an own row of texts. -/
theorem join_ (c m : Nat) (v : Value) (ls : List (List Nat)) (B : Nat) (w : World) (hown : w.ownsRow B 9 1 v m (tv ls)) (hm : ls.length = m) (hs : m ≤ 16) (hx : ∀ x ∈ ls, x.length ≤ 4) :
    Calls Tryz.prog 121 #[v, .string (sb [c])] w fun e w' => e = .returned (.string (sb (jn c ls))) ∧ Below w.heap.size w w' := by
  have hjl := join_len c ls hx
  rcases hown.2 with ⟨rfl, h0⟩ | ⟨g, cap, cur, rfl, hb, hg, hnc, hcm, hsz, ht⟩
  · obtain rfl : m = 0 := h0
    obtain rfl : ls = [] := List.eq_nil_of_length_eq_zero hm
    refine (Tryz.strings_Join_none none 0 (sb [c]) w).mono ?_
    rintro e w' ⟨rfl, rfl⟩
    exact ⟨rfl, Below.refl _ _⟩
  · rw [Nat.mul_one] at ht hsz
    have hlt : g < w.heap.size := (Array.getElem?_eq_some_iff.1 hg).1
    have k := Tryz.strings_Join g 0 cap (ls.map sb) (sb [c]) w (fun j x h => tv_cell hg ht hm j x h) hlt (by rw [List.length_map]; omega) (by rw [List.length_map]; omega) (by rw [joinLib_len]; omega)
    rw [List.length_map, hm] at k
    refine k.mono ?_
    rintro e w' ⟨rfl, g2⟩
    exact ⟨by rw [join_sb], g2⟩
end Go.Proofs.YtmgoabedickooaaGreatDoor
namespace Go.Proofs.YtmgoabedickooaaGreatDoor
set_option maxRecDepth 100000
open Go.RowKit
set_option linter.unusedVariables false

theorem val_two (x y : Int) : val [x, y] = x * 256 + y := by simp [val]
theorem jn_tx4 {l : List Int} (hb : ∀ z ∈ l, 0 ≤ z ∧ z ≤ 255) (h : l.length = 4) : jn 46 (wt t8 1 l 4) = tx (nl l) := by
  match l, h with
  | [a, b, c, d], _ =>
    have e : nl [a, b, c, d] = [a.toNat, b.toNat, c.toNat, d.toNat] := rfl
    rw [e, tx4]
    have e2 : wt t8 1 [a, b, c, d] 4 = [dgs (val [a]).toNat 1, dgs (val [b]).toNat 1, dgs (val [c]).toNat 1, dgs (val [d]).toNat 1] := rfl
    rw [e2, val_one, val_one, val_one, val_one]
    rfl
theorem t16_two {x y : Int} (hx' : 0 ≤ x ∧ x ≤ 255) (hy : 0 ≤ y ∧ y ≤ 255) : t16 (val [x, y]).toNat = hx x.toNat ++ hx y.toNat := by
  rw [val_two]
  unfold t16
  rw [show (x * 256 + y).toNat / 256 = x.toNat from by omega, show (x * 256 + y).toNat % 256 = y.toNat from by omega]
theorem jn_tx16 {l : List Int} (hb : ∀ z ∈ l, 0 ≤ z ∧ z ≤ 255) (h : l.length = 16) : jn 58 (wt t16 2 l 8) = tx (nl l) := by
  match l, h with
  | [a0, a1, a2, a3, a4, a5, a6, a7, a8, a9, a10, a11, a12, a13, a14, a15], _ =>
    have e : nl [a0, a1, a2, a3, a4, a5, a6, a7, a8, a9, a10, a11, a12, a13, a14, a15] = [a0.toNat, a1.toNat, a2.toNat, a3.toNat, a4.toNat, a5.toNat, a6.toNat, a7.toNat, a8.toNat, a9.toNat, a10.toNat, a11.toNat, a12.toNat, a13.toNat, a14.toNat, a15.toNat] := rfl
    rw [e, tx16]
    have e2 : wt t16 2 [a0, a1, a2, a3, a4, a5, a6, a7, a8, a9, a10, a11, a12, a13, a14, a15] 8 = [t16 (val [a0, a1]).toNat, t16 (val [a2, a3]).toNat, t16 (val [a4, a5]).toNat, t16 (val [a6, a7]).toNat, t16 (val [a8, a9]).toNat, t16 (val [a10, a11]).toNat, t16 (val [a12, a13]).toNat, t16 (val [a14, a15]).toNat] := rfl
    rw [e2, t16_two (hb a0 (by simp)) (hb a1 (by simp)), t16_two (hb a2 (by simp)) (hb a3 (by simp)), t16_two (hb a4 (by simp)) (hb a5 (by simp)), t16_two (hb a6 (by simp)) (hb a7 (by simp)), t16_two (hb a8 (by simp)) (hb a9 (by simp)), t16_two (hb a10 (by simp)) (hb a11 (by simp)), t16_two (hb a12 (by simp)) (hb a13 (by simp)), t16_two (hb a14 (by simp)) (hb a15 (by simp))]
    rfl
theorem wt_le8 {l : List Int} (hb : ∀ z ∈ l, 0 ≤ z ∧ z ≤ 255) (m : Nat) (h : l.length = 1 * m) : ∀ x ∈ wt t8 1 l m, x.length ≤ 4 := by
  intro x hx
  simp only [wt, List.mem_map, List.mem_range] at hx
  obtain ⟨i, hi, rfl⟩ := hx
  have := dgs_three _ (vwLt8 hb i (by omega)).2
  unfold t8
  omega
theorem wt_le16 (l : List Int) (m : Nat) : ∀ x ∈ wt t16 2 l m, x.length ≤ 4 := by
  intro x h
  simp only [wt, List.mem_map, List.mem_range] at h
  obtain ⟨i, hi, rfl⟩ := h
  have := t16_le (vw 2 l i)
  rwa [sb_size] at this
/-- How many texts an address has. -/
def pm (F H L : Int) : Nat := (pa F H L).length / (if F = 4 then 1 else 2)
theorem pa_case (F H L : Int) : (pa F H L = [] ∧ ta F H L = []) ∨ (F = 4 ∧ (pa F H L).length = 4) ∨ (F = 6 ∧ (pa F H L).length = 16) := by
  cases hv : va F H L with
  | false =>
    have e : pa F H L = [] := by unfold pa; rw [hv]; rfl
    exact .inl ⟨e, by unfold ta; rw [e]; rfl⟩
  | true =>
    have hF := of_decide_eq_true (show decide _ = true from hv)
    have hl : (pa F H L).length = nb F / 8 := by rw [pa_length, hv]; rfl
    rcases hF with rfl | ⟨rfl, _⟩
    · exact .inr (.inr ⟨rfl, hl⟩)
    · exact .inr (.inl ⟨rfl, hl⟩)
set_option maxHeartbeats 1000000 in
theorem printAddr_ (F H L : Int) (w : World) (hF : InI F) (hH : InU H) (hL : InU L) (hT : Tb w) :
    Calls Tryz.prog 52 #[.agg #[.int .i64 F, .int .u64 H, .int .u64 L]] w fun e w' => e = .returned (.string (sb (ta F H L))) ∧ Below w.heap.size w w' := by
  have B0 := anew w F H L
  have m0 := Am.new w F H L
  have k1 := fun w => putAddr_ F H L w hF hH hL
  have HA := hid (pa_byte F H L)
  have hpc := pa_case F H L
  have HTA : Hid (ta F H L = tx (nl (pa F H L))) := rfl
  generalize pa F H L = P at *
  have hP : P.length ≤ 16 := by
    rcases hpc with ⟨h, _⟩ | ⟨_, h⟩ | ⟨_, h⟩
    · rw [h]; simp
    · omega
    · omega
  have c0 := m0.c0
  have c1 := m0.c1
  have c2 := m0.c2
  go_enter Tryz.func52, Tryz.ntmps52
  go_wp2_with fail
  clear c0 c1 c2
  refine (k1 _).mono ?_
  rintro e w1 ⟨v, rfl, ho, g2⟩
  obtain ⟨va', vc, rfl, vb, hvc, hvm, hvn⟩ := own_form ho HA.out
  replace m0 := m0.kept g2
  replace B0 := bel_bel B0 B0.size g2
  have hs1 := m0.lt
  clear g2 ho k1
  go_wp2_with fail
  refine (newReader7 va' P.length vc P _ vb hvn (by omega) hvc (by omega)).mono ?_
  rintro e w2 ⟨r, g, rfl, rs, hr, hgr, g2⟩
  replace m0 := m0.kept g2
  replace B0 := bel_bel B0 B0.size g2
  clear g2 vb
  have c0 := m0.c0
  by_cases h4 : F = 4
  · subst h4
    obtain ⟨m, hm, hm4, hX⟩ : ∃ m, P.length = 1 * m ∧ m ≤ 16 ∧ jn 46 (wt t8 1 P m) = ta 4 H L := by
      rcases hpc with ⟨h, h'⟩ | ⟨_, h⟩ | ⟨h, _⟩
      · exact ⟨0, by rw [h]; rfl, by omega, by rw [h']; rfl⟩
      · exact ⟨4, by omega, by omega, by rw [jn_tx4 HA.out h, HTA.out]⟩
      · omega
    have k3 := fun w2 rs B0 => written8_ r g m P w2 rs hm hm4 HA.out hgr w hT (by omega) B0
    have k4 := fun v B w hown => join_ 46 m v (wt t8 1 P m) B w hown (wt_length _ _ _ _) hm4 (wt_le8 HA.out m hm)
    have HX := hid hX
    rw [hX] at k4
    clear hX hpc HTA
    have hsb : sb [46] = ⟨#[46]⟩ := rfl
    rw [hsb] at k4
    go_wp2_with fail
    refine (k3 _ rs B0).mono ?_
    rintro e w3 ⟨v, rfl, hown, g3⟩
    replace B0 := B0.trans (g3.mono (by omega))
    clear g3 rs k3
    go_wp2_with fail
    refine (k4 _ _ _ hown).mono ?_
    rintro e w4 ⟨rfl, g4⟩
    replace B0 := bel_bel B0 B0.size g4
    go_wp2_with fail
    go_ret
    exact ⟨rfl, B0⟩
  · have e4 : (F == 4) = false := by simpa using h4
    obtain ⟨m, hm, hm4, hX⟩ : ∃ m, P.length = 2 * m ∧ m ≤ 16 ∧ jn 58 (wt t16 2 P m) = ta F H L := by
      rcases hpc with ⟨h, h'⟩ | ⟨h, _⟩ | ⟨_, h⟩
      · exact ⟨0, by rw [h]; rfl, by omega, by rw [h']; rfl⟩
      · exact absurd h h4
      · exact ⟨8, by omega, by omega, by rw [jn_tx16 HA.out h, HTA.out]⟩
    have k3 := fun w2 rs B0 => written16_ r g m P w2 rs hm hm4 HA.out hgr w hT (by omega) B0
    have k4 := fun v B w hown => join_ 58 m v (wt t16 2 P m) B w hown (wt_length _ _ _ _) hm4 (wt_le16 P m)
    have HX := hid hX
    rw [hX] at k4
    clear hX hpc HTA
    have hsb : sb [58] = ⟨#[58]⟩ := rfl
    rw [hsb] at k4
    go_wp2_with fail
    refine (k3 _ rs B0).mono ?_
    rintro e w3 ⟨v, rfl, hown, g3⟩
    replace B0 := B0.trans (g3.mono (by omega))
    clear g3 rs k3
    go_wp2_with fail
    refine (k4 _ _ _ hown).mono ?_
    rintro e w4 ⟨rfl, g4⟩
    replace B0 := bel_bel B0 B0.size g4
    go_wp2_with fail
    go_ret
    exact ⟨rfl, B0⟩
end Go.Proofs.YtmgoabedickooaaGreatDoor
namespace Go.Proofs.YtmgoabedickooaaGreatDoor
set_option maxRecDepth 100000
open Go.RowKit
set_option linter.unusedVariables false

set_option maxHeartbeats 1000000 in
theorem print_ (F H L B : Int) (w : World) (hF : InI F) (hH : InU H) (hL : InU L) (hB : InI B) (hT : Tb w) :
    Calls Tryz.prog 15 #[.agg #[.int .i64 F, .int .u64 H, .int .u64 L, .int .i64 B]] w fun e w' => e = .returned (.string (sb (tp F H L B))) ∧ Below w.heap.size w w' := by
  have B0 := pnew w F H L B
  have m0 := Pm.new w F H L B
  have k1 := fun w => valid_ F H L B w hF hH hL hB
  have k2 := fun w => printAddr_ F H L w hF hH hL
  have c0 := m0.c0
  have c1 := m0.c1
  have c2 := m0.c2
  have c3 := m0.c3
  go_enter Tryz.func15, Tryz.ntmps15
  go_wp2_with fail
  clear c0 c1 c2 c3
  refine (k1 _).mono ?_
  rintro e w1 ⟨rfl, g2⟩
  replace m0 := m0.kept g2
  replace B0 := bel_bel B0 B0.size g2
  clear g2 k1
  cases hv : vp F H L B with
  | false =>
    go_wp2_with fail
    go_ret
    exact ⟨by unfold tp; rw [hv]; rfl, B0⟩
  | true =>
    have HP : Hid (tp F H L B = ta F H L ++ 47 :: dgs B.toNat 1) := by show _ = _; unfold tp; rw [hv]; rfl
    obtain ⟨h1, h2, h3, _⟩ := vp_in hv
    have hn128 := nb_le F
    obtain ⟨N, rfl⟩ : ∃ N : Nat, B = N := ⟨B.toNat, by omega⟩
    have k3 := fun w => itoa_ N w (by omega)
    rw [Int.toNat_natCast] at HP
    have l1 := ta_le F H L
    have l2 := dgs_three N (by omega)
    have HA : Hid (sb (ta F H L) ++ ⟨#[47]⟩ ++ sb (dgs N 1) = sb (tp F H L N)) := by show _ = _; rw [sb_slash, sb_append, sb_append, HP.out, List.append_assoc]; rfl
    have hq := sb_size (ta F H L)
    have hq2 := sb_size (dgs N 1)
    obtain ⟨P, HPP⟩ : ∃ P, Hid (tp F H L N = P) := ⟨_, rfl⟩
    rw [HPP.out] at HA
    generalize sb (ta F H L) = D1 at *
    generalize sb (dgs N 1) = D2 at *
    have a1 := fun w => run_string_add_sum (P := Tryz.prog) w D1 ⟨#[47]⟩ (by show D1.size + 1 ≤ _; omega)
    have a2 := fun w => run_string_add_sum (P := Tryz.prog) w (D1 ++ ⟨#[47]⟩) D2 (by rw [ByteArray.size_append]; show D1.size + 1 + D2.size ≤ _; omega)
    clear hv hq hq2 l1 l2 HP h1 h2 h3 hn128
    go_wp2_with fail
    refine wp_region_held_drew (S := fun wx => Pm wx w.heap.size F H L N) (by kernel_rfl) m0.drew (fun hHeld => ?_)
    replace m0 := m0.drew
    replace B0 := bel_drew1 B0
    generalize w1.drew = wd at *
    refine take_to 0 6 (.pointer (some ⟨w.heap.size, 0, none⟩)) rfl rfl (by kernel_rfl) (by kernel_rfl) (by kernel_rfl) (fun _ _ _ h => h) (Or.inl ⟨by rfl, fun w' h => ?_⟩) hHeld ?_
    · go_simp
    try simp only [List.setIfInBounds_toArray, List.set_cons_zero, List.set_cons_succ]
    refine take_to 1 7 (.agg #[.int .i64 F, .int .u64 H, .int .u64 L]) rfl rfl (by kernel_rfl) (by kernel_rfl) (by kernel_rfl) (fun _ _ _ h => h) (Or.inl ⟨by rfl, fun w' h => ?_⟩) hHeld ?_
    · have x0 := Pm.c0 h
      have x1 := Pm.c1 h
      have x2 := Pm.c2 h
      go_simp
    try simp only [List.setIfInBounds_toArray, List.set_cons_zero, List.set_cons_succ]
    refine take_to 4 10 (.pointer (some ⟨w.heap.size, 3, none⟩)) rfl rfl (by kernel_rfl) (by kernel_rfl) (by kernel_rfl) (fun _ _ _ h => h) (Or.inl ⟨by rfl, fun w' h => ?_⟩) hHeld ?_
    · go_simp
    try simp only [List.setIfInBounds_toArray, List.set_cons_zero, List.set_cons_succ]
    refine take_to 5 11 (.int .i64 N) rfl rfl (by kernel_rfl) (by kernel_rfl) (by kernel_rfl) (fun _ _ _ h => h) (Or.inl ⟨by rfl, fun w' h => ?_⟩) hHeld ?_
    · have x0 := Pm.c3 h
      go_simp
    try simp only [List.setIfInBounds_toArray, List.set_cons_zero, List.set_cons_succ]
    refine wpAnyH_ready (rs := [2]) (by kernel_rfl) (by simp) ?_
    refine AllReadyH.cons rfl (fun K' hK' => ?_) AllReadyH.nil
    rw [if_pos (by rfl)]
    go_wp2_with fail
    refine (k2 _ (hT.kept B0)).mono ?_
    rintro e w2 ⟨rfl, g2⟩
    replace m0 := m0.kept g2
    replace B0 := bel_bel B0 B0.size g2
    clear g2 hHeld
    try go_wp2_with fail
    refine hK'.out _ _ m0 (fun hHeld => ?_)
    clear hK' K'
    try simp only [Act.put, List.setIfInBounds_toArray, List.set_cons_zero, List.set_cons_succ]
    refine take_to 3 9 (.string (D1 ++ ⟨#[47]⟩)) rfl rfl (by kernel_rfl) (by kernel_rfl) (by kernel_rfl) (fun _ _ _ h => h) (Or.inl ⟨by rfl, fun w' h => ?_⟩) hHeld ?_
    · go_simp
    try simp only [List.setIfInBounds_toArray, List.set_cons_zero, List.set_cons_succ]
    refine wpAnyH_ready (rs := [6]) (by kernel_rfl) (by simp) ?_
    refine AllReadyH.cons rfl (fun K' hK' => ?_) AllReadyH.nil
    rw [if_pos (by rfl)]
    go_wp2_with fail
    refine (k3 _ (hT.kept B0)).mono ?_
    rintro e w3 ⟨rfl, g2⟩
    replace m0 := m0.kept g2
    replace B0 := bel_bel B0 B0.size g2
    clear g2 hHeld
    try go_wp2_with fail
    refine hK'.out _ _ m0 (fun hHeld => ?_)
    clear hK' K'
    try simp only [Act.put, List.setIfInBounds_toArray, List.set_cons_zero, List.set_cons_succ]
    refine take_to 7 13 (.string (D1 ++ ⟨#[47]⟩ ++ D2)) rfl rfl (by kernel_rfl) (by kernel_rfl) (by kernel_rfl) (fun _ _ _ h => h) (Or.inl ⟨by rfl, fun w' h => ?_⟩) hHeld ?_
    · go_simp
    try simp only [List.setIfInBounds_toArray, List.set_cons_zero, List.set_cons_succ]
    refine take_to 8 2 (.string (D1 ++ ⟨#[47]⟩ ++ D2)) rfl rfl (by kernel_rfl) (by kernel_rfl) (by kernel_rfl) (fun _ _ _ h => h) (Or.inl ⟨by rfl, fun w' h => ?_⟩) hHeld ?_
    · go_simp
    try simp only [List.setIfInBounds_toArray, List.set_cons_zero, List.set_cons_succ]
    refine wpAnyH_done (by kernel_rfl) ?_ _
    go_wp2_with fail
    go_ret
    exact ⟨by rw [HPP.out, ← HA.out]; rfl, B0⟩
end Go.Proofs.YtmgoabedickooaaGreatDoor
namespace Go.Proofs.YtmgoabedickooaaGreatDoor
set_option maxRecDepth 100000
open Go.RowKit
set_option linter.unusedVariables false

/-- Where the first c lies; the length where there is none. -/
def ix (c : Nat) : List Nat → Nat
  | [] => 0
  | x :: r => if x = c then 0 else ix c r + 1
theorem ix_le (c : Nat) (l : List Nat) : ix c l ≤ l.length := by
  induction l with
  | nil => exact Nat.le_refl _
  | cons x r ih => rw [ix]; split <;> simp <;> omega
theorem ofNat_inj {x c : Nat} (hx : x < 256) (hc : c < 256) : UInt8.ofNat x = UInt8.ofNat c ↔ x = c := by
  constructor
  · intro h
    have := congrArg UInt8.toNat h
    simp at this
    omega
  · intro h; rw [h]
theorem index_ix (c : Nat) (hc : c < 256) (l : List Nat) (hy : ∀ x ∈ l, x < 256) : Lib.indexByte (l.map UInt8.ofNat) (UInt8.ofNat c) = if ix c l < l.length then (ix c l : Int) else -1 := by
  induction l with
  | nil => rfl
  | cons x r ih =>
    have ih := ih (fun z hz => hy z (by simp [hz]))
    have hx := ofNat_inj (hy x (by simp)) hc
    rw [List.map_cons, Lib.indexByte, ix]
    by_cases e : x = c
    · subst e
      simp
    · have e2 : ¬ UInt8.ofNat x = UInt8.ofNat c := fun h => e (hx.1 h)
      have e3 : ¬ c = x := fun h => e h.symm
      rw [ih, if_neg e]
      by_cases h : ix c r < r.length
      · simp [e2, h]
        try omega
      · simp [e2, h]
        try omega
theorem sb_data (l : List Nat) : (sb l).data.toList = l.map UInt8.ofNat := by simp [sb]
set_option maxHeartbeats 1000000 in
theorem cutL_ (c : Nat) (l : List Nat) (w : World) (hc : c < 256) (hy : ∀ x ∈ l, x < 256) (hl : l.length ≤ maxLen) :
    Calls Tryz.prog 127 #[.string (sb l), .string ⟨#[UInt8.ofNat c]⟩] w fun e w' => e = .returned (.tuple #[.string (sb (l.take (ix c l))), .string (sb (l.drop (ix c l + 1))), .bool (decide (ix c l < l.length))]) ∧ ∃ nq, w' = w.drewN nq := by
  have hI := fun w => Tryz.stringslite_Index_one (sb l) (UInt8.ofNat c) w
  rw [sb_data, index_ix c hc l hy] at hI
  have hle := ix_le c l
  have hs := sb_size l
  have HX := hid (fun a b => sb_cut l a b)
  by_cases hf : ix c l < l.length
  · rw [if_pos hf] at hI
    rw [decide_eq_true hf]
    have H1 : Hid ((sb l).extract 0 (ix c l) = sb (l.take (ix c l))) := by show _ = _; rw [HX.out, List.drop_zero]
    have H2 : Hid ((sb l).extract (ix c l + 1) l.length = sb (l.drop (ix c l + 1))) := by show _ = _; rw [HX.out, List.take_of_length_le (Nat.le_refl _)]
    generalize sb (l.take (ix c l)) = A at *
    generalize sb (l.drop (ix c l + 1)) = D at *
    generalize ix c l = i at *
    generalize sb l = S at *
    generalize l.length = n at *
    unfold maxLen at hl
    have c1 : (0 : Int) ≤ ↑i := by omega
    have c2 : (↑i : Int) ≤ ↑S.size := by omega
    have c3 : (0 : Int) ≤ ↑i + 1 := by omega
    have c4 : (↑i + 1 : Int) ≤ ↑S.size := by omega
    generalize UInt8.ofNat c = c8 at *
    go_enter Tryz.func127, Tryz.ntmps127
    go_wp2_with (go_at_call 178; refine (hI _).mono ?_; rintro e w' ⟨rfl, rfl⟩)
    go_region
    go_wp2_with fail
    go_ret3
    refine ⟨?_, 1, rfl⟩
    rw [← H1.out, ← H2.out]
    rw [← hs]
    rfl
  · rw [if_neg hf] at hI
    rw [decide_eq_false hf]
    have hi : ix c l = l.length := by omega
    rw [hi, List.take_of_length_le (Nat.le_refl _), List.drop_of_length_le (by omega)]
    generalize sb l = S at *
    generalize UInt8.ofNat c = c8 at *
    go_enter Tryz.func127, Tryz.ntmps127
    go_wp2_with (go_at_call 178; refine (hI _).mono ?_; rintro e w' ⟨rfl, rfl⟩)
    go_ret3
    exact ⟨rfl, 0, rfl⟩
set_option maxHeartbeats 400000 in
theorem cut_ (c : Nat) (l : List Nat) (w : World) (hc : c < 256) (hy : ∀ x ∈ l, x < 256) (hl : l.length ≤ maxLen) :
    Calls Tryz.prog 54 #[.string (sb l), .string ⟨#[UInt8.ofNat c]⟩] w fun e w' => e = .returned (.tuple #[.string (sb (l.take (ix c l))), .string (sb (l.drop (ix c l + 1))), .bool (decide (ix c l < l.length))]) ∧ ∃ nq, w' = w.drewN nq := by
  have k := fun w => cutL_ c l w hc hy hl
  go_enter Tryz.func54, Tryz.ntmps54
  go_wp2_with (go_at_call 127; refine (k _).mono ?_; rintro e w1 ⟨rfl, nq, rfl⟩)
  go_ret3
  exact ⟨rfl, nq, rfl⟩
end Go.Proofs.YtmgoabedickooaaGreatDoor
