import Derived.Test.YtkeogggeefnoeaaGreatDoorSMath
import Derived.Test.YtkeogggeefnoeaaGreatDoorPMath
import Derived.Test.YtkeogggeefnoeaaGreatDoorShelf
import Derived.Laws.Concat
import Derived.WideShapes
import Derived.Laws.ResultCell
import Derived.Laws.Tables
import Derived.Laws.Bits64b
import Derived.Laws.IdiomStrings
namespace Go.Proofs.YtkeogggeefnoeaaGreatDoor
set_option linter.unusedSimpArgs false
set_option maxRecDepth 100000
open Go.RowKit
set_option linter.unusedVariables false

/-- Numbers as a text. -/
def sb (l : List Nat) : ByteArray := ⟨(l.map UInt8.ofNat).toArray⟩
def ic (l : List Nat) : List Int := l.map fun x : Nat => (x : Int)
theorem ic_length (l : List Nat) : (ic l).length = l.length := by simp [ic]
theorem ic_get (l : List Nat) (i : Nat) : (ic l).getD i 0 = ((l.getD i 0 : Nat) : Int) := by
  simp only [ic, List.getD, List.getElem?_map]
  cases l[i]? <;> rfl
theorem list_ext6 {a b : List Nat} (hl : a.length = b.length) (h : ∀ i, i < a.length → a.getD i 0 = b.getD i 0) : a = b := by
  apply List.ext_getElem hl
  intro i h1 h2
  have := h i h1
  simpa [List.getD, h1, h2] using this
theorem sb_append (a b : List Nat) : sb a ++ sb b = sb (a ++ b) := by
  apply ByteArray.ext
  simp [sb]
theorem sb_size (a : List Nat) : (sb a).size = a.length := by
  show (sb a).data.size = _
  simp [sb]
theorem dgs_length (n least : Nat) (hn : n ≤ 9223372036854775807) (hl : least ≤ 20) : (dgs n least).length ≤ 20 := by
  unfold dgs
  rw [dl_length]
  have := (cnt_lt 19 n).2 (by have : (10 : Nat) ^ 19 = 10000000000000000000 := by decide
                              omega)
  unfold dn
  rw [Nat.max_def]
  split <;> omega
theorem sb_get (l : List Nat) (hy : ∀ x ∈ l, x < 256) (i : Nat) (h : i < l.length) : ∃ h' : i < (sb l).data.size, ((sb l).data[i].toNat) = l.getD i 0 := by
  refine ⟨by simp [sb]; exact h, ?_⟩
  simp [sb, List.getD, h]
  have := hy l[i] (List.getElem_mem h)
  omega
theorem sb_inj {a b : List Nat} (ha : ∀ x ∈ a, x < 256) (hb : ∀ x ∈ b, x < 256) (h : sb a = sb b) : a = b := by
  have e : a.map UInt8.ofNat = b.map UInt8.ofNat := by
    have := congrArg ByteArray.data h
    simpa [sb] using this
  have hl : a.length = b.length := by have := congrArg List.length e; simpa using this
  refine list_ext6 hl fun i hi => ?_
  have h1 := congrArg (fun l : List UInt8 => (l.map UInt8.toNat).getD i 0) e
  simp only [List.map_map] at h1
  have h2 : ∀ (l : List Nat) (hy : ∀ x ∈ l, x < 256), (l.map (UInt8.toNat ∘ UInt8.ofNat)).getD i 0 = l.getD i 0 := fun l hy => by
    simp only [List.getD, List.getElem?_map]
    cases q : l[i]? with
    | none => rfl
    | some z =>
      have := hy z (List.mem_of_getElem? q)
      simp
      omega
  rw [h2 a ha, h2 b hb] at h1
  exact h1
theorem size_data (bs : ByteArray) : bs.data.toList.length = bs.size := Array.length_toList
theorem loop_data (bs : ByteArray) : ∀ (k i : Nat) (r : List UInt8), bs.size - i = k → ByteArray.toList.loop bs i r = r.reverse ++ bs.data.toList.drop i := by
  intro k
  induction k with
  | zero =>
    intro i r h
    rw [ByteArray.toList.loop]
    rw [if_neg (by omega)]
    have : bs.data.toList.drop i = [] := List.drop_eq_nil_of_le (by rw [size_data]; omega)
    rw [this, List.append_nil]
  | succ k ih =>
    intro i r h
    rw [ByteArray.toList.loop]
    rw [if_pos (by omega), ih (i + 1) _ (by omega)]
    have hi : i < bs.data.toList.length := by rw [size_data]; omega
    rw [List.drop_eq_getElem_cons hi, List.reverse_cons, List.append_assoc]
    have : bs.get! i = bs.data.toList[i] := by
      show bs.data[i]! = _
      rw [getElem!_pos bs.data i (by rw [← Array.length_toList]; exact hi)]
      simp
    rw [this]
    rfl
theorem toList_data (bs : ByteArray) : bs.toList = bs.data.toList := by
  unfold ByteArray.toList
  rw [loop_data bs _ 0 [] rfl]
  simp
theorem toList_inj {a b : ByteArray} (h : a.toList = b.toList) : a = b := by
  rw [toList_data, toList_data] at h
  exact Go.WideShapes.bytes_inj h
theorem getD_lt6 {l : List Nat} (h : ∀ x ∈ l, x < 256) (i : Nat) : l.getD i 0 < 256 := by
  simp only [List.getD]
  cases e : l[i]? with
  | none => simp
  | some z => exact h z (List.mem_of_getElem? e)
theorem run_at (l : List Nat) (hy : ∀ x ∈ l, x < 256) (i : Nat) (h : i < l.length) (w : World) : (Instr.index 9 (.string (sb l)) (.int .i64 (i : Int))).run Tryz.prog w = .ok (.int .u8 ((l.getD i 0 : Nat) : Int)) w := by
  obtain ⟨h', e⟩ := sb_get l hy i h
  have hi : (0 : Int) ≤ (i : Int) ∧ (i : Int) < ((sb l).size : Int) := by rw [sb_size]; omega
  rw [run_index_string w _ _ _ _ (by kernel_rfl), dif_pos hi]
  have e2 : ((sb l)[(i : Int).toNat]'(by rw [Int.toNat_natCast]; exact h')).toNat = l.getD i 0 := e
  rw [e2]
theorem getD_byte6 {zs : List Int} (h : ∀ z ∈ zs, 0 ≤ z ∧ z ≤ 255) (i : Nat) : 0 ≤ zs.getD i 0 ∧ zs.getD i 0 ≤ 255 := by
  simp only [List.getD]
  cases e : zs[i]? with
  | none => simp
  | some z => exact h z (List.mem_of_getElem? e)
theorem var_kept {w w' : World} {s : String} {x : Array Value} (h : w.var? Tryz.prog s = some x) (hb : Below w.heap.size w w') : w'.var? Tryz.prog s = some x := by
  unfold World.var? at *
  cases hg : Tryz.prog.globalNamed s with
  | none => simp [hg] at h
  | some g =>
    simp only [hg, Option.bind_some] at h ⊢
    have hlt : g < w.heap.size := by
      rcases Nat.lt_or_ge g w.heap.size with h' | h'
      · exact h'
      · rw [Array.getElem?_eq_none h'] at h; simp at h
    rw [hb.block g hlt]
    exact h
/-- What the library's variables hold: the table of powers of ten, the two errors of package strconv. -/
structure Tb (w : World) : Prop where
  tab : Lib.TabIs Tryz.prog w "internal/strconv.uint64pow10" .u64 Lib.pow10Tab
  syn : ∃ tp p, w.var? Tryz.prog "strconv.ErrSyntax" = some #[.iface tp p]
  rng : ∃ tp p, w.var? Tryz.prog "strconv.ErrRange" = some #[.iface tp p]
  bru : ∃ cs, w.var? Tryz.prog "math/bits.deBruijn64tab" = some cs ∧ cs[15]? = some (.int .u8 4)
theorem Tb.kept {w w' : World} (h : Tb w) (hb : Below w.heap.size w w') : Tb w' := by
  obtain ⟨h1, ⟨t2, p2, h2⟩, ⟨t3, p3, h3⟩, ⟨cs, h4, h5⟩⟩ := h
  exact ⟨by unfold Lib.TabIs at *; exact var_kept h1 hb, ⟨t2, p2, var_kept h2 hb⟩, ⟨t3, p3, var_kept h3 hb⟩, ⟨cs, var_kept h4 hb, h5⟩⟩
theorem Tb.alloc {w : World} (h : Tb w) (o : Obj) : Tb (w.alloc o) := h.kept ((Below.refl _ _).alloc (Nat.le_refl _) _)
theorem below_grow6 (w : World) (k : Nat) (os : Array Obj) : Below w.heap.size w (Sort.grow (w.drewN k) os) :=
  ⟨rfl, rfl, rfl, by show w.heap.size ≤ (w.heap ++ os).size; rw [Array.size_append]; omega, fun j hj => by
    show (w.heap ++ os)[j]? = _
    rw [Array.getElem?_append_left hj]⟩
theorem cnt_pos (u : Nat) (h : 0 < u) : 1 ≤ cnt u := by
  rw [cnt, dif_neg (by omega)]
  omega
theorem dec_dgs (k : Nat) : ∀ u, u < k → Lib.decDigits u = (dgs u 1).map UInt8.ofNat := by
  induction k with
  | zero => intro u h; omega
  | succ k ih =>
    intro u hu
    rw [Lib.decDigits]
    by_cases h : u < 10
    · rw [dif_pos h]
      have hc := (cnt_lt 1 u).2 (by omega)
      have : dn u 1 = 1 := by unfold dn; rw [Nat.max_def]; split <;> omega
      unfold dgs
      rw [this, dl, dl, List.nil_append, Nat.mod_eq_of_lt h]
      rfl
    · rw [dif_neg h, ih (u / 10) (by omega)]
      have hc : cnt u = cnt (u / 10) + 1 := by conv => lhs; rw [cnt]
                                               rw [dif_neg (by omega)]
      have hp := cnt_pos (u / 10) (by omega)
      have e1 : dn u 1 = cnt (u / 10) + 1 := by unfold dn; rw [hc, Nat.max_def]; split <;> omega
      have e2 : dn (u / 10) 1 = cnt (u / 10) := by unfold dn; rw [Nat.max_def]; split <;> omega
      unfold dgs
      rw [e1, e2, dl, List.map_append]
      rfl
theorem itoa_sb (u : Nat) : (⟨(Lib.itoa (u : Int)).toArray⟩ : ByteArray) = sb (dgs u 1) := by
  unfold Lib.itoa
  rw [if_neg (by omega), Int.toNat_natCast, dec_dgs (u + 1) u (by omega)]
  rfl
theorem itoa_ (u : Nat) (w : World) (h : u ≤ 9223372036854775807) (hT : Tb w) :
    Calls Tryz.prog 26 #[.int .i64 u] w fun e w' => e = .returned (.string (sb (dgs u 1))) ∧ Below w.heap.size w w' := by
  refine (Tryz.strconv_Itoa (u : Int) (by omega) (by omega) w hT.tab).mono ?_
  rintro e w' ⟨rfl, k, os, rfl⟩
  exact ⟨by rw [itoa_sb], below_grow6 _ _ _⟩
/-- The numbers of an int. -/
def InI (x : Int) : Prop := -9223372036854775808 ≤ x ∧ x ≤ 9223372036854775807
theorem or8 (v z : Int) (v0 : 0 ≤ v) (v1 : v < 72057594037927936) (z0 : 0 ≤ z) (z1 : z ≤ 255) : bits BinOp.or IntKind.u64 (v * 256) z = v * 256 + z := by
  obtain ⟨a, rfl⟩ := Int.eq_ofNat_of_zero_le v0
  obtain ⟨b, rfl⟩ := Int.eq_ofNat_of_zero_le z0
  have h := bits_or_u64_nat (a * 256) b (by omega) (by omega)
  have e : a * 256 ||| b = a * 256 + b := by
    have := Nat.shiftLeft_add_eq_or_of_lt (a := a) (b := b) (i := 8) (by omega)
    rw [Nat.shiftLeft_eq] at this
    exact this.symm
  rw [e] at h
  rw [show ((a : Int) * 256) = ((a * 256 : Nat) : Int) from by omega, h]
  omega

end Go.Proofs.YtkeogggeefnoeaaGreatDoor
namespace Go.Proofs.YtkeogggeefnoeaaGreatDoor
set_option linter.unusedSimpArgs false
set_option maxRecDepth 100000
open Go.RowKit
set_option linter.unusedVariables false

/-! The library: numbers written to the base 16. -/
def hg (x : Nat) : Nat := if x < 10 then 48 + x else 87 + x
def rw8 (n : Nat) (f : Nat → Nat) : Array Value := ((List.range n).map fun i => Value.int .u8 (f i : Nat)).toArray
theorem rw8_size (n : Nat) (f : Nat → Nat) : (rw8 n f).size = n := by simp [rw8]
theorem rw8_get (n : Nat) (f : Nat → Nat) (i : Nat) (h : i < n) : (rw8 n f)[i]? = some (.int .u8 (f i : Nat)) := by simp [rw8, h]
theorem rw8_set (n : Nat) (f : Nat → Nat) (i x : Nat) : (rw8 n f).setIfInBounds i (.int .u8 (x : Nat)) = rw8 n fun j => if j = i then x else f j := by
  apply Array.ext_getElem?
  intro j
  rw [Array.getElem?_setIfInBounds, rw8_size]
  by_cases hj : j < n
  · rw [rw8_get _ _ j hj, rw8_get _ _ j hj]
    by_cases h : i = j
    · subst h; simp [hj]
    · rw [if_neg h, if_neg (fun e => h e.symm)]
  · have e1 : ∀ f, (rw8 n f)[j]? = none := fun f => Array.getElem?_eq_none (by rw [rw8_size]; omega)
    rw [e1, e1]
    split
    · rw [if_neg (by omega)]
    · rfl
/-- A row of bytes in a variable. -/
def Rw (w : World) (g : Nat) (t : TypeId) (n : Nat) (f : Nat → Nat) : Prop := w.heap[g]? = some (.cells (rw8 n f) t (0, 0))
theorem Rw.lt {w : World} {g t n : Nat} {f : Nat → Nat} (h : Rw w g t n f) : g < w.heap.size := (Array.getElem?_eq_some_iff.1 h).1
theorem Rw.fz {w : World} {g t n : Nat} {f : Nat → Nat} (h : Rw w g t n f) (i : Nat) : w.frozen? ⟨g, i, none⟩ = false := by unfold Rw at h; simp [World.frozen?, h]
theorem Rw.byte {w : World} {g t n : Nat} {f : Nat → Nat} (h : Rw w g t n f) (i : Nat) (hi : i < n) : w.cell? ⟨g, i, none⟩ = some (.int .u8 (f i : Nat)) := (cell_of_row w g i _ t (0, 0) h).trans (rw8_get n f i hi)
theorem Rw.set {w : World} {g t n : Nat} {f : Nat → Nat} (h : Rw w g t n f) (i x : Nat) : Rw (w.setCell ⟨g, i, none⟩ (.int .u8 (x : Nat))) g t n fun j => if j = i then x else f j := by
  unfold Rw at *; rw [← rw8_set]; simp [World.setCell, Array.getElem?_modify, h]
theorem Rw.new (w : World) (t n : Nat) (f : Nat → Nat) : Rw (w.alloc (.cells (rw8 n f) t)) w.heap.size t n f := heap_alloc_new w _
/-- The k lowest digits of x to the base 16, the highest first. -/
def hk (x : Nat) : Nat → List Nat
  | 0 => []
  | k + 1 => hk (x / 16) k ++ [hg (x % 16)]
theorem hk_length (k : Nat) : ∀ x, (hk x k).length = k := by
  induction k with
  | zero => intro x; rfl
  | succ k ih => intro x; rw [hk, List.length_append, ih]; rfl
def hc (x : Nat) : Nat := if x < 16 then 1 else if x < 256 then 2 else if x < 4096 then 3 else 4
/-- x to the base 16. -/
def h16 (x : Nat) : List Nat := hk x (hc x)
theorem zero65 : Tryz.zeroCells161 = rw8 65 (fun _ => 0) := by kernel_rfl
theorem pow2_ (w : World) : Calls Tryz.prog 96 #[.int .i64 16] w fun e w' => e = .returned (.bool true) ∧ w' = w := by
  have h : bits BinOp.and .i64 16 15 = 0 := by decide
  go_enter Tryz.func96, Tryz.ntmps96
  go_wp2_with fail
  go_ret
  exact ⟨rfl, rfl⟩
theorem gBru : Tryz.prog.globalNamed "math/bits.deBruijn64tab" = some 6 := by kernel_rfl
theorem tz64_ (w : World) (hT : Tb w) : Calls Tryz.prog 118 #[.int .u64 16] w fun e w' => e = .returned (.int .i64 4) ∧ w' = w := by
  obtain ⟨cs, h1, h2⟩ := hT.bru
  have hc : w.cell? ⟨6, 15, none⟩ = some (.int .u8 4) := by
    have := World.var?_cell gBru h1 15
    rw [h2] at this
    exact this
  clear h1 h2 hT
  have e1 : IntKind.u64.wrap (-16) = 18446744073709551600 := by rw [IntKind.wrap_u64]; decide
  have e2 : bits BinOp.and .u64 16 18446744073709551600 = 16 := by decide
  have e3 : IntKind.u64.wrap 4573923408821661840 = 4573923408821661840 := by rw [IntKind.wrap_u64]; decide
  go_enter Tryz.func118, Tryz.ntmps118
  go_wp2_with fail
  go_ret
  exact ⟨rfl, rfl⟩
theorem tz_ (w : World) (hT : Tb w) : Calls Tryz.prog 97 #[.int .u64 16] w fun e w' => e = .returned (.int .i64 4) ∧ w' = w := by
  have k := tz64_ w hT
  go_enter Tryz.func97, Tryz.ntmps97
  go_wp2_with (go_at_call 118; refine k.mono ?_; rintro e w' ⟨rfl, rfl⟩)
  go_ret
  exact ⟨rfl, rfl⟩
theorem hk_get (k : Nat) : ∀ x i, i < k → (hk x k).getD i 0 = hg (x / 16 ^ (k - 1 - i) % 16) := by
  induction k with
  | zero => intro x i h; omega
  | succ k ih =>
    intro x i h
    rw [hk]
    by_cases e : i < k
    · have e1 : (hk (x / 16) k ++ [hg (x % 16)]).getD i 0 = (hk (x / 16) k).getD i 0 := by
        simp only [List.getD]
        rw [List.getElem?_append_left (by rw [hk_length]; exact e)]
      rw [e1, ih (x / 16) i e, Nat.div_div_eq_div_mul]
      have : 16 * 16 ^ (k - 1 - i) = 16 ^ (k + 1 - 1 - i) := by
        rw [Nat.mul_comm, ← Nat.pow_succ]
        congr 1
        omega
      rw [this]
    · obtain rfl : i = k := by omega
      simp only [List.getD]
      rw [List.getElem?_append_right (by rw [hk_length]; exact Nat.le_refl _), hk_length]
      simp
theorem hg_lt (y : Nat) (h : y < 16) : hg y < 256 := by unfold hg; split <;> omega
theorem hk_lt (k : Nat) : ∀ x, ∀ z ∈ hk x k, z < 256 := by
  induction k with
  | zero => intro x z hz; simp [hk] at hz
  | succ k ih =>
    intro x z hz
    rw [hk] at hz
    rcases List.mem_append.1 hz with h | h
    · exact ih _ z h
    · simp at h
      rw [h]
      exact hg_lt _ (by omega)
def d36 : ByteArray := ⟨#[48, 49, 50, 51, 52, 53, 54, 55, 56, 57, 97, 98, 99, 100, 101, 102, 103, 104, 105, 106, 107, 108, 109, 110, 111, 112, 113, 114, 115, 116, 117, 118, 119, 120, 121, 122]⟩
theorem dig36 (y : Nat) (hy : y < 16) (h : y < d36.size) : (d36[y]'h).toNat = hg y := by
  have e : ∀ y : Nat, (hy : y < 16) → ((d36)[y]'(Nat.lt_of_lt_of_le hy (by decide))).toNat = hg y := by decide
  exact e y hy
theorem and15 (U : Nat) (h : U < 65536) : bits BinOp.and .u64 (U : Int) 15 = ((U % 16 : Nat) : Int) := by
  have e := bits_and_u64_nat U 15 (by omega) (by omega)
  have e2 : U &&& 15 = U % 16 := Nat.and_two_pow_sub_one_eq_mod U 4
  rw [e2] at e
  exact e
/-- A text out of a row's end. -/
theorem run_text16 (w : World) (g t k cap tt : Nat) (f : Nat → Nat) (l : List Nat) (hr : Rw w g tt 65 f) (hk : l.length = k) (ht : t + k = 65) (hy : ∀ x ∈ l, x < 256) (hf : ∀ i, i < k → f (t + i) = l.getD i 0) : (convert 40 9 (.slice (some ⟨g, t, none⟩) k cap)).run Tryz.prog w = .ok (.string (sb l)) w := by
  have := run_convert_bytes_back (P := Tryz.prog) w 40 9 5 ⟨g, t, none⟩ cap (l.map UInt8.ofNat) Tryz.underlying40 (by kernel_rfl) (by kernel_rfl) (fun j hj => by
    have hj' : j < l.length := by simpa using hj
    rw [Addr.add_lit, hr.byte (t + j) (by omega), hf j (by omega)]
    have e : (l.map UInt8.ofNat)[j].toNat = l.getD j 0 := by
      simp [List.getD, hj']
      have := hy l[j] (List.getElem_mem hj')
      omega
    rw [e])
  rw [List.length_map, hk] at this
  exact this
theorem sl65 (g t k : Nat) (W : World) (h : t + k = 65) (hk : 0 < k) : (Instr.sliceAt 161 (.pointer (some ⟨g, 0, none⟩)) (some (.int .i64 (t : Int))) none none).run Tryz.prog W = .ok (.slice (some ⟨g, t, none⟩) k k) W := by
  have hal : Tryz.prog.arrayLen 161 = 65 := by kernel_rfl
  have he : Tryz.prog.elem 161 = 5 := by kernel_rfl
  rw [run_sliceAt_array_l W 161 ⟨g, 0, none⟩ (by kernel_rfl) .i64 (t : Int) (by omega) (by rw [hal]; omega), hal, he, Tryz.sizeOf5, Result.andThen_ok]
  unfold slicedAt
  rw [Int.toNat_natCast, if_neg (by omega), Nat.mul_one, Addr.add_lit, Nat.zero_add, show 65 - t = k from by omega]
theorem h16_of (x j : Nat) (hj : j ≤ 3) (h0 : j = 0 ∨ 16 ^ j ≤ x) (h1 : x / 16 ^ j < 16) : h16 x = hk x (j + 1) := by
  unfold h16
  congr 1
  unfold hc
  have : j = 0 ∨ j = 1 ∨ j = 2 ∨ j = 3 := by omega
  rcases this with rfl | rfl | rfl | rfl
  · rw [if_pos (by omega)]
  · have h2 : 16 ≤ x := by omega
    have h3 : x < 256 := by omega
    rw [if_neg (by omega), if_pos h3]
  · have h2 : 256 ≤ x := by omega
    have h3 : x < 4096 := by omega
    rw [if_neg (by omega), if_neg (by omega), if_pos h3]
  · have h2 : 4096 ≤ x := by omega
    rw [if_neg (by omega), if_neg (by omega), if_neg (by omega)]
set_option maxHeartbeats 1000000 in
theorem formatBits_ (x : Nat) (w : World) (hx : x < 65536) (hT : Tb w) :
    Calls Tryz.prog 75 #[.slice none 0 0, .int .u64 x, .int .i64 16, .bool false, .bool false] w fun e w' => e = .returned (.tuple #[.slice none 0 0, .string (sb (h16 x))]) ∧ Below w.heap.size w w' := by
  have B0 : Below w.heap.size w (w.alloc (.cells Tryz.zeroCells161 161)) := (Below.refl _ _).alloc (Nat.le_refl _) _
  have r0 : Rw (w.alloc (.cells Tryz.zeroCells161 161)) w.heap.size 161 65 (fun _ => 0) := by
    rw [zero65]
    exact Rw.new w 161 65 (fun _ => 0)
  have hT1 := hT.kept B0
  have HS := hid (h16_of x)
  obtain ⟨S, HSS⟩ : ∃ S, Hid (sb (h16 x) = S) := ⟨_, rfl⟩
  rw [HSS.out]
  go_enter Tryz.func75, Tryz.ntmps75
  go_name_bytes_deep 40 MG hMG
  clear hMG
  go_name_bytes_deep 30 DG hDG
  obtain rfl : DG = d36 := hDG.symm
  clear hDG
  go_wp2_with fail
  refine (pow2_ _).mono ?_
  rintro e w1 ⟨rfl, rfl⟩
  generalize w.alloc (.cells Tryz.zeroCells161 161) = w1 at *
  go_wp2_with fail
  refine (tz_ _ hT1).mono ?_
  rintro e w2 ⟨rfl, rfl⟩
  clear hT1
  go_wp2_with fail
  go_loopw [1, 13] (fun u i wr => ∃ j t U : Nat, j ≤ 3 ∧ t + j = 64 ∧ U < 65536 ∧ u = .int .u64 (U : Int) ∧ i = .int .i64 ((t : Int) + 1) ∧ Hid (U = x / 16 ^ j ∧ (j = 0 ∨ 16 ^ j ≤ x) ∧ (∃ f, Rw wr w.heap.size 161 65 f ∧ ∀ k, k < j → f (64 - k) = hg (x / 16 ^ k % 16))) ∧ Below w.heap.size w wr) (fun _ i _ => (intOf i).toNat)
  case atStart => exact ⟨0, 64, x, by omega, rfl, hx, rfl, rfl, ⟨by simp, .inl rfl, _, r0, fun k h => by omega⟩, B0⟩
  case round =>
    clear r0 B0
    obtain ⟨j, t, U, hj, htj, hU, rfl, rfl, HH, B0⟩ := hrel
    obtain ⟨hUx, hpx, f, r0, hf⟩ := HH.out
    clear HH
    have c0 := r0.byte t (by omega)
    have f0 := r0.fz t
    have hsz : d36.size = 36 := rfl
    have hmod : ((U % 16 : Nat) : Int) < 36 := by omega
    have q1 : ∀ h : U % 16 < d36.size, (d36[U % 16]'h).toNat = hg (U % 16) := fun h => dig36 _ (by omega) h
    have ha := and15 U hU
    by_cases hlt : 16 ≤ U
    · have hj3 : j + 1 ≤ 3 := by
        have : j = 0 ∨ j = 1 ∨ j = 2 ∨ j = 3 := by omega
        rcases this with rfl | rfl | rfl | rfl
        · omega
        · omega
        · omega
        · exfalso; rw [hUx] at hlt; omega
      have HN : Hid (U / 16 = x / 16 ^ (j + 1) ∧ (j + 1 = 0 ∨ 16 ^ (j + 1) ≤ x) ∧ (∃ f, Rw (wr.setCell ⟨w.heap.size, t, none⟩ (.int .u8 ((hg (U % 16) : Nat) : Int))) w.heap.size 161 65 f ∧ ∀ k, k < j + 1 → f (64 - k) = hg (x / 16 ^ k % 16))) := by
        refine ⟨by rw [hUx, Nat.div_div_eq_div_mul, ← Nat.pow_succ], .inr ?_, _, r0.set t _, fun k hk => ?_⟩
        · rw [hUx] at hlt
          have := Nat.mul_le_mul_right (16 ^ j) hlt
          rw [Nat.pow_succ, Nat.mul_comm]
          exact Nat.le_trans this (Nat.div_mul_le_self x (16 ^ j))
        · by_cases e : k = j
          · subst e
            rw [if_pos (by omega), hUx]
          · rw [if_neg (by omega)]
            exact hf k (by omega)
      have hI : (16 : Int) ≤ (U : Int) := by omega
      clear hf hUx hpx hlt
      have hlt4 : hg (U % 16) < 256 := hg_lt _ (by omega)
      generalize hg (U % 16) = y at *
      go_wp2_with fail
      go_roundw
      case rel => exact ⟨j + 1, t - 1, U / 16, hj3, by omega, by omega, by go_num, by go_num, HN, B0.setCell (p := ⟨w.heap.size, t, none⟩) (Nat.le_refl _) _⟩
      case measure => simp [intOf]
    · have hU16 : U % 16 = U := Nat.mod_eq_of_lt (by omega)
      rw [hU16] at q1
      have HE := hid (HS.out j hj hpx (by omega))
      have r1 := r0.set t (hg U)
      have hcv := run_text16 (wr.setCell ⟨w.heap.size, t, none⟩ (.int .u8 ((hg U : Nat) : Int))) w.heap.size t (j + 1) (j + 1) _ _ (hk x (j + 1)) r1 (hk_length _ _) (by omega) (hk_lt _ _) (fun i hi => by
        rw [hk_get (j + 1) x i hi]
        by_cases e : i = 0
        · subst e
          rw [if_pos (by omega), Nat.add_sub_cancel, Nat.sub_zero, ← hUx, hU16]
        · rw [if_neg (by omega), ← hf (j + 1 - 1 - i) (by omega)]
          congr 1
          omega)
      rw [← HE.out, HSS.out] at hcv
      have hsl : ∀ W, (Instr.sliceAt 161 (.pointer (some ⟨w.heap.size, 0, none⟩)) (some (.int .i64 (t : Int))) none none).run Tryz.prog W = .ok (.slice (some ⟨w.heap.size, t, none⟩) (j + 1) (j + 1)) W := fun W => sl65 _ _ _ W (by omega) (by omega)
      have hI : ¬ (16 : Int) ≤ (U : Int) := by omega
      have hI2 : decide ((16 : Int) ≤ (U : Int)) = false := decide_eq_false hI
      have hI3 : (U : Int) < 36 := by omega
      clear hf hUx hpx hlt r1 HE HS ha hU16
      have B1 := B0.setCell (p := ⟨w.heap.size, t, none⟩) (Nat.le_refl _) (.int .u8 ((hg U : Nat) : Int))
      generalize hg U = y at *
      go_wp2_with fail
      go_ret2
      exact ⟨rfl, B1⟩
end Go.Proofs.YtkeogggeefnoeaaGreatDoor
namespace Go.Proofs.YtkeogggeefnoeaaGreatDoor
set_option linter.unusedSimpArgs false
set_option maxRecDepth 100000
open Go.RowKit
set_option linter.unusedVariables false

theorem anew (w : World) (F H L : Int) : Below w.heap.size w (w.alloc (.cells #[.int .i64 F, .int .u64 H, .int .u64 L] 66)) := (Below.refl _ _).alloc (Nat.le_refl _) _
theorem pnew (w : World) (F H L B : Int) : Below w.heap.size w (w.alloc (.cells #[.int .i64 F, .int .u64 H, .int .u64 L, .int .i64 B] 68)) := (Below.refl _ _).alloc (Nat.le_refl _) _
/-- An address in a variable; a prefix in a variable. -/
def Am (w : World) (g : Nat) (F H L : Int) : Prop := w.heap[g]? = some (.cells #[.int .i64 F, .int .u64 H, .int .u64 L] 66 (0, 0))
def Pm (w : World) (g : Nat) (F H L B : Int) : Prop := w.heap[g]? = some (.cells #[.int .i64 F, .int .u64 H, .int .u64 L, .int .i64 B] 68 (0, 0))
section
variable {w w' : World} {g : Nat} {F H L B : Int}
theorem Am.lt (h : Am w g F H L) : g < w.heap.size := (Array.getElem?_eq_some_iff.1 h).1
theorem Am.c0 (h : Am w g F H L) : w.cell? ⟨g, 0, none⟩ = some (.int .i64 F) := (cell_of_row w g 0 _ _ (0, 0) h).trans rfl
theorem Am.c1 (h : Am w g F H L) : w.cell? ⟨g, 1, none⟩ = some (.int .u64 H) := (cell_of_row w g 1 _ _ (0, 0) h).trans rfl
theorem Am.c2 (h : Am w g F H L) : w.cell? ⟨g, 2, none⟩ = some (.int .u64 L) := (cell_of_row w g 2 _ _ (0, 0) h).trans rfl
theorem Am.at (h : Am w g F H L) (e : w'.heap[g]? = w.heap[g]?) : Am w' g F H L := by unfold Am at *; rw [e]; exact h
theorem Am.kept (h : Am w g F H L) (hb : Below w.heap.size w w') : Am w' g F H L := h.at (hb.block g h.lt)
theorem Am.new (w : World) (F H L : Int) : Am (w.alloc (.cells #[.int .i64 F, .int .u64 H, .int .u64 L] 66)) w.heap.size F H L := heap_alloc_new w _
theorem Am.alloc (h : Am w g F H L) (o : Obj) : Am (w.alloc o) g F H L := h.at (Below.heap_alloc _ _ _ h.lt)
theorem Pm.lt (h : Pm w g F H L B) : g < w.heap.size := (Array.getElem?_eq_some_iff.1 h).1
theorem Pm.c0 (h : Pm w g F H L B) : w.cell? ⟨g, 0, none⟩ = some (.int .i64 F) := (cell_of_row w g 0 _ _ (0, 0) h).trans rfl
theorem Pm.c1 (h : Pm w g F H L B) : w.cell? ⟨g, 1, none⟩ = some (.int .u64 H) := (cell_of_row w g 1 _ _ (0, 0) h).trans rfl
theorem Pm.c2 (h : Pm w g F H L B) : w.cell? ⟨g, 2, none⟩ = some (.int .u64 L) := (cell_of_row w g 2 _ _ (0, 0) h).trans rfl
theorem Pm.c3 (h : Pm w g F H L B) : w.cell? ⟨g, 3, none⟩ = some (.int .i64 B) := (cell_of_row w g 3 _ _ (0, 0) h).trans rfl
theorem Pm.at (h : Pm w g F H L B) (e : w'.heap[g]? = w.heap[g]?) : Pm w' g F H L B := by unfold Pm at *; rw [e]; exact h
theorem Pm.kept (h : Pm w g F H L B) (hb : Below w.heap.size w w') : Pm w' g F H L B := h.at (hb.block g h.lt)
theorem Pm.new (w : World) (F H L B : Int) : Pm (w.alloc (.cells #[.int .i64 F, .int .u64 H, .int .u64 L, .int .i64 B] 68)) w.heap.size F H L B := heap_alloc_new w _
theorem Pm.alloc (h : Pm w g F H L B) (o : Obj) : Pm (w.alloc o) g F H L B := h.at (Below.heap_alloc _ _ _ h.lt)
end
/-- Which of the two numbers a bit lies in. -/
theorem bt_hi {n i : Nat} {H L : Int} (hL : InU L) (h : 64 ≤ n - 1 - i) : bt n (ad H L) i = decide (H / 2 ^ (n - 1 - i - 64) % 2 = 1) := by
  unfold bt ad
  obtain ⟨k, hk⟩ : ∃ k, n - 1 - i = 64 + k := ⟨n - 1 - i - 64, by omega⟩
  rw [hk, Nat.add_sub_cancel_left]
  have e : (H * 18446744073709551616 + L) / 2 ^ (64 + k) = H / 2 ^ k := by
    rw [Int.pow_add, ← Int.ediv_ediv_of_nonneg (by decide)]
    have h1 : (H * 18446744073709551616 + L) / 2 ^ 64 = H := by
      unfold InU at hL
      have : (2 : Int) ^ 64 = 18446744073709551616 := by decide
      rw [this]
      omega
    rw [h1]
  rw [e]
theorem bt_lo {n i : Nat} {H L : Int} (h : n - 1 - i < 64) : bt n (ad H L) i = decide (L / 2 ^ (n - 1 - i) % 2 = 1) := by
  unfold bt ad
  generalize n - 1 - i = k at *
  obtain ⟨m, hm⟩ : ∃ m, 64 = k + (m + 1) := ⟨63 - k, by omega⟩
  have e : (H * 18446744073709551616 + L) / 2 ^ k = H * 2 ^ m * 2 + L / 2 ^ k := by
    have e1 : H * 18446744073709551616 = 2 ^ k * (H * 2 ^ m * 2) := by
      have : (18446744073709551616 : Int) = 2 ^ k * (2 ^ m * 2) := by
        rw [← Int.pow_succ, ← Int.pow_add, ← hm]
        decide
      rw [this, Int.mul_left_comm, Int.mul_assoc]
    rw [e1, Int.add_comm, Int.add_mul_ediv_left _ _ (by have := pow_pos2 k; omega), Int.add_comm]
  rw [e]
  refine decide_eq_decide.2 ?_
  omega
theorem and_one (x : Int) (h : InU x) : (bits BinOp.and .u64 x 1 == 1) = decide (x % 2 = 1) := by
  obtain ⟨a, rfl⟩ := Int.eq_ofNat_of_zero_le h.1
  have h2 := h.2
  have e := bits_and_u64_nat a 1 (by omega) (by omega)
  have e' : bits BinOp.and .u64 (a : Int) 1 = ((a % 2 : Nat) : Int) := by rw [← Nat.and_one_is_mod]; exact e
  rw [e', Bool.beq_eq_decide_eq]
  exact decide_eq_decide.2 (by omega)
theorem div_in {x : Int} (h : InU x) (k : Nat) : InU (x / 2 ^ k) := by
  have hp := pow_pos2 k
  exact ⟨Int.ediv_nonneg h.1 (by omega), Int.le_trans (Int.ediv_le_self _ h.1) h.2⟩
end Go.Proofs.YtkeogggeefnoeaaGreatDoor
namespace Go.Proofs.YtkeogggeefnoeaaGreatDoor
set_option linter.unusedSimpArgs false
set_option maxRecDepth 100000
open Go.RowKit
set_option linter.unusedVariables false

theorem va_out {F H L : Int} (h : va F H L = false) (B : Int) : vp F H L B = false := by unfold vp; rw [h]; rfl
theorem vp_iff {F H L B : Int} (h : va F H L = true) (hH : InU H) (hL : InU L) (b : Nat) (hb : B = b) (hn : b ≤ nb F) : vp F H L B = true ↔ ∀ i, b ≤ i → i < nb F → bt (nb F) (ad H L) i = false := by
  rw [tail_zero (nb F) (ad H L) _ b rfl hn]
  unfold vp
  rw [h, Bool.true_and, decide_eq_true_iff, hb, Int.toNat_natCast]
  constructor
  · exact fun h => h.2.2
  · exact fun h => ⟨by omega, by omega, h⟩
end Go.Proofs.YtkeogggeefnoeaaGreatDoor
namespace Go.Proofs.YtkeogggeefnoeaaGreatDoor
set_option linter.unusedSimpArgs false
set_option maxRecDepth 100000
open Go.RowKit
set_option linter.unusedVariables false

theorem panew (w : World) (F H L B F' H' L' : Int) : Below w.heap.size w ((w.alloc (.cells #[.int .i64 F, .int .u64 H, .int .u64 L, .int .i64 B] 68)).alloc (.cells #[.int .i64 F', .int .u64 H', .int .u64 L'] 66)) ∧ Pm ((w.alloc (.cells #[.int .i64 F, .int .u64 H, .int .u64 L, .int .i64 B] 68)).alloc (.cells #[.int .i64 F', .int .u64 H', .int .u64 L'] 66)) w.heap.size F H L B ∧ Am ((w.alloc (.cells #[.int .i64 F, .int .u64 H, .int .u64 L, .int .i64 B] 68)).alloc (.cells #[.int .i64 F', .int .u64 H', .int .u64 L'] 66)) (w.heap.size + 1) F' H' L' := by
  refine ⟨(pnew w F H L B).alloc (by simp) _, (Pm.new w F H L B).alloc _, ?_⟩
  have := Am.new (w.alloc (.cells #[.int .i64 F, .int .u64 H, .int .u64 L, .int .i64 B] 68)) F' H' L'
  simpa using this
theorem ho_bad {F H L B F' H' L' : Int} (h : vp F H L B = false ∨ va F' H' L' = false ∨ F ≠ F') : ho F H L B F' H' L' = false := by
  unfold ho
  rcases h with h | h | h
  · rw [h]; rfl
  · rw [h, Bool.false_and, Bool.and_false]
  · rw [decide_eq_false (fun h' => h h'.1), Bool.and_false, Bool.and_false]
theorem ho_iff {F H L B H' L' : Int} (h : vp F H L B = true) (h' : va F H' L' = true) (hH : InU H) (hL : InU L) (hH' : InU H') (hL' : InU L') (b : Nat) (hb : B = b) : ho F H L B F H' L' = true ↔ ∀ i, i < b → bt (nb F) (ad H L) i = bt (nb F) (ad H' L') i := by
  obtain ⟨h1, h2, h3, _⟩ := vp_in h
  rw [head_same (nb F) _ _ (va_in h1 hH hL).2 (va_in h' hH' hL').2 b (by omega)]
  unfold ho
  rw [h, h', Bool.true_and, Bool.true_and, decide_eq_true_iff, hb, Int.toNat_natCast]
  exact ⟨fun h => h.2, fun h => ⟨rfl, h⟩⟩
end Go.Proofs.YtkeogggeefnoeaaGreatDoor
