import Derived.Test.YtmgoabedickooaaGreatDoorABytes
import Derived.Test.YtmgoabedickooaaGreatDoorPMath
import Derived.Test.YtmgoabedickooaaGreatDoorShelf
import Derived.Laws.Concat
import Derived.WideShapes
import Derived.Laws.ResultCell
import Derived.Laws.Tables
import Derived.Laws.Bits64b
namespace Go.Proofs.YtmgoabedickooaaGreatDoor
set_option maxRecDepth 100000
open Go.RowKit
set_option linter.unusedVariables false

/-- Numbers as a text. -/
def sb (l : List Nat) : ByteArray := ⟨(l.map UInt8.ofNat).toArray⟩
def ic (l : List Nat) : List Int := l.map fun x : Nat => (x : Int)
theorem ic_length (l : List Nat) : (ic l).length = l.length := by simp [ic]
theorem ic_get (l : List Nat) (i : Nat) : (ic l).getD i 0 = ((l.getD i 0 : Nat) : Int) := by
  simp only [ic, List.getD, List.getElem?_map]
  cases l[i]? <;> rfl
theorem list_ext6 {a b : List Nat} (hl : a.length = b.length) (h : ∀ i, i < a.length → a.getD i 0 = b.getD i 0) : a = b := by
  apply List.ext_getElem hl
  intro i h1 h2
  have := h i h1
  simpa [List.getD, h1, h2] using this
theorem sb_append (a b : List Nat) : sb a ++ sb b = sb (a ++ b) := by
  apply ByteArray.ext
  simp [sb]
theorem sb_size (a : List Nat) : (sb a).size = a.length := by
  show (sb a).data.size = _
  simp [sb]
theorem dgs_length (n least : Nat) (hn : n ≤ 9223372036854775807) (hl : least ≤ 20) : (dgs n least).length ≤ 20 := by
  unfold dgs
  rw [dl_length]
  have := (cnt_lt 19 n).2 (by have : (10 : Nat) ^ 19 = 10000000000000000000 := by decide
                              omega)
  unfold dn
  rw [Nat.max_def]
  split <;> omega
theorem sb_get (l : List Nat) (hy : ∀ x ∈ l, x < 256) (i : Nat) (h : i < l.length) : ∃ h' : i < (sb l).data.size, ((sb l).data[i].toNat) = l.getD i 0 := by
  refine ⟨by simp [sb]; exact h, ?_⟩
  simp [sb, List.getD, h]
  have := hy l[i] (List.getElem_mem h)
  omega
theorem sb_inj {a b : List Nat} (ha : ∀ x ∈ a, x < 256) (hb : ∀ x ∈ b, x < 256) (h : sb a = sb b) : a = b := by
  have e : a.map UInt8.ofNat = b.map UInt8.ofNat := by
    have := congrArg ByteArray.data h
    simpa [sb] using this
  have hl : a.length = b.length := by have := congrArg List.length e; simpa using this
  refine list_ext6 hl fun i hi => ?_
  have h1 := congrArg (fun l : List UInt8 => (l.map UInt8.toNat).getD i 0) e
  simp only [List.map_map] at h1
  have h2 : ∀ (l : List Nat) (hy : ∀ x ∈ l, x < 256), (l.map (UInt8.toNat ∘ UInt8.ofNat)).getD i 0 = l.getD i 0 := fun l hy => by
    simp only [List.getD, List.getElem?_map]
    cases q : l[i]? with
    | none => rfl
    | some z =>
      have := hy z (List.mem_of_getElem? q)
      simp
      omega
  rw [h2 a ha, h2 b hb] at h1
  exact h1
theorem size_data (bs : ByteArray) : bs.data.toList.length = bs.size := Array.length_toList
theorem loop_data (bs : ByteArray) : ∀ (k i : Nat) (r : List UInt8), bs.size - i = k → ByteArray.toList.loop bs i r = r.reverse ++ bs.data.toList.drop i := by
  intro k
  induction k with
  | zero =>
    intro i r h
    rw [ByteArray.toList.loop]
    rw [if_neg (by omega)]
    have : bs.data.toList.drop i = [] := List.drop_eq_nil_of_le (by rw [size_data]; omega)
    rw [this, List.append_nil]
  | succ k ih =>
    intro i r h
    rw [ByteArray.toList.loop]
    rw [if_pos (by omega), ih (i + 1) _ (by omega)]
    have hi : i < bs.data.toList.length := by rw [size_data]; omega
    rw [List.drop_eq_getElem_cons hi, List.reverse_cons, List.append_assoc]
    have : bs.get! i = bs.data.toList[i] := by
      show bs.data[i]! = _
      rw [getElem!_pos bs.data i (by rw [← Array.length_toList]; exact hi)]
      simp
    rw [this]
    rfl
theorem toList_data (bs : ByteArray) : bs.toList = bs.data.toList := by
  unfold ByteArray.toList
  rw [loop_data bs _ 0 [] rfl]
  simp
theorem toList_inj {a b : ByteArray} (h : a.toList = b.toList) : a = b := by
  rw [toList_data, toList_data] at h
  exact Go.WideShapes.bytes_inj h
theorem getD_lt6 {l : List Nat} (h : ∀ x ∈ l, x < 256) (i : Nat) : l.getD i 0 < 256 := by
  simp only [List.getD]
  cases e : l[i]? with
  | none => simp
  | some z => exact h z (List.mem_of_getElem? e)
theorem run_at (l : List Nat) (hy : ∀ x ∈ l, x < 256) (i : Nat) (h : i < l.length) (w : World) : (Instr.index 9 (.string (sb l)) (.int .i64 (i : Int))).run Tryz.prog w = .ok (.int .u8 ((l.getD i 0 : Nat) : Int)) w := by
  obtain ⟨h', e⟩ := sb_get l hy i h
  have hi : (0 : Int) ≤ (i : Int) ∧ (i : Int) < ((sb l).size : Int) := by rw [sb_size]; omega
  rw [run_index_string w _ _ _ _ (by kernel_rfl), dif_pos hi]
  have e2 : ((sb l)[(i : Int).toNat]'(by rw [Int.toNat_natCast]; exact h')).toNat = l.getD i 0 := e
  rw [e2]
theorem getD_byte6 {zs : List Int} (h : ∀ z ∈ zs, 0 ≤ z ∧ z ≤ 255) (i : Nat) : 0 ≤ zs.getD i 0 ∧ zs.getD i 0 ≤ 255 := by
  simp only [List.getD]
  cases e : zs[i]? with
  | none => simp
  | some z => exact h z (List.mem_of_getElem? e)
theorem var_kept {w w' : World} {s : String} {x : Array Value} (h : w.var? Tryz.prog s = some x) (hb : Below w.heap.size w w') : w'.var? Tryz.prog s = some x := by
  unfold World.var? at *
  cases hg : Tryz.prog.globalNamed s with
  | none => simp [hg] at h
  | some g =>
    simp only [hg, Option.bind_some] at h ⊢
    have hlt : g < w.heap.size := by
      rcases Nat.lt_or_ge g w.heap.size with h' | h'
      · exact h'
      · rw [Array.getElem?_eq_none h'] at h; simp at h
    rw [hb.block g hlt]
    exact h
/-- What the library's variables hold: the table of powers of ten, the two errors of package strconv. -/
structure Tb (w : World) : Prop where
  tab : Lib.TabIs Tryz.prog w "internal/strconv.uint64pow10" .u64 Lib.pow10Tab
  syn : ∃ tp p, w.var? Tryz.prog "strconv.ErrSyntax" = some #[.iface tp p]
  rng : ∃ tp p, w.var? Tryz.prog "strconv.ErrRange" = some #[.iface tp p]
  bru : ∃ cs, w.var? Tryz.prog "math/bits.deBruijn64tab" = some cs ∧ cs[15]? = some (.int .u8 4)
theorem Tb.kept {w w' : World} (h : Tb w) (hb : Below w.heap.size w w') : Tb w' := by
  obtain ⟨h1, ⟨t2, p2, h2⟩, ⟨t3, p3, h3⟩, ⟨cs, h4, h5⟩⟩ := h
  exact ⟨by unfold Lib.TabIs at *; exact var_kept h1 hb, ⟨t2, p2, var_kept h2 hb⟩, ⟨t3, p3, var_kept h3 hb⟩, ⟨cs, var_kept h4 hb, h5⟩⟩
theorem Tb.alloc {w : World} (h : Tb w) (o : Obj) : Tb (w.alloc o) := h.kept ((Below.refl _ _).alloc (Nat.le_refl _) _)
theorem below_grow6 (w : World) (k : Nat) (os : Array Obj) : Below w.heap.size w (Sort.grow (w.drewN k) os) :=
  ⟨rfl, rfl, rfl, by show w.heap.size ≤ (w.heap ++ os).size; rw [Array.size_append]; omega, fun j hj => by
    show (w.heap ++ os)[j]? = _
    rw [Array.getElem?_append_left hj]⟩
theorem cnt_pos (u : Nat) (h : 0 < u) : 1 ≤ cnt u := by
  rw [cnt, dif_neg (by omega)]
  omega
theorem dec_dgs (k : Nat) : ∀ u, u < k → Lib.decDigits u = (dgs u 1).map UInt8.ofNat := by
  induction k with
  | zero => intro u h; omega
  | succ k ih =>
    intro u hu
    rw [Lib.decDigits]
    by_cases h : u < 10
    · rw [dif_pos h]
      have hc := (cnt_lt 1 u).2 (by omega)
      have : dn u 1 = 1 := by unfold dn; rw [Nat.max_def]; split <;> omega
      unfold dgs
      rw [this, dl, dl, List.nil_append, Nat.mod_eq_of_lt h]
      rfl
    · rw [dif_neg h, ih (u / 10) (by omega)]
      have hc : cnt u = cnt (u / 10) + 1 := by conv => lhs; rw [cnt]
                                               rw [dif_neg (by omega)]
      have hp := cnt_pos (u / 10) (by omega)
      have e1 : dn u 1 = cnt (u / 10) + 1 := by unfold dn; rw [hc, Nat.max_def]; split <;> omega
      have e2 : dn (u / 10) 1 = cnt (u / 10) := by unfold dn; rw [Nat.max_def]; split <;> omega
      unfold dgs
      rw [e1, e2, dl, List.map_append]
      rfl
theorem itoa_sb (u : Nat) : (⟨(Lib.itoa (u : Int)).toArray⟩ : ByteArray) = sb (dgs u 1) := by
  unfold Lib.itoa
  rw [if_neg (by omega), Int.toNat_natCast, dec_dgs (u + 1) u (by omega)]
  rfl
theorem itoa_ (u : Nat) (w : World) (h : u ≤ 9223372036854775807) (hT : Tb w) :
    Calls Tryz.prog 53 #[.int .i64 u] w fun e w' => e = .returned (.string (sb (dgs u 1))) ∧ Below w.heap.size w w' := by
  refine (Tryz.strconv_Itoa (u : Int) (by omega) (by omega) w hT.tab).mono ?_
  rintro e w' ⟨rfl, k, os, rfl⟩
  exact ⟨by rw [itoa_sb], below_grow6 _ _ _⟩
/-- The numbers of an int. -/
def InI (x : Int) : Prop := -9223372036854775808 ≤ x ∧ x ≤ 9223372036854775807
theorem or8 (v z : Int) (v0 : 0 ≤ v) (v1 : v < 72057594037927936) (z0 : 0 ≤ z) (z1 : z ≤ 255) : bits BinOp.or IntKind.u64 (v * 256) z = v * 256 + z := by
  obtain ⟨a, rfl⟩ := Int.eq_ofNat_of_zero_le v0
  obtain ⟨b, rfl⟩ := Int.eq_ofNat_of_zero_le z0
  have h := bits_or_u64_nat (a * 256) b (by omega) (by omega)
  have e : a * 256 ||| b = a * 256 + b := by
    have := Nat.shiftLeft_add_eq_or_of_lt (a := a) (b := b) (i := 8) (by omega)
    rw [Nat.shiftLeft_eq] at this
    exact this.symm
  rw [e] at h
  rw [show ((a : Int) * 256) = ((a * 256 : Nat) : Int) from by omega, h]
  omega

end Go.Proofs.YtmgoabedickooaaGreatDoor
