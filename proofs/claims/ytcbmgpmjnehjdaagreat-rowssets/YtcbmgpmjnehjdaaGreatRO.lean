import Derived.Test.YtcbmgpmjnehjdaaGreatQ9
import Derived.Test.YtcbmgpmjnehjdaaGreatSI
import Derived.Lib.BytesEntry
import Derived.Laws.BytesArg
import Derived.Laws.Externs
import Derived.Laws.IdiomStrings
import Derived.Lib.SlBytesConst
import Derived.Deep.RegionHeld
namespace Go.Proofs.YtcbmgpmjnehjdaaGreat
set_option maxRecDepth 100000
open Go.RowKit
set_option linter.unusedVariables false

/-! string(b), bytes.Equal (as chapter 13 has them). -/
theorem str_at (xs : List Int) (i : Nat) (h : i < xs.length) : (strOfNums xs)[i]! = UInt8.ofNat (xs.getD i 0).toNat := by
  have h' : i < (strOfNums xs).size := by rw [strOfNums_size]; exact h
  rw [getElem!_pos _ i h']
  show (strOfNums xs).data[i] = _
  simp [strOfNums, List.getD, h]
theorem u8_inj {a b : Int} (ha : 0 ≤ a ∧ a ≤ 255) (hb : 0 ≤ b ∧ b ≤ 255) (h : UInt8.ofNat a.toNat = UInt8.ofNat b.toNat) : a = b := by
  have := congrArg UInt8.toNat h
  simp at this
  omega
theorem okb_at {xs : List Int} (h : Okb xs) (i : Nat) : 0 ≤ xs.getD i 0 ∧ xs.getD i 0 ≤ 255 := getD_byte6 h i
theorem run_str {w : World} {a : Option Addr} {n c : Nat} {zs : List Int} (h : Bs w a n zs) : (convert 52 9 (.slice a n c)).run Tryz.prog w = .ok (.string (strOfNums zs)) w := by
  rcases h.2.2 with h0 | ⟨b, off, rfl, hc⟩
  · subst h0
    obtain rfl : zs = [] := List.eq_nil_of_length_eq_zero h.1
    rw [run_convert_bytes_string w 52 9 5 a 0 c Tryz.underlying52 Tryz.underlying5 Tryz.underlying9]
    cases a <;> simp [Conv.bytesToString, loadCells]
    all_goals rfl
  · exact run_convert_bytes_arg (P := Tryz.prog) w 52 5 Tryz.underlying52 Tryz.underlying5 b off n c zs h.1 hc 9 Tryz.underlying9
theorem str_eq {xs ys : List Int} (hx : Okb xs) (hy : Okb ys) : strOfNums xs = strOfNums ys ↔ xs = ys := by
  refine ⟨fun h => ?_, fun h => by rw [h]⟩
  have hl : xs.length = ys.length := by rw [← strOfNums_size, ← strOfNums_size, h]
  refine List.ext_getElem hl fun i h1 h2 => ?_
  have e1 := str_at xs i h1
  rw [h, str_at ys i h2] at e1
  have := u8_inj (okb_at hy i) (okb_at hx i) e1
  simp [List.getD, h1, h2] at this
  exact this.symm
theorem str_beq {xs ys : List Int} (hx : Okb xs) (hy : Okb ys) : ((strOfNums xs).toList == (strOfNums ys).toList) = sameB xs ys := by
  rw [Lib.strOfNums_toList, Lib.strOfNums_toList]
  unfold sameB
  by_cases h : xs = ys
  · rw [h]; simp
  · rw [decide_eq_false h]
    refine beq_eq_false_iff_ne.2 fun e => h ((str_eq hx hy).1 ?_)
    apply ByteArray.ext
    show (Lib.bytesOf xs).toArray = (Lib.bytesOf ys).toArray
    rw [e]
set_option maxHeartbeats 400000 in
theorem beq_ (a b : Option Addr) (n c m d : Nat) (xs ys : List Int) (w : World) (hx : Bs w a n xs) (hy : Bs w b m ys) :
    Calls Tryz.prog 60 #[.slice a n c, .slice b m d] w fun e w' => e = .returned (.bool (sameB xs ys)) ∧ w' = w := by
  have h1 := run_str (c := c) hx
  have h2 := run_str (c := d) hy
  have HE := hid (str_beq hx.2.1 hy.2.1)
  clear hx hy
  generalize strOfNums xs = u at *
  generalize strOfNums ys = v at *
  have hsq : sameB xs ys = (u.toList == v.toList) := HE.out.symm
  rw [hsq]
  clear hsq HE
  go_enter Tryz.func60, Tryz.ntmps60
  go_wp2
  go_ret
  exact ⟨rfl, rfl⟩

end Go.Proofs.YtcbmgpmjnehjdaaGreat
