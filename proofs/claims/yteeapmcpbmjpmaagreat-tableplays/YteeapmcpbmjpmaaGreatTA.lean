import Derived.Test.YteeapmcpbmjpmaaGreatBGet
import Derived.Test.YteeapmcpbmjpmaaGreatTQ
import Derived.Lib.BytesEntry
import Derived.Laws.BytesArg
import Derived.Laws.Externs
import Derived.Laws.IdiomStrings
import Derived.Lib.SlBytesConst
import Derived.Maps.RangeWalk
import Derived.Maps.OwnSet
import Derived.Deep.RegionHeld
import Derived.Deep.RegionHeldLaw
import Derived.Deep.AppendLies
import Derived.Deep.AppendSrc
namespace Go.Proofs.YteeapmcpbmjpmaaGreat
set_option maxRecDepth 100000
open Go.RowKit Go.Maps
set_option linter.unusedVariables false

theorem Bs.okb {w : World} {a : Option Addr} {n : Nat} {zs : List Int} (h : Bs w a n zs) : Okb zs := h.2.1

/-! The library: bytes.Compare. -/
def cmpB (xs ys : List Int) : Int := if lx xs ys then -1 else if lx ys xs then 1 else 0
theorem cmpB_lt (xs ys : List Int) : cmpB xs ys < 0 ↔ lx xs ys = true := by
  unfold cmpB
  split
  · rename_i h; exact ⟨fun _ => h, fun _ => by decide⟩
  · rename_i h
    constructor
    · intro h'; split at h' <;> omega
    · intro h'; exact absurd h' h
theorem cmpB_le (xs ys : List Int) : cmpB xs ys ≤ 0 ↔ lx ys xs = false := by
  unfold cmpB
  split
  · rename_i h; exact ⟨fun _ => lx_asym h, fun _ => by decide⟩
  · rename_i h
    split
    · rename_i h'; rw [h']; exact ⟨fun h => by omega, fun h => by cases h⟩
    · rename_i h'; exact ⟨fun _ => by simpa using h', fun _ => by decide⟩
theorem str_at (xs : List Int) (i : Nat) (h : i < xs.length) : (strOfNums xs)[i]! = UInt8.ofNat (xs.getD i 0).toNat := by
  have h' : i < (strOfNums xs).size := by rw [strOfNums_size]; exact h
  rw [getElem!_pos _ i h']
  show (strOfNums xs).data[i] = _
  simp [strOfNums, List.getD, h]
theorem u8_inj {a b : Int} (ha : 0 ≤ a ∧ a ≤ 255) (hb : 0 ≤ b ∧ b ≤ 255) (h : UInt8.ofNat a.toNat = UInt8.ofNat b.toNat) : a = b := by
  have := congrArg UInt8.toNat h
  simp at this
  omega
theorem u8_lt {a b : Int} (ha : 0 ≤ a ∧ a ≤ 255) (hb : 0 ≤ b ∧ b ≤ 255) : UInt8.ofNat a.toNat < UInt8.ofNat b.toNat ↔ a < b := by
  rw [UInt8.lt_iff_toNat_lt]
  simp
  omega
theorem okb_at {xs : List Int} (h : Okb xs) (i : Nat) : 0 ≤ xs.getD i 0 ∧ xs.getD i 0 ≤ 255 := getD_byte6 h i
theorem str_ne {xs ys : List Int} (hx : Okb xs) (hy : Okb ys) (i : Nat) (h1 : i < xs.length) (h2 : i < ys.length) : ((strOfNums xs)[i]! != (strOfNums ys)[i]!) = (xs.getD i 0 != ys.getD i 0) := by
  rw [str_at xs i h1, str_at ys i h2]
  by_cases e : xs.getD i 0 = ys.getD i 0
  · rw [e]; simp
  · rw [bne_iff_ne.2 e]
    exact bne_iff_ne.2 fun f => e (u8_inj (okb_at hx i) (okb_at hy i) f)
theorem cmp_eq {xs ys : List Int} (hx : Okb xs) (hy : Okb ys) : Extern.BytealgCompare.cmp (strOfNums xs) (strOfNums ys) = cmpB xs ys := by
  unfold Extern.BytealgCompare.cmp
  rw [strOfNums_size, strOfNums_size]
  cases e : (List.range (min xs.length ys.length)).find? fun i => (strOfNums xs)[i]! != (strOfNums ys)[i]! with
  | some i =>
    rw [List.find?_range_eq_some] at e
    obtain ⟨e1, e2, e3⟩ := e
    have hi := List.mem_range.1 e2
    rw [str_ne hx hy i (by omega) (by omega), bne_iff_ne] at e1
    have hb : ∀ j, j < i → xs.getD j 0 = ys.getD j 0 := fun j hj => by
      have := e3 j hj
      rw [str_ne hx hy j (by omega) (by omega)] at this
      simpa using this
    have q1 := lx_at xs ys i (by omega) (by omega) hb e1
    have q2 := lx_at ys xs i (by omega) (by omega) (fun j hj => (hb j hj).symm) (Ne.symm e1)
    simp only
    unfold cmpB
    rw [q1, q2, str_at xs i (by omega), str_at ys i (by omega)]
    by_cases hl : xs.getD i 0 < ys.getD i 0
    · rw [if_pos ((u8_lt (okb_at hx i) (okb_at hy i)).2 hl), if_pos (decide_eq_true hl)]
    · rw [if_neg (fun h => hl ((u8_lt (okb_at hx i) (okb_at hy i)).1 h)), if_neg (by simpa using hl), if_pos (decide_eq_true (by omega))]
  | none =>
    rw [List.find?_range_eq_none] at e
    have hb : ∀ j, j < xs.length → j < ys.length → xs.getD j 0 = ys.getD j 0 := fun j h1 h2 => by
      have := e j (by omega)
      rw [str_ne hx hy j h1 h2] at this
      simpa using this
    have q1 := lx_all xs ys hb
    have q2 := lx_all ys xs (fun j h1 h2 => (hb j h2 h1).symm)
    simp only
    unfold cmpB
    rw [q1, q2]
    by_cases h1 : xs.length < ys.length
    · simp [h1]
    · by_cases h2 : ys.length < xs.length
      · simp [h1, h2]
      · simp [h1, h2]
theorem run_bytesOf {w : World} {a : Option Addr} {n c : Nat} {zs : List Int} (h : Bs w a n zs) : (Extern.Bytes.bytesOf (.slice a n c)).run Tryz.prog w = .ok (strOfNums zs) w := by
  rcases h.2.2 with h0 | ⟨b, off, rfl, hc⟩
  · subst h0
    obtain rfl : zs = [] := List.eq_nil_of_length_eq_zero h.1
    cases a with
    | none => simp [Extern.Bytes.bytesOf]; rfl
    | some x => simp [Extern.Bytes.bytesOf, Extern.Bytes.loadBytes]; rfl
  · have hl := Lib.run_loadBytesX (P := Tryz.prog) w zs ⟨b, off, none⟩ .empty (fun j x hj => by
      have hjl : j < zs.length := (List.getElem?_eq_some_iff.1 hj).1
      rw [Addr.add_lit, hc j (by have := h.1; omega), List.getD_eq_getElem?_getD, hj]
      rfl)
    rw [h.1] at hl
    simp only [Extern.Bytes.bytesOf]
    rw [hl]
    congr 1
    apply ByteArray.ext
    show (#[] : Array UInt8) ++ (Lib.bytesOf zs).toArray = _
    simp [strOfNums, Lib.bytesOf]
theorem run_compare {w : World} {a b : Option Addr} {n c m d : Nat} {xs ys : List Int} (hx : Bs w a n xs) (hy : Bs w b m ys) :
    (Extern.BytealgCompare.compare #[.slice a n c, .slice b m d]).run Tryz.prog w = .ok (.int .i64 (cmpB xs ys)) w := by
  have e : Extern.BytealgCompare.compare #[.slice a n c, .slice b m d] = (Extern.Bytes.bytesOf (.slice a n c) >>= fun u => Extern.Bytes.bytesOf (.slice b m d) >>= fun v => pure (goInt (Extern.BytealgCompare.cmp u v))) := rfl
  rw [e]
  simp only [Sem.run_bind, run_bytesOf hx, run_bytesOf hy, Result.andThen, Sem.run_pure, cmp_eq hx.2.1 hy.2.1]
  rfl
set_option maxHeartbeats 400000 in
theorem bcmp_ (a b : Option Addr) (n c m d : Nat) (xs ys : List Int) (w : World) (hx : Bs w a n xs) (hy : Bs w b m ys) :
    Calls Tryz.prog 50 #[.slice a n c, .slice b m d] w fun e w' => e = .returned (.int .i64 (cmpB xs ys)) ∧ w' = w := by
  have hr := fun c d => run_compare (c := c) (d := d) hx hy
  clear hx hy
  go_enter Tryz.func50, Tryz.ntmps50
  go_wp2
  rw [run_callFunc_extern Tryz.func66 (by kernel_rfl) (by kernel_rfl) (by kernel_rfl) (e := Extern.BytealgCompare.compare) (by kernel_rfl), hr]
  simp only [Result.andThen]
  rw [Oper.upon_value]
  go_wp2
  go_ret
  exact ⟨rfl, rfl⟩

/-! string(b), bytes.Equal. -/
theorem run_str {w : World} {a : Option Addr} {n c : Nat} {zs : List Int} (h : Bs w a n zs) : (convert 35 9 (.slice a n c)).run Tryz.prog w = .ok (.string (strOfNums zs)) w := by
  rcases h.2.2 with h0 | ⟨b, off, rfl, hc⟩
  · subst h0
    obtain rfl : zs = [] := List.eq_nil_of_length_eq_zero h.1
    rw [run_convert_bytes_string w 35 9 5 a 0 c Tryz.underlying35 Tryz.underlying5 Tryz.underlying9]
    cases a <;> simp [Conv.bytesToString, loadCells]
    all_goals rfl
  · exact run_convert_bytes_arg (P := Tryz.prog) w 35 5 Tryz.underlying35 Tryz.underlying5 b off n c zs h.1 hc 9 Tryz.underlying9
theorem str_eq {xs ys : List Int} (hx : Okb xs) (hy : Okb ys) : strOfNums xs = strOfNums ys ↔ xs = ys := by
  refine ⟨fun h => ?_, fun h => by rw [h]⟩
  have hl : xs.length = ys.length := by rw [← strOfNums_size, ← strOfNums_size, h]
  refine List.ext_getElem hl fun i h1 h2 => ?_
  have e1 := str_at xs i h1
  rw [h, str_at ys i h2] at e1
  have := u8_inj (okb_at hy i) (okb_at hx i) e1
  simp [List.getD, h1, h2] at this
  exact this.symm
theorem str_beq {xs ys : List Int} (hx : Okb xs) (hy : Okb ys) : ((strOfNums xs).toList == (strOfNums ys).toList) = sameB xs ys := by
  rw [Lib.strOfNums_toList, Lib.strOfNums_toList]
  unfold sameB
  by_cases h : xs = ys
  · rw [h]; simp
  · rw [decide_eq_false h]
    refine beq_eq_false_iff_ne.2 fun e => h ((str_eq hx hy).1 ?_)
    apply ByteArray.ext
    show (Lib.bytesOf xs).toArray = (Lib.bytesOf ys).toArray
    rw [e]
set_option maxHeartbeats 400000 in
theorem beq_ (a b : Option Addr) (n c m d : Nat) (xs ys : List Int) (w : World) (hx : Bs w a n xs) (hy : Bs w b m ys) :
    Calls Tryz.prog 63 #[.slice a n c, .slice b m d] w fun e w' => e = .returned (.bool (sameB xs ys)) ∧ Drawn w w' := by
  have h1 := run_str (c := c) hx
  have h2 := run_str (c := d) hy
  have HE := hid (str_beq hx.2.1 hy.2.1)
  clear hx hy
  generalize strOfNums xs = u at *
  generalize strOfNums ys = v at *
  have hsq : sameB xs ys = (u.toList == v.toList) := HE.out.symm
  rw [hsq]
  clear hsq HE
  go_enter Tryz.func63, Tryz.ntmps63
  go_wp2
  go_ret
  exact ⟨rfl, rfl, rfl, rfl, rfl⟩

/-! bytes.Clone. -/
set_option maxHeartbeats 400000 in
theorem bclone_nil (w : World) : Calls Tryz.prog 41 #[.slice none 0 0] w fun en w' => en = .returned (.slice none 0 0) ∧ w' = w := by
  have heq := Go.Lib.run_eql_slice_nil (P := Tryz.prog) w 35 5 none 0 0 0 0 Tryz.underlying35
  simp only [Option.isNone] at heq
  go_enter Tryz.func41, Tryz.ntmps41
  go_wp2
  go_ret
  exact ⟨rfl, rfl⟩
set_option maxHeartbeats 400000 in
theorem bclone_some (x : Addr) (n c : Nat) (zs : List Int) (w : World) (hb : Bs w (some x) n zs) (hn : n ≤ 100000000) :
    Calls Tryz.prog 41 #[.slice (some x) n c] w fun en w' => ∃ v, en = .returned v ∧ w'.ownsRow w.heap.size 5 1 v n (cells zs) ∧ Below w.heap.size w w' := by
  obtain ⟨i, hi, hz0, hz1, hz2⟩ := info_parts info5
  have heq := Go.Lib.run_eql_slice_nil (P := Tryz.prog) w 35 5 (some x) n c 0 0 Tryz.underlying35
  simp only [Option.isNone] at heq
  go_enter Tryz.func41, Tryz.ntmps41
  go_wp2_with (at_builtin; (refine wpList_append_own _ rfl _ _ 35 rfl w.heap.size 5 i (.int .u8 0) 1 1 Tryz.underlying35 hi hz0 hz1 hz2 rfl (by decide) _ 0 [] rfl (World.ownsRow_made w _ 0 (Nat.le_refl _) (by unfold maxLen; omega) (by simp)) x n c (cells zs) rfl (by rw [cells_length, hb.1, Nat.mul_one]) (hb.src1 (World.grownBy_alloc w _ _)) (cells_one zs) (by unfold maxLen; omega) (by omega) (by simp) ?_); intro v' w1 hown hg hv)
  have hg' : (w.alloc (.cells #[] 5)).grownBy w1 (some w.heap.size) := hg
  go_ret
  refine ⟨_, rfl, by simpa using hown, below_of_grown (grown_past hg')⟩
/-- The same bytes in new memory. -/
theorem bclone_ (a : Option Addr) (n c : Nat) (zs : List Int) (w : World) (hb : Bs w a n zs) (ha : a = none → c = 0) (hnc : n ≤ c) (hn : n ≤ 100000000) :
    Calls Tryz.prog 41 #[.slice a n c] w fun en w' => ∃ v, en = .returned v ∧ w'.ownsRow w.heap.size 5 1 v n (cells zs) ∧ Below w.heap.size w w' := by
  cases a with
  | some x => exact bclone_some x n c zs w hb hn
  | none =>
    obtain rfl : c = 0 := ha rfl
    obtain rfl : n = 0 := by omega
    obtain rfl : zs = [] := List.eq_nil_of_length_eq_zero hb.1
    refine (bclone_nil w).mono ?_
    rintro en w' ⟨rfl, rfl⟩
    exact ⟨_, rfl, World.ownsRow_nil _ _ _ _, Below.refl _ _⟩

/-! culvertref.Less. -/
set_option maxHeartbeats 800000 in
theorem refLess_some (b off c b' off' c' n m : Nat) (l r : List Int) (w : World) (h1 : l.length = n) (h2 : r.length = m) (hn : n ≤ 1000000000) (hm : m ≤ 1000000000) (hl : ∀ i, i < n → w.cell? ⟨b, off + i, none⟩ = some (.int .u8 (l.getD i 0))) (hr : ∀ i, i < m → w.cell? ⟨b', off' + i, none⟩ = some (.int .u8 (r.getD i 0))) :
    Calls Tryz.prog 69 #[.slice (some ⟨b, off, none⟩) n c, .slice (some ⟨b', off', none⟩) m c'] w fun e w' => e = .returned (.bool (lx l r)) ∧ ∃ nq, w' = w.drewN nq := by
  have HL := hid hl
  have HR := hid hr
  have H1 := hid h1
  have H2 := hid h2
  clear hl hr h1 h2
  go_enter Tryz.func69, Tryz.ntmps69
  go_wp2_with fail
  go_loopw [5] (fun i wr => ∃ j nq : Nat, j ≤ n ∧ j ≤ m ∧ i = .int .i64 j ∧ Hid (∀ i, i < j → l.getD i 0 = r.getD i 0) ∧ wr = w.drewN nq) (fun i _ => n - (intOf i).toNat)
  case atStart => exact ⟨0, 0, by omega, by omega, rfl, fun i hi => by omega, rfl⟩
  case round =>
    obtain ⟨j, nq, hj, hjm, rfl, HE, rfl⟩ := hrel
    by_cases hlt : j < n
    · have hI : (j : Int) < n := by omega
      by_cases hlm : j < m
      · have hM : (j : Int) < m := by omega
        have c1 := HL.out j hlt
        have c2 := HR.out j hlm
        by_cases he : l.getD j 0 = r.getD j 0
        · have HE2 : Hid (∀ i, i < j + 1 → l.getD i 0 = r.getD i 0) := fun i hi => by
            by_cases e : i = j
            · rw [e]; exact he
            · exact HE.out i (by omega)
          rw [he] at c1
          generalize r.getD j 0 = y at *
          have hne : (y != y) = false := by simp
          clear he
          go_wp2_with fail
          go_region
          go_wp2_with fail
          go_roundw
          case rel => exact ⟨j + 1, _, by omega, by omega, by go_num, HE2, rfl⟩
          case measure => simp [intOf]; omega
        · have HX := hid (lx_at l r j (by rw [H1.out]; exact hlt) (by rw [H2.out]; exact hlm) HE.out he)
          have hne : (l.getD j 0 != r.getD j 0) = true := bne_iff_ne.2 he
          generalize l.getD j 0 = x at *
          generalize r.getD j 0 = y at *
          clear he
          go_wp2_with fail
          go_region
          go_wp2_with fail
          go_region
          go_wp2_with fail
          go_ret
          exact ⟨by rw [HX.out]; rfl, _, rfl⟩
      · have hM : ¬ (j : Int) < m := by omega
        have HX := hid (lx_all l r (fun i hi hi' => HE.out i (by rw [H2.out] at hi'; omega)))
        rw [H1.out, H2.out] at HX
        go_wp2_with fail
        go_ret
        exact ⟨by rw [HX.out]; rfl, _, rfl⟩
    · have hI : ¬ (j : Int) < n := by omega
      have HX := hid (lx_all l r (fun i hi hi' => HE.out i (by rw [H1.out] at hi; omega)))
      rw [H1.out, H2.out] at HX
      go_wp2_with fail
      go_ret
      exact ⟨by rw [HX.out]; rfl, _, rfl⟩
end Go.Proofs.YteeapmcpbmjpmaaGreat
