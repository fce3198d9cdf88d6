import Derived.Test.YtnjfckijpbgagaaABase
import Derived.Test.YtnjfckijpbgagaaGcm
import Derived.Test.YtnjfckijpbgagaaPTxt
import Derived.Deep.RegionLaw
import Derived.Deep.AppendLies
namespace Go.Proofs.Ytnjfckijpbgagaa
set_option maxRecDepth 100000
open Go.RowKit
set_option linter.unusedVariables false

/-- n bytes as cells. -/
def rw8 (n : Nat) (f : Nat → Nat) : Array Value := ((List.range n).map fun i => Value.int .u8 (f i : Nat)).toArray
theorem rw8_size (n : Nat) (f : Nat → Nat) : (rw8 n f).size = n := by simp [rw8]
theorem rw8_get (n : Nat) (f : Nat → Nat) (i : Nat) (h : i < n) : (rw8 n f)[i]? = some (.int .u8 (f i : Nat)) := by simp [rw8, h]
theorem rw8_set (n : Nat) (f : Nat → Nat) (i x : Nat) : (rw8 n f).setIfInBounds i (.int .u8 (x : Nat)) = rw8 n fun j => if j = i then x else f j := by
  apply Array.ext_getElem?
  intro j
  rw [Array.getElem?_setIfInBounds, rw8_size]
  by_cases hj : j < n
  · rw [rw8_get _ _ j hj, rw8_get _ _ j hj]
    by_cases h : i = j
    · subst h; simp [hj]
    · rw [if_neg h, if_neg (fun e => h e.symm)]
  · have e1 : ∀ f, (rw8 n f)[j]? = none := fun f => Array.getElem?_eq_none (by rw [rw8_size]; omega)
    rw [e1, e1]
    split
    · rw [if_neg (by omega)]
    · rfl
def Rw (w : World) (g : Nat) (t : TypeId) (n : Nat) (f : Nat → Nat) : Prop := w.heap[g]? = some (.cells (rw8 n f) t (0, 0))
theorem Rw.lt {w : World} {g t n : Nat} {f : Nat → Nat} (h : Rw w g t n f) : g < w.heap.size := (Array.getElem?_eq_some_iff.1 h).1
theorem Rw.fz {w : World} {g t n : Nat} {f : Nat → Nat} (h : Rw w g t n f) (i : Nat) : w.frozen? ⟨g, i, none⟩ = false := by unfold Rw at h; simp [World.frozen?, h]
theorem Rw.byte {w : World} {g t n : Nat} {f : Nat → Nat} (h : Rw w g t n f) (i : Nat) (hi : i < n) : w.cell? ⟨g, i, none⟩ = some (.int .u8 (f i : Nat)) := (cell_of_row w g i _ t (0, 0) h).trans (rw8_get n f i hi)
theorem Rw.set {w : World} {g t n : Nat} {f : Nat → Nat} (h : Rw w g t n f) (i x : Nat) : Rw (w.setCell ⟨g, i, none⟩ (.int .u8 (x : Nat))) g t n fun j => if j = i then x else f j := by
  unfold Rw at *; rw [← rw8_set]; simp [World.setCell, Array.getElem?_modify, h]
theorem Rw.other {w : World} {g g' t n : Nat} {f : Nat → Nat} (h : Rw w g t n f) (hn : g ≠ g') (i : Nat) (v : Value) : Rw (w.setCell ⟨g', i, none⟩ v) g t n f := by
  unfold Rw at *; rw [Below.heap_setCell _ _ _ _ hn]; exact h
theorem Rw.kept {w w' : World} {g t n : Nat} {f : Nat → Nat} (h : Rw w g t n f) (hb : Below w.heap.size w w') : Rw w' g t n f := by
  have := h.lt
  unfold Rw at *; rw [hb.block g this]; exact h
theorem Rw.new (w : World) (t n : Nat) (f : Nat → Nat) : Rw (w.alloc (.cells (rw8 n f) t)) w.heap.size t n f := heap_alloc_new w _
theorem Rw.alloc {w : World} {g t n : Nat} {f : Nat → Nat} (h : Rw w g t n f) (o : Obj) : Rw (w.alloc o) g t n f := by
  have := h.lt
  unfold Rw at *; rw [Below.heap_alloc _ _ _ this]; exact h
theorem Rw.drew {w : World} {g t n : Nat} {f : Nat → Nat} (h : Rw w g t n f) : Rw w.drew g t n f := h

/-- The document's cipher while it is made: c substitutions and doubles stand, the round words begin with l. -/
def NS (w : World) (g c : Nat) (l : List Nat) : Prop :=
  ∃ f, Rw w g 127 752 f ∧ (∀ y, y < c → f y = sbx y) ∧ (∀ y, y < c → f (256 + y) = mul8 2 y) ∧ ∀ j, j < 240 → f (512 + j) = l.getD j 0
theorem NS.lt {w : World} {g c : Nat} {l : List Nat} (h : NS w g c l) : g < w.heap.size := by obtain ⟨f, r, _⟩ := h; exact r.lt
theorem NS.fz {w : World} {g c : Nat} {l : List Nat} (h : NS w g c l) (i : Nat) : w.frozen? ⟨g, i, none⟩ = false := by obtain ⟨f, r, _⟩ := h; exact r.fz i
theorem NS.some {w : World} {g c : Nat} {l : List Nat} (h : NS w g c l) (i : Nat) (hi : i < 752) : ∃ o : Nat, w.cell? ⟨g, i, none⟩ = some (.int .u8 (o : Nat)) := by obtain ⟨f, r, _⟩ := h; exact ⟨_, r.byte i hi⟩
theorem NS.key {w : World} {g c : Nat} {l : List Nat} (h : NS w g c l) (j : Nat) (hj : j < 240) : w.cell? ⟨g, 512 + j, none⟩ = .some (.int .u8 (l.getD j 0 : Nat)) := by
  obtain ⟨f, r, _, _, hk⟩ := h
  rw [r.byte _ (by omega), hk j hj]
theorem NS.box {w : World} {g c : Nat} {l : List Nat} (h : NS w g c l) (y : Nat) (hy : y < c) (hc : c ≤ 256) : w.cell? ⟨g, y, none⟩ = .some (.int .u8 (sbx y : Nat)) := by
  obtain ⟨f, r, hb, _, _⟩ := h
  rw [r.byte _ (by omega), hb y hy]
theorem NS.dbl {w : World} {g c : Nat} {l : List Nat} (h : NS w g c l) (y : Nat) (hy : y < c) (hc : c ≤ 256) : w.cell? ⟨g, 256 + y, none⟩ = .some (.int .u8 (mul8 2 y : Nat)) := by
  obtain ⟨f, r, _, hb, _⟩ := h
  rw [r.byte _ (by omega), hb y hy]
theorem NS.kept {w w' : World} {g c : Nat} {l : List Nat} (h : NS w g c l) (hb : Below w.heap.size w w') : NS w' g c l := by obtain ⟨f, r, x⟩ := h; exact ⟨f, r.kept hb, x⟩
theorem NS.other {w : World} {g g' c : Nat} {l : List Nat} (h : NS w g c l) (hn : g ≠ g') (i : Nat) (v : Value) : NS (w.setCell ⟨g', i, none⟩ v) g c l := by obtain ⟨f, r, x⟩ := h; exact ⟨f, r.other hn i v, x⟩
theorem NS.alloc {w : World} {g c : Nat} {l : List Nat} (h : NS w g c l) (o : Obj) : NS (w.alloc o) g c l := by obtain ⟨f, r, x⟩ := h; exact ⟨f, r.alloc o, x⟩
theorem NS.drew {w : World} {g c : Nat} {l : List Nat} (h : NS w g c l) : NS w.drew g c l := by obtain ⟨f, r, x⟩ := h; exact ⟨f, r.drew, x⟩
theorem NS.setBoth {w w' : World} {g c : Nat} {l : List Nat} (h : NS w g c l) (hc : c < 256) (hw : ∀ f, Rw w g 127 752 f → Rw w' g 127 752 fun j => if j = 256 + c then mul8 2 c else if j = c then sbx c else f j) : NS w' g (c + 1) l := by
  obtain ⟨f, r, h1, h2, h3⟩ := h
  refine ⟨_, hw f r, fun y hy => ?_, fun y hy => ?_, fun j hj => ?_⟩
  · rw [if_neg (by omega)]
    by_cases e : y = c
    · rw [if_pos e, e]
    · rw [if_neg e, h1 y (by omega)]
  · by_cases e : y = c
    · rw [if_pos (by omega), e]
    · rw [if_neg (by omega), if_neg (by omega), h2 y (by omega)]
  · rw [if_neg (by omega), if_neg (by omega), h3 j hj]
theorem NS.setKey {w : World} {g c : Nat} {l l' : List Nat} (h : NS w g c l) (hc : c ≤ 256) (j x : Nat) (hj : j < 240) (hl : ∀ i, i < 240 → l'.getD i 0 = if i = j then x else l.getD i 0) : NS (w.setCell ⟨g, 512 + j, none⟩ (.int .u8 (x : Nat))) g c l' := by
  obtain ⟨f, r, h1, h2, h3⟩ := h
  refine ⟨_, r.set (512 + j) x, fun y hy => ?_, fun y hy => ?_, fun i hi => ?_⟩
  · rw [if_neg (by omega), h1 y hy]
  · rw [if_neg (by omega), h2 y hy]
  · rw [hl i hi]
    by_cases e : i = j
    · rw [if_pos e, if_pos (by omega)]
    · rw [if_neg e, if_neg (by omega), h3 i hi]
theorem getD_app (l m : List Nat) (j : Nat) : (l ++ m).getD j 0 = if j < l.length then l.getD j 0 else m.getD (j - l.length) 0 := by
  by_cases h : j < l.length
  · rw [if_pos h]; simp only [List.getD, List.getElem?_append_left h]
  · rw [if_neg h]; simp [List.getD, List.getElem?_append_right (Nat.not_lt.1 h)]
/-- One byte more. -/
theorem getD_more (l m : List Nat) (n k : Nat) (hl : l.length = n) (hk : k < m.length) (i : Nat) : (l ++ m.take (k + 1)).getD i 0 = if i = n + k then m.getD k 0 else (l ++ m.take k).getD i 0 := by
  rw [getD_app, getD_app, hl]
  by_cases h : i < n
  · rw [if_pos h, if_pos h, if_neg (by omega)]
  · rw [if_neg h, if_neg h]
    simp only [List.getD, List.getElem?_take]
    by_cases e : i = n + k
    · rw [if_pos e, e, show n + k - n = k from by omega, if_pos (by omega)]
    · rw [if_neg e]
      by_cases h2 : i - n < k
      · rw [if_pos (by omega), if_pos h2]
      · rw [if_neg (by omega), if_neg h2]
end Go.Proofs.Ytnjfckijpbgagaa
namespace Go.Proofs.Ytnjfckijpbgagaa
set_option maxRecDepth 100000
open Go.RowKit
set_option linter.unusedVariables false

/-- Numbers as Go's. -/
def ic (l : List Nat) : List Int := l.map fun x : Nat => (x : Int)
theorem ic_length (l : List Nat) : (ic l).length = l.length := by simp [ic]
theorem ic_get (l : List Nat) (i : Nat) : (ic l).getD i 0 = ((l.getD i 0 : Nat) : Int) := by
  simp only [ic, List.getD, List.getElem?_map]
  cases l[i]? <;> rfl
theorem ic_append (a b : List Nat) : ic (a ++ b) = ic a ++ ic b := by simp [ic]
theorem ic_bytes {l : List Nat} (h : ∀ x ∈ l, x < 256) : ∀ z ∈ ic l, 0 ≤ z ∧ z ≤ 255 := by
  intro z hz
  obtain ⟨x, hx, rfl⟩ := List.mem_map.1 hz
  have := h x hx
  omega
theorem ic_toNat {zs : List Int} (h : ∀ z ∈ zs, 0 ≤ z ∧ z ≤ 255) : ic (zs.map Int.toNat) = zs := by
  unfold ic
  rw [List.map_map]
  conv => rhs; rw [← List.map_id zs]
  apply List.map_congr_left
  intro z hz
  have := h z hz
  show ((Int.toNat z : Nat) : Int) = z
  omega
theorem Bs.byte {w : World} {a : Option Addr} {n : Nat} {t : List Nat} (h : Bs w a n (ic t)) (i : Nat) (hi : i < n) : ∃ b off, a = some ⟨b, off, none⟩ ∧ w.cell? ⟨b, off + i, none⟩ = some (.int .u8 (t.getD i 0 : Nat)) := by
  rcases h.2.2 with h0 | ⟨b, off, e, hc⟩
  · omega
  · exact ⟨b, off, e, by rw [hc i hi, ic_get]⟩
theorem refMulA_ (f h : Nat → Nat) (w : World) (hf : ∀ i, i < 16 → f i < 256) (hh : ∀ i, i < 16 → h i < 256) :
    Calls Try.prog 104 #[.agg (av f), .agg (av h)] w fun e w' => e = .returned (.agg (av (gm f h))) ∧ Below w.heap.size w w' := by
  rw [av_pk hf, av_pk hh]
  exact refMul128_ (pk f) (pk h) w (pk_lt hh)
theorem refXorA_ (f h : Nat → Nat) (w : World) (hf : ∀ i, i < 16 → f i < 256) (hh : ∀ i, i < 16 → h i < 256) :
    Calls Try.prog 82 #[.agg (av f), .agg (av h)] w fun e w' => e = .returned (.agg (av fun i => f i ^^^ h i)) ∧ Below w.heap.size w w' := by
  have e : av (fun i => f i ^^^ h i) = bv (pk f ^^^ pk h) := by
    rw [← av_bv]
    exact av_ext fun i hi => by rw [dg_xor, dg_pk hf i hi, dg_pk hh i hi]
  rw [e, av_pk hf, av_pk hh]
  exact refXor_ (pk f) (pk h) w

theorem shr_cast (n m : Nat) : ((n : Int) / 2 ^ m % 256) = ((n / 2 ^ m % 256 : Nat) : Int) := by
  rw [Int.natCast_emod, Int.natCast_ediv, Int.natCast_pow]; rfl
set_option maxHeartbeats 1000000 in
theorem counter_ (a : Option Addr) (cap : Nat) (nz : List Nat) (n : Nat) (w : World) (hb : Bs w a 12 (ic nz)) (hn : n < 2 ^ 31) :
    Calls Try.prog 79 #[.slice a 12 cap, .int .i64 n] w fun e w' => e = .returned (.agg (av (cb nz n))) ∧ Below w.heap.size w w' := by
  obtain ⟨A0, A1, B0⟩ := new2 w (av fun _ => 0) (av fun _ => 0)
  go_enter Try.func79, Try.ntmps79
  go_wp2_with fail
  rw [zeros16a]
  generalize (w.alloc (.cells (av fun _ => 0) 96)).alloc (.cells (av fun _ => 0) 96) = w1 at *
  go_loopw [6] (fun i wr => ∃ j : Nat, j ≤ 12 ∧ i = .int .i64 j ∧ Ar wr w.heap.size (av fun _ => 0) ∧ Ar wr (w.heap.size + 1) (av (mix j (cb nz n) fun _ => 0)) ∧ Below w.heap.size w wr) (fun i _ => 12 - (intOf i).toNat)
  case atStart => exact ⟨0, by omega, rfl, A0, by rw [mix_zero]; exact A1, B0⟩
  case round =>
    obtain ⟨j, hj, rfl, a0, a1, b0⟩ := hrel
    clear A0 A1 B0
    by_cases hlt : j < 12
    · obtain ⟨b, off, rfl, hc⟩ := hb.byte j hlt
      have hck := (b0.cell (World.block_lt_of_cell? w _ hc)).trans hc
      have c1 := a1.byte j (by omega)
      have f1 := a1.fz j
      have HC : Hid (cb nz n j = nz.getD j 0) := by show _ = _; unfold cb; rw [if_pos hlt]
      have HS := hid (mix_set j (cb nz n) fun _ => 0)
      have A1 := a1.set j (.int .u8 (cb nz n j : Nat))
      rw [HS.out, HC.out] at A1
      have A0 := a0.other (g' := w.heap.size + 1) (by omega) j (.int .u8 (nz.getD j 0 : Nat))
      have B3 : Below w.heap.size w (wr.setCell ⟨w.heap.size + 1, j, none⟩ (.int .u8 (nz.getD j 0 : Nat))) := b0.setCell (by show _ ≤ w.heap.size + 1; omega) _
      clear a0 a1 b0 HS HC hc
      generalize mix j (cb nz n) (fun _ => 0) j = o at *
      generalize nz.getD j 0 = x at *
      go_wp2_with fail
      go_roundw
      case rel => exact ⟨j + 1, by omega, by go_num, A0, A1, B3⟩
      case measure => simp [intOf]; omega
    · have hge : ¬ (j : Int) < 12 := by omega
      rw [show j = 12 from by omega] at a1
      clear hlt hj
      obtain ⟨wo, rfl⟩ : ∃ wo, wo = wr := ⟨_, rfl⟩
      go_wp2_with fail
      go_loopw [7] (fun i wr => ∃ m : Nat, m ≤ 4 ∧ i = .int .i64 m ∧ Ar wr w.heap.size (av fun _ => 0) ∧ Ar wr (w.heap.size + 1) (av (mix (12 + m) (cb nz n) fun _ => 0)) ∧ Below w.heap.size w wr) (fun i _ => 4 - (intOf i).toNat)
      case atStart => exact ⟨0, by omega, rfl, a0, a1, b0⟩
      case round =>
        clear a0 a1 b0
        obtain ⟨m, hm, rfl, a0, a1, b0⟩ := hrel
        by_cases hlt : m < 4
        · have c1 := a1.byte (12 + m) (by omega)
          have f1 := a1.fz (12 + m)
          have HC : Hid (((cb nz n (12 + m) : Nat) : Int) = (n : Int) / 2 ^ (24 - 8 * m) % 256) := by
            show _ = _
            unfold cb
            rw [if_neg (by omega), show 12 + m - 12 = m from by omega, shr_cast]
          have HS := hid (mix_set (12 + m) (cb nz n) fun _ => 0)
          have A1 := a1.set (12 + m) (.int .u8 (cb nz n (12 + m) : Nat))
          rw [HS.out, HC.out] at A1
          have A0 := a0.other (g' := w.heap.size + 1) (by omega) (12 + m) (.int .u8 ((n : Int) / 2 ^ (24 - 8 * m) % 256))
          have B3 : Below w.heap.size w (wr.setCell ⟨w.heap.size + 1, 12 + m, none⟩ (.int .u8 ((n : Int) / 2 ^ (24 - 8 * m) % 256))) := b0.setCell (by show _ ≤ w.heap.size + 1; omega) _
          clear a0 a1 b0 HS HC
          generalize mix (12 + m) (cb nz n) (fun _ => 0) (12 + m) = o at *
          go_wp2_with fail
          go_roundw
          case rel => exact ⟨m + 1, by omega, by go_num, A0, A1, B3⟩
          case measure => simp [intOf]; omega
        · obtain rfl : m = 4 := by omega
          rw [mix_all] at a1
          go_wp2_with (first | (refine wpList_lda rfl _ rfl (w.heap.size + 1) rfl _ (by with_reducible exact a1) ?_) | (refine wpList_sta rfl rfl _ _ rfl w.heap.size (cb nz n) rfl rfl _ (by with_reducible exact a0) ?_))
          refine bodyPost_ret (v := .agg (av (cb nz n))) ?_ rfl ⟨rfl, bel_row b0 (Nat.le_refl _) _⟩
          exact results_av rfl _ _ w.heap.size (cb nz n) rfl (a0.row _)

theorem zx_end (z : Nat → Nat) (b : List Nat) (r k : Nat) (h : k = 16 ∨ b.length ≤ 16 * r + k) : av (mix k (zx z b r) z) = av (zx z b r) := av_ext fun i hi => by
  unfold mix
  by_cases hk : i < k
  · rw [if_pos hk]
  · rw [if_neg hk]
    unfold zx
    rw [if_neg (by omega)]
set_option maxHeartbeats 2000000 in
theorem folded_ (z h : Nat → Nat) (a : Option Addr) (n cap : Nat) (b : List Nat) (w : World) (hb : Bs w a n (ic b)) (hn : n ≤ 1000000000) (hz : ∀ i, i < 16 → z i < 256) (hh : ∀ i, i < 16 → h i < 256) (hby : ∀ x ∈ b, x < 256) :
    Calls Try.prog 81 #[.agg (av z), .agg (av h), .slice a n cap] w fun e w' => e = .returned (.agg (av (fo h b z))) ∧ Below w.heap.size w w' := by
  have hl : b.length = n := by have := hb.1; rwa [ic_length] at this
  have HL := hid hl
  have HZ := hid hz
  have HH := hid hh
  have HBY := hid hby
  clear hl hz hh hby
  obtain ⟨A0, A1, A2, B0⟩ := new3 w (av z) (av h) (av fun _ => 0)
  go_enter Try.func81, Try.ntmps81
  go_wp2_with fail
  rw [zeros16a]
  generalize ((w.alloc (.cells (av z) 96)).alloc (.cells (av h) 96)).alloc (.cells (av fun _ => 0) 96) = w1 at *
  go_loopw [7] (fun i wr => ∃ r : Nat, r ≤ (n + 15) / 16 ∧ i = .int .i64 (16 * (r : Int)) ∧ Ar wr w.heap.size (av (fd h b z r)) ∧ Ar wr (w.heap.size + 1) (av h) ∧ Ar wr (w.heap.size + 1 + 1) (av fun _ => 0) ∧ Below w.heap.size w wr) (fun i _ => n + 16 - (intOf i).toNat)
  case atStart => exact ⟨0, by omega, rfl, A0, A1, A2, B0⟩
  case round =>
    obtain ⟨r, hr, rfl, a0, a1, a2, b0⟩ := hrel
    clear A0 A1 A2 B0
    by_cases hlt : 16 * r < n
    · have hv := fd_lt (h := h) (b := b) HZ.out r
      have HN : Hid (fd h b z (r + 1) = gm (zx (fd h b z r) b r) h) := rfl
      have hi1 : (16 * (r : Int)) < (n : Int) := by omega
      generalize fd h b z r = v at *
      have HV := hid hv
      clear hv
      obtain ⟨wo, rfl⟩ : ∃ wo, wo = wr := ⟨_, rfl⟩
      go_wp2_with fail
      go_loopw [8] (fun i wr => ∃ k : Nat, k ≤ 16 ∧ 16 * r + k ≤ n ∧ i = .int .i64 k ∧ Ar wr w.heap.size (av (mix k (zx v b r) v)) ∧ Ar wr (w.heap.size + 1) (av h) ∧ Ar wr (w.heap.size + 1 + 1) (av fun _ => 0) ∧ Below w.heap.size w wr) (fun i _ => 16 - (intOf i).toNat)
      case atStart => exact ⟨0, by omega, by omega, rfl, by rw [mix_zero]; exact a0, a1, a2, b0⟩
      case round =>
        clear a0 a1 a2 b0
        obtain ⟨k, hk, hkn, rfl, a0, a1, a2, b0⟩ := hrel
        by_cases hgo : k < 16 ∧ 16 * r + k < n
        · obtain ⟨hk1, hk2⟩ := hgo
          obtain ⟨b1, off, rfl, hc⟩ := hb.byte (16 * r + k) hk2
          have hck := (b0.cell (World.block_lt_of_cell? w _ hc)).trans hc
          have c0 := a0.byte k hk1
          rw [mix_at] at c0
          have f0 := a0.fz k
          have e1 : (k : Int) < 16 := by omega
          have e2 : 16 * (r : Int) + (k : Int) < (n : Int) := by omega
          have ew : IntKind.i64.wrap (16 * (r : Int) + (k : Int)) = 16 * (r : Int) + (k : Int) := by rw [IntKind.wrap_i64]; omega
          have HX : Hid (bits .xor .u8 (v k : Int) (b.getD (16 * r + k) 0 : Int) = ((zx v b r k : Nat) : Int)) := by
            show _ = _
            rw [u8x (HV.out k hk1) (getD_lt HBY.out _)]
            unfold zx
            rw [if_pos (by rw [HL.out]; exact hk2)]
          have HS := hid (mix_set k (zx v b r) v)
          have A0 := a0.set k (.int .u8 (zx v b r k : Nat))
          rw [HS.out] at A0
          have A1 := a1.other (g' := w.heap.size) (by omega) k (.int .u8 (zx v b r k : Nat))
          have A2 := a2.other (g' := w.heap.size) (by omega) k (.int .u8 (zx v b r k : Nat))
          have B3 : Below w.heap.size w (wr.setCell ⟨w.heap.size, k, none⟩ (.int .u8 (zx v b r k : Nat))) := b0.setCell (Nat.le_refl _) _
          clear a0 a1 a2 b0 hc HS
          generalize b.getD (16 * r + k) 0 = y at *
          generalize v k = x at *
          go_wp2_with fail
          go_region
          rw [HX.out]
          generalize zx v b r k = o at *
          clear c0 f0 hck HX
          go_wp2_with fail
          go_roundw
          case rel => exact ⟨k + 1, by omega, by omega, by go_num, A0, A1, A2, bel_drawn B3 1⟩
          case measure => simp [intOf]; omega
        · have hx : ¬ (k : Int) < 16 ∨ ((k : Int) < 16 ∧ ¬ 16 * (r : Int) + (k : Int) < (n : Int)) := by omega
          rw [zx_end v b r k (by rw [HL.out]; omega)] at a0
          have k1 := fun w => refMulA_ (zx v b r) h w (zx_lt HV.out HBY.out r) HH.out
          rw [← HN.out] at k1
          generalize zx v b r = v1 at *
          generalize Hn : fd h b z (r + 1) = n1 at *
          have HN := hid Hn
          clear Hn hgo hk hkn
          have s0 := b0.size
          rcases hx with hx | ⟨hx1, hx⟩
          all_goals
            go_wp2_with (first | (refine wpList_lda rfl _ rfl w.heap.size rfl _ (by with_reducible exact a0) ?_) | (refine wpList_lda rfl _ rfl (w.heap.size + 1) rfl _ (by with_reducible exact a1) ?_))
            refine (k1 _).mono ?_
            rintro e w2 ⟨rfl, g2⟩
            have a0' := a0.kept g2
            have a0 := a0'.row (av n1)
            have a1 := (a1.kept g2).orow (g' := w.heap.size) (by omega) (av n1)
            have a2 := (a2.kept g2).orow (g' := w.heap.size) (by omega) (av n1)
            have b0 := bel_row (bel_bel b0 s0 g2) (g := w.heap.size) (Nat.le_refl _) (av n1)
            clear g2 k1
            go_wp2_with (refine wpList_sta rfl rfl _ _ rfl w.heap.size n1 rfl rfl _ (by with_reducible exact a0') ?_)
            go_roundw
            case rel => exact ⟨r + 1, by omega, by go_num, by rw [HN.out]; exact a0, a1, a2, b0⟩
            case measure => simp [intOf]; omega
    · have hge : ¬ (16 * (r : Int)) < (n : Int) := by omega
      have e : av (fd h b z r) = av (fo h b z) := by unfold fo; rw [HL.out, show r = (n + 15) / 16 from by omega]
      rw [e] at a0
      clear e
      obtain ⟨f, Hf⟩ : ∃ f, Hid (fo h b z = f) := ⟨_, rfl⟩
      rw [Hf.out] at a0
      go_wp2_with (first | (refine wpList_lda rfl _ rfl w.heap.size rfl _ (by with_reducible exact a0) ?_) | (refine wpList_sta rfl rfl _ _ rfl (w.heap.size + 1 + 1) f rfl rfl _ (by with_reducible exact a2) ?_))
      refine bodyPost_ret (v := .agg (av f)) ?_ rfl ⟨by rw [Hf.out], bel_row b0 (by omega) _⟩
      exact results_av rfl _ _ (w.heap.size + 1 + 1) f rfl (a2.row _)
end Go.Proofs.Ytnjfckijpbgagaa
