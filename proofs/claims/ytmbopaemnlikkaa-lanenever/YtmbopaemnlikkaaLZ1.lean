import Derived.Test.YtmbopaemnlikkaaLZ0
namespace Go.Proofs.Ytmbopaemnlikkaa
set_option maxRecDepth 100000
open Go.RowKit
set_option linter.unusedVariables false

/-- What use leaves. -/
structure Us (w w1 : World) (pu : Nat) (v1 v2 : Value) (P : List (Int × Int)) (g c : Int) (e : Ending) (w' : World) : Prop where
  e : e = .returned (.bool true)
  b : ∃ u1 u2, Bu w w' pu u1 u2 (P ++ [(g, c)]) ∧ (∀ y, u1.ownBlock = some y → v1.ownBlock = some y ∨ w1.heap.size ≤ y) ∧ (∀ y, u2.ownBlock = some y → v2.ownBlock = some y ∨ w1.heap.size ≤ y)
  os : w'.os = w1.os
  tape : w'.tape = w1.tape
  output : w'.output = w1.output
  size : w1.heap.size ≤ w'.heap.size
  block : ∀ k, k < w1.heap.size → k ≠ pu → v1.ownBlock ≠ some k → v2.ownBlock ≠ some k → w'.heap[k]? = w1.heap[k]?
theorem blk_set0 {w : World} {pu : Nat} {v1 v2 : Value} {t : TypeId} (h : w.heap[pu]? = some (.cells #[v1, v2] t (0, 0))) (u : Value) : (w.setCell ⟨pu, 0, none⟩ u).heap[pu]? = some (.cells #[u, v2] t (0, 0)) := by simp [World.setCell, Array.getElem?_modify, h]
theorem blk_set1 {w : World} {pu : Nat} {v1 v2 : Value} {t : TypeId} (h : w.heap[pu]? = some (.cells #[v1, v2] t (0, 0))) (u : Value) : (w.setCell ⟨pu, 1, none⟩ u).heap[pu]? = some (.cells #[v1, u] t (0, 0)) := by simp [World.setCell, Array.getElem?_modify, h]
theorem Uo.cellSet {w wr : World} {v : Value} {xs : List Int} (h : Uo w wr v xs) {g : Nat} (hg : v.ownBlock ≠ some g) (i : Nat) (u : Value) : Uo w (wr.setCell ⟨g, i, none⟩ u) v xs := World.ownsRow.kept h (row := some g) ⟨rfl, rfl, rfl, by simp [World.setCell], fun k hk e => Below.heap_setCell _ _ _ _ (by intro h; exact e (by rw [h]))⟩ (.inr hg)
theorem Ug.cellSet {w wr : World} {v : Value} {xs : List Int} (h : Ug w wr v xs) {g : Nat} (hg : v.ownBlock ≠ some g) (i : Nat) (u : Value) : Ug w (wr.setCell ⟨g, i, none⟩ u) v xs := World.ownsRow.kept h (row := some g) ⟨rfl, rfl, rfl, by simp [World.setCell], fun k hk e => Below.heap_setCell _ _ _ _ (by intro h; exact e (by rw [h]))⟩ (.inr hg)
set_option maxHeartbeats 8000000 in
/-- The law's use, of a pair that is new. -/
theorem use_ (w : World) (pu : Nat) (v1 v2 : Value) (P : List (Int × Int)) (g c : Int) (w1 : World) (h : Bu w w1 pu v1 v2 P) (hn : (g, c) ∉ P) (hl : P.length ≤ 50000) (hb : w.heap.size ≤ w1.heap.size) :
    Calls Try.prog 14 #[.pointer (some ⟨pu, 0, none⟩), .int .i64 g, .int .u64 c] w1 fun e w' => Us w w1 pu v1 v2 P g c e w' := by
  obtain ⟨a1, d1, rfl, hf1⟩ := h.gs.form
  obtain ⟨a2, d2, rfl, hf2⟩ := h.cs.form
  obtain ⟨L, hL⟩ : ∃ z, P.length = z := ⟨_, rfl⟩
  have HL := hid hL
  have HF1 := hid hf1
  have HF2 := hid hf2
  have HB := hid h
  simp only [List.length_map, hL] at HF1 HF2 HB
  rw [hL] at hl
  have HN := hid hn
  have c0 := HB.out.c0
  have c1 := HB.out.c1
  have m1 : (P.map fun p => p.1).length = L := by simp [hL]
  have m2 : (P.map fun p => p.2).length = L := by simp [hL]
  rw [m1, m2]
  clear h hn hL hf1 hf2
  go_enter Try.func14, Try.ntmps14
  go_wp2_with fail
  go_loopw [7] (fun i wr => ∃ t : Nat, t ≤ L ∧ i = .int .i64 t ∧ wr = w1) (fun i _ => L - (intOf i).toNat)
  case atStart => exact ⟨0, by omega, rfl, rfl⟩
  case round =>
    obtain ⟨t, ht, rfl, hwr⟩ := hrel
    obtain rfl := hwr.symm
    by_cases htl : t < L
    · have htI : (t : Int) < L := by omega
      obtain ⟨b1, rfl, hc1⟩ : ∃ b, a1 = some ⟨b, 0, none⟩ ∧ ∀ i, i < L → w1.cell? ⟨b, i, none⟩ = some (.int .i64 ((P.map fun p => p.1).getD i 0)) := by
        rcases HF1.out with h0 | h0
        · omega
        · exact h0
      obtain ⟨b2, rfl, hc2⟩ : ∃ b, a2 = some ⟨b, 0, none⟩ ∧ ∀ i, i < L → w1.cell? ⟨b, i, none⟩ = some (.int .u64 ((P.map fun p => p.2).getD i 0)) := by
        rcases HF2.out with h0 | h0
        · omega
        · exact h0
      have k1 := hc1 t htl
      have k2 := hc2 t htl
      have hP : t < P.length := by have := HL.out; omega
      obtain ⟨x, hx⟩ : ∃ z, (P.map fun p => p.1).getD t 0 = z := ⟨_, rfl⟩
      obtain ⟨y, hy⟩ : ∃ z, (P.map fun p => p.2).getD t 0 = z := ⟨_, rfl⟩
      have hmem : (x, y) ∈ P := by
        have e1 : x = (P[t]'hP).1 := by rw [← hx]; simp [List.getD, hP]
        have e2 : y = (P[t]'hP).2 := by rw [← hy]; simp [List.getD, hP]
        rw [e1, e2]
        exact List.getElem_mem _
      rw [hx] at k1
      rw [hy] at k2
      have HM := hid hmem
      clear hc1 hc2 hx hy hmem hP
      by_cases hxg : x = g
      · have hyc : (y == c) = false := beq_eq_false_iff_ne.2 fun e => HN.out (by rw [← hxg, ← e]; exact HM.out)
        have hxe : (x == g) = true := by rw [hxg]; simp
        clear hxg
        go_wp2_with fail
        go_roundw
        case rel => exact ⟨t + 1, by omega, by go_num, by first | trivial | rfl⟩
        case measure => simp [intOf]; omega
      · have hxe : (x == g) = false := beq_eq_false_iff_ne.2 hxg
        go_wp2_with fail
        go_roundw
        case rel => exact ⟨t + 1, by omega, by go_num, by first | trivial | rfl⟩
        case measure => simp [intOf]; omega
    · have htI : ¬ (t : Int) < L := by omega
      have HGS := hid HB.out.gs
      have HCS := hid HB.out.cs
      have HK := hid HB.out.blk
      have HN1 := hid HB.out.n1
      have HN2 := hid HB.out.n2
      have HN3 := hid HB.out.n3
      have HGE := hid HB.out.ge
      have HPL := hid HB.out.lt
      have HM1 : Hid ((P.map fun p => p.1).length ≤ 100000) := by show _ ≤ _; omega
      have HM2 : Hid ((P.map fun p => p.2).length ≤ 100000) := by show _ ≤ _; omega
      have HWB := hid hb
      clear HF1 HF2 m1 m2 c1
      go_upto_region 7 with (at_builtin; refine wpList_appG (w0 := w) (wr := w1) rfl _ _ rfl (.slice a1 L d1) (P.map fun p => p.1) g rfl HGS.out rfl HM1.out HWB.out ?_; intro v' w2 hu hg hs hy; obtain ⟨x1, y1, rfl, hfx⟩ := hu.form; obtain ⟨L1, hL1⟩ : ∃ z, ((P.map fun p => p.1) ++ [g]).length = z := ⟨_, rfl⟩; rw [hL1] at hu hy; rw [hL1]; have HLL := hid hL1; have HU := hid hu; have HG := hid hg; have HY := hid hy; have HK2 := hid ((hg.block pu HPL.out (Ne.symm HN1.out)).trans HK.out); have z0 := (cell_of_row w2 pu 0 _ _ (0, 0) HK2.out).trans rfl; have zf : w2.frozen? ⟨pu, 0, none⟩ = false := (by have h0 := HK2.out; simp [World.frozen?, h0]); clear hu hg hs hy hfx hL1)
      have HK3 := hid (blk_set0 HK2.out (.slice x1 L1 y1))
      have HU3 := hid (HU.out.cellSet (g := pu) (fun e => by rcases HY.out _ e with h1 | h1; exact HN1.out h1; have := HPL.out; omega) 0 (.slice x1 L1 y1))
      have HC2 : Hid (Uo w w2 (.slice a2 L d2) (P.map fun p => p.2)) := World.ownsRow.kept HCS.out HG.out (by cases e : (Value.slice a2 L d2).ownBlock with | none => exact .inl rfl | some x => exact .inr (fun e2 => HN3.out x e2.symm e))
      have HC3 := hid (HC2.out.cellSet (g := pu) HN2.out 0 (.slice x1 L1 y1))
      have HS3 : Hid (w1.heap.size ≤ (w2.setCell ⟨pu, 0, none⟩ (.slice x1 L1 y1)).heap.size) := by have := HG.out.size; show _ ≤ _; simp [World.setCell]; exact this
      have HB3 : Hid (∀ k, k < w1.heap.size → k ≠ pu → (Value.slice a1 L d1).ownBlock ≠ some k → (w2.setCell ⟨pu, 0, none⟩ (.slice x1 L1 y1)).heap[k]? = w1.heap[k]?) := fun k hk h1 h2 => (Below.heap_setCell _ _ _ _ h1).trans (HG.out.block k hk (Ne.symm h2))
      have HO3 : Hid ((w2.setCell ⟨pu, 0, none⟩ (.slice x1 L1 y1)).os = w1.os ∧ (w2.setCell ⟨pu, 0, none⟩ (.slice x1 L1 y1)).tape = w1.tape ∧ (w2.setCell ⟨pu, 0, none⟩ (.slice x1 L1 y1)).output = w1.output) := ⟨HG.out.os, HG.out.tape, HG.out.output⟩
      obtain ⟨w3, HW3⟩ : ∃ z, Hid (w2.setCell ⟨pu, 0, none⟩ (.slice x1 L1 y1) = z) := ⟨_, rfl⟩
      rw [HW3.out] at HK3 HU3 HC3 HS3 HB3 HO3
      rw [HW3.out]
      clear HW3 z0 zf HK2 HU HC2 HG c0
      have c1 := (cell_of_row w3 pu 1 _ _ (0, 0) HK3.out).trans rfl
      go_wp2_with (at_builtin; refine wpList_appU (w0 := w) (wr := w3) rfl _ _ rfl (.slice a2 L d2) (P.map fun p => p.2) c rfl HC3.out rfl HM2.out (Nat.le_trans HWB.out HS3.out) ?_; intro v' w4 hu hg hs hy; obtain ⟨x2, y2, rfl, hfx⟩ := hu.form; obtain ⟨L2, hL2⟩ : ∃ z, ((P.map fun p => p.2) ++ [c]).length = z := ⟨_, rfl⟩; rw [hL2] at hu hy; rw [hL2]; have HU4 := hid hu; have HG4 := hid hg; have HY4 := hid hy; have HK4 := hid ((hg.block pu (Nat.lt_of_lt_of_le HPL.out HS3.out) (Ne.symm HN2.out)).trans HK3.out); have z0 := (cell_of_row w4 pu 1 _ _ (0, 0) HK4.out).trans rfl; have zf : w4.frozen? ⟨pu, 1, none⟩ = false := (by have h0 := HK4.out; simp [World.frozen?, h0]); clear hu hg hs hy hfx hL2)
      go_ret
      have hx1 : ∀ y, (Value.slice x1 L1 y1).ownBlock = some y → y < w3.heap.size := fun y e => (HU3.out.lt e).2
      have hp1 : (Value.slice x1 L1 y1).ownBlock ≠ some pu := fun e => by rcases HY.out _ e with h1 | h1; exact HN1.out h1; have := HPL.out; omega
      have hp2 : (Value.slice x2 L2 y2).ownBlock ≠ some pu := fun e => by rcases HY4.out _ e with h1 | h1; exact HN2.out h1; have := HPL.out; have := HS3.out; omega
      have h12 : ∀ y, (Value.slice x1 L1 y1).ownBlock = some y → (Value.slice a2 L d2).ownBlock ≠ some y := fun y e e2 => by
        rcases HY.out y e with h1 | h1
        · exact HN3.out y h1 e2
        · have := (HCS.out.lt e2).2
          omega
      refine ⟨rfl, ⟨.slice x1 L1 y1, .slice x2 L2 y2, ⟨blk_set1 HK4.out _, ?_, ?_, hp1, hp2, fun y e e2 => ?_, HGE.out⟩, HY.out, fun y e => ?_⟩, HG4.out.os.trans HO3.out.1, HG4.out.tape.trans HO3.out.2.1, HG4.out.output.trans HO3.out.2.2, ?_, fun k hk h1 h2 h3 => ?_⟩
      · rw [List.map_append]
        refine Ug.cellSet ?_ hp1 1 _
        exact World.ownsRow.kept HU3.out HG4.out (by cases e : (Value.slice x1 L1 y1).ownBlock with | none => exact .inl rfl | some x => exact .inr (fun e2 => h12 x e e2.symm))
      · rw [List.map_append]
        exact Uo.cellSet HU4.out hp2 1 _
      · rcases HY4.out y e2 with h1 | h1
        · exact h12 y e h1
        · have := hx1 y e
          omega
      · rcases HY4.out y e with h1 | h1
        · exact .inl h1
        · exact .inr (Nat.le_trans HS3.out h1)
      · have h8 := HG4.out.size
        have h9 := HS3.out
        simp [World.setCell]
        omega
      · exact (Below.heap_setCell _ _ _ _ h1).trans ((HG4.out.block k (Nat.lt_of_lt_of_le hk HS3.out) (Ne.symm h3)).trans (HB3.out k hk h1 h2))
end Go.Proofs.Ytmbopaemnlikkaa
