import Derived.Test.YtohfdkhlpghbcaaRW
namespace Go.Proofs.Ytohfdkhlpghbcaa
set_option maxRecDepth 100000
open Go.RowKit
set_option linter.unusedVariables false

/-! Get of what Put answered. -/
theorem val_be_in {W : Nat} {x : Int} (h0 : 0 ≤ x) (h1 : x < 256 ^ W) : val (be W x) = x := by
  rw [val_be]
  exact Int.emod_eq_of_lt h0 h1
theorem rdN_at {l r : List Int} {p n : Nat} {b : List Int} (hl : l.length = p) (hb : b.length = n) : rdN (l ++ (b ++ r)) p n = val b := by
  unfold rdN
  rw [if_pos (by simp only [List.length_append]; omega), List.drop_left' hl, List.take_left' hb]
theorem lok_in {m : Nat} {S C N s n : Int} (h : lok m S C N s n = true) : vld s n = true ∧ m = 32 ∧ (S = 0 ∨ S = 1) ∧ 1 ≤ C ∧ C ≤ 2147483647 ∧ 0 ≤ N ∧ N ≤ 2147483647 := of_decide_eq_true h
theorem lV_parts {S C N D E s n : Int} (hC : 0 ≤ C ∧ C ≤ 4294967295) (hN : 0 ≤ N ∧ N ≤ 4294967295) (hD : u64r D) (hE : u64r E) (hs : i64r s) (hv : vld s n = true) :
    yS (lV S C N D E s n) = S ∧ rdN (lV S C N D E s n) 1 4 = C ∧ rdN (lV S C N D E s n) 5 4 = N ∧ rdN (lV S C N D E s n) 9 8 = D ∧ rdN (lV S C N D E s n) 17 8 = E ∧ (lV S C N D E s n).drop 25 = pt s n ∧ qs (pt s n) = s ∧ qn (pt s n) = n ∧ gok (pt s n) = true := by
  unfold i64r u64r at *
  have hl : (pt s n).length = 12 := by rw [pt_length, hv]; rfl
  obtain ⟨e1, e2⟩ := gs_pt s n hv hs.2
  have hvd := of_decide_eq_true (show decide _ = true from hv)
  have hg : gok (pt s n) = true := decide_eq_true ⟨hl, by rw [e1]; exact hs.2, by rw [e2]; exact hvd.2.2⟩
  obtain ⟨q1, q2, -⟩ := q_good hg
  refine ⟨rfl, ?_, ?_, ?_, ?_, ?_, by rw [← q1, e1], by rw [← q2, e2], hg⟩
  · have e : lV S C N D E s n = [S] ++ (be 4 C ++ (be 4 N ++ (be 8 D ++ (be 8 E ++ pt s n)))) := by unfold lV; simp only [List.append_assoc]
    rw [e, rdN_at (p := 1) (by simp) (be_length _ _), val_be_in hC.1 (by omega)]
  · have e : lV S C N D E s n = ([S] ++ be 4 C) ++ (be 4 N ++ (be 8 D ++ (be 8 E ++ pt s n))) := by unfold lV; simp only [List.append_assoc]
    rw [e, rdN_at (by simp [be_length]) (be_length _ _), val_be_in hN.1 (by omega)]
  · have e : lV S C N D E s n = (([S] ++ be 4 C) ++ be 4 N) ++ (be 8 D ++ (be 8 E ++ pt s n)) := by unfold lV; simp only [List.append_assoc]
    rw [e, rdN_at (by simp [be_length]) (be_length _ _), val_be_in hD.1 (by omega)]
  · have e : lV S C N D E s n = ((([S] ++ be 4 C) ++ be 4 N) ++ be 8 D) ++ (be 8 E ++ pt s n) := by unfold lV; simp only [List.append_assoc]
    rw [e, rdN_at (by simp [be_length]) (be_length _ _), val_be_in hE.1 (by omega)]
  · unfold lV
    rw [List.drop_left' (by simp [be_length])]
theorem yok_put {k : List Int} {S C N D E s n : Int} (h : lok k.length S C N s n = true) (hD : u64r D) (hE : u64r E) (hs : i64r s) : yok (lK k) (lV S C N D E s n) = true := by
  obtain ⟨h1, h2, h3, h4, h5, h6, h7⟩ := lok_in h
  obtain ⟨p1, p2, p3, p4, p5, p6, p7, p8, p9⟩ := lV_parts (S := S) (C := C) (N := N) ⟨by omega, by omega⟩ ⟨by omega, by omega⟩ hD hE hs h1
  have hk : yK (lK k) = k := rfl
  unfold yok
  rw [p1, p2, p3, p4, p5, p6, p7, p8, p9, hk, sameB_self, sameB_self, ← h2, h, decide_eq_true ⟨show (lK k).length = 33 from by unfold lK; rw [List.length_append, h2]; rfl, lV_length h1⟩]
  rfl
/-- Put of what Get answered. -/
theorem yok_get {k v : List Int} (h : yok k v = true) : k.length = 33 ∧ v.length = 37 ∧ lok 32 (yS v) (rdN v 1 4) (rdN v 5 4) (qs (v.drop 25)) (qn (v.drop 25)) = true ∧ lK (yK k) = k ∧ lV (yS v) (rdN v 1 4) (rdN v 5 4) (rdN v 9 8) (rdN v 17 8) (qs (v.drop 25)) (qn (v.drop 25)) = v := by
  unfold yok at h
  simp only [Bool.and_eq_true, decide_eq_true_eq] at h
  obtain ⟨h1, h2, h3, h4, h5⟩ := h
  exact ⟨h1.1, h1.2, h2, of_decide_eq_true h4, of_decide_eq_true h5⟩
theorem gb_put {n : Int} (h : bOk n = true) : gbOk [66] (be 8 n) = true ∧ val (be 8 n) = n := by
  have hh := of_decide_eq_true (show decide _ = true from h)
  have hv : val (be 8 n) = n := val_be_in hh.1 (by omega)
  exact ⟨decide_eq_true ⟨be_length _ _, by rw [hv]; exact hh.2, rfl⟩, hv⟩
/-- The lane that is answered, whether there is one or not. -/
def zK (k v : List Int) : List Int := if yok k v then yK k else []
def zS (k v : List Int) : Int := if yok k v then yS v else 0
def zC (k v : List Int) : Int := if yok k v then rdN v 1 4 else 0
def zN (k v : List Int) : Int := if yok k v then rdN v 5 4 else 0
def zD (k v : List Int) : Int := if yok k v then rdN v 9 8 else 0
def zE (k v : List Int) : Int := if yok k v then rdN v 17 8 else 0
def zs (k v : List Int) : Int := if yok k v then qs (v.drop 25) else 0
def zn (k v : List Int) : Int := if yok k v then qn (v.drop 25) else 0
def zO (k v : List Int) : Int := if yok k v then 0 else 114
def Gb (w : World) (k v : List Int) (e : Ending) (w' : World) : Prop := ∃ a c, e = .returned (.tuple #[.agg #[.slice a (zK k v).length c, .int .i64 (zS k v), .int .i64 (zC k v), .int .i64 (zN k v), .int .u64 (zD k v), .int .u64 (zE k v), .int .i64 (zs k v), .int .i64 (zn k v)], .int .i64 (zO k v)]) ∧ Vs w' (fun x => w.heap.size ≤ x) a (zK k v).length c (zK k v) ∧ Below w.heap.size w w'
theorem Ga.gb {w w' : World} {k v : List Int} {e : Ending} (h : Ga w k v e w') : Gb w k v e w' := by
  obtain ⟨⟨a, c, h⟩, g⟩ := h
  unfold Gb zK zS zC zN zD zE zs zn zO
  cases hy : yok k v with
  | true =>
    rw [hy] at h
    obtain ⟨rfl, hv⟩ := h
    have hl : (yK k).length = 32 := by unfold yK; rw [List.length_drop, (yok_get hy).1]
    simp only [if_true]
    rw [hl]
    exact ⟨a, c, rfl, hv, g⟩
  | false =>
    rw [hy] at h
    simp only [Bool.false_eq_true, if_false] at h ⊢
    exact ⟨none, 0, h, vs_none _ _, g⟩
theorem zIn (k v : List Int) (hb : Okb v) : i64r (zS k v) ∧ i64r (zC k v) ∧ i64r (zN k v) ∧ u64r (zD k v) ∧ u64r (zE k v) ∧ i64r (zs k v) ∧ i64r (zn k v) := by
  have b1 := getD_byte6 hb 0
  have b2 := rdN_bound hb 1 4
  have b3 := rdN_bound hb 5 4
  have b4 := rdN_bound hb 9 8
  have b5 := rdN_bound hb 17 8
  have b6 := q_bound (l := v.drop 25) (fun z hz => hb z (List.mem_of_mem_drop hz))
  unfold zS zC zN zD zE zs zn
  cases yok k v
  · simp [i64r, u64r]
  · simp only [if_true]
    refine ⟨?_, ?_, ?_, ?_, ?_, b6.1, b6.2⟩
    · unfold i64r yS; omega
    · unfold i64r; omega
    · unfold i64r; omega
    · unfold u64r; omega
    · unfold u64r; omega
end Go.Proofs.Ytohfdkhlpghbcaa
