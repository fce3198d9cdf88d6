import Derived.Test.YtcbmgpmjnehjdaaGreatRY
import Derived.Test.YtcbmgpmjnehjdaaGreatRL
namespace Go.Proofs.YtcbmgpmjnehjdaaGreat
set_option maxRecDepth 100000
open Go.RowKit
set_option linter.unusedVariables false

/-! Get of what Put answered. -/
theorem val_be_in {W : Nat} {x : Int} (h0 : 0 ≤ x) (h1 : x < 256 ^ W) : val (be W x) = x := by
  rw [val_be]
  exact Int.emod_eq_of_lt h0 h1
theorem rdN_at {l r : List Int} {p n : Nat} {b : List Int} (hl : l.length = p) (hb : b.length = n) : rdN (l ++ (b ++ r)) p n = val b := by
  unfold rdN
  rw [if_pos (by simp only [List.length_append]; omega), List.drop_left' hl, List.take_left' hb]
theorem lok_in {m : Nat} {S C N s n : Int} (h : lok m S C N s n = true) : vld s n = true ∧ m = 32 ∧ (S = 0 ∨ S = 1) ∧ 1 ≤ C ∧ C ≤ 2147483647 ∧ 0 ≤ N ∧ N ≤ 2147483647 := of_decide_eq_true h
theorem lV_parts {S C N D E s n : Int} (hC : 0 ≤ C ∧ C ≤ 4294967295) (hN : 0 ≤ N ∧ N ≤ 4294967295) (hD : u64r D) (hE : u64r E) (hs : i64r s) (hv : vld s n = true) :
    yS (lV S C N D E s n) = S ∧ rdN (lV S C N D E s n) 1 4 = C ∧ rdN (lV S C N D E s n) 5 4 = N ∧ rdN (lV S C N D E s n) 9 8 = D ∧ rdN (lV S C N D E s n) 17 8 = E ∧ (lV S C N D E s n).drop 25 = pt s n ∧ qs (pt s n) = s ∧ qn (pt s n) = n ∧ gok (pt s n) = true := by
  unfold i64r u64r at *
  have hl : (pt s n).length = 12 := by rw [pt_length, hv]; rfl
  obtain ⟨e1, e2⟩ := gs_pt s n hv hs.2
  have hvd := of_decide_eq_true (show decide _ = true from hv)
  have hg : gok (pt s n) = true := decide_eq_true ⟨hl, by rw [e1]; exact hs.2, by rw [e2]; exact hvd.2.2⟩
  obtain ⟨q1, q2, -⟩ := q_good hg
  refine ⟨rfl, ?_, ?_, ?_, ?_, ?_, by rw [← q1, e1], by rw [← q2, e2], hg⟩
  · have e : lV S C N D E s n = [S] ++ (be 4 C ++ (be 4 N ++ (be 8 D ++ (be 8 E ++ pt s n)))) := by unfold lV; simp only [List.append_assoc]
    rw [e, rdN_at (p := 1) (by simp) (be_length _ _), val_be_in hC.1 (by omega)]
  · have e : lV S C N D E s n = ([S] ++ be 4 C) ++ (be 4 N ++ (be 8 D ++ (be 8 E ++ pt s n))) := by unfold lV; simp only [List.append_assoc]
    rw [e, rdN_at (by simp [be_length]) (be_length _ _), val_be_in hN.1 (by omega)]
  · have e : lV S C N D E s n = (([S] ++ be 4 C) ++ be 4 N) ++ (be 8 D ++ (be 8 E ++ pt s n)) := by unfold lV; simp only [List.append_assoc]
    rw [e, rdN_at (by simp [be_length]) (be_length _ _), val_be_in hD.1 (by omega)]
  · have e : lV S C N D E s n = ((([S] ++ be 4 C) ++ be 4 N) ++ be 8 D) ++ (be 8 E ++ pt s n) := by unfold lV; simp only [List.append_assoc]
    rw [e, rdN_at (by simp [be_length]) (be_length _ _), val_be_in hE.1 (by omega)]
  · unfold lV
    rw [List.drop_left' (by simp [be_length])]
theorem yok_put {k : List Int} {S C N D E s n : Int} (h : lok k.length S C N s n = true) (hD : u64r D) (hE : u64r E) (hs : i64r s) : yok (lK k) (lV S C N D E s n) = true := by
  obtain ⟨h1, h2, h3, h4, h5, h6, h7⟩ := lok_in h
  obtain ⟨p1, p2, p3, p4, p5, p6, p7, p8, p9⟩ := lV_parts (S := S) (C := C) (N := N) ⟨by omega, by omega⟩ ⟨by omega, by omega⟩ hD hE hs h1
  have hk : yK (lK k) = k := rfl
  unfold yok
  rw [p1, p2, p3, p4, p5, p6, p7, p8, p9, hk, sameB_self, sameB_self, ← h2, h, decide_eq_true ⟨show (lK k).length = 33 from by unfold lK; rw [List.length_append, h2]; rfl, lV_length h1⟩]
  rfl
/-- Put of what Get answered. -/
theorem yok_get {k v : List Int} (h : yok k v = true) : k.length = 33 ∧ v.length = 37 ∧ lok 32 (yS v) (rdN v 1 4) (rdN v 5 4) (qs (v.drop 25)) (qn (v.drop 25)) = true ∧ lK (yK k) = k ∧ lV (yS v) (rdN v 1 4) (rdN v 5 4) (rdN v 9 8) (rdN v 17 8) (qs (v.drop 25)) (qn (v.drop 25)) = v := by
  unfold yok at h
  simp only [Bool.and_eq_true, decide_eq_true_eq] at h
  obtain ⟨h1, h2, h3, h4, h5⟩ := h
  exact ⟨h1.1, h1.2, h2, of_decide_eq_true h4, of_decide_eq_true h5⟩
theorem gb_put {n : Int} (h : bOk n = true) : gbOk [66] (be 8 n) = true ∧ val (be 8 n) = n := by
  have hh := of_decide_eq_true (show decide _ = true from h)
  have hv : val (be 8 n) = n := val_be_in hh.1 (by omega)
  exact ⟨decide_eq_true ⟨be_length _ _, by rw [hv]; exact hh.2, rfl⟩, hv⟩
/-- The lane that is answered, whether there is one or not. -/
def zK (k v : List Int) : List Int := if yok k v then yK k else []
def zS (k v : List Int) : Int := if yok k v then yS v else 0
def zC (k v : List Int) : Int := if yok k v then rdN v 1 4 else 0
def zN (k v : List Int) : Int := if yok k v then rdN v 5 4 else 0
def zD (k v : List Int) : Int := if yok k v then rdN v 9 8 else 0
def zE (k v : List Int) : Int := if yok k v then rdN v 17 8 else 0
def zs (k v : List Int) : Int := if yok k v then qs (v.drop 25) else 0
def zn (k v : List Int) : Int := if yok k v then qn (v.drop 25) else 0
def zO (k v : List Int) : Int := if yok k v then 0 else 114
def Gb (w : World) (k v : List Int) (e : Ending) (w' : World) : Prop := ∃ a c, e = .returned (.tuple #[.agg #[.slice a (zK k v).length c, .int .i64 (zS k v), .int .i64 (zC k v), .int .i64 (zN k v), .int .u64 (zD k v), .int .u64 (zE k v), .int .i64 (zs k v), .int .i64 (zn k v)], .int .i64 (zO k v)]) ∧ Vs w' (fun x => w.heap.size ≤ x) a (zK k v).length c (zK k v) ∧ Below w.heap.size w w'
theorem Ga.gb {w w' : World} {k v : List Int} {e : Ending} (h : Ga w k v e w') : Gb w k v e w' := by
  obtain ⟨⟨a, c, h⟩, g⟩ := h
  unfold Gb zK zS zC zN zD zE zs zn zO
  cases hy : yok k v with
  | true =>
    rw [hy] at h
    obtain ⟨rfl, hv⟩ := h
    have hl : (yK k).length = 32 := by unfold yK; rw [List.length_drop, (yok_get hy).1]
    simp only [if_true]
    rw [hl]
    exact ⟨a, c, rfl, hv, g⟩
  | false =>
    rw [hy] at h
    simp only [Bool.false_eq_true, if_false] at h ⊢
    exact ⟨none, 0, h, vs_none _ _, g⟩
theorem zIn (k v : List Int) (hb : Okb v) : i64r (zS k v) ∧ i64r (zC k v) ∧ i64r (zN k v) ∧ u64r (zD k v) ∧ u64r (zE k v) ∧ i64r (zs k v) ∧ i64r (zn k v) := by
  have b1 := getD_byte6 hb 0
  have b2 := rdN_bound hb 1 4
  have b3 := rdN_bound hb 5 4
  have b4 := rdN_bound hb 9 8
  have b5 := rdN_bound hb 17 8
  have b6 := q_bound (l := v.drop 25) (fun z hz => hb z (List.mem_of_mem_drop hz))
  unfold zS zC zN zD zE zs zn
  cases yok k v
  · simp [i64r, u64r]
  · simp only [if_true]
    refine ⟨?_, ?_, ?_, ?_, ?_, b6.1, b6.2⟩
    · unfold i64r yS; omega
    · unfold i64r; omega
    · unfold i64r; omega
    · unfold u64r; omega
    · unfold u64r; omega
end Go.Proofs.YtcbmgpmjnehjdaaGreat
namespace Go.Proofs.YtcbmgpmjnehjdaaGreat
set_option maxRecDepth 100000
open Go.RowKit
set_option linter.unusedVariables false

/-- The document's GetLane, of any row. -/
theorem rgetLaneA_ (ka va : Option Addr) (kn kc vn vc : Nat) (k v : List Int) (w : World) (hk : Bs w ka kn k) (hv : Bs w va vn v) (h1 : kn ≤ kc) (h2 : vn ≤ vc) (h3 : kc ≤ maxLen) (h4 : vc ≤ maxLen) :
    Calls Tryz.prog 30 #[.agg #[.slice ka kn kc, .slice va vn vc]] w fun e w' => Gb w k v e w' := by
  by_cases h : kn = 33 ∧ vn = 37
  · exact (rgetLane_ ka va kn kc vn vc k v w hk hv h1 h2 h3 h4 h).mono fun e w' h => h.gb
  · exact (rgetLane0_ ka va kn kc vn vc k v w hk hv (Nat.le_trans h1 h3) (Nat.le_trans h2 h4) h).mono fun e w' h => h.gb
set_option maxHeartbeats 1000000 in
/-- The landed GetLane. -/
theorem getLane_ (ka va : Option Addr) (kn kc vn vc : Nat) (k v : List Int) (w : World) (hk : Bs w ka kn k) (hv : Bs w va vn v) (hka : ka = none → kc = 0) (hva : va = none → vc = 0) (hkc : kn ≤ kc) (hvc : vn ≤ vc) (h1 : kn ≤ 140737488351232) (h2 : vn ≤ 140737488351232) :
    Calls Tryz.prog 23 #[.agg #[.slice ka kn kc, .slice va vn vc]] w fun e w' => Gb w k v e w' := by
  have BA : Below w.heap.size w ((w.alloc (.cells #[.slice ka kn kc, .slice va vn vc] 54)).alloc (.cells #[.slice none 0 0, .int .i64 0, .int .i64 0, .int .i64 0, .int .u64 0, .int .u64 0, .int .i64 0, .int .i64 0] 64)) := (bel_al w _).alloc (by simp) _
  have m2 := Lm.new (w.alloc (.cells #[.slice ka kn kc, .slice va vn vc] 54)) none 0 0 0 0 0 0 0 0 0
  rw [World.size_alloc] at m2
  have kk := (getL_ ka va kn kc vn vc k v _ (hk.below BA) (hv.below BA) hka hva hkc hvc h1 h2).mono fun e w' h => Ga.gb h
  unfold Gb at *
  clear hk hv hka hva hkc hvc h1 h2
  generalize zK k v = K at *
  generalize zS k v = S at *
  generalize zC k v = C at *
  generalize zN k v = N at *
  generalize zD k v = D at *
  generalize zE k v = E at *
  generalize zs k v = s at *
  generalize zn k v = n at *
  generalize zO k v = O at *
  have HBA := hid BA
  have HM := hid m2
  clear BA m2
  obtain ⟨kl, HKL⟩ : ∃ x : Nat, Hid (K.length = x) := ⟨_, rfl⟩
  rw [HKL.out] at kk ⊢
  go_enter Tryz.func23, Tryz.ntmps23
  go_wp2_with fail
  refine kk.mono ?_
  rintro e w1 ⟨a, c, rfl, vs, g1⟩
  have HB1 := hid (bel_bel HBA.out HBA.out.size g1)
  have HZ := hid (HM.out.kept g1)
  have HVS := hid vs
  clear kk vs g1 HBA HM
  go_wp2_with (refine wpList_sln rfl rfl _ _ rfl (w.heap.size + 1) a kl c S C N D E s n rfl rfl (by with_reducible exact HZ.out) ?_)
  refine bodyPost_ret (v := .tuple #[.agg #[.slice a kl c, .int .i64 S, .int .i64 C, .int .i64 N, .int .u64 D, .int .u64 E, .int .i64 s, .int .i64 n], .int .i64 O]) ?_ rfl ⟨a, c, rfl, ?_, bel_row HB1.out (Nat.le_succ _) _⟩
  · exact results_ln rfl _ _ (w.heap.size + 1) a kl c S C N D E s n _ rfl rfl (HZ.out.row a kl c S C N D E s n)
  · exact ((HVS.out.wide (V' := fun x => w.heap.size + 2 ≤ x) fun x _ hx => by simp at hx; omega).step fun x _ hV _ => setRow_other _ _ _ _ (by omega)).wide fun x _ hx => by omega
theorem lnum_ (e : Int) (w : World) : Calls Tryz.prog 10 #[.int .i64 e] w fun en w' => en = .returned (.int .i64 e) ∧ w' = w := by
  go_enter Tryz.func10, Tryz.ntmps10
  go_wp2_with fail
  go_ret
  exact ⟨rfl, rfl⟩
set_option maxHeartbeats 1000000 in
/-- The laws' key: 32 bytes x. -/
theorem lkey_ (x : Int) (w : World) (hx : 0 ≤ x ∧ x ≤ 255) :
    Calls Tryz.prog 39 #[.int .u8 x] w fun e w' => ∃ v, e = .returned v ∧ w'.ownsRow w.heap.size 5 1 v 32 (cells (List.replicate 32 x)) ∧ Below w.heap.size w w' := by
  have HT : ∀ j, Hid (List.replicate j x ++ [x] = List.replicate (j + 1) x) := fun j => List.replicate_succ'.symm
  obtain ⟨f, Hf⟩ : ∃ f : Nat → List Int, Hid (∀ j, f j = List.replicate j x) := ⟨_, fun _ => rfl⟩
  rw [← Hf.out 32]
  go_enter Tryz.func39, Tryz.ntmps39
  go_wp2_with fail
  go_loopw [3, 4] (fun v i wr => ∃ k : Nat, k ≤ 32 ∧ i = .int .i64 (k : Int) ∧ Hid (wr.ownsRow w.heap.size 5 1 v k (cells (f k))) ∧ Hid (Below w.heap.size w wr)) (fun _ i _ => (32 - intOf i).toNat)
  case atStart => exact ⟨0, by omega, rfl, by rw [Hf.out 0]; exact World.ownsRow_nil _ _ _ _, Below.refl _ _⟩
  case round =>
    obtain ⟨k, hk, rfl, HO, HB⟩ := hrel
    have hsz : w.heap.size ≤ wr.heap.size := HB.out.size
    by_cases hlt : k < 32
    · have hkI : (k : Int) < 32 := by omega
      have HOA := hid (HO.out.alloc (.cells #[.int .u8 x] 5))
      have HBS : Hid (Bs (wr.alloc (.cells #[.int .u8 x] 5)) (some ⟨wr.heap.size, 0, none⟩) 1 [x]) := bs_lit wr [x] (0, 0) (Okb1 x hx)
      have HSZ : Hid (w.heap.size ≤ (wr.alloc (.cells #[.int .u8 x] 5)).heap.size) := by show _ ≤ _; simp; omega
      go_wp2_with (at_builtin; refine wpList_appT rfl _ _ rfl w.heap.size _ k (f k) rfl (by exact HOA.out) (some ⟨wr.heap.size, 0, none⟩) 1 1 [x] rfl (by exact HBS.out) (by omega) (by exact HSZ.out) ?_; intro v5 w5 o5 g5; have HO5 := hid o5; have HG5 := hid g5; clear o5 g5)
      have HO6 : Hid (w5.ownsRow w.heap.size 5 1 v5 (k + 1) (cells (f (k + 1)))) := by
        have h := HO5.out
        have e : f k ++ [x] = f (k + 1) := by rw [Hf.out k, Hf.out (k + 1)]; exact (HT k).out
        rw [e] at h
        exact h
      have HB5 : Hid (Below w.heap.size w w5) := (HB.out.alloc hsz (.cells #[.int .u8 x] 5)).grown HG5.out (by exact HSZ.out) (fun p hp => (HO.out.lt p hp).1)
      clear HO5 HG5 HOA HBS
      go_roundw
      case rel => exact ⟨k + 1, by omega, by go_num, HO6, HB5⟩
      case measure => simp [intOf]; omega
    · have hkI : ¬ (k : Int) < 32 := by omega
      have HKE : Hid (k = 32) := by show _ = _; omega
      clear hlt hk
      go_wp2_with fail
      go_ret
      exact ⟨_, rfl, by have h := HO.out; rw [HKE.out] at h; exact h, HB.out⟩
end Go.Proofs.YtcbmgpmjnehjdaaGreat
namespace Go.Proofs.YtcbmgpmjnehjdaaGreat
set_option maxRecDepth 100000
open Go.RowKit
set_option linter.unusedVariables false

theorem Lm.cells {w : World} {g : Nat} {a : Option Addr} {m c : Nat} {S C N D E s n : Int} (h : Lm w g a m c S C N D E s n) : w.cell? ⟨g, 0, none⟩ = some (.slice a m c) ∧ w.cell? ⟨g, 1, none⟩ = some (.int .i64 S) ∧ w.cell? ⟨g, 2, none⟩ = some (.int .i64 C) ∧ w.cell? ⟨g, 3, none⟩ = some (.int .i64 N) ∧ w.cell? ⟨g, 4, none⟩ = some (.int .u64 D) ∧ w.cell? ⟨g, 5, none⟩ = some (.int .u64 E) ∧ w.cell? ⟨g, 6, none⟩ = some (.int .i64 s) ∧ w.cell? ⟨g, 7, none⟩ = some (.int .i64 n) := ⟨h.c0, h.c1, h.c2, h.c3, h.c4, h.c5, h.c6, h.c7⟩
def k9 : List Int := List.replicate 32 9
theorem lok9 : lok k9.length 1 1 0 5 6 = true := by decide
set_option maxHeartbeats 4000000 in
/-- The laws' first(). -/
theorem lfirst_ (w : World) : Calls Tryz.prog 11 #[] w fun e w' => e = .returned (.bool true) ∧ Below w.heap.size w w' := by
  have kb := putBoots_ 258 w (by omega)
  have f1 : bK 258 = [66] := rfl
  have f2 : bV 258 = [0, 0, 0, 0, 0, 0, 1, 2] := by decide
  have f3 : bE 258 = 0 := rfl
  rw [f1, f2, f3] at kb
  clear f1 f2 f3
  go_enter Tryz.func11, Tryz.ntmps11
  go_wp2_with fail
  refine kb.mono ?_
  rintro e w1 ⟨pa, pc, qa, qc, rfl, vk, vv, g1⟩
  clear kb
  obtain ⟨W2, HW2⟩ : ∃ W, Hid ((((w1.alloc (.cells #[.slice pa 1 pc, .slice qa 8 qc] 54)).alloc (.cells #[.int .u8 66] 5)).alloc (.cells #[.int .u8 0, .int .u8 0, .int .u8 0, .int .u8 0, .int .u8 0, .int .u8 0, .int .u8 1, .int .u8 2] 5)).alloc (.cells #[.slice (some ⟨w1.heap.size + 1, 0, none⟩) 1 1, .slice (some ⟨w1.heap.size + 1 + 1, 0, none⟩) 8 8] 54) = W) := ⟨_, rfl⟩
  have B2 : Below w1.heap.size w1 W2 := by
    rw [← HW2.out]
    exact ((((bel_al w1 _).alloc (by simp) _).alloc (by simp; omega) _).alloc (by simp; omega) _)
  have b66 : Bs W2 (some ⟨w1.heap.size + 1, 0, none⟩) 1 [66] := by
    have h := bs_lit (w1.alloc (.cells #[.slice pa 1 pc, .slice qa 8 qc] 54)) [66] (0, 0) (Okb1 66 (by omega))
    rw [World.size_alloc] at h
    have h2 := (h.below (bel_al _ (.cells #[.int .u8 0, .int .u8 0, .int .u8 0, .int .u8 0, .int .u8 0, .int .u8 0, .int .u8 1, .int .u8 2] 5))).below (bel_al _ (.cells #[.slice (some ⟨w1.heap.size + 1, 0, none⟩) 1 1, .slice (some ⟨w1.heap.size + 1 + 1, 0, none⟩) 8 8] 54))
    rw [← HW2.out]
    exact h2
  have b8 : Bs W2 (some ⟨w1.heap.size + 1 + 1, 0, none⟩) 8 [0, 0, 0, 0, 0, 0, 1, 2] := by
    have h := bs_lit ((w1.alloc (.cells #[.slice pa 1 pc, .slice qa 8 qc] 54)).alloc (.cells #[.int .u8 66] 5)) [0, 0, 0, 0, 0, 0, 1, 2] (0, 0) (by intro z hz; simp at hz; omega)
    rw [World.size_alloc, World.size_alloc] at h
    have h2 := h.below (bel_al _ (.cells #[.slice (some ⟨w1.heap.size + 1, 0, none⟩) 1 1, .slice (some ⟨w1.heap.size + 1 + 1, 0, none⟩) 8 8] 54))
    rw [← HW2.out]
    exact h2
  have ks := sameRow_ pa qa (some ⟨w1.heap.size + 1, 0, none⟩) (some ⟨w1.heap.size + 1 + 1, 0, none⟩) 1 pc 8 qc 1 1 8 8 [66] [0, 0, 0, 0, 0, 0, 1, 2] [66] [0, 0, 0, 0, 0, 0, 1, 2] W2 (vk.bs.below B2) (vv.bs.below B2) b66 b8 (by unfold maxLen; omega) (by unfold maxLen; omega) (by unfold maxLen; omega) (by unfold maxLen; omega)
  rw [sameB_self, sameB_self] at ks
  have HB2 := hid (bel_bel g1 g1.size B2)
  clear g1 B2 vk vv b66 b8
  go_wp2_with fail
  rw [HW2.out]
  clear HW2
  refine ks.mono ?_
  rintro e w3 ⟨rfl, g3⟩
  have HB3 := hid (bel_bel HB2.out HB2.out.size g3)
  clear ks g3 HB2
  have kk := lkey_ 9 w3 (by omega)
  rw [show List.replicate 32 (9 : Int) = k9 from rfl] at kk
  go_wp2_with fail
  refine kk.mono ?_
  rintro e w4 ⟨v4, rfl, o4, g4⟩
  have hk9 : k9.length = 32 := rfl
  obtain ⟨a4, c4, rfl, vs4⟩ := Vs.ofOwn o4 (show Okb k9 from by intro z hz; have := List.eq_of_mem_replicate hz; omega)
  have HB4 := hid (bel_bel HB3.out HB3.out.size g4)
  clear kk o4 g4 HB3
  have L5 := Lm.new w4 a4 32 c4 1 1 0 0 1000 5 6
  have B5 := lnew w4 a4 32 c4 1 1 0 0 1000 5 6
  have HB5 := hid (bel_bel HB4.out HB4.out.size B5)
  have kp := putLane_ a4 32 c4 k9 1 1 0 0 1000 5 6 _ (vs4.bs.below B5) (by unfold maxLen; omega) (by unfold i64r; omega) (by unfold i64r; omega) (by unfold i64r; omega) (by unfold u64r; omega) (by unfold u64r; omega) (by unfold i64r; omega) (by unfold i64r; omega)
  have e1 : lRK k9 1 1 0 5 6 = lK k9 := by unfold lRK; rw [lok9]; rfl
  have e2 : lRV k9 1 1 0 0 1000 5 6 = lV 1 1 0 0 1000 5 6 := by unfold lRV; rw [lok9]; rfl
  have e3 : lRE k9 1 1 0 5 6 = 0 := by unfold lRE; rw [lok9]; rfl
  rw [e1, e2, e3] at kp
  have HY : Hid (yok (lK k9) (lV 1 1 0 0 1000 5 6) = true) := yok_put lok9 (by unfold u64r; omega) (by unfold u64r; omega) (by unfold i64r; omega)
  have HP := hid (lV_parts (S := 1) (C := 1) (N := 0) (D := 0) (E := 1000) (s := 5) (n := 6) (by omega) (by omega) (by unfold u64r; omega) (by unfold u64r; omega) (by unfold i64r; omega) (by decide))
  have hl1 : (lK k9).length = 33 := rfl
  have hl2 : (lV 1 1 0 0 1000 5 6).length = 37 := lV_length (by decide)
  have HOV : Hid (Okb (lV 1 1 0 0 1000 5 6)) := by
    intro z hz
    unfold lV at hz
    simp only [List.mem_append, List.mem_singleton] at hz
    rcases hz with ((((h | h) | h) | h) | h) | h
    · rw [h]; omega
    · exact be_byte _ _ z h
    · exact be_byte _ _ z h
    · exact be_byte _ _ z h
    · exact be_byte _ _ z h
    · exact pt_byte _ _ z h
  generalize lV 1 1 0 0 1000 5 6 = V at *
  obtain ⟨K, HK⟩ : ∃ K, Hid (lK k9 = K) := ⟨_, rfl⟩
  rw [HK.out] at kp HY hl1
  have HVS := hid (vs4.bs.below B5)
  have HL5 := hid L5
  obtain ⟨d0, d1, d2, d3, d4, d5, d6, d7⟩ := L5.cells
  clear vs4 L5 B5 HB4 e1 e2 e3
  unfold Rp at kp
  rw [hl1, hl2] at kp
  go_wp2_with fail
  clear d0 d1 d2 d3 d4 d5 d6 d7
  refine kp.mono ?_
  rintro e w6 ⟨ra, rc, sa, sc, rfl, vk, vv, g6⟩
  have B7 := bel_al w6 (.cells #[.slice ra 33 rc, .slice sa 37 sc] 54)
  have m7 := heap_alloc_new w6 (.cells #[.slice ra 33 rc, .slice sa 37 sc] 54)
  have HB7 := hid (bel_bel (bel_bel HB5.out HB5.out.size g6) (bel_bel HB5.out HB5.out.size g6).size B7)
  have HL7 := hid ((HL5.out.kept g6).kept B7)
  have HVS7 := hid ((HVS.out.below g6).below B7)
  have kg := getLane_ ra sa 33 rc 37 sc K V _ (vk.bs.below B7) (vv.bs.below B7) vk.nil vv.nil vk.nc vv.nc (by omega) (by omega)
  have z0 := (two_cell m7).1
  have z1 := (two_cell m7).2
  have HM7 := hid m7
  have HW6 : Hid (w6.heap.size < (w6.alloc (.cells #[.slice ra 33 rc, .slice sa 37 sc] 54)).heap.size) := by show _ < _; simp
  clear HB5 HL5 HVS kp vk vv g6 B7 m7
  go_wp2_with fail
  clear z0 z1
  refine kg.mono ?_
  rintro e w8 ⟨ta, tc, rfl, vs8, g8⟩
  have hzK : zK K V = k9 := by unfold zK; rw [HY.out, ← HK.out]; rfl
  have hz : zS K V = 1 ∧ zC K V = 1 ∧ zN K V = 0 ∧ zD K V = 0 ∧ zE K V = 1000 ∧ zs K V = 5 ∧ zn K V = 6 ∧ zO K V = 0 := by
    obtain ⟨p1, p2, p3, p4, p5, p6, p7, p8, -⟩ := HP.out
    unfold zS zC zN zD zE zs zn zO
    rw [HY.out]
    simp only [if_true]
    exact ⟨p1, p2, p3, p4, p5, by rw [p6, p7], by rw [p6, p8], trivial⟩
  rw [hz.1, hz.2.1, hz.2.2.1, hz.2.2.2.1, hz.2.2.2.2.1, hz.2.2.2.2.2.1, hz.2.2.2.2.2.2.1, hz.2.2.2.2.2.2.2, hzK, hk9]
  rw [hzK, hk9] at vs8
  have B9 := lnew w8 ta 32 tc 1 1 0 0 1000 5 6
  have L9 := Lm.new w8 ta 32 tc 1 1 0 0 1000 5 6
  have HB9 := hid (bel_bel (bel_bel HB7.out HB7.out.size g8) (bel_bel HB7.out HB7.out.size g8).size B9)
  have L0 := (HL7.out.kept g8).kept B9
  have kl := sameLane_ a4 ta 32 c4 32 tc k9 k9 1 1 0 0 1000 5 6 1 1 0 0 1000 5 6 _ ((HVS7.out.below g8).below B9) (vs8.bs.below B9) (by unfold maxLen; omega) (by unfold maxLen; omega)
  have ht : slE k9 k9 1 1 0 0 1000 5 6 1 1 0 0 1000 5 6 = true := decide_eq_true ⟨rfl, rfl, rfl, rfl, rfl, rfl, rfl, rfl⟩
  rw [ht] at kl
  have HM9 := hid ((B9.block w6.heap.size (Nat.lt_of_lt_of_le HW6.out g8.size)).trans ((g8.block w6.heap.size HW6.out).trans HM7.out))
  obtain ⟨d0, d1, d2, d3, d4, d5, d6, d7⟩ := L0.cells
  obtain ⟨e0, e1, e2, e3, e4, e5, e6, e7⟩ := L9.cells
  clear kg vs8 g8 B9 L9 L0 HB7 HL7 HVS7 HM7 hz hzK ht HP HY HOV HK hl1 hl2 hk9
  go_wp2_with fail
  clear d0 d1 d2 d3 d4 d5 d6 d7 e0 e1 e2 e3 e4 e5 e6 e7
  refine kl.mono ?_
  rintro e w10 ⟨rfl, g10⟩
  have HB10 := hid (bel_bel HB9.out HB9.out.size g10)
  have z1 := (two_cell ((g10.block w6.heap.size (Array.getElem?_eq_some_iff.1 HM9.out).1).trans HM9.out)).2
  clear kl g10 HB9 HM9 HW6
  go_wp2_with (go_at_call 10; refine (lnum_ _ _).mono ?_; rintro e w' ⟨rfl, hw⟩; obtain rfl := hw.symm; clear hw)
  go_ret
  exact ⟨rfl, HB10.out⟩
end Go.Proofs.YtcbmgpmjnehjdaaGreat
