import Derived.Test.YtkeogggeefnoeaaGreatDoorN16
namespace Go.Proofs.YtkeogggeefnoeaaGreatDoor
set_option linter.unusedSimpArgs false
open Go.RowKit Go.Shelf
set_option linter.unusedVariables false
set_option maxRecDepth 100000
attribute [local go_sem] Oper.semAt_some

/-! Reading: faults. -/
/-- One pair. -/
def pv (a b : List Nat) : R (Int × Int) := if fKd a = 0 then .error 222 else match numv b with
  | none => .error 223
  | some n => .ok ((n : Int), (fKd a : Int))
theorem fltv_cons (a b : List Nat) (l : List (List Nat)) : fltv (a :: b :: l) = match pv a b with
    | .error e => .error e
    | .ok y => match fltv l with
      | .error e => .error e
      | .ok r => .ok (y :: r) := by
  rw [fltv]
  unfold pv
  by_cases h : fKd a = 0
  · rw [if_pos h, if_pos h]
  · rw [if_neg h, if_neg h]
    cases numv b <;> rfl
theorem mapR_map {α β γ : Type} (h : α → β) (f : β → R γ) : ∀ l : List α, mapR f (l.map h) = mapR (fun x => f (h x)) l
  | [] => rfl
  | x :: l => by rw [List.map_cons, mapR, mapR, mapR_map h f l]
theorem mapR_snoc {α β : Type} (f : α → R β) : ∀ (l : List α) (x : α) (r : List β), mapR f l = .ok r → (∀ y, f x = .ok y → mapR f (l ++ [x]) = .ok (r ++ [y])) ∧ (∀ e, f x = .error e → mapR f (l ++ [x]) = .error e)
  | [], x, r, h => by
    cases h
    refine ⟨fun y hy => ?_, fun e he => ?_⟩
    · show mapR f [x] = _
      rw [mapR, hy]
      rfl
    · show mapR f [x] = _
      rw [mapR, he]
  | z :: l, x, r, h => by
    rw [mapR] at h
    cases hz : f z with
    | error e => rw [hz] at h; cases h
    | ok y0 =>
      rw [hz] at h
      cases hr : mapR f l with
      | error e => rw [hr] at h; cases h
      | ok r0 =>
        rw [hr] at h
        cases h
        obtain ⟨h1, h2⟩ := mapR_snoc f l x r0 hr
        refine ⟨fun y hy => ?_, fun e he => ?_⟩
        · show mapR f (z :: (l ++ [x])) = _
          rw [mapR, hz, h1 y hy]
          rfl
        · show mapR f (z :: (l ++ [x])) = _
          rw [mapR, hz, h2 e he]
theorem mapR_pre {α β : Type} (f : α → R β) {e : Nat} : ∀ (a b : List α), mapR f a = .error e → mapR f (a ++ b) = .error e
  | [], b, h => by cases h
  | x :: a, b, h => by
    rw [mapR] at h
    show mapR f (x :: (a ++ b)) = _
    rw [mapR]
    cases hx : f x with
    | error e' => rw [hx] at h; cases h; rfl
    | ok y =>
      rw [hx] at h
      cases hr : mapR f a with
      | ok r => rw [hr] at h; cases h
      | error e' =>
        rw [hr] at h
        cases h
        rw [mapR_pre f a b hr]
theorem mapR_len {α β : Type} (f : α → R β) : ∀ (l : List α) (r : List β), mapR f l = .ok r → r.length = l.length
  | [], r, h => by cases h; rfl
  | z :: l, r, h => by
    rw [mapR] at h
    cases hz : f z with
    | error e => rw [hz] at h; cases h
    | ok y0 =>
      rw [hz] at h
      cases hr : mapR f l with
      | error e => rw [hr] at h; cases h
      | ok r0 =>
        rw [hr] at h
        cases h
        have := mapR_len f l r0 hr
        simp [this]
def pvf (ws : List (List Nat)) (i : Nat) : R (Int × Int) := pv (ws.getD (2 * i) []) (ws.getD (2 * i + 1) [])
theorem fltv_map : ∀ (K : Nat) (ws : List (List Nat)), ws.length = 2 * K → mapR (pvf ws) (List.range K) = fltv ws
  | 0, ws, h => by
    rw [List.eq_nil_of_length_eq_zero (by omega : ws.length = 0)]
    rfl
  | K + 1, ws, h => by
    match ws, h with
    | [], h => simp at h
    | [_], h => simp at h; omega
    | a :: b :: l, h =>
      have hl : l.length = 2 * K := by simp at h; omega
      have e : (fun x => pvf (a :: b :: l) (x + 1)) = pvf l := by
        funext x
        unfold pvf
        rw [show 2 * (x + 1) = 2 * x + 1 + 1 by omega, show 2 * x + 1 + 1 + 1 = (2 * x + 1) + 1 + 1 by omega]
        rfl
      rw [List.range_succ_eq_map, mapR, mapR_map, fltv_cons, e, fltv_map K l hl, show pvf (a :: b :: l) 0 = pv a b from rfl]
      cases pv a b with
      | error e => rfl
      | ok y => cases fltv l <;> rfl
theorem fltv_fin (K : Nat) (ws : List (List Nat)) (h : ws.length = 2 * K) : mapR (fun i : Fin K => pvf ws i.1) (List.finRange K) = fltv ws := by
  rw [← fltv_map K ws h, ← mapR_map (fun i : Fin K => i.1) (pvf ws)]
  congr 1
  apply List.ext_getElem
  · simp
  · intro i h1 h2
    simp
theorem infoFt : (Tryz.prog.info? 72).map (fun i => (i.zero, i.size, i.bytes)) = some (some (.agg #[.int .i64 0, .int .i64 0]), 2, 16) := by kernel_rfl
def frow (l : List (Int × Int)) : List Value := l.flatMap fun x => [.int .i64 x.1, .int .i64 x.2]
theorem frow_at : ∀ (l : List (Int × Int)) (i : Nat), i < l.length → (frow l)[i * 2]? = some (.int .i64 (l.getD i (0, 0)).1) ∧ (frow l)[i * 2 + 1]? = some (.int .i64 (l.getD i (0, 0)).2)
  | [], i, h => by simp at h
  | x :: l, 0, h => ⟨rfl, rfl⟩
  | x :: l, i + 1, h => by
    have := frow_at l i (by simpa using h)
    have e2 : frow (x :: l) = .int .i64 x.1 :: .int .i64 x.2 :: frow l := rfl
    rw [e2, show (i + 1) * 2 = i * 2 + 1 + 1 by omega]
    exact this
theorem fts_own {w : World} {S n c : Nat} {a : Option Addr} {l : List (Int × Int)} (h : w.ownsRow S 72 2 (.slice a n c) n (frow l)) (hn : l.length = n) : Fts w (fun x => S ≤ x) a n l := by
  refine ⟨hn, ls_own h _ (fun i hi j u hu => ?_)⟩
  obtain ⟨h1, h2⟩ := frow_at l i (by omega)
  match j, hu with
  | 0, hu => simp at hu; subst hu; exact h1
  | 1, hu => simp at hu; subst hu; exact h2
  | j + 2, hu => simp at hu
/-- What readFaults answers. -/
def RfV (w : World) (ws : List (List Nat)) (e : Ending) (w' : World) : Prop := match fltv ws with
  | .error k => e = .returned (.tuple #[.slice none 0 0, .int .i64 (k : Nat)])
  | .ok l => ∃ a p, e = .returned (.tuple #[.slice a l.length p, .int .i64 0]) ∧ Fts w' (fun x => w.heap.size ≤ x) a l.length l ∧ l.length ≤ p
theorem pv_err {a b : List Nat} {e : Nat} (h : pv a b = .error e) : e = 222 ∨ e = 223 := by
  unfold pv at h
  split at h
  · cases h; exact .inl rfl
  · split at h
    · cases h; exact .inr rfl
    · cases h
set_option maxHeartbeats 8000000 in
theorem readFaults_ (V : Nat → Prop) (a : Option Addr) (n p : Nat) (ws : List (List Nat)) (hw : Gw ws) (w : World) (h : Wv w V a n p ws) (hn : n % 2 = 0) (hn4 : n ≤ 2000000) (hq : Tq w) : Calls Tryz.prog 90 #[.slice a n p] w fun e w' => RfV w ws e w' ∧ Below w.heap.size w w' := by
  have hmx : Tryz.prog.follows .mixedOrders = true := by kernel_rfl
  obtain ⟨K, hK⟩ : ∃ K, n = 2 * K := ⟨n / 2, by omega⟩
  have HFF := hid (fltv_fin K ws (by rw [h.ln, hK]))
  have HKK := hid hK
  clear hK
  refine (callsIn_wide (n := 9)).1 ?_
  refine callsIn_of_wp_marks Tryz.func90 rfl trivial ?_ rfl
  simp only [Tryz.ntmps90, List.size_toArray, List.length_cons, List.length_nil, Nat.reduceAdd, Nat.reduceSub, Array.replicate_succ, Array.replicate_zero, List.push_toArray, List.append_toArray, List.nil_append, List.cons_append]
  gi_wp2_with (refine ⟨trivial, ?_⟩; gi_at_call 112; refine (callsIn_wide.2 (chunk_ _ _ _ _)).mono ?_; rintro e0 w2 ⟨rfl, hw2⟩)
  clear hw2
  obtain ⟨W2, HW2⟩ : ∃ W2, Hid (((((w.alloc (.cells #[.slice none 0 0] 50)).alloc (.cells #[.int .i64 0] 26)).alloc (.cells #[.slice none 0 0] 50)).alloc (.cells #[.slice a n p] 86)).alloc (.cells #[.int .i64 2] 3) = W2) := ⟨_, rfl⟩
  have sz2 : W2.heap.size = w.heap.size + 1 + 1 + 1 + 1 + 1 := by rw [← HW2.out]; simp
  have bel2 : Below w.heap.size w W2 := by
    rw [← HW2.out]
    exact (((((Below.refl _ _).alloc (Nat.le_refl _) _).alloc (by simp) _).alloc (by simp; omega) _).alloc (by simp; omega) _).alloc (by simp; omega) _
  have b0 : Boxed W2 w.heap.size 50 (.slice none 0 0) := by
    rw [← HW2.out]
    exact ((((Boxed.new w 50 (.slice none 0 0)).alloc _).alloc _).alloc _).alloc _
  have b1 : Boxed W2 (w.heap.size + 1) 26 (.int .i64 0) := by
    rw [← HW2.out]
    have := (((Boxed.new (w.alloc (.cells #[.slice none 0 0] 50)) 26 (.int .i64 0)).alloc (.cells #[.slice none 0 0] 50)).alloc (.cells #[.slice a n p] 86)).alloc (.cells #[.int .i64 2] 3)
    simpa using this
  have b2 : Boxed W2 (w.heap.size + 1 + 1) 50 (.slice none 0 0) := by
    rw [← HW2.out]
    have := ((Boxed.new ((w.alloc (.cells #[.slice none 0 0] 50)).alloc (.cells #[.int .i64 0] 26)) 50 (.slice none 0 0)).alloc (.cells #[.slice a n p] 86)).alloc (.cells #[.int .i64 2] 3)
    simpa using this
  have b3 : Boxed W2 (w.heap.size + 1 + 1 + 1) 86 (.slice a n p) := by
    rw [← HW2.out]
    have := (Boxed.new (((w.alloc (.cells #[.slice none 0 0] 50)).alloc (.cells #[.int .i64 0] 26)).alloc (.cells #[.slice none 0 0] 50)) 86 (.slice a n p)).alloc (.cells #[.int .i64 2] 3)
    simpa using this
  have b4 : Boxed W2 (w.heap.size + 1 + 1 + 1 + 1) 3 (.int .i64 2) := by
    rw [← HW2.out]
    have := Boxed.new ((((w.alloc (.cells #[.slice none 0 0] 50)).alloc (.cells #[.int .i64 0] 26)).alloc (.cells #[.slice none 0 0] 50)).alloc (.cells #[.slice a n p] 86)) 3 (.int .i64 2)
    simpa using this
  rw [HW2.out]
  clear HW2
  generalize g4 : w.heap.size + 1 + 1 + 1 + 1 = B4 at *
  generalize g3 : w.heap.size + 1 + 1 + 1 = B3 at *
  generalize g2 : w.heap.size + 1 + 1 = B2 at *
  generalize g1 : w.heap.size + 1 = B1 at *
  obtain ⟨B0, HB0⟩ : ∃ B0, Hid (w.heap.size = B0) := ⟨_, rfl⟩
  have hB0 := HB0.out
  rw [hB0] at b0 ⊢
  have hBB : B0 < B1 ∧ B1 < B2 ∧ B2 < B3 ∧ B3 < B4 ∧ B4 < W2.heap.size := by omega
  have hwB : w.heap.size ≤ B0 := by omega
  have P2 : Gx w W2.heap.size B2 50 72 2 0 [] W2 := ⟨⟨_, b2, World.ownsRow_nil _ _ _ _⟩, bel2, Nat.le_refl _⟩
  have hseq := chunk1_stops w W2 V a n p K B3 B4 ws h HKK.out (by omega) (by omega) (by omega) b3.cell b4.cell
  have hs2 := bel2.size
  have HH := hid h
  have HG := hid hw
  have HQ := hid hq
  clear b2 b3 b4 g1 g2 g3 g4 sz2 h hw hq
  refine with_act (fun A hA => ?_)
  refine wpIn_rangeFunc_ownH rfl (by omega) (gf := 133) (lb := #[.pointer (some ⟨B3, 0, none⟩), .pointer (some ⟨B4, 0, none⟩)]) (by rw [hA]; rfl) trivial (enters_of Tryz.func133 (by kernel_rfl) rfl) hseq KC.trans
    (KC.b (by omega) (by omega)) (Below.refl _ _) (fun _ => rfl)
    (fun pre W => Boxed W B0 50 (.slice none 0 0) ∧ Boxed W B1 26 (.int .i64 0) ∧ ∃ fs, Hid (mapR (fun i : Fin K => pvf ws i.1) pre = .ok fs) ∧ Gx w W2.heap.size B2 50 72 2 pre.length (frow fs) W)
    (fun c pre W => c = .ret ∧ ∃ k : Nat, Hid (mapR (fun i : Fin K => pvf ws i.1) pre = .error k) ∧ Boxed W B0 50 (.slice none 0 0) ∧ Boxed W B1 26 (.int .i64 (k : Nat)) ∧ Below w.heap.size w W)
    (fun pre X Y row hs hg hr => by
      obtain ⟨h0, h1, fs, hf, hx⟩ := hs
      exact ⟨boxed_non h0 hg hr, boxed_non h1 hg hr, fs, hf, hx.non bel2.size hg hr⟩)
    (fun c pre X Y row hs hg hr => by
      obtain ⟨hc, k, hk, h0, h1, hb⟩ := hs
      exact ⟨hc, k, hk, boxed_non h0 hg hr, boxed_non h1 hg hr, hb.grown hg hb.size (fun k e => Nat.le_trans bel2.size (hr k e).1)⟩)
    ⟨b0, b1, [], rfl, P2⟩
    (fun x a' W => a' = { tmps := (A.tmps.setIfInBounds 11 (ckw a x.1)).setIfInBounds 5 (ckw a x.1), defers := [] })
    (fun x a' _ X Y row hs hg hr => hs)
    ?assign ?body ?done ?stop
  case assign =>
    subst hA
    rintro lp pre x W K' hI hK'
    gi_wp2
    refine hK' _ _ (KeepsFrom.refl _ _) ⟨rfl, rfl⟩ hI ?_
    simp only [List.setIfInBounds_toArray, List.set_cons_zero, List.set_cons_succ]
  case body =>
    subst hA
    rintro lp pre x a' W hlp _ hI ha hlt'
    simp only [List.setIfInBounds_toArray, List.set_cons_zero, List.set_cons_succ] at ha
    subst ha
    obtain ⟨h0, h1, fs, HFS, hX⟩ := hI
    have HX0 := hid hX
    have hWB := HX0.out.bel
    have hWS := HX0.out.sz
    have hV := HH.out.on hWB
    have hx2 := x.2
    obtain ⟨b, off, rfl, hc0⟩ := hV.at (i := 2 * x.1) (by have := HKK.out; omega)
    obtain ⟨b', off', e', hc1⟩ := hV.at (i := 2 * x.1 + 1) (by have := HKK.out; omega)
    obtain ⟨rfl, rfl⟩ : b = b' ∧ off = off' := by simpa using e'
    have HSN := hid (mapR_snoc (fun i : Fin K => pvf ws i.1) pre x fs HFS.out)
    have hpv : pvf ws x.1 = pv (ws.getD (2 * x.1) []) (ws.getD (2 * x.1 + 1) []) := rfl
    have hg0 := HG.out.at (2 * x.1)
    have hg1 := HG.out.at (2 * x.1 + 1)
    have k1 := fun w hq => faultNamed_ (ws.getD (2 * x.1) []) hg0.1 w hq
    have k2 := fun w hT => readNumber_ (ws.getD (2 * x.1 + 1) []) hg1.1 hg1.2 w hT
    have kk1 := k1 W (HQ.out.kept hWB)
    have kk2 := k2 W (HQ.out.kept hWB).tb
    rw [hpv] at HSN
    generalize ws.getD (2 * x.1) [] = s0 at *
    generalize ws.getD (2 * x.1 + 1) [] = s1 at *
    unfold ckw ckv
    simp only
    obtain ⟨ox, Hox⟩ : ∃ ox, Hid (off + 2 * x.1 = ox) := ⟨_, rfl⟩
    rw [show off + (2 * x.1 + 1) = off + 2 * x.1 + 1 by omega] at hc1
    rw [Hox.out] at hc0 hc1 ⊢
    obtain ⟨X0, HX1⟩ : ∃ z, Hid (sb s0 = z) := ⟨_, rfl⟩
    obtain ⟨X1, HX2⟩ : ∃ z, Hid (sb s1 = z) := ⟨_, rfl⟩
    rw [HX1.out] at kk1 hc0
    rw [HX2.out] at kk2 hc1
    have H0 := hid h0
    have H1 := hid h1
    have HWB := hid hWB
    unfold pv at HSN
    clear hX hV k1 k2 e' hg0 hg1 hpv h0 h1 hWB HG HQ HH
    by_cases hk0 : fKd s0 = 0
    · rw [hk0] at kk1
      rw [if_pos hk0] at HSN
      have HEE := hid (HSN.out.2 222 rfl)
      have b0 := H0.out
      have b1 := H1.out
      have c0 := b0.cell
      have f0 := b0.frozen
      have c1 := (Boxed.other b1 (show B1 ≠ B0 by omega) (.slice none 0 0)).cell
      have f1 := (Boxed.other b1 (show B1 ≠ B0 by omega) (.slice none 0 0)).frozen
      have HB0' : Hid (Boxed ((W.setCell ⟨B0, 0, none⟩ (.slice none 0 0)).setCell ⟨B1, 0, none⟩ (.int .i64 222)) B0 50 (.slice none 0 0)) := (b0.set _).other (by omega) _
      have HB1' : Hid (Boxed ((W.setCell ⟨B0, 0, none⟩ (.slice none 0 0)).setCell ⟨B1, 0, none⟩ (.int .i64 222)) B1 26 (.int .i64 222)) := (b1.other (by omega) _).set _
      have HKF : Hid (KeepsFrom W2.heap.size W ((W.setCell ⟨B0, 0, none⟩ (.slice none 0 0)).setCell ⟨B1, 0, none⟩ (.int .i64 222))) := ((KeepsOthers.setCell W ⟨B0, 0, none⟩ (.slice none 0 0)).trans (KeepsOthers.setCell _ ⟨B1, 0, none⟩ (.int .i64 222))).from _
      have HBL : Hid (Below w.heap.size w ((W.setCell ⟨B0, 0, none⟩ (.slice none 0 0)).setCell ⟨B1, 0, none⟩ (.int .i64 222))) := (HWB.out.setCell (p := ⟨B0, 0, none⟩) (by show w.heap.size ≤ B0; omega) _).setCell (p := ⟨B1, 0, none⟩) (by show w.heap.size ≤ B1; omega) _
      clear hk0 kk2 HSN b0 b1
      gi_wp2_with fail
      refine ⟨trivial, ?_⟩
      refine (CallsIn.inRound lp (callsIn_wide.2 kk1)).mono ?_
      rintro e w1 ⟨rfl, hw1⟩
      obtain rfl := hw1.symm
      clear kk1
      gi_wp2
      exact ⟨HKF.out, rfl, 222, HEE.out, HB0'.out, HB1'.out, HBL.out⟩
    · have hkI : ¬ (fKd s0 : Int) = 0 := by omega
      have hkB : ((fKd s0 : Int) == 0) = false := by simp; omega
      rw [if_neg hk0] at HSN
      obtain ⟨kd, HKD⟩ : ∃ z : Nat, Hid (fKd s0 = z) := ⟨_, rfl⟩
      rw [HKD.out] at kk1 hkI hkB HSN
      unfold NuV at kk2
      cases hnum : numv s1 with
      | none =>
        rw [hnum] at kk2 HSN
        have HEE := hid (HSN.out.2 223 rfl)
        clear hk0 HSN hnum
        gi_wp2_with fail
        refine ⟨trivial, ?_⟩
        refine (CallsIn.inRound lp (callsIn_wide.2 kk1)).mono ?_
        rintro e w1 ⟨rfl, hw1⟩
        obtain rfl := hw1.symm
        clear kk1
        gi_wp2_with fail
        refine ⟨trivial, ?_⟩
        refine (CallsIn.inRound lp (callsIn_wide.2 kk2)).mono ?_
        rintro e w3 ⟨rfl, g3⟩
        have b0 : Boxed w3 B0 50 (.slice none 0 0) := (g3.block B0 H0.out.lt).trans H0.out
        have b1 : Boxed w3 B1 26 (.int .i64 0) := (g3.block B1 H1.out.lt).trans H1.out
        have c0 := b0.cell
        have f0 := b0.frozen
        have c1 := (Boxed.other b1 (show B1 ≠ B0 by omega) (.slice none 0 0)).cell
        have f1 := (Boxed.other b1 (show B1 ≠ B0 by omega) (.slice none 0 0)).frozen
        have HB0' : Hid (Boxed ((w3.setCell ⟨B0, 0, none⟩ (.slice none 0 0)).setCell ⟨B1, 0, none⟩ (.int .i64 223)) B0 50 (.slice none 0 0)) := (b0.set _).other (by omega) _
        have HB1' : Hid (Boxed ((w3.setCell ⟨B0, 0, none⟩ (.slice none 0 0)).setCell ⟨B1, 0, none⟩ (.int .i64 223)) B1 26 (.int .i64 223)) := (b1.other (by omega) _).set _
        have HKF : Hid (KeepsFrom W2.heap.size W ((w3.setCell ⟨B0, 0, none⟩ (.slice none 0 0)).setCell ⟨B1, 0, none⟩ (.int .i64 223))) := ((keeps_be g3).trans ((KeepsOthers.setCell w3 ⟨B0, 0, none⟩ (.slice none 0 0)).trans (KeepsOthers.setCell _ ⟨B1, 0, none⟩ (.int .i64 223)))).from _
        have HBL : Hid (Below w.heap.size w ((w3.setCell ⟨B0, 0, none⟩ (.slice none 0 0)).setCell ⟨B1, 0, none⟩ (.int .i64 223))) := ((bel_bel HWB.out HWB.out.size g3).setCell (p := ⟨B0, 0, none⟩) (by show w.heap.size ≤ B0; omega) _).setCell (p := ⟨B1, 0, none⟩) (by show w.heap.size ≤ B1; omega) _
        clear kk2 b0 b1 g3
        gi_wp2
        exact ⟨HKF.out, rfl, 223, HEE.out, HB0'.out, HB1'.out, HBL.out⟩
      | some nn =>
        rw [hnum] at kk2 HSN
        have HEE := hid (HSN.out.1 _ rfl)
        have hml := mapR_len _ _ _ HFS.out
        clear hk0 HSN hnum
        gi_wp2_with fail
        refine ⟨trivial, ?_⟩
        refine (CallsIn.inRound lp (callsIn_wide.2 kk1)).mono ?_
        rintro e w1 ⟨rfl, hw1⟩
        obtain rfl := hw1.symm
        clear kk1
        gi_wp2_with fail
        refine ⟨trivial, ?_⟩
        refine (CallsIn.inRound lp (callsIn_wide.2 kk2)).mono ?_
        rintro e w3 ⟨rfl, g3⟩
        have hX3 := HX0.out.on g3
        obtain ⟨⟨v, b3, ho⟩, bel, hsz⟩ := hX3
        obtain ⟨av, cv, rfl, hvc, hvm, hvn, hva⟩ := own_slice ho
        have HRX : Hid (frow (fs ++ [((nn : Int), (kd : Int))]) = frow fs ++ [.int .i64 nn, .int .i64 kd]) := by show _ = _; simp [frow]
        have HPL : Hid ((pre ++ [x]).length = pre.length + 1) := by show _ = _; simp
        obtain ⟨m, Hm⟩ : ∃ m, Hid (pre.length = m) := ⟨_, rfl⟩
        rw [Hm.out] at ho hvc hlt' HPL b3
        obtain ⟨L, HL⟩ : ∃ z, Hid (frow fs = z) := ⟨_, rfl⟩
        rw [HL.out] at ho HRX
        obtain ⟨i, hi, hz0, hz1, hz2⟩ := info_parts infoFt
        have c3 := b3.cell
        have hrow : (w3.alloc (.cells #[.int .i64 nn, .int .i64 kd] 72)).heap[w3.heap.size]? = some (.cells #[.int .i64 nn, .int .i64 kd] 72 (0, 0)) := heap_alloc_new w3 _
        have ho2 : (w3.alloc (.cells #[.int .i64 nn, .int .i64 kd] 72)).ownsRow W2.heap.size 72 2 (.slice av m cv) m L := own_at' ho (fun g eg => by
          obtain ⟨cur, hc⟩ := own_ty ho eg
          exact Below.heap_alloc _ _ _ (Array.getElem?_eq_some_iff.1 hc).1)
        have hwsz : W2.heap.size ≤ (w3.alloc (.cells #[.int .i64 nn, .int .i64 kd] 72)).heap.size := by rw [World.size_alloc]; omega
        have hKm : m < 1000000 := by have := HKK.out; omega
        have HR1 := hid hrow
        have HO2 := hid ho2
        have HWS := hid hwsz
        have HO := hid ho
        have HBX := hid b3
        have HBEL := hid bel
        have G3 := hid g3
        clear hrow ho2 hwsz ho b3 bel kk2 g3 hml
        gi_wp2_with (gi_at_builtin; refine wpListIn_append_own _ rfl _ _ 50 rfl W2.heap.size 72 i _ 2 16 Tryz.underlying50 hi hz0 hz1 hz2 rfl (by decide) (.slice av m cv) m L rfl (by exact HO2.out) ⟨w3.heap.size, 0, none⟩ 1 1 [.int .i64 nn, .int .i64 kd] rfl rfl ?c1 ?c2 (by unfold maxLen at *; omega) (by omega) (by exact HWS.out) ?_)
        case c1 =>
          intro j u hj
          rw [Addr.add_lit, Nat.zero_add, cell_of_row _ _ j _ _ (0, 0) HR1.out]
          match j, hj with
          | 0, hj => simp at hj; subst hj; rfl
          | 1, hj => simp at hj; subst hj; rfl
          | j + 2, hj => simp at hj
        case c2 =>
          intro u hu
          simp at hu
          rcases hu with rfl | rfl <;> rfl
        intro v' w4 hown hg hv
        obtain ⟨a7, c7, rfl, _⟩ := own_slice hown
        obtain ⟨h1, h2, h3, h4, h5⟩ := Gx.push HBX.out HO.out HBEL.out hsz (by omega) (by omega) (by omega) hown hg
        have hkp : ∀ k, k < W2.heap.size → k ≠ B2 → (w4.setCell ⟨B2, 0, none⟩ (.slice a7 (m + 1) c7)).heap[k]? = W.heap[k]? := fun k hk hne => (h3 k hk hne).trans (G3.out.block k (by omega))
        have HFIN : Hid (Gx w W2.heap.size B2 50 72 2 (pre ++ [x]).length (frow (fs ++ [((nn : Int), (kd : Int))])) (w4.setCell ⟨B2, 0, none⟩ (.slice a7 (m + 1) c7))) := by
          show Gx _ _ _ _ _ _ _ _ _
          rw [HPL.out, HRX.out]
          exact h1
        have HKF := hid (((keeps_be G3.out).trans h2).from W2.heap.size)
        have HKW : Hid (KC B3 B4 W (w4.setCell ⟨B2, 0, none⟩ (.slice a7 (m + 1) c7))) := ⟨hkp B3 (by omega) (by omega), hkp B4 (by omega) (by omega)⟩
        have HB0' : Hid (Boxed (w4.setCell ⟨B2, 0, none⟩ (.slice a7 (m + 1) c7)) B0 50 (.slice none 0 0)) := (hkp B0 (by omega) (by omega)).trans H0.out
        have HB1' : Hid (Boxed (w4.setCell ⟨B2, 0, none⟩ (.slice a7 (m + 1) c7)) B1 26 (.int .i64 0)) := (hkp B1 (by omega) (by omega)).trans H1.out
        clear h1 h2 h3 hown hg hv c3 hkp
        gi_wp2
        exact ⟨HKF.out, HKW.out, HB0'.out, HB1'.out, _, HEE.out, HFIN.out⟩
  case done =>
    subst hA
    rintro D ys W hD rfl ⟨h0, h1, fs, HFS, hX⟩ hK'
    have hfl : fltv ws = .ok fs := by rw [← HFF.out]; exact HFS.out
    have hml := mapR_len _ _ _ HFS.out
    rw [List.length_finRange] at hml hX
    obtain ⟨⟨v, b3, ho⟩, bel, hsz⟩ := hX
    obtain ⟨av, cv, rfl, hvc, hvm, hvn, hva⟩ := own_slice ho
    have c3 := b3.cell
    have c0 := h0.cell
    have f0 := h0.frozen
    have d1 := Boxed.other h1 (show B1 ≠ B0 by omega) (.slice av K cv)
    have c1 := d1.cell
    have f1 := d1.frozen
    have HE0 : Hid (Boxed ((W.setCell ⟨B0, 0, none⟩ (.slice av K cv)).setCell ⟨B1, 0, none⟩ (.int .i64 0)) B0 50 (.slice av K cv)) := (h0.set _).other (by omega) _
    have HE1 : Hid (Boxed ((W.setCell ⟨B0, 0, none⟩ (.slice av K cv)).setCell ⟨B1, 0, none⟩ (.int .i64 0)) B1 26 (.int .i64 0)) := (h1.other (by omega) _).set _
    have HBL : Hid (Below w.heap.size w ((W.setCell ⟨B0, 0, none⟩ (.slice av K cv)).setCell ⟨B1, 0, none⟩ (.int .i64 0))) := (bel.setCell (p := ⟨B0, 0, none⟩) (by show w.heap.size ≤ B0; omega) _).setCell (p := ⟨B1, 0, none⟩) (by show w.heap.size ≤ B1; omega) _
    have HOO : Hid (((W.setCell ⟨B0, 0, none⟩ (.slice av K cv)).setCell ⟨B1, 0, none⟩ (.int .i64 0)).ownsRow W2.heap.size 72 2 (.slice av K cv) K (frow fs)) := own_at' ho (fun g eg => by
      have hge := (ho.lt g eg).1
      exact (Below.heap_setCell _ _ _ _ (by show g ≠ B1; omega)).trans (Below.heap_setCell _ _ _ _ (by show g ≠ B0; omega)))
    have HD3 : Hid (((W.setCell ⟨B0, 0, none⟩ (.slice av K cv)).setCell ⟨B1, 0, none⟩ (.int .i64 0)).heap[D]? = some (.deferred (some []))) := by
      show _ = _
      rw [Below.heap_setCell _ _ _ _ (by show D ≠ B1; omega), Below.heap_setCell _ _ _ _ (by show D ≠ B0; omega)]
      exact hK'
    clear ho b3 bel h0 h1 d1
    gi_wp2
    refine ⟨by simp, .inl ⟨_, _, rfl, run_takeDeferred HD3.out, ?_⟩⟩
    have BF := HBL.out.trans (belowK_b (w := w) (Nat.le_refl _) _ D _ (.deferred none) (by omega) HD3.out rfl rfl)
    have r0 := (boxed_non (B := 0) HE0.out (grownBy_putObj' _ D (.deferred none)) (fun r er => by cases er; exact ⟨Nat.zero_le _, _, HD3.out, rfl⟩)).cell
    have r1 := (boxed_non (B := 0) HE1.out (grownBy_putObj' _ D (.deferred none)) (fun r er => by cases er; exact ⟨Nat.zero_le _, _, HD3.out, rfl⟩)).cell
    refine ⟨.tuple #[.slice av K cv, .int .i64 0], ?_, ?_, BF⟩
    · simp [results, Tryz.f90, go_sem, r0, r1]
    · unfold RfV
      rw [hfl]
      subst hml
      exact ⟨av, cv, rfl, fts_own (own_monoT (own_non (B := 0) HOO.out (grownBy_putObj' _ D (.deferred none)) (fun r er => by cases er; exact ⟨Nat.zero_le _, _, HD3.out, rfl⟩)) (by omega)) rfl, hvc⟩
  case stop =>
    subst hA
    rintro D cc pre W hD hpre ⟨rfl, k, HKE, h0, h1, bel⟩ hK'
    obtain ⟨post, hpost⟩ := hpre
    have hfl : fltv ws = .error k := by
      rw [← HFF.out, ← hpost]
      exact mapR_pre _ pre post HKE.out
    have BF := bel.trans (belowK_b (w := w) (Nat.le_refl _) _ D _ (.deferred none) (by omega) hK' rfl rfl)
    have r0 := (boxed_non (B := 0) h0 (grownBy_putObj' _ D (.deferred none)) (fun r er => by cases er; exact ⟨Nat.zero_le _, _, hK', rfl⟩)).cell
    have r1 := (boxed_non (B := 0) h1 (grownBy_putObj' _ D (.deferred none)) (fun r er => by cases er; exact ⟨Nat.zero_le _, _, hK', rfl⟩)).cell
    gi_wp2
    refine ⟨by simp, .inl ⟨_, _, rfl, run_takeDeferred hK', ?_⟩⟩
    refine ⟨.tuple #[.slice none 0 0, .int .i64 (k : Nat)], ?_, ?_, BF⟩
    · simp [results, Tryz.f90, go_sem, r0, r1]
    · unfold RfV
      rw [hfl]
end Go.Proofs.YtkeogggeefnoeaaGreatDoor
namespace Go.Proofs.YtkeogggeefnoeaaGreatDoor
set_option linter.unusedSimpArgs false
open Go.RowKit
set_option linter.unusedVariables false
set_option maxRecDepth 100000

/-! Reading: a change. -/
/-- What was made since, the variable itself left out. -/
def Vg (S g : Nat) (b : Nat) : Prop := S ≤ b ∧ b ≠ g
section
variable {w w' : World} {g i : Nat} {v : Value}
theorem grown_setG (w : World) (g i : Nat) (v : Value) : w.grownBy (w.setCell ⟨g, i, none⟩ v) (some g) := set_by w g i v
theorem grown_row {a b c : World} {g : Nat} (h : Below a.heap.size a b) (k : b.grownBy c (some g)) : a.grownBy c (some g) := by
  refine ⟨k.os.trans h.os, k.tape.trans h.tape, k.output.trans h.output, Nat.le_trans h.size k.size, fun j hj hne => (k.block j (Nat.lt_of_lt_of_le hj h.size) hne).trans (h.block j hj)⟩
theorem Vc.row {w w' : World} {S g : Nat} {x : CD} (h : Vc w (Vg S g) x) (hg : w.grownBy w' (some g)) : Vc w' (Vg S g) x := h.step fun b hb hV => hg.block b hb (fun e => hV.2 (Option.some.inj e))
theorem Cv.yx {x : CD} (h : Cv w g x) : Yx w g 70 (cdc x) := h
theorem Cv.of {y : CD} (h : Yx w g 70 (cdc y)) : Cv w g y := h
end
/-- What filling a field leaves. -/
def FcV (S g : Nat) (w : World) (r : R Chg) (e : Ending) (w' : World) : Prop := w.grownBy w' (some g) ∧ match r with
  | .error k => e = .returned (.int .i64 (k : Nat))
  | .ok c => e = .returned (.int .i64 0) ∧ ∃ y : CD, y.c = c ∧ Cv w' g y ∧ Vc w' (Vg S g) y
set_option maxHeartbeats 4000000 in
theorem fillChange_ (g : Nat) (x : CD) (f : Nat) (hf : cLet f) (l : List Nat) (hy : ∀ y ∈ l, y < 256) (hl : l.length ≤ 1048576) (S : Nat) (w : World) (h : Cv w g x) (hv : Vc w (Vg S g) x) (hS : S ≤ w.heap.size) (hT : Tb w) :
    Calls Tryz.prog 137 #[.pointer (some ⟨g, 0, none⟩), .int .i32 (f : Int), .string (sb l)] w fun e w' => FcV S g w (cFil x.c f l) e w' := by
  have hgl : g < w.heap.size := (Array.getElem?_eq_some_iff.1 h).1
  rcases hf with rfl | rfl | rfl | rfl
  · -- l
    have k1 := changeNumber_ g 108 w
    rw [if_pos rfl] at k1
    have k2 := readNumber_ l hy hl w hT
    unfold NuV at k2
    have hr : cFil x.c 108 l = match numv l with
      | none => .error 223
      | some n => .ok (cNum x.c 108 n) := by
      unfold cFil
      rw [if_neg (by decide), if_neg (by decide)]
      cases numv l <;> rfl
    rw [hr]
    generalize sb l = Sx at *
    rw [show ((108 : Nat) : Int) = 108 from rfl]
    have HV := hid hv
    have HC := hid h
    clear h hv hT
    cases hn : numv l with
    | none =>
      rw [hn] at k2
      clear hn
      go_enter Tryz.func137, Tryz.ntmps137
      go_wp2_with fail
      refine k1.mono ?_
      rintro e w1 ⟨rfl, hw⟩
      obtain rfl := hw.symm
      go_wp2_with fail
      refine k2.mono ?_
      rintro e w2 ⟨rfl, g2⟩
      have HC2 := hid (HC.out.on g2)
      have c1 := HC2.out.yx.cell 1
      have f1 := HC2.out.yx.fz 1
      simp only [cdc, List.getElem?_cons_succ, List.getElem?_cons_zero] at c1
      have HG := hid (grown_row g2 (grown_setG w2 g 1 (.int .i64 0)))
      clear k1 k2 g2
      go_wp2_with fail
      go_ret
      exact ⟨HG.out, rfl⟩
    | some n =>
      rw [hn] at k2
      clear hn
      go_enter Tryz.func137, Tryz.ntmps137
      go_wp2_with fail
      refine k1.mono ?_
      rintro e w1 ⟨rfl, hw⟩
      obtain rfl := hw.symm
      go_wp2_with fail
      refine k2.mono ?_
      rintro e w2 ⟨rfl, g2⟩
      have HC2 := hid (HC.out.on g2)
      have c1 := HC2.out.yx.cell 1
      have f1 := HC2.out.yx.fz 1
      simp only [cdc, List.getElem?_cons_succ, List.getElem?_cons_zero] at c1
      have HG := hid (grown_row g2 (grown_setG w2 g 1 (.int .i64 n)))
      have HY : Hid (Cv (w2.setCell ⟨g, 1, none⟩ (.int .i64 n)) g ⟨cNum x.c 108 n, x.a, x.p⟩) := Cv.of (HC2.out.yx.set 1 (.int .i64 n))
      clear k1 k2 g2
      go_wp2_with fail
      go_ret
      exact ⟨HG.out, rfl, _, rfl, HY.out, HV.out.row HG.out⟩
  · -- s
    have k1 := changeNumber_ g 115 w
    rw [if_neg (by decide)] at k1
    have k2 := readNumber_ l hy hl w hT
    unfold NuV at k2
    have hr : cFil x.c 115 l = match numv l with
      | none => .error 223
      | some n => .ok (cNum x.c 115 n) := by
      unfold cFil
      rw [if_neg (by decide), if_neg (by decide)]
      cases numv l <;> rfl
    rw [hr]
    generalize sb l = Sx at *
    rw [show ((115 : Nat) : Int) = 115 from rfl]
    have HV := hid hv
    have HC := hid h
    clear h hv hT
    cases hn : numv l with
    | none =>
      rw [hn] at k2
      clear hn
      go_enter Tryz.func137, Tryz.ntmps137
      go_wp2_with fail
      refine k1.mono ?_
      rintro e w1 ⟨rfl, hw⟩
      obtain rfl := hw.symm
      go_wp2_with fail
      refine k2.mono ?_
      rintro e w2 ⟨rfl, g2⟩
      have HC2 := hid (HC.out.on g2)
      have c1 := HC2.out.yx.cell 2
      have f1 := HC2.out.yx.fz 2
      simp only [cdc, List.getElem?_cons_succ, List.getElem?_cons_zero] at c1
      have HG := hid (grown_row g2 (grown_setG w2 g 2 (.int .i64 0)))
      clear k1 k2 g2
      go_wp2_with fail
      go_ret
      exact ⟨HG.out, rfl⟩
    | some n =>
      rw [hn] at k2
      clear hn
      go_enter Tryz.func137, Tryz.ntmps137
      go_wp2_with fail
      refine k1.mono ?_
      rintro e w1 ⟨rfl, hw⟩
      obtain rfl := hw.symm
      go_wp2_with fail
      refine k2.mono ?_
      rintro e w2 ⟨rfl, g2⟩
      have HC2 := hid (HC.out.on g2)
      have c1 := HC2.out.yx.cell 2
      have f1 := HC2.out.yx.fz 2
      simp only [cdc, List.getElem?_cons_succ, List.getElem?_cons_zero] at c1
      have HG := hid (grown_row g2 (grown_setG w2 g 2 (.int .i64 n)))
      have HY : Hid (Cv (w2.setCell ⟨g, 2, none⟩ (.int .i64 n)) g ⟨cNum x.c 115 n, x.a, x.p⟩) := Cv.of (HC2.out.yx.set 2 (.int .i64 n))
      clear k1 k2 g2
      go_wp2_with fail
      go_ret
      exact ⟨HG.out, rfl, _, rfl, HY.out, HV.out.row HG.out⟩
  · -- K
    have k2 := readHex_ l hy hl w hT
    unfold RxV at k2
    have hr : cFil x.c 75 l = match hexv l with
      | none => .error 225
      | some b => .ok { x.c with key := b } := rfl
    rw [hr]
    generalize sb l = Sx at *
    rw [show ((75 : Nat) : Int) = 75 from rfl]
    have HV := hid hv
    have HC := hid h
    clear h hv hT
    cases hn : hexv l with
    | none =>
      rw [hn] at k2
      clear hn
      go_enter Tryz.func137, Tryz.ntmps137
      go_wp2_with fail
      refine k2.mono ?_
      rintro e w2 ⟨rfl, g2⟩
      have HC2 := hid (HC.out.on g2)
      have c1 := HC2.out.yx.cell 3
      have f1 := HC2.out.yx.fz 3
      simp only [cdc, List.getElem?_cons_succ, List.getElem?_cons_zero] at c1
      have HG := hid (grown_row g2 (grown_setG w2 g 3 (.slice none 0 0)))
      clear k2 g2
      go_wp2_with fail
      go_ret
      exact ⟨HG.out, rfl⟩
    | some b =>
      rw [hn] at k2
      clear hn
      go_enter Tryz.func137, Tryz.ntmps137
      go_wp2_with fail
      refine k2.mono ?_
      rintro e w2 ⟨⟨a, p, rfl, hvs⟩, g2⟩
      have HC2 := hid (HC.out.on g2)
      have c1 := HC2.out.yx.cell 3
      have f1 := HC2.out.yx.fz 3
      simp only [cdc, List.getElem?_cons_succ, List.getElem?_cons_zero] at c1
      have hgs := grown_setG w2 g 3 (.slice a b.length p)
      have HG := hid (grown_row g2 hgs)
      have HY : Hid (Cv (w2.setCell ⟨g, 3, none⟩ (.slice a b.length p)) g ⟨{ x.c with key := b }, a, p⟩) := Cv.of (HC2.out.yx.set 3 (.slice a b.length p))
      have HVV : Hid (Vc (w2.setCell ⟨g, 3, none⟩ (.slice a b.length p)) (Vg S g) ⟨{ x.c with key := b }, a, p⟩) := Vc.row (Vs.wide hvs (fun k hk hw => ⟨by omega, by omega⟩)) hgs
      obtain ⟨n, HN⟩ : ∃ z, Hid (b.length = z) := ⟨_, rfl⟩
      rw [HN.out] at HG HY HVV ⊢
      clear k2 g2 hvs hgs
      go_wp2_with fail
      go_ret
      exact ⟨HG.out, rfl, _, rfl, HY.out, HVV.out⟩
  · -- P
    have k2 := parse_ l w hy (by omega) hT
    have hr : cFil x.c 80 l = if rE l = 0 then .ok { x.c with f := rF l, h := rH l, l := rL l, b := rB l } else .error 70 := by
      unfold cFil
      rw [if_neg (by decide), if_pos rfl]
    have hE : rE l = 0 ∨ rE l = 70 := by unfold rE; split <;> simp
    rw [hr]
    generalize sb l = Sx at *
    rw [show ((80 : Nat) : Int) = 80 from rfl]
    have HV := hid hv
    have HC := hid h
    obtain ⟨F, HF⟩ : ∃ z, Hid (rF l = z) := ⟨_, rfl⟩
    obtain ⟨H, HH⟩ : ∃ z, Hid (rH l = z) := ⟨_, rfl⟩
    obtain ⟨L, HL⟩ : ∃ z, Hid (rL l = z) := ⟨_, rfl⟩
    obtain ⟨B, HB⟩ : ∃ z, Hid (rB l = z) := ⟨_, rfl⟩
    obtain ⟨E, HE⟩ : ∃ z, Hid (rE l = z) := ⟨_, rfl⟩
    rw [HF.out, HH.out, HL.out, HB.out, HE.out] at k2
    rw [HF.out, HH.out, HL.out, HB.out, HE.out]
    rw [HE.out] at hE
    obtain ⟨rr, HRR⟩ : ∃ z : R Chg, Hid ((if E = 0 then .ok { x.c with f := F, h := H, l := L, b := B } else .error 70) = z) := ⟨_, rfl⟩
    rw [HRR.out]
    clear h hv hT hr
    go_enter Tryz.func137, Tryz.ntmps137
    go_wp2_with fail
    refine k2.mono ?_
    rintro e w2 ⟨rfl, g2⟩
    have HC2 := hid (HC.out.on g2)
    have hth : w2.there g 4 4 := fun j hj => by
      refine ⟨?_, HC2.out.yx.fz _⟩
      rw [HC2.out.yx.cell]
      rcases (show j = 0 ∨ j = 1 ∨ j = 2 ∨ j = 3 by omega) with rfl | rfl | rfl | rfl <;> rfl
    have HTH := hid hth
    have hgs : w2.grownBy ((((w2.setCell ⟨g, 4, none⟩ (.int .i64 F)).setCell ⟨g, 5, none⟩ (.int .u64 H)).setCell ⟨g, 6, none⟩ (.int .u64 L)).setCell ⟨g, 7, none⟩ (.int .i64 B)) (some g) := by_trans (by_trans (by_trans (grown_setG _ _ _ _) (grown_setG _ _ _ _)) (grown_setG _ _ _ _)) (grown_setG _ _ _ _)
    have HG := hid (grown_row g2 hgs)
    have HY : Hid (Cv ((((w2.setCell ⟨g, 4, none⟩ (.int .i64 F)).setCell ⟨g, 5, none⟩ (.int .u64 H)).setCell ⟨g, 6, none⟩ (.int .u64 L)).setCell ⟨g, 7, none⟩ (.int .i64 B)) g ⟨{ x.c with f := F, h := H, l := L, b := B }, x.a, x.p⟩) := Cv.of ((((HC2.out.yx.set 4 (.int .i64 F)).set 5 (.int .u64 H)).set 6 (.int .u64 L)).set 7 (.int .i64 B))
    have HVV := hid (HV.out.row HG.out)
    have c4 := HC2.out.yx.cell 4
    have c5 := HC2.out.yx.cell 5
    have c6 := HC2.out.yx.cell 6
    have c7 := HC2.out.yx.cell 7
    simp only [cdc, List.getElem?_cons_succ, List.getElem?_cons_zero] at c4 c5 c6 c7
    have f4 := HC2.out.yx.fz 4
    have f5 := HC2.out.yx.fz 5
    have f6 := HC2.out.yx.fz 6
    have f7 := HC2.out.yx.fz 7
    clear k2 g2 hth hgs
    go_wp2_with fail
    go_ret
    rcases hE with rfl | rfl
    · refine ⟨HG.out, ?_⟩
      rw [← HRR.out, if_pos rfl]
      exact ⟨rfl, _, rfl, HY.out, HVV.out⟩
    · refine ⟨HG.out, ?_⟩
      rw [← HRR.out, if_neg (by decide)]
      rfl
end Go.Proofs.YtkeogggeefnoeaaGreatDoor
