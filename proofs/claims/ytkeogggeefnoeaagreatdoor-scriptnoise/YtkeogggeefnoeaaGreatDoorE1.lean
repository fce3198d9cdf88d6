import Derived.Maps.OwnIn
import Derived.Sort.CutIn
import Derived.Test.YtkeogggeefnoeaaGreatDoorN19
namespace Go.Proofs.YtkeogggeefnoeaaGreatDoor
set_option linter.unusedSimpArgs false
open Go.RowKit Go.Shelf
set_option linter.unusedVariables false
set_option maxRecDepth 100000
attribute [local go_sem] Oper.semAt_some

/-! Reading: changes. What is no cells may change: what can be read stays. -/
section
variable {X Y : World} {V : Nat → Prop} {Bd : Nat} {row : Option Nat}
theorem Vs.non {a : Option Addr} {n c : Nat} {v : List Int} (h : Vs X V a n c v) (hg : X.grownBy Y row) (hr : ∀ r, row = some r → Bd ≤ r ∧ ∃ o : Obj, X.heap[r]? = some o ∧ o.isCells = false) : Vs Y V a n c v := by
  refine ⟨⟨h.bs.1, h.bs.2.1, ?_⟩, h.nc, h.cm, h.nil, h.lies⟩
  rcases h.bs.2.2 with h0 | ⟨b, off, e, hc⟩
  · exact .inl h0
  · exact .inr ⟨b, off, e, fun i hi => cell_kept (hc i hi) hg (fun r e => (hr r e).2)⟩
theorem Ls.non {a : Option Addr} {n sz : Nat} {f : Nat → List Value} (h : Ls X V a n sz f) (hg : X.grownBy Y row) (hr : ∀ r, row = some r → Bd ≤ r ∧ ∃ o : Obj, X.heap[r]? = some o ∧ o.isCells = false) : Ls Y V a n sz f := by
  rcases h with h0 | ⟨b, off, e, hV, hb, hc⟩
  · exact .inl h0
  · exact .inr ⟨b, off, e, hV, Nat.lt_of_lt_of_le hb hg.size, fun i hi j v hv => cell_kept (hc i hi j v hv) hg (fun r e => (hr r e).2)⟩
theorem Vc.on2 {x : CD} (h : Vc X V x) (hb : Below X.heap.size X Y) : Vc Y V x := h.step fun k hk _ => hb.block k hk
theorem Vc.non {x : CD} (h : Vc X V x) (hg : X.grownBy Y row) (hr : ∀ r, row = some r → Bd ≤ r ∧ ∃ o : Obj, X.heap[r]? = some o ∧ o.isCells = false) : Vc Y V x := Vs.non h hg hr
theorem Cs.non {a : Option Addr} {n : Nat} {l : List Chg} (h : Cs X V a n l) (hg : X.grownBy Y row) (hr : ∀ r, row = some r → Bd ≤ r ∧ ∃ o : Obj, X.heap[r]? = some o ∧ o.isCells = false) : Cs Y V a n l := by
  obtain ⟨cs, h1, h2, h3, h4⟩ := h
  exact ⟨cs, h1, h2, h3.non hg hr, fun x hx => (h4 x hx).non hg hr⟩
theorem Vo.non {x : OD} (h : Vo X V x) (hg : X.grownBy Y row) (hr : ∀ r, row = some r → Bd ≤ r ∧ ∃ o : Obj, X.heap[r]? = some o ∧ o.isCells = false) : Vo Y V x :=
  ⟨h.d.non hg hr, h.c.non hg hr, ⟨h.f.1, h.f.2.non hg hr⟩, ⟨h.k.1, h.k.2.non hg hr⟩, h.kc⟩
end
theorem push2 {w W w1 : World} {S B sz n m : Nat} {lt et : TypeId} {xs news : List Value} {o : Obj} {v v' : Value} (hbx : Boxed W B lt v) (ho : W.ownsRow S et sz v n xs) (bel : Below w.heap.size w W) (hsz : S ≤ W.heap.size) (hBS : B < S) (hwB : w.heap.size ≤ B) (hwS : w.heap.size ≤ S)
    (hown : w1.ownsRow S et sz v' (n + m) (xs ++ news)) (hg : (W.alloc o).grownBy w1 v.ownBlock) :
    Boxed (w1.setCell ⟨B, 0, none⟩ v') B lt v' ∧ (w1.setCell ⟨B, 0, none⟩ v').ownsRow S et sz v' (n + m) (xs ++ news) ∧ (∀ k, k < W.heap.size → k ≠ B → v.ownBlock ≠ some k → (w1.setCell ⟨B, 0, none⟩ v').heap[k]? = W.heap[k]?) ∧ Below w.heap.size w (w1.setCell ⟨B, 0, none⟩ v') ∧ S ≤ (w1.setCell ⟨B, 0, none⟩ v').heap.size := by
  have hnb : ∀ k, v.ownBlock = some k → S ≤ k := fun k ek => (ho.lt k ek).1
  have kp : ∀ k, k < S → w1.heap[k]? = W.heap[k]? := fun k hk => (hg.block k (by rw [World.size_alloc]; omega) (fun ek => by have := hnb k ek.symm; omega)).trans (Below.heap_alloc _ _ _ (by omega))
  have x3 : Boxed w1 B lt v := (kp B hBS).trans hbx
  obtain ⟨h1, _⟩ := Gx.push hbx ho bel hsz hBS hwB hwS hown hg
  refine ⟨x3.set _, own_at' hown (fun g eg => Below.heap_setCell _ _ _ _ (fun e2 => ?_)), fun k hk hkB hkv => (Below.heap_setCell _ _ _ _ (by show k ≠ B; exact hkB)).trans ((hg.block k (by rw [World.size_alloc]; omega) (fun ek => hkv ek.symm)).trans (Below.heap_alloc _ _ _ hk)), h1.bel, h1.sz⟩
  have h1 := (hown.lt g eg).1
  simp only at e2
  omega
def crow (cs : List CD) : List Value := cs.flatMap cdc
theorem crow_at : ∀ (cs : List CD) (i : Nat), i < cs.length → ∀ j v, (cdc (cs.getD i cd0))[j]? = some v → (crow cs)[i * 8 + j]? = some v
  | [], i, h, _, _, _ => by simp at h
  | x :: l, 0, h, j, v, hv => by
    have hv : (cdc x)[j]? = some v := hv
    have hj := (List.getElem?_eq_some_iff.1 hv).1
    show (cdc x ++ crow l)[0 * 8 + j]? = _
    rw [Nat.zero_mul, Nat.zero_add, List.getElem?_append_left hj]
    exact hv
  | x :: l, i + 1, h, j, v, hv => by
    have := crow_at l i (by simpa using h) j v hv
    show (cdc x ++ crow l)[(i + 1) * 8 + j]? = _
    rw [List.getElem?_append_right (by simp [cdc]; omega)]
    rw [show (i + 1) * 8 + j - (cdc x).length = i * 8 + j by simp [cdc]; omega]
    exact this
theorem cs_own {w : World} {S S0 n c : Nat} {a : Option Addr} {cs : List CD} {V : Nat → Prop} (h : w.ownsRow S 70 8 (.slice a n c) n (crow cs)) (hn : cs.length = n) (hS : S0 ≤ S) (hv : ∀ x ∈ cs, Vc w V x) (hV : ∀ k, V k → S0 ≤ k) : Cs w (fun x => S0 ≤ x) a n (cs.map (·.c)) :=
  ⟨cs, rfl, hn, (ls_own h _ (fun i hi j u hu => crow_at cs i (by omega) j u hu)).wide (fun x _ hx => Nat.le_trans hS hx), fun x hx => (hv x hx).wide fun k _ hk => hV k hk⟩
theorem infoCh : (Tryz.prog.info? 70).map (fun i => (i.zero, i.size, i.bytes)) = some (some (.agg #[.int .i64 0, .int .i64 0, .int .i64 0, .slice none 0 0, .int .i64 0, .int .u64 0, .int .u64 0, .int .i64 0]), 8, 80) := by kernel_rfl
/-- What readChanges answers. -/
def RgV (w : World) (r : R (List Chg)) (e : Ending) (w' : World) : Prop := match r with
  | .error k => e = .returned (.tuple #[.slice none 0 0, .int .i64 (k : Nat)]) ∧ k ≠ 0
  | .ok l => ∃ a p, e = .returned (.tuple #[.slice a l.length p, .int .i64 0]) ∧ Cs w' (fun x => w.heap.size ≤ x) a l.length l
theorem pcs_len : ∀ (l cur : List (List Nat)), (pcs cur l).length ≤ l.length + 1
  | [], cur => by simp [pcs]
  | x :: l, cur => by
    rw [pcs]
    have h1 := pcs_len l []
    have h2 := pcs_len l (cur ++ [x])
    split
    · simp; omega
    · simp; omega
theorem chgv_err {ws : List (List Nat)} {e : Nat} (h : chgv ws = .error e) : e ≠ 0 := by
  unfold chgv at h
  split at h
  · cases h; decide
  · split at h
    · cases h; decide
    · split at h
      · cases h; decide
      · rename_i nm l h1 h2
        have key : ∀ (fs : List Nat) (c : Chg) (ws : List (List Nat)), cRun c fs ws = .error e → e ≠ 0 := by
          intro fs
          induction fs with
          | nil => intro c ws h; cases h
          | cons f fs ih =>
            intro c ws h
            cases ws with
            | nil => cases h
            | cons w ws =>
              rw [cRun] at h
              cases hc : cFil c f w with
              | error e' =>
                rw [hc] at h
                cases h
                exact cFil_err hc
              | ok c' =>
                rw [hc] at h
                exact ih c' ws h
        exact key _ _ _ h
theorem mapR_err {α β : Type} (f : α → R β) {e : Nat} : ∀ l : List α, mapR f l = .error e → ∃ x ∈ l, f x = .error e
  | [], h => by cases h
  | x :: l, h => by
    rw [mapR] at h
    cases hx : f x with
    | error e' => rw [hx] at h; cases h; exact ⟨x, List.mem_cons_self, hx⟩
    | ok y =>
      rw [hx] at h
      cases hr : mapR f l with
      | ok r => rw [hr] at h; cases h
      | error e' =>
        rw [hr] at h
        cases h
        obtain ⟨z, hz, h2⟩ := mapR_err f l hr
        exact ⟨z, List.mem_cons_of_mem _ hz, h2⟩
set_option maxHeartbeats 8000000 in
theorem readChanges_ (V : Nat → Prop) (a : Option Addr) (n p : Nat) (ws : List (List Nat)) (hw : Gw ws) (w : World) (h : Wv w V a n p ws) (hn4 : n ≤ 2000000) (hq : Tq w) : Calls Tryz.prog 91 #[.slice a n p] w fun e w' => RgV w (chsv ws) e w' ∧ Below w.heap.size w w' := by
  have hmx : Tryz.prog.follows .mixedOrders = true := by kernel_rfl
  have hln := h.ln
  by_cases hz : n = 0
  · subst hz
    have hr : chsv ws = .ok [] := by
      rw [List.eq_nil_of_length_eq_zero hln]
      rfl
    rw [hr]
    have HB2 : Hid (Below w.heap.size w ((w.alloc (.cells #[.slice none 0 0] 49)).alloc (.cells #[.int .i64 0] 26))) := ((Below.refl _ _).alloc (Nat.le_refl _) _).alloc (by simp) _
    have b0 := (Boxed.new w 49 (.slice none 0 0)).alloc (.cells #[.int .i64 0] 26)
    have b1 := Boxed.new (w.alloc (.cells #[.slice none 0 0] 49)) 26 (.int .i64 0)
    rw [World.size_alloc] at b1
    have c0 := b0.cell
    have c1 := b1.cell
    clear hr hln h hw hq b0 b1
    refine (callsIn_wide (n := 9)).1 ?_
    refine callsIn_of_wp_marks Tryz.func91 rfl trivial ?_ rfl
    simp only [Tryz.ntmps91, List.size_toArray, List.length_cons, List.length_nil, Nat.reduceAdd, Nat.reduceSub, Array.replicate_succ, Array.replicate_zero, List.push_toArray, List.append_toArray, List.nil_append, List.cons_append]
    gi_wp2
    exact ⟨.tuple #[.slice none 0 0, .int .i64 0], by simp [results, Tryz.f91, go_sem, c0, c1], ⟨none, 0, rfl, [], rfl, rfl, .inl rfl, by simp⟩, HB2.out⟩
  · have hchs : chsv ws = mapR chgv (pcs [] ws) := by
      unfold chsv
      rw [if_neg (fun e => hz (by rw [← hln, e]; rfl))]
    have HRR := hid hchs
    have hpl := pcs_len ws []
    rw [hln] at hpl
    have hn0 : ¬ (n : Int) = 0 := by omega
    have hn00 : ((n : Int) == 0) = false := by simp; omega
    clear hchs hln
    refine (callsIn_wide (n := 9)).1 ?_
    refine callsIn_of_wp_marks Tryz.func91 rfl trivial ?_ rfl
    simp only [Tryz.ntmps91, List.size_toArray, List.length_cons, List.length_nil, Nat.reduceAdd, Nat.reduceSub, Array.replicate_succ, Array.replicate_zero, List.push_toArray, List.append_toArray, List.nil_append, List.cons_append]
    gi_wp2_with (refine ⟨trivial, ?_⟩; gi_at_call 114; refine (callsIn_wide.2 (eachPart_ _ _ _ _)).mono ?_; rintro e0 w2 ⟨rfl, hw2⟩)
    clear hw2 hn0 hn00
    obtain ⟨W2, HW2⟩ : ∃ W2, Hid ((((w.alloc (.cells #[.slice none 0 0] 49)).alloc (.cells #[.int .i64 0] 26)).alloc (.cells #[.slice none 0 0] 49)).alloc (.cells #[.slice a n p] 86) = W2) := ⟨_, rfl⟩
    have sz2 : W2.heap.size = w.heap.size + 1 + 1 + 1 + 1 := by rw [← HW2.out]; simp
    have bel2 : Below w.heap.size w W2 := by
      rw [← HW2.out]
      exact ((((Below.refl _ _).alloc (Nat.le_refl _) _).alloc (by simp) _).alloc (by simp; omega) _).alloc (by simp; omega) _
    have b0 : Boxed W2 w.heap.size 49 (.slice none 0 0) := by
      rw [← HW2.out]
      exact (((Boxed.new w 49 (.slice none 0 0)).alloc _).alloc _).alloc _
    have b1 : Boxed W2 (w.heap.size + 1) 26 (.int .i64 0) := by
      rw [← HW2.out]
      have := ((Boxed.new (w.alloc (.cells #[.slice none 0 0] 49)) 26 (.int .i64 0)).alloc (.cells #[.slice none 0 0] 49)).alloc (.cells #[.slice a n p] 86)
      simpa using this
    have b2 : Boxed W2 (w.heap.size + 1 + 1) 49 (.slice none 0 0) := by
      rw [← HW2.out]
      have := (Boxed.new ((w.alloc (.cells #[.slice none 0 0] 49)).alloc (.cells #[.int .i64 0] 26)) 49 (.slice none 0 0)).alloc (.cells #[.slice a n p] 86)
      simpa using this
    have b3 : Boxed W2 (w.heap.size + 1 + 1 + 1) 86 (.slice a n p) := by
      rw [← HW2.out]
      have := Boxed.new (((w.alloc (.cells #[.slice none 0 0] 49)).alloc (.cells #[.int .i64 0] 26)).alloc (.cells #[.slice none 0 0] 49)) 86 (.slice a n p)
      simpa using this
    rw [HW2.out]
    clear HW2
    generalize g3 : w.heap.size + 1 + 1 + 1 = B3 at *
    generalize g2 : w.heap.size + 1 + 1 = B2 at *
    generalize g1 : w.heap.size + 1 = B1 at *
    obtain ⟨B0, HB0⟩ : ∃ B0, Hid (w.heap.size = B0) := ⟨_, rfl⟩
    have hB0 := HB0.out
    rw [hB0] at b0 ⊢
    have hBB : B0 < B1 ∧ B1 < B2 ∧ B2 < B3 ∧ B3 < W2.heap.size := by omega
    have hwB : w.heap.size ≤ B0 := by omega
    have P2 : Gx w W2.heap.size B2 49 70 8 0 [] W2 := ⟨⟨_, b2, World.ownsRow_nil _ _ _ _⟩, bel2, Nat.le_refl _⟩
    have c3 := b3.cell
    have hseq : SeqStopsK Fence.wide 8 Tryz.prog 134 #[.pointer (some ⟨B3, 0, none⟩)] (fun x : Wq w V => #[Value.slice x.1.a x.1.n x.1.p]) (KB w.heap.size B3) (fun ys => ys.map (·.1.ws) = pcs [] ws) (fun pre => pre.map (·.1.ws) <+: pcs [] ws) (pcs [] ws).length W2 := fun lp J Jx W hW hA _ hY hJ0 =>
      part1_in 8 (by omega) lp B3 w V a n p ws hw h J Jx W hA hY (by have := hW.size; omega) (bel_bel bel2 bel2.size hW) ((hW.cell (p := ⟨B3, 0, none⟩) hBB.2.2.2).trans c3) hJ0
    have hs2 := bel2.size
    have HQ := hid hq
    clear b2 b3 c3 g1 g2 g3 sz2 h hw hq
    refine with_act (fun A hA => ?_)
    refine wpIn_rangeFunc_ownH rfl (by omega) (gf := 134) (lb := #[.pointer (some ⟨B3, 0, none⟩)]) (by rw [hA]; rfl) trivial (enters_of Tryz.func134 (by kernel_rfl) rfl) hseq KB.trans
      (KB.b (by omega) (by omega)) (Below.refl _ _) (fun _ => rfl)
      (fun pre W => Boxed W B0 49 (.slice none 0 0) ∧ Boxed W B1 26 (.int .i64 0) ∧ ∃ cs : List CD, ∃ v, Hid (mapR (fun y : Wq w V => chgv y.1.ws) pre = .ok (cs.map (·.c))) ∧ Boxed W B2 49 v ∧ W.ownsRow W2.heap.size 70 8 v pre.length (crow cs) ∧ Below w.heap.size w W ∧ W2.heap.size ≤ W.heap.size ∧ ∀ x ∈ cs, Vc W (fun k => W2.heap.size ≤ k ∧ v.ownBlock ≠ some k) x)
      (fun c pre W => c = .ret ∧ ∃ k : Nat, Hid (mapR (fun y : Wq w V => chgv y.1.ws) pre = .error k) ∧ Boxed W B0 49 (.slice none 0 0) ∧ Boxed W B1 26 (.int .i64 (k : Nat)) ∧ Below w.heap.size w W)
      (fun pre X Y row hs hg hr => by
        obtain ⟨h0, h1, cs, v, hf, hx, ho, hb, hsz, hv⟩ := hs
        exact ⟨boxed_non h0 hg hr, boxed_non h1 hg hr, cs, v, hf, boxed_non hx hg hr, own_non ho hg hr, hb.grown hg hb.size (fun k e => Nat.le_trans bel2.size (hr k e).1), Nat.le_trans hsz hg.size, fun x hx => (hv x hx).non hg hr⟩)
      (fun c pre X Y row hs hg hr => by
        obtain ⟨hc, k, hk, h0, h1, hb⟩ := hs
        exact ⟨hc, k, hk, boxed_non h0 hg hr, boxed_non h1 hg hr, hb.grown hg hb.size (fun k e => Nat.le_trans bel2.size (hr k e).1)⟩)
      (by
        obtain ⟨⟨v, hb, ho⟩, _, _⟩ := P2
        exact ⟨b0, b1, [], v, rfl, hb, ho, bel2, Nat.le_refl _, by simp⟩)
      (fun x a' W => a' = { tmps := (A.tmps.setIfInBounds 13 (.slice x.1.a x.1.n x.1.p)).setIfInBounds 5 (.slice x.1.a x.1.n x.1.p), defers := [] })
      (fun x a' _ X Y row hs hg hr => hs)
      ?assign ?body ?done ?stop
    case assign =>
      subst hA
      rintro lp pre x W K' hI hK'
      gi_wp2
      refine hK' _ _ (KeepsFrom.refl _ _) ⟨Below.refl _ _, rfl⟩ hI ?_
      simp only [List.setIfInBounds_toArray, List.set_cons_zero, List.set_cons_succ]
    case body =>
      subst hA
      rintro lp pre x a' W hlp _ hI ha hlt'
      simp only [List.setIfInBounds_toArray, List.set_cons_zero, List.set_cons_succ] at ha
      subst ha
      obtain ⟨h0, h1, cs, v, HFS, hX, ho, hWB, hWS, hvc⟩ := hI
      obtain ⟨hxv, hxg⟩ := x.2
      have hSN := mapR_snoc (fun y : Wq w V => chgv y.1.ws) pre x _ HFS.out
      obtain ⟨px, HPX⟩ : ∃ z, Hid (pre ++ [x] = z) := ⟨_, rfl⟩
      have HPL : Hid (px.length = pre.length + 1) := by show _ = _; rw [← HPX.out]; simp
      rw [HPX.out] at hSN
      rw [HPX.out]
      clear HPX
      generalize x.1 = xx at *
      obtain ⟨xa, xn, xp, xw⟩ := xx
      simp only at hxv hxg hSN ⊢
      have HSN := hid hSN
      have k1 := readChange_ V xa xn xp xw hxg W (hxv.on hWB) (HQ.out.kept hWB)
      obtain ⟨rc, HRC⟩ : ∃ z, Hid (chgv xw = z) := ⟨_, rfl⟩
      rw [HRC.out] at k1 HSN
      have H0 := hid h0
      have H1 := hid h1
      have HWB := hid hWB
      have HO := hid ho
      have HX := hid hX
      have HVC := hid hvc
      have hml := mapR_len _ _ _ HFS.out
      rw [List.length_map] at hml
      have hlt2 : pre.length < 3000000 := by omega
      clear hSN h0 h1 hWB HQ ho hX hvc hxv hxg HFS hlt'
      gi_wp2_with fail
      refine ⟨trivial, ?_⟩
      refine (CallsIn.inRound lp (callsIn_wide.2 k1)).mono ?_
      rintro e w1 ⟨hR, g1⟩
      have b0 : Boxed w1 B0 49 (.slice none 0 0) := (g1.block B0 H0.out.lt).trans H0.out
      have b1 : Boxed w1 B1 26 (.int .i64 0) := (g1.block B1 H1.out.lt).trans H1.out
      have b2 : Boxed w1 B2 49 v := (g1.block B2 HX.out.lt).trans HX.out
      cases rc with
      | error ek =>
        obtain ⟨rfl, hek⟩ := hR
        have HEE := hid (HSN.out.2 ek rfl)
        have i1 : ¬ (ek : Int) = 0 := by omega
        have i2 : ((ek : Int) == 0) = false := by simp; omega
        have i3 : ((ek : Int) != 0) = true := by simp; omega
        have gal : Below w1.heap.size w1 (w1.alloc (.cells cz.toArray 70)) := (Below.refl _ _).alloc (Nat.le_refl _) _
        obtain ⟨w2, HW2⟩ : ∃ z, Hid (w1.alloc (.cells cz.toArray 70) = z) := ⟨_, rfl⟩
        have HW2' : Hid (w1.alloc (.cells #[.int .i64 0, .int .i64 0, .int .i64 0, .slice none 0 0, .int .i64 0, .int .u64 0, .int .u64 0, .int .i64 0] 70) = w2) := HW2.out
        rw [HW2.out] at gal
        have c0b := (gal.block B0 b0.lt).trans b0
        have c1b := (gal.block B1 b1.lt).trans b1
        replace b0 : Boxed w2 B0 49 (.slice none 0 0) := c0b
        replace b1 : Boxed w2 B1 26 (.int .i64 0) := c1b
        have c0 := b0.cell
        have f0 := b0.frozen
        have c1 := (Boxed.other b1 (show B1 ≠ B0 by omega) (.slice none 0 0)).cell
        have f1 := (Boxed.other b1 (show B1 ≠ B0 by omega) (.slice none 0 0)).frozen
        have HB0' : Hid (Boxed ((w2.setCell ⟨B0, 0, none⟩ (.slice none 0 0)).setCell ⟨B1, 0, none⟩ (.int .i64 ek)) B0 49 (.slice none 0 0)) := (b0.set _).other (by omega) _
        have HB1' : Hid (Boxed ((w2.setCell ⟨B0, 0, none⟩ (.slice none 0 0)).setCell ⟨B1, 0, none⟩ (.int .i64 ek)) B1 26 (.int .i64 ek)) := (b1.other (by omega) _).set _
        have HKF : Hid (KeepsFrom W2.heap.size W ((w2.setCell ⟨B0, 0, none⟩ (.slice none 0 0)).setCell ⟨B1, 0, none⟩ (.int .i64 ek))) := (((keeps_be g1).trans (keeps_be gal)).trans ((KeepsOthers.setCell w2 ⟨B0, 0, none⟩ (.slice none 0 0)).trans (KeepsOthers.setCell _ ⟨B1, 0, none⟩ (.int .i64 ek)))).from _
        have HBL : Hid (Below w.heap.size w ((w2.setCell ⟨B0, 0, none⟩ (.slice none 0 0)).setCell ⟨B1, 0, none⟩ (.int .i64 ek))) := ((bel_bel (bel_bel HWB.out HWB.out.size g1) (bel_bel HWB.out HWB.out.size g1).size gal).setCell (p := ⟨B0, 0, none⟩) (by show w.heap.size ≤ B0; omega) _).setCell (p := ⟨B1, 0, none⟩) (by show w.heap.size ≤ B1; omega) _
        unfold cdv cd0 chg0
        rw [← HW2'.out] at c0 f0 c1 f1 HB0' HB1' HKF HBL
        clear k1 b0 b1 b2 c0b c1b g1 gal HSN hek HW2 HW2'
        gi_wp2
        exact ⟨HKF.out, rfl, ek, HEE.out, HB0'.out, HB1'.out, HBL.out⟩
      | ok c =>
        obtain ⟨x, rfl, rfl, hvx⟩ := hR
        have HEE := hid (HSN.out.1 _ rfl)
        have ho1 := own_bel HO.out g1
        have hbl1 := bel_bel HWB.out HWB.out.size g1
        have hsz1 : W2.heap.size ≤ w1.heap.size := Nat.le_trans hWS g1.size
        obtain ⟨av, cv, rfl, hvc, hvm, hvn, hva⟩ := own_slice ho1
        have HRX : Hid (crow (cs ++ [x]) = crow cs ++ cdc x) := by show _ = _; simp [crow]
        obtain ⟨m, Hm⟩ : ∃ m, Hid (pre.length = m) := ⟨_, rfl⟩
        rw [Hm.out] at ho1 hvc hlt2 HPL b2
        obtain ⟨L, HL⟩ : ∃ z, Hid (crow cs = z) := ⟨_, rfl⟩
        rw [HL.out] at ho1 HRX
        obtain ⟨i, hi, hz0, hz1, hz2⟩ := info_parts infoCh
        obtain ⟨CX, HCX⟩ : ∃ z : Array Value, Hid (#[.int .i64 x.c.kd, .int .i64 x.c.lk, .int .i64 x.c.sd, .slice x.a x.c.key.length x.p, .int .i64 x.c.f, .int .u64 x.c.h, .int .u64 x.c.l, .int .i64 x.c.b] = z) := ⟨_, rfl⟩
        have hcv : Cv (w1.alloc (.cells #[.int .i64 x.c.kd, .int .i64 x.c.lk, .int .i64 x.c.sd, .slice x.a x.c.key.length x.p, .int .i64 x.c.f, .int .u64 x.c.h, .int .u64 x.c.l, .int .i64 x.c.b] 70)) w1.heap.size x := Cv.new w1 x
        have gal : Below w1.heap.size w1 (w1.alloc (.cells #[.int .i64 x.c.kd, .int .i64 x.c.lk, .int .i64 x.c.sd, .slice x.a x.c.key.length x.p, .int .i64 x.c.f, .int .u64 x.c.h, .int .u64 x.c.l, .int .i64 x.c.b] 70)) := (Below.refl _ _).alloc (Nat.le_refl _) _
        have HCV := hid hcv
        have HGA := hid gal
        have HO1 := hid ho1
        have HB1 := hid hbl1
        have HVX := hid hvx
        have G1 := hid g1
        have HB2 := hid b2
        unfold cdv
        clear k1 HSN hcv gal ho1 hbl1 hvx b0 b1 hml hva g1
        gi_upto_region 9 with fail
        obtain ⟨w2, HW2⟩ : ∃ z, Hid (w1.alloc (.cells #[.int .i64 x.c.kd, .int .i64 x.c.lk, .int .i64 x.c.sd, .slice x.a x.c.key.length x.p, .int .i64 x.c.f, .int .u64 x.c.h, .int .u64 x.c.l, .int .i64 x.c.b] 70) = z) := ⟨_, rfl⟩
        obtain ⟨cg, HCG⟩ : ∃ z, Hid (w1.heap.size = z) := ⟨_, rfl⟩
        rw [HW2.out] at HCV HGA ⊢
        rw [HCG.out] at HCV ⊢
        have v0 := HCV.out.yx.cell 0
        have v1 := HCV.out.yx.cell 1
        have v2 := HCV.out.yx.cell 2
        have v3 := HCV.out.yx.cell 3
        have v4 := HCV.out.yx.cell 4
        have v5 := HCV.out.yx.cell 5
        have v6 := HCV.out.yx.cell 6
        have v7 := HCV.out.yx.cell 7
        simp only [cdc, List.getElem?_cons_succ, List.getElem?_cons_zero] at v0 v1 v2 v3 v4 v5 v6 v7
        have b22 : Boxed w2 B2 49 (.slice av m cv) := (HGA.out.block B2 HB2.out.lt).trans HB2.out
        have c3 := b22.cell
        have ho22 := own_bel HO1.out HGA.out
        have hbl2 := bel_bel HB1.out HB1.out.size HGA.out
        have hsz2 : W2.heap.size ≤ w2.heap.size := Nat.le_trans hsz1 HGA.out.size
        have HV2 := hid (HVX.out.on2 HGA.out)
        obtain ⟨n8, HN8⟩ : ∃ z, Hid (x.c.key.length = z) := ⟨_, rfl⟩
        obtain ⟨XL, HXL⟩ : ∃ z : List Value, Hid ([.int .i64 x.c.kd, .int .i64 x.c.lk, .int .i64 x.c.sd, .slice x.a x.c.key.length x.p, .int .i64 x.c.f, .int .u64 x.c.h, .int .u64 x.c.l, .int .i64 x.c.b] = z) := ⟨_, rfl⟩
        have hrow : (w2.alloc (.cells #[.int .i64 x.c.kd, .int .i64 x.c.lk, .int .i64 x.c.sd, .slice x.a x.c.key.length x.p, .int .i64 x.c.f, .int .u64 x.c.h, .int .u64 x.c.l, .int .i64 x.c.b] 70)).heap[w2.heap.size]? = some (.cells #[.int .i64 x.c.kd, .int .i64 x.c.lk, .int .i64 x.c.sd, .slice x.a x.c.key.length x.p, .int .i64 x.c.f, .int .u64 x.c.h, .int .u64 x.c.l, .int .i64 x.c.b] 70 (0, 0)) := heap_alloc_new w2 _
        have ho2 : (w2.alloc (.cells #[.int .i64 x.c.kd, .int .i64 x.c.lk, .int .i64 x.c.sd, .slice x.a x.c.key.length x.p, .int .i64 x.c.f, .int .u64 x.c.h, .int .u64 x.c.l, .int .i64 x.c.b] 70)).ownsRow W2.heap.size 70 8 (.slice av m cv) m L := own_bel ho22 ((Below.refl _ _).alloc (Nat.le_refl _) _)
        have hwsz : W2.heap.size ≤ (w2.alloc (.cells #[.int .i64 x.c.kd, .int .i64 x.c.lk, .int .i64 x.c.sd, .slice x.a x.c.key.length x.p, .int .i64 x.c.f, .int .u64 x.c.h, .int .u64 x.c.l, .int .i64 x.c.b] 70)).heap.size := by rw [World.size_alloc]; omega
        have HR1 := hid hrow
        have HO2 := hid ho2
        have HWS2 := hid hwsz
        have HO22 := hid ho22
        have HBX := hid b22
        have HBEL := hid hbl2
        have HSZ2 := hid hsz2
        clear hrow ho2 hwsz ho22 b22 hbl2 hsz2 b2
        gi_wp2_with (gi_at_builtin; refine wpListIn_append_own_at _ rfl _ _ 49 rfl W2.heap.size 70 i _ 8 80 Tryz.underlying49 hi hz0 hz1 hz2 rfl (by decide) (.slice av m cv) m L rfl (by exact HO2.out) ⟨w2.heap.size, 0, none⟩ 1 1 [.int .i64 x.c.kd, .int .i64 x.c.lk, .int .i64 x.c.sd, .slice x.a x.c.key.length x.p, .int .i64 x.c.f, .int .u64 x.c.h, .int .u64 x.c.l, .int .i64 x.c.b] rfl rfl ?c1 ?c2 (by unfold maxLen at *; omega) (by omega) (by exact HWS2.out) ?_)
        case c1 =>
          intro j u hj
          rw [Addr.add_lit, Nat.zero_add, cell_of_row _ _ j _ _ (0, 0) HR1.out]
          simpa using hj
        case c2 =>
          intro u hu
          simp at hu
          rcases hu with rfl | rfl | rfl | rfl | rfl | rfl | rfl | rfl <;> rfl
        intro v' w3 hown hg hv hob
        obtain ⟨a7, c7, rfl, _⟩ := own_slice hown
        obtain ⟨h1, h2, h3, h4, h5⟩ := Gx.push HBX.out HO22.out HBEL.out HSZ2.out (by omega) (by omega) (by omega) hown hg
        obtain ⟨p1, p2, p3, p4, p5⟩ := push2 HBX.out HO22.out HBEL.out HSZ2.out (by omega) (by omega) (by omega) hown hg
        have hlw : ∀ k, (Value.slice av m cv).ownBlock = some k → k < W.heap.size := fun k ek => by
          have := HO.out
          rw [Hm.out] at this
          exact (this.lt k ek).2
        have hW12 : W.heap.size ≤ w1.heap.size := G1.out.size
        have hW22 : w1.heap.size ≤ w2.heap.size := HGA.out.size
        have hob2 : ∀ k, k < w2.heap.size → (Value.slice av m cv).ownBlock ≠ some k → (Value.slice a7 (m + 1) c7).ownBlock ≠ some k := fun k hk hne e => by
          rcases hob with h | h
          · exact hne (by rw [← h]; exact e)
          · rw [h] at e
            have := Option.some.inj e
            omega
        have HVN : Hid (∀ y ∈ cs ++ [x], Vc (w3.setCell ⟨B2, 0, none⟩ (.slice a7 (m + 1) c7)) (fun k => W2.heap.size ≤ k ∧ (Value.slice a7 (m + 1) c7).ownBlock ≠ some k) y) := fun y hy => by
          have key : Vc w2 (fun k => W2.heap.size ≤ k ∧ (Value.slice av m cv).ownBlock ≠ some k) y := by
            rcases List.mem_append.1 hy with hy | hy
            · have h1 := HVC.out y hy
              rw [Hm.out] at h1
              exact (h1.on2 G1.out).on2 HGA.out
            · rw [List.mem_singleton.1 hy]
              exact HV2.out.wide fun k hk hk2 => ⟨Nat.le_trans hWS hk2, fun e => by have := hlw k e; omega⟩
          have key2 := key.wide (V' := fun k => (W2.heap.size ≤ k ∧ (Value.slice av m cv).ownBlock ≠ some k) ∧ k < w2.heap.size) fun k hk hk2 => ⟨hk2, hk⟩
          exact (key2.step fun k hk hk2 => p3 k hk (by have := hk2.1.1; omega) hk2.1.2).wide fun k _ hk2 => ⟨hk2.1.1, hob2 k hk2.2 hk2.1.2⟩
        have hkp : ∀ k, k < W2.heap.size → k ≠ B2 → (w3.setCell ⟨B2, 0, none⟩ (.slice a7 (m + 1) c7)).heap[k]? = W.heap[k]? := fun k hk hne => (h3 k hk hne).trans ((HGA.out.block k (by omega)).trans (G1.out.block k (by omega)))
        have HFO : Hid ((w3.setCell ⟨B2, 0, none⟩ (.slice a7 (m + 1) c7)).ownsRow W2.heap.size 70 8 (.slice a7 (m + 1) c7) px.length (crow (cs ++ [x]))) := by
          show World.ownsRow _ _ _ _ _ _ _
          rw [HPL.out, HRX.out]
          exact p2
        have HKF := hid ((((keeps_be G1.out).trans (keeps_be HGA.out)).trans h2).from W2.heap.size)
        have HKB : Hid (KB w.heap.size B3 W (w3.setCell ⟨B2, 0, none⟩ (.slice a7 (m + 1) c7))) := ⟨⟨p4.os.trans HWB.out.os.symm, p4.tape.trans HWB.out.tape.symm, p4.output.trans HWB.out.output.symm, Nat.le_trans (Nat.le_trans hW12 hW22) (by have := h2.size; exact this), fun k hk => hkp k (by omega) (by omega)⟩, hkp B3 (by omega) (by omega)⟩
        have HB0' : Hid (Boxed (w3.setCell ⟨B2, 0, none⟩ (.slice a7 (m + 1) c7)) B0 49 (.slice none 0 0)) := (hkp B0 (by omega) (by omega)).trans H0.out
        have HB1' : Hid (Boxed (w3.setCell ⟨B2, 0, none⟩ (.slice a7 (m + 1) c7)) B1 26 (.int .i64 0)) := (hkp B1 (by omega) (by omega)).trans H1.out
        have HP1 := hid p1
        have HP4 := hid p4
        have HP5 := hid p5
        have HEE2 : Hid (mapR (fun y : Wq w V => chgv y.1.ws) px = .ok ((cs ++ [x]).map (·.c))) := by
          show _ = _
          rw [HEE.out, List.map_append]
          rfl
        clear h1 h2 h3 hown hg hv c3 hkp p1 p2 p3 p4 p5 hob hob2 hlw v0 v1 v2 v3 v4 v5 v6 v7
        gi_wp2
        exact ⟨HKF.out, HKB.out, HB0'.out, HB1'.out, cs ++ [x], _, HEE2.out, HP1.out, HFO.out, HP4.out, HP5.out, HVN.out⟩
    case done =>
      subst hA
      rintro D ys W hD hys ⟨h0, h1, cs, v, HFS, b3, ho, bel, hsz, hvc⟩ hK'
      have hfl : chsv ws = .ok (cs.map (·.c)) := by rw [HRR.out, ← hys, mapR_map]; exact HFS.out
      have hml := mapR_len _ _ _ HFS.out
      rw [List.length_map] at hml
      rw [← hml] at ho
      generalize hK : cs.length = K at *
      obtain ⟨av, cv, rfl, hvc2, hvm, hvn, hva⟩ := own_slice ho
      have c3 := b3.cell
      have c0 := h0.cell
      have f0 := h0.frozen
      have d1 := Boxed.other h1 (show B1 ≠ B0 by omega) (.slice av K cv)
      have c1 := d1.cell
      have f1 := d1.frozen
      have HE0 : Hid (Boxed ((W.setCell ⟨B0, 0, none⟩ (.slice av K cv)).setCell ⟨B1, 0, none⟩ (.int .i64 0)) B0 49 (.slice av K cv)) := (h0.set _).other (by omega) _
      have HE1 : Hid (Boxed ((W.setCell ⟨B0, 0, none⟩ (.slice av K cv)).setCell ⟨B1, 0, none⟩ (.int .i64 0)) B1 26 (.int .i64 0)) := (h1.other (by omega) _).set _
      have HBL : Hid (Below w.heap.size w ((W.setCell ⟨B0, 0, none⟩ (.slice av K cv)).setCell ⟨B1, 0, none⟩ (.int .i64 0))) := (bel.setCell (p := ⟨B0, 0, none⟩) (by show w.heap.size ≤ B0; omega) _).setCell (p := ⟨B1, 0, none⟩) (by show w.heap.size ≤ B1; omega) _
      have hsame : ∀ k, W2.heap.size ≤ k → ((W.setCell ⟨B0, 0, none⟩ (.slice av K cv)).setCell ⟨B1, 0, none⟩ (.int .i64 0)).heap[k]? = W.heap[k]? := fun k hk => (Below.heap_setCell _ _ _ _ (by show k ≠ B1; omega)).trans (Below.heap_setCell _ _ _ _ (by show k ≠ B0; omega))
      have HOO : Hid (((W.setCell ⟨B0, 0, none⟩ (.slice av K cv)).setCell ⟨B1, 0, none⟩ (.int .i64 0)).ownsRow W2.heap.size 70 8 (.slice av K cv) K (crow cs)) := own_at' ho (fun g eg => hsame g (ho.lt g eg).1)
      have HVV : Hid (∀ x ∈ cs, Vc ((W.setCell ⟨B0, 0, none⟩ (.slice av K cv)).setCell ⟨B1, 0, none⟩ (.int .i64 0)) (fun k => W2.heap.size ≤ k ∧ (Value.slice av K cv).ownBlock ≠ some k) x) := fun x hx => (hvc x hx).step fun k hk hV => hsame k hV.1
      have HD3 : Hid (((W.setCell ⟨B0, 0, none⟩ (.slice av K cv)).setCell ⟨B1, 0, none⟩ (.int .i64 0)).heap[D]? = some (.deferred (some []))) := (hsame D (by omega)).trans hK'
      have HKL := hid hK
      clear ho b3 bel h0 h1 d1 hvc hsame hml hK HFS
      gi_wp2
      refine ⟨by simp, .inl ⟨_, _, rfl, run_takeDeferred HD3.out, ?_⟩⟩
      have BF := HBL.out.trans (belowK_b (w := w) (Nat.le_refl _) _ D _ (.deferred none) (by omega) HD3.out rfl rfl)
      have hgD := grownBy_putObj' ((W.setCell ⟨B0, 0, none⟩ (.slice av K cv)).setCell ⟨B1, 0, none⟩ (.int .i64 0)) D (.deferred none)
      have hrD : ∀ r, some D = some r → 0 ≤ r ∧ ∃ o : Obj, ((W.setCell ⟨B0, 0, none⟩ (.slice av K cv)).setCell ⟨B1, 0, none⟩ (.int .i64 0)).heap[r]? = some o ∧ o.isCells = false := fun r er => by cases er; exact ⟨Nat.zero_le _, _, HD3.out, rfl⟩
      have r0 := (boxed_non HE0.out hgD hrD).cell
      have r1 := (boxed_non HE1.out hgD hrD).cell
      refine ⟨.tuple #[.slice av K cv, .int .i64 0], ?_, ?_, ?_⟩
      · simp [results, Tryz.f91, go_sem, r0, r1]
      · unfold RgV
        try rw [hfl]
        refine ⟨av, cv, by rw [List.length_map, HKL.out], ?_⟩
        rw [List.length_map, HKL.out]
        exact cs_own (own_non HOO.out hgD hrD) HKL.out (by omega) (fun x hx => (HVV.out x hx).non hgD hrD) (fun k hk => by have := hk.1; omega)
      · first
          | exact BF
          | (rw [← hB0]; exact BF)
          | (have e := hB0; subst e; exact BF)
    case stop =>
      subst hA
      rintro D cc pre W hD hpre ⟨rfl, k, HKE, h0, h1, bel⟩ hK'
      obtain ⟨post, hpost⟩ := hpre
      have hme : mapR chgv (pre.map (·.1.ws)) = .error k := by rw [mapR_map]; exact HKE.out
      have hfl : chsv ws = .error k := by
        rw [HRR.out, ← hpost]
        exact mapR_pre _ _ post hme
      have hk0 : k ≠ 0 := by
        obtain ⟨z, _, hz⟩ := mapR_err _ _ hme
        exact chgv_err hz
      have BF := bel.trans (belowK_b (w := w) (Nat.le_refl _) _ D _ (.deferred none) (by omega) hK' rfl rfl)
      have r0 := (boxed_non (B := 0) h0 (grownBy_putObj' _ D (.deferred none)) (fun r er => by cases er; exact ⟨Nat.zero_le _, _, hK', rfl⟩)).cell
      have r1 := (boxed_non (B := 0) h1 (grownBy_putObj' _ D (.deferred none)) (fun r er => by cases er; exact ⟨Nat.zero_le _, _, hK', rfl⟩)).cell
      gi_wp2
      refine ⟨by simp, .inl ⟨_, _, rfl, run_takeDeferred hK', ?_⟩⟩
      refine ⟨.tuple #[.slice none 0 0, .int .i64 (k : Nat)], ?_, ?_, ?_⟩
      · simp [results, Tryz.f91, go_sem, r0, r1]
      · unfold RgV
        try rw [hfl]
        exact ⟨rfl, hk0⟩
      · first
          | exact BF
          | (rw [← hB0]; exact BF)
end Go.Proofs.YtkeogggeefnoeaaGreatDoor
namespace Go.Proofs.YtkeogggeefnoeaaGreatDoor
set_option linter.unusedSimpArgs false
open Go.RowKit Go.Shelf
set_option linter.unusedVariables false
set_option maxRecDepth 100000

/-! The document's equalities, of what reads alike. -/
theorem Ls.cells {w W : World} {V : Nat → Prop} {a : Option Addr} {n sz : Nat} {f : Nat → List Value} (h : Ls w V a n sz f) (hb : Below w.heap.size w W) : n = 0 ∨ ∃ b off, a = some ⟨b, off, none⟩ ∧ ∀ i, i < n → ∀ j v, (f i)[j]? = some v → W.cell? ⟨b, off + i * sz + j, none⟩ = some v := by
  rcases h with h0 | ⟨b, off, e, hV, hl, hc⟩
  · exact .inl h0
  · exact .inr ⟨b, off, e, fun i hi j v hv => (hb.cell (World.block_lt_of_cell? w _ (hc i hi j v hv))).trans (hc i hi j v hv)⟩
theorem Vc.bsE {w W : World} {V : Nat → Prop} {x : CD} (h : Vc w V x) (hb : Below w.heap.size w W) : Bs W x.a x.c.key.length (ic x.c.key) ∧ x.c.key.length ≤ maxLen := ⟨(Vs.bs h).below hb, Nat.le_trans (Vs.nc h) (Vs.cm h)⟩
set_option maxHeartbeats 2000000 in
theorem sameChangeL_ (kd lk sd f h l b : Int) (a a' : Option Addr) (m p p' : Nat) (k : List Int) (w : World) (hx : Bs w a m k) (hy : Bs w a' m k) (hm : m ≤ maxLen) :
    Calls Tryz.prog 71 #[.agg #[.int .i64 kd, .int .i64 lk, .int .i64 sd, .slice a m p, .int .i64 f, .int .u64 h, .int .u64 l, .int .i64 b], .agg #[.int .i64 kd, .int .i64 lk, .int .i64 sd, .slice a' m p', .int .i64 f, .int .u64 h, .int .u64 l, .int .i64 b]] w fun e w' => e = .returned (.bool true) ∧ Below w.heap.size w w' := by
  have B0 : Below w.heap.size w ((w.alloc (.cells #[.int .i64 kd, .int .i64 lk, .int .i64 sd, .slice a m p, .int .i64 f, .int .u64 h, .int .u64 l, .int .i64 b] 70)).alloc (.cells #[.int .i64 kd, .int .i64 lk, .int .i64 sd, .slice a' m p', .int .i64 f, .int .u64 h, .int .u64 l, .int .i64 b] 70)) := ((Below.refl _ _).alloc (Nat.le_refl _) _).alloc (by simp) _
  have p0 : Yx ((w.alloc (.cells #[.int .i64 kd, .int .i64 lk, .int .i64 sd, .slice a m p, .int .i64 f, .int .u64 h, .int .u64 l, .int .i64 b] 70)).alloc (.cells #[.int .i64 kd, .int .i64 lk, .int .i64 sd, .slice a' m p', .int .i64 f, .int .u64 h, .int .u64 l, .int .i64 b] 70)) w.heap.size 70 [.int .i64 kd, .int .i64 lk, .int .i64 sd, .slice a m p, .int .i64 f, .int .u64 h, .int .u64 l, .int .i64 b] := (Yx.new w 70 [.int .i64 kd, .int .i64 lk, .int .i64 sd, .slice a m p, .int .i64 f, .int .u64 h, .int .u64 l, .int .i64 b]).on ((Below.refl _ _).alloc (Nat.le_refl _) _)
  have p1 := Yx.new (w.alloc (.cells #[.int .i64 kd, .int .i64 lk, .int .i64 sd, .slice a m p, .int .i64 f, .int .u64 h, .int .u64 l, .int .i64 b] 70)) 70 [.int .i64 kd, .int .i64 lk, .int .i64 sd, .slice a' m p', .int .i64 f, .int .u64 h, .int .u64 l, .int .i64 b]
  rw [World.size_alloc] at p1
  have ks := same_d a a' m p m p' k k _ (hx.below B0) (hy.below B0) hm hm
  rw [sameB_self] at ks
  have HB := hid B0
  have HP0 := hid p0
  have HP1 := hid p1
  have a1 := p0.cell 3
  have b1 := p1.cell 3
  simp only [List.getElem?_cons_succ, List.getElem?_cons_zero] at a1 b1
  clear B0 p0 p1 hx hy
  go_enter Tryz.func71, Tryz.ntmps71
  go_wp2_with fail
  clear a1 b1
  refine ks.mono ?_
  rintro e w1 ⟨rfl, d1⟩
  have g1 := d1.below
  have HB1 := hid (bel_bel HB.out HB.out.size g1)
  have q0 : Yx w1 w.heap.size 70 [.int .i64 kd, .int .i64 lk, .int .i64 sd, .slice a m p, .int .i64 f, .int .u64 h, .int .u64 l, .int .i64 b] := HP0.out.on g1
  have q1 : Yx w1 (w.heap.size + 1) 70 [.int .i64 kd, .int .i64 lk, .int .i64 sd, .slice a' m p', .int .i64 f, .int .u64 h, .int .u64 l, .int .i64 b] := HP1.out.on g1
  have a4 := q0.cell 4
  have a5 := q0.cell 5
  have a6 := q0.cell 6
  have a7 := q0.cell 7
  have b4 := q1.cell 4
  have b5 := q1.cell 5
  have b6 := q1.cell 6
  have b7 := q1.cell 7
  simp only [List.getElem?_cons_succ, List.getElem?_cons_zero] at a4 a5 a6 a7 b4 b5 b6 b7
  have kt := samePrefix_ f h l b f h l b w1
  have hsp : spx f h l b f h l b = true := by unfold spx; simp
  rw [hsp] at kt
  have HP0 := hid q0
  have HP1 := hid q1
  clear d1 g1 q0 q1 ks HB hsp
  go_wp2_with fail
  clear a4 a5 a6 a7 b4 b5 b6 b7
  refine kt.mono ?_
  rintro e w2 ⟨rfl, g2⟩
  have HB2 := hid (bel_bel HB1.out HB1.out.size g2)
  have q0 : Yx w2 w.heap.size 70 [.int .i64 kd, .int .i64 lk, .int .i64 sd, .slice a m p, .int .i64 f, .int .u64 h, .int .u64 l, .int .i64 b] := HP0.out.on g2
  have q1 : Yx w2 (w.heap.size + 1) 70 [.int .i64 kd, .int .i64 lk, .int .i64 sd, .slice a' m p', .int .i64 f, .int .u64 h, .int .u64 l, .int .i64 b] := HP1.out.on g2
  have a0 := q0.cell 0
  have a1 := q0.cell 1
  have a2 := q0.cell 2
  have b0 := q1.cell 0
  have b1 := q1.cell 1
  have b2 := q1.cell 2
  simp only [List.getElem?_cons_succ, List.getElem?_cons_zero] at a0 a1 a2 b0 b1 b2
  clear kt g2 HP0 HP1 HB1 q0 q1
  go_wp2_with fail
  go_ret
  exact ⟨rfl, HB2.out⟩
set_option maxHeartbeats 2000000 in
theorem sameBools_ {V V' : Nat → Prop} (a a' : Option Addr) (n p p' : Nat) (ks : List Bool) (w : World) (h : Kps w V a n ks) (h' : Kps w V' a' n ks) (hn : n ≤ 140737488355328) :
    Calls Tryz.prog 58 #[.slice a n p, .slice a' n p'] w fun e w' => e = .returned (.bool true) ∧ Below w.heap.size w w' := by
  have hmm : ((n : Int) != (n : Int)) = false := by simp
  have H1 := hid h
  have H2 := hid h'
  clear h h'
  go_enter Tryz.func58, Tryz.ntmps58
  go_wp2_with fail
  go_loopw [5] (fun i wr => ∃ j : Nat, j ≤ n ∧ i = .int .i64 j ∧ Hid (Bw w wr)) (fun i _ => n - (intOf i).toNat)
  case atStart => exact ⟨0, by omega, rfl, Below.refl _ _⟩
  case round =>
    obtain ⟨j, hj, rfl, HB⟩ := hrel
    by_cases hlt : j < n
    · have hjI : (j : Int) < n := by omega
      obtain ⟨b1, o1, rfl, q1⟩ : ∃ b off, a = some ⟨b, off, none⟩ ∧ _ := (H1.out.2.cells HB.out).resolve_left (by omega)
      obtain ⟨b2, o2, rfl, q2⟩ : ∃ b off, a' = some ⟨b, off, none⟩ ∧ _ := (H2.out.2.cells HB.out).resolve_left (by omega)
      have x1 := q1 j hlt 0 _ rfl
      have x2 := q2 j hlt 0 _ rfl
      rw [Nat.mul_one, Nat.add_zero] at x1 x2
      generalize ks.getD j false = f at *
      have tf : (f != f) = false := by simp
      clear q1 q2
      go_wp2_with fail
      go_quiet (fail)
      go_wp2_with fail
      go_roundw
      case rel => exact ⟨j + 1, by omega, by go_num, Below.trans HB.out ⟨rfl, rfl, rfl, Nat.le_refl _, fun _ _ => rfl⟩⟩
      case measure => simp [intOf]; omega
    · have hjI : ¬ (j : Int) < n := by omega
      go_wp2_with fail
      go_ret
      exact ⟨rfl, HB.out⟩
set_option maxHeartbeats 2000000 in
theorem sameFaults_ {V V' : Nat → Prop} (a a' : Option Addr) (n p p' : Nat) (fs : List (Int × Int)) (w : World) (h : Fts w V a n fs) (h' : Fts w V' a' n fs) (hn : n ≤ 140737488355328) :
    Calls Tryz.prog 57 #[.slice a n p, .slice a' n p'] w fun e w' => e = .returned (.bool true) ∧ Below w.heap.size w w' := by
  have hmm : ((n : Int) != (n : Int)) = false := by simp
  have H1 := hid h
  have H2 := hid h'
  clear h h'
  go_enter Tryz.func57, Tryz.ntmps57
  go_wp2_with fail
  go_loopw [5] (fun i wr => ∃ j : Nat, j ≤ n ∧ i = .int .i64 j ∧ Hid (Bw w wr)) (fun i _ => n - (intOf i).toNat)
  case atStart => exact ⟨0, by omega, rfl, Below.refl _ _⟩
  case round =>
    obtain ⟨j, hj, rfl, HB⟩ := hrel
    by_cases hlt : j < n
    · have hjI : (j : Int) < n := by omega
      obtain ⟨b1, o1, rfl, q1⟩ : ∃ b off, a = some ⟨b, off, none⟩ ∧ _ := (H1.out.2.cells HB.out).resolve_left (by omega)
      obtain ⟨b2, o2, rfl, q2⟩ : ∃ b off, a' = some ⟨b, off, none⟩ ∧ _ := (H2.out.2.cells HB.out).resolve_left (by omega)
      have x1 := q1 j hlt 0 _ rfl
      have y1 := q1 j hlt 1 _ rfl
      have x2 := q2 j hlt 0 _ rfl
      have y2 := q2 j hlt 1 _ rfl
      rw [Nat.add_zero] at x1 x2
      generalize fs.getD j (0, 0) = f at *
      obtain ⟨A, K⟩ := f
      simp only at *
      have tf : (A != A) = false := by simp
      have tk : (K != K) = false := by simp
      clear q1 q2
      go_wp2_with fail
      go_quiet (fail)
      go_wp2_with fail
      go_roundw
      case rel => exact ⟨j + 1, by omega, by go_num, Below.trans HB.out ⟨rfl, rfl, rfl, Nat.le_refl _, fun _ _ => rfl⟩⟩
      case measure => simp [intOf]; omega
    · have hjI : ¬ (j : Int) < n := by omega
      go_wp2_with fail
      go_ret
      exact ⟨rfl, HB.out⟩
set_option maxHeartbeats 2000000 in
theorem sameChanges_ {V V' : Nat → Prop} (a a' : Option Addr) (n p p' : Nat) (l : List Chg) (w : World) (h : Cs w V a n l) (h' : Cs w V' a' n l) (hn : n ≤ 140737488355328) :
    Calls Tryz.prog 56 #[.slice a n p, .slice a' n p'] w fun e w' => e = .returned (.bool true) ∧ Below w.heap.size w w' := by
  have hmm : ((n : Int) != (n : Int)) = false := by simp
  obtain ⟨xs, h1, h2, h3, h4⟩ := h
  obtain ⟨ys, h5, h6, h7, h8⟩ := h'
  have HK : Hid (∀ j, j < n → ∀ wx, Below w.heap.size w wx → Calls Tryz.prog 71 #[.agg (cdc (xs.getD j cd0)).toArray, .agg (cdc (ys.getD j cd0)).toArray] wx fun e w' => e = .returned (.bool true) ∧ Below wx.heap.size wx w') := fun j hj wx hb => by
    have e1 : xs.getD j cd0 ∈ xs := by simp [List.getD, show j < xs.length by omega]
    have e2 : ys.getD j cd0 ∈ ys := by simp [List.getD, show j < ys.length by omega]
    have e3 : (xs.getD j cd0).c = (ys.getD j cd0).c := by
      have := congrArg (fun z => z.getD j (chg0 0)) (h1.trans h5.symm)
      simpa [List.getD, show j < xs.length by omega, show j < ys.length by omega] using this
    have v1 := h4 _ e1
    have v2 := h8 _ e2
    generalize xs.getD j cd0 = x at *
    generalize ys.getD j cd0 = y at *
    obtain ⟨c, a1, p1⟩ := x
    obtain ⟨c', a2, p2⟩ := y
    obtain rfl : c = c' := e3
    exact sameChangeL_ c.kd c.lk c.sd c.f c.h c.l c.b a1 a2 c.key.length p1 p2 (ic c.key) wx (v1.bsE hb).1 (v2.bsE hb).1 (v1.bsE hb).2
  have HL1 := hid h3
  have HL2 := hid h7
  clear h1 h2 h3 h4 h5 h6 h7 h8
  go_enter Tryz.func56, Tryz.ntmps56
  go_wp2_with fail
  go_loopw [5] (fun i wr => ∃ j : Nat, j ≤ n ∧ i = .int .i64 j ∧ Hid (Bw w wr)) (fun i _ => n - (intOf i).toNat)
  case atStart => exact ⟨0, by omega, rfl, Below.refl _ _⟩
  case round =>
    obtain ⟨j, hj, rfl, HB⟩ := hrel
    by_cases hlt : j < n
    · have hjI : (j : Int) < n := by omega
      obtain ⟨b1, o1, rfl, q1⟩ : ∃ b off, a = some ⟨b, off, none⟩ ∧ _ := (HL1.out.cells HB.out).resolve_left (by omega)
      obtain ⟨b2, o2, rfl, q2⟩ : ∃ b off, a' = some ⟨b, off, none⟩ ∧ _ := (HL2.out.cells HB.out).resolve_left (by omega)
      have ks := fun wx (hb : Bw wr wx) => HK.out j hlt wx (bel_bel HB.out HB.out.size hb)
      have c0 := q1 j hlt 0 _ rfl
      have d0 := q2 j hlt 0 _ rfl
      have c1 := q1 j hlt 1 _ rfl
      have d1 := q2 j hlt 1 _ rfl
      have c2 := q1 j hlt 2 _ rfl
      have d2 := q2 j hlt 2 _ rfl
      have c3 := q1 j hlt 3 _ rfl
      have d3 := q2 j hlt 3 _ rfl
      have c4 := q1 j hlt 4 _ rfl
      have d4 := q2 j hlt 4 _ rfl
      have c5 := q1 j hlt 5 _ rfl
      have d5 := q2 j hlt 5 _ rfl
      have c6 := q1 j hlt 6 _ rfl
      have d6 := q2 j hlt 6 _ rfl
      have c7 := q1 j hlt 7 _ rfl
      have d7 := q2 j hlt 7 _ rfl
      obtain ⟨x, HX⟩ : ∃ z, Hid (xs.getD j cd0 = z) := ⟨_, rfl⟩
      obtain ⟨y, HY⟩ : ∃ z, Hid (ys.getD j cd0 = z) := ⟨_, rfl⟩
      rw [HX.out, HY.out] at ks
      rw [HX.out] at c0 c1 c2 c3 c4 c5 c6 c7
      rw [HY.out] at d0 d1 d2 d3 d4 d5 d6 d7
      obtain ⟨⟨xkd, xlk, xsd, xkey, xf, xh, xl, xb⟩, xa, xp⟩ := x
      obtain ⟨⟨ykd, ylk, ysd, ykey, yf, yh, yl, yb⟩, ya, yp⟩ := y
      simp only [cdc] at c0 c1 c2 c3 c4 c5 c6 c7 d0 d1 d2 d3 d4 d5 d6 d7 ks
      obtain ⟨xm, Hxm⟩ : ∃ z : Nat, Hid (xkey.length = z) := ⟨_, rfl⟩
      obtain ⟨ym, Hym⟩ : ∃ z : Nat, Hid (ykey.length = z) := ⟨_, rfl⟩
      rw [Hxm.out, Hym.out] at ks
      rw [Hxm.out] at c3
      rw [Hym.out] at d3
      simp only [Nat.add_zero] at c0 d0 c1 d1 c2 d2 c3 d3 c4 d4 c5 d5 c6 d6 c7 d7
      have A0 := hid c0
      have B0 := hid d0
      have A1 := hid c1
      have B1 := hid d1
      have A2 := hid c2
      have B2 := hid d2
      have A3 := hid c3
      have B3 := hid d3
      have A4 := hid c4
      have B4 := hid d4
      have A5 := hid c5
      have B5 := hid d5
      have A6 := hid c6
      have B6 := hid d6
      have A7 := hid c7
      have B7 := hid d7
      clear q1 q2 c0 d0 c1 d1 c2 d2 c3 d3 c4 d4 c5 d5 c6 d6 c7 d7
      go_wp2_with fail
      refine wp_quietC (Bw wr) (by kernel_rfl) (by kernel_rfl) (Bw.drew wr) ?_
      repeat (first | go_big_quiet_skip | (go_big_quiet_want; go_big_quiet_op; first | go_big_quiet_on | (apply Exists.intro; refine ⟨fun wq hq => ?_, ?_⟩; (· first | (with_reducible rfl) | (go_at_call 71; exact (ks _ hq).mono fun _ _ h => ⟨h.1, hq.on h.2⟩) | (have s0 := hq.cell A0.out; have t0 := hq.cell B0.out; have s1 := hq.cell A1.out; have t1 := hq.cell B1.out; have s2 := hq.cell A2.out; have t2 := hq.cell B2.out; have s3 := hq.cell A3.out; have t3 := hq.cell B3.out; have s4 := hq.cell A4.out; have t4 := hq.cell B4.out; have s5 := hq.cell A5.out; have t5 := hq.cell B5.out; have s6 := hq.cell A6.out; have t6 := hq.cell B6.out; have s7 := hq.cell A7.out; have t7 := hq.cell B7.out; go_simp; rfl) | rfl); go_big_quiet_on)))
      refine wpQuiet_nil ?_
      intro w3 s3
      have HB3 := hid (Bw.on HB.out s3)
      clear s3
      go_wp2_with fail
      go_roundw
      case rel => exact ⟨j + 1, by omega, by go_num, HB3⟩
      case measure => simp [intOf]; omega
    · have hjI : ¬ (j : Int) < n := by omega
      go_wp2_with fail
      go_ret
      exact ⟨rfl, HB.out⟩
end Go.Proofs.YtkeogggeefnoeaaGreatDoor
