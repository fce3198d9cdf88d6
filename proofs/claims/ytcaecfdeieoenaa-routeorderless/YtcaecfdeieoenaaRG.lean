import Derived.Test.YtcaecfdeieoenaaRF
namespace Go.Proofs.Ytcaecfdeieoenaa
set_option maxRecDepth 100000
open Go.RowKit Go.Shelf
set_option linter.unusedVariables false
attribute [local go_sem] Oper.semAt_some

/-- Does a longer one hold the address? -/
def lg (F H L B : Int) (l : List Wy) : Bool := l.any (fun y => y.ho F H L && decide (B < y.B))
theorem lg_snoc (F H L B : Int) (l : List Wy) (x : Wy) : lg F H L B (l ++ [x]) = (lg F H L B l || (x.ho F H L && decide (B < x.B))) := by simp [lg]
theorem lg_false {F H L B : Int} {l : List Wy} : lg F H L B l = false ↔ ∀ y ∈ l, y.ho F H L = true → y.B ≤ B := by
  unfold lg
  rw [List.any_eq_false]
  constructor
  · intro h y hy hh
    have := h y hy
    rw [hh] at this
    simp at this
    exact this
  · intro h y hy hh
    simp at hh
    have := h y hy hh.1
    omega
theorem turn_new {F H L : Int} {l : List Wy} {p : Wy} (hl : Tl l) (hp : p.Ok) (hn : has p l = false) (h1 : p.ho F H L = true) (h2 : lg F H L p.B l = false) : fK (ins p l) F H L = p.K ∧ fO (ins p l) F H L = true := by
  have := fnd_ins (F := F) (H := H) (L := L) hl hp hn
  rw [if_pos ⟨h1, lg_false.1 h2⟩] at this
  unfold fK fO
  rw [this]
  exact ⟨rfl, rfl⟩
theorem turn_old {F H L : Int} {l : List Wy} {p : Wy} (hl : Tl l) (hp : p.Ok) (hn : has p l = false) (h : p.ho F H L = false ∨ lg F H L p.B l = true) : fK (ins p l) F H L = fK l F H L ∧ fO (ins p l) F H L = fO l F H L := by
  have := fnd_ins (F := F) (H := H) (L := L) hl hp hn
  rw [if_neg (fun hh => by
    rcases h with h | h
    · rw [hh.1] at h; cases h
    · rw [lg_false.2 hh.2] at h; cases h)] at this
  unfold fK fO
  rw [this]
  exact ⟨rfl, rfl⟩
theorem oE_ins {l : List Wy} {p : Wy} (hp : p.Ok) : oE p (ins p l) = 0 := by
  unfold oE
  rw [hp.2.1, if_neg (by simp), if_neg]
  rw [has_true.2 ⟨p, (mem_ins p p l).2 (.inl rfl), sm_self p⟩]
  simp
theorem boxed_be {W W' : World} {b : Nat} {t : TypeId} {v : Value} (h : Boxed W b t v) (g : Below W.heap.size W W') : Boxed W' b t v := h.kept (grown_of_below g) (fun e => by cases e)
theorem Am.new2 (w : World) (o : Obj) (F H L : Int) : Am ((w.alloc o).alloc (.cells #[.int .i64 F, .int .u64 H, .int .u64 L] 30)) (w.heap.size + 1) F H L := by
  have := Am.new (w.alloc o) F H L
  rwa [World.size_alloc] at this
set_option maxHeartbeats 8000000 in
theorem routeTurns_ {Tr : World → Value → List Wy → Prop} (R : Rte Tr) (a : Option Addr) (m : List Wy) (c : Nat) (p : Wy) (F H L : Int) (w : World) (hm : Ws w a m) (hnc : m.length ≤ c ∧ c ≤ maxLen) (hp : p.In) (hF : InI F) (hH : InU H) (hL : InU L) :
    Calls Try.prog 6 #[.slice a m.length c, .agg #[.int .i64 p.F, .int .u64 p.H, .int .u64 p.L, .int .i64 p.B], .int .i64 p.K, .agg #[.int .i64 F, .int .u64 H, .int .u64 L]] w fun e w' => e = .returned (.bool true) ∧ Below w.heap.size w w' := by
  have B0 : Below w.heap.size w ((w.alloc (.cells #[.int .i64 p.F, .int .u64 p.H, .int .u64 p.L, .int .i64 p.B] 32)).alloc (.cells #[.int .i64 F, .int .u64 H, .int .u64 L] 30)) := (pnew w _ _ _ _).alloc (by simp) _
  have mp := (Pm.new w p.F p.H p.L p.B).alloc (.cells #[.int .i64 F, .int .u64 H, .int .u64 L] 30)
  have ma := Am.new2 w (.cells #[.int .i64 p.F, .int .u64 p.H, .int .u64 p.L, .int .i64 p.B] 32) F H L
  have HM := hid (hm.kept B0)
  have hll : (layL (m.take 300)).length ≤ 300 := by have := lay_le (m.take 300); rw [List.length_take] at this; omega
  have HTL : Hid (Tl (layL (m.take 300))) := tl_lay (fun x hx => hm.1 x (List.mem_of_mem_take hx))
  clear hm
  refine (callsIn_wide (n := 9)).1 ?_
  refine callsIn_of_wp_marks Try.func6 rfl trivial ?_ rfl
  simp only [Try.ntmps6, List.size_toArray, List.length_cons, List.length_nil, Nat.reduceAdd, Nat.reduceSub, Array.replicate_succ, Array.replicate_zero, List.push_toArray, List.append_toArray, List.nil_append, List.cons_append]
  gi_wp2_with (refine ⟨trivial, ?_⟩; gi_at_call 8; refine (callsIn_wide.2 (first_ R _)).mono ?_; rintro e w1 ⟨rfl, g2⟩)
  replace mp := mp.kept g2
  replace ma := ma.kept g2
  replace HM := hid (HM.out.kept g2)
  replace B0 := bel_bel B0 B0.size g2
  clear g2
  have k0 := lay_ R a m c w1 HM.out hnc
  generalize layL (m.take 300) = l at *
  gi_wp2_with (refine ⟨trivial, ?_⟩; gi_at_call 12; refine (callsIn_wide.2 (k0)).mono ?_; rintro e w3 ⟨⟨t0, rfl, ht⟩, g2⟩; obtain ⟨ta, rfl⟩ := R.ptr ht; have HT := hid ht; have mp3 := mp.kept g2; have p0 := mp3.c0; have p1 := mp3.c1; have p2 := mp3.c2; have p3 := mp3.c3)
  replace ma := ma.kept g2
  replace B0 := bel_bel B0 B0.size g2
  clear g2 k0 HM ht mp
  have k1 : Calls Try.prog 19 #[.pointer (some ta), .agg #[.int .i64 p.F, .int .u64 p.H, .int .u64 p.L, .int .i64 p.B], .int .i64 p.K] w3 fun e w' => ((wE p l ≠ 0 ∧ e = .returned (.tuple #[.pointer none, .int .i64 (wE p l)])) ∨ (wE p l = 0 ∧ ∃ v', e = .returned (.tuple #[v', .int .i64 0]) ∧ Tr w' v' (ins p l))) ∧ Below w3.heap.size w3 w' := R.with_ w3 _ l p HT.out hp (by omega)
  by_cases hE : wE p l ≠ 0
  · have k2 := k1.mono (fun e w' h => (⟨h.1.elim (fun h => h.2) (fun h => absurd h.1 hE), h.2⟩ : e = .returned (.tuple #[.pointer none, .int .i64 (wE p l)]) ∧ Below w3.heap.size w3 w'))
    generalize wE p l = E at *
    clear k1
    have hEb : (E != 0) = true := by simpa using hE
    gi_wp2_with (refine ⟨trivial, ?_⟩; gi_at_call 19; refine (callsIn_wide.2 (k2)).mono ?_; rintro e w4 ⟨rfl, g2⟩)
    gi_wp2_with (refine ⟨trivial, ?_⟩; gi_at_call 20; refine (callsIn_wide.2 (num_ _ _)).mono ?_; rintro e w5 ⟨rfl, hw5⟩; obtain rfl := hw5.symm)
    gi_wp2_with (refine ⟨trivial, ?_⟩; gi_at_call 20; refine (callsIn_wide.2 (num_ _ _)).mono ?_; rintro e w5 ⟨rfl, hw5⟩; obtain rfl := hw5.symm)
    exact ⟨_, results_tmp rfl _ _ _, rfl, bel_bel B0 B0.size g2⟩
  · have hE0 : wE p l = 0 := Decidable.not_not.1 hE
    obtain ⟨hpo, hpn⟩ := (wE_zero hp).1 hE0
    have k2 := k1.mono (fun e w' h => (⟨h.1.elim (fun h => absurd h.1 hE) (fun h => h.2), h.2⟩ : (∃ v', e = .returned (.tuple #[v', .int .i64 0]) ∧ Tr w' v' (ins p l)) ∧ Below w3.heap.size w3 w'))
    clear k1 hE hE0
    have x1 := HTL.out
    have HN := hid (turn_new (F := F) (H := H) (L := L) x1 hpo hpn)
    have HO := hid (turn_old (F := F) (H := H) (L := L) x1 hpo hpn)
    have HD := hid (del_ins x1 hpo hpn)
    have HW := hid (oE_ins (l := l) hpo)
    have hil : (ins p l).length ≤ 99999 := by rw [length_ins]; omega
    have hil2 := hll
    clear x1 hpn
    gi_wp2_with (refine ⟨trivial, ?_⟩; gi_at_call 19; refine (callsIn_wide.2 (k2)).mono ?_; rintro e w4 ⟨⟨v', rfl, hu⟩, g2⟩; obtain ⟨tb, rfl⟩ := R.ptr hu; have HU := hid hu; have HT4 := hid (R.kept HT.out g2); have Ba : Below w4.heap.size w4 (w4.alloc (.cells #[.bool false] 4)) := (Below.refl _ _).alloc (Nat.le_refl _) _)
    gi_wp2_with (refine ⟨trivial, ?_⟩; gi_at_call 20; refine (callsIn_wide.2 (num_ _ _)).mono ?_; rintro e w5 ⟨rfl, hw5⟩; obtain rfl := hw5.symm)
    gi_wp2_with (refine ⟨trivial, ?_⟩; gi_at_call 13; refine (callsIn_wide.2 (R.all_ w4 _ _ l HT4.out Ba (by omega))).mono ?_; rintro e w6 ⟨⟨gf, lb, rfl, eg, hseq⟩, g4⟩)
    have ma4 := ma.kept g2
    have mp4 := mp3.kept g2
    replace B0 := bel_bel B0 B0.size g2
    have b6 := boxed_be (Boxed.new w4 4 (.bool false)) g4
    have B6 : Below w4.heap.size w4 w6 := bel_bel Ba Ba.size g4
    have hs6 : w4.heap.size + 1 ≤ w6.heap.size := by have := g4.size; rwa [World.size_alloc] at this
    rw [World.size_alloc] at hseq
    have k4 : ∀ w, Calls Try.prog 14 #[.agg #[.int .i64 p.F, .int .u64 p.H, .int .u64 p.L, .int .i64 p.B], .agg #[.int .i64 F, .int .u64 H, .int .u64 L]] w fun e w' => e = .returned (.bool (p.ho F H L)) ∧ Below w.heap.size w w' := fun w => refHolds_ p.F p.H p.L p.B F H L w hp.2.1 hp.2.2.1 hp.2.2.2.1 hH hL
    clear g4 Ba g2 k2 hu p0 p1 p2 p3 ma mp3 HT
    refine with_act (fun A hA => ?_)
    refine wpIn_rangeFunc_ownH rfl (by omega) (gf := gf) (lb := lb) (by rw [hA]; rfl) trivial eg (hseq 8 (by omega)) Kq.t (Kq.b (by omega) (Nat.le_refl _)) (Below.refl _ _) (fun _ => rfl)
      (fun pre W => Boxed W w4.heap.size 4 (.bool (lg F H L p.B (pre.map (·.1)))) ∧ (Below w4.heap.size w4 W ∧ w6.heap.size ≤ W.heap.size))
      (fun _ _ _ => False)
      (OwnFrom.and (Own.from (boxed_own _ _ (fun pre : List Wi => Value.bool (lg F H L p.B (pre.map (·.1))))) _) (OwnFrom.and (ownFrom_below (Nat.le_refl _) (by omega)) (ownFrom_size _ _)))
      (fun _ _ _ _ _ hs _ _ => hs)
      ⟨b6, B6, Nat.le_refl _⟩
      (fun x a' W => ∃ Bp, w4.heap.size < Bp ∧ Pm W Bp x.1.F x.1.H x.1.L x.1.B ∧ a' = { tmps := ((A.tmps.setIfInBounds 57 (.agg #[.int .i64 x.1.F, .int .u64 x.1.H, .int .u64 x.1.L, .int .i64 x.1.B])).setIfInBounds 58 (.int .i64 x.1.K)).setIfInBounds 14 (.pointer (some ⟨Bp, 0, none⟩)), defers := [] })
      (fun x a' _ X Y row hs hg hr => by obtain ⟨Bp, h1, h2, h3⟩ := hs; exact ⟨Bp, h1, pm_own h2 hg hr, h3⟩)
      ?assign ?body ?done ?stop
    case assign =>
      subst hA
      rintro lp pre x W K ⟨b1, hB, hz⟩ hK
      unfold Wy.px
      gi_wp2
      refine hK _ _ ((KeepsOthers.alloc _ _).from _) (((Gs.refl (fun _ => False) W).alloc _).kq (fun _ h => h.elim) (by omega) hz (fun _ h => h.elim)) ⟨b1.alloc _, hB.alloc hB.size _, by simp; omega⟩ ⟨W.heap.size, b1.lt, Pm.new W _ _ _ _, ?_⟩
      simp only [List.setIfInBounds_toArray, List.set_cons_zero, List.set_cons_succ]
    case body =>
      subst hA
      rintro lp pre x a' W hlp _ ⟨b1, hB, hz⟩ ⟨Bp, hBp, mP, ha⟩ hlt
      simp only [List.setIfInBounds_toArray, List.set_cons_zero, List.set_cons_succ] at ha
      subst ha
      have mA := ma4.kept hB
      have mq := mp4.kept hB
      have c0 := mA.c0
      have c1 := mA.c1
      have c2 := mA.c2
      have p0 := mP.c0
      have p1 := mP.c1
      have p2 := mP.c2
      have p3 := mP.c3
      have pb := mq.c3
      have HS0 : Hid (lg F H L p.B ((pre ++ [x]).map (·.1)) = (lg F H L p.B (pre.map (·.1)) || (x.1.ho F H L && decide (p.B < x.1.B)))) := by
        show _ = _
        rw [map_snoc, lg_snoc]
      obtain ⟨x, ⟨xF, xH, xL, xB, xK⟩⟩ := x
      simp only at mP p0 p1 p2 p3 HS0
      have k3 : ∀ w, Calls Try.prog 14 #[.agg #[.int .i64 x.F, .int .u64 x.H, .int .u64 x.L, .int .i64 x.B], .agg #[.int .i64 F, .int .u64 H, .int .u64 L]] w fun e w' => e = .returned (.bool (x.ho F H L)) ∧ Below w.heap.size w w' := fun w => refHolds_ x.F x.H x.L x.B F H L w xH xL xB hH hL
      generalize lg F H L p.B (pre.map (·.1)) = g at *
      cases g with
      | true =>
        have HS : Hid (lg F H L p.B ((pre ++ [⟨x, ⟨xF, xH, xL, xB, xK⟩⟩] : List Wi).map (·.1)) = true) := by show _ = _; rw [HS0.out]; rfl
        clear HS0
        gi_wp2_with (refine ⟨trivial, ?_⟩; gi_at_call 14; refine (calls_r (k3 _)).mono ?_; rintro e w7 ⟨rfl, g7⟩; have q3 := cell_be8 g7 p3; have z3 := cell_be8 g7 pb; have bb := boxed_be b1 g7; have cB := bb.cell; have fB := bb.frozen)
        have G7 : Gs (fun j => j = w4.heap.size) W (w7.setCell ⟨w4.heap.size, 0, none⟩ (.bool (true))) := Gs.set (M := fun j => j = w4.heap.size) ((Gs.refl _ W).below g7) (.inl rfl) _
        have B7 : Below w4.heap.size w4 (w7.setCell ⟨w4.heap.size, 0, none⟩ (.bool (true))) := (bel_bel hB hB.size g7).setCell (p := ⟨w4.heap.size, 0, none⟩) (Nat.le_refl _) _
        exact ⟨G7.keeps (fun j h => by omega), G7.kq (fun j h => by omega) (by omega) hz (fun j h => by subst h; exact Nr.boxed b1 (by decide)), ⟨by rw [HS.out]; exact bb.set _, B7, Nat.le_trans hz G7.1⟩⟩
      | false =>
        cases hh : x.ho F H L with
        | false =>
          have HS : Hid (lg F H L p.B ((pre ++ [⟨x, ⟨xF, xH, xL, xB, xK⟩⟩] : List Wi).map (·.1)) = false) := by show _ = _; rw [HS0.out, hh]; rfl
          rw [hh] at k3
          clear HS0 hh
          gi_wp2_with (refine ⟨trivial, ?_⟩; gi_at_call 14; refine (calls_r (k3 _)).mono ?_; rintro e w7 ⟨rfl, g7⟩; have q3 := cell_be8 g7 p3; have z3 := cell_be8 g7 pb; have bb := boxed_be b1 g7; have cB := bb.cell; have fB := bb.frozen)
          have G7 : Gs (fun j => j = w4.heap.size) W (w7.setCell ⟨w4.heap.size, 0, none⟩ (.bool (false))) := Gs.set (M := fun j => j = w4.heap.size) ((Gs.refl _ W).below g7) (.inl rfl) _
          have B7 : Below w4.heap.size w4 (w7.setCell ⟨w4.heap.size, 0, none⟩ (.bool (false))) := (bel_bel hB hB.size g7).setCell (p := ⟨w4.heap.size, 0, none⟩) (Nat.le_refl _) _
          exact ⟨G7.keeps (fun j h => by omega), G7.kq (fun j h => by omega) (by omega) hz (fun j h => by subst h; exact Nr.boxed b1 (by decide)), ⟨by rw [HS.out]; exact bb.set _, B7, Nat.le_trans hz G7.1⟩⟩
        | true =>
          by_cases hgt : p.B < x.B
          · have HS : Hid (lg F H L p.B ((pre ++ [⟨x, ⟨xF, xH, xL, xB, xK⟩⟩] : List Wi).map (·.1)) = true) := by show _ = _; rw [HS0.out, hh]; simp [hgt]
            rw [hh] at k3
            clear HS0 hh
            gi_wp2_with (refine ⟨trivial, ?_⟩; gi_at_call 14; refine (calls_r (k3 _)).mono ?_; rintro e w7 ⟨rfl, g7⟩; have q3 := cell_be8 g7 p3; have z3 := cell_be8 g7 pb; have bb := boxed_be b1 g7; have cB := bb.cell; have fB := bb.frozen)
            have G7 : Gs (fun j => j = w4.heap.size) W (w7.setCell ⟨w4.heap.size, 0, none⟩ (.bool (true))) := Gs.set (M := fun j => j = w4.heap.size) ((Gs.refl _ W).below g7) (.inl rfl) _
            have B7 : Below w4.heap.size w4 (w7.setCell ⟨w4.heap.size, 0, none⟩ (.bool (true))) := (bel_bel hB hB.size g7).setCell (p := ⟨w4.heap.size, 0, none⟩) (Nat.le_refl _) _
            exact ⟨G7.keeps (fun j h => by omega), G7.kq (fun j h => by omega) (by omega) hz (fun j h => by subst h; exact Nr.boxed b1 (by decide)), ⟨by rw [HS.out]; exact bb.set _, B7, Nat.le_trans hz G7.1⟩⟩
          · have HS : Hid (lg F H L p.B ((pre ++ [⟨x, ⟨xF, xH, xL, xB, xK⟩⟩] : List Wi).map (·.1)) = false) := by show _ = _; rw [HS0.out, hh]; simp [hgt]
            rw [hh] at k3
            have hdb : decide (p.B < x.B) = false := decide_eq_false hgt
            clear HS0 hh
            gi_wp2_with (refine ⟨trivial, ?_⟩; gi_at_call 14; refine (calls_r (k3 _)).mono ?_; rintro e w7 ⟨rfl, g7⟩; have q3 := cell_be8 g7 p3; have z3 := cell_be8 g7 pb; have bb := boxed_be b1 g7; have cB := bb.cell; have fB := bb.frozen)
            have G7 : Gs (fun j => j = w4.heap.size) W (w7.setCell ⟨w4.heap.size, 0, none⟩ (.bool (false))) := Gs.set (M := fun j => j = w4.heap.size) ((Gs.refl _ W).below g7) (.inl rfl) _
            have B7 : Below w4.heap.size w4 (w7.setCell ⟨w4.heap.size, 0, none⟩ (.bool (false))) := (bel_bel hB hB.size g7).setCell (p := ⟨w4.heap.size, 0, none⟩) (Nat.le_refl _) _
            exact ⟨G7.keeps (fun j h => by omega), G7.kq (fun j h => by omega) (by omega) hz (fun j h => by subst h; exact Nr.boxed b1 (by decide)), ⟨by rw [HS.out]; exact bb.set _, B7, Nat.le_trans hz G7.1⟩⟩
    case done =>
      subst hA
      rintro D xs W hD hxs ⟨bx, hB, hz⟩ hK
      rw [hxs] at bx
      have ma5 := ma4.kept hB
      have mp5 := mp4.kept hB
      have HT5 := hid (R.kept HT4.out hB)
      have HU5 := hid (R.kept HU.out hB)
      have BW := bel_bel B0 B0.size hB
      have a0 := ma5.c0
      have a1 := ma5.c1
      have a2 := ma5.c2
      have b0 := mp5.c0
      have b1 := mp5.c1
      have b2 := mp5.c2
      have b3 := mp5.c3
      have cx := bx.cell
      have hw0 := B0.size
      clear ma4 mp4 HT4 HU B6 b6 hxs hB hseq eg
      clear B0 HTL
      gi_wp2
      refine ⟨trivial, ?_⟩
      refine (callsIn_wide.2 (R.find_ _ _ l F H L HT5.out hF hH hL (by omega))).mono ?_
      rintro e v1 ⟨rfl, g1⟩
      replace ma5 := ma5.kept g1
      replace mp5 := mp5.kept g1
      replace bx := boxed_be bx g1
      replace HT5 := hid (R.kept HT5.out g1)
      replace HU5 := hid (R.kept HU5.out g1)
      replace BW := bel_bel BW BW.size g1
      replace hK := (g1.block D (Array.getElem?_eq_some_iff.1 hK).1).trans hK
      clear g1
      replace a0 := ma5.c0
      replace a1 := ma5.c1
      replace a2 := ma5.c2
      replace b0 := mp5.c0
      replace b1 := mp5.c1
      replace b2 := mp5.c2
      replace b3 := mp5.c3
      replace cx := bx.cell
      gi_wp2
      refine ⟨trivial, ?_⟩
      refine (callsIn_wide.2 (R.find_ _ _ (ins p l) F H L HU5.out hF hH hL hil)).mono ?_
      rintro e v2 ⟨rfl, g2⟩
      replace ma5 := ma5.kept g2
      replace mp5 := mp5.kept g2
      replace bx := boxed_be bx g2
      replace HT5 := hid (R.kept HT5.out g2)
      replace HU5 := hid (R.kept HU5.out g2)
      replace BW := bel_bel BW BW.size g2
      replace hK := (g2.block D (Array.getElem?_eq_some_iff.1 hK).1).trans hK
      clear g2
      replace a0 := ma5.c0
      replace a1 := ma5.c1
      replace a2 := ma5.c2
      replace b0 := mp5.c0
      replace b1 := mp5.c1
      replace b2 := mp5.c2
      replace b3 := mp5.c3
      replace cx := bx.cell
      have k5 := k4 v2
      have k6 : ∀ W, Tr W (.pointer (some tb)) (ins p l) → Calls Try.prog 21 #[.pointer (some tb), .agg #[.int .i64 p.F, .int .u64 p.H, .int .u64 p.L, .int .i64 p.B]] W fun e w' => (∃ v', e = .returned (.tuple #[v', .int .i64 0]) ∧ Tr w' v' l) ∧ Below W.heap.size W w' := fun W hW => (R.without_ W _ _ p hW hp hil).mono (fun e w' h => ⟨h.1.elim (fun h => absurd HW.out h.1) (fun h => by rw [HD.out] at h; exact h.2), h.2⟩)
      cases hh : p.ho F H L with
      | false =>
        obtain ⟨y1, y2⟩ := HO.out (.inl hh)
        rw [hh] at k5
        clear hh
        gi_wp2
        refine ⟨trivial, ?_⟩
        refine (callsIn_wide.2 (k5)).mono ?_
        rintro e v3 ⟨rfl, g3⟩
        replace ma5 := ma5.kept g3
        replace mp5 := mp5.kept g3
        replace bx := boxed_be bx g3
        replace HT5 := hid (R.kept HT5.out g3)
        replace HU5 := hid (R.kept HU5.out g3)
        replace BW := bel_bel BW BW.size g3
        replace hK := (g3.block D (Array.getElem?_eq_some_iff.1 hK).1).trans hK
        clear g3
        replace a0 := ma5.c0
        replace a1 := ma5.c1
        replace a2 := ma5.c2
        replace b0 := mp5.c0
        replace b1 := mp5.c1
        replace b2 := mp5.c2
        replace b3 := mp5.c3
        replace cx := bx.cell
        gi_wp2
        refine ⟨trivial, ?_⟩
        refine (callsIn_wide.2 (k6 _ HU5.out)).mono ?_
        rintro e v4 ⟨⟨v', rfl, hv⟩, g4⟩
        obtain ⟨tc, rfl⟩ := R.ptr hv
        have HV := hid hv
        replace ma5 := ma5.kept g4
        replace mp5 := mp5.kept g4
        replace bx := boxed_be bx g4
        replace HT5 := hid (R.kept HT5.out g4)
        replace HU5 := hid (R.kept HU5.out g4)
        replace BW := bel_bel BW BW.size g4
        replace hK := (g4.block D (Array.getElem?_eq_some_iff.1 hK).1).trans hK
        clear g4
        replace a0 := ma5.c0
        replace a1 := ma5.c1
        replace a2 := ma5.c2
        replace b0 := mp5.c0
        replace b1 := mp5.c1
        replace b2 := mp5.c2
        replace b3 := mp5.c3
        replace cx := bx.cell
        gi_wp2
        refine ⟨trivial, ?_⟩
        refine (callsIn_wide.2 (num_ _ _)).mono ?_
        rintro e v5 ⟨rfl, hw5⟩
        obtain rfl := hw5.symm
        gi_wp2
        refine ⟨trivial, ?_⟩
        refine (callsIn_wide.2 (R.find_ _ _ l F H L HV.out hF hH hL (by omega))).mono ?_
        rintro e v6 ⟨rfl, g6⟩
        replace HV := hid (R.kept HV.out g6)
        replace ma5 := ma5.kept g6
        replace mp5 := mp5.kept g6
        replace bx := boxed_be bx g6
        replace HT5 := hid (R.kept HT5.out g6)
        replace HU5 := hid (R.kept HU5.out g6)
        replace BW := bel_bel BW BW.size g6
        replace hK := (g6.block D (Array.getElem?_eq_some_iff.1 hK).1).trans hK
        clear g6
        replace a0 := ma5.c0
        replace a1 := ma5.c1
        replace a2 := ma5.c2
        replace b0 := mp5.c0
        replace b1 := mp5.c1
        replace b2 := mp5.c2
        replace b3 := mp5.c3
        replace cx := bx.cell
        gi_wp2
        refine ⟨trivial, ?_⟩
        refine (callsIn_wide.2 (R.len_ _ _ l HV.out (by omega))).mono ?_
        rintro e v7 ⟨rfl, g7⟩
        replace ma5 := ma5.kept g7
        replace mp5 := mp5.kept g7
        replace bx := boxed_be bx g7
        replace HT5 := hid (R.kept HT5.out g7)
        replace HU5 := hid (R.kept HU5.out g7)
        replace BW := bel_bel BW BW.size g7
        replace hK := (g7.block D (Array.getElem?_eq_some_iff.1 hK).1).trans hK
        clear g7
        replace a0 := ma5.c0
        replace a1 := ma5.c1
        replace a2 := ma5.c2
        replace b0 := mp5.c0
        replace b1 := mp5.c1
        replace b2 := mp5.c2
        replace b3 := mp5.c3
        replace cx := bx.cell
        gi_wp2
        refine ⟨trivial, ?_⟩
        refine (callsIn_wide.2 (R.len_ _ _ l HT5.out (by omega))).mono ?_
        rintro e v8 ⟨rfl, g8⟩
        replace ma5 := ma5.kept g8
        replace mp5 := mp5.kept g8
        replace bx := boxed_be bx g8
        replace HT5 := hid (R.kept HT5.out g8)
        replace HU5 := hid (R.kept HU5.out g8)
        replace BW := bel_bel BW BW.size g8
        replace hK := (g8.block D (Array.getElem?_eq_some_iff.1 hK).1).trans hK
        clear g8
        replace a0 := ma5.c0
        replace a1 := ma5.c1
        replace a2 := ma5.c2
        replace b0 := mp5.c0
        replace b1 := mp5.c1
        replace b2 := mp5.c2
        replace b3 := mp5.c3
        replace cx := bx.cell
        gi_wp2
        refine ⟨by simp, .inl ⟨_, _, rfl, run_takeDeferred hK, ?_⟩⟩
        exact ⟨_, results_tmp rfl _ _ _, rfl, BW.trans (belowK_b (w := w) (Nat.le_refl _) _ D _ _ (by omega) hK rfl rfl)⟩
      | true =>
        rw [hh] at k5
        cases hg : lg F H L p.B l with
        | false =>
          obtain ⟨y1, y2⟩ := HN.out hh hg
          rw [hg] at bx cx
          clear hh hg
          gi_wp2
          refine ⟨trivial, ?_⟩
          refine (callsIn_wide.2 (k5)).mono ?_
          rintro e v3 ⟨rfl, g3⟩
          replace ma5 := ma5.kept g3
          replace mp5 := mp5.kept g3
          replace bx := boxed_be bx g3
          replace HT5 := hid (R.kept HT5.out g3)
          replace HU5 := hid (R.kept HU5.out g3)
          replace BW := bel_bel BW BW.size g3
          replace hK := (g3.block D (Array.getElem?_eq_some_iff.1 hK).1).trans hK
          clear g3
          replace a0 := ma5.c0
          replace a1 := ma5.c1
          replace a2 := ma5.c2
          replace b0 := mp5.c0
          replace b1 := mp5.c1
          replace b2 := mp5.c2
          replace b3 := mp5.c3
          replace cx := bx.cell
          gi_wp2
          refine ⟨trivial, ?_⟩
          refine (callsIn_wide.2 (k6 _ HU5.out)).mono ?_
          rintro e v4 ⟨⟨v', rfl, hv⟩, g4⟩
          obtain ⟨tc, rfl⟩ := R.ptr hv
          have HV := hid hv
          replace ma5 := ma5.kept g4
          replace mp5 := mp5.kept g4
          replace bx := boxed_be bx g4
          replace HT5 := hid (R.kept HT5.out g4)
          replace HU5 := hid (R.kept HU5.out g4)
          replace BW := bel_bel BW BW.size g4
          replace hK := (g4.block D (Array.getElem?_eq_some_iff.1 hK).1).trans hK
          clear g4
          replace a0 := ma5.c0
          replace a1 := ma5.c1
          replace a2 := ma5.c2
          replace b0 := mp5.c0
          replace b1 := mp5.c1
          replace b2 := mp5.c2
          replace b3 := mp5.c3
          replace cx := bx.cell
          gi_wp2
          refine ⟨trivial, ?_⟩
          refine (callsIn_wide.2 (num_ _ _)).mono ?_
          rintro e v5 ⟨rfl, hw5⟩
          obtain rfl := hw5.symm
          gi_wp2
          refine ⟨trivial, ?_⟩
          refine (callsIn_wide.2 (R.find_ _ _ l F H L HV.out hF hH hL (by omega))).mono ?_
          rintro e v6 ⟨rfl, g6⟩
          replace HV := hid (R.kept HV.out g6)
          replace ma5 := ma5.kept g6
          replace mp5 := mp5.kept g6
          replace bx := boxed_be bx g6
          replace HT5 := hid (R.kept HT5.out g6)
          replace HU5 := hid (R.kept HU5.out g6)
          replace BW := bel_bel BW BW.size g6
          replace hK := (g6.block D (Array.getElem?_eq_some_iff.1 hK).1).trans hK
          clear g6
          replace a0 := ma5.c0
          replace a1 := ma5.c1
          replace a2 := ma5.c2
          replace b0 := mp5.c0
          replace b1 := mp5.c1
          replace b2 := mp5.c2
          replace b3 := mp5.c3
          replace cx := bx.cell
          gi_wp2
          refine ⟨trivial, ?_⟩
          refine (callsIn_wide.2 (R.len_ _ _ l HV.out (by omega))).mono ?_
          rintro e v7 ⟨rfl, g7⟩
          replace ma5 := ma5.kept g7
          replace mp5 := mp5.kept g7
          replace bx := boxed_be bx g7
          replace HT5 := hid (R.kept HT5.out g7)
          replace HU5 := hid (R.kept HU5.out g7)
          replace BW := bel_bel BW BW.size g7
          replace hK := (g7.block D (Array.getElem?_eq_some_iff.1 hK).1).trans hK
          clear g7
          replace a0 := ma5.c0
          replace a1 := ma5.c1
          replace a2 := ma5.c2
          replace b0 := mp5.c0
          replace b1 := mp5.c1
          replace b2 := mp5.c2
          replace b3 := mp5.c3
          replace cx := bx.cell
          gi_wp2
          refine ⟨trivial, ?_⟩
          refine (callsIn_wide.2 (R.len_ _ _ l HT5.out (by omega))).mono ?_
          rintro e v8 ⟨rfl, g8⟩
          replace ma5 := ma5.kept g8
          replace mp5 := mp5.kept g8
          replace bx := boxed_be bx g8
          replace HT5 := hid (R.kept HT5.out g8)
          replace HU5 := hid (R.kept HU5.out g8)
          replace BW := bel_bel BW BW.size g8
          replace hK := (g8.block D (Array.getElem?_eq_some_iff.1 hK).1).trans hK
          clear g8
          replace a0 := ma5.c0
          replace a1 := ma5.c1
          replace a2 := ma5.c2
          replace b0 := mp5.c0
          replace b1 := mp5.c1
          replace b2 := mp5.c2
          replace b3 := mp5.c3
          replace cx := bx.cell
          gi_wp2
          refine ⟨by simp, .inl ⟨_, _, rfl, run_takeDeferred hK, ?_⟩⟩
          exact ⟨_, results_tmp rfl _ _ _, rfl, BW.trans (belowK_b (w := w) (Nat.le_refl _) _ D _ _ (by omega) hK rfl rfl)⟩
        | true =>
          obtain ⟨y1, y2⟩ := HO.out (.inr hg)
          rw [hg] at bx cx
          clear hh hg
          gi_wp2
          refine ⟨trivial, ?_⟩
          refine (callsIn_wide.2 (k5)).mono ?_
          rintro e v3 ⟨rfl, g3⟩
          replace ma5 := ma5.kept g3
          replace mp5 := mp5.kept g3
          replace bx := boxed_be bx g3
          replace HT5 := hid (R.kept HT5.out g3)
          replace HU5 := hid (R.kept HU5.out g3)
          replace BW := bel_bel BW BW.size g3
          replace hK := (g3.block D (Array.getElem?_eq_some_iff.1 hK).1).trans hK
          clear g3
          replace a0 := ma5.c0
          replace a1 := ma5.c1
          replace a2 := ma5.c2
          replace b0 := mp5.c0
          replace b1 := mp5.c1
          replace b2 := mp5.c2
          replace b3 := mp5.c3
          replace cx := bx.cell
          gi_wp2
          refine ⟨trivial, ?_⟩
          refine (callsIn_wide.2 (k6 _ HU5.out)).mono ?_
          rintro e v4 ⟨⟨v', rfl, hv⟩, g4⟩
          obtain ⟨tc, rfl⟩ := R.ptr hv
          have HV := hid hv
          replace ma5 := ma5.kept g4
          replace mp5 := mp5.kept g4
          replace bx := boxed_be bx g4
          replace HT5 := hid (R.kept HT5.out g4)
          replace HU5 := hid (R.kept HU5.out g4)
          replace BW := bel_bel BW BW.size g4
          replace hK := (g4.block D (Array.getElem?_eq_some_iff.1 hK).1).trans hK
          clear g4
          replace a0 := ma5.c0
          replace a1 := ma5.c1
          replace a2 := ma5.c2
          replace b0 := mp5.c0
          replace b1 := mp5.c1
          replace b2 := mp5.c2
          replace b3 := mp5.c3
          replace cx := bx.cell
          gi_wp2
          refine ⟨trivial, ?_⟩
          refine (callsIn_wide.2 (num_ _ _)).mono ?_
          rintro e v5 ⟨rfl, hw5⟩
          obtain rfl := hw5.symm
          gi_wp2
          refine ⟨trivial, ?_⟩
          refine (callsIn_wide.2 (R.find_ _ _ l F H L HV.out hF hH hL (by omega))).mono ?_
          rintro e v6 ⟨rfl, g6⟩
          replace HV := hid (R.kept HV.out g6)
          replace ma5 := ma5.kept g6
          replace mp5 := mp5.kept g6
          replace bx := boxed_be bx g6
          replace HT5 := hid (R.kept HT5.out g6)
          replace HU5 := hid (R.kept HU5.out g6)
          replace BW := bel_bel BW BW.size g6
          replace hK := (g6.block D (Array.getElem?_eq_some_iff.1 hK).1).trans hK
          clear g6
          replace a0 := ma5.c0
          replace a1 := ma5.c1
          replace a2 := ma5.c2
          replace b0 := mp5.c0
          replace b1 := mp5.c1
          replace b2 := mp5.c2
          replace b3 := mp5.c3
          replace cx := bx.cell
          gi_wp2
          refine ⟨trivial, ?_⟩
          refine (callsIn_wide.2 (R.len_ _ _ l HV.out (by omega))).mono ?_
          rintro e v7 ⟨rfl, g7⟩
          replace ma5 := ma5.kept g7
          replace mp5 := mp5.kept g7
          replace bx := boxed_be bx g7
          replace HT5 := hid (R.kept HT5.out g7)
          replace HU5 := hid (R.kept HU5.out g7)
          replace BW := bel_bel BW BW.size g7
          replace hK := (g7.block D (Array.getElem?_eq_some_iff.1 hK).1).trans hK
          clear g7
          replace a0 := ma5.c0
          replace a1 := ma5.c1
          replace a2 := ma5.c2
          replace b0 := mp5.c0
          replace b1 := mp5.c1
          replace b2 := mp5.c2
          replace b3 := mp5.c3
          replace cx := bx.cell
          gi_wp2
          refine ⟨trivial, ?_⟩
          refine (callsIn_wide.2 (R.len_ _ _ l HT5.out (by omega))).mono ?_
          rintro e v8 ⟨rfl, g8⟩
          replace ma5 := ma5.kept g8
          replace mp5 := mp5.kept g8
          replace bx := boxed_be bx g8
          replace HT5 := hid (R.kept HT5.out g8)
          replace HU5 := hid (R.kept HU5.out g8)
          replace BW := bel_bel BW BW.size g8
          replace hK := (g8.block D (Array.getElem?_eq_some_iff.1 hK).1).trans hK
          clear g8
          replace a0 := ma5.c0
          replace a1 := ma5.c1
          replace a2 := ma5.c2
          replace b0 := mp5.c0
          replace b1 := mp5.c1
          replace b2 := mp5.c2
          replace b3 := mp5.c3
          replace cx := bx.cell
          gi_wp2
          refine ⟨by simp, .inl ⟨_, _, rfl, run_takeDeferred hK, ?_⟩⟩
          exact ⟨_, results_tmp rfl _ _ _, rfl, BW.trans (belowK_b (w := w) (Nat.le_refl _) _ D _ _ (by omega) hK rfl rfl)⟩
    case stop =>
      rintro D c pre W _ _ h _
      exact h.elim
end Go.Proofs.Ytcaecfdeieoenaa
