import Derived.Test.YtjajcbjodokfnaaGreatDoorS5
namespace Go.Proofs.YtjajcbjodokfnaaGreatDoor
set_option maxRecDepth 100000
open Go.RowKit
set_option linter.unusedVariables false

theorem wrap_id {x : Int} (h0 : 0 ≤ x) (h1 : x ≤ 9223372036854775807) : IntKind.i64.wrap x = x := by
  unfold IntKind.wrap
  simp only [IntKind.bits, IntKind.signed]
  have e : x % (2 ^ 64 : Int) = x := Int.emod_eq_of_lt h0 (by omega)
  simp only [e]
  rw [if_neg (by simp; omega)]
theorem wrap_neg {x : Int} (h0 : 9223372036854775807 < x) (h1 : x < 18446744073709551616) : IntKind.i64.wrap x < 0 := by
  unfold IntKind.wrap
  simp only [IntKind.bits, IntKind.signed]
  have e : x % (2 ^ 64 : Int) = x := Int.emod_eq_of_lt (by omega) (by omega)
  simp only [e]
  rw [if_pos (by simp; omega)]
  omega
theorem wrap_sq {x : Int} (h0 : 0 ≤ x) (h1 : x < 18446744073709551616) : sq (IntKind.i64.wrap x) ↔ sq x := by
  unfold sq
  by_cases h : x ≤ 9223372036854775807
  · rw [wrap_id h0 h]
  · have := wrap_neg (x := x) (by omega) h1
    omega
theorem rb_eq {zs : List Int} (hl : zs.length = 512) (hu : us zs ≤ 480) : rb zs = sl zs 28 (us zs) := by
  unfold rb
  rw [show Nat.min 480 (us zs) = us zs from Nat.min_eq_right hu]
  have e : ((sl zs 28 480).take (us zs)) = sl zs 28 (us zs) := by
    unfold sl
    rw [List.take_take, Nat.min_eq_left hu]
  rw [e]
  have hn : (sl zs 28 (us zs)).length = us zs := sl_length (by omega)
  have := spl_mid (A := []) (B := zr (us zs)) (C := []) (Y := sl zs 28 (us zs)) rfl (by rw [zr_length, hn])
  simpa using this
/-- What read tells may be just where the fields may. -/
theorem read_may {zs : List Int} (hy : By zs) (hl : zs.length = 512) :
    (MayN (bt (sl zs 0 4)) (IntKind.i64.wrap (val (sl zs 4 8))) (IntKind.i64.wrap (val (sl zs 12 8))) (IntKind.i64.wrap (val (sl zs 20 4))) (us zs) ↔ May (rs zs)) ∧
    (May (rs zs) → IntKind.i64.wrap (val (sl zs 4 8)) = (rs zs).e ∧ IntKind.i64.wrap (val (sl zs 12 8)) = (rs zs).q ∧ IntKind.i64.wrap (val (sl zs 20 4)) = (rs zs).p ∧ rb zs = (rs zs).l ∧ (rs zs).l.length = us zs) := by
  have v1 := val_bd hy (i := 4) (n := 8) (by omega)
  have v2 := val_bd hy (i := 12) (n := 8) (by omega)
  have v3 := val_bd hy (i := 20) (n := 4) (by omega)
  have hp := wrap_id v3.1 (by omega)
  obtain ⟨_, u2⟩ := us_eq hy hl
  have hlen : (sl zs 28 (us zs)).length ≤ 480 ↔ us zs ≤ 480 := by
    simp only [sl, List.length_take, List.length_drop]
    omega
  have he := wrap_sq v1.1 v1.2
  have hq := wrap_sq v2.1 v2.2
  have I : MayN (bt (sl zs 0 4)) (IntKind.i64.wrap (val (sl zs 4 8))) (IntKind.i64.wrap (val (sl zs 12 8))) (IntKind.i64.wrap (val (sl zs 20 4))) (us zs) ↔ May (rs zs) := by
    unfold MayN May rs
    rw [hp, he, hq]
    show _ ↔ _ ∧ _ ∧ _ ∧ _ ∧ (sl zs 28 (us zs)).length ≤ 480
    rw [hlen]
    rfl
  refine ⟨I, fun h => ?_⟩
  obtain ⟨h1, h2, h3, h4, h5⟩ := id h
  have hu : us zs ≤ 480 := hlen.1 h5
  refine ⟨wrap_id v1.1 ?_, wrap_id v2.1 ?_, hp, rb_eq hl hu, sl_length (by omega)⟩
  · have := h2.2; unfold rs at this; simp only at this; omega
  · have := h3.2; unfold rs at this; simp only at this; omega

set_option maxHeartbeats 4000000 in
theorem get_len (a : Option Addr) (n c : Nat) (w : World) (hn : n ≠ 512) :
    Calls Tryz.prog 158 #[.slice a n c] w fun en w' => en = .returned (.tuple #[.agg #[.string ⟨#[]⟩, .int .i64 0, .int .i64 0, .int .i64 0, .slice none 0 0], .int .i64 117]) ∧ Below w.heap.size w w' := by
  have m0 := Sm.new w ⟨#[]⟩ 0 0 0 (.slice none 0 0)
  have B0 := snew w ⟨#[]⟩ 0 0 0 (.slice none 0 0)
  have c1 : ((n : Int) != 512) = true := by rw [bne_iff_ne]; omega
  go_enter Tryz.func158, Tryz.ntmps158
  go_wp2
  refine bodyPost_ret (results_s2 rfl _ _ w.heap.size _ _ _ _ _ _ rfl rfl m0) rfl ⟨rfl, B0⟩

theorem wpList_ss {ops : Array Oper} {rest : List Oper} {o : Oper} {a : Act} {w : World} {Q : Exit → Act → World → Prop} (hgd : o.guard = none) (hdst : o.dst = none) (x y : Operand) (ho : o.op = .store 40 x y)
    (g : Nat) (T : ByteArray) (e q p : Int) (sa : Option Addr) (s1 s2 : Nat) (hx : a.eval x = .pointer (some ⟨g, 0, none⟩)) (hy : a.eval y = .agg #[.string T, .int .i64 e, .int .i64 q, .int .i64 p, .slice sa s1 s2]) (T0 : ByteArray) (e0 q0 p0 : Int) (s0 : Value) (hg : Sm w g T0 e0 q0 p0 s0)
    (h : wpList Tryz.prog ops Q rest a (w.setRow g #[.string T, .int .i64 e, .int .i64 q, .int .i64 p, .slice sa s1 s2])) : wpList Tryz.prog ops Q (o :: rest) a w := by
  refine wpList_store_row hgd _ x y ho g #[.string T, .int .i64 e, .int .i64 q, .int .i64 p, .slice sa s1 s2] hx hy _ _ hg sizeS rfl (by simp [Value.oneCell']) ?_
  rw [hdst]
  exact h
theorem row_row {w : World} {g r : Nat} {zs : List Int} (h : Row w r zs) (hne : r ≠ g) (ds : Array Value) : Row (w.setRow g ds) r zs := by
  unfold Row at *
  rw [setRow_other w g r ds hne]; exact h
set_option maxHeartbeats 4000000 in
theorem get_mid (b off c : Nat) (zs : List Int) (w : World) (hT : Tab w) (hb : Bs w (some ⟨b, off, none⟩) 512 zs) (hc : 512 ≤ c) (hm : c ≤ maxLen) (s : Sec) (he : s = rs zs) (hM : May s) :
    Calls Tryz.prog 158 #[.slice (some ⟨b, off, none⟩) 512 c] w fun en w' => (∃ g, (sameB (ps s) zs = true ∧ en = .returned (.tuple #[.agg #[.string s.T, .int .i64 s.e, .int .i64 s.q, .int .i64 s.p, .slice (some ⟨g, 0, none⟩) s.l.length s.l.length], .int .i64 0]) ∧ w.heap.size ≤ g ∧ Row w' g s.l) ∨ (sameB (ps s) zs = false ∧ en = .returned (.tuple #[.agg #[.string ⟨#[]⟩, .int .i64 0, .int .i64 0, .int .i64 0, .slice none 0 0], .int .i64 117]))) ∧ Below w.heap.size w w' := by
  have m0 := Sm.new w ⟨#[]⟩ 0 0 0 (.slice none 0 0)
  have B0 := snew w ⟨#[]⟩ 0 0 0 (.slice none 0 0)
  have hl := hb.1
  obtain ⟨k1, k2⟩ := read_may hb.2.1 hl
  obtain ⟨k3, k4, k5, k6, k7⟩ := k2 (he ▸ hM)
  have HB := hid hb
  have HTB := hid hT
  have k0 : bt (sl zs 0 4) = s.T := by rw [he]; rfl
  have hMN : MayN s.T s.e s.q s.p s.l.length := (may_n rfl).1 hM
  have HY : Hid (By s.l) := by show By _; rw [he]; exact sl_by hb.2.1 28 (us zs)
  have HYP : Hid (By (ps s)) := ps_by HY.out
  have HLP := hid (ps_length hM)
  rw [← he] at k3 k4 k5 k6 k7
  clear k1 k2 he hM hT hb
  obtain ⟨T, e, q, p, l⟩ := s
  generalize hPS : ps ⟨T, e, q, p, l⟩ = P at *
  have HPS := hid hPS
  clear hPS
  simp only at k0 k3 k4 k5 k6 k7 hMN HY
  generalize hln : l.length = n at *
  go_enter Tryz.func158, Tryz.ntmps158
  go_wp2_with fail
  refine (cut_ b off c _ hc hm).mono ?_
  rintro x1 w1 ⟨rfl, g1⟩
  replace m0 := m0.kept g1
  replace B0 := bel_bel B0 B0.size g1
  have hw1 := m0.lt
  clear g1
  go_wp2_with fail
  refine (read_ b off zs w1 (HB.out.below B0)).mono ?_
  rintro x2 w2 ⟨g, rfl, hgg, r2, g2⟩
  replace m0 := m0.kept g2
  replace B0 := bel_bel B0 B0.size g2
  rw [k3, k4, k5, k0, ← k7]
  rw [k6] at r2
  have hz2 := g2.size
  have hm2 := m0.lt
  have r2l := r2.lt
  clear k0 k3 k4 k5 k6 k7 g2
  replace m0 := m0.alloc (.cells #[.string T, .int .i64 e, .int .i64 q, .int .i64 p, .slice (some ⟨g, 0, none⟩) n n] 40)
  have m2 := Sm.new w2 T e q p (.slice (some ⟨g, 0, none⟩) n n)
  replace B0 := B0.alloc B0.size (.cells #[.string T, .int .i64 e, .int .i64 q, .int .i64 p, .slice (some ⟨g, 0, none⟩) n n] 40)
  replace r2 : Row (w2.alloc (.cells #[.string T, .int .i64 e, .int .i64 q, .int .i64 p, .slice (some ⟨g, 0, none⟩) n n] 40)) g l := r2.kept (r := none) (World.grownBy_alloc w2 _ _) (by simp)
  have M0 := hid m0
  have M2 := hid m2
  have BB := hid B0
  have R2 := hid r2
  have Y2 := hid ((r2.bs HY.out).len hln)
  have hgw : w.heap.size ≤ g := by omega
  have hgw1 : w.heap.size < g := by omega
  have hsz : (w2.alloc (.cells #[.string T, .int .i64 e, .int .i64 q, .int .i64 p, .slice (some ⟨g, 0, none⟩) n n] 40)).heap.size = w2.heap.size + 1 := by simp
  clear m0 B0 r2
  go_wp2_with fail
  refine (put_y T e q p _ n n l _ (HTB.out.bel BB.out) Y2.out hMN).mono ?_
  rintro x3 w3 ⟨g3, rfl, hg3, r3, G3⟩
  have m3 := M0.out.kept G3
  have n3 := M2.out.kept G3
  have B3 := bel_bel BB.out BB.out.size G3
  have R3 : Hid (Row w3 g l) := R2.out.kept (r := none) (grown_of_below G3) (by simp)
  have Y3 := hid (HB.out.below B3)
  have P3 : Hid (Bs w3 (some ⟨g3, 0, none⟩) 512 P) := by
    have := r3.bs (by rw [HPS.out]; exact HYP.out)
    rw [HPS.out] at this
    exact this.len HLP.out
  have M3 := hid m3
  have d0 := n3.c0
  have d1 := n3.c1
  have d2 := n3.c2
  have d3 := n3.c3
  have d4 := n3.c4
  clear M0 M2 BB R2 Y2 r3 G3 m3 m2
  cases hq : sameB P zs with
  | true =>
    go_wp2_with (first | (go_at_call 98; refine (equal_ _ _ 512 512 512 c P zs w3 P3.out Y3.out).mono ?_; rw [hq]; rintro x4 w4 ⟨rfl, hw⟩; obtain rfl := hw.symm) | (with_reducible show wpList _ _ _ (_ :: _) _ _; refine wpList_ss rfl rfl _ _ rfl w.heap.size T e q p (some ⟨g, 0, none⟩) n n rfl rfl _ _ _ _ _ (by with_reducible exact M3.out) ?_))
    refine bodyPost_ret (results_s2 rfl _ _ w.heap.size T e q p _ _ rfl rfl (M3.out.row T e q p (.slice (some ⟨g, 0, none⟩) n n))) rfl ⟨⟨g, .inl ⟨?_, ?_, hgw, row_row R3.out (by omega) _⟩⟩, bel_row B3 (Nat.le_refl _) _⟩
    · exact hq
    · rfl
  | false =>
    go_wp2_with (first | (go_at_call 98; refine (equal_ _ _ 512 512 512 c P zs w3 P3.out Y3.out).mono ?_; rw [hq]; rintro x4 w4 ⟨rfl, hw⟩; obtain rfl := hw.symm) | (with_reducible show wpList _ _ _ (_ :: _) _ _; refine wpList_ss rfl rfl _ _ rfl w.heap.size ⟨#[]⟩ 0 0 0 none 0 0 rfl rfl _ _ _ _ _ (by with_reducible exact M3.out) ?_))
    refine bodyPost_ret (results_s2 rfl _ _ w.heap.size ⟨#[]⟩ 0 0 0 _ _ rfl rfl (M3.out.row ⟨#[]⟩ 0 0 0 (.slice none 0 0))) rfl ⟨⟨g, .inr ⟨?_, rfl⟩⟩, bel_row B3 (Nat.le_refl _) _⟩
    exact hq

set_option maxHeartbeats 4000000 in
theorem get_bad (b off c : Nat) (zs : List Int) (w : World) (hb : Bs w (some ⟨b, off, none⟩) 512 zs) (hc : 512 ≤ c) (hm : c ≤ maxLen) (hM : ¬ May (rs zs)) :
    Calls Tryz.prog 158 #[.slice (some ⟨b, off, none⟩) 512 c] w fun en w' => en = .returned (.tuple #[.agg #[.string ⟨#[]⟩, .int .i64 0, .int .i64 0, .int .i64 0, .slice none 0 0], .int .i64 117]) ∧ Below w.heap.size w w' := by
  have m0 := Sm.new w ⟨#[]⟩ 0 0 0 (.slice none 0 0)
  have B0 := snew w ⟨#[]⟩ 0 0 0 (.slice none 0 0)
  have hl := hb.1
  have hN : ¬ MayN (bt (sl zs 0 4)) (IntKind.i64.wrap (val (sl zs 4 8))) (IntKind.i64.wrap (val (sl zs 12 8))) (IntKind.i64.wrap (val (sl zs 20 4))) (us zs) := fun h => hM ((read_may hb.2.1 hl).1.1 h)
  have HB := hid hb
  clear hM hb
  go_enter Tryz.func158, Tryz.ntmps158
  go_wp2_with fail
  refine (cut_ b off c _ hc hm).mono ?_
  rintro x1 w1 ⟨rfl, g1⟩
  replace m0 := m0.kept g1
  replace B0 := bel_bel B0 B0.size g1
  clear g1
  go_wp2_with fail
  refine (read_ b off zs w1 (HB.out.below B0)).mono ?_
  rintro x2 w2 ⟨g, rfl, hgg, r2, g2⟩
  replace m0 := m0.kept g2
  replace B0 := bel_bel B0 B0.size g2
  clear g2 r2 HB
  generalize bt (sl zs 0 4) = T at *
  generalize IntKind.i64.wrap (val (sl zs 4 8)) = e at *
  generalize IntKind.i64.wrap (val (sl zs 12 8)) = q at *
  generalize IntKind.i64.wrap (val (sl zs 20 4)) = p at *
  generalize us zs = n at *
  have M0 := hid (m0.alloc (.cells #[.string T, .int .i64 e, .int .i64 q, .int .i64 p, .slice (some ⟨g, 0, none⟩) n n] 40))
  have m2 := Sm.new w2 T e q p (.slice (some ⟨g, 0, none⟩) n n)
  replace B0 := B0.alloc B0.size (.cells #[.string T, .int .i64 e, .int .i64 q, .int .i64 p, .slice (some ⟨g, 0, none⟩) n n] 40)
  clear m0
  go_wp2_with fail
  refine (put_n T e q p _ n n _ hN).mono ?_
  rintro x3 w3 ⟨rfl, G3⟩
  have M3 := hid (M0.out.kept G3)
  have B3 := bel_bel B0 B0.size G3
  clear M0 m2 B0 G3
  go_wp2_with (with_reducible show wpList _ _ _ (_ :: _) _ _; refine wpList_ss rfl rfl _ _ rfl w.heap.size ⟨#[]⟩ 0 0 0 none 0 0 rfl rfl _ _ _ _ _ (by with_reducible exact M3.out) ?_)
  refine bodyPost_ret (results_s2 rfl _ _ w.heap.size ⟨#[]⟩ 0 0 0 _ _ rfl rfl (M3.out.row ⟨#[]⟩ 0 0 0 (.slice none 0 0))) rfl ⟨rfl, bel_row B3 (Nat.le_refl _) _⟩

/-- Get of what is a sector's bytes. -/
theorem get_y (a : Option Addr) (n c : Nat) (zs : List Int) (w : World) (hT : Tab w) (hb : Bs w a n zs) (hc : n ≤ c) (hm : c ≤ maxLen) (s : Sec) (hs : gs zs = some s) :
    Calls Tryz.prog 158 #[.slice a n c] w fun en w' => ∃ g, en = .returned (.tuple #[.agg #[.string s.T, .int .i64 s.e, .int .i64 s.q, .int .i64 s.p, .slice (some ⟨g, 0, none⟩) s.l.length s.l.length], .int .i64 0]) ∧ w.heap.size ≤ g ∧ Row w' g s.l ∧ Below w.heap.size w w' := by
  obtain ⟨hl, hM, hp, he⟩ := gs_some hs
  obtain rfl : n = 512 := by rw [← hb.1]; exact hl
  rcases id hb.2.2 with h0 | ⟨b, off, rfl, _⟩
  · omega
  refine (get_mid b off c zs w hT hb hc hm s he hM).mono ?_
  rintro en w' ⟨⟨g, ⟨_, rfl, h1, h2⟩ | ⟨hf, _⟩⟩, h3⟩
  · exact ⟨g, rfl, h1, h2, h3⟩
  · rw [hp, sameB_self] at hf; cases hf
/-- Get of what is none's. -/
theorem get_n (a : Option Addr) (n c : Nat) (zs : List Int) (w : World) (hT : Tab w) (hb : Bs w a n zs) (hc : n ≤ c) (hm : c ≤ maxLen) (hs : gs zs = none) :
    Calls Tryz.prog 158 #[.slice a n c] w fun en w' => en = .returned (.tuple #[.agg #[.string ⟨#[]⟩, .int .i64 0, .int .i64 0, .int .i64 0, .slice none 0 0], .int .i64 117]) ∧ Below w.heap.size w w' := by
  by_cases hn : n = 512
  · subst hn
    rcases id hb.2.2 with h0 | ⟨b, off, rfl, _⟩
    · omega
    by_cases hM : May (rs zs)
    · refine (get_mid b off c zs w hT hb hc hm _ rfl hM).mono ?_
      rintro en w' ⟨⟨g, ⟨ht, _⟩ | ⟨_, rfl⟩⟩, h3⟩
      · exfalso
        have : ps (rs zs) = zs := of_decide_eq_true ht
        unfold gs at hs
        rw [if_pos ⟨hb.1, hM, this⟩] at hs
        cases hs
      · exact ⟨rfl, h3⟩
    · exact get_bad b off c zs w hb hc hm hM
  · exact get_len a n c w hn
end Go.Proofs.YtjajcbjodokfnaaGreatDoor
