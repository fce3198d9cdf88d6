import Derived.Test.YteeapmcpbmjpmaaGreatUC
namespace Go.Proofs.YteeapmcpbmjpmaaGreat
set_option maxRecDepth 100000
open Go.RowKit Go.Shelf Go.Maps
set_option linter.unusedVariables false

theorem num_ (x : Int) (w : World) : Calls Tryz.prog 15 #[.int .i64 x] w fun e w' => e = .returned (.int .i64 x) ∧ w' = w := by
  go_enter Tryz.func15, Tryz.ntmps15
  go_wp2
  go_ret
  exact ⟨rfl, rfl⟩
set_option maxHeartbeats 1000000 in
theorem sameRow_ (ka va kb vb : Option Addr) (kn kc vn vc ln lc un uc : Nat) (k v l u : List Int) (w : World) (h1 : Bs w ka kn k) (h2 : Bs w va vn v) (h3 : Bs w kb ln l) (h4 : Bs w vb un u) (b1 : kn ≤ maxLen) (b2 : vn ≤ maxLen) (b3 : ln ≤ maxLen) (b4 : un ≤ maxLen) :
    Calls Tryz.prog 45 #[.agg #[.slice ka kn kc, .slice va vn vc], .agg #[.slice kb ln lc, .slice vb un uc]] w fun e w' => e = .returned (.bool (sameB k l && sameB v u)) ∧ Below w.heap.size w w' := by
  have B : Below w.heap.size w ((w.alloc (.cells #[.slice ka kn kc, .slice va vn vc] 55)).alloc (.cells #[.slice kb ln lc, .slice vb un uc] 55)) := ((Below.refl w.heap.size w).alloc (Nat.le_refl _) _).alloc (by simp) _
  have k1 := fun wx (a : Bs wx ka kn k) (b : Bs wx kb ln l) => same_d ka kb kn kc ln lc k l wx a b b1 b3
  have k2 := fun wx (a : Bs wx va vn v) (b : Bs wx vb un u) => same_d va vb vn vc un uc v u wx a b b2 b4
  obtain ⟨p, HP⟩ : ∃ p, Hid (sameB k l = p) := ⟨_, rfl⟩
  obtain ⟨q, HQ⟩ : ∃ q, Hid (sameB v u = q) := ⟨_, rfl⟩
  rw [HP.out] at k1 ⊢
  rw [HQ.out] at k2 ⊢
  have H1 := hid h1
  have H2 := hid h2
  have H3 := hid h3
  have H4 := hid h4
  have HB := hid B
  clear h1 h2 h3 h4 B
  have hnew := heap_alloc_new (w.alloc (.cells #[.slice ka kn kc, .slice va vn vc] 55)) (.cells #[.slice kb ln lc, .slice vb un uc] 55)
  rw [World.size_alloc] at hnew
  have hnew0 : ((w.alloc (.cells #[.slice ka kn kc, .slice va vn vc] 55)).alloc (.cells #[.slice kb ln lc, .slice vb un uc] 55)).heap[w.heap.size]? = _ := (Below.heap_alloc _ _ _ (by simp)).trans (heap_alloc_new w (.cells #[.slice ka kn kc, .slice va vn vc] 55))
  have HN1 := hid hnew
  have HN0 := hid hnew0
  clear hnew hnew0
  go_enter Tryz.func45, Tryz.ntmps45
  go_wp2_with fail
  refine (k1 _ (H1.out.below HB.out) (H3.out.below HB.out)).mono ?_
  rintro e w1 ⟨rfl, d1⟩
  have HB1 := hid (bel_bel HB.out HB.out.size d1.below)
  have x1 : w1.cell? ⟨w.heap.size, 1, none⟩ = some (.slice va vn vc) := by rw [cell_of_row w1 w.heap.size 1 _ 55 (0, 0) ((d1.at _).trans HN0.out)]; rfl
  have x2 : w1.cell? ⟨w.heap.size + 1, 1, none⟩ = some (.slice vb un uc) := by rw [cell_of_row w1 (w.heap.size + 1) 1 _ 55 (0, 0) ((d1.at _).trans HN1.out)]; rfl
  clear k1 d1 HN0 HN1
  go_wp2_with fail
  refine (k2 _ (H2.out.below HB1.out) (H4.out.below HB1.out)).mono ?_
  rintro e w2 ⟨rfl, d2⟩
  have HB2 := hid (bel_bel HB1.out HB1.out.size d2.below)
  clear k2 d2 x1 x2
  cases p
  · go_wp2_with fail
    go_ret
    exact ⟨rfl, HB2.out⟩
  · go_wp2_with fail
    go_ret
    exact ⟨rfl, HB2.out⟩
theorem tab_take_step {l m : Tab} {k : Nat} (h1 : k < l.length) (h2 : k < m.length) (h : l.take k = m.take k) (e : l.getD k ([], []) = m.getD k ([], [])) : l.take (k + 1) = m.take (k + 1) := by
  rw [List.take_succ_eq_append_getElem h1, List.take_succ_eq_append_getElem h2, h]
  simp [List.getD, h1, h2] at e
  rw [e]
def sameT (l m : Tab) : Bool := decide (l = m)
theorem sameT_at {l m : Tab} {k : Nat} (e : l.getD k ([], []) ≠ m.getD k ([], [])) : sameT l m = false := decide_eq_false fun f => e (by rw [f])
theorem sameT_len {l m : Tab} (e : l.length ≠ m.length) : sameT l m = false := decide_eq_false fun f => e (by rw [f])
set_option maxHeartbeats 1000000 in
theorem sameRows_ (V U : Nat → Prop) (a b : Option Addr) (n c m d : Nat) (l r : Tab) (w : World) (h1 : Rl w V a n l) (h2 : Rl w U b m r) (hn : n ≤ 1000000000) (hm : m ≤ 1000000000) :
    Calls Tryz.prog 14 #[.slice a n c, .slice b m d] w fun e w' => e = .returned (.bool (sameT l r)) ∧ Below w.heap.size w w' := by
  have H1 := hid h1
  have H2 := hid h2
  have L1 := hid h1.len
  have L2 := hid h2.len
  clear h1 h2
  by_cases hnm : n = m
  · subst hnm
    have hne : ((n : Int) != (n : Int)) = false := by simp
    go_enter Tryz.func14, Tryz.ntmps14
    go_wp2_with fail
    clear hne
    go_loopw [5] (fun i wr => ∃ k : Nat, k ≤ n ∧ i = .int .i64 k ∧ Hid (l.take k = r.take k) ∧ Hid (Below w.heap.size w wr)) (fun i _ => n - (intOf i).toNat)
    case atStart => exact ⟨0, by omega, rfl, rfl, Below.refl _ _⟩
    case round =>
      obtain ⟨k, hk, rfl, HE, HB⟩ := hrel
      by_cases hlt : k < n
      · have hI : (k : Int) < n := by omega
        obtain ⟨ba, oa, ka, kc, va, vc, kn, vn, rfl, hkn, hvn, x0, x1, v1, v2⟩ := H1.out.at hlt
        obtain ⟨bb, ob, kb, lc, vb, uc, ln, un, rfl, hln, hun, y0, y1, u1, u2⟩ := H2.out.at hlt
        have x0 := (HB.out.cell (World.block_lt_of_cell? w _ x0)).trans x0
        have x1 := (HB.out.cell (World.block_lt_of_cell? w _ x1)).trans x1
        have y0 := (HB.out.cell (World.block_lt_of_cell? w _ y0)).trans y0
        have y1 := (HB.out.cell (World.block_lt_of_cell? w _ y1)).trans y1
        have ks := fun wx (hb : Below w.heap.size w wx) => sameRow_ ka va kb vb kn kc vn vc ln lc un uc _ _ _ _ wx (v1.bs.below hb) (v2.bs.below hb) (u1.bs.below hb) (u2.bs.below hb) (Nat.le_trans v1.nc v1.cm) (Nat.le_trans v2.nc v2.cm) (Nat.le_trans u1.nc u1.cm) (Nat.le_trans u2.nc u2.cm)
        have hst : Hid ((sameB (l.getD k ([], [])).1 (r.getD k ([], [])).1 && sameB (l.getD k ([], [])).2 (r.getD k ([], [])).2) = true → l.take (k + 1) = r.take (k + 1)) := fun h => by
          rw [Bool.and_eq_true] at h
          unfold sameB at h
          exact tab_take_step (by rw [L1.out]; exact hlt) (by rw [L2.out]; exact hlt) HE.out (Prod.ext (of_decide_eq_true h.1) (of_decide_eq_true h.2))
        have hno : Hid ((sameB (l.getD k ([], [])).1 (r.getD k ([], [])).1 && sameB (l.getD k ([], [])).2 (r.getD k ([], [])).2) = false → sameT l r = false) := fun h => sameT_at (k := k) fun e => by
          rw [e, sameB_self, sameB_self] at h
          cases h
        generalize (sameB (l.getD k ([], [])).1 (r.getD k ([], [])).1 && sameB (l.getD k ([], [])).2 (r.getD k ([], [])).2) = q at *
        clear v1 v2 u1 u2 hkn hvn hln hun
        have HBD : Hid (Below w.heap.size w wr.drew) := HB.out.trans ⟨rfl, rfl, rfl, Nat.le_refl _, fun _ _ => rfl⟩
        have hba := World.block_lt_of_cell? wr _ x0
        have hbb := World.block_lt_of_cell? wr _ y0
        have HX := hid x0
        have HX1 := hid x1
        have HY := hid y0
        have HY1 := hid y1
        go_wp2_with fail
        go_region_held (fun wx => wx.cell? ⟨ba, oa + k * 2, none⟩ = some (.slice ka kn kc) ∧ wx.cell? ⟨ba, oa + k * 2 + 1, none⟩ = some (.slice va vn vc) ∧ wx.cell? ⟨bb, ob + k * 2, none⟩ = some (.slice kb ln lc) ∧ wx.cell? ⟨bb, ob + k * 2 + 1, none⟩ = some (.slice vb un uc)) (go_keep) (first | (go_at_call 45; refine (ks _ (by exact HBD.out)).mono ?_; rintro e w2 ⟨rfl, g2⟩; have G2 : Below wr.heap.size wr w2 := ⟨g2.os, g2.tape, g2.output, g2.size, g2.block⟩; have z0 := (G2.cell (p := ⟨ba, oa + k * 2, none⟩) hba).trans HX.out; have z1 := (G2.cell (p := ⟨ba, oa + k * 2 + 1, none⟩) hba).trans HX1.out; have z2 := (G2.cell (p := ⟨bb, ob + k * 2, none⟩) hbb).trans HY.out; have z3 := (G2.cell (p := ⟨bb, ob + k * 2 + 1, none⟩) hbb).trans HY1.out; have HB2 := hid (bel_bel HB.out HB.out.size G2); clear g2 G2))
        clear ks
        cases q with
        | true =>
          have HE2 := hid (hst.out rfl)
          go_wp2_with fail
          go_roundw
          case rel => exact ⟨k + 1, by omega, by go_num, HE2, HB2⟩
          case measure => simp [intOf]; omega
        | false =>
          have HR := hid (hno.out rfl)
          go_wp2_with fail
          go_ret
          exact ⟨by rw [HR.out]; rfl, HB2.out⟩
      · have hI : ¬ (k : Int) < n := by omega
        obtain rfl : k = n := by omega
        have HR : Hid (sameT l r = true) := by
          have := HE.out
          rw [List.take_of_length_le (by rw [L1.out]; exact Nat.le_refl _), List.take_of_length_le (by rw [L2.out]; exact Nat.le_refl _)] at this
          exact decide_eq_true this
        go_wp2_with fail
        go_ret
        exact ⟨by rw [HR.out]; rfl, HB.out⟩
  · have hne : ((n : Int) != (m : Int)) = true := by rw [bne_iff_ne]; omega
    have HR : Hid (sameT l r = false) := sameT_len (by rw [L1.out, L2.out]; exact hnm)
    go_enter Tryz.func14, Tryz.ntmps14
    go_wp2_with fail
    go_ret
    exact ⟨by rw [HR.out]; rfl, Below.refl _ _⟩
theorem set_take_step {l m : List Sx} {k : Nat} (h1 : k < l.length) (h2 : k < m.length) (h : l.take k = m.take k) (e : l.getD k default = m.getD k default) : l.take (k + 1) = m.take (k + 1) := by
  rw [take_snoc h1, take_snoc h2, h, e]
def sameS (l m : List Sx) : Bool := decide (l = m)
theorem sameS_at {l m : List Sx} {k : Nat} (e : l.getD k default ≠ m.getD k default) : sameS l m = false := decide_eq_false fun f => e (by rw [f])
theorem sameS_len {l m : List Sx} (e : l.length ≠ m.length) : sameS l m = false := decide_eq_false fun f => e (by rw [f])
set_option maxHeartbeats 1000000 in
theorem sameSets_ (V U : Nat → Prop) (a b : Option Addr) (n c m d : Nat) (l r : List Sx) (w : World) (h1 : Sl w V a n l) (h2 : Sl w U b m r) (hn : n ≤ 1000000000) (hm : m ≤ 1000000000) :
    Calls Tryz.prog 21 #[.slice a n c, .slice b m d] w fun e w' => e = .returned (.bool (sameS l r)) ∧ Below w.heap.size w w' := by
  have H1 := hid h1
  have H2 := hid h2
  have L1 := hid h1.len
  have L2 := hid h2.len
  clear h1 h2
  by_cases hnm : n = m
  · subst hnm
    have hne : ((n : Int) != (n : Int)) = false := by simp
    go_enter Tryz.func21, Tryz.ntmps21
    go_wp2_with fail
    clear hne
    go_loopw [5] (fun i wr => ∃ k : Nat, k ≤ n ∧ i = .int .i64 k ∧ Hid (l.take k = r.take k) ∧ Hid (Below w.heap.size w wr)) (fun i _ => n - (intOf i).toNat)
    case atStart => exact ⟨0, by omega, rfl, rfl, Below.refl _ _⟩
    case round =>
      obtain ⟨k, hk, rfl, HE, HB⟩ := hrel
      by_cases hlt : k < n
      · have hI : (k : Int) < n := by omega
        obtain ⟨ba, oa, ka, kc, va, vc, kn, vn, rfl, hkn, hvn, x0, x1, x2, v1, v2⟩ := H1.out.at hlt
        obtain ⟨bb, ob, kb, lc, vb, uc, ln, un, rfl, hln, hun, y0, y1, y2, u1, u2⟩ := H2.out.at hlt
        have ha := World.block_lt_of_cell? w _ x0
        have hb := World.block_lt_of_cell? w _ y0
        have hA : Hid (∀ wx, Below w.heap.size w wx → wx.cell? ⟨ba, oa + k * 3, none⟩ = some (.slice ka kn kc) ∧ wx.cell? ⟨ba, oa + k * 3 + 1, none⟩ = some (.slice va vn vc) ∧ wx.cell? ⟨ba, oa + k * 3 + 2, none⟩ = some (.bool (l.getD k default).g)) := fun wx h => ⟨(h.cell (p := ⟨ba, oa + k * 3, none⟩) ha).trans x0, (h.cell (p := ⟨ba, oa + k * 3 + 1, none⟩) ha).trans x1, (h.cell (p := ⟨ba, oa + k * 3 + 2, none⟩) ha).trans x2⟩
        have hB : Hid (∀ wx, Below w.heap.size w wx → wx.cell? ⟨bb, ob + k * 3, none⟩ = some (.slice kb ln lc) ∧ wx.cell? ⟨bb, ob + k * 3 + 1, none⟩ = some (.slice vb un uc) ∧ wx.cell? ⟨bb, ob + k * 3 + 2, none⟩ = some (.bool (r.getD k default).g)) := fun wx h => ⟨(h.cell (p := ⟨bb, ob + k * 3, none⟩) hb).trans y0, (h.cell (p := ⟨bb, ob + k * 3 + 1, none⟩) hb).trans y1, (h.cell (p := ⟨bb, ob + k * 3 + 2, none⟩) hb).trans y2⟩
        have k1 := fun wx (hb : Below w.heap.size w wx) => same_d ka kb kn kc ln lc _ _ wx (v1.bs.below hb) (u1.bs.below hb) (Nat.le_trans v1.nc v1.cm) (Nat.le_trans u1.nc u1.cm)
        have k2 := fun wx (hb : Below w.heap.size w wx) => same_d va vb vn vc un uc _ _ wx (v2.bs.below hb) (u2.bs.below hb) (Nat.le_trans v2.nc v2.cm) (Nat.le_trans u2.nc u2.cm)
        have hst : Hid (sameB (l.getD k default).k (r.getD k default).k = true → sameB (l.getD k default).v (r.getD k default).v = true → (l.getD k default).g = (r.getD k default).g → l.take (k + 1) = r.take (k + 1)) := fun h h' h'' => by
          unfold sameB at h h'
          refine set_take_step (by rw [L1.out]; exact hlt) (by rw [L2.out]; exact hlt) HE.out ?_
          have e1 := of_decide_eq_true h
          have e2 := of_decide_eq_true h'
          generalize l.getD k default = p at *
          generalize r.getD k default = q at *
          obtain ⟨pk, pv, pg⟩ := p
          obtain ⟨qk, qv, qg⟩ := q
          simp only at e1 e2 h''
          rw [e1, e2, h'']
        have hno : Hid (¬ (sameB (l.getD k default).k (r.getD k default).k = true ∧ sameB (l.getD k default).v (r.getD k default).v = true ∧ (l.getD k default).g = (r.getD k default).g) → sameS l r = false) := fun h => sameS_at (k := k) fun e => h (by rw [e, sameB_self, sameB_self]; exact ⟨rfl, rfl, rfl⟩)
        generalize sameB (l.getD k default).k (r.getD k default).k = p at *
        generalize sameB (l.getD k default).v (r.getD k default).v = q at *
        generalize (l.getD k default).g = gl at *
        generalize (r.getD k default).g = gr at *
        clear v1 v2 u1 u2 hkn hvn hln hun x0 x1 x2 y0 y1 y2
        obtain ⟨x0, x1, x2⟩ := hA.out wr HB.out
        obtain ⟨y0, y1, y2⟩ := hB.out wr HB.out
        have HBD : Hid (Below w.heap.size w wr.drew) := HB.out.trans ⟨rfl, rfl, rfl, Nat.le_refl _, fun _ _ => rfl⟩
        go_wp2_with fail
        go_region_held (fun wx => wx.cell? ⟨ba, oa + k * 3, none⟩ = some (.slice ka kn kc) ∧ wx.cell? ⟨bb, ob + k * 3, none⟩ = some (.slice kb ln lc)) (go_keep) (first | (go_at_call 27; refine (k1 _ (by exact HBD.out)).mono ?_; rintro e w2 ⟨rfl, g2⟩; have HB2 := hid (bel_bel HBD.out HBD.out.size g2.below); have z0 := (hA.out w2 HB2.out).1; have z1 := (hB.out w2 HB2.out).1; clear g2))
        clear k1 x0 x1 x2 y0 y1 y2
        obtain ⟨-, x1, x2⟩ := hA.out w2 HB2.out
        obtain ⟨-, y1, y2⟩ := hB.out w2 HB2.out
        have HBE : Hid (Below w.heap.size w w2.drew) := HB2.out.trans ⟨rfl, rfl, rfl, Nat.le_refl _, fun _ _ => rfl⟩
        go_wp2_with fail
        go_region_held (fun wx => wx.cell? ⟨ba, oa + k * 3 + 1, none⟩ = some (.slice va vn vc) ∧ wx.cell? ⟨bb, ob + k * 3 + 1, none⟩ = some (.slice vb un uc)) (go_keep) (first | (go_at_call 27; refine (k2 _ (by exact HBE.out)).mono ?_; rintro e w3 ⟨rfl, g3⟩; have HB3 := hid (bel_bel HBE.out HBE.out.size g3.below); have z2 := (hA.out w3 HB3.out).2.1; have z3 := (hB.out w3 HB3.out).2.1; clear g3))
        clear k2 x1 x2 y1 y2 z0 z1 z2 z3
        obtain ⟨-, -, x2⟩ := hA.out w3 HB3.out
        obtain ⟨-, -, y2⟩ := hB.out w3 HB3.out
        have HB4 : Hid (Below w.heap.size w w3.drew) := HB3.out.trans ⟨rfl, rfl, rfl, Nat.le_refl _, fun _ _ => rfl⟩
        by_cases hall : p = true ∧ q = true ∧ gl = gr
        · obtain ⟨rfl, rfl, rfl⟩ := hall
          have HE2 := hid (hst.out rfl rfl rfl)
          have hbb : (gl != gl) = false := by simp
          clear hst hno
          go_wp2_with fail
          go_region
          go_wp2_with fail
          go_roundw
          case rel => exact ⟨k + 1, by omega, by go_num, HE2, HB4⟩
          case measure => simp [intOf]; omega
        · have HR := hid (hno.out hall)
          clear hst hno
          cases p with
          | false =>
            go_wp2_with fail
            go_region
            go_wp2_with fail
            go_ret
            exact ⟨by rw [HR.out]; rfl, HB4.out⟩
          | true =>
            cases q with
            | false =>
              go_wp2_with fail
              go_region
              go_wp2_with fail
              go_ret
              exact ⟨by rw [HR.out]; rfl, HB4.out⟩
            | true =>
              have hne : gl ≠ gr := fun e => hall ⟨rfl, rfl, e⟩
              cases gl with
              | true =>
                obtain rfl : gr = false := by cases gr with | true => exact absurd rfl hne | false => rfl
                clear hall hne
                go_wp2_with fail
                go_region
                go_wp2_with fail
                go_ret
                exact ⟨by rw [HR.out]; rfl, HB4.out⟩
              | false =>
                obtain rfl : gr = true := by cases gr with | false => exact absurd rfl hne | true => rfl
                clear hall hne
                go_wp2_with fail
                go_region
                go_wp2_with fail
                go_ret
                exact ⟨by rw [HR.out]; rfl, HB4.out⟩
      · have hI : ¬ (k : Int) < n := by omega
        obtain rfl : k = n := by omega
        have HR : Hid (sameS l r = true) := by
          have := HE.out
          rw [List.take_of_length_le (by rw [L1.out]; exact Nat.le_refl _), List.take_of_length_le (by rw [L2.out]; exact Nat.le_refl _)] at this
          exact decide_eq_true this
        go_wp2_with fail
        go_ret
        exact ⟨by rw [HR.out]; rfl, HB.out⟩
  · have hne : ((n : Int) != (m : Int)) = true := by rw [bne_iff_ne]; omega
    have HR : Hid (sameS l r = false) := sameS_len (by rw [L1.out, L2.out]; exact hnm)
    go_enter Tryz.func21, Tryz.ntmps21
    go_wp2_with fail
    go_ret
    exact ⟨by rw [HR.out]; rfl, Below.refl _ _⟩
end Go.Proofs.YteeapmcpbmjpmaaGreat
