import Derived.Test.YtcbmgpmjnehjdaaGreatP7
import Derived.Deep.Cut
namespace Go.Proofs.YtcbmgpmjnehjdaaGreat
set_option maxRecDepth 100000
open Go.RowKit
set_option linter.unusedVariables false

/-! What these bytes begin with. -/
def g0 (l : List Int) : Int := l.getD 0 0
def gm (l : List Int) : Nat := nb (g0 l) / 8
def gs7 (l : List Int) : List Int := (l.drop 2).take (gm l)
def gk (l : List Int) : Bool := decide (2 ≤ l.length ∧ 0 < gm l ∧ 2 + gm l ≤ l.length) && vp (g0 l) (ah (gs7 l)) (al (gs7 l)) (l.getD 1 0)
def qF (l : List Int) : Int := if gk l then g0 l else 0
def qH (l : List Int) : Int := if gk l then ah (gs7 l) else 0
def qL (l : List Int) : Int := if gk l then al (gs7 l) else 0
def qB (l : List Int) : Int := if gk l then l.getD 1 0 else 0
def qN (l : List Int) : Int := if gk l then ((2 + gm l : Nat) : Int) else 0
def qE (l : List Int) : Int := if gk l then 0 else 70
theorem q7_bad {l : List Int} (h : gk l = false) : qF l = 0 ∧ qH l = 0 ∧ qL l = 0 ∧ qB l = 0 ∧ qN l = 0 ∧ qE l = 70 := by unfold qF qH qL qB qN qE; rw [h]; exact ⟨rfl, rfl, rfl, rfl, rfl, rfl⟩
theorem q7_good {l : List Int} (h : gk l = true) : qF l = g0 l ∧ qH l = ah (gs7 l) ∧ qL l = al (gs7 l) ∧ qB l = l.getD 1 0 ∧ qN l = ((2 + gm l : Nat) : Int) ∧ qE l = 0 := by unfold qF qH qL qB qN qE; rw [h]; exact ⟨rfl, rfl, rfl, rfl, rfl, rfl⟩
theorem sizep : (Tryz.prog.info? 121).map (·.size) = some 4 := by kernel_rfl
theorem Pm.row {w : World} {g : Nat} {F H L B : Int} (h : Pm w g F H L B) (F' H' L' B' : Int) : Pm (w.setRow g #[.int .i64 F', .int .u64 H', .int .u64 L', .int .i64 B']) g F' H' L' B' := setRow_heap w g _ _ _ _ h
theorem wpList_spx {ops : Array Oper} {rest : List Oper} {o : Oper} {a : Act} {w : World} {Q : Exit → Act → World → Prop} (hgd : o.guard = none) (hdst : o.dst = none) (x y : Operand) (ho : o.op = .store 121 x y)
    (g : Nat) (F H L B : Int) (hx : a.eval x = .pointer (some ⟨g, 0, none⟩)) (hy : a.eval y = .agg #[.int .i64 F, .int .u64 H, .int .u64 L, .int .i64 B]) (F0 H0 L0 B0 : Int) (hg : Pm w g F0 H0 L0 B0)
    (h : wpList Tryz.prog ops Q rest a (w.setRow g #[.int .i64 F, .int .u64 H, .int .u64 L, .int .i64 B])) : wpList Tryz.prog ops Q (o :: rest) a w := by
  refine wpList_store_row hgd _ x y ho g #[.int .i64 F, .int .u64 H, .int .u64 L, .int .i64 B] hx hy _ _ hg sizep rfl (by simp [Value.oneCell']) ?_
  rw [hdst]
  exact h
theorem results_p3 {fn : Func} {p u v : Tmp} (h : fn.results = #[.cell p 121, .tmp u, .tmp v]) (tmps : Array Value) (w : World) (g : Nat) (F H L B : Int) (x y : Value)
    (hp : tmps.getD p undef = .pointer (some ⟨g, 0, none⟩)) (hu : tmps.getD u undef = x) (hv : tmps.getD v undef = y) (hg : Pm w g F H L B) :
    (results fn tmps).run Tryz.prog w = .ok (.tuple #[.agg #[.int .i64 F, .int .u64 H, .int .u64 L, .int .i64 B], x, y]) w := by
  have hl := run_loadVar_row (P := Tryz.prog) w g 121 121 #[.int .i64 F, .int .u64 H, .int .u64 L, .int .i64 B] (0, 0) _ hg Tryz.underlying121 rfl sizep
  have hp' : tmps[p]?.getD undef = .pointer (some ⟨g, 0, none⟩) := by simpa using hp
  have hu' : tmps[u]?.getD undef = x := by simpa using hu
  have hv' : tmps[v]?.getD undef = y := by simpa using hv
  simp [results, h, hp', hu', hv', asAddr, hl]
theorem aval_in {S : List Int} {m : Nat} (hb : ∀ z ∈ S, 0 ≤ z ∧ z ≤ 255) (hl : S.length = m) (hm : m ≤ 16) : InU (ah S) ∧ InU (al S) := by
  have hV := val_bound S hb
  have hp : (256 : Int) ^ S.length ≤ 340282366920938463463374607431768211456 := by
    rw [hl]
    by_cases e : m = 16
    · rw [e]; decide
    · exact Int.le_trans (pow256_15 m (by omega)) (by decide)
  unfold ah al InU
  generalize val S = V at *
  omega
set_option linter.unusedSimpArgs false in
set_option maxHeartbeats 1000000 in
theorem rf7Get_ (a : Option Addr) (n c : Nat) (zs : List Int) (w : World) (hb : Bs w a n zs) (hnc : n ≤ c) (hcm : c ≤ maxLen) :
    Calls Tryz.prog 66 #[.slice a n c] w fun e w' => e = .returned (.tuple #[.agg #[.int .i64 (qF zs), .int .u64 (qH zs), .int .u64 (qL zs), .int .i64 (qB zs)], .int .i64 (qN zs), .int .i64 (qE zs)]) ∧ Below w.heap.size w w' := by
  have B0 := pnew w 0 0 0 0
  have m0 := Pm.new w 0 0 0 0
  unfold maxLen at hcm
  have HQB := hid (q7_bad (l := zs))
  have HBAD : Hid (gk zs = false → Ending.returned (.tuple #[.agg #[.int .i64 0, .int .u64 0, .int .u64 0, .int .i64 0], .int .i64 0, .int .i64 70]) = .returned (.tuple #[.agg #[.int .i64 (qF zs), .int .u64 (qH zs), .int .u64 (qL zs), .int .i64 (qB zs)], .int .i64 (qN zs), .int .i64 (qE zs)])) := fun h => by
    obtain ⟨a1, a2, a3, a4, a5, a6⟩ := q7_bad h
    rw [a1, a2, a3, a4, a5, a6]
  by_cases h2 : n < 2
  · have HE : Hid (gk zs = false) := by
      show _ = _
      unfold gk
      rw [decide_eq_false (fun h => by have := h.1; rw [hb.1] at this; omega), Bool.false_and]
    have hI : (n : Int) < 2 := by omega
    clear hb h2
    go_enter Tryz.func66, Tryz.ntmps66
    go_wp2_with (refine wpList_spx rfl rfl _ _ rfl w.heap.size 0 0 0 0 rfl rfl 0 0 0 0 (by with_reducible exact m0) ?_)
    refine bodyPost_ret (v := .tuple #[.agg #[.int .i64 0, .int .u64 0, .int .u64 0, .int .i64 0], .int .i64 0, .int .i64 70]) ?_ rfl ⟨HBAD.out HE.out, bel_row B0 (Nat.le_refl _) _⟩
    exact results_p3 rfl _ _ w.heap.size 0 0 0 0 _ _ rfl rfl rfl (m0.row 0 0 0 0)
  · obtain ⟨hl, hby, hcs⟩ := hb
    obtain ⟨b, off, rfl, hc⟩ : ∃ b off, a = some ⟨b, off, none⟩ ∧ ∀ i, i < n → w.cell? ⟨b, off + i, none⟩ = some (.int .u8 (zs.getD i 0)) := by
      rcases hcs with h | h
      · omega
      · exact h
    have HC := hid hc
    have HLB : Hid (b < w.heap.size) := World.block_lt_of_cell? w _ (hc 0 (by omega))
    have HB := hid hby
    have HL := hid hl
    have z0 := (B0.cell HLB.out).trans (hc 0 (by omega))
    have z1 := (B0.cell HLB.out).trans (hc 1 (by omega))
    rw [Nat.add_zero] at z0
    have y0 := getD_byte7 hby 0
    have y1 := getD_byte7 hby 1
    have k1 := fun w => refBits_ (zs.getD 0 0) w
    have HGM : Hid (gm zs = nb (zs.getD 0 0) / 8) := rfl
    have hI : ¬ (n : Int) < 2 := by omega
    clear hc hcs hl hby
    have HG0' : Hid (g0 zs = zs.getD 0 0) := rfl
    obtain ⟨x, Hx⟩ : ∃ x, Hid (zs.getD 0 0 = x) := ⟨_, rfl⟩
    obtain ⟨y, Hy⟩ : ∃ y, Hid (zs.getD 1 0 = y) := ⟨_, rfl⟩
    rw [Hx.out] at z0 y0 HGM HG0'
    simp only [Hx.out] at k1
    rw [Hy.out] at z1 y1
    go_enter Tryz.func66, Tryz.ntmps66
    go_wp2_with fail
    refine (k1 _).mono ?_
    rintro e w1 ⟨rfl, rfl⟩
    by_cases h4 : x = 4 ∨ x = 6
    · rcases h4 with h4 | h4
      · subst h4
        have HG4 : Hid (gm zs = 4) := HGM.out
        have HG0 : Hid (g0 zs = 4) := HG0'.out
        have hnb : nb 4 = 32 := by decide
        rw [hnb]
        clear y0 hnb HGM k1 HG0'
        by_cases hlen : n < 6
        · have HE : Hid (gk zs = false) := by
            show _ = _
            unfold gk
            rw [decide_eq_false (fun h => by have := h.2.2; rw [HL.out, HG4.out] at this; omega), Bool.false_and]
          have hI3 : (n : Int) < 6 := by omega
          go_wp2_with (refine wpList_spx rfl rfl _ _ rfl w.heap.size 0 0 0 0 rfl rfl 0 0 0 0 (by with_reducible exact m0) ?_)
          refine bodyPost_ret (v := .tuple #[.agg #[.int .i64 0, .int .u64 0, .int .u64 0, .int .i64 0], .int .i64 0, .int .i64 70]) ?_ rfl ⟨HBAD.out HE.out, bel_row B0 (Nat.le_refl _) _⟩
          exact results_p3 rfl _ _ w.heap.size 0 0 0 0 _ _ rfl rfl rfl (m0.row 0 0 0 0)
        · have hI3 : ¬ (n : Int) < 6 := by omega
          have hc2 : (6 : Int) ≤ (c : Int) := by omega
          have hc3 : ¬ c = 2 := by omega
          have HS : Hid (gs7 zs = (zs.drop 2).take 4) := by show _ = _; unfold gs7; rw [HG4.out]
          have hsl : ((zs.drop 2).take 4).length = 4 := by rw [List.length_take, List.length_drop, HL.out]; omega
          have hsb : ∀ z ∈ (zs.drop 2).take 4, 0 ≤ z ∧ z ≤ 255 := fun z hz => HB.out z (List.mem_of_mem_drop (List.mem_of_mem_take hz))
          have k2 := fun w c hc => refAddr_ b (off + 2) 4 c ((zs.drop 2).take 4) w hsl (by omega) hsb hc
          have HU := hid (aval_in hsb hsl (by omega))
          have HGK : Hid (gk zs = vp 4 (ah ((zs.drop 2).take 4)) (al ((zs.drop 2).take 4)) (zs.getD 1 0)) := by
            show _ = _
            unfold gk
            rw [decide_eq_true ⟨by rw [HL.out]; omega, by rw [HG4.out]; omega, by rw [HL.out, HG4.out]; omega⟩, Bool.true_and, HG0.out, HS.out]
          have HGD : Hid (gk zs = true → Ending.returned (.tuple #[.agg #[.int .i64 4, .int .u64 (ah ((zs.drop 2).take 4)), .int .u64 (al ((zs.drop 2).take 4)), .int .i64 (zs.getD 1 0)], .int .i64 6, .int .i64 0]) = .returned (.tuple #[.agg #[.int .i64 (qF zs), .int .u64 (qH zs), .int .u64 (qL zs), .int .i64 (qB zs)], .int .i64 (qN zs), .int .i64 (qE zs)])) := fun h => by
            obtain ⟨a1, a2, a3, a4, a5, a6⟩ := q7_good h
            rw [a1, a2, a3, a4, a5, a6, HG0.out, HS.out, HG4.out]
            rfl
          have HCC : Hid (∀ (w' : World), Below w.heap.size w w' → ∀ i, i < 4 → w'.cell? ⟨b, off + 2 + i, none⟩ = some (.int .u8 (((zs.drop 2).take 4).getD i 0))) := fun w' hw i hi => by
            rw [Nat.add_assoc, (hw.cell HLB.out).trans (HC.out (2 + i) (by omega))]
            simp only [List.getD, List.getElem?_take, if_pos hi, List.getElem?_drop]
          rw [Hy.out] at HGK HGD
          generalize (zs.drop 2).take 4 = S at *
          have k3 := fun w => rf7Valid_ 4 (ah S) (al S) y w HU.out.1 HU.out.2 (by unfold InI; omega)
          obtain ⟨X, HX⟩ : ∃ X, Hid (ah S = X) := ⟨_, rfl⟩
          obtain ⟨Y, HY⟩ : ∃ Y, Hid (al S = Y) := ⟨_, rfl⟩
          rw [HX.out, HY.out] at k3 HGK HGD
          simp only [HX.out, HY.out] at k2
          have haf : af 4 = 4 := by decide
          rw [haf] at k2
          clear hsl hsb haf HB
          go_wp2_with fail
          go_cut [6] from 28 (fun v wx => ∃ gp, v = .pointer (some ⟨gp, 0, none⟩) ∧ w.heap.size < gp ∧ Pm wx w.heap.size 0 0 0 0 ∧ Pm wx gp 4 X Y y ∧ Below w.heap.size w wx)
          case first =>
            refine wp_region_held_drew (S := fun wx => Below w.heap.size w wx) (by kernel_rfl) (bel_drew1 B0) (fun hHeld => ?_)
            replace m0 := m0.drew
            replace B0 := bel_drew1 B0
            have HC1 := hid (HC.out 1 (by omega))
            rw [Hy.out] at HC1
            clear z0 z1
            generalize (w.alloc (.cells #[.int .i64 0, .int .u64 0, .int .u64 0, .int .i64 0] 121)).drew = wd at *
            refine take_to 0 28 (.slice (some ⟨b, off, none⟩) n c) rfl rfl (by kernel_rfl) (by kernel_rfl) (by kernel_rfl) (fun _ _ _ h => h) (Or.inl ⟨by rfl, fun w' h => ?_⟩) hHeld ?_
            · go_simp
            try simp only [List.setIfInBounds_toArray, List.set_cons_zero, List.set_cons_succ]
            refine take_to 1 29 (.int .i64 4) rfl rfl (by kernel_rfl) (by kernel_rfl) (by kernel_rfl) (fun _ _ _ h => h) (Or.inl ⟨by rfl, fun w' h => ?_⟩) hHeld ?_
            · go_simp
            try simp only [List.setIfInBounds_toArray, List.set_cons_zero, List.set_cons_succ]
            refine take_to 2 30 (.int .i64 6) rfl rfl (by kernel_rfl) (by kernel_rfl) (by kernel_rfl) (fun _ _ _ h => h) (Or.inl ⟨by rfl, fun w' h => ?_⟩) hHeld ?_
            · go_simp
              rfl
            try simp only [List.setIfInBounds_toArray, List.set_cons_zero, List.set_cons_succ]
            refine take_to 3 31 (.slice (some ⟨b, off + 2, none⟩) 4 (c - 2)) rfl rfl (by kernel_rfl) (by kernel_rfl) (by kernel_rfl) (fun _ _ _ h => h) (Or.inl ⟨by rfl, fun w' h => ?_⟩) hHeld ?_
            · go_simp
            try simp only [List.setIfInBounds_toArray, List.set_cons_zero, List.set_cons_succ]
            refine take_to 5 33 (.slice (some ⟨b, off, none⟩) n c) rfl rfl (by kernel_rfl) (by kernel_rfl) (by kernel_rfl) (fun _ _ _ h => h) (Or.inl ⟨by rfl, fun w' h => ?_⟩) hHeld ?_
            · go_simp
            try simp only [List.setIfInBounds_toArray, List.set_cons_zero, List.set_cons_succ]
            refine take_to 6 34 (.pointer (some ⟨b, off + 1, none⟩)) rfl rfl (by kernel_rfl) (by kernel_rfl) (by kernel_rfl) (fun _ _ _ h => h) (Or.inl ⟨by rfl, fun w' h => ?_⟩) hHeld ?_
            · go_simp
              intro h; omega
            try simp only [List.setIfInBounds_toArray, List.set_cons_zero, List.set_cons_succ]
            refine take_to 7 35 (.int .u8 y) rfl rfl (by kernel_rfl) (by kernel_rfl) (by kernel_rfl) (fun _ _ _ h => h) (Or.inl ⟨by rfl, fun w' h => ?_⟩) hHeld ?_
            · have x1 := (Below.cell h HLB.out).trans HC1.out
              go_simp
            try simp only [List.setIfInBounds_toArray, List.set_cons_zero, List.set_cons_succ]
            refine take_to 8 36 (.int .i64 y) rfl rfl (by kernel_rfl) (by kernel_rfl) (by kernel_rfl) (fun _ _ _ h => h) (Or.inl ⟨by rfl, fun w' h => ?_⟩) hHeld ?_
            · go_simp
              rw [IntKind.wrap_i64]; omega
            try simp only [List.setIfInBounds_toArray, List.set_cons_zero, List.set_cons_succ]
            refine wpAnyH_ready (rs := [4, 10]) (by kernel_rfl) (by simp) ?_
            refine AllReadyH.cons rfl (fun K' hK' => ?_) (AllReadyH.cons rfl (fun K' hK' => ?_) AllReadyH.nil)
            · rw [if_pos (by rfl)]
              go_wp2_with fail
              refine (k2 _ _ (HCC.out _ B0)).mono ?_
              rintro e w2 ⟨rfl, g2⟩
              replace m0 := m0.kept g2
              replace B0 := bel_bel B0 B0.size g2
              clear g2 hHeld
              try go_wp2_with fail
              refine hK'.out _ _ B0 (fun hHeld => ?_)
              clear hK' K'
              try simp only [Act.put, List.setIfInBounds_toArray, List.set_cons_zero, List.set_cons_succ]
              refine take_to 9 37 (.agg #[.int .i64 4, .int .u64 X, .int .u64 Y, .int .i64 y]) rfl rfl (by kernel_rfl) (by kernel_rfl) (by kernel_rfl) (fun _ _ _ h => h) (Or.inl ⟨by rfl, fun w' h => ?_⟩) hHeld ?_
              · go_simp
              try simp only [List.setIfInBounds_toArray, List.set_cons_zero, List.set_cons_succ]
              refine wpAnyH_ready (rs := [10]) (by kernel_rfl) (by simp) ?_
              refine AllReadyH.cons rfl (fun K' hK' => ?_) AllReadyH.nil
              rw [if_pos (by rfl)]
              go_wp2_with fail
              have hgp := m0.lt
              have m1 := Pm.new w2 0 0 0 0
              replace m0 := m0.alloc (.cells #[.int .i64 0, .int .u64 0, .int .u64 0, .int .i64 0] 121)
              replace B0 := B0.alloc B0.size (.cells #[.int .i64 0, .int .u64 0, .int .u64 0, .int .i64 0] 121)
              generalize w2.alloc (.cells #[.int .i64 0, .int .u64 0, .int .u64 0, .int .i64 0] 121) = w3 at *
              generalize w2.heap.size = gp at *
              clear hHeld
              refine hK'.out _ _ B0 (fun hHeld => ?_)
              clear hK' K'
              try simp only [Act.put, List.setIfInBounds_toArray, List.set_cons_zero, List.set_cons_succ]
              refine wpAnyH_ready (rs := [11]) (by kernel_rfl) (by simp) ?_
              refine AllReadyH.cons rfl (fun K' hK' => ?_) AllReadyH.nil
              rw [if_pos (by rfl)]
              refine wp_store_row _ _ _ rfl gp #[.int .i64 4, .int .u64 X, .int .u64 Y, .int .i64 y] rfl rfl _ _ m1 sizep rfl (by simp [Value.oneCell']) ?_
              replace m0 := m0.at (setRow_other w3 gp w.heap.size #[.int .i64 4, .int .u64 X, .int .u64 Y, .int .i64 y] (by omega))
              replace m1 := m1.row 4 X Y y
              replace B0 := bel_row B0 (g := gp) (by omega) #[.int .i64 4, .int .u64 X, .int .u64 Y, .int .i64 y]
              clear hHeld
              refine hK'.out _ _ B0 (fun hHeld => ?_)
              clear hK' K'
              try simp only [Act.put, List.setIfInBounds_toArray, List.set_cons_zero, List.set_cons_succ]
              refine wpAnyH_done (by kernel_rfl) ?_ _
              go_wp2_with fail
              go_meet
              case rel => exact ⟨_, rfl, by omega, m0, m1, B0⟩
            · rw [if_pos (by rfl)]
              go_wp2_with fail
              have hgp := m0.lt
              have m1 := Pm.new wd 0 0 0 0
              replace m0 := m0.alloc (.cells #[.int .i64 0, .int .u64 0, .int .u64 0, .int .i64 0] 121)
              replace B0 := B0.alloc B0.size (.cells #[.int .i64 0, .int .u64 0, .int .u64 0, .int .i64 0] 121)
              generalize wd.alloc (.cells #[.int .i64 0, .int .u64 0, .int .u64 0, .int .i64 0] 121) = w2 at *
              generalize wd.heap.size = gp at *
              clear hHeld
              refine hK'.out _ _ B0 (fun hHeld => ?_)
              clear hK' K'
              try simp only [Act.put, List.setIfInBounds_toArray, List.set_cons_zero, List.set_cons_succ]
              refine wpAnyH_ready (rs := [4]) (by kernel_rfl) (by simp) ?_
              refine AllReadyH.cons rfl (fun K' hK' => ?_) AllReadyH.nil
              rw [if_pos (by rfl)]
              go_wp2_with fail
              refine (k2 _ _ (HCC.out _ B0)).mono ?_
              rintro e w3 ⟨rfl, g2⟩
              replace m0 := m0.kept g2
              replace m1 := m1.kept g2
              replace B0 := bel_bel B0 B0.size g2
              clear g2 hHeld
              try go_wp2_with fail
              refine hK'.out _ _ B0 (fun hHeld => ?_)
              clear hK' K'
              try simp only [Act.put, List.setIfInBounds_toArray, List.set_cons_zero, List.set_cons_succ]
              refine take_to 9 37 (.agg #[.int .i64 4, .int .u64 X, .int .u64 Y, .int .i64 y]) rfl rfl (by kernel_rfl) (by kernel_rfl) (by kernel_rfl) (fun _ _ _ h => h) (Or.inl ⟨by rfl, fun w' h => ?_⟩) hHeld ?_
              · go_simp
              try simp only [List.setIfInBounds_toArray, List.set_cons_zero, List.set_cons_succ]
              refine wpAnyH_ready (rs := [11]) (by kernel_rfl) (by simp) ?_
              refine AllReadyH.cons rfl (fun K' hK' => ?_) AllReadyH.nil
              rw [if_pos (by rfl)]
              refine wp_store_row _ _ _ rfl gp #[.int .i64 4, .int .u64 X, .int .u64 Y, .int .i64 y] rfl rfl _ _ m1 sizep rfl (by simp [Value.oneCell']) ?_
              replace m0 := m0.at (setRow_other w3 gp w.heap.size #[.int .i64 4, .int .u64 X, .int .u64 Y, .int .i64 y] (by omega))
              replace m1 := m1.row 4 X Y y
              replace B0 := bel_row B0 (g := gp) (by omega) #[.int .i64 4, .int .u64 X, .int .u64 Y, .int .i64 y]
              clear hHeld
              refine hK'.out _ _ B0 (fun hHeld => ?_)
              clear hK' K'
              try simp only [Act.put, List.setIfInBounds_toArray, List.set_cons_zero, List.set_cons_succ]
              refine wpAnyH_done (by kernel_rfl) ?_ _
              go_wp2_with fail
              go_meet
              case rel => exact ⟨_, rfl, by omega, m0, m1, B0⟩
          case rest =>
            obtain ⟨gp, rfl, hgp, m0, m1, B0⟩ := hcut
            have c0 := m1.c0
            have c1 := m1.c1
            have c2 := m1.c2
            have c3 := m1.c3
            go_wp2_with fail
            refine (k3 _).mono ?_
            rintro e w4 ⟨rfl, g2⟩
            replace m0 := m0.kept g2
            replace m1 := m1.kept g2
            replace B0 := bel_bel B0 B0.size g2
            clear g2 c0 c1 c2 c3 k2 k3
            cases hv : vp 4 X Y y with
            | false =>
              have HE : Hid (gk zs = false) := HGK.out.trans hv
              go_wp2_with (refine wpList_spx rfl rfl _ _ rfl w.heap.size 0 0 0 0 rfl rfl 0 0 0 0 (by with_reducible exact m0) ?_)
              refine bodyPost_ret (v := .tuple #[.agg #[.int .i64 0, .int .u64 0, .int .u64 0, .int .i64 0], .int .i64 0, .int .i64 70]) ?_ rfl ⟨HBAD.out HE.out, bel_row B0 (Nat.le_refl _) _⟩
              exact results_p3 rfl _ _ w.heap.size 0 0 0 0 _ _ rfl rfl rfl (m0.row 0 0 0 0)
            | true =>
              have HE := hid (HGD.out (HGK.out.trans hv))
              have c0 := m1.c0
              have c1 := m1.c1
              have c2 := m1.c2
              have c3 := m1.c3
              go_wp2_with (refine wpList_spx rfl rfl _ _ rfl w.heap.size 4 X Y y rfl rfl 0 0 0 0 (by with_reducible exact m0) ?_)
              refine bodyPost_ret (v := .tuple #[.agg #[.int .i64 4, .int .u64 X, .int .u64 Y, .int .i64 y], .int .i64 6, .int .i64 0]) ?_ rfl ⟨HE.out, bel_row B0 (Nat.le_refl _) _⟩
              exact results_p3 rfl _ _ w.heap.size 4 X Y y _ _ rfl rfl rfl (m0.row _ _ _ _)
      · subst h4
        have HG4 : Hid (gm zs = 16) := HGM.out
        have HG0 : Hid (g0 zs = 6) := HG0'.out
        have hnb : nb 6 = 128 := by decide
        rw [hnb]
        clear y0 hnb HGM k1 HG0'
        by_cases hlen : n < 18
        · have HE : Hid (gk zs = false) := by
            show _ = _
            unfold gk
            rw [decide_eq_false (fun h => by have := h.2.2; rw [HL.out, HG4.out] at this; omega), Bool.false_and]
          have hI3 : (n : Int) < 18 := by omega
          go_wp2_with (refine wpList_spx rfl rfl _ _ rfl w.heap.size 0 0 0 0 rfl rfl 0 0 0 0 (by with_reducible exact m0) ?_)
          refine bodyPost_ret (v := .tuple #[.agg #[.int .i64 0, .int .u64 0, .int .u64 0, .int .i64 0], .int .i64 0, .int .i64 70]) ?_ rfl ⟨HBAD.out HE.out, bel_row B0 (Nat.le_refl _) _⟩
          exact results_p3 rfl _ _ w.heap.size 0 0 0 0 _ _ rfl rfl rfl (m0.row 0 0 0 0)
        · have hI3 : ¬ (n : Int) < 18 := by omega
          have hc2 : (18 : Int) ≤ (c : Int) := by omega
          have hc3 : ¬ c = 2 := by omega
          have HS : Hid (gs7 zs = (zs.drop 2).take 16) := by show _ = _; unfold gs7; rw [HG4.out]
          have hsl : ((zs.drop 2).take 16).length = 16 := by rw [List.length_take, List.length_drop, HL.out]; omega
          have hsb : ∀ z ∈ (zs.drop 2).take 16, 0 ≤ z ∧ z ≤ 255 := fun z hz => HB.out z (List.mem_of_mem_drop (List.mem_of_mem_take hz))
          have k2 := fun w c hc => refAddr_ b (off + 2) 16 c ((zs.drop 2).take 16) w hsl (by omega) hsb hc
          have HU := hid (aval_in hsb hsl (by omega))
          have HGK : Hid (gk zs = vp 6 (ah ((zs.drop 2).take 16)) (al ((zs.drop 2).take 16)) (zs.getD 1 0)) := by
            show _ = _
            unfold gk
            rw [decide_eq_true ⟨by rw [HL.out]; omega, by rw [HG4.out]; omega, by rw [HL.out, HG4.out]; omega⟩, Bool.true_and, HG0.out, HS.out]
          have HGD : Hid (gk zs = true → Ending.returned (.tuple #[.agg #[.int .i64 6, .int .u64 (ah ((zs.drop 2).take 16)), .int .u64 (al ((zs.drop 2).take 16)), .int .i64 (zs.getD 1 0)], .int .i64 18, .int .i64 0]) = .returned (.tuple #[.agg #[.int .i64 (qF zs), .int .u64 (qH zs), .int .u64 (qL zs), .int .i64 (qB zs)], .int .i64 (qN zs), .int .i64 (qE zs)])) := fun h => by
            obtain ⟨a1, a2, a3, a4, a5, a6⟩ := q7_good h
            rw [a1, a2, a3, a4, a5, a6, HG0.out, HS.out, HG4.out]
            rfl
          have HCC : Hid (∀ (w' : World), Below w.heap.size w w' → ∀ i, i < 16 → w'.cell? ⟨b, off + 2 + i, none⟩ = some (.int .u8 (((zs.drop 2).take 16).getD i 0))) := fun w' hw i hi => by
            rw [Nat.add_assoc, (hw.cell HLB.out).trans (HC.out (2 + i) (by omega))]
            simp only [List.getD, List.getElem?_take, if_pos hi, List.getElem?_drop]
          rw [Hy.out] at HGK HGD
          generalize (zs.drop 2).take 16 = S at *
          have k3 := fun w => rf7Valid_ 6 (ah S) (al S) y w HU.out.1 HU.out.2 (by unfold InI; omega)
          obtain ⟨X, HX⟩ : ∃ X, Hid (ah S = X) := ⟨_, rfl⟩
          obtain ⟨Y, HY⟩ : ∃ Y, Hid (al S = Y) := ⟨_, rfl⟩
          rw [HX.out, HY.out] at k3 HGK HGD
          simp only [HX.out, HY.out] at k2
          have haf : af 16 = 6 := by decide
          rw [haf] at k2
          clear hsl hsb haf HB
          go_wp2_with fail
          go_cut [6] from 28 (fun v wx => ∃ gp, v = .pointer (some ⟨gp, 0, none⟩) ∧ w.heap.size < gp ∧ Pm wx w.heap.size 0 0 0 0 ∧ Pm wx gp 6 X Y y ∧ Below w.heap.size w wx)
          case first =>
            refine wp_region_held_drew (S := fun wx => Below w.heap.size w wx) (by kernel_rfl) (bel_drew1 B0) (fun hHeld => ?_)
            replace m0 := m0.drew
            replace B0 := bel_drew1 B0
            have HC1 := hid (HC.out 1 (by omega))
            rw [Hy.out] at HC1
            clear z0 z1
            generalize (w.alloc (.cells #[.int .i64 0, .int .u64 0, .int .u64 0, .int .i64 0] 121)).drew = wd at *
            refine take_to 0 28 (.slice (some ⟨b, off, none⟩) n c) rfl rfl (by kernel_rfl) (by kernel_rfl) (by kernel_rfl) (fun _ _ _ h => h) (Or.inl ⟨by rfl, fun w' h => ?_⟩) hHeld ?_
            · go_simp
            try simp only [List.setIfInBounds_toArray, List.set_cons_zero, List.set_cons_succ]
            refine take_to 1 29 (.int .i64 16) rfl rfl (by kernel_rfl) (by kernel_rfl) (by kernel_rfl) (fun _ _ _ h => h) (Or.inl ⟨by rfl, fun w' h => ?_⟩) hHeld ?_
            · go_simp
            try simp only [List.setIfInBounds_toArray, List.set_cons_zero, List.set_cons_succ]
            refine take_to 2 30 (.int .i64 18) rfl rfl (by kernel_rfl) (by kernel_rfl) (by kernel_rfl) (fun _ _ _ h => h) (Or.inl ⟨by rfl, fun w' h => ?_⟩) hHeld ?_
            · go_simp
              rfl
            try simp only [List.setIfInBounds_toArray, List.set_cons_zero, List.set_cons_succ]
            refine take_to 3 31 (.slice (some ⟨b, off + 2, none⟩) 16 (c - 2)) rfl rfl (by kernel_rfl) (by kernel_rfl) (by kernel_rfl) (fun _ _ _ h => h) (Or.inl ⟨by rfl, fun w' h => ?_⟩) hHeld ?_
            · go_simp
            try simp only [List.setIfInBounds_toArray, List.set_cons_zero, List.set_cons_succ]
            refine take_to 5 33 (.slice (some ⟨b, off, none⟩) n c) rfl rfl (by kernel_rfl) (by kernel_rfl) (by kernel_rfl) (fun _ _ _ h => h) (Or.inl ⟨by rfl, fun w' h => ?_⟩) hHeld ?_
            · go_simp
            try simp only [List.setIfInBounds_toArray, List.set_cons_zero, List.set_cons_succ]
            refine take_to 6 34 (.pointer (some ⟨b, off + 1, none⟩)) rfl rfl (by kernel_rfl) (by kernel_rfl) (by kernel_rfl) (fun _ _ _ h => h) (Or.inl ⟨by rfl, fun w' h => ?_⟩) hHeld ?_
            · go_simp
              intro h; omega
            try simp only [List.setIfInBounds_toArray, List.set_cons_zero, List.set_cons_succ]
            refine take_to 7 35 (.int .u8 y) rfl rfl (by kernel_rfl) (by kernel_rfl) (by kernel_rfl) (fun _ _ _ h => h) (Or.inl ⟨by rfl, fun w' h => ?_⟩) hHeld ?_
            · have x1 := (Below.cell h HLB.out).trans HC1.out
              go_simp
            try simp only [List.setIfInBounds_toArray, List.set_cons_zero, List.set_cons_succ]
            refine take_to 8 36 (.int .i64 y) rfl rfl (by kernel_rfl) (by kernel_rfl) (by kernel_rfl) (fun _ _ _ h => h) (Or.inl ⟨by rfl, fun w' h => ?_⟩) hHeld ?_
            · go_simp
              rw [IntKind.wrap_i64]; omega
            try simp only [List.setIfInBounds_toArray, List.set_cons_zero, List.set_cons_succ]
            refine wpAnyH_ready (rs := [4, 10]) (by kernel_rfl) (by simp) ?_
            refine AllReadyH.cons rfl (fun K' hK' => ?_) (AllReadyH.cons rfl (fun K' hK' => ?_) AllReadyH.nil)
            · rw [if_pos (by rfl)]
              go_wp2_with fail
              refine (k2 _ _ (HCC.out _ B0)).mono ?_
              rintro e w2 ⟨rfl, g2⟩
              replace m0 := m0.kept g2
              replace B0 := bel_bel B0 B0.size g2
              clear g2 hHeld
              try go_wp2_with fail
              refine hK'.out _ _ B0 (fun hHeld => ?_)
              clear hK' K'
              try simp only [Act.put, List.setIfInBounds_toArray, List.set_cons_zero, List.set_cons_succ]
              refine take_to 9 37 (.agg #[.int .i64 6, .int .u64 X, .int .u64 Y, .int .i64 y]) rfl rfl (by kernel_rfl) (by kernel_rfl) (by kernel_rfl) (fun _ _ _ h => h) (Or.inl ⟨by rfl, fun w' h => ?_⟩) hHeld ?_
              · go_simp
              try simp only [List.setIfInBounds_toArray, List.set_cons_zero, List.set_cons_succ]
              refine wpAnyH_ready (rs := [10]) (by kernel_rfl) (by simp) ?_
              refine AllReadyH.cons rfl (fun K' hK' => ?_) AllReadyH.nil
              rw [if_pos (by rfl)]
              go_wp2_with fail
              have hgp := m0.lt
              have m1 := Pm.new w2 0 0 0 0
              replace m0 := m0.alloc (.cells #[.int .i64 0, .int .u64 0, .int .u64 0, .int .i64 0] 121)
              replace B0 := B0.alloc B0.size (.cells #[.int .i64 0, .int .u64 0, .int .u64 0, .int .i64 0] 121)
              generalize w2.alloc (.cells #[.int .i64 0, .int .u64 0, .int .u64 0, .int .i64 0] 121) = w3 at *
              generalize w2.heap.size = gp at *
              clear hHeld
              refine hK'.out _ _ B0 (fun hHeld => ?_)
              clear hK' K'
              try simp only [Act.put, List.setIfInBounds_toArray, List.set_cons_zero, List.set_cons_succ]
              refine wpAnyH_ready (rs := [11]) (by kernel_rfl) (by simp) ?_
              refine AllReadyH.cons rfl (fun K' hK' => ?_) AllReadyH.nil
              rw [if_pos (by rfl)]
              refine wp_store_row _ _ _ rfl gp #[.int .i64 6, .int .u64 X, .int .u64 Y, .int .i64 y] rfl rfl _ _ m1 sizep rfl (by simp [Value.oneCell']) ?_
              replace m0 := m0.at (setRow_other w3 gp w.heap.size #[.int .i64 6, .int .u64 X, .int .u64 Y, .int .i64 y] (by omega))
              replace m1 := m1.row 6 X Y y
              replace B0 := bel_row B0 (g := gp) (by omega) #[.int .i64 6, .int .u64 X, .int .u64 Y, .int .i64 y]
              clear hHeld
              refine hK'.out _ _ B0 (fun hHeld => ?_)
              clear hK' K'
              try simp only [Act.put, List.setIfInBounds_toArray, List.set_cons_zero, List.set_cons_succ]
              refine wpAnyH_done (by kernel_rfl) ?_ _
              go_wp2_with fail
              go_meet
              case rel => exact ⟨_, rfl, by omega, m0, m1, B0⟩
            · rw [if_pos (by rfl)]
              go_wp2_with fail
              have hgp := m0.lt
              have m1 := Pm.new wd 0 0 0 0
              replace m0 := m0.alloc (.cells #[.int .i64 0, .int .u64 0, .int .u64 0, .int .i64 0] 121)
              replace B0 := B0.alloc B0.size (.cells #[.int .i64 0, .int .u64 0, .int .u64 0, .int .i64 0] 121)
              generalize wd.alloc (.cells #[.int .i64 0, .int .u64 0, .int .u64 0, .int .i64 0] 121) = w2 at *
              generalize wd.heap.size = gp at *
              clear hHeld
              refine hK'.out _ _ B0 (fun hHeld => ?_)
              clear hK' K'
              try simp only [Act.put, List.setIfInBounds_toArray, List.set_cons_zero, List.set_cons_succ]
              refine wpAnyH_ready (rs := [4]) (by kernel_rfl) (by simp) ?_
              refine AllReadyH.cons rfl (fun K' hK' => ?_) AllReadyH.nil
              rw [if_pos (by rfl)]
              go_wp2_with fail
              refine (k2 _ _ (HCC.out _ B0)).mono ?_
              rintro e w3 ⟨rfl, g2⟩
              replace m0 := m0.kept g2
              replace m1 := m1.kept g2
              replace B0 := bel_bel B0 B0.size g2
              clear g2 hHeld
              try go_wp2_with fail
              refine hK'.out _ _ B0 (fun hHeld => ?_)
              clear hK' K'
              try simp only [Act.put, List.setIfInBounds_toArray, List.set_cons_zero, List.set_cons_succ]
              refine take_to 9 37 (.agg #[.int .i64 6, .int .u64 X, .int .u64 Y, .int .i64 y]) rfl rfl (by kernel_rfl) (by kernel_rfl) (by kernel_rfl) (fun _ _ _ h => h) (Or.inl ⟨by rfl, fun w' h => ?_⟩) hHeld ?_
              · go_simp
              try simp only [List.setIfInBounds_toArray, List.set_cons_zero, List.set_cons_succ]
              refine wpAnyH_ready (rs := [11]) (by kernel_rfl) (by simp) ?_
              refine AllReadyH.cons rfl (fun K' hK' => ?_) AllReadyH.nil
              rw [if_pos (by rfl)]
              refine wp_store_row _ _ _ rfl gp #[.int .i64 6, .int .u64 X, .int .u64 Y, .int .i64 y] rfl rfl _ _ m1 sizep rfl (by simp [Value.oneCell']) ?_
              replace m0 := m0.at (setRow_other w3 gp w.heap.size #[.int .i64 6, .int .u64 X, .int .u64 Y, .int .i64 y] (by omega))
              replace m1 := m1.row 6 X Y y
              replace B0 := bel_row B0 (g := gp) (by omega) #[.int .i64 6, .int .u64 X, .int .u64 Y, .int .i64 y]
              clear hHeld
              refine hK'.out _ _ B0 (fun hHeld => ?_)
              clear hK' K'
              try simp only [Act.put, List.setIfInBounds_toArray, List.set_cons_zero, List.set_cons_succ]
              refine wpAnyH_done (by kernel_rfl) ?_ _
              go_wp2_with fail
              go_meet
              case rel => exact ⟨_, rfl, by omega, m0, m1, B0⟩
          case rest =>
            obtain ⟨gp, rfl, hgp, m0, m1, B0⟩ := hcut
            have c0 := m1.c0
            have c1 := m1.c1
            have c2 := m1.c2
            have c3 := m1.c3
            go_wp2_with fail
            refine (k3 _).mono ?_
            rintro e w4 ⟨rfl, g2⟩
            replace m0 := m0.kept g2
            replace m1 := m1.kept g2
            replace B0 := bel_bel B0 B0.size g2
            clear g2 c0 c1 c2 c3 k2 k3
            cases hv : vp 6 X Y y with
            | false =>
              have HE : Hid (gk zs = false) := HGK.out.trans hv
              go_wp2_with (refine wpList_spx rfl rfl _ _ rfl w.heap.size 0 0 0 0 rfl rfl 0 0 0 0 (by with_reducible exact m0) ?_)
              refine bodyPost_ret (v := .tuple #[.agg #[.int .i64 0, .int .u64 0, .int .u64 0, .int .i64 0], .int .i64 0, .int .i64 70]) ?_ rfl ⟨HBAD.out HE.out, bel_row B0 (Nat.le_refl _) _⟩
              exact results_p3 rfl _ _ w.heap.size 0 0 0 0 _ _ rfl rfl rfl (m0.row 0 0 0 0)
            | true =>
              have HE := hid (HGD.out (HGK.out.trans hv))
              have c0 := m1.c0
              have c1 := m1.c1
              have c2 := m1.c2
              have c3 := m1.c3
              go_wp2_with (refine wpList_spx rfl rfl _ _ rfl w.heap.size 6 X Y y rfl rfl 0 0 0 0 (by with_reducible exact m0) ?_)
              refine bodyPost_ret (v := .tuple #[.agg #[.int .i64 6, .int .u64 X, .int .u64 Y, .int .i64 y], .int .i64 18, .int .i64 0]) ?_ rfl ⟨HE.out, bel_row B0 (Nat.le_refl _) _⟩
              exact results_p3 rfl _ _ w.heap.size 6 X Y y _ _ rfl rfl rfl (m0.row _ _ _ _)
    · have hnb : nb x = 0 := by unfold nb; rw [if_neg (fun h => h4 (.inl h)), if_neg (fun h => h4 (.inr h))]
      rw [hnb] at HGM ⊢
      have HE : Hid (gk zs = false) := by
        show _ = _
        unfold gk
        rw [decide_eq_false (fun h => by have := h.2.1; rw [HGM.out] at this; omega), Bool.false_and]
      clear h4 hnb k1
      go_wp2_with (refine wpList_spx rfl rfl _ _ rfl w.heap.size 0 0 0 0 rfl rfl 0 0 0 0 (by with_reducible exact m0) ?_)
      refine bodyPost_ret (v := .tuple #[.agg #[.int .i64 0, .int .u64 0, .int .u64 0, .int .i64 0], .int .i64 0, .int .i64 70]) ?_ rfl ⟨HBAD.out HE.out, bel_row B0 (Nat.le_refl _) _⟩
      exact results_p3 rfl _ _ w.heap.size 0 0 0 0 _ _ rfl rfl rfl (m0.row 0 0 0 0)
end Go.Proofs.YtcbmgpmjnehjdaaGreat
