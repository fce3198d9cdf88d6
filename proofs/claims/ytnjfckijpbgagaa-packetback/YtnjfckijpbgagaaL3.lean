import Derived.Test.YtnjfckijpbgagaaH6
import Derived.Test.YtnjfckijpbgagaaH4
import Derived.Test.YtnjfckijpbgagaaN6
import Derived.Test.YtnjfckijpbgagaaN5
namespace Go.Proofs.Ytnjfckijpbgagaa
set_option maxRecDepth 100000
open Go.RowKit
set_option linter.unusedVariables false

/-- gcm.Open, whatever is handed in. -/
theorem openAnyC_ (a0 : Option Addr) (n0 c0 : Nat) (t0 : List Nat) (a1 : Option Addr) (n1 c1 : Nat) (t1 : List Nat) (a2 : Option Addr) (n2 c2 : Nat) (t2 : List Nat) (a3 : Option Addr) (n3 c3 : Nat) (t3 : List Nat) (w : World) (hb0 : Bs w a0 n0 (ic t0)) (hb1 : Bs w a1 n1 (ic t1)) (hb2 : Bs w a2 n2 (ic t2)) (hb3 : Bs w a3 n3 (ic t3)) (hy0 : ∀ x ∈ t0, x < 256) (hy1 : ∀ x ∈ t1, x < 256) (hy2 : ∀ x ∈ t2, x < 256) (hy3 : ∀ x ∈ t3, x < 256) (hn0 : n0 ≤ maxLen) (hn1 : n1 ≤ maxLen) (hc2 : n2 ≤ c2) (hm2 : c2 ≤ maxLen) (hc3 : n3 ≤ c3) (hm3 : c3 ≤ maxLen) :
    Calls Try.prog 34 #[.slice a0 n0 c0, .slice a1 n1 c1, .slice a2 n2 c2, .slice a3 n3 c3] w fun e w' => ∃ a m cap, e = .returned (.tuple #[.slice a m cap, .bool (oB t0 t1 t2 t3)]) ∧ (oB t0 t1 t2 t3 = true → w'.ownsRow w.heap.size 5 1 (.slice a m cap) m (cells (ic (oP t0 t1 t2 t3))) ∧ m ≤ 65536) ∧ Below w.heap.size w w' := by
  have l0 : t0.length = n0 := by have := hb0.1; rwa [ic_length] at this
  have l1 : t1.length = n1 := by have := hb1.1; rwa [ic_length] at this
  have l2 : t2.length = n2 := by have := hb2.1; rwa [ic_length] at this
  have l3 : t3.length = n3 := by have := hb3.1; rwa [ic_length] at this
  by_cases hg : n0 = 32 ∧ n1 = 12 ∧ n2 ≤ 65536 ∧ 16 ≤ n3 ∧ n3 ≤ 65552
  · obtain ⟨rfl, rfl, h2, h3, h4⟩ := hg
    obtain ⟨n, rfl⟩ : ∃ n, n3 = n + 16 := ⟨n3 - 16, by omega⟩
    refine (open_own a0 a1 a2 a3 c0 c1 n2 c2 n c3 t0 t1 t2 t3 w hb0 hb1 hb2 hb3 hy0 hy1 hy2 hy3 h2 (by omega) hc3 hc2 hm2 hm3).mono ?_
    rintro e w' ⟨g, h⟩
    have en : t3.length - 16 = n := by omega
    rcases h with ⟨h, q, rfl, ho⟩ | ⟨h, rfl⟩
    · have eb : oB t0 t1 t2 t3 = true := by unfold oB; rw [en]; exact decide_eq_true ⟨l0, l1, by omega, by omega, by omega, h⟩
      have ep : oP t0 t1 t2 t3 = st (kf t0) t1 (t3.take n) := by unfold oP; rw [eb, en]; rfl
      refine ⟨_, _, _, by rw [eb], fun _ => ⟨?_, by omega⟩, g⟩
      rw [ep]
      exact ho
    · have eb : oB t0 t1 t2 t3 = false := by unfold oB; rw [en]; exact decide_eq_false fun hh => h hh.2.2.2.2.2
      exact ⟨none, 0, 0, by rw [eb], fun h => (by rw [eb] at h; cases h), g⟩
  · have eb : oB t0 t1 t2 t3 = false := by unfold oB; exact decide_eq_false fun hh => hg ⟨by omega, by omega, by omega, by omega, by omega⟩
    refine (open_bad a0 a1 a2 a3 n0 c0 n1 c1 n2 c2 n3 c3 (ic t0) t3 w hb0 hb3 hc3 hn0 hn1 (by omega) hm3 (by omega)).mono ?_
    rintro e w' ⟨⟨a, cap, rfl⟩, g⟩
    exact ⟨a, 0, cap, by rw [eb], fun h => (by rw [eb] at h; cases h), g⟩
theorem own_row {w : World} {B e s n g : Nat} {v : Value} {xs : List Value} (h : w.ownsRow B e s v n xs) (hne : ∀ k, v.ownBlock = some k → k ≠ g) (ds : Array Value) : (w.setRow g ds).ownsRow B e s v n xs := by
  obtain ⟨h1, h2⟩ := h
  refine ⟨h1, ?_⟩
  rcases h2 with h2 | ⟨g', cap, cur, rfl, hb, hg, h3⟩
  · exact .inl h2
  · refine .inr ⟨g', cap, cur, rfl, hb, ?_, h3⟩
    rw [setRow_other w g g' ds (hne g' rfl)]
    exact hg
/-- What Open answers, in memory of its own. -/
def Vo (b : Nat) (ks : List Int) (S : Int) (zs : List Int) (e : Ending) (w' : World) : Prop := ∃ a m c, e = .returned (.tuple #[.agg #[.int .i64 (uZ ks S zs (gT zs)), .int .i64 (uZ ks S zs (gK zs)), .int .i64 (uZ ks S zs (gG zs)), .int .u64 (uZ ks S zs (gC zs)), .slice a m c], .bool (uOk ks S zs)]) ∧ w'.ownsRow b 5 1 (.slice a m c) m (cells (uB ks S zs)) ∧ m ≤ 65536
theorem Vo.bad {b : Nat} {ks : List Int} {S : Int} {zs : List Int} (h : uOk ks S zs = false) (w' : World) : Vo b ks S zs (.returned (.tuple #[.agg #[.int .i64 0, .int .i64 0, .int .i64 0, .int .u64 0, .slice none 0 0], .bool false])) w' := by
  unfold Vo uZ uB
  rw [h]
  exact ⟨none, 0, 0, rfl, World.ownsRow_nil _ _ _ _, by omega⟩
set_option maxHeartbeats 4000000 in
theorem open9_ (a0 : Option Addr) (n0 c0 : Nat) (ks : List Int) (S : Int) (a1 : Option Addr) (n1 c1 : Nat) (zs : List Int) (w : World) (hb0 : Bs w a0 n0 ks) (hb1 : Bs w a1 n1 zs) (hn0 : n0 ≤ maxLen) (hc1 : n1 ≤ c1) (hm1 : c1 ≤ maxLen) :
    Calls Try.prog 15 #[.slice a0 n0 c0, .int .i64 S, .slice a1 n1 c1] w fun e w' => Vo w.heap.size ks S zs e w' ∧ Below w.heap.size w w' := by
  have B0 := knew w 0 0 0 0 (.slice none 0 0)
  have m0 := Km.new w 0 0 0 0 (.slice none 0 0)
  have l0 := hb0.1
  have l1 := hb1.1
  have kg := part_ a1 n1 c1 zs _ (hb1.below B0) hc1 hm1
  have hmx := hm1
  unfold maxLen at hm1
  have HU : Hid (uOk ks S zs = (decide (ks.length = 32 ∧ (S = 0 ∨ S = 1)) && (gOk zs && oB (nt ks) (nt (nRow S (gG zs) (gC zs))) (nt (zs.take 20)) (nt (zs.drop 20))))) := rfl
  go_enter Try.func15, Try.ntmps15
  go_wp2_with fail
  refine kg.mono ?_
  rintro e w1 ⟨⟨p1, q1, p2, q2, rfl, hgo⟩, g2⟩
  replace m0 := m0.kept g2
  replace B0 := bel_bel B0 B0.size g2
  clear kg g2
  cases hg : gOk zs with
  | false =>
    have e1 : gE zs = 90 := by unfold gE; rw [hg]; rfl
    have HN : Hid (uOk ks S zs = false) := by
      show _ = _
      rw [HU.out, hg, Bool.false_and, Bool.and_false]
    rw [e1]
    generalize gZ zs (gT zs) = T at *
    generalize gZ zs (gK zs) = K at *
    generalize gZ zs (gG zs) = G at *
    generalize gZ zs (gC zs) = C at *
    have M1 := hid (m0.alloc (.cells #[.int .i64 T, .int .i64 K, .int .i64 G, .int .u64 C, .slice p1 q1 q1, .slice p2 q2 q2] 67))
    have B1 := hid (B0.alloc B0.size (.cells #[.int .i64 T, .int .i64 K, .int .i64 G, .int .u64 C, .slice p1 q1 q1, .slice p2 q2 q2] 67))
    clear hgo hg e1 hb0 hb1 m0 B0 HU
    go_wp2_with (with_reducible show wpList _ _ _ (_ :: _) _ _; refine wpList_sk rfl rfl _ _ rfl w.heap.size 0 0 0 0 none 0 0 rfl rfl 0 0 0 0 (.slice none 0 0) (by with_reducible exact M1.out) ?_)
    refine bodyPost_ret (v := .tuple #[.agg #[.int .i64 0, .int .i64 0, .int .i64 0, .int .u64 0, .slice none 0 0], .bool false]) ?_ rfl ⟨Vo.bad HN.out _, bel_row B1.out (Nat.le_refl _) _⟩
    exact results_k2 rfl _ _ w.heap.size 0 0 0 0 _ _ rfl rfl (M1.out.row 0 0 0 0 _)
  | true =>
    obtain ⟨rfl, hq3, s1, s2⟩ := hgo hg
    rw [l1] at hq3
    subst hq3
    have e1 : gE zs = 0 := by unfold gE; rw [hg]; rfl
    have ez : ∀ x, gZ zs x = x := fun x => by unfold gZ; rw [hg]; rfl
    rw [e1, ez, ez, ez, ez]
    have hgq := hg
    unfold gOk at hgq
    rw [Bool.and_eq_true, Bool.and_eq_true, Bool.and_eq_true] at hgq
    obtain ⟨g1, g2, g3, g4⟩ := hgq
    have hlen := of_decide_eq_true g1
    have hfit := fit_in g4
    obtain ⟨x1, x2, x3, x4, x5, x6, x7⟩ := hOk_in g2
    have hv := val4 hb1.2.1 12 8 (by omega)
    have hC : InU (gC zs) := ⟨hv.1, by omega⟩
    rw [hg, Bool.true_and] at HU
    have kn := fun w => nonce_ S (gG zs) (gC zs) w hC
    have HNB := hid (nB_byte S (gG zs) (gC zs))
    have HZ : ∀ x, Hid (uOk ks S zs = true → uZ ks S zs x = x) := fun x h => by unfold uZ; rw [h]; rfl
    have hq2 : n1 - 20 ≤ 65552 := by omega
    have HU2 : Hid (uOk ks S zs = oB (nt ks) (nt (nB S (gG zs) (gC zs))) (nt (zs.take 20)) (nt (zs.drop 20)) ∧ (uOk ks S zs = true → uB ks S zs = ic (oP (nt ks) (nt (nB S (gG zs) (gC zs))) (nt (zs.take 20)) (nt (zs.drop 20))))) := by
      by_cases hS : S = 0 ∨ S = 1
      · have en : nB S (gG zs) (gC zs) = nRow S (gG zs) (gC zs) := by
          unfold nB
          rw [show nOk S (gG zs) (gC zs) = true from decide_eq_true ⟨hS, x5, x6, x7⟩]
          rfl
        rw [en]
        constructor
        · rw [HU.out]
          by_cases h32 : ks.length = 32
          · rw [decide_eq_true ⟨h32, hS⟩, Bool.true_and]
          · rw [decide_eq_false (fun h => h32 h.1), Bool.false_and]
            unfold oB
            exact (decide_eq_false (fun h => h32 (by rw [← nt_length]; exact h.1))).symm
        · intro h
          unfold uB
          rw [h, if_pos rfl]
      · have en : nB S (gG zs) (gC zs) = [] := by
          unfold nB
          rw [show nOk S (gG zs) (gC zs) = false from decide_eq_false (fun h => hS h.1)]
          rfl
        have ef : uOk ks S zs = false := by rw [HU.out, decide_eq_false (fun h => hS h.2), Bool.false_and]
        constructor
        · rw [ef, en]
          unfold oB
          exact (decide_eq_false (fun h => absurd h.2.1 (by decide))).symm
        · intro h
          rw [ef] at h
          cases h
    have HN0 : Hid (∀ z ∈ zs, 0 ≤ z ∧ z ≤ 255) := hb1.2.1
    have HK0 : Hid (∀ z ∈ ks, 0 ≤ z ∧ z ≤ 255) := hb0.2.1
    have hnl : (nB S (gG zs) (gC zs)).length ≤ 12 := by rw [nB_length]; split <;> omega
    clear HU hgo hg e1 ez g1 g2 g3 g4 hfit x1 x2 x3 x4 x5 x6 x7 hv
    obtain ⟨T, HT⟩ : ∃ x, Hid (gT zs = x) := ⟨_, rfl⟩
    obtain ⟨K, HK⟩ : ∃ x, Hid (gK zs = x) := ⟨_, rfl⟩
    obtain ⟨G, HG⟩ : ∃ x, Hid (gG zs = x) := ⟨_, rfl⟩
    obtain ⟨C, HC⟩ : ∃ x, Hid (gC zs = x) := ⟨_, rfl⟩
    simp only [HT.out, HK.out, HG.out, HC.out] at kn HNB hC HU2 hnl ⊢
    obtain ⟨N, HN⟩ : ∃ x, Hid (nB S G C = x) := ⟨_, rfl⟩
    simp only [HN.out] at kn HNB HU2 hnl
    have mt := Tm.new w1 T K G C (.slice p1 20 20) (.slice p2 (n1 - 20) (n1 - 20))
    have hw1 := m0.lt
    have BA := (Below.refl w1.heap.size w1).alloc (Nat.le_refl _) (.cells #[.int .i64 T, .int .i64 K, .int .i64 G, .int .u64 C, .slice p1 20 20, .slice p2 (n1 - 20) (n1 - 20)] 67)
    have M1 := hid (m0.kept BA)
    have MT := hid mt
    have B1 := hid (bel_bel B0 B0.size BA)
    have S1 := hid (s1.below BA)
    have S2 := hid (s2.below BA)
    have SK := hid ((hb0.below B0).below BA)
    clear m0 mt B0 s1 s2 hb0 hb1 BA
    go_wp2_with fail
    have d2 := MT.out.c2
    have d3 := MT.out.c3
    have d4 := MT.out.c4
    have d5 := MT.out.c5
    have hq := MT.out.lt
    have wz := World.size_alloc w1 (.cells #[.int .i64 T, .int .i64 K, .int .i64 G, .int .u64 C, .slice p1 20 20, .slice p2 (n1 - 20) (n1 - 20)] 67)
    generalize w1.alloc (.cells #[.int .i64 T, .int .i64 K, .int .i64 G, .int .u64 C, .slice p1 20 20, .slice p2 (n1 - 20) (n1 - 20)] 67) = wa at *
    generalize w1.heap.size = q at *
    have XK : Hid (Bs wa a0 n0 (ic (nt ks))) := by show Bs _ _ _ _; rw [ic_nt HK0.out]; exact SK.out
    have XO : Hid (Bs wa p1 20 (ic (nt (zs.take 20)))) := by show Bs _ _ _ _; rw [ic_nt (fun z hz => HN0.out z (List.mem_of_mem_take hz))]; exact S1.out
    have XS : Hid (Bs wa p2 (n1 - 20) (ic (nt (zs.drop 20)))) := by show Bs _ _ _ _; rw [ic_nt (fun z hz => HN0.out z (List.mem_of_mem_drop hz))]; exact S2.out
    have HNN : Hid (ic (nt N) = N) := ic_nt HNB.out
    have ko := fun an dn w3 x0 x1 x2 x3 => openAnyC_ a0 n0 c0 (nt ks) an N.length dn (nt N) p1 20 20 (nt (zs.take 20)) p2 (n1 - 20) (n1 - 20) (nt (zs.drop 20)) w3 x0 x1 x2 x3 (nt_lt HK0.out) (nt_lt HNB.out) (nt_lt (fun z hz => HN0.out z (List.mem_of_mem_take hz))) (nt_lt (fun z hz => HN0.out z (List.mem_of_mem_drop hz))) hn0 (by unfold maxLen; omega) (by omega) (by unfold maxLen; omega) (by omega) (by unfold maxLen; omega)
    obtain ⟨ob, Hob⟩ : ∃ x, Hid (oB (nt ks) (nt N) (nt (zs.take 20)) (nt (zs.drop 20)) = x) := ⟨_, rfl⟩
    obtain ⟨op, Hop⟩ : ∃ x, Hid (oP (nt ks) (nt N) (nt (zs.take 20)) (nt (zs.drop 20)) = x) := ⟨_, rfl⟩
    simp only [Hob.out, Hop.out] at ko HU2
    clear S1 S2 SK
    go_region_held (fun wx => wx.cell? ⟨q, 2, none⟩ = some (.int .i64 G) ∧ wx.cell? ⟨q, 3, none⟩ = some (.int .u64 C) ∧ wx.cell? ⟨q, 4, none⟩ = some (.slice p1 20 20) ∧ wx.cell? ⟨q, 5, none⟩ = some (.slice p2 (n1 - 20) (n1 - 20))) (go_keep) (first | (go_at_call 23; refine (kn _).mono ?_; rintro e w3 ⟨vn, rfl, o3, g3⟩; obtain ⟨an, dn, rfl, yn, _⟩ := own_form o3 HNB.out; have y2 := (g3.cell (p := ⟨q, 2, none⟩) hq).trans d2; have y3 := (g3.cell (p := ⟨q, 3, none⟩) hq).trans d3; have y4 := (g3.cell (p := ⟨q, 4, none⟩) hq).trans d4; have y5 := (g3.cell (p := ⟨q, 5, none⟩) hq).trans d5; have X0 := hid (Bs.below (by exact XK.out) g3); have X2 := hid (Bs.below (by exact XO.out) g3); have X3 := hid (Bs.below (by exact XS.out) g3); have X1 : Hid (Bs w3 an N.length (ic (nt N))) := (by show Bs _ _ _ _; rw [HNN.out]; exact yn); have G3 := hid g3; clear yn o3 g3) | (go_at_call 34; refine (ko an dn w3 X0.out X1.out X2.out X3.out).mono ?_; rintro e w4 ⟨at', mt, ct, rfl, o4, g4⟩; have y2 := (g4.cell (p := ⟨q, 2, none⟩) (by have := G3.out.size; exact Nat.lt_of_lt_of_le hq this)).trans y2; have y3 := (g4.cell (p := ⟨q, 3, none⟩) (by have := G3.out.size; exact Nat.lt_of_lt_of_le hq this)).trans y3; have y4 := (g4.cell (p := ⟨q, 4, none⟩) (by have := G3.out.size; exact Nat.lt_of_lt_of_le hq this)).trans y4; have y5 := (g4.cell (p := ⟨q, 5, none⟩) (by have := G3.out.size; exact Nat.lt_of_lt_of_le hq this)).trans y5))
    have Ga : Below wa.heap.size wa w4 := by
      have h1 : Below wa.heap.size wa wa.drew := ⟨rfl, rfl, rfl, Nat.le_refl _, fun _ _ => rfl⟩
      have h2 := bel_bel h1 h1.size G3.out
      exact bel_bel h2 h2.size g4
    have m4 := M1.out.kept Ga
    have t4 := MT.out.kept Ga
    have B4 := bel_bel B1.out B1.out.size Ga
    have hw3 : w.heap.size < w3.heap.size := by
      have h2 : wa.heap.size ≤ w3.heap.size := G3.out.size
      omega
    clear y2 y3 y4 y5 d2 d3 d4 d5 X0 X1 X2 X3 G3 g4 ko kn Ga
    cases ob with
    | false =>
      have HN2 : Hid (uOk ks S zs = false) := HU2.out.1
      clear t4
      go_wp2_with (with_reducible show wpList _ _ _ (_ :: _) _ _; refine wpList_sk rfl rfl _ _ rfl w.heap.size 0 0 0 0 none 0 0 rfl rfl 0 0 0 0 (.slice none 0 0) (by with_reducible exact m4) ?_)
      refine bodyPost_ret (v := .tuple #[.agg #[.int .i64 0, .int .i64 0, .int .i64 0, .int .u64 0, .slice none 0 0], .bool false]) ?_ rfl ⟨Vo.bad HN2.out _, bel_row B4 (Nat.le_refl _) _⟩
      exact results_k2 rfl _ _ w.heap.size 0 0 0 0 _ _ rfl rfl (m4.row 0 0 0 0 _)
    | true =>
      have HN2 : Hid (uOk ks S zs = true) := HU2.out.1
      obtain ⟨o5, hm5⟩ := o4 rfl
      have e0 := t4.c0
      have e1 := t4.c1
      have e2 := t4.c2
      have e3 := t4.c3
      have hne : ∀ k, (Value.slice at' mt ct).ownBlock = some k → k ≠ w.heap.size := fun k hk => by
        have := (o5.lt k hk).1
        omega
      go_wp2_with (with_reducible show wpList _ _ _ (_ :: _) _ _; refine wpList_sk rfl rfl _ _ rfl w.heap.size T K G C at' mt ct rfl rfl 0 0 0 0 (.slice none 0 0) (by with_reducible exact m4) ?_)
      refine bodyPost_ret (v := .tuple #[.agg #[.int .i64 T, .int .i64 K, .int .i64 G, .int .u64 C, .slice at' mt ct], .bool true]) ?_ rfl ⟨⟨at', mt, ct, ?_, ?_, hm5⟩, bel_row B4 (Nat.le_refl _) _⟩
      · exact results_k2 rfl _ _ w.heap.size T K G C _ _ rfl rfl (m4.row T K G C _)
      · rw [(HZ _).out HN2.out, (HZ _).out HN2.out, (HZ _).out HN2.out, (HZ _).out HN2.out, HT.out, HK.out, HG.out, HC.out, HN2.out]
      · rw [HU2.out.2 HN2.out]
        exact own_le7 (own_row o5 hne _) (Nat.le_of_lt hw3)
end Go.Proofs.Ytnjfckijpbgagaa
namespace Go.Proofs.Ytnjfckijpbgagaa
set_option maxRecDepth 100000
open Go.RowKit
set_option linter.unusedVariables false

set_option maxHeartbeats 4000000 in
theorem packetOpens_ (a0 : Option Addr) (n0 c0 : Nat) (ks : List Int) (S : Int) (a1 : Option Addr) (n1 c1 : Nat) (zs : List Int) (w : World) (hb0 : Bs w a0 n0 ks) (hb1 : Bs w a1 n1 zs) (hn0 : n0 ≤ 140737488351232) (hc1 : n1 ≤ c1) (hm1 : c1 ≤ maxLen) (hn1 : n1 ≤ 140737488351232) :
    Calls Try.prog 4 #[.slice a0 n0 c0, .int .i64 S, .slice a1 n1 c1] w fun e w' => e = .returned (.bool true) ∧ Below w.heap.size w w' := by
  have k1 := fun w h => refBytes a0 n0 c0 ks w h hn0
  have k2 := fun w h => refBytes a1 n1 c1 zs w h hn1
  have HB0 := hid hb0
  have HB1 := hid hb1
  have hx0 : n0 ≤ maxLen := by unfold maxLen; omega
  have k3 := fun x0 d0 x1 d1 w h0 h1 h2 h3 => open9_ x0 n0 d0 ks S x1 n1 d1 zs w h0 h1 hx0 h2 h3
  have k4 := fun w h0 h1 => refOpen9_ a0 n0 c0 ks S a1 n1 c1 zs w h0 h1 hx0 hc1 hm1
  unfold Vo at k3
  unfold Uo at k4
  obtain ⟨T, HT⟩ : ∃ x, Hid (uZ ks S zs (gT zs) = x) := ⟨_, rfl⟩
  obtain ⟨K, HK⟩ : ∃ x, Hid (uZ ks S zs (gK zs) = x) := ⟨_, rfl⟩
  obtain ⟨G, HG⟩ : ∃ x, Hid (uZ ks S zs (gG zs) = x) := ⟨_, rfl⟩
  obtain ⟨C, HC⟩ : ∃ x, Hid (uZ ks S zs (gC zs) = x) := ⟨_, rfl⟩
  obtain ⟨U, HU⟩ : ∃ x, Hid (uOk ks S zs = x) := ⟨_, rfl⟩
  simp only [HT.out, HK.out, HG.out, HC.out, HU.out] at k3 k4
  have HUB : Hid (∀ z ∈ uB ks S zs, 0 ≤ z ∧ z ≤ 255) := by
    show ∀ z ∈ _, _
    unfold uB
    split
    · unfold oP
      split
      · exact ic_bytes (st_lt (kf_lt (nt_lt hb0.2.1)) (nt_lt (nRow_byte _ _ _)) (fun x hx => nt_lt (fun z hz => hb1.2.1 z (List.mem_of_mem_drop hz)) x (List.mem_of_mem_take hx)))
      · intro z hz
        simp [ic] at hz
    · intro z hz
      simp at hz
  generalize uB ks S zs = V at *
  clear hb0 hb1
  go_enter Try.func4, Try.ntmps4
  go_wp2_with fail
  refine (k1 _ HB0.out).mono ?_
  rintro e w1 ⟨v1, rfl, o1, g1⟩
  obtain ⟨x0, d0, rfl, y0, i0, j0, _⟩ := own_form o1 HB0.out.2.1
  clear k1 o1
  go_wp2_with fail
  refine (k2 _ (HB1.out.below g1)).mono ?_
  rintro e w2 ⟨v2, rfl, o2, g2⟩
  obtain ⟨x1, d1, rfl, y1, i1, j1, _⟩ := own_form o2 HB1.out.2.1
  have b2 := bel_bel g1 g1.size g2
  replace y0 := y0.below g2
  clear k2 o2 g1 g2
  go_wp2_with fail
  refine (k3 x0 d0 x1 d1 w2 y0 y1 i1 j1).mono ?_
  rintro e w3 ⟨⟨at', mt, ct, rfl, o3, hm3⟩, g3⟩
  obtain ⟨a3, e3, q3, y3, i3, j3, _⟩ := own_form o3 HUB.out
  obtain ⟨rfl, -, rfl⟩ : at' = a3 ∧ mt = mt ∧ ct = e3 := by simpa using q3
  have b3 := bel_bel b2 b2.size g3
  have BA := (Below.refl w3.heap.size w3).alloc (Nat.le_refl _) (.cells #[.int .i64 T, .int .i64 K, .int .i64 G, .int .u64 C, .slice at' mt ct] 27)
  have M3 : Hid (Km (w3.alloc (.cells #[.int .i64 T, .int .i64 K, .int .i64 G, .int .u64 C, .slice at' mt ct] 27)) w3.heap.size T K G C (.slice at' mt ct)) := Km.new w3 _ _ _ _ _
  have Y3 := hid (y3.below BA)
  have B3 := hid (bel_bel b3 b3.size BA)
  clear k3 o3 g3 y0 y1 b2 b3 BA y3 q3
  go_wp2_with fail
  refine (k4 _ (HB0.out.below B3.out) (HB1.out.below B3.out)).mono ?_
  rintro e w4 ⟨⟨a4, m4, c4, rfl, y4, hm4⟩, g4⟩
  have b4 := bel_bel B3.out B3.out.size g4
  have BA := (Below.refl w4.heap.size w4).alloc (Nat.le_refl _) (.cells #[.int .i64 T, .int .i64 K, .int .i64 G, .int .u64 C, .slice a4 m4 c4] 27)
  have M4 := hid ((M3.out.kept g4).kept BA)
  have N4 : Hid (Km (w4.alloc (.cells #[.int .i64 T, .int .i64 K, .int .i64 G, .int .u64 C, .slice a4 m4 c4] 27)) w4.heap.size T K G C (.slice a4 m4 c4)) := Km.new w4 _ _ _ _ _
  have Y3' := hid ((Y3.out.below g4).below BA)
  have Y4 := hid (y4.below BA)
  have B4 := hid (bel_bel b4 b4.size BA)
  clear k4 g4 b4 BA y4 M3 Y3 B3
  have d0 := M4.out.c0
  have d1 := M4.out.c1
  have d2 := M4.out.c2
  have d3 := M4.out.c3
  go_wp2_with fail
  clear d0 d1 d2 d3
  refine (sameHead_ T K G C _).mono ?_
  rintro e w5 ⟨rfl, g5⟩
  have m5 := M4.out.kept g5
  have n5 := N4.out.kept g5
  have y5 := Y3'.out.below g5
  have z5 := Y4.out.below g5
  have b5 := bel_bel B4.out B4.out.size g5
  clear g5 M4 N4 Y3' Y4 B4
  have d4 := m5.c4
  have f4 := n5.c4
  go_wp2_with fail
  clear d4 f4
  refine (same_yes at' a4 mt ct m4 c4 V w5 y5 z5 (by omega) (by omega)).mono ?_
  rintro e w6 ⟨rfl, d6⟩
  have b6 := bel_bel b5 b5.size d6.below
  clear y5 z5 b5 m5 n5 d6
  have hUU : (U == U) = true := by simp
  go_wp2_with (first | (go_at_call 14; refine (first_ _).mono ?_; rintro e wf ⟨rfl, gf⟩; have bf := bel_bel b6 b6.size gf))
  go_ret
  exact ⟨rfl, bf⟩
set_option maxHeartbeats 4000000 in
theorem packetSeals_ (a0 : Option Addr) (n0 c0 : Nat) (ks : List Int) (S T K G C : Int) (a1 : Option Addr) (n1 c1 : Nat) (zs : List Int) (w : World) (hb0 : Bs w a0 n0 ks) (hb1 : Bs w a1 n1 zs) (hn0 : n0 ≤ 140737488351232) (hn1 : n1 ≤ 140737488351232) (hC : InU C) :
    Calls Try.prog 3 #[.slice a0 n0 c0, .int .i64 S, .agg #[.int .i64 T, .int .i64 K, .int .i64 G, .int .u64 C, .slice a1 n1 c1]] w fun e w' => e = .returned (.bool true) ∧ Below w.heap.size w w' := by
  have k1 := fun w h => refBytes a0 n0 c0 ks w h hn0
  have k2 := fun w h => refBytes a1 n1 c1 zs w h hn1
  have hx0 : n0 ≤ maxLen := by unfold maxLen; omega
  have hx1 : n1 ≤ maxLen := by unfold maxLen; omega
  have k3 := fun x0 d0 x1 d1 w h0 h1 h2 h3 => seal9_ x0 n0 d0 ks S T K G C x1 n1 d1 zs w h0 h1 hx0 h2 h3 hC
  have k4 := fun w h0 h1 => refSeal9_ a0 n0 c0 ks S T K G C a1 n1 c1 zs w h0 h1 hx0 hx1 hC
  have HSB := hid (sB_byte S T K G C hb0.2.1 hb1.2.1)
  have hle := sB_le ks S T K G C zs
  generalize sB ks S T K G C zs = V at *
  generalize sE ks S T K G C zs = E at *
  have B0 := knew w T K G C (.slice a1 n1 c1)
  have m0 := Km.new w T K G C (.slice a1 n1 c1)
  have HB0 := hid hb0
  have HB1 := hid hb1
  have HM := hid m0
  have HBB := hid B0
  clear hb0 hb1 m0 B0
  go_enter Try.func3, Try.ntmps3
  go_wp2_with fail
  have d0 := HM.out.c0
  have d1 := HM.out.c1
  have d2 := HM.out.c2
  have d3 := HM.out.c3
  have d4 := HM.out.c4
  have hlt := HM.out.lt
  have XB0 := hid (HB0.out.below HBB.out)
  have XB1 := hid (HB1.out.below HBB.out)
  generalize w.alloc (.cells #[.int .i64 T, .int .i64 K, .int .i64 G, .int .u64 C, .slice a1 n1 c1] 27) = wa at *
  go_region_held (fun wx => wx.cell? ⟨w.heap.size, 0, none⟩ = some (.int .i64 T) ∧ wx.cell? ⟨w.heap.size, 1, none⟩ = some (.int .i64 K) ∧ wx.cell? ⟨w.heap.size, 2, none⟩ = some (.int .i64 G) ∧ wx.cell? ⟨w.heap.size, 3, none⟩ = some (.int .u64 C) ∧ wx.cell? ⟨w.heap.size, 4, none⟩ = some (.slice a1 n1 c1)) (go_keep) (first | (go_at_call 9; refine (k3 x0 d0' x1 d1' w3 X0c.out X1c.out i1 j1).mono ?_; rintro e w4 ⟨v4, rfl, o4, g4⟩; obtain ⟨a4, c4, rfl, y4', _⟩ := own_form o4 HSB.out; have y0 := (g4.cell (p := ⟨w.heap.size, 0, none⟩) (Nat.lt_of_lt_of_le hlt (Nat.le_trans G2.out.size G3.out.size))).trans y0; have y1 := (g4.cell (p := ⟨w.heap.size, 1, none⟩) (Nat.lt_of_lt_of_le hlt (Nat.le_trans G2.out.size G3.out.size))).trans y1; have y2 := (g4.cell (p := ⟨w.heap.size, 2, none⟩) (Nat.lt_of_lt_of_le hlt (Nat.le_trans G2.out.size G3.out.size))).trans y2; have y3 := (g4.cell (p := ⟨w.heap.size, 3, none⟩) (Nat.lt_of_lt_of_le hlt (Nat.le_trans G2.out.size G3.out.size))).trans y3; have y4 := (g4.cell (p := ⟨w.heap.size, 4, none⟩) (Nat.lt_of_lt_of_le hlt (Nat.le_trans G2.out.size G3.out.size))).trans y4; have G4 := hid g4; have Y4 := hid y4'; clear o4 g4 y4') | (go_at_call 10; have HQ := G2; refine (k2 _ X1b.out).mono ?_; rintro e w3 ⟨v3, rfl, o3, g3⟩; obtain ⟨x1, d1', rfl, y1', i1, j1, _⟩ := own_form o3 HB1.out.2.1; have y0 := (g3.cell (p := ⟨w.heap.size, 0, none⟩) (Nat.lt_of_lt_of_le hlt G2.out.size)).trans y0; have y1 := (g3.cell (p := ⟨w.heap.size, 1, none⟩) (Nat.lt_of_lt_of_le hlt G2.out.size)).trans y1; have y2 := (g3.cell (p := ⟨w.heap.size, 2, none⟩) (Nat.lt_of_lt_of_le hlt G2.out.size)).trans y2; have y3 := (g3.cell (p := ⟨w.heap.size, 3, none⟩) (Nat.lt_of_lt_of_le hlt G2.out.size)).trans y3; have y4 := (g3.cell (p := ⟨w.heap.size, 4, none⟩) (Nat.lt_of_lt_of_le hlt G2.out.size)).trans y4; have X0c := hid (X0b.out.below g3); have X1c := hid y1'; have G3 := hid g3; clear o3 g3 y1') | (go_at_call 10; refine (k1 _ (by exact XB0.out)).mono ?_; rintro e w2 ⟨v2, rfl, o2, g2⟩; obtain ⟨x0, d0', rfl, y0', _⟩ := own_form o2 HB0.out.2.1; have y0 := (g2.cell (p := ⟨w.heap.size, 0, none⟩) hlt).trans d0; have y1 := (g2.cell (p := ⟨w.heap.size, 1, none⟩) hlt).trans d1; have y2 := (g2.cell (p := ⟨w.heap.size, 2, none⟩) hlt).trans d2; have y3 := (g2.cell (p := ⟨w.heap.size, 3, none⟩) hlt).trans d3; have y4 := (g2.cell (p := ⟨w.heap.size, 4, none⟩) hlt).trans d4; have X0b := hid y0'; have X1b := hid (Bs.below (by exact XB1.out) g2); have G2 := hid g2; clear o2 g2 y0'))
  have Ga : Below wa.heap.size wa w4 := by
    have h1 : Below wa.heap.size wa wa.drew := ⟨rfl, rfl, rfl, Nat.le_refl _, fun _ _ => rfl⟩
    have h2 := bel_bel h1 h1.size G2.out
    have h3 := bel_bel h2 h2.size G3.out
    exact bel_bel h3 h3.size G4.out
  have m4 := HM.out.kept Ga
  have b4 := bel_bel HBB.out HBB.out.size Ga
  clear y0 y1 y2 y3 y4 d0 d1 d2 d3 d4 X0b X0c X1b X1c G2 G3 G4 HQ Ga HM HBB k1 k2 k3
  have d0 := m4.c0
  have d1 := m4.c1
  have d2 := m4.c2
  have d3 := m4.c3
  have d4 := m4.c4
  go_wp2_with fail
  clear d0 d1 d2 d3 d4
  refine (k4 _ (HB0.out.below b4) (HB1.out.below b4)).mono ?_
  rintro e w5 ⟨v5, rfl, o5, g5⟩
  obtain ⟨a5, c5, rfl, y5, _⟩ := own_form o5 HSB.out
  have y4 := Y4.out.below g5
  have b5 := bel_bel b4 b4.size g5
  clear k4 o5 g5 b4 m4 Y4
  go_wp2_with fail
  refine (same_yes a4 a5 V.length c4 V.length c5 V w5 y4 y5 (by omega) (by omega)).mono ?_
  rintro e w6 ⟨rfl, d6⟩
  have b6 := bel_bel b5 b5.size d6.below
  clear y4 y5 b5 d6
  go_wp2_with (first | (go_at_call 13; refine (num_ E _).mono ?_; rintro e wn ⟨rfl, hw⟩; obtain rfl := hw.symm; clear hw) | (go_at_call 14; refine (first_ _).mono ?_; rintro e wf ⟨rfl, gf⟩; have bf := bel_bel b6 b6.size gf))
  go_ret
  exact ⟨rfl, bf⟩
end Go.Proofs.Ytnjfckijpbgagaa
