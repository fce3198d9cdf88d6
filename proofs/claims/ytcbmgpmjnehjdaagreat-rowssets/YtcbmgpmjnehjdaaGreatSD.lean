import Derived.Test.YtcbmgpmjnehjdaaGreatRV
import Derived.Test.YtcbmgpmjnehjdaaGreatSI
import Derived.Test.YtcbmgpmjnehjdaaGreatSC
namespace Go.Proofs.YtcbmgpmjnehjdaaGreat
set_option maxRecDepth 100000
open Go.RowKit
set_option linter.unusedVariables false

set_option maxHeartbeats 1000000 in
/-- The landed peerMayBe. -/
theorem peerMayBe_ (K : Int) (ka pa : Option Addr) (m c n d : Nat) (ps : List Px) (w : World) (hp : Ps w pa n ps) (hm : m ≤ maxLen) (hn : n ≤ maxLen) (q : Bool) (hq : (q = true) ↔ Pk K m ps) :
    Calls Tryz.prog 96 #[.agg #[.int .i64 K, .slice ka m c, .slice pa n d]] w fun e w' => e = .returned (.bool q) ∧ Below w.heap.size w w' := by
  have hl := hp.len
  have HB := hid (show Below w.heap.size w (w.alloc (.cells #[.int .i64 K, .slice ka m c, .slice pa n d] 57)) from (Below.refl _ _).alloc (Nat.le_refl _) _)
  have m1 := heap_alloc_new w (.cells #[.int .i64 K, .slice ka m c, .slice pa n d] 57)
  have c0 : (w.alloc (.cells #[.int .i64 K, .slice ka m c, .slice pa n d] 57)).cell? ⟨w.heap.size, 0, none⟩ = some (.int .i64 K) := (cell_of_row _ w.heap.size 0 _ _ (0, 0) m1).trans rfl
  have c1 : (w.alloc (.cells #[.int .i64 K, .slice ka m c, .slice pa n d] 57)).cell? ⟨w.heap.size, 1, none⟩ = some (.slice ka m c) := (cell_of_row _ w.heap.size 1 _ _ (0, 0) m1).trans rfl
  have c2 : (w.alloc (.cells #[.int .i64 K, .slice ka m c, .slice pa n d] 57)).cell? ⟨w.heap.size, 2, none⟩ = some (.slice pa n d) := (cell_of_row _ w.heap.size 2 _ _ (0, 0) m1).trans rfl
  have k0 := fun wx => rwithin_ K 1 4294967295 wx
  have k1 := fun wx => risKey_ ka m c wx hm
  have HP1 := hid (hp.on HB.out)
  have HQ := hid hq
  clear m1 hp hq
  unfold maxLen at hn hm
  by_cases h1 : 1 ≤ K ∧ K ≤ 4294967295
  · rw [show wtn K 1 4294967295 = true from decide_eq_true h1] at k0
    by_cases h2 : m = 32
    · rw [decide_eq_true h2] at k1
      by_cases h3 : n ≤ 16
      · have h3' : (n : Int) ≤ 16 := by omega
        have k2 := validRising_ pa n d ps _ HP1.out (by unfold maxLen; omega) q (by rw [HQ.out]; unfold Pk; rw [hl]; exact ⟨fun h => h.2.2.2.2, fun h => ⟨h1.1, h1.2, h2, h3, h⟩⟩)
        clear HQ h2 h1 hm
        go_enter Tryz.func96, Tryz.ntmps96
        go_wp2_with fail
        refine (k0 _).mono ?_
        rintro e w1 ⟨rfl, hw⟩
        rw [hw]
        clear hw w1 k0
        go_wp2_with fail
        refine (k1 _).mono ?_
        rintro e w1 ⟨rfl, hw⟩
        rw [hw]
        clear hw w1 k1
        go_wp2_with fail
        refine k2.mono ?_
        rintro e w1 ⟨rfl, g1⟩
        have HB1 := hid (bel_bel HB.out HB.out.size g1)
        clear k2 g1 c0 c1 c2
        go_wp2_with fail
        go_ret
        exact ⟨rfl, HB1.out⟩
      · have h3' : ¬ (n : Int) ≤ 16 := by omega
        have HF : Hid (false = q) := by
          show _ = _
          cases q
          · rfl
          · exact absurd (HQ.out.1 rfl).2.2.2.1 (by omega)
        clear HQ h2 h1 hm
        go_enter Tryz.func96, Tryz.ntmps96
        go_wp2_with fail
        refine (k0 _).mono ?_
        rintro e w1 ⟨rfl, hw⟩
        rw [hw]
        clear hw w1 k0
        go_wp2_with fail
        refine (k1 _).mono ?_
        rintro e w1 ⟨rfl, hw⟩
        rw [hw]
        clear hw w1 k1
        go_wp2_with fail
        go_ret
        exact ⟨ret_bool HF.out, HB.out⟩
    · rw [decide_eq_false h2] at k1
      have HF : Hid (false = q) := by
        show _ = _
        cases q
        · rfl
        · exact absurd (HQ.out.1 rfl).2.2.1 h2
      clear HQ h2 h1 hm
      go_enter Tryz.func96, Tryz.ntmps96
      go_wp2_with fail
      refine (k0 _).mono ?_
      rintro e w1 ⟨rfl, hw⟩
      rw [hw]
      clear hw w1 k0
      go_wp2_with fail
      refine (k1 _).mono ?_
      rintro e w1 ⟨rfl, hw⟩
      rw [hw]
      clear hw w1 k1
      go_wp2_with fail
      go_ret
      exact ⟨ret_bool HF.out, HB.out⟩
  · rw [show wtn K 1 4294967295 = false from decide_eq_false h1] at k0
    have HF : Hid (false = q) := by
      show _ = _
      cases q
      · rfl
      · exact absurd ⟨(HQ.out.1 rfl).1, (HQ.out.1 rfl).2.1⟩ h1
    clear HQ h1 hm
    go_enter Tryz.func96, Tryz.ntmps96
    go_wp2_with fail
    refine (k0 _).mono ?_
    rintro e w1 ⟨rfl, hw⟩
    rw [hw]
    clear hw w1 k0
    go_wp2_with fail
    go_ret
    exact ⟨ret_bool HF.out, HB.out⟩
set_option maxHeartbeats 2000000 in
/-- The landed PutPeer. -/
theorem putPeer_ (K : Int) (ka pa : Option Addr) (m c n d : Nat) (k : List Int) (ps : List Px) (w : World) (hK : InI K) (hk : Bs w ka m k) (hp : Ps w pa n ps) (hm : m ≤ maxLen) (hn : n ≤ maxLen) (q : Bool) (hq : (q = true) ↔ Pk K m ps) :
    Calls Tryz.prog 54 #[.agg #[.int .i64 K, .slice ka m c, .slice pa n d]] w fun e w' => Rp w (if q then peK K else []) (if q then peV k ps else []) (if q then 0 else 114) e w' := by
  have hkl := hk.1
  have hpl := hp.len
  have B0 : Below w.heap.size w ((w.alloc (.cells #[.int .i64 K, .slice ka m c, .slice pa n d] 57)).alloc (.cells #[.slice none 0 0, .slice none 0 0] 54)) := ((Below.refl _ _).alloc (Nat.le_refl _) _).alloc (by simp) _
  have m0 : ((w.alloc (.cells #[.int .i64 K, .slice ka m c, .slice pa n d] 57)).alloc (.cells #[.slice none 0 0, .slice none 0 0] 54)).heap[w.heap.size]? = some (.cells #[.int .i64 K, .slice ka m c, .slice pa n d] 57 (0, 0)) := (Below.heap_alloc _ _ _ (by simp)).trans (heap_alloc_new w _)
  have m1 := heap_alloc_new (w.alloc (.cells #[.int .i64 K, .slice ka m c, .slice pa n d] 57)) (.cells #[.slice none 0 0, .slice none 0 0] 54)
  rw [World.size_alloc] at m1
  have HK := hid hk
  have HP := hid hp
  have HQ := hid hq
  have HM0 := hid m0
  have HM1 := hid m1
  have ko := fun wx (h : Below w.heap.size w wx) => peerMayBe_ K ka pa m c n d ps wx (HP.out.on h) hm hn q HQ.out
  clear hk hp hq m0 m1
  go_enter Tryz.func54, Tryz.ntmps54
  go_wp2_with fail
  refine (ko _ B0).mono ?_
  rintro e w1 ⟨rfl, g1⟩
  have HB := hid (bel_bel B0 B0.size g1)
  have HM2 := hid ((g1.block w.heap.size (by simp; omega)).trans HM0.out)
  have HM3 := hid ((g1.block (w.heap.size + 1) (by simp)).trans HM1.out)
  have HLT : Hid (w.heap.size + 1 < w1.heap.size) := by have := g1.size; simp at this; show _ < _; omega
  clear B0 g1 HM0 HM1 ko
  cases q
  · clear HQ
    have z0 := (two_cell HM3.out).1
    have z1 := (two_cell HM3.out).2
    have f0 := two_fz HM3.out 0
    have f1 := two_fz HM3.out 1
    have HM4 := hid (two_set (a := .slice none 0 0) (b := .slice none 0 0) HM3.out)
    have HB2 := hid ((HB.out.setCell (p := ⟨w.heap.size + 1, 0, none⟩) (Nat.le_succ _) (.slice none 0 0)).setCell (p := ⟨w.heap.size + 1, 1, none⟩) (Nat.le_succ _) (.slice none 0 0))
    go_wp2_with fail
    refine bodyPost_ret (v := .tuple #[.agg #[.slice none 0 0, .slice none 0 0], .int .i64 114]) ?_ rfl ⟨none, 0, none, 0, rfl, vs_none _ _, vs_none _ _, HB2.out⟩
    exact results_rw rfl _ _ (w.heap.size + 1) _ _ 0 0 0 0 _ rfl rfl (two_cell HM4.out).1 (two_cell HM4.out).2
  · obtain ⟨q1, q2, q3, q4, q5⟩ := HQ.out.1 rfl
    subst q3
    have hn16 : n ≤ 16 := by omega
    clear HQ q4 hm hn
    have y0 := Bw.cell (St.one w1 80).bel ((cell_of_row w1 w.heap.size 0 _ 57 (0, 0) HM2.out).trans rfl : w1.cell? ⟨w.heap.size, 0, none⟩ = some (.int .i64 K))
    have HY1 : Hid (w1.cell? ⟨w.heap.size, 1, none⟩ = some (.slice ka 32 c)) := (cell_of_row w1 w.heap.size 1 _ 57 (0, 0) HM2.out).trans rfl
    have HY2 : Hid (w1.cell? ⟨w.heap.size, 2, none⟩ = some (.slice pa n d)) := (cell_of_row w1 w.heap.size 2 _ 57 (0, 0) HM2.out).trans rfl
    have HPG := hid q5
    clear HM2 q5
    go_wp2_with fail
    have bs80 := (own_one w1 80 w1.heap.size (Nat.le_refl _))
    refine (oput32 (some ⟨w1.heap.size, 0, none⟩) 1 1 [80] K _ (bs_lit w1 [80] (0, 0) (Okb1 80 (by omega))) (by omega) (by omega) (by omega)).mono ?_
    rintro e wb ⟨vb, rfl, ob, gb⟩
    have HSb : Hid (St w1 wb vb ([80] ++ be 4 K)) := ⟨own_monoT (by rw [List.length_append, be_length]; exact ob) (by simp), bel_bel (St.one w1 80).bel (St.one w1 80).bel.size gb⟩
    have x1 := Bw.cell HSb.out.bel HY1.out
    have x2 := Bw.cell HSb.out.bel HY2.out
    clear y0 bs80 ob gb
    obtain ⟨p5, HP5⟩ : ∃ p : Nat, Hid ((([80] : List Int) ++ be 4 K).length = p) := ⟨_, rfl⟩
    have HOK : Hid (Okb (peK K)) := by
      intro z hz
      unfold peK at hz
      rcases List.mem_append.1 hz with h | h
      · rw [List.mem_singleton.1 h]; omega
      · exact be_byte _ _ z h
    have ob := HSb.out.own
    rw [HP5.out] at ob
    obtain ⟨ab, cb, rfl, vsb⟩ := Vs.ofOwn ob HOK.out
    have HVb := hid vsb
    clear ob vsb HOK
    have HBb := hid (bel_bel HB.out HB.out.size HSb.out.bel)
    have hwn : IntKind.u8.wrap (n : Int) = (n : Int) := by rw [IntKind.wrap_u8]; omega
    have hnI : (n : Int) < 256 := by omega
    have k8 := oput8 ka 32 c k (n : Int) wb (HK.out.below HBb.out) (by omega) (by omega) (by omega)
    go_wp2_with fail
    refine k8.mono ?_
    rintro e w3 ⟨v3, rfl, o3, g3⟩
    rw [be_one (by omega)] at o3
    have HS3 : Hid (St wb w3 v3 (k ++ [(n : Int)])) := ⟨by rw [List.length_append, hkl]; exact o3, g3⟩
    have x3 := Bw.cell g3 x2
    clear k8 o3 g3
    obtain ⟨kk, HKK⟩ : ∃ l, Hid (k ++ [(n : Int)] = l) := ⟨_, rfl⟩
    rw [HKK.out] at HS3
    have HKKl : Hid (kk.length = 33) := by show _ = _; rw [← HKK.out, List.length_append, hkl]; rfl
    have HKB : Hid (Okb kk) := by
      rw [← HKK.out]
      intro z hz
      rcases List.mem_append.1 hz with h | h
      · exact HK.out.2.1 z h
      · rw [List.mem_singleton.1 h]; omega
    have HMb := hid ((HSb.out.bel.block (w.heap.size + 1) HLT.out).trans HM3.out)
    have HLb := hid (Nat.lt_of_lt_of_le HLT.out HSb.out.bel.size)
    have HPb := hid (HP.out.on HBb.out)
    clear x1 HY1 HY2 HM3 HP
    go_wp2_with fail
    clear x2 x3 hwn
    go_loopw [5, 7, 27] (fun v _ i wr => ∃ j : Nat, j ≤ n ∧ i = .int .i64 j ∧ Hid (St wb wr v (kk ++ peB (ps.take j)))) (fun _ _ i _ => n - (intOf i).toNat)
    case atStart => exact ⟨0, by omega, rfl, by show St _ _ _ _; simpa [peB] using HS3.out⟩
    case round =>
      obtain ⟨j, hj, rfl, HSr⟩ := hrel
      by_cases hlt : j < n
      · have hjI : (j : Int) < n := by omega
        obtain ⟨b, off, rfl, hc⟩ : ∃ b off, pa = some ⟨b, off, none⟩ ∧ ∀ i, i < n → Pc wr b (off + i * 4) (ps.getD i px0) := by
          rcases (HPb.out.on HSr.out.bel).at' with h0 | h1
          · omega
          · exact h1
        have c0 := (hc j hlt).c0
        have c1 := (hc j hlt).c1
        have c2 := (hc j hlt).c2
        have c3 := (hc j hlt).c3
        have hxo : (ps.getD j px0).ok := by
          have e : ps.getD j px0 = ps[j]'(by omega) := by simp [List.getD, show j < ps.length by omega]
          rw [e]
          exact HPb.out.ok _ (List.getElem_mem _)
        have HSU := hid (peB_succ ps j (by omega))
        obtain ⟨x, HX⟩ : ∃ x, Hid (ps.getD j px0 = x) := ⟨_, rfl⟩
        rw [HX.out] at c0 c1 c2 c3 hxo HSU
        have kp := pput_ x.F x.H x.L x.B (wr.alloc (.cells #[.int .i64 x.F, .int .u64 x.H, .int .u64 x.L, .int .i64 x.B] 121)) hxo.F hxo.H hxo.L hxo.B
        have hb1 := pp_len x.F x.H x.L x.B
        have hbb := pp_byte x.F x.H x.L x.B
        have hb2 : (kk ++ peB (ps.take j)).length ≤ 400 := by
          have := peB_len (ps.take j)
          rw [List.length_take] at this
          simp only [List.length_append, HKKl.out]
          omega
        obtain ⟨pq, Hpq⟩ : ∃ l, Hid (pp x.F x.H x.L x.B = l) := ⟨_, rfl⟩
        rw [Hpq.out] at kp hb1 hbb HSU
        obtain ⟨pl, Hpl⟩ : ∃ l : Nat, Hid (pq.length = l) := ⟨_, rfl⟩
        rw [Hpl.out] at kp hb1
        obtain ⟨XX, HXX⟩ : ∃ l, Hid (kk ++ peB (ps.take j) = l) := ⟨_, rfl⟩
        rw [HXX.out] at HSr hb2
        have HH1 := hid hb1
        have HH2 := hid hb2
        clear hc hxo hb1 hb2
        go_wp2_with fail
        clear c0 c1 c2 c3
        refine kp.mono ?_
        rintro e w4 ⟨v4, rfl, o4, g4⟩
        obtain ⟨a4, c4, rfl, vs4⟩ := Vs.ofOwn o4 hbb
        have HS4 := hid ((HSr.out.call (pnew wr x.F x.H x.L x.B)).call g4)
        have HB4 := hid vs4.bs
        clear o4 g4 vs4 kp HSr
        go_wp2_with (at_builtin; refine wpList_appS (W := wb) rfl _ _ rfl _ XX rfl (by exact HS4.out) a4 pl c4 pq rfl (by exact HB4.out) (by have := HH1.out; have := HH2.out; omega) ?_; intro v5 w5 s5; have HS5 := hid s5; clear s5)
        have HS6 : Hid (St wb w5 v5 (kk ++ peB (ps.take (j + 1)))) := by
          show St _ _ _ _
          rw [HSU.out, ← List.append_assoc, HXX.out]
          exact HS5.out
        go_roundw
        case rel => exact ⟨j + 1, by omega, by go_num, HS6⟩
        case measure => simp [intOf]; omega
      · have hjI : ¬ (j : Int) < n := by omega
        obtain rfl : j = n := by omega
        have hfull : ps.take j = ps := List.take_of_length_le (by omega)
        rw [hfull] at HSr
        have HQB : Hid (Okb (kk ++ peB ps)) := by
          intro z hz
          rcases List.mem_append.1 hz with h | h
          · exact HKB.out z h
          · exact peB_byte ps z h
        have HPV : Hid (kk ++ peB ps = peV k ps) := by show _ = _; unfold peV; rw [hpl, HKK.out]
        obtain ⟨pj, Hpj⟩ : ∃ l : Nat, Hid ((kk ++ peB ps).length = l) := ⟨_, rfl⟩
        have oj := HSr.out.own
        rw [Hpj.out] at oj
        obtain ⟨aj, cj, rfl, vsj⟩ := Vs.ofOwn oj HQB.out
        have HVj := hid vsj
        have HMj := hid ((HSr.out.bel.block (w.heap.size + 1) HLb.out).trans HMb.out)
        have z0 := (two_cell HMj.out).1
        have z1 := (two_cell HMj.out).2
        have f0 := two_fz HMj.out 0
        have f1 := two_fz HMj.out 1
        have HBel := hid HSr.out.bel
        clear oj vsj HSr
        go_wp2_with fail
        clear z0 z1 f0 f1
        have HM6 := hid (two_set (a := .slice ab p5 cb) (b := .slice aj pj cj) HMj.out)
        have HBj := hid (bel_bel HBb.out HBb.out.size HBel.out)
        have HB6 := hid ((HBj.out.setCell (p := ⟨w.heap.size + 1, 0, none⟩) (Nat.le_succ _) (.slice ab p5 cb)).setCell (p := ⟨w.heap.size + 1, 1, none⟩) (Nat.le_succ _) (.slice aj pj cj))
        have HO := fun i (h : i ≠ w.heap.size + 1) => two_other (w := wr) (a := .slice ab p5 cb) (b := .slice aj pj cj) h
        refine bodyPost_ret (v := .tuple #[.agg #[.slice ab p5 cb, .slice aj pj cj], .int .i64 0]) ?_ rfl ?_
        · exact results_rw rfl _ _ (w.heap.size + 1) _ _ _ _ _ _ _ rfl rfl (two_cell HM6.out).1 (two_cell HM6.out).2
        · show Rp w (peK K) (peV k ps) 0 _ _
          rw [← HPV.out]
          refine ⟨ab, cb, aj, cj, by rw [Hpj.out, ← HP5.out]; rfl, ?_, ?_, HB6.out⟩
          · have e : (peK K).length = p5 := HP5.out
            rw [e]
            have h := HVb.out.wide (V' := fun x => w1.heap.size ≤ x ∧ x < wb.heap.size) fun x hx h => ⟨h, hx⟩
            exact (h.step fun x hx hV _ => (HO x (by have := HLT.out; omega)).trans (HBel.out.block x hV.2)).wide fun x _ hx => by have := HLT.out; omega
          · rw [Hpj.out]
            exact (HVj.out.step fun x _ hV _ => HO x (by have := HLb.out; omega)).wide fun x _ hx => by have := HLb.out; omega
end Go.Proofs.YtcbmgpmjnehjdaaGreat
