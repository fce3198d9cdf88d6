import Derived.Deep.Cut
import Derived.Deep.CutRange
import Derived.Test.YtblcpdffiafgnaaGreatDoorZZa
namespace Go.Proofs.YtblcpdffiafgnaaGreatDoor
set_option linter.unusedSimpArgs false
set_option maxRecDepth 100000
open Go.RowKit Go.Shelf
set_option linter.unusedVariables false
set_option linter.unusedSimpArgs false

set_option maxHeartbeats 16000000 in
theorem walEvery_ (n : Int) (w : World) (hT : Tab w) (xa : Option Addr) (xn xc : Nat) (X : Nat → Xt) (hx : IsTxs w xa xn X) (hxn : xn ≤ 140737488355328) (sa : Option Addr) (sn sc : Nat) (st : List Int) (hs : Dt w sa sn sc st) (ta : Option Addr) (tn tc : Nat) (tx : List Int) (ht : Dt w ta tn tc tx) (check : Bool) (ua : Option Addr) (un uc : Nat) (us : List Int) (hu : Uc12 w ua un us) (hun : un ≤ uc ∧ uc ≤ maxLen) : Calls Tryz.prog 5 #[.int .i64 n, .slice xa xn xc, .slice sa sn sc, .slice ta tn tc, .bool check, .slice ua un uc] w fun en w' => en = .returned (.bool true) ∧ Below w.heap.size w w' := by
  have k1 := first_ w hT
  have HT := hid hT
  have HX := hid hx
  have hsn := hs.n
  have htn := ht.n
  have DS0 := hid hs
  have DT0 := hid ht
  have HU := hid hu
  have hu1 := hun.1
  have hu2 : uc ≤ 9223372036854775807 := by have := hun.2; unfold maxLen at this; omega
  clear hT hx hs ht hu hun
  go_enter Tryz.func5, Tryz.ntmps5
  go_wp2_with fail
  refine k1.mono ?_
  rintro en w1 ⟨rfl, B1⟩
  simp only
  have HB1 := hid B1
  by_cases h20 : (20000 : Int) < (sn : Int)
  · clear k1 B1
    go_wp2_with fail
    go_ret
    exact ⟨rfl, HB1.out⟩
  clear k1 B1
  go_upto_if 33 with fail
  go_cut [5] from 22 (fun v5 wx => ∃ (a5 : Option Addr) (k5 c5 : Nat) (l5 : List Int), v5 = .slice a5 k5 c5 ∧ wx = w1 ∧ Hid (k5 ≤ 6 ∧ k5 ≤ c5 ∧ Uc12 w1 a5 k5 l5))
  case first =>
    have HU1 := hid (HU.out.below HB1.out)
    by_cases h6 : (6 : Int) < (un : Int)
    · obtain ⟨b, off, rfl, hc⟩ : ∃ b off, ua = some ⟨b, off, none⟩ ∧ _ := HU1.out.2.2.resolve_left (by omega)
      have hne : ¬ uc = un - 6 := by omega
      go_wp2_with fail
      go_meet
      case rel =>
        refine ⟨_, _, _, us.drop (un - 6), rfl, rfl, by omega, by omega, ?_, fun x hx => HU1.out.2.1 x (List.mem_of_mem_drop hx), .inr ⟨b, off + (un - 6), rfl, fun i hi => ?_⟩⟩
        · rw [List.length_drop, HU1.out.1]
        · have := hc (un - 6 + i) (by omega)
          rw [show off + (un - 6) + i = off + (un - 6 + i) by omega, this]
          simp [List.getD]
    · go_wp2_with fail
      go_meet
      case rel => exact ⟨ua, un, uc, us, rfl, rfl, by omega, hu1, HU1.out⟩
  case rest =>
  obtain ⟨a5, k5, c5, l5, rfl, hwc, h5⟩ := hcut
  obtain rfl := hwc.symm
  clear HU
  obtain ⟨wm, rfl⟩ : ∃ z, z = w1 := ⟨_, rfl⟩
  go_upto_region 6 with fail
  go_cut [5] from 22 (fun v5 wx => ∃ (a6 : Option Addr) (k6 c6 : Nat) (l6 : List Int), v5 = .slice a6 k6 c6 ∧ Hid (k6 ≤ 8 ∧ 0 < k6 ∧ l6.length = k6 ∧ (∀ x ∈ l6, 0 ≤ x ∧ x ≤ 18446744073709551615) ∧ wx.ownsRow wm.heap.size 45 1 (.slice a6 k6 c6) k6 (cu12 l6) ∧ Below wm.heap.size wm wx))
  case first =>
    obtain ⟨hk6, hkc5, hl5, hr5, hm5⟩ := h5.out
    have fin : ∀ (k : Nat) (l : List Int) (v : Value) (wx : World), k ≤ 6 → l.length = k → (∀ x ∈ l, 0 ≤ x ∧ x ≤ 18446744073709551615) → wx.ownsRow wm.heap.size 45 1 v (k + 2) (cu12 (l ++ [0, 18446744073709551615])) → Below wm.heap.size wm wx → ∃ (a6 : Option Addr) (k6 c6 : Nat) (l6 : List Int), v = .slice a6 k6 c6 ∧ Hid (k6 ≤ 8 ∧ 0 < k6 ∧ l6.length = k6 ∧ (∀ x ∈ l6, 0 ≤ x ∧ x ≤ 18446744073709551615) ∧ wx.ownsRow wm.heap.size 45 1 (.slice a6 k6 c6) k6 (cu12 l6) ∧ Below wm.heap.size wm wx) := fun k l v wx h1 h2 h3 h4 hb => by
      obtain ⟨a6, c6, rfl⟩ := own_sl12 h4
      refine ⟨a6, k + 2, c6, l ++ [0, 18446744073709551615], rfl, by omega, by omega, by simp [h2], fun x hx => ?_, h4, hb⟩
      rcases List.mem_append.1 hx with q | q
      · exact h3 x q
      · simp at q
        rcases q with rfl | rfl <;> decide
    have HFN := hid fin
    clear fin
    have szw : wm.heap.size ≤ (wm.alloc (.cells #[] 45)).heap.size := by simp
    cases a5 with
    | none =>
      obtain rfl : k5 = 0 := by
        rcases hm5 with q | ⟨b, off, e, _⟩
        · exact q
        · cases e
      have hown : (wm.alloc (.cells #[] 45)).ownsRow wm.heap.size 45 1 (.slice (some ⟨wm.heap.size, 0, none⟩) 0 0) 0 (cu12 []) := ⟨rfl, .inr ⟨wm.heap.size, 0, #[], rfl, Nat.le_refl _, World.alloc_heap_new wm _, Nat.le_refl _, Nat.zero_le _, rfl, rfl⟩⟩
      have BA : Below wm.heap.size wm (wm.alloc (.cells #[] 45)) := (Below.refl _ _).alloc (Nat.le_refl _) _
      obtain ⟨WA, HWA⟩ : ∃ WA, wm.alloc (.cells #[] 45) = WA := ⟨_, rfl⟩
      rw [HWA] at hown BA szw
      have HO := hid hown
      have HBA := hid BA
      clear hown BA
      go_wp2_with (at_builtin; refine wpList_appU2 (B := wm.heap.size) rfl _ _ rfl (.slice (some ⟨wm.heap.size, 0, none⟩) 0 0) 0 [] _ _ rfl (by exact HO.out) rfl (by omega) (by omega) ?_; intro v2 w2 h1 h2; have g2 := below_appL HBA.out HO.out h2 szw)
      go_meet
      case rel => exact HFN.out 0 [] _ _ (by omega) rfl (fun x hx => (by cases hx)) h1 g2
    | some ad =>
      have hc5 : ∀ i, i < k5 → wm.cell? (ad.add i) = some (.int .u64 (l5.getD i 0)) := by
        rcases hm5 with q | ⟨b, off, e, hc⟩
        · intro i hi; omega
        · cases e
          intro i hi
          rw [Addr.add_lit]
          exact hc i hi
      clear hm5
      go_wp2_with (first | (at_builtin; refine wpList_appU0 rfl _ _ rfl ad k5 c5 l5 rfl rfl hl5 hk6 hc5 ?_; intro v1 w1 o1 b1; obtain ⟨e1, e2, e3⟩ := own_sl12 o1; subst e3; have z1 := b1.size) | (at_builtin; refine wpList_appU2 (B := wm.heap.size) rfl _ _ rfl (.slice e1 k5 e2) k5 l5 _ _ rfl (by exact o1) rfl hk6 z1 ?_; intro v2 w2 h1 h2; have g2 := below_appL b1 o1 h2 z1))
      go_meet
      case rel => exact HFN.out k5 l5 _ _ hk6 hl5 hr5 h1 g2
  case rest =>
  obtain ⟨a6, k6, c6, l6, rfl, h6⟩ := hcut
  clear h5
  obtain ⟨w2, rfl⟩ : ∃ z, z = wc := ⟨_, rfl⟩
  obtain ⟨hk8, hk0, hl6, hr6, ho6, hb6⟩ := h6.out
  obtain ⟨gm, cm, e6, hcm, hcm2, hcells⟩ := own_slice_c ho6 hk0
  obtain ⟨rfl, -, rfl⟩ : a6 = some ⟨gm, 0, none⟩ ∧ k6 = k6 ∧ c6 = cm := by simpa using e6
  have hgm := ho6.lt gm rfl
  have HCM := hid hcells
  have HB6 := hid hb6
  obtain ⟨BV, GV⟩ := op_var w2 (owD 4 ta tn tc tx)
  have hz : (w2.alloc (.cells opZ 33)).heap[w2.heap.size]? = some (.cells opZ 33 (0, 0)) := World.alloc_heap_new w2 _
  obtain ⟨W3, HW3⟩ : ∃ W3, Hid (((w2.alloc (.cells opZ 33)).setRow w2.heap.size (owD 4 ta tn tc tx).cs) = W3) := ⟨_, rfl⟩
  rw [HW3.out] at BV GV
  have hsz2 : (Tryz.prog.info? 33).map (·.size) = some (owD 4 ta tn tc tx).cs.size := sizeOp
  have hsz3 : opZ.size = (owD 4 ta tn tc tx).cs.size := rfl
  have hall : (owD 4 ta tn tc tx).cs.all (·.oneCell') = true := by simp [Value.oneCell']
  have HBV := hid BV
  clear ho6 hb6 h6 e6 hcells BV
  go_upto_if 46 with (with_reducible show wpList _ _ _ (_ :: _) _ _; refine wpList_store_row rfl _ _ _ rfl w2.heap.size (owD 4 ta tn tc tx).cs rfl rfl _ _ hz hsz2 hsz3 hall ?_; rw [HW3.out])
  go_cut [] from 22 (fun wx => Hid (wx.heap[w2.heap.size]? = some (.cells (if check then owD 6 sa sn sc st else owD 4 ta tn tc tx).cs 33 (0, 0)) ∧ Below w2.heap.size w2 wx))
  case first =>
    cases check with
    | false =>
      go_wp2_with fail
      go_meet
      case rel => exact ⟨GV, HBV.out⟩
    | true =>
      have hsz6 : (Tryz.prog.info? 33).map (·.size) = some (owD 6 sa sn sc st).cs.size := sizeOp
      have hsz63 : (owD 4 ta tn tc tx).cs.size = (owD 6 sa sn sc st).cs.size := rfl
      have hall6 : (owD 6 sa sn sc st).cs.all (·.oneCell') = true := by simp [Value.oneCell']
      have F6 := fr_setRow W3 w2.heap.size (owD 6 sa sn sc st).cs
      have BF : Below w2.heap.size w2 (W3.setRow w2.heap.size (owD 6 sa sn sc st).cs) := ⟨F6.os.trans HBV.out.os, F6.tape.trans HBV.out.tape, F6.output.trans HBV.out.output, Nat.le_trans HBV.out.size F6.size, fun b hb => (F6.same b (Nat.lt_of_lt_of_le hb HBV.out.size) (by omega)).trans (HBV.out.block b hb)⟩
      have HGF := hid (And.intro (setRow_at GV (owD 6 sa sn sc st).cs) BF)
      clear F6 BF
      go_wp2_with (with_reducible show wpList _ _ _ (_ :: _) _ _; refine wpList_store_row rfl _ _ _ rfl w2.heap.size (owD 6 sa sn sc st).cs rfl rfl _ _ GV hsz6 hsz63 hall6 ?_)
      go_meet
      case rel => exact HGF.out
  case rest =>
  obtain ⟨GV3, BV3⟩ := hcut.out
  obtain ⟨w3, rfl⟩ : ∃ z, z = wc := ⟨_, rfl⟩
  obtain ⟨y, hy⟩ : ∃ y, (if check then owD 6 sa sn sc st else owD 4 ta tn tc tx) = y := ⟨_, rfl⟩
  rw [hy] at GV3
  have hyK : y.K = 4 ∨ y.K = 6 := by rw [← hy]; cases check <;> simp
  have hyO : Hid (∀ w0 wx, Below w.heap.size w wx → w.heap.size ≤ w0.heap.size → Oo w0 wx y.da y.dn y.dc y.dat y.fa y.fm y.fs y.ka y.kn y.ks) := fun w0 wx hb h0 => by
    rw [← hy]
    cases check
    · exact DT0.out.oo hb h0
    · exact DS0.out.oo hb h0
  have HGV3 := hid GV3
  have bw13 := bel_bel HB1.out HB1.out.size HB6.out
  have BW3 := hid (bel_bel bw13 bw13.size BV3)
  have hgo3 : w2.heap.size < w3.heap.size := (Array.getElem?_eq_some_iff.1 GV3).1
  have HCM3 : Hid (∀ i u, (cu12 l6)[i]? = some u → w3.cell? ⟨gm, i, none⟩ = some u) := fun i u hi => (BV3.cell (p := ⟨gm, i, none⟩) hgm.2).trans (HCM.out i u hi)
  have hgm3 : gm < w3.heap.size := Nat.lt_of_lt_of_le hgm.2 BV3.size
  clear GV3 BV3 hcut bw13 HCM HBV GV hz HW3 hsz2 hsz3 hall hy hgm HB6
  go_wp2_with fail
  go_loopw [13, 15] (fun okv kv wr => ∃ k : Nat, 1 ≤ k ∧ k ≤ 21 ∧ kv = .int .i64 k ∧ okv = .bool true ∧ Hid (Bw w3 wr)) (fun _ kv _ => 21 - (intOf kv).toNat)
  case atStart => exact ⟨1, by omega, by omega, rfl, rfl, Below.refl _ _⟩
  case round =>
    obtain ⟨k, hk1, hk2, rfl, rfl, hbk⟩ := hrel
    by_cases hkle : (k : Int) ≤ 20
    · go_wp2_with fail
      obtain ⟨wo, rfl⟩ : ∃ z, z = wr := ⟨_, rfl⟩
      go_loopw [13, 16] (fun okv iv wr => ∃ i : Nat, i ≤ k6 ∧ iv = .int .i64 i ∧ okv = .bool true ∧ Hid (Bw w3 wr)) (fun _ iv _ => k6 - (intOf iv).toNat)
      case atStart => exact ⟨0, by omega, rfl, rfl, hbk⟩
      case round =>
        clear hbk
        obtain ⟨i, hi6, rfl, rfl, hbi⟩ := hrel
        by_cases hilt : (i : Int) < (k6 : Int)
        · have bwr := bel_bel BW3.out BW3.out.size hbi.out
          have hszr := bwr.size
          have kf := filled_ n wr (HT.out.bel bwr) xa xn xc X (HX.out.below bwr) hxn sa sn sc st (DS0.out.below bwr)
          have HBR := hid bwr
          clear bwr
          go_wp2_with fail
          refine kf.mono ?_
          rintro en w4 ⟨t, rfl, T, hkp, htw⟩
          simp only
          obtain ⟨d, g, l, Q, R, s1, x1, s2, x2, s3, x3, H⟩ := htw
          obtain ⟨⟨b5, n5, m5, rfl⟩, b7, n7, m7, rfl⟩ := H.a1.vals
          have d3 : w4.cell? ⟨t, 3, none⟩ = some (.slice b5 n5 m5) := H.tn.cell 3
          have d4 : w4.cell? ⟨t, 4, none⟩ = some (.slice b7 n7 m7) := H.tn.cell 4
          have hz4 : (w4.alloc (.cells #[.slice none 0 0, .slice none 0 0] 39)).heap[w4.heap.size]? = some (.cells #[.slice none 0 0, .slice none 0 0] 39 (0, 0)) := World.alloc_heap_new w4 _
          have G5 := row_ac hz4 (.slice b5 n5 m5) (.slice b7 n7 m7)
          have F5 := fr_setRow (w4.alloc (.cells #[.slice none 0 0, .slice none 0 0] 39)) w4.heap.size #[.slice b5 n5 m5, .slice b7 n7 m7]
          have BA4 : Below w4.heap.size w4 (w4.alloc (.cells #[.slice none 0 0, .slice none 0 0] 39)) := (Below.refl _ _).alloc (Nat.le_refl _) _
          have B5 : Below w4.heap.size w4 ((w4.alloc (.cells #[.slice none 0 0, .slice none 0 0] 39)).setRow w4.heap.size #[.slice b5 n5 m5, .slice b7 n7 m7]) := ⟨F5.os.trans BA4.os, F5.tape.trans BA4.tape, F5.output.trans BA4.output, Nat.le_trans BA4.size F5.size, fun b hb => (F5.same b (Nat.lt_of_lt_of_le hb BA4.size) (by omega)).trans (BA4.block b hb)⟩
          obtain ⟨W5, HW5⟩ : ∃ W5, Hid (((w4.alloc (.cells #[.slice none 0 0, .slice none 0 0] 39)).setRow w4.heap.size #[.slice b5 n5 m5, .slice b7 n7 m7]) = W5) := ⟨_, rfl⟩
          rw [HW5.out] at G5 B5
          have H5 : Ti (Ah w4.heap.size (.slice b5 n5 m5) (.slice b7 n7 m7) T.A) wr W5 t d g l Q R _ _ s2 x2 s3 x3 T := (H.below B5).with ⟨H.a1.step (fun b hb _ => B5.block b hb) (fun _ _ q => q), G5, fun q => by have := (H.rb _ q).2; omega⟩
          have B6 : Below W5.heap.size W5 (W5.alloc (.cells #[.int .i64 k, .int .i64 1] 50)) := (Below.refl _ _).alloc (Nat.le_refl _) _
          have r6 : (W5.alloc (.cells #[.int .i64 k, .int .i64 1] 50)).heap[W5.heap.size]? = some (.cells #[.int .i64 k, .int .i64 1] 50 (0, 0)) := World.alloc_heap_new W5 _
          have d0 : W5.cell? ⟨t, 0, none⟩ = some (.pointer (some ⟨d, 0, none⟩)) := H5.tn.cell 0
          obtain ⟨W6, HW6⟩ : ∃ W6, (W5.alloc (.cells #[.int .i64 k, .int .i64 1] 50)) = W6 := ⟨_, rfl⟩
          rw [HW6] at B6 r6
          have fs6 : Fs W6 (some ⟨W5.heap.size, 0, none⟩) 1 [((k : Int), 1)] := ⟨rfl, .inr ⟨_, _, rfl, fun i hi => by
            obtain rfl : i = 0 := by omega
            exact ⟨(cell_of_row _ _ 0 _ _ (0, 0) r6).trans rfl, (cell_of_row _ _ 1 _ _ (0, 0) r6).trans rfl⟩⟩⟩
          have H6 := H5.below B6
          have kar := arm_ d T.s Q (some ⟨W5.heap.size, 0, none⟩) 1 1 [((k : Int), 1)] W6 H6.dv fs6 (by omega)
          have HH6 := hid H6
          have HKP := hid hkp
          clear kf H H5 H6 BA4 F5 B5 G5 B6 r6 fs6 hkp
          go_wp2_with (with_reducible show wpList _ _ _ (_ :: _) _ _; refine wpList_ac rfl rfl _ _ rfl w4.heap.size (.slice b5 n5 m5) (.slice b7 n7 m7) rfl rfl rfl rfl _ _ hz4 ?_; rw [HW5.out])
          refine kar.mono ?_
          rintro en w7 ⟨rfl, D7, F7⟩
          simp only
          have H7 := HH6.out.dev F7 D7 (arS_is T.s [((k : Int), 1)]).2.1
          have TW7 : Tw (Ah w4.heap.size (.slice b5 n5 m5) (.slice b7 n7 m7) T.A) wr w7 t (arT T [((k : Int), 1)]) := ⟨_, _, _, _, _, _, _, _, _, _, _, H7⟩
          have tv7 := HKP.out.v.arm [((k : Int), 1)]
          have b37 : Below w3.heap.size w3 w7 := bel_bel hbi.out (Below.size hbi.out) TW7.bel
          have G7 := (b37.block _ hgo3).trans HGV3.out
          have y0 : w7.cell? ⟨w2.heap.size, 0, none⟩ = some (.int .i64 y.K) := (cell_of_row _ _ 0 _ _ (0, 0) G7).trans rfl
          have y1 : w7.cell? ⟨w2.heap.size, 1, none⟩ = some (.int .i64 y.N) := (cell_of_row _ _ 1 _ _ (0, 0) G7).trans rfl
          have y2 : w7.cell? ⟨w2.heap.size, 2, none⟩ = some (.bool y.old) := (cell_of_row _ _ 2 _ _ (0, 0) G7).trans rfl
          have y3 : w7.cell? ⟨w2.heap.size, 3, none⟩ = some (.slice y.da y.dn y.dc) := (cell_of_row _ _ 3 _ _ (0, 0) G7).trans rfl
          have y4 : w7.cell? ⟨w2.heap.size, 4, none⟩ = some (.slice y.fa y.fm y.fc) := (cell_of_row _ _ 4 _ _ (0, 0) G7).trans rfl
          have y5 : w7.cell? ⟨w2.heap.size, 5, none⟩ = some (.slice y.ka y.kn y.kc) := (cell_of_row _ _ 5 _ _ (0, 0) G7).trans rfl
          have y6 : w7.cell? ⟨w2.heap.size, 6, none⟩ = some (.string y.tg) := (cell_of_row _ _ 6 _ _ (0, 0) G7).trans rfl
          have y7 : w7.cell? ⟨w2.heap.size, 7, none⟩ = some (.int .i64 y.e) := (cell_of_row _ _ 7 _ _ (0, 0) G7).trans rfl
          have y8 : w7.cell? ⟨w2.heap.size, 8, none⟩ = some (.int .i64 y.q) := (cell_of_row _ _ 8 _ _ (0, 0) G7).trans rfl
          have y9 : w7.cell? ⟨w2.heap.size, 9, none⟩ = some (.int .i64 y.p) := (cell_of_row _ _ 9 _ _ (0, 0) G7).trans rfl
          have y10 : w7.cell? ⟨w2.heap.size, 10, none⟩ = some (.slice y.ba y.bn y.bc) := (cell_of_row _ _ 10 _ _ (0, 0) G7).trans rfl
          have bw7 := bel_bel BW3.out BW3.out.size b37
          have ks := step_ wr w7 t _ 30 y TW7 tv7 (by omega) (hyO.out wr w7 bw7 hszr)
          have HTV7 := hid tv7
          clear kar D7 F7 H7 TW7 HH6 tv7 d0 d3 d4 hz4 b37 bw7 G7
          go_wp2_with fail
          refine ks.mono ?_
          rintro en w8 ⟨rfl, T', hts, htw'⟩
          simp only
          have tv8 := hts.tv HTV7.out (by omega)
          have hev := ev_step (show (arT T [((k : Int), 1)]).op = false from HKP.out.o) (show (arT T [((k : Int), 1)]).lg ≠ none from HKP.out.l) hyK hts
          have b38 : Below w3.heap.size w3 w8 := bel_bel hbi.out (Below.size hbi.out) htw'.bel
          obtain ⟨d, g8, l8, Q8, R8, s8, x8, s9, x9, sa9, xa9, H8⟩ := htw'
          obtain ⟨xm, hxm⟩ : ∃ xm, l6.getD i 0 = xm := ⟨_, rfl⟩
          have hxr : 0 ≤ xm ∧ xm ≤ 18446744073709551615 := by
            rw [← hxm, show l6.getD i 0 = l6[i]'(by omega) from by simp [List.getD, show i < l6.length by omega]]
            exact hr6 _ (List.getElem_mem _)
          have cmi : w8.cell? ⟨gm, i, none⟩ = some (.int .u64 xm) := (b38.cell (p := ⟨gm, i, none⟩) hgm3).trans (HCM3.out i _ (by rw [← hxm]; simp [cu12, List.getD, show i < l6.length by omega]))
          have hgm8 : gm < w8.heap.size := World.block_lt_of_cell? _ _ cmi
          obtain ⟨wh, hwh⟩ : ∃ wh : Bool, Hid ((wh = true ∧ T'.lg ≠ none ∧ T'.op = false) ∨ (wh = false ∧ T'.lg = none ∧ T'.op = true ∧ T'.A = T.A)) := by
            rcases hev with q | q
            · exact ⟨true, .inl ⟨rfl, q⟩⟩
            · exact ⟨false, .inr ⟨rfl, q⟩⟩
          have d1 : ∃ lp, w8.cell? ⟨t, 1, none⟩ = some (.pointer lp) ∧ (lp = none ↔ wh = false) := by
            have hl := H8.lg
            rcases hwh.out with ⟨q1, q2, _⟩ | ⟨q1, q2, _⟩
            · obtain ⟨g9, c9⟩ := Tw.c1 (⟨_, _, _, _, _, _, _, _, _, _, _, H8⟩ : Tw _ _ _ _ _) tv8 q2
              exact ⟨_, c9, by rw [q1]; simp⟩
            · rw [q2] at hl
              obtain rfl : l8 = .pointer none := hl
              exact ⟨none, H8.tn.cell 1, by rw [q1]; simp⟩
          obtain ⟨lp, d1, hlp⟩ := d1
          have H8H := hid H8
          have HTV8 := hid tv8
          have HB38 := hid b38
          clear ks hts hev H8 tv8 b38 HTV7 y0 y1 y2 y3 y4 y5 y6 y7 y8 y9 y10
          go_upto_region 24 with fail
          go_cut [19] from 53 to 157 (fun v wx => v = .bool wh ∧ wx = w8)
          case first =>
            cases lp with
            | none =>
              obtain rfl : wh = false := hlp.1 rfl
              go_wp2_with fail
              go_meet
              case rel => exact ⟨rfl, rfl⟩
            | some ad =>
              obtain rfl : wh = true := by
                cases wh with
                | true => rfl
                | false => cases hlp.2 rfl
              go_wp2_with fail
              go_meet
              case rel => exact ⟨rfl, rfl⟩
          case rest =>
          obtain ⟨rfl, hwc⟩ := hcut
          obtain rfl := hwc.symm
          clear d1 hlp
          go_wp2_with fail
          obtain ⟨wi, rfl⟩ : ∃ z, z = wr := ⟨_, rfl⟩
          go_loopw [20, 21] (fun kv jv wx => ∃ (j : Nat) (ks : List Bool), j ≤ 40 ∧ jv = .int .i64 j ∧ Hid (ks.length = j ∧ wx.ownsRow w8.heap.size 4 1 kv ks.length (cb12 ks) ∧ Below w8.heap.size w8 wx)) (fun _ jv _ => 40 - (intOf jv).toNat)
          case atStart => exact ⟨0, [], by omega, rfl, rfl, World.ownsRow_nil _ _ _ _, Below.refl _ _⟩
          case round =>
            obtain ⟨j, ks, hj40, rfl, hks⟩ := hrel
            have szb := hks.out.2.2.size
            obtain ⟨ka, kc, e3⟩ := own_sl12 hks.out.2.1
            subst e3
            by_cases hjlt : (j : Int) < 40
            · have cmj := (hks.out.2.2.cell (p := ⟨gm, i, none⟩) hgm8).trans cmi
              have e64 : ((j : Nat) : Int).tmod 64 = (j : Int) := by rw [Int.tmod_eq_emod_of_nonneg (by omega)]; omega
              have HO := hid hks.out.2.1
              have HBJ := hid hks.out.2.2
              have hkl := hks.out.1
              clear hks
              go_wp2_with (at_builtin; refine wpList_appL (B := w8.heap.size) rfl _ _ rfl (.slice ka ks.length kc) ks _ rfl (by exact HO.out) rfl (by omega) szb ?_; intro v' w' h5 h6)
              go_roundw
              case rel => exact ⟨j + 1, ks ++ [_], by omega, by go_num, by simp [hkl], by rw [List.length_append]; exact h5, below_appL HBJ.out HO.out h6 szb⟩
              case measure => simp [intOf]; omega
            · obtain rfl : j = 40 := by omega
              obtain ⟨ka', kc', e4, hbl, hblk⟩ := bl_own hks.out.2.1 rfl
              obtain ⟨rfl, -, rfl⟩ : ka = ka' ∧ ks.length = ks.length ∧ kc = kc' := by simpa using e4
              have H9 := H8H.out.below hks.out.2.2
              have kcr := tcrash_i wi wr t d g8 l8 Q8 R8 s8 x8 s9 x9 sa9 xa9 T' 31 H9 HTV8.out (by omega) ka ks.length kc ks hbl (fun ad ha _ qq => by
                have h1 := hblk ad ha
                have h2 := (H8H.out.rb _ (H8H.out.qr _ qq)).2
                omega) (by have := hks.out.1; omega)
              have v1 := HTV8.out.crash ks
              have v2 := v1.opens
              obtain ⟨c1x, ep, nx, pl, e1⟩ := calm_opens v1 (calm_crash T' ks)
              obtain ⟨o1, o2, o3, o4, o5⟩ := opT_s (crT T' ks)
              have htold := (v2.hn o2 ep nx pl e1).1
              have HV1 := hid v1
              have HV2 := hid (And.intro v2 (show (opT (crT T' ks)).lg ≠ none by rw [e1]; simp))
              obtain ⟨T2, hT2⟩ : ∃ T2, opT (crT T' ks) = T2 := ⟨_, rfl⟩
              rw [hT2] at htold o3 o4 HV2
              have o3' : T2.A = T'.A := o3
              have o4' : T2.op = T'.op := o4
              have HTO := hid htold
              clear H9 hbl hblk e4 v1 v2 c1x e1 o1 o2 o3 o4 o5 htold
              go_wp2_with fail
              refine kcr.mono ?_
              rintro en w9 ⟨rfl, h9⟩
              simp only
              have ko := opens_u wi w9 t _ 31 h9 HV1.out.tu (by omega)
              rw [hT2] at ko
              clear kcr h9
              go_wp2_with fail
              refine ko.mono ?_
              rintro en w10 ⟨rfl, h10⟩
              simp only
              obtain ⟨l0, z1, z2, z5, z6, z3, z4, _, c3, c4, c6', c7, c8, c9, ca, cb, kA, kB, kM⟩ := h10.three
              obtain ⟨g10, c1⟩ := h10.c1 HV2.out.1 HV2.out.2
              have C1 := hid c1
              have C3 := hid c3
              have C4 := hid c4
              have C6 := hid c6'
              have C7 := hid c7
              have C8 := hid c8
              have C9 := hid c9
              have CA := hid ca
              have CB := hid cb
              have HT10 := hid h10
              clear ko h10 c1 c3 c4 c6' c7 c8 c9 ca cb hT2
              rcases hwh.out with ⟨rfl, _, q2⟩ | ⟨rfl, _, q2, q3⟩
              · have hA : decide (T2.T = T2.A) = true := by
                  refine decide_eq_true ?_
                  rcases HTO.out with q | q
                  · exact q
                  · rw [o4', q2] at q; cases q.1
                rw [hA] at kA
                have KA := hid kA
                have KB := hid kB
                have KM := hid kM
                clear kA kB kM hA
                go_wp2_with fail
                refine wp_quietC (Bw w10) (by kernel_rfl) (by kernel_rfl) (Bw.drew w10) ?_
                repeat (first | go_big_quiet_skip | (go_big_quiet_want; go_big_quiet_op; first | go_big_quiet_on | (apply Exists.intro; refine ⟨fun wq hq => ?_, ?_⟩; (· first | (with_reducible rfl) | (go_at_call 14; exact KA.out _ hq) | (have q1 := hq.cell C1.out; have q3 := hq.cell C3.out; have q4 := hq.cell C4.out; have q6 := hq.cell C6.out; have q7 := hq.cell C7.out; have q8 := hq.cell C8.out; have q9 := hq.cell C9.out; have qa := hq.cell CA.out; have qb := hq.cell CB.out; go_simp; rfl) | rfl); go_big_quiet_on)))
                refine wpQuiet_nil ?_
                intro w11 s11
                have HF := hid (bel_bel HBR.out HBR.out.size (bel_bel HT10.out.bel HT10.out.bel.size s11))
                clear s11 KA KB KM C1 C3 C4 C6 C7 C8 C9 CA CB
                go_wp2_with fail
                go_ret
                exact ⟨rfl, HF.out⟩
              · by_cases hB : T2.T = T.A
                · rw [decide_eq_true hB] at kB
                  have KA := hid kA
                  have KB := hid kB
                  have KM := hid kM
                  clear kA kB kM
                  go_wp2_with fail
                  refine wp_quietC (Bw w10) (by kernel_rfl) (by kernel_rfl) (Bw.drew w10) ?_
                  repeat (first | go_big_quiet_skip | (go_big_quiet_want; go_big_quiet_op; first | go_big_quiet_on | (apply Exists.intro; refine ⟨fun wq hq => ?_, ?_⟩; (· first | (with_reducible rfl) | (go_at_call 14; exact KB.out _ hq) | (have q1 := hq.cell C1.out; have q3 := hq.cell C3.out; have q4 := hq.cell C4.out; have q6 := hq.cell C6.out; have q7 := hq.cell C7.out; have q8 := hq.cell C8.out; have q9 := hq.cell C9.out; have qa := hq.cell CA.out; have qb := hq.cell CB.out; go_simp; rfl) | rfl); go_big_quiet_on)))
                  refine wpQuiet_nil ?_
                  intro w11 s11
                  have HB11 := hid (bel_bel hbi.out (Below.size hbi.out) (bel_bel HT10.out.bel HT10.out.bel.size s11))
                  clear s11 KA KB KM C1 C3 C4 C6 C7 C8 C9 CA CB
                  go_wp2_with fail
                  go_roundw
                  case rel => exact ⟨i + 1, by omega, by go_num, rfl, HB11.out⟩
                  case measure => simp [intOf]; omega
                · have hM : T2.T = T2.M := by
                    rcases HTO.out with q | q
                    · exact absurd (q.trans (o3'.trans q3)) hB
                    · exact q.2
                  rw [decide_eq_false hB] at kB
                  rw [decide_eq_true hM] at kM
                  have KA := hid kA
                  have KB := hid kB
                  have KM := hid kM
                  clear kA kB kM hM
                  go_wp2_with fail
                  refine wp_quietC (Bw w10) (by kernel_rfl) (by kernel_rfl) (Bw.drew w10) ?_
                  repeat (first | go_big_quiet_skip | (go_big_quiet_want; go_big_quiet_op; first | go_big_quiet_on | (apply Exists.intro; refine ⟨fun wq hq => ?_, ?_⟩; (· first | (with_reducible rfl) | (go_at_call 14; first | (with_reducible exact KB.out _ hq) | (with_reducible exact KM.out _ hq)) | (have q1 := hq.cell C1.out; have q3 := hq.cell C3.out; have q4 := hq.cell C4.out; have q6 := hq.cell C6.out; have q7 := hq.cell C7.out; have q8 := hq.cell C8.out; have q9 := hq.cell C9.out; have qa := hq.cell CA.out; have qb := hq.cell CB.out; go_simp; rfl) | rfl); go_big_quiet_on)))
                  refine wpQuiet_nil ?_
                  intro w11 s11
                  have HB11 := hid (bel_bel hbi.out (Below.size hbi.out) (bel_bel HT10.out.bel HT10.out.bel.size s11))
                  clear s11 KA KB KM C1 C3 C4 C6 C7 C8 C9 CA CB
                  go_wp2_with fail
                  go_roundw
                  case rel => exact ⟨i + 1, by omega, by go_num, rfl, HB11.out⟩
                  case measure => simp [intOf]; omega
        · obtain rfl : i = k6 := by omega
          go_wp2_with fail
          go_roundw
          case rel => exact ⟨k + 1, by omega, by omega, by go_num, rfl, hbi⟩
          case measure => simp [intOf]; omega
    · have HF := hid (bel_bel BW3.out BW3.out.size hbk.out)
      go_wp2_with fail
      go_ret
      exact ⟨rfl, HF.out⟩
end Go.Proofs.YtblcpdffiafgnaaGreatDoor
