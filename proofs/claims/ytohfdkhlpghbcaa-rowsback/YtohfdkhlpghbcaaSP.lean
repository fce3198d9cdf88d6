import Derived.Test.YtohfdkhlpghbcaaSN
import Derived.Test.YtohfdkhlpghbcaaSF
namespace Go.Proofs.Ytohfdkhlpghbcaa
set_option maxRecDepth 100000
open Go.RowKit
set_option linter.unusedVariables false

theorem pk_bool (K : Int) (m : Nat) (ps : List Px) : ∃ b : Bool, (b = true) ↔ Pk K m ps := by
  by_cases h : Pk K m ps
  · exact ⟨true, ⟨fun _ => h, fun _ => rfl⟩⟩
  · exact ⟨false, ⟨fun e => (by cases e), fun e => absurd e h⟩⟩
theorem gp_bool (k v : List Int) : ∃ b : Bool, (b = true) ↔ Gp k v := by
  by_cases h : Gp k v
  · exact ⟨true, ⟨fun _ => h, fun _ => rfl⟩⟩
  · exact ⟨false, ⟨fun e => (by cases e), fun e => absurd e h⟩⟩
set_option maxHeartbeats 4000000 in
/-- RowsPeers. -/
theorem rowsPeers_ (K : Int) (la : Option Addr) (lm lc : Nat) (lk : List Int) (pa : Option Addr) (pn pd : Nat) (ps : List Px) (ka va : Option Addr) (kn kc vn vc : Nat) (k v : List Int) (w : World) (hp : i64r K ∧ (Vs w (fun x => x < w.heap.size) la lm lc lk ∧ lm ≤ 140737488351232) ∧ (Ps w pa pn ps ∧ pn ≤ pd ∧ pd ≤ maxLen ∧ (pa = none → pd = 0))) (hr : (Vs w (fun x => x < w.heap.size) ka kn kc k ∧ kn ≤ 140737488351232) ∧ (Vs w (fun x => x < w.heap.size) va vn vc v ∧ vn ≤ 140737488351232)) :
    Calls Try.prog 3 #[.agg #[.int .i64 K, .slice la lm lc, .slice pa pn pd], .agg #[.slice ka kn kc, .slice va vn vc]] w fun e w' => e = .returned (.bool true) ∧ Below w.heap.size w w' := by
  obtain ⟨hK, ⟨hl, hlm⟩, hps, hpd, hpm, -⟩ := hp
  obtain ⟨⟨hk, h1⟩, hv, h2⟩ := hr
  have B0 : Below w.heap.size w ((w.alloc (.cells #[.int .i64 K, .slice la lm lc, .slice pa pn pd] 25)).alloc (.cells #[.slice ka kn kc, .slice va vn vc] 27)) := (bel_al w _).alloc (by simp) _
  have L0 : Pe ((w.alloc (.cells #[.int .i64 K, .slice la lm lc, .slice pa pn pd] 25)).alloc (.cells #[.slice ka kn kc, .slice va vn vc] 27)) w.heap.size K la lm lc pa pn pd := (Pe.new w K la lm lc pa pn pd).kept (bel_al _ _)
  have M0 := heap_alloc_new (w.alloc (.cells #[.int .i64 K, .slice la lm lc, .slice pa pn pd] 25)) (.cells #[.slice ka kn kc, .slice va vn vc] 27)
  rw [World.size_alloc] at M0
  have HB0 := hid B0
  have HL := hid (hl.bs.below B0)
  have HP := hid (hps.on B0)
  have HK := hid (hk.bs.below B0)
  have HV := hid (hv.bs.below B0)
  have HLl := hid hl.len
  have Hkc := hid (And.intro hk.nc hk.cm)
  have Hvc := hid (And.intro hv.nc hv.cm)
  have c0 := L0.c0
  have c1 := L0.c1
  have c2 := L0.c2
  have y0 := (two_cell M0).1
  have y1 := (two_cell M0).2
  have HKI : Hid (InI K) := hK
  unfold maxLen at hpm
  clear B0 L0 M0 hl hk hv hps hK
  by_cases h60 : 60 < pn
  · have h60' : (pn : Int) > 60 := by omega
    go_enter Try.func3, Try.ntmps3
    go_wp2_with fail
    go_ret
    exact ⟨rfl, HB0.out⟩
  have h60' : ¬ (pn : Int) > 60 := by omega
  go_enter Try.func3, Try.ntmps3
  go_wp2_with fail
  generalize ((w.alloc (.cells #[.int .i64 K, .slice la lm lc, .slice pa pn pd] 25)).alloc (.cells #[.slice ka kn kc, .slice va vn vc] 27)) = W at *
  have Hc : Hid (W.cell? ⟨w.heap.size, 0, none⟩ = some (.int .i64 K) ∧ W.cell? ⟨w.heap.size, 1, none⟩ = some (.slice la lm lc) ∧ W.cell? ⟨w.heap.size, 2, none⟩ = some (.slice pa pn pd)) := ⟨c0, c1, c2⟩
  have Hy : Hid (W.cell? ⟨w.heap.size + 1, 0, none⟩ = some (.slice ka kn kc) ∧ W.cell? ⟨w.heap.size + 1, 1, none⟩ = some (.slice va vn vc)) := ⟨y0, y1⟩
  clear c0 c1 c2 y0 y1
  refine (refPeer_ K la pa lm lc pn pd lk ps W HL.out HP.out hlm (by omega)).mono ?_
  rintro e w1 ⟨a1, d1, p1, e1, rfl, vs1, pv1, g1⟩
  have HB1 : Hid (Bw W w1) := g1
  obtain ⟨q, hq⟩ := pk_bool K lm ps
  have kp := putPeer_ K a1 p1 lm d1 pn e1 lk ps w1 HKI.out vs1.bs pv1.ps vs1.len (Nat.le_trans pv1.nc pv1.cm) q hq
  have kq := fun wx (h : Bw W wx) => rputPeer_ K la pa lm lc pn pd lk ps wx HKI.out (HL.out.below h) (HP.out.on h) HLl.out (by unfold maxLen; omega) q hq
  unfold Rp at kp kq
  obtain ⟨PK, hPK⟩ : ∃ x, (if q then peK K else []) = x := ⟨_, rfl⟩
  obtain ⟨PV, hPV⟩ : ∃ x, (if q then peV lk ps else []) = x := ⟨_, rfl⟩
  obtain ⟨O, hO⟩ : ∃ x, (if q then (0 : Int) else 114) = x := ⟨_, rfl⟩
  obtain ⟨kl, HKL⟩ : ∃ x : Nat, Hid (PK.length = x) := ⟨_, rfl⟩
  obtain ⟨vl, HVL⟩ : ∃ x : Nat, Hid (PV.length = x) := ⟨_, rfl⟩
  simp only [hPK, hPV, hO, HKL.out, HVL.out] at kp kq
  clear g1 vs1 pv1 hPK hPV hO hq
  go_wp2_with fail
  refine kp.mono ?_
  rintro e w2 ⟨ra, rc, qa, qc, rfl, vk, vv, g2⟩
  have B2 := bel_al w2 (.cells #[.slice ra kl rc, .slice qa vl qc] 27)
  have HB2 : Hid (Bw W (w2.alloc (.cells #[.slice ra kl rc, .slice qa vl qc] 27))) := (HB1.out.on g2).on B2
  have HM2 := hid (heap_alloc_new w2 (.cells #[.slice ra kl rc, .slice qa vl qc] 27))
  have HVK := hid (vk.bs.below B2)
  have HVV := hid (vv.bs.below B2)
  have HLK := hid vk.len
  have HLV := hid vv.len
  clear kp vk vv g2 B2 HB1
  obtain ⟨c0, c1, c2⟩ := Hc.out
  have f0 := Bw.cell HB2.out c0
  have f1 := Bw.cell HB2.out c1
  have f2 := Bw.cell HB2.out c2
  clear c0 c1 c2
  go_wp2_with fail
  clear f0 f1 f2
  generalize (w2.alloc (.cells #[.slice ra kl rc, .slice qa vl qc] 27)) = W2 at *
  obtain ⟨b1, Hb1⟩ : ∃ x, Hid (w2.heap.size = x) := ⟨_, rfl⟩
  rw [Hb1.out] at HM2 ⊢
  refine (kq _ HB2.out).mono ?_
  rintro e w3 ⟨sa, sc, ta, tc, rfl, vk, vv, g3⟩
  have B3 := bel_al w3 (.cells #[.slice sa kl sc, .slice ta vl tc] 27)
  have G3 := bel_bel g3 g3.size B3
  have m3 := heap_alloc_new w3 (.cells #[.slice sa kl sc, .slice ta vl tc] 27)
  have ks := sameRow_ ra qa sa ta kl rc vl qc kl sc vl tc PK PV PK PV _ (HVK.out.below G3) (HVV.out.below G3) (vk.bs.below B3) (vv.bs.below B3) HLK.out HLV.out vk.len vv.len
  rw [sameB_self, sameB_self] at ks
  have HB3 := hid (HB2.out.on G3)
  have x0 := (two_cell m3).1
  have x1 := (two_cell m3).2
  have z0 := Bw.cell (W := W2) G3 (two_cell HM2.out).1
  have z1 := Bw.cell (W := W2) G3 (two_cell HM2.out).2
  clear kq vk vv g3 B3 G3 m3 HB2 HM2 HVK HVV HLK HLV
  go_wp2_with fail
  clear x0 x1 z0 z1
  refine ks.mono ?_
  rintro e w4 ⟨rfl, g4⟩
  have HB4 := hid (HB3.out.on g4)
  have y0 := Bw.cell HB4.out Hy.out.1
  have y1 := Bw.cell HB4.out Hy.out.2
  clear ks g4 HB3
  go_wp2_with fail
  clear y0 y1
  refine (lrow_ ka va kn kc vn vc k v w4 (HK.out.below HB4.out) (HV.out.below HB4.out) h1 h2).mono ?_
  rintro e w5 ⟨pa5, pc5, qa5, qc5, rfl, vk, vv, g5⟩
  have HB5 := hid (HB4.out.on g5)
  obtain ⟨q', hq'⟩ := gp_bool k v
  have kg := getPeer_ pa5 qa5 kn pc5 vn qc5 k v w5 vk.bs vv.bs vk.nil vv.nil vk.nc vv.nc h1 h2 q' hq'
  have kr := fun wx (h : Bw W wx) => rgetPeer_ ka va kn kc vn vc k v wx (HK.out.below h) (HV.out.below h) Hkc.out.1 Hvc.out.1 Hkc.out.2 Hvc.out.2 h2 q' hq'
  unfold Gq at kg kr
  obtain ⟨ZK, hZK⟩ : ∃ x, (if q' then xK k else 0) = x := ⟨_, rfl⟩
  obtain ⟨ZB, hZB⟩ : ∃ x, (if q' then v.take 32 else []) = x := ⟨_, rfl⟩
  obtain ⟨ZP, hZP⟩ : ∃ x, (if q' then xP v else []) = x := ⟨_, rfl⟩
  obtain ⟨ZO, hZO⟩ : ∃ x, (if q' then (0 : Int) else 114) = x := ⟨_, rfl⟩
  obtain ⟨zb, HZB⟩ : ∃ x : Nat, Hid (ZB.length = x) := ⟨_, rfl⟩
  obtain ⟨zp, HZP⟩ : ∃ x : Nat, Hid (ZP.length = x) := ⟨_, rfl⟩
  have HZP2 : Hid (zp ≤ 1000000) := by
    show _ ≤ _
    rw [← HZP.out, ← hZP]
    split
    · unfold xP xn
      rw [cpl_length]
      have := getD_byte6 HV.out.2.1 32
      omega
    · simp
  simp only [hZK, hZB, hZP, hZO, HZB.out, HZP.out] at kg kr
  clear vk vv g5 HB4 hZK hZB hZP hZO hq'
  go_wp2_with fail
  refine kg.mono ?_
  rintro e w6 ⟨a6, d6, p6, e6, rfl, vs6, pv6, g6⟩
  have B6 := bel_al w6 (.cells #[.int .i64 ZK, .slice a6 zb d6, .slice p6 zp e6] 25)
  have HL6 := hid (Pe.new w6 ZK a6 zb d6 p6 zp e6)
  have HB6 := hid ((HB5.out.on g6).on B6)
  have HV6 := hid (vs6.bs.below B6)
  have HP6 := hid (pv6.ps.on B6)
  have HLV6 := hid vs6.len
  clear kg vs6 pv6 g6 B6 HB5
  have y0 := Bw.cell HB6.out Hy.out.1
  have y1 := Bw.cell HB6.out Hy.out.2
  go_wp2_with fail
  clear y0 y1
  generalize (w6.alloc (.cells #[.int .i64 ZK, .slice a6 zb d6, .slice p6 zp e6] 25)) = W6 at *
  obtain ⟨b6, Hb6⟩ : ∃ x, Hid (w6.heap.size = x) := ⟨_, rfl⟩
  rw [Hb6.out] at HL6 ⊢
  refine (kr _ HB6.out).mono ?_
  rintro e w7 ⟨a7, d7, p7, e7, rfl, vs7, pv7, g7⟩
  have B7 := bel_al w7 (.cells #[.int .i64 ZK, .slice a7 zb d7, .slice p7 zp e7] 25)
  have L7 := Pe.new w7 ZK a7 zb d7 p7 zp e7
  have G7 := bel_bel g7 g7.size B7
  have HB7 := hid (HB6.out.on G7)
  have kl := samePeer_ ZK a6 a7 p6 p7 zb d6 d7 zp e6 e7 ZB ZP _ (HV6.out.below G7) (vs7.bs.below B7) (HP6.out.on G7) (pv7.ps.on B7) HLV6.out HZP2.out
  have l6 := HL6.out.kept G7
  have c0 := l6.c0
  have c1 := l6.c1
  have c2 := l6.c2
  have f0 := L7.c0
  have f1 := L7.c1
  have f2 := L7.c2
  clear kr vs7 pv7 g7 B7 L7 G7 HB6 HL6 HV6 HP6 HLV6 l6
  go_wp2_with fail
  clear c0 c1 c2 f0 f1 f2
  refine kl.mono ?_
  rintro e w8 ⟨rfl, g8⟩
  have HB8 := hid (HB7.out.on g8)
  clear kl g8 HB7
  go_wp2_with (go_at_call 15; refine (lnum_ _ _).mono ?_; rintro e w' ⟨rfl, hw⟩; obtain rfl := hw.symm; clear hw)
  refine (lfirst_ _).mono ?_
  rintro e w9 ⟨rfl, g9⟩
  have HB9 := hid (bel_bel HB0.out HB0.out.size (HB8.out.on g9))
  clear g9 HB8
  go_wp2_with fail
  go_ret
  exact ⟨rfl, HB9.out⟩
end Go.Proofs.Ytohfdkhlpghbcaa
