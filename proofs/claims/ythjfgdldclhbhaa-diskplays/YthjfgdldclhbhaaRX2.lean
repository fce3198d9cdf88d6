import Derived.Test.YthjfgdldclhbhaaRS0
import Derived.Test.YthjfgdldclhbhaaRX
namespace Go.Proofs.Ythjfgdldclhbhaa
set_option maxRecDepth 100000
open Go.RowKit Go.Shelf
set_option linter.unusedVariables false

theorem pwriteA_ (p d e k : Nat) (s : St) (Q N T : Nat → Prop) (v : Value) (m : Nat) (xs : List Value) (i : Int) (ab : Option Addr) (n c : Nat) (zs : List Int) (w : World) (h : Pa w p d e k s Q N) (hd : Ds w k T v m xs) (hT : ∀ b, T b → b < w.heap.size ∧ ¬ Q b ∧ ¬ N b ∧ b ≠ p) (hb : Bs w ab n zs) (hn : n ≤ 65536) (hq : ∀ ad, ab = some ad → 0 < n → ¬ Q ad.block ∧ ¬ N ad.block ∧ ¬ T ad.block) (hc : s.c ≤ 100000) (hp : s.P.length ≤ 100000) :
    Calls Try.prog 37 #[.pointer (some ⟨p, 0, none⟩), .int .i64 i, .slice ab n c] w fun en w' => en = .returned (.bool true) ∧ Pw w w' p d e k (wrS s i zs) Q N T := by
  by_cases h0 : n = 0
  · exact pwrite0_ p d e k s Q N T v m xs i ab n c zs w h hd hT hb h0 hc hp
  · rcases id hb.2.2 with q | ⟨b, off, rfl, _⟩
    · exact absurd q h0
    · exact pwrite_ p d e k s Q N T v m xs i ⟨b, off, none⟩ n c zs w h hd hT hb (by omega) hn (hq _ rfl (by omega)) hc hp
set_option maxHeartbeats 4000000 in
theorem step3_ (w0 w : World) (p d e k : Nat) (s : St) (Q N T : Nat → Prop) (I : Int) (sc : Bool) (Da : Option Addr) (Dn Dc : Nat) (D : List Int) (Fa : Option Addr) (Fn Fc : Nat) (fs : List (Int × Int)) (Ka : Option Addr) (Kn Kc : Nat) (ks : List Bool)
    (h : Py w0 w p d e k s Q N T) (ho : OpIn w0 Da Dn Dc D Fa Fn Fc fs Ka Kn Kc ks) (hc : s.c ≤ 100000) (hp : s.P.length ≤ 100000) (hk : s.k ≤ 100000) (hsh : (Dn ≤ 65536 ∧ Fn ≤ 65536 ∧ Kn ≤ 65536)) :
    Calls Try.prog 12 #[.pointer (some ⟨p, 0, none⟩), .agg #[.int .i64 3, .int .i64 I, .bool sc, .slice Da Dn Dc, .slice Fa Fn Fc, .slice Ka Kn Kc]] w fun en w' => en = .returned (.bool true) ∧ Pz w0 w w' p d e k (wrS s I D) Q N T := by
  have BA : Below w.heap.size w (w.alloc (.cells #[.int .i64 3, .int .i64 I, .bool sc, .slice Da Dn Dc, .slice Fa Fn Fc, .slice Ka Kn Kc] 34)) := (Below.refl _ _).alloc (Nat.le_refl _) _
  have om : Om (w.alloc (.cells #[.int .i64 3, .int .i64 I, .bool sc, .slice Da Dn Dc, .slice Fa Fn Fc, .slice Ka Kn Kc] 34)) w.heap.size 3 I sc (.slice Da Dn Dc) (.slice Fa Fn Fc) (.slice Ka Kn Kc) := heap_alloc_new w _
  have HE : Hid (decide (Dn ≤ 65536 ∧ Fn ≤ 65536 ∧ Kn ≤ 65536) = true) := by show _ = _; exact decide_eq_true hsh
  have ksh := short_ 3 I sc Da Dn Dc Fa Fn Fc Ka Kn Kc (w.alloc (.cells #[.int .i64 3, .int .i64 I, .bool sc, .slice Da Dn Dc, .slice Fa Fn Fc, .slice Ka Kn Kc] 34)) ho.dn (by have := ho.fn; omega) ho.kn
  rw [HE.out] at ksh
  have HY := hid h
  have HO := hid ho
  have HA := hid BA
  have HM := hid om
  have b0 := om.c0
  have b1 := om.c1
  have b2 := om.c2
  have b3 := om.c3
  have b4 := om.c4
  have b5 := om.c5
  clear h ho BA om
  go_enter Try.func12, Try.ntmps12
  go_wp2_with fail
  refine ksh.mono ?_
  rintro en w1 ⟨rfl, g1⟩
  have HB := hid (bel_bel HA.out HA.out.size g1)
  have HP := hid (HY.out.below HB.out)
  have om1 := HM.out.below g1
  clear ksh g1 HA HM b0 b1 b2 b3 b4 b5
  have b0 := om1.c0
  have b1 := om1.c1
  have b3 := om1.c3
  have b4 := om1.c4
  have b5 := om1.c5
  have c0 := HP.out.pa.c0
  have c1 := HP.out.pa.c1
  have HOM := hid om1
  clear om1
  have hlie : ∀ {ad : Addr}, ad.block < w0.heap.size → ¬ Q ad.block ∧ ¬ N ad.block ∧ ¬ T ad.block := fun {ad} hl => ⟨fun q => by have := HY.out.lo _ (.inl q); omega, fun q => by have := HY.out.lo _ (.inr (.inl q)); omega, fun q => by have := HY.out.lo _ (.inr (.inr q)); omega⟩
  obtain ⟨dv, dm, dxs, hds⟩ := HP.out.ds
  have kw := pwriteA_ p d e k s Q N T dv dm dxs I Da Dn Dc D w1 HP.out.pa hds HP.out.tq (HO.out.d.below HP.out.bl) hsh.1 (fun ad ha h0 => hlie (by have h2 := HO.out.d; rw [ha] at h2; exact h2.lt h0)) (by omega) (by omega)
  clear c0 c1 hlie hds
  go_wp2_with fail
  refine kw.mono ?_
  rintro en w2 ⟨rfl, S2⟩
  have ZZ := hid ((pz_pw HP.out S2).pre HB.out)
  clear S2 kw
  go_wp2_with fail
  go_ret
  exact ⟨rfl, ZZ.out⟩
set_option maxHeartbeats 4000000 in
theorem step2_ (w0 w : World) (p d e k : Nat) (s : St) (Q N T : Nat → Prop) (I : Int) (sc : Bool) (Da : Option Addr) (Dn Dc : Nat) (D : List Int) (Fa : Option Addr) (Fn Fc : Nat) (fs : List (Int × Int)) (Ka : Option Addr) (Kn Kc : Nat) (ks : List Bool)
    (h : Py w0 w p d e k s Q N T) (ho : OpIn w0 Da Dn Dc D Fa Fn Fc fs Ka Kn Kc ks) (hc : s.c ≤ 100000) (hp : s.P.length ≤ 100000) (hk : s.k ≤ 100000) (hsh : (Dn ≤ 65536 ∧ Fn ≤ 65536 ∧ Kn ≤ 65536)) :
    Calls Try.prog 12 #[.pointer (some ⟨p, 0, none⟩), .agg #[.int .i64 2, .int .i64 I, .bool sc, .slice Da Dn Dc, .slice Fa Fn Fc, .slice Ka Kn Kc]] w fun en w' => en = .returned (.bool true) ∧ Pz w0 w w' p d e k (wrS s I (pad D)) Q N T := by
  have BA : Below w.heap.size w (w.alloc (.cells #[.int .i64 2, .int .i64 I, .bool sc, .slice Da Dn Dc, .slice Fa Fn Fc, .slice Ka Kn Kc] 34)) := (Below.refl _ _).alloc (Nat.le_refl _) _
  have om : Om (w.alloc (.cells #[.int .i64 2, .int .i64 I, .bool sc, .slice Da Dn Dc, .slice Fa Fn Fc, .slice Ka Kn Kc] 34)) w.heap.size 2 I sc (.slice Da Dn Dc) (.slice Fa Fn Fc) (.slice Ka Kn Kc) := heap_alloc_new w _
  have HE : Hid (decide (Dn ≤ 65536 ∧ Fn ≤ 65536 ∧ Kn ≤ 65536) = true) := by show _ = _; exact decide_eq_true hsh
  have ksh := short_ 2 I sc Da Dn Dc Fa Fn Fc Ka Kn Kc (w.alloc (.cells #[.int .i64 2, .int .i64 I, .bool sc, .slice Da Dn Dc, .slice Fa Fn Fc, .slice Ka Kn Kc] 34)) ho.dn (by have := ho.fn; omega) ho.kn
  rw [HE.out] at ksh
  have HY := hid h
  have HO := hid ho
  have HA := hid BA
  have HM := hid om
  have b0 := om.c0
  have b1 := om.c1
  have b2 := om.c2
  have b3 := om.c3
  have b4 := om.c4
  have b5 := om.c5
  clear h ho BA om
  go_enter Try.func12, Try.ntmps12
  go_wp2_with fail
  refine ksh.mono ?_
  rintro en w1 ⟨rfl, g1⟩
  have HB := hid (bel_bel HA.out HA.out.size g1)
  have HP := hid (HY.out.below HB.out)
  have om1 := HM.out.below g1
  clear ksh g1 HA HM b0 b1 b2 b3 b4 b5
  have b0 := om1.c0
  have b1 := om1.c1
  have b3 := om1.c3
  have b4 := om1.c4
  have b5 := om1.c5
  have c0 := HP.out.pa.c0
  have c1 := HP.out.pa.c1
  have HOM := hid om1
  clear om1
  have kp : ∀ wx, Drawn w1 wx → Calls Try.prog 38 #[.slice Da Dn Dc] wx fun en w' => ∃ v, en = .returned v ∧ w'.ownsRow w1.heap.size 5 1 v 512 (cells (pad D)) ∧ Below w1.heap.size w1 w' := fun wx hx =>
    (padded_ Da Dn Dc D wx ((HO.out.d.below HP.out.bl).below hx.below) HO.out.dn).mono (fun en w' ⟨v, a, b, c⟩ => ⟨v, a, by rw [hx.heap] at b; exact b, bel_bel hx.below hx.below.size (by rw [hx.heap] at c ⊢; exact c)⟩)
  have HPS := hid (pad_sec HO.out.d.2.1)
  have nqo : ¬ (Q w.heap.size ∨ N w.heap.size ∨ T w.heap.size) := fun q => by
    rcases q with q | q | q
    · have := HY.out.pa.dev.lt _ q; omega
    · have := HY.out.pa.nl _ q; omega
    · have := (HY.out.tq _ q).1; omega
  have HOL := hid HOM.out.lt
  clear c0 c1 b4 b5
  go_wp2_with fail
  go_region_held (fun wx => wx.cell? ⟨w.heap.size, 1, none⟩ = some (.int .i64 I) ∧ wx.cell? ⟨w.heap.size, 3, none⟩ = some (.slice Da Dn Dc)) (go_keep) (first | (go_at_call 38; refine (kp _ (by exact ⟨rfl, rfl, rfl, rfl⟩)).mono ?_; rintro en w2 ⟨v, rfl, o2, g2⟩; obtain ⟨g, cap, rfl, _, _, hg, hh, hlen⟩ := own_head o2 (by omega); have HM2 := hid (HOM.out.below g2); have u1 := HM2.out.c1; have u3 := HM2.out.c3; have HY2 := hid (HP.out.below g2); obtain ⟨dv, dm, dxs, hds⟩ := HY2.out.ds; have kw := pwriteA_ p d e k s Q N T dv dm dxs I (some ⟨g, 0, none⟩) 512 cap (pad D) w2 HY2.out.pa hds HY2.out.tq (hh.all hlen HPS.out.2) (by omega) (fun ad ha _ => by obtain rfl := Option.some.inj ha; exact ⟨fun q => by have := HP.out.pa.dev.lt _ q; simp only at this; omega, fun q => by have := HP.out.pa.nl _ q; simp only at this; omega, fun q => by have := (HP.out.tq _ q).1; simp only at this; omega⟩) (by omega) (by omega); have HG2 := hid (bel_bel HB.out HB.out.size g2); clear o2 g2 hh hds) | (go_at_call 37; refine kw.mono ?_; rintro en w3 ⟨rfl, S3⟩; have HZ := hid (pz_pw HY2.out S3); obtain ⟨Q3, N3, T3, -, -, f3⟩ := HZ.out; have HM3 := HM2.out.at (f3.same _ HM2.out.lt nqo); have x1 := HM3.c1; have x3 := HM3.c3; clear f3 HM3 S3 Q3 N3 T3))
  have ZZ := hid (HZ.out.pre HG2.out)
  clear x1 x3 u1 u3 kw HZ
  go_wp2_with fail
  go_ret
  exact ⟨rfl, ZZ.out⟩
end Go.Proofs.Ythjfgdldclhbhaa
