import Derived.Test.YthjfgdldclhbhaaRV
namespace Go.Proofs.Ythjfgdldclhbhaa
set_option maxRecDepth 100000
open Go.RowKit Go.Shelf
set_option linter.unusedVariables false

set_option maxHeartbeats 4000000 in
theorem step9_ (w0 w : World) (p d e k : Nat) (s : St) (Q N T : Nat → Prop) (I : Int) (sc : Bool) (Da : Option Addr) (Dn Dc : Nat) (D : List Int) (Fa : Option Addr) (Fn Fc : Nat) (fs : List (Int × Int)) (Ka : Option Addr) (Kn Kc : Nat) (ks : List Bool)
    (h : Py w0 w p d e k s Q N T) (ho : OpIn w0 Da Dn Dc D Fa Fn Fc fs Ka Kn Kc ks) (hc : s.c ≤ 100000) (hp : s.P.length ≤ 100000) (hk : s.k ≤ 100000) (hsh : (Dn ≤ 65536 ∧ Fn ≤ 65536 ∧ Kn ≤ 65536)) :
    Calls Try.prog 12 #[.pointer (some ⟨p, 0, none⟩), .agg #[.int .i64 9, .int .i64 I, .bool sc, .slice Da Dn Dc, .slice Fa Fn Fc, .slice Ka Kn Kc]] w fun en w' => en = .returned (.bool true) ∧ Pz w0 w w' p d e k (s) Q N T := by
  have BA : Below w.heap.size w (w.alloc (.cells #[.int .i64 9, .int .i64 I, .bool sc, .slice Da Dn Dc, .slice Fa Fn Fc, .slice Ka Kn Kc] 34)) := (Below.refl _ _).alloc (Nat.le_refl _) _
  have om : Om (w.alloc (.cells #[.int .i64 9, .int .i64 I, .bool sc, .slice Da Dn Dc, .slice Fa Fn Fc, .slice Ka Kn Kc] 34)) w.heap.size 9 I sc (.slice Da Dn Dc) (.slice Fa Fn Fc) (.slice Ka Kn Kc) := heap_alloc_new w _
  have HE : Hid (decide (Dn ≤ 65536 ∧ Fn ≤ 65536 ∧ Kn ≤ 65536) = true) := by show _ = _; exact decide_eq_true hsh
  have ksh := short_ 9 I sc Da Dn Dc Fa Fn Fc Ka Kn Kc (w.alloc (.cells #[.int .i64 9, .int .i64 I, .bool sc, .slice Da Dn Dc, .slice Fa Fn Fc, .slice Ka Kn Kc] 34)) ho.dn (by have := ho.fn; omega) ho.kn
  rw [HE.out] at ksh
  have HY := hid h
  have HO := hid ho
  have HA := hid BA
  have HM := hid om
  have b0 := om.c0
  have b1 := om.c1
  have b2 := om.c2
  have b3 := om.c3
  have b4 := om.c4
  have b5 := om.c5
  clear h ho BA om
  go_enter Try.func12, Try.ntmps12
  go_wp2_with fail
  refine ksh.mono ?_
  rintro en w1 ⟨rfl, g1⟩
  have HB := hid (bel_bel HA.out HA.out.size g1)
  have HP := hid (HY.out.below HB.out)
  have om1 := HM.out.below g1
  clear ksh g1 HA HM b0 b1 b2 b3 b4 b5
  have b0 := om1.c0
  have b1 := om1.c1
  have b3 := om1.c3
  have b4 := om1.c4
  have b5 := om1.c5
  have c0 := HP.out.pa.c0
  have c1 := HP.out.pa.c1
  have HOM := hid om1
  clear om1
  have kf := durable_ d s Q _ HP.out.pa.dev
  have hsec := HP.out.pa.dev.sec
  have hn := HP.out.pa.dev.n
  have hzb := flat_byte s.n hsec
  have hzl := flat_length s.n (fun i hi => (hsec i hi).1)
  have HZB := hid hzb
  have HSEC := hid hsec
  clear hzb hsec
  go_wp2_with fail
  refine kf.mono ?_
  rintro en w2 ⟨v2, rfl, o2, g2⟩
  obtain ⟨a2, cc2, rfl, B2, _, _, _⟩ := own_form o2 HZB.out
  have P2 := HP.out.below g2
  have hcp := P2.pa.c1
  obtain ⟨r1, r2, r3, r4, r5, r6, r7, r8, R⟩ := P2.pa.ref
  have kr := rdurable_ e s N r1 r2 r3 r4 r5 r6 r7 r8 w2 R HSEC.out
  have HG2 := hid (bel_bel HB.out HB.out.size g2)
  have HB2 := hid B2
  clear kf g2 P2 R c0 c1 o2 B2
  go_wp2_with fail
  refine kr.mono ?_
  rintro en w3 ⟨v3, rfl, o3, g3⟩
  obtain ⟨a3, cc3, rfl, B3, _, _, _⟩ := own_form o3 HZB.out
  have HG3 := hid (bel_bel HG2.out HG2.out.size g3)
  have HB2' := hid (HB2.out.below g3)
  have HB3 := hid B3
  clear kr g3 o3 B3 HB2 HG2 hcp
  go_wp2_with fail
  refine (same_big a2 a3 _ cc2 _ cc3 (flat s.S s.n) w3 HB2'.out HB3.out (by omega) (by omega)).mono ?_
  rintro en w4 ⟨rfl, D4⟩
  have ZZ := hid (pz_below HY.out (bel_bel HG3.out HG3.out.size D4.below))
  clear D4 HB2' HB3 HG3
  go_wp2_with fail
  go_ret
  exact ⟨rfl, ZZ.out⟩
set_option maxHeartbeats 4000000 in
theorem step8_ (w0 w : World) (p d e k : Nat) (s : St) (Q N T : Nat → Prop) (I : Int) (sc : Bool) (Da : Option Addr) (Dn Dc : Nat) (D : List Int) (Fa : Option Addr) (Fn Fc : Nat) (fs : List (Int × Int)) (Ka : Option Addr) (Kn Kc : Nat) (ks : List Bool)
    (h : Py w0 w p d e k s Q N T) (ho : OpIn w0 Da Dn Dc D Fa Fn Fc fs Ka Kn Kc ks) (hc : s.c ≤ 100000) (hp : s.P.length ≤ 100000) (hk : s.k ≤ 100000) (hsh : (Dn ≤ 65536 ∧ Fn ≤ 65536 ∧ Kn ≤ 65536)) :
    Calls Try.prog 12 #[.pointer (some ⟨p, 0, none⟩), .agg #[.int .i64 8, .int .i64 I, .bool sc, .slice Da Dn Dc, .slice Fa Fn Fc, .slice Ka Kn Kc]] w fun en w' => en = .returned (.bool true) ∧ Pz w0 w w' p d e k (s) Q N T := by
  have BA : Below w.heap.size w (w.alloc (.cells #[.int .i64 8, .int .i64 I, .bool sc, .slice Da Dn Dc, .slice Fa Fn Fc, .slice Ka Kn Kc] 34)) := (Below.refl _ _).alloc (Nat.le_refl _) _
  have om : Om (w.alloc (.cells #[.int .i64 8, .int .i64 I, .bool sc, .slice Da Dn Dc, .slice Fa Fn Fc, .slice Ka Kn Kc] 34)) w.heap.size 8 I sc (.slice Da Dn Dc) (.slice Fa Fn Fc) (.slice Ka Kn Kc) := heap_alloc_new w _
  have HE : Hid (decide (Dn ≤ 65536 ∧ Fn ≤ 65536 ∧ Kn ≤ 65536) = true) := by show _ = _; exact decide_eq_true hsh
  have ksh := short_ 8 I sc Da Dn Dc Fa Fn Fc Ka Kn Kc (w.alloc (.cells #[.int .i64 8, .int .i64 I, .bool sc, .slice Da Dn Dc, .slice Fa Fn Fc, .slice Ka Kn Kc] 34)) ho.dn (by have := ho.fn; omega) ho.kn
  rw [HE.out] at ksh
  have HY := hid h
  have HO := hid ho
  have HA := hid BA
  have HM := hid om
  have b0 := om.c0
  have b1 := om.c1
  have b2 := om.c2
  have b3 := om.c3
  have b4 := om.c4
  have b5 := om.c5
  clear h ho BA om
  go_enter Try.func12, Try.ntmps12
  go_wp2_with fail
  refine ksh.mono ?_
  rintro en w1 ⟨rfl, g1⟩
  have HB := hid (bel_bel HA.out HA.out.size g1)
  have HP := hid (HY.out.below HB.out)
  have om1 := HM.out.below g1
  clear ksh g1 HA HM b0 b1 b2 b3 b4 b5
  have b0 := om1.c0
  have b1 := om1.c1
  have b3 := om1.c3
  have b4 := om1.c4
  have b5 := om1.c5
  have c0 := HP.out.pa.c0
  have c1 := HP.out.pa.c1
  have HOM := hid om1
  clear om1
  have kf := pending_ d s Q _ HP.out.pa.dev (by omega)
  go_wp2_with fail
  refine kf.mono ?_
  rintro en w2 ⟨⟨v2, J, rfl, pl2⟩, g2⟩
  have P2 := HP.out.below g2
  have hcp := P2.pa.c1
  obtain ⟨r1, r2, r3, r4, r5, r6, r7, r8, R⟩ := P2.pa.ref
  have kr := rpending_ e s N r1 r2 r3 r4 r5 r6 r7 r8 w2 R (by omega)
  have HG2 := hid (bel_bel HB.out HB.out.size g2)
  have HL2 := hid pl2
  clear kf g2 P2 R c0 c1 pl2
  go_wp2_with fail
  refine kr.mono ?_
  rintro en w3 ⟨⟨v3, J3, rfl, pl3⟩, g3⟩
  have HG3 := hid (bel_bel HG2.out HG2.out.size g3)
  have hl3 : J3.length ≤ 1000000 := by have e1 := congrArg List.length pl3.ip; rw [List.length_map] at e1; omega
  have o2 := own_at' HL2.out.own (fun g hg => g3.block g (HL2.out.own.lt g hg).2)
  obtain ⟨a2, cc2, rfl⟩ : ∃ a c, v2 = .slice a J.length c := by
    rcases HL2.out.own.2 with ⟨h, h0⟩ | ⟨g, cap, cur, h, _⟩
    · exact ⟨none, 0, by rw [h, h0]⟩
    · exact ⟨_, _, h⟩
  obtain ⟨a3, cc3, rfl⟩ : ∃ a c, v3 = .slice a J3.length c := by
    rcases pl3.own.2 with ⟨h, h0⟩ | ⟨g, cap, cur, h, _⟩
    · exact ⟨none, 0, by rw [h, h0]⟩
    · exact ⟨_, _, h⟩
  have kp := samePending_ a2 a3 cc2 cc3 _ _ J J3 w3 o2 pl3.own (fun x hx => (HL2.out.it x hx).1.below g3) (fun x hx => (pl3.it x hx).1) (by rw [← HL2.out.ip, ← pl3.ip]) hl3
  clear kr g3 pl3 HL2 HG2 hcp o2
  go_wp2_with fail
  refine kp.mono ?_
  rintro en w4 ⟨rfl, D4⟩
  have ZZ := hid (pz_below HY.out (bel_bel HG3.out HG3.out.size D4.below))
  clear D4 HG3 kp
  go_wp2_with fail
  go_ret
  exact ⟨rfl, ZZ.out⟩
set_option maxHeartbeats 4000000 in
theorem step6_ (w0 w : World) (p d e k : Nat) (s : St) (Q N T : Nat → Prop) (I : Int) (sc : Bool) (Da : Option Addr) (Dn Dc : Nat) (D : List Int) (Fa : Option Addr) (Fn Fc : Nat) (fs : List (Int × Int)) (Ka : Option Addr) (Kn Kc : Nat) (ks : List Bool)
    (h : Py w0 w p d e k s Q N T) (ho : OpIn w0 Da Dn Dc D Fa Fn Fc fs Ka Kn Kc ks) (hc : s.c ≤ 100000) (hp : s.P.length ≤ 100000) (hk : s.k ≤ 100000) (hsh : (Dn ≤ 65536 ∧ Fn ≤ 65536 ∧ Kn ≤ 65536)) :
    Calls Try.prog 12 #[.pointer (some ⟨p, 0, none⟩), .agg #[.int .i64 6, .int .i64 I, .bool sc, .slice Da Dn Dc, .slice Fa Fn Fc, .slice Ka Kn Kc]] w fun en w' => en = .returned (.bool true) ∧ Pz w0 w w' p d e k (crS s ks) Q N T := by
  have BA : Below w.heap.size w (w.alloc (.cells #[.int .i64 6, .int .i64 I, .bool sc, .slice Da Dn Dc, .slice Fa Fn Fc, .slice Ka Kn Kc] 34)) := (Below.refl _ _).alloc (Nat.le_refl _) _
  have om : Om (w.alloc (.cells #[.int .i64 6, .int .i64 I, .bool sc, .slice Da Dn Dc, .slice Fa Fn Fc, .slice Ka Kn Kc] 34)) w.heap.size 6 I sc (.slice Da Dn Dc) (.slice Fa Fn Fc) (.slice Ka Kn Kc) := heap_alloc_new w _
  have HE : Hid (decide (Dn ≤ 65536 ∧ Fn ≤ 65536 ∧ Kn ≤ 65536) = true) := by show _ = _; exact decide_eq_true hsh
  have ksh := short_ 6 I sc Da Dn Dc Fa Fn Fc Ka Kn Kc (w.alloc (.cells #[.int .i64 6, .int .i64 I, .bool sc, .slice Da Dn Dc, .slice Fa Fn Fc, .slice Ka Kn Kc] 34)) ho.dn (by have := ho.fn; omega) ho.kn
  rw [HE.out] at ksh
  have HY := hid h
  have HO := hid ho
  have HA := hid BA
  have HM := hid om
  have b0 := om.c0
  have b1 := om.c1
  have b2 := om.c2
  have b3 := om.c3
  have b4 := om.c4
  have b5 := om.c5
  clear h ho BA om
  go_enter Try.func12, Try.ntmps12
  go_wp2_with fail
  refine ksh.mono ?_
  rintro en w1 ⟨rfl, g1⟩
  have HB := hid (bel_bel HA.out HA.out.size g1)
  have HP := hid (HY.out.below HB.out)
  have om1 := HM.out.below g1
  clear ksh g1 HA HM b0 b1 b2 b3 b4 b5
  have b0 := om1.c0
  have b1 := om1.c1
  have b3 := om1.c3
  have b4 := om1.c4
  have b5 := om1.c5
  have c0 := HP.out.pa.c0
  have c1 := HP.out.pa.c1
  have HOM := hid om1
  clear om1
  have hlie : ∀ {ad : Addr}, ad.block < w0.heap.size → ¬ Q ad.block ∧ ¬ N ad.block := fun {ad} hl => ⟨fun q => by have := HY.out.lo _ (.inl q); omega, fun q => by have := HY.out.lo _ (.inr (.inl q)); omega⟩
  have kf := pcrash_ p d e k s Q N Ka Kn Kc ks _ HP.out.pa (by omega) (HO.out.k.bel0 HP.out.bl) (fun ad ha h0 => hlie (by have h2 := HO.out.k; rw [ha] at h2; exact h2.lt h0)) (by omega)
  clear c0 c1 hlie
  go_wp2_with fail
  refine kf.mono ?_
  rintro en w2 ⟨rfl, S2⟩
  have ZZ := hid ((pz_ps HP.out S2).pre HB.out)
  clear S2 kf
  go_wp2_with fail
  go_ret
  exact ⟨rfl, ZZ.out⟩
set_option maxHeartbeats 4000000 in
theorem step5_ (w0 w : World) (p d e k : Nat) (s : St) (Q N T : Nat → Prop) (I : Int) (sc : Bool) (Da : Option Addr) (Dn Dc : Nat) (D : List Int) (Fa : Option Addr) (Fn Fc : Nat) (fs : List (Int × Int)) (Ka : Option Addr) (Kn Kc : Nat) (ks : List Bool)
    (h : Py w0 w p d e k s Q N T) (ho : OpIn w0 Da Dn Dc D Fa Fn Fc fs Ka Kn Kc ks) (hc : s.c ≤ 100000) (hp : s.P.length ≤ 100000) (hk : s.k ≤ 100000) (hsh : (Dn ≤ 65536 ∧ Fn ≤ 65536 ∧ Kn ≤ 65536)) :
    Calls Try.prog 12 #[.pointer (some ⟨p, 0, none⟩), .agg #[.int .i64 5, .int .i64 I, .bool sc, .slice Da Dn Dc, .slice Fa Fn Fc, .slice Ka Kn Kc]] w fun en w' => en = .returned (.bool true) ∧ Pz w0 w w' p d e k (arS s fs) Q N T := by
  have BA : Below w.heap.size w (w.alloc (.cells #[.int .i64 5, .int .i64 I, .bool sc, .slice Da Dn Dc, .slice Fa Fn Fc, .slice Ka Kn Kc] 34)) := (Below.refl _ _).alloc (Nat.le_refl _) _
  have om : Om (w.alloc (.cells #[.int .i64 5, .int .i64 I, .bool sc, .slice Da Dn Dc, .slice Fa Fn Fc, .slice Ka Kn Kc] 34)) w.heap.size 5 I sc (.slice Da Dn Dc) (.slice Fa Fn Fc) (.slice Ka Kn Kc) := heap_alloc_new w _
  have HE : Hid (decide (Dn ≤ 65536 ∧ Fn ≤ 65536 ∧ Kn ≤ 65536) = true) := by show _ = _; exact decide_eq_true hsh
  have ksh := short_ 5 I sc Da Dn Dc Fa Fn Fc Ka Kn Kc (w.alloc (.cells #[.int .i64 5, .int .i64 I, .bool sc, .slice Da Dn Dc, .slice Fa Fn Fc, .slice Ka Kn Kc] 34)) ho.dn (by have := ho.fn; omega) ho.kn
  rw [HE.out] at ksh
  have HY := hid h
  have HO := hid ho
  have HA := hid BA
  have HM := hid om
  have b0 := om.c0
  have b1 := om.c1
  have b2 := om.c2
  have b3 := om.c3
  have b4 := om.c4
  have b5 := om.c5
  clear h ho BA om
  go_enter Try.func12, Try.ntmps12
  go_wp2_with fail
  refine ksh.mono ?_
  rintro en w1 ⟨rfl, g1⟩
  have HB := hid (bel_bel HA.out HA.out.size g1)
  have HP := hid (HY.out.below HB.out)
  have om1 := HM.out.below g1
  clear ksh g1 HA HM b0 b1 b2 b3 b4 b5
  have b0 := om1.c0
  have b1 := om1.c1
  have b3 := om1.c3
  have b4 := om1.c4
  have b5 := om1.c5
  have c0 := HP.out.pa.c0
  have c1 := HP.out.pa.c1
  have HOM := hid om1
  clear om1
  have hlie : ∀ {ad : Addr}, ad.block < w0.heap.size → ¬ Q ad.block ∧ ¬ N ad.block := fun {ad} hl => ⟨fun q => by have := HY.out.lo _ (.inl q); omega, fun q => by have := HY.out.lo _ (.inr (.inl q)); omega⟩
  have kf := parm_ p d e k s Q N Fa Fn Fc fs _ HP.out.pa (HO.out.f.below HP.out.bl) (fun ad ha h0 => hlie (by have h2 := HO.out.f; rw [ha] at h2; exact h2.lt h0)) (by omega)
  clear c0 c1 hlie
  go_wp2_with fail
  refine kf.mono ?_
  rintro en w2 ⟨rfl, S2⟩
  have ZZ := hid ((pz_ps HP.out S2).pre HB.out)
  clear S2 kf
  go_wp2_with fail
  go_ret
  exact ⟨rfl, ZZ.out⟩
end Go.Proofs.Ythjfgdldclhbhaa
namespace Go.Proofs.Ythjfgdldclhbhaa
set_option maxRecDepth 100000
open Go.RowKit Go.Shelf
set_option linter.unusedVariables false

theorem fr_drawn {Q : Nat → Prop} {w wx w' : World} (hx : Drawn w wx) (c : Fr Q wx w') : Fr Q w w' :=
  ⟨c.os.trans hx.os, c.tape.trans hx.tape, c.output.trans hx.output, by rw [← hx.heap]; exact c.size, fun b hb hn => by
    have := c.same b (by rw [hx.heap]; exact hb) hn
    rw [hx.heap] at this
    exact this⟩
theorem read_dr (d : Nat) (i : Int) (s : St) (Q : Nat → Prop) (w wx : World) (hx : Drawn w wx) (h : Dev w d s Q) (hc : s.c ≤ 1000000) (hp : s.P.length ≤ 1000000) :
    Calls Try.prog 14 #[.pointer (some ⟨d, 0, none⟩), .int .i64 i] wx fun e w' => ∃ v, e = .returned (.tuple #[v, .int .i64 (rdE s i)]) ∧ w'.ownsRow w.heap.size 5 1 v (rdB s i).length (cells (rdB s i)) ∧ Dev w' d (rdS s i) Q ∧ Fr Q w w' :=
  (read_ d i s Q wx (h.below hx.below) hc hp).mono (fun e w' ⟨v, a, b, c, f⟩ => ⟨v, a, by rw [hx.heap] at b; exact b, c, fr_drawn hx f⟩)
theorem rread_dr (e : Nat) (i : Int) (s : St) (N : Nat → Prop) (gl : Nat) (cur : Array Value) (pa : Option Addr) (pc : Nat) (I : List It) (fa : Option Addr) (fc : Nat) (fs : List (Int × Int)) (w wx : World) (hx : Drawn w wx) (h : Rk w e s N gl cur pa pc I fa fc fs) (hc : s.c ≤ 1000000) (hp : s.P.length ≤ 1000000) :
    Calls Try.prog 36 #[.pointer (some ⟨e, 0, none⟩), .int .i64 i] wx fun en w' => ∃ v, en = .returned (.tuple #[v, .int .i64 (rdE s i)]) ∧ w'.ownsRow w.heap.size 5 1 v (rdB s i).length (cells (rdB s i)) ∧ Rd w' e (rdS s i) N ∧ Fr N w w' :=
  (rread_ e i s N gl cur pa pc I fa fc fs wx (h.below hx.below) hc hp).mono (fun e w' ⟨v, a, b, c, f⟩ => ⟨v, a, by rw [hx.heap] at b; exact b, c, fr_drawn hx f⟩)
set_option maxHeartbeats 4000000 in
theorem step1_ (w0 w : World) (p d e k : Nat) (s : St) (Q N T : Nat → Prop) (I : Int) (sc : Bool) (Da : Option Addr) (Dn Dc : Nat) (D : List Int) (Fa : Option Addr) (Fn Fc : Nat) (fs : List (Int × Int)) (Ka : Option Addr) (Kn Kc : Nat) (ks : List Bool)
    (h : Py w0 w p d e k s Q N T) (ho : OpIn w0 Da Dn Dc D Fa Fn Fc fs Ka Kn Kc ks) (hc : s.c ≤ 100000) (hp : s.P.length ≤ 100000) (hk : s.k ≤ 100000) (hsh : (Dn ≤ 65536 ∧ Fn ≤ 65536 ∧ Kn ≤ 65536)) :
    Calls Try.prog 12 #[.pointer (some ⟨p, 0, none⟩), .agg #[.int .i64 1, .int .i64 I, .bool sc, .slice Da Dn Dc, .slice Fa Fn Fc, .slice Ka Kn Kc]] w fun en w' => en = .returned (.bool true) ∧ Pz w0 w w' p d e k (rdS s I) Q N T := by
  have BA : Below w.heap.size w (w.alloc (.cells #[.int .i64 1, .int .i64 I, .bool sc, .slice Da Dn Dc, .slice Fa Fn Fc, .slice Ka Kn Kc] 34)) := (Below.refl _ _).alloc (Nat.le_refl _) _
  have om : Om (w.alloc (.cells #[.int .i64 1, .int .i64 I, .bool sc, .slice Da Dn Dc, .slice Fa Fn Fc, .slice Ka Kn Kc] 34)) w.heap.size 1 I sc (.slice Da Dn Dc) (.slice Fa Fn Fc) (.slice Ka Kn Kc) := heap_alloc_new w _
  have HE : Hid (decide (Dn ≤ 65536 ∧ Fn ≤ 65536 ∧ Kn ≤ 65536) = true) := by show _ = _; exact decide_eq_true hsh
  have ksh := short_ 1 I sc Da Dn Dc Fa Fn Fc Ka Kn Kc (w.alloc (.cells #[.int .i64 1, .int .i64 I, .bool sc, .slice Da Dn Dc, .slice Fa Fn Fc, .slice Ka Kn Kc] 34)) ho.dn (by have := ho.fn; omega) ho.kn
  rw [HE.out] at ksh
  have HY := hid h
  have HO := hid ho
  have HA := hid BA
  have HM := hid om
  have b0 := om.c0
  have b1 := om.c1
  have b2 := om.c2
  have b3 := om.c3
  have b4 := om.c4
  have b5 := om.c5
  clear h ho BA om
  go_enter Try.func12, Try.ntmps12
  go_wp2_with fail
  refine ksh.mono ?_
  rintro en w1 ⟨rfl, g1⟩
  have HB := hid (bel_bel HA.out HA.out.size g1)
  have HP := hid (HY.out.below HB.out)
  have om1 := HM.out.below g1
  clear ksh g1 HA HM b0 b1 b2 b3 b4 b5
  have b0 := om1.c0
  have b1 := om1.c1
  have b3 := om1.c3
  have b4 := om1.c4
  have b5 := om1.c5
  have c0 := HP.out.pa.c0
  have c1 := HP.out.pa.c1
  have HOM := hid om1
  clear om1
  have kf := fun wx (hx : Drawn w1 wx) => read_dr d I s Q w1 wx hx HP.out.pa.dev (by omega) (by omega)
  have nqo : ¬ Q w.heap.size := fun q => by have := HY.out.pa.dev.lt _ q; omega
  have nno : ¬ N w.heap.size := fun q => by have := HY.out.pa.nl _ q; omega
  obtain ⟨hzb, hzl⟩ := rdB_sec HP.out.pa.dev I
  obtain ⟨E, HE⟩ : ∃ E, Hid (rdE s I = E) := ⟨_, rfl⟩
  obtain ⟨Z, HZ⟩ : ∃ Z, Hid (rdB s I = Z) := ⟨_, rfl⟩
  rw [HE.out, HZ.out] at kf
  rw [HZ.out] at hzb hzl
  have HZB := hid hzb
  have HOL := hid HOM.out.lt
  clear hzb b3 b4 b5 c1
  go_wp2_with fail
  go_region_held (fun wx => wx.cell? ⟨p, 0, none⟩ = some (.pointer (some ⟨d, 0, none⟩)) ∧ wx.cell? ⟨w.heap.size, 1, none⟩ = some (.int .i64 I)) (go_keep) (first | (go_at_call 14; refine (kf _ (by exact ⟨rfl, rfl, rfl, rfl⟩)).mono ?_; rintro en w2 ⟨v2, rfl, o2, D2, F2⟩; have u0 : w2.cell? ⟨p, 0, none⟩ = some (.pointer (some ⟨d, 0, none⟩)) := (cell_of_row _ _ 0 _ _ (0, 0) ((F2.same p HP.out.pa.lt HP.out.pa.nq).trans HP.out.pa.pr)).trans rfl; have u1 : w2.cell? ⟨w.heap.size, 1, none⟩ = some (.int .i64 I) := (HOM.out.at (F2.same _ HOL.out nqo)).c1))
  obtain ⟨a2, cc2, rfl, RO2, _, _⟩ := Ro.new (Q := N) o2 HZB.out (fun b hb => HP.out.pa.nl b hb)
  have hs2 := F2.size
  have hcpr := (F2.same p HP.out.pa.lt HP.out.pa.nq).trans HP.out.pa.pr
  have HOM2 := hid (HOM.out.at (F2.same _ HOL.out nqo))
  have mid := HP.out.pa.mid F2
  have hcp := mid.2
  have HPR := hid hcpr
  have HPL : Hid (p < w2.heap.size) := Nat.lt_of_lt_of_le HP.out.pa.lt F2.size
  have hb1 := HOM2.out.c1
  obtain ⟨r1, r2, r3, r4, r5, r6, r7, r8, R⟩ := mid.1
  have kr := fun wx (hx : Drawn w2 wx) => rread_dr e I s N r1 r2 r3 r4 r5 r6 r7 r8 w2 wx hx R (by omega) (by omega)
  rw [HE.out, HZ.out] at kr
  have HD2 := hid D2
  have HF2 := hid F2
  have HRO := hid RO2
  have xE : (E == E) = true := beq_self_eq_true E
  clear kf D2 F2 mid R c0 b0 b1 o2 RO2 u0 u1 hcpr
  go_wp2_with fail
  go_region_held (fun wx => wx.cell? ⟨p, 1, none⟩ = some (.pointer (some ⟨e, 0, none⟩)) ∧ wx.cell? ⟨w.heap.size, 1, none⟩ = some (.int .i64 I)) (go_keep) (first | (go_at_call 36; refine (kr _ (by exact ⟨rfl, rfl, rfl, rfl⟩)).mono ?_; rintro en w3 ⟨v3, rfl, o3, R3, F3⟩; have u0 : w3.cell? ⟨p, 1, none⟩ = some (.pointer (some ⟨e, 0, none⟩)) := (cell_of_row _ _ 1 _ _ (0, 0) ((F3.same p HPL.out HP.out.pa.nn).trans HPR.out)).trans rfl; have u1 : w3.cell? ⟨w.heap.size, 1, none⟩ = some (.int .i64 I) := (HOM2.out.at (F3.same _ HOM2.out.lt nno)).c1))
  obtain ⟨a3, cc3, rfl, B3, _, _, _⟩ := own_form o3 HZB.out
  have S3 := hid (ps_two HP.out.pa HD2.out HF2.out R3 F3)
  have B2 := hid (HRO.out.fr F3).bs
  have B3H := hid B3
  clear kr R3 F3 HD2 HF2 hcp o3 B3 HRO u0 u1 hb1
  go_wp2_with fail
  refine (same_big a2 a3 Z.length cc2 Z.length cc3 Z w3 B2.out B3H.out (by omega) (by omega)).mono ?_
  rintro en w4 ⟨rfl, D4⟩
  have ZZ := hid ((pz_ps HP.out (S3.out.post D4.below)).pre HB.out)
  clear D4 B2 B3H S3
  go_wp2_with (go_at_call 19; refine (num_ _ _).mono ?_; rintro e w' ⟨rfl, hw⟩; obtain rfl := hw.symm; clear hw)
  go_ret
  exact ⟨rfl, ZZ.out⟩
end Go.Proofs.Ythjfgdldclhbhaa
