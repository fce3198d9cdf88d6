import Derived.Test.YtmbopaemnlikkaaLU0
import Derived.Deep.RegionWith
import Derived.Deep.CutRange
import Derived.Deep.RegionHeld3
namespace Go.Proofs.Ytmbopaemnlikkaa
set_option maxRecDepth 100000
open Go.RowKit
set_option linter.unusedVariables false

/-- Between two lanes: the old one in hand, the new one beside it. -/
structure Cr (w wx : World) (pl pz : Nat) (v : Value) (xs : List Int) (a : Option Addr) (c : Nat) (k : List Int) (S C N D E s n : Int) (a1 : Option Addr) (c1 : Nat) (C1 N1 D1 E1 s1 n1 : Int) : Prop where
  lh : Lh w wx pl a c k S C N D E s n
  z : Lm wx pz a1 32 c1 S C1 N1 D1 E1 s1 n1
  row : Uo w wx v xs
  ne : v.ownBlock ≠ some pl
  vz : Vs wx (fun x => x ≠ pl ∧ v.ownBlock ≠ some x) a1 32 c1 k
  lt : ∀ x ∈ xs, x < E1
theorem Cr.take {w wx : World} {pl pz : Nat} {v : Value} {xs : List Int} {a : Option Addr} {c : Nat} {k : List Int} {S C N D E s n : Int} {a1 : Option Addr} {c1 : Nat} {C1 N1 D1 E1 s1 n1 : Int} (h : Cr w wx pl pz v xs a c k S C N D E s n a1 c1 C1 N1 D1 E1 s1 n1) (hok : lokL ⟨k, S, C1, N1, D1, E1, s1, n1⟩ = true) (hD : u64r D1) (hE : u64r E1) (hs : i64r s1) (hn : i64r n1) : Cq w (wx.setRow pl #[.slice a1 32 c1, .int .i64 S, .int .i64 C1, .int .i64 N1, .int .u64 D1, .int .u64 E1, .int .i64 s1, .int .i64 n1]) pl v xs a1 c1 k S C1 N1 D1 E1 s1 n1 :=
  ⟨h.lh.set (h.vz.wide fun x _ hx => hx.1) hok hD hE hs hn, h.row.row h.ne _, h.ne, h.vz.step fun x _ hx _ => setRow_other _ _ _ _ hx.1, h.lt⟩
theorem Lh.grown {w wr w2 : World} {pl : Nat} {a : Option Addr} {c : Nat} {k : List Int} {S C N D E s n : Int} {r : Option Nat} (h : Lh w wr pl a c k S C N D E s n) (hg : wr.grownBy w2 r) (hp : r ≠ some pl) (hv : Vs wr (fun x => x ≠ pl ∧ r ≠ some x) a 32 c k) (hr : ∀ y, r = some y → w.heap.size ≤ y) : Lh w w2 pl a c k S C N D E s n :=
  ⟨h.lm.at (hg.block pl h.lm.lt (Ne.symm hp)), (hv.step fun x hx hy _ => hg.block x hx (Ne.symm hy.2)).wide fun x _ hy => hy.1, h.ok, h.D, h.E, h.s, h.n, ⟨hg.os.trans h.bel.os, hg.tape.trans h.bel.tape, hg.output.trans h.bel.output, Nat.le_trans h.bel.size hg.size, fun i hi => (hg.block i (Nat.lt_of_lt_of_le hi h.bel.size) (fun e => by have := hr i e.symm; omega)).trans (h.bel.block i hi)⟩, h.ge⟩
theorem Cq.app {w wr w2 : World} {pl : Nat} {v v' : Value} {xs : List Int} {a : Option Addr} {c : Nat} {k : List Int} {S C N D E s n X : Int} (h : Cq w wr pl v xs a c k S C N D E s n) (hu : Uo w w2 v' (xs ++ [X])) (hg : wr.grownBy w2 v.ownBlock) (hy : ∀ y, v'.ownBlock = some y → v.ownBlock = some y ∨ wr.heap.size ≤ y) (hX : X < E) : Cq w w2 pl v' (xs ++ [X]) a c k S C N D E s n :=
  ⟨h.lh.grown hg h.ne h.vs (fun y e => (h.row.lt e).1), hu, fun e => by rcases hy _ e with h1 | h1; exact h.ne h1; have := h.lh.lm.lt; omega, ((h.vs.andLt17.step fun x hx hz _ => hg.block x hx (Ne.symm hz.1.2))).wide fun x _ hx => ⟨hx.1.1, fun e => by rcases hy _ e with h1 | h1; exact hx.1.2 h1; have := hx.2; omega⟩, fun x hx => by rcases List.mem_append.1 hx with h1 | h1; exact h.lt x h1; have := List.mem_singleton.1 h1; omega⟩
theorem Cq.raise {w wr y w2 : World} {pl : Nat} {v : Value} {xs : List Int} {a ar : Option Addr} {c cr : Nat} {k : List Int} {S C N D E E' s n : Int} (h : Cq w wr pl v xs a c k S C N D E s n) (hy : Below wr.heap.size wr y) (hm : Lm w2 pl ar 32 cr S C N D E' s n) (h2 : ∀ x, x ≠ pl → w2.heap[x]? = y.heap[x]?) (h0 : Below 0 y w2) (hb : Below w.heap.size w w2) (hv : Vs y (fun x => wr.heap.size ≤ x) ar 32 cr k) (hE : u64r E') (hle : E ≤ E') : Cq w w2 pl v xs ar cr k S C N D E' s n := by
  have hpl := h.lh.lm.lt
  have hv2 : Vs w2 (fun x => wr.heap.size ≤ x) ar 32 cr k := hv.step fun x _ hx _ => h2 x (by omega)
  refine ⟨⟨hm, hv2.wide fun x _ hx => by omega, h.lh.ok, h.lh.D, hE, h.lh.s, h.lh.n, hb, h.lh.ge⟩, ?_, h.ne, hv2.wide fun x _ hx => ⟨by omega, fun e => by have := (h.row.lt e).2; omega⟩, fun x hx => by have := h.lt x hx; omega⟩
  exact World.ownsRow.kept (h.row.on hy) (row := some pl) ⟨h0.os, h0.tape, h0.output, h0.size, fun i hi e => h2 i (fun e2 => e (by rw [e2]))⟩ (.inr h.ne)
set_option maxHeartbeats 16000000 in
/-- LaneCeils. -/
theorem laneCeils_ (ll : LL) (a0 : Option Addr) (m0 c0 : Nat) (k0 : List Int) (S0 : Int) (ao : Option Addr) (no co : Nat) (ops : List Oz) (ac : Option Addr) (nc cc : Nat) (cs : List Int) (w : World) (hk : Bs w a0 m0 k0) (hm0 : m0 ≤ 140737488351232) (hS0 : i64r S0) (ho : Opl w ao no ops) (hcs : Ucs w ac nc cs) :
    Calls Try.prog 5 #[.slice a0 m0 c0, .int .i64 S0, .slice ao no co, .slice ac nc cc] w fun e w' => e = .returned (.bool true) ∧ Below w.heap.size w w' := by
  have hkl : k0.length = m0 := hk.1
  have HK := hid hk
  have HO := hid ho
  have HCS := hid hcs
  have hnl := ho.len
  clear hk ho hcs
  go_enter Try.func5, Try.ntmps5
  go_wp2_with fail
  refine (known_ ll w).mono ?_
  rintro e w1 ⟨rfl, g1⟩
  have HB1 : Hid (Bw w w1) := g1
  clear g1
  have kx := ll.new a0 m0 c0 k0 S0 w1 (HK.out.below HB1.out) hm0 hS0
  go_wp2_with fail
  refine kx.mono ?_
  intro e y hy
  clear kx
  by_cases hq : k0.length = 32 ∧ (S0 = 0 ∨ S0 = 1)
  case neg =>
    have eR : newL k0 S0 = ⟨[], 0, 0, 0, 0, 0, 0, 0⟩ := by unfold newL; rw [decide_eq_false hq]; rfl
    obtain ⟨az, cz, rfl, vz, gz⟩ := hy.use (m := 0) eR rfl
    have z2 := (Lm.new y az 0 cz 0 0 0 0 0 0 0).c2
    have HF : Hid (Below w.heap.size w (y.alloc (.cells #[.slice az 0 cz, .int .i64 0, .int .i64 0, .int .i64 0, .int .u64 0, .int .u64 0, .int .i64 0, .int .i64 0] 29))) := (HB1.out.on gz).on (lnew y az 0 cz 0 0 0 0 0 0 0)
    clear hy vz gz
    by_cases q1 : m0 = 32
    · subst q1
      by_cases q2 : S0 < 0
      · go_wp2_with fail
        all_goals (go_ret; first | exact ⟨rfl, HF.out⟩ | exact ⟨ret_bool (decide_eq_true (by omega)), HF.out⟩)
      · have q3 : 1 < S0 := by omega
        go_wp2_with fail
        all_goals (go_ret; first | exact ⟨rfl, HF.out⟩ | exact ⟨ret_bool (decide_eq_true (by omega)), HF.out⟩)
    · have q4 : ((m0 : Int) != 32) = true := bne_iff_ne.2 (by omega)
      go_wp2_with fail
      all_goals (go_ret; first | exact ⟨rfl, HF.out⟩ | exact ⟨ret_bool (decide_eq_true (by omega)), HF.out⟩)
  obtain ⟨hq1, hq2⟩ := hq
  have eR : newL k0 S0 = ⟨k0, S0, 1, 0, 0, 0, 0, 0⟩ := by unfold newL; rw [decide_eq_true ⟨hq1, hq2⟩]; rfl
  obtain ⟨az, cz, rfl, vz, gz⟩ := hy.use eR hq1
  obtain rfl : m0 = 32 := by omega
  have NL := lnew y az 32 cz S0 1 0 0 0 0 0
  have HL0 : Hid (Lh w (y.alloc (.cells #[.slice az 32 cz, .int .i64 S0, .int .i64 1, .int .i64 0, .int .u64 0, .int .u64 0, .int .i64 0, .int .i64 0] 29)) y.heap.size az cz k0 S0 1 0 0 0 0 0) :=
    ⟨Lm.new y az 32 cz S0 1 0 0 0 0 0, (vz.wide (V' := fun x => x ≠ y.heap.size) fun x hx _ => by omega).step fun x hx _ _ => NL.block x hx, lok_mk (by simp [vld]) hq1 hq2 (by show (1 : Int) ≤ 1; omega) (by show (1 : Int) ≤ 2147483647; omega) (by show (0 : Int) ≤ 0; omega) (by show (0 : Int) ≤ 2147483647; omega), by unfold u64r; omega, by unfold u64r; omega, by unfold i64r; omega, by unfold i64r; omega, (HB1.out.on gz).on NL, by have h1 := Below.size HB1.out; have h2 := gz.size; omega⟩
  obtain ⟨w0, HW0⟩ : ∃ z, Hid (y.alloc (.cells #[.slice az 32 cz, .int .i64 S0, .int .i64 1, .int .i64 0, .int .u64 0, .int .u64 0, .int .i64 0, .int .i64 0] 29) = z) := ⟨_, rfl⟩
  obtain ⟨pl, HPL⟩ : ∃ z, Hid (y.heap.size = z) := ⟨_, rfl⟩
  rw [HW0.out] at HL0
  rw [HPL.out] at HL0
  clear hy vz gz NL eR HB1
  go_upto_region 4 with fail
  rw [HW0.out, HPL.out]
  clear HW0 HPL
  have z2 := HL0.out.lm.c2
  go_wp2_with fail
  clear z2
  go_loopw [10, 11] (fun u i wr => ∃ (v : Value) (j : Nat) (xs : List Int) (a : Option Addr) (c : Nat) (C N D E s n : Int), v = u ∧ j ≤ no ∧ i = .int .i64 j ∧ xs.length ≤ 2 * j ∧ Hid (Cq w wr pl v xs a c k0 S0 C N D E s n)) (fun _ i _ => no - (intOf i).toNat)
  case atStart => exact ⟨_, 0, [], az, cz, 1, 0, 0, 0, 0, 0, rfl, by omega, rfl, by simp, ⟨HL0.out, uo_nil _ _, by simp [Value.ownBlock], HL0.out.vs.wide fun x _ hx => ⟨hx, by simp [Value.ownBlock]⟩, fun x hx => by cases hx⟩⟩
  case round =>
    clear HL0
    obtain ⟨v, j, xs, a, c, C, N, D, E, s, n, rfl, hj, rfl, hxl, HC⟩ := hrel
    by_cases hlt : j < no
    case neg =>
      have hjI : ¬ (j : Int) < no := by omega
      go_wp2_with fail
      go_ret
      exact ⟨rfl, HC.out.lh.bel⟩
    have hjI : (j : Int) < no := by omega
    by_cases h20 : (j : Int) < 2000
    case neg =>
      go_wp2_with fail
      go_ret
      exact ⟨rfl, HC.out.lh.bel⟩
    have HL := hid HC.out.lh
    obtain ⟨b, off, rfl, hc⟩ : ∃ b off, ao = some ⟨b, off, none⟩ ∧ ∀ i, i < no → OpAt wr b (off + i * 7) (ops.getD i oz0) := by
      rcases (HO.out.on HL.out.bel).at' with h0 | h1
      · omega
      · exact h1
    have hx := hc j hlt
    obtain ⟨x, HX⟩ : ∃ x, Hid (ops.getD j oz0 = x) := ⟨_, rfl⟩
    rw [HX.out] at hx
    obtain ⟨⟨o0, o1, o2, o3, o4, o5, o6⟩, hox⟩ := hx
    obtain ⟨C1, N1, D1, E1, s1, n1, hf, hnx, kx⟩ := HC.out.next ll hox
    obtain ⟨kd, G, B, X, Y, T, U⟩ := x
    simp only at o0 o1 o2 o3 o4 o5 o6 hf hnx kx
    obtain ⟨gv, hgv⟩ : ∃ z, nxG ⟨k0, S0, C, N, D, E, s, n⟩ kd G B X Y T U = z := ⟨_, rfl⟩
    obtain ⟨av, hav⟩ : ∃ z, nxA ⟨k0, S0, C, N, D, E, s, n⟩ kd G B X Y T U = z := ⟨_, rfl⟩
    rw [hgv] at hf
    simp only [hgv, hav] at kx
    have HF := hid hf
    have HOX := hid hox
    have HNX := hid hnx
    have HGV := hid hgv
    have HAV := hid hav
    have HO0 := hid o0
    have HO1 := hid o1
    have HO2 := hid o2
    have HO3 := hid o3
    clear hc hf hox hnx hgv hav
    have BW0 : Bw wr { wr with drawn := wr.drawn + 1 } := Bw.drew wr
    have BW1 : Bw wr (wr.alloc (.cells #[.slice none 0 0, .int .i64 0, .int .i64 0, .int .i64 0, .int .u64 0, .int .u64 0, .int .i64 0, .int .i64 0] 29)).drew := Bw.on (Bw.on (Below.refl _ _) (lnew wr none 0 0 0 0 0 0 0 0 0)) (below_drew _)
    have HW1S : Hid ((wr.alloc (.cells #[.slice none 0 0, .int .i64 0, .int .i64 0, .int .i64 0, .int .u64 0, .int .u64 0, .int .i64 0, .int .i64 0] 29)).drew.heap.size = wr.heap.size + 1) := by show _ = _; simp [World.drew]
    have HPP : Hid (pl < wr.heap.size) := HL.out.lm.lt
    have HLZ0 : Hid (Lm (wr.alloc (.cells #[.slice none 0 0, .int .i64 0, .int .i64 0, .int .i64 0, .int .u64 0, .int .u64 0, .int .i64 0, .int .i64 0] 29)).drew wr.heap.size none 0 0 0 0 0 0 0 0 0) := (Lm.new wr none 0 0 0 0 0 0 0 0 0).kept (below_drew _)
    have e0 := HL.out.lm.c0
    have e1 := HL.out.lm.c1
    have e2 := HL.out.lm.c2
    have e3 := HL.out.lm.c3
    have e4 := HL.out.lm.c4
    have e5 := HL.out.lm.c5
    have e6 := HL.out.lm.c6
    have e7 := HL.out.lm.c7
    go_upto_region 10 with fail
    go_cut [12, 13, 14] from 35 to 146 (fun v10 v11 v12 wx => ∃ (pz : Nat) (a1 : Option Addr) (c1 : Nat), v10 = .pointer (some ⟨pz, 0, none⟩) ∧ v11 = .int .i64 gv ∧ v12 = .int .u64 av ∧ Hid (Lm wx pz a1 32 c1 S0 C1 N1 D1 E1 s1 n1) ∧ Hid (Vs wx (fun x => x ≠ pl ∧ v.ownBlock ≠ some x) a1 32 c1 k0) ∧ Hid (Bw wr wx) ∧ Hid (pz ≠ pl))
    case first =>
      go_region_held3 (fun wx => wx.cell? ⟨pl, 0, none⟩ = some (.slice a 32 c) ∧ wx.cell? ⟨pl, 1, none⟩ = some (.int .i64 S0) ∧ wx.cell? ⟨pl, 2, none⟩ = some (.int .i64 C) ∧ wx.cell? ⟨pl, 3, none⟩ = some (.int .i64 N) ∧ wx.cell? ⟨pl, 4, none⟩ = some (.int .u64 D) ∧ wx.cell? ⟨pl, 5, none⟩ = some (.int .u64 E) ∧ wx.cell? ⟨pl, 6, none⟩ = some (.int .i64 s) ∧ wx.cell? ⟨pl, 7, none⟩ = some (.int .i64 n) ∧ wx.cell? ⟨b, off + j * 7, none⟩ = some (.int .i64 kd) ∧ wx.cell? ⟨b, off + j * 7 + 1, none⟩ = some (.int .i64 G) ∧ wx.cell? ⟨b, off + j * 7 + 2, none⟩ = some (.int .i64 B) ∧ wx.cell? ⟨b, off + j * 7 + 3, none⟩ = some (.int .u64 X) ∧ wx.cell? ⟨b, off + j * 7 + 4, none⟩ = some (.int .u64 Y) ∧ wx.cell? ⟨b, off + j * 7 + 5, none⟩ = some (.int .i64 T) ∧ wx.cell? ⟨b, off + j * 7 + 6, none⟩ = some (.int .i64 U)) (go_keep) (first | (go_at_call 9; refine (kx _ BW0).mono ?_; rintro en y5 ⟨a1, c1, rfl, v1, g1⟩; have G1 := Bw.on BW0 g1; have i0 := Bw.cell G1 e0; have i1 := Bw.cell G1 e1; have i2 := Bw.cell G1 e2; have i3 := Bw.cell G1 e3; have i4 := Bw.cell G1 e4; have i5 := Bw.cell G1 e5; have i6 := Bw.cell G1 e6; have i7 := Bw.cell G1 e7; have h0 := Bw.cell G1 o0; have h1 := Bw.cell G1 o1; have h2 := Bw.cell G1 o2; have h3 := Bw.cell G1 o3; have h4 := Bw.cell G1 o4; have h5 := Bw.cell G1 o5; have h6 := Bw.cell G1 o6; have HV1 := hid v1; have HG1 := hid g1; clear v1 g1) | (go_at_call 9; refine (kx _ BW1).mono ?_; rintro en y5 ⟨a1, c1, rfl, v1, g1⟩; have G1 := Bw.on BW1 g1; have i0 := Bw.cell G1 e0; have i1 := Bw.cell G1 e1; have i2 := Bw.cell G1 e2; have i3 := Bw.cell G1 e3; have i4 := Bw.cell G1 e4; have i5 := Bw.cell G1 e5; have i6 := Bw.cell G1 e6; have i7 := Bw.cell G1 e7; have h0 := Bw.cell G1 o0; have h1 := Bw.cell G1 o1; have h2 := Bw.cell G1 o2; have h3 := Bw.cell G1 o3; have h4 := Bw.cell G1 o4; have h5 := Bw.cell G1 o5; have h6 := Bw.cell G1 o6; have HV1 := hid v1; have HG1 := hid g1; have G8 : Bw wr _ := set8_bel (g := wr.heap.size) G1 (Nat.le_refl _) (.slice a1 32 c1) (.int .i64 S0) (.int .i64 C1) (.int .i64 N1) (.int .u64 D1) (.int .u64 E1) (.int .i64 s1) (.int .i64 n1); have j0 := Bw.cell G8 e0; have j1 := Bw.cell G8 e1; have j2 := Bw.cell G8 e2; have j3 := Bw.cell G8 e3; have j4 := Bw.cell G8 e4; have j5 := Bw.cell G8 e5; have j6 := Bw.cell G8 e6; have j7 := Bw.cell G8 e7; have l0 := Bw.cell G8 o0; have l1 := Bw.cell G8 o1; have l2 := Bw.cell G8 o2; have l3 := Bw.cell G8 o3; have l4 := Bw.cell G8 o4; have l5 := Bw.cell G8 o5; have l6 := Bw.cell G8 o6; have HLZ := hid (HLZ0.out.kept g1); have zc0 := HLZ.out.c0; have zf0 := HLZ.out.fz 0; have zc1 := HLZ.out.c1; have zf1 := HLZ.out.fz 1; have zc2 := HLZ.out.c2; have zf2 := HLZ.out.fz 2; have zc3 := HLZ.out.c3; have zf3 := HLZ.out.fz 3; have zc4 := HLZ.out.c4; have zf4 := HLZ.out.fz 4; have zc5 := HLZ.out.c5; have zf5 := HLZ.out.fz 5; have zc6 := HLZ.out.c6; have zf6 := HLZ.out.fz 6; have zc7 := HLZ.out.c7; have zf7 := HLZ.out.fz 7; clear v1 g1))
      · go_wp2_with fail
        go_meet
        exact ⟨y5.heap.size, a1, c1, rfl, rfl, rfl, Lm.new y5 a1 32 c1 S0 C1 N1 D1 E1 s1 n1, (HV1.out.wide (V' := fun x => x ≠ pl ∧ v.ownBlock ≠ some x) fun x _ hx => hx.1).step fun x hx _ _ => (lnew y5 a1 32 c1 S0 C1 N1 D1 E1 s1 n1).block x hx, Bw.on (Bw.on BW0 HG1.out) (lnew y5 a1 32 c1 S0 C1 N1 D1 E1 s1 n1), by have h1 := HPP.out; have h2 := Below.size (Bw.on BW0 HG1.out); show y5.heap.size ≠ pl; omega⟩
      · go_wp2_with fail
        go_meet
        exact ⟨wr.heap.size, a1, c1, rfl, rfl, rfl, HLZ.out.set8 a1 32 c1 S0 C1 N1 D1 E1 s1 n1, (HV1.out.step fun x _ hx _ => set8_other (by have h1 := HW1S.out; omega) _ _ _ _ _ _ _ _).wide fun x _ hx => hx.1, set8_bel (Bw.on BW1 HG1.out) (Nat.le_refl _) _ _ _ _ _ _ _ _, by have h1 := HPP.out; show wr.heap.size ≠ pl; omega⟩
    obtain ⟨pz, a1, c1, rfl, rfl, rfl, HZ5, HV5, HB5, HPZ⟩ := hcut

    have HL5 := hid (HL.out.on HB5.out)
    clear kx BW0 BW1 HW1S HLZ0 e0 e1 e2 e3 e4 e5 e6 e7 o0 o1 o2 o3 o4 o5 o6
    go_upto_region 11 with fail
    have HC5 := hid (HC.out.on HB5.out)
    have F := HF.out
    have HCR0 : Hid (C1 = C → Cr w wc pl pz v xs a c k0 S0 C N D E s n a1 c1 C1 N1 D1 E1 s1 n1) := fun e => ⟨HC5.out.lh, HZ5.out, HC5.out.row, HC5.out.ne, HV5.out, fun x hx => by have h1 := HC5.out.lt x hx; have h2 := (HF.out.same e).2; simp only at h2; omega⟩
    have HCX : Hid (C1 ≠ C → kd ≠ 1 → X < E1) := fun h1 h2 => by
      have h := nx_ceil (kd := kd) (G := G) (B := B) (Y := Y) HC5.out.lh.ok HC5.out.lh.D HC5.out.lh.E HC5.out.lh.s HC5.out.lh.n HOX.out.X HOX.out.T HOX.out.U (by rw [HNX.out]; exact h1) h2
      rw [HNX.out] at h
      exact h
    have e2 := HZ5.out.c2
    have f2 := HC5.out.lh.lm.c2
    obtain ⟨qq, hqq⟩ : ∃ z, (C1 != C) = z := ⟨_, rfl⟩
    go_upto_if 59 with fail
    clear e2 f2
    have HQQ := hid hqq
    clear hqq F
    go_cut [10] from 35 to 146 (fun u wx => ∃ (v1 : Value) (xs1 : List Int), v1 = u ∧ Hid (xs1.length ≤ 2 * j + 1 ∧ Cr w wx pl pz v1 xs1 a c k0 S0 C N D E s n a1 c1 C1 N1 D1 E1 s1 n1))
    case first =>
      cases qq with
      | false =>
        have hCC : C1 = C := by simpa using HQQ.out
        have hx2 : xs.length ≤ 2 * j + 1 := by omega
        have HCR1 := hid (HCR0.out hCC)
        have HXX := hid hx2
        clear hCC hx2
        go_wp2_with fail
        go_meet
        exact ⟨v, xs, rfl, HXX.out, HCR1.out⟩
      | true =>
        have HNC : Hid (C1 ≠ C) := by have h := HQQ.out; show _ ≠ _; simpa using h
        have o0 := HB5.out.cell HO0.out
        have o3 := HB5.out.cell HO3.out
        have HCN : Hid (Cr w wc pl pz (.slice none 0 0) [] a c k0 S0 C N D E s n a1 c1 C1 N1 D1 E1 s1 n1) := ⟨HC5.out.lh, HZ5.out, uo_nil _ _, by simp [Value.ownBlock], HV5.out.wide fun x _ hx => ⟨hx.1, by simp [Value.ownBlock]⟩, fun x hx => by cases hx⟩
        by_cases hk1 : kd = 1
        · have hb1 : (kd != 1) = false := by rw [hk1]; rfl
          clear hk1
          go_wp2_with fail
          go_meet
          exact ⟨_, [], rfl, by simp, HCN.out⟩
        · have hb1 : (kd != 1) = true := bne_iff_ne.2 hk1
          have HX1 := hid (HCX.out HNC.out hk1)
          clear hk1
          go_wp2_with (at_builtin; refine wpList_appU (w0 := w) (wr := wc) rfl _ _ rfl (.slice none 0 0) [] X rfl (uo_nil _ _) rfl (by simp) HC5.out.lh.bel.size ?_; intro v' w7 hu hg hs hy; have HU := hid hu; have HG := hid hg; have HY := hid hy; clear hu hg hs hy)
          go_meet
          refine ⟨v', [X], rfl, by simp, ?_⟩
          have hb : Below wc.heap.size wc w7 := ⟨HG.out.os, HG.out.tape, HG.out.output, HG.out.size, fun i hi => HG.out.block i hi (by simp [Value.ownBlock])⟩
          have hge : ∀ y, v'.ownBlock = some y → wc.heap.size ≤ y := fun y e => by rcases HY.out y e with h1 | h1; simp [Value.ownBlock] at h1; exact h1
          exact ⟨HC5.out.lh.on hb, HZ5.out.kept hb, HU.out, fun e => by have h1 := hge _ e; have h2 := HC5.out.lh.lm.lt; omega, (HV5.out.andLt17.step fun x hx _ _ => hb.block x hx).wide fun x _ hx => ⟨hx.1.1, fun e => by have h1 := hge _ e; have h2 := hx.2; omega⟩, fun x hx => by have h1 := List.mem_singleton.1 hx; have h2 := HX1.out; omega⟩
    obtain ⟨v1, xs1, rfl, HCR⟩ := hcut
    clear HC5 HZ5 HV5 HB5 HCR0 HCX HQQ HL5
    have HQ6 := hid (HCR.out.2.take HF.out.ok HF.out.D HF.out.E HF.out.s HF.out.n)
    have e0 := HCR.out.2.z.c0
    have e1 := HCR.out.2.z.c1
    have e2 := HCR.out.2.z.c2
    have e3 := HCR.out.2.z.c3
    have e4 := HCR.out.2.z.c4
    have e5 := HCR.out.2.z.c5
    have e6 := HCR.out.2.z.c6
    have e7 := HCR.out.2.z.c7
    obtain ⟨w6, HW6⟩ : ∃ y, Hid (wc.setRow pl #[.slice a1 32 c1, .int .i64 S0, .int .i64 C1, .int .i64 N1, .int .u64 D1, .int .u64 E1, .int .i64 s1, .int .i64 n1] = y) := ⟨_, rfl⟩
    rw [HW6.out] at HQ6
    go_upto_region 16 with (refine wpList_sln rfl rfl _ _ rfl pl a1 32 c1 S0 C1 N1 D1 E1 s1 n1 rfl rfl (by with_reducible exact HCR.out.2.lh.lm) ?_)
    rw [HW6.out]
    have HXL : Hid (xs1.length ≤ 2 * j + 1) := HCR.out.1
    clear HW6 HCR e0 e1 e2 e3 e4 e5 e6 e7
    have hopw : OpAt w b (off + j * 7) ⟨kd, G, B, X, Y, T, U⟩ := by
      rcases HO.out.at' with h0 | ⟨b', off', e, hc'⟩
      · omega
      · obtain ⟨rfl, rfl⟩ : b = b' ∧ off = off' := by simpa using e
        have h := hc' j hlt
        rw [HX.out] at h
        exact h
    have HOB := hid hopw.1.2.2.1
    have hB64 := HOX.out.B
    have hX64 := HOX.out.X
    simp only at HOB hB64
    clear hopw HO0 HO1 HO2 HO3 HPP HNX HGV HAV
    obtain ⟨cj, Hcj⟩ : ∃ z, Hid (cs.getD j 0 = z) := ⟨_, rfl⟩
    have HCJ : Hid (j < nc → u64r cj ∧ ∃ bc oc, ac = some ⟨bc, oc, none⟩ ∧ w.cell? ⟨bc, oc + j, none⟩ = some (.int .u64 cj)) := fun h => by
      refine ⟨by have h1 := HCS.out.ok j h; rw [Hcj.out] at h1; exact h1, ?_⟩
      rcases HCS.out.at' with h0 | ⟨bc, oc, e, hc⟩
      · omega
      · have h1 := hc j h
        rw [Hcj.out] at h1
        exact ⟨bc, oc, e, h1⟩
    obtain ⟨qt, Hqt⟩ : ∃ z, Hid (decide (j < nc ∧ cj ≤ 18446744073709551614 ∧ 1 ≤ B ∧ B ≤ 1048576) = z) := ⟨_, rfl⟩
    go_cut [104] from 35 to 146 (fun u wx => u = .bool qt ∧ wx = w6)
    case first =>
      by_cases hjc : j < nc
      case neg =>
        have hjcI : ¬ (j : Int) < nc := by omega
        obtain rfl : false = qt := by rw [← Hqt.out]; exact (decide_eq_false (by omega)).symm
        go_wp2_with fail
        go_meet
        exact ⟨rfl, rfl⟩
      have hjcI : (j : Int) < nc := by omega
      obtain ⟨hr, bc, oc, rfl, hcm⟩ := HCJ.out hjc
      have cm := cell_on17 hcm HQ6.out.lh.bel
      have ob := cell_on17 HOB.out HQ6.out.lh.bel
      have HR := hid hr
      clear hcm hr
      by_cases h1 : cj ≤ 18446744073709551614
      case neg =>
        obtain rfl : false = qt := by rw [← Hqt.out]; exact (decide_eq_false (by omega)).symm
        go_wp2_with fail
        go_meet
        exact ⟨rfl, rfl⟩
      by_cases h2 : 1 ≤ B
      case neg =>
        obtain rfl : false = qt := by rw [← Hqt.out]; exact (decide_eq_false (by omega)).symm
        go_wp2_with fail
        go_meet
        exact ⟨rfl, rfl⟩
      by_cases h3 : B ≤ 1048576
      case neg =>
        obtain rfl : false = qt := by rw [← Hqt.out]; exact (decide_eq_false (by omega)).symm
        go_wp2_with fail
        go_meet
        exact ⟨rfl, rfl⟩
      obtain rfl : true = qt := by rw [← Hqt.out]; exact (decide_eq_true ⟨hjc, h1, h2, h3⟩).symm
      go_wp2_with fail
      go_meet
      exact ⟨rfl, rfl⟩
    obtain ⟨rfl, hwc⟩ := hcut
    obtain rfl := hwc.symm
    go_upto_if 104 with fail
    go_cut [10] from 35 to 146 (fun u wx => ∃ (v2 : Value) (xs2 : List Int) (a2 : Option Addr) (c2 : Nat) (E2 : Int), v2 = u ∧ Hid (xs2.length ≤ 2 * j + 2 ∧ Cq w wx pl v2 xs2 a2 c2 k0 S0 C1 N1 D1 E2 s1 n1))
    case first =>
      cases qt with
      | false =>
        go_wp2_with fail
        go_meet
        exact ⟨v1, xs1, a1, c1, E1, rfl, by have := HXL.out; omega, HQ6.out⟩
      | true =>
        obtain ⟨hjc, h1, h2, h3⟩ := of_decide_eq_true Hqt.out
        have hjcI : (j : Int) < nc := by omega
        obtain ⟨hr, bc, oc, rfl, hcm⟩ := HCJ.out hjc
        have HR := hid hr
        have HCM := hid hcm
        have A1 := hid (cell_on17 hcm HQ6.out.lh.bel)
        have A2 := hid HQ6.out.lh.lm.c5
        have HXS : Hid (xs1.length ≤ 100000) := by have h5 := HXL.out; show _ ≤ _; omega
        clear hcm hr
        by_cases hce : E1 ≤ cj
        · have hcd : decide (E1 ≤ cj) = true := decide_eq_true hce
          have hbk : blk B = true := decide_eq_true ⟨h2, h3⟩
          have HUU := hid (upN_up (c := cj) hbk h1)
          have HU64 := hid (upN_u64 B HR.out)
          have hc0 : (C1 == 0) = false := beq_eq_false_iff_ne.2 (by have h7 := (lokL_of HQ6.out.lh.ok).2.2.2.1; simp only at h7; omega)
          obtain ⟨UP, HUP⟩ : ∃ z, Hid (upN cj B = z) := ⟨_, rfl⟩
          rw [HUP.out] at HUU HU64
          have eR : rseL ⟨k0, S0, C1, N1, D1, E1, s1, n1⟩ cj B = ⟨k0, S0, C1, N1, D1, UP, s1, n1⟩ := by
            unfold rseL rseB
            rw [HQ6.out.lh.ok, hbk, decide_eq_true ⟨hce, h1⟩, HUP.out]
            rfl
          go_wp2_with fail
          refine wp_quietC (Bw w6) (by kernel_rfl) (by kernel_rfl) (Bw.drew w6) ?_
          repeat (first | go_big_quiet_skip | (go_big_quiet_want; go_big_quiet_op; first | go_big_quiet_on | (apply Exists.intro; refine ⟨fun wq hq => ?_, ?_⟩; (· first | (with_reducible rfl) | (have q1 := hq.cell A1.out; have q2 := hq.cell A2.out; go_simp; rfl) | rfl); go_big_quiet_on)))
          refine wpQuiet_nil ?_
          intro w8 s8
          have HQ8 := hid (HQ6.out.on s8)
          have kr : ∀ wx, Bw w8 wx → Calls Try.prog 15 #[.agg #[.slice a1 32 c1, .int .i64 S0, .int .i64 C1, .int .i64 N1, .int .u64 D1, .int .u64 E1, .int .i64 s1, .int .i64 n1], .int .u64 cj, .int .i64 B] wx fun e w' => ∃ ar cr, e = .returned (.agg #[.slice ar 32 cr, .int .i64 S0, .int .i64 C1, .int .i64 N1, .int .u64 D1, .int .u64 UP, .int .i64 s1, .int .i64 n1]) ∧ Vs w' (fun x => wx.heap.size ≤ x) ar 32 cr k0 ∧ Below wx.heap.size wx w' := fun wx hb => (ll.raise a1 32 c1 k0 S0 C1 N1 D1 E1 s1 n1 cj B wx (HQ8.out.lh.li.on hb) HR.out hB64).mono fun e w' hy => hy.use eR hq1
          have cm := cell_on17 HCM.out HQ8.out.lh.bel
          have ob := cell_on17 HOB.out HQ8.out.lh.bel
          have BW0 : Bw w8 { w8 with drawn := w8.drawn + 1 } := Bw.drew w8
          have HCE := hid hce
          have e0 := HQ8.out.lh.lm.c0
          have e1 := HQ8.out.lh.lm.c1
          have e2 := HQ8.out.lh.lm.c2
          have e3 := HQ8.out.lh.lm.c3
          have e4 := HQ8.out.lh.lm.c4
          have e5 := HQ8.out.lh.lm.c5
          have e6 := HQ8.out.lh.lm.c6
          have e7 := HQ8.out.lh.lm.c7
          clear s8 hce hcd A1 A2
          go_upto_region 18 with fail
          go_cut [10] from 35 to 146 (fun u wx => ∃ (ar : Option Addr) (cr : Nat), v1 = u ∧ Hid (Cq w wx pl v1 xs1 ar cr k0 S0 C1 N1 D1 UP s1 n1))
          case first =>
            go_region_with (first | (go_at_call 15; refine (kr _ BW0).mono ?_; rintro en y9 ⟨ar, cr, rfl, v9, g9⟩; have G9 := Bw.on BW0 g9; have HP9 := hid (HQ8.out.lh.lm.kept G9); have zc0 := HP9.out.c0; have zf0 := HP9.out.fz 0; have zc1 := HP9.out.c1; have zf1 := HP9.out.fz 1; have zc2 := HP9.out.c2; have zf2 := HP9.out.fz 2; have zc3 := HP9.out.c3; have zf3 := HP9.out.fz 3; have zc4 := HP9.out.c4; have zf4 := HP9.out.fz 4; have zc5 := HP9.out.c5; have zf5 := HP9.out.fz 5; have zc6 := HP9.out.c6; have zf6 := HP9.out.fz 6; have zc7 := HP9.out.c7; have zf7 := HP9.out.fz 7; have HV9 := hid v9; have HG9 := hid G9; clear v9 g9) | fail)
            all_goals (
              go_wp2_with fail
              go_meet
              exact ⟨ar, cr, rfl, HQ8.out.raise HG9.out (HP9.out.set8 ar 32 cr S0 C1 N1 D1 UP s1 n1) (fun x hx => set8_other hx (.slice ar 32 cr) (.int .i64 S0) (.int .i64 C1) (.int .i64 N1) (.int .u64 D1) (.int .u64 UP) (.int .i64 s1) (.int .i64 n1)) (set8_bel (Below.refl 0 y9) (Nat.zero_le _) (.slice ar 32 cr) (.int .i64 S0) (.int .i64 C1) (.int .i64 N1) (.int .u64 D1) (.int .u64 UP) (.int .i64 s1) (.int .i64 n1)) (set8_bel (bel_bel HQ8.out.lh.bel HQ8.out.lh.bel.size HG9.out) HQ8.out.lh.ge (.slice ar 32 cr) (.int .i64 S0) (.int .i64 C1) (.int .i64 N1) (.int .u64 D1) (.int .u64 UP) (.int .i64 s1) (.int .i64 n1)) HV9.out HU64.out (by have h8 := HUU.out; have h9 := HCE.out; omega)⟩)
          obtain ⟨ar, cr, hvu, HQR⟩ := hcut
          subst hvu
          have cm := cell_on17 HCM.out HQR.out.lh.bel
          have l2 := HQR.out.lh.lm.c2
          clear HQ8 kr BW0 e0 e1 e2 e3 e4 e5 e6 e7 ob
          go_wp2_with (at_builtin; refine wpList_appU (w0 := w) (wr := wc) rfl _ _ rfl v1 xs1 cj rfl HQR.out.row rfl HXS.out HQR.out.lh.bel.size ?_; intro v' w9 hu hg hs hy; have HU := hid hu; have HG := hid hg; have HY := hid hy; clear hu hg hs hy)
          go_meet
          exact ⟨v', xs1 ++ [cj], ar, cr, UP, rfl, by have := HXL.out; simp; omega, HQR.out.app HU.out HG.out HY.out HUU.out⟩
        · have hce1 : cj < E1 := by omega
          have hcd : decide (E1 ≤ cj) = false := decide_eq_false hce
          go_wp2_with fail
          refine wp_quietC (Bw w6) (by kernel_rfl) (by kernel_rfl) (Bw.drew w6) ?_
          repeat (first | go_big_quiet_skip | (go_big_quiet_want; go_big_quiet_op; first | go_big_quiet_on | (apply Exists.intro; refine ⟨fun wq hq => ?_, ?_⟩; (· first | (with_reducible rfl) | (have q1 := hq.cell A1.out; have q2 := hq.cell A2.out; go_simp; rfl) | rfl); go_big_quiet_on)))
          refine wpQuiet_nil ?_
          intro w8 s8
          have HQ8 := hid (HQ6.out.on s8)
          have cm := cell_on17 HCM.out HQ8.out.lh.bel
          have HCE := hid hce1
          clear s8 hce hcd hce1
          go_wp2_with (at_builtin; refine wpList_appU (w0 := w) (wr := w8) rfl _ _ rfl v1 xs1 cj rfl HQ8.out.row rfl HXS.out HQ8.out.lh.bel.size ?_; intro v' w9 hu hg hs hy; have HU := hid hu; have HG := hid hg; have HY := hid hy; clear hu hg hs hy)
          go_meet
          exact ⟨v', xs1 ++ [cj], a1, c1, E1, rfl, by have := HXL.out; simp; omega, HQ8.out.app HU.out HG.out HY.out HCE.out⟩
    obtain ⟨v2, xs2, a2, c2, E2, rfl, HQ7⟩ := hcut
    clear HQ6 HXL
    obtain ⟨av, cv, rfl, hf⟩ := HQ7.out.2.row.form
    obtain ⟨L2, hL2⟩ : ∃ z, xs2.length = z := ⟨_, rfl⟩
    have HXF : Hid (L2 = 0 ∨ ∃ b, av = some ⟨b, 0, none⟩ ∧ ∀ i, i < L2 → wc.cell? ⟨b, i, none⟩ = some (.int .u64 (xs2.getD i 0))) := by rw [hL2] at hf; exact hf
    have HL2 := hid hL2
    have HQ9 := hid HQ7.out.2
    have hL3 : L2 ≤ 100000 := by have h5 := HQ7.out.1; omega
    rw [hL2] at HQ9
    rw [hL2]
    have HLE : Hid (xs2.length ≤ 2 * (j + 1)) := by have h5 := HQ7.out.1; show _ ≤ _; omega
    clear hf hL2 HQ7
    obtain ⟨wo, Hwo⟩ : ∃ z, Hid (wc = z) := ⟨_, rfl⟩
    rw [Hwo.out] at HXF HQ9
    rw [Hwo.out]
    clear Hwo HC HL
    go_wp2_with fail
    go_loopw [15] (fun i wr2 => ∃ t : Nat, t ≤ L2 ∧ i = .int .i64 t ∧ Hid (Below wo.heap.size wo wr2)) (fun i _ => L2 - (intOf i).toNat)
    case atStart => exact ⟨0, by omega, rfl, Below.refl _ _⟩
    case round =>
      obtain ⟨t, ht, rfl, HBT⟩ := hrel
      by_cases htl : t < L2
      · have htI : (t : Int) < L2 := by omega
        obtain ⟨b2, rfl, hcx⟩ : ∃ b, av = some ⟨b, 0, none⟩ ∧ ∀ i, i < L2 → wo.cell? ⟨b, i, none⟩ = some (.int .u64 (xs2.getD i 0)) := by
          rcases HXF.out with h0 | h0
          · omega
          · exact h0
        have hy : xs2.getD t 0 < E2 := HQ9.out.lt _ (by have h6 := HL2.out; rw [show xs2.getD t 0 = xs2[t]'(by omega) from by simp [List.getD, show t < xs2.length by omega]]; exact List.getElem_mem _)
        have hcy := hcx t htl
        obtain ⟨y, Hy⟩ : ∃ z, Hid (xs2.getD t 0 = z) := ⟨_, rfl⟩
        rw [Hy.out] at hy hcy
        have A1 := hid (cell_on17 hcy HBT.out)
        have A2 := hid (cell_on17 HQ9.out.lh.lm.c5 HBT.out)
        have hdy : decide (E2 ≤ y) = false := decide_eq_false (by omega)
        have hny : ¬ E2 ≤ y := by omega
        have HHY := hid hy
        clear hcx hcy hy
        obtain ⟨wi2, Hwi⟩ : ∃ z, Hid (_ = z) := ⟨wr, rfl⟩
        clear Hwi wi2
        go_wp2_with fail
        refine wp_quietC (Bw wr) (by kernel_rfl) (by kernel_rfl) (Bw.drew wr) ?_
        repeat (first | go_big_quiet_skip | (go_big_quiet_want; go_big_quiet_op; first | go_big_quiet_on | (apply Exists.intro; refine ⟨fun wq hq => ?_, ?_⟩; (· first | (with_reducible rfl) | (have q1 := hq.cell A1.out; have q2 := hq.cell A2.out; go_simp; rfl) | rfl); go_big_quiet_on)))
        refine wpQuiet_nil ?_
        intro w8 s8
        have HB8 : Hid (Below wo.heap.size wo w8) := bel_bel HBT.out HBT.out.size s8
        clear s8 A1 A2
        go_wp2_with fail
        go_roundw
        case rel => exact ⟨t + 1, by omega, by go_num, HB8⟩
        case measure => simp [intOf]; omega
      · have htI : ¬ (t : Int) < L2 := by omega
        have HQX := hid (HQ9.out.on HBT.out)
        have HLX : Hid (xs2.length ≤ 2 * (j + 1)) := HLE.out
        clear htl HQ9 HBT HXF
        go_wp2_with fail
        go_roundw
        case rel => exact ⟨_, j + 1, xs2, a2, c2, C1, N1, D1, E2, s1, n1, rfl, by omega, by go_num, HLX.out, HQX⟩
        case measure => simp [intOf]; omega
end Go.Proofs.Ytmbopaemnlikkaa
