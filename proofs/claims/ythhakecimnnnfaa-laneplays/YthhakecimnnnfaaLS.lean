import Derived.Test.YthhakecimnnnfaaLN0
import Derived.Test.YthhakecimnnnfaaLC
import Derived.Deep.RegionHeld
namespace Go.Proofs.Ythhakecimnnnfaa
set_option maxRecDepth 100000
open Go.RowKit
set_option linter.unusedVariables false

/-- What step answers: the lane that was, or a new one; and true. -/
def Sx (w : World) (a : Option Addr) (c : Nat) (l : Ln) (kd G B X Y T U : Int) (e : Ending) (w' : World) : Prop := ∃ a' c', e = .returned (.tuple #[.agg #[.slice a' (nxL l kd G B X Y T U).k.length c', .int .i64 (nxL l kd G B X Y T U).S, .int .i64 (nxL l kd G B X Y T U).C, .int .i64 (nxL l kd G B X Y T U).N, .int .u64 (nxL l kd G B X Y T U).D, .int .u64 (nxL l kd G B X Y T U).E, .int .i64 (nxL l kd G B X Y T U).s, .int .i64 (nxL l kd G B X Y T U).n], .bool true]) ∧ Below w.heap.size w w' ∧ (((nxL l kd G B X Y T U) = l ∧ a' = a ∧ c' = c) ∨ Vs w' (fun x => w.heap.size ≤ x) a' (nxL l kd G B X Y T U).k.length c' (nxL l kd G B X Y T U).k)
theorem slE_self (k : List Int) (S C N D E s n : Int) : slE k k S C N D E s n S C N D E s n = true := by simp [slE]
theorem Nm.alN {w : World} {p : Nat} {G B X Y T U : Int} (h : Nm w p G B X Y T U) {g : Nat} {ds : Array Value} (hn : p ≠ g) : Nm (w.setRow g ds) p G B X Y T U := h.at (setRow_other _ _ _ _ hn)
theorem heap_drewS (w : World) (j : Nat) : w.drew.heap[j]? = w.heap[j]? := rfl
theorem Lm.drewS {w : World} {g : Nat} {a : Option Addr} {m c : Nat} {S C N D E s n : Int} (h : Lm w g a m c S C N D E s n) : Lm w.drew g a m c S C N D E s n := h
theorem two_other {w : World} {g h j : Nat} (h1 : j ≠ g) (h2 : j ≠ h) (v0 v1 v2 v3 v4 v5 v6 v7 u0 u1 u2 u3 u4 u5 u6 u7 : Value) : ((((((((((((((((w.setCell ⟨g, 0, none⟩ v0).setCell ⟨g, 1, none⟩ v1).setCell ⟨g, 2, none⟩ v2).setCell ⟨g, 3, none⟩ v3).setCell ⟨g, 4, none⟩ v4).setCell ⟨g, 5, none⟩ v5).setCell ⟨g, 6, none⟩ v6).setCell ⟨g, 7, none⟩ v7).setCell ⟨h, 0, none⟩ u0).setCell ⟨h, 1, none⟩ u1).setCell ⟨h, 2, none⟩ u2).setCell ⟨h, 3, none⟩ u3).setCell ⟨h, 4, none⟩ u4).setCell ⟨h, 5, none⟩ u5).setCell ⟨h, 6, none⟩ u6).setCell ⟨h, 7, none⟩ u7).drew.heap[j]? = w.heap[j]? := (heap_drewS _ _).trans ((set8_other h2 u0 u1 u2 u3 u4 u5 u6 u7).trans (set8_other h1 v0 v1 v2 v3 v4 v5 v6 v7))
theorem two_bel {B g h : Nat} {a w : World} (hb : Below B a w) (h1 : B ≤ g) (h2 : B ≤ h) (v0 v1 v2 v3 v4 v5 v6 v7 u0 u1 u2 u3 u4 u5 u6 u7 : Value) : Below B a ((((((((((((((((w.setCell ⟨g, 0, none⟩ v0).setCell ⟨g, 1, none⟩ v1).setCell ⟨g, 2, none⟩ v2).setCell ⟨g, 3, none⟩ v3).setCell ⟨g, 4, none⟩ v4).setCell ⟨g, 5, none⟩ v5).setCell ⟨g, 6, none⟩ v6).setCell ⟨g, 7, none⟩ v7).setCell ⟨h, 0, none⟩ u0).setCell ⟨h, 1, none⟩ u1).setCell ⟨h, 2, none⟩ u2).setCell ⟨h, 3, none⟩ u3).setCell ⟨h, 4, none⟩ u4).setCell ⟨h, 5, none⟩ u5).setCell ⟨h, 6, none⟩ u6).setCell ⟨h, 7, none⟩ u7).drew := (set8_bel (set8_bel hb h1 v0 v1 v2 v3 v4 v5 v6 v7) h2 u0 u1 u2 u3 u4 u5 u6 u7).drew
theorem two_a {w : World} {g h : Nat} {a0 : Option Addr} {m0 c0 : Nat} {S0 C0 N0 D0 E0 s0 n0 : Int} (hl : Lm w g a0 m0 c0 S0 C0 N0 D0 E0 s0 n0) (hn : g ≠ h) (a b : Option Addr) (m c d : Nat) (S C N D E s n : Int) : Lm ((((((((((((((((w.setCell ⟨g, 0, none⟩ (.slice a m c)).setCell ⟨g, 1, none⟩ (.int .i64 S)).setCell ⟨g, 2, none⟩ (.int .i64 C)).setCell ⟨g, 3, none⟩ (.int .i64 N)).setCell ⟨g, 4, none⟩ (.int .u64 D)).setCell ⟨g, 5, none⟩ (.int .u64 E)).setCell ⟨g, 6, none⟩ (.int .i64 s)).setCell ⟨g, 7, none⟩ (.int .i64 n)).setCell ⟨h, 0, none⟩ (.slice b m d)).setCell ⟨h, 1, none⟩ (.int .i64 S)).setCell ⟨h, 2, none⟩ (.int .i64 C)).setCell ⟨h, 3, none⟩ (.int .i64 N)).setCell ⟨h, 4, none⟩ (.int .u64 D)).setCell ⟨h, 5, none⟩ (.int .u64 E)).setCell ⟨h, 6, none⟩ (.int .i64 s)).setCell ⟨h, 7, none⟩ (.int .i64 n)).drew g a m c S C N D E s n := ((hl.set8 a m c S C N D E s n).at (set8_other hn (.slice b m d) (.int .i64 S) (.int .i64 C) (.int .i64 N) (.int .u64 D) (.int .u64 E) (.int .i64 s) (.int .i64 n))).drewS
theorem two_b {w : World} {g h : Nat} {a0 : Option Addr} {m0 c0 : Nat} {S0 C0 N0 D0 E0 s0 n0 : Int} (hl : Lm w h a0 m0 c0 S0 C0 N0 D0 E0 s0 n0) (hn : h ≠ g) (a b : Option Addr) (m c d : Nat) (S C N D E s n : Int) : Lm ((((((((((((((((w.setCell ⟨g, 0, none⟩ (.slice a m c)).setCell ⟨g, 1, none⟩ (.int .i64 S)).setCell ⟨g, 2, none⟩ (.int .i64 C)).setCell ⟨g, 3, none⟩ (.int .i64 N)).setCell ⟨g, 4, none⟩ (.int .u64 D)).setCell ⟨g, 5, none⟩ (.int .u64 E)).setCell ⟨g, 6, none⟩ (.int .i64 s)).setCell ⟨g, 7, none⟩ (.int .i64 n)).setCell ⟨h, 0, none⟩ (.slice b m d)).setCell ⟨h, 1, none⟩ (.int .i64 S)).setCell ⟨h, 2, none⟩ (.int .i64 C)).setCell ⟨h, 3, none⟩ (.int .i64 N)).setCell ⟨h, 4, none⟩ (.int .u64 D)).setCell ⟨h, 5, none⟩ (.int .u64 E)).setCell ⟨h, 6, none⟩ (.int .i64 s)).setCell ⟨h, 7, none⟩ (.int .i64 n)).drew h b m d S C N D E s n := ((hl.at (set8_other hn (.slice a m c) (.int .i64 S) (.int .i64 C) (.int .i64 N) (.int .u64 D) (.int .u64 E) (.int .i64 s) (.int .i64 n))).set8 b m d S C N D E s n).drewS
set_option maxHeartbeats 16000000 in
/-- The law's step. -/
theorem step_ (ll : LL) (a : Option Addr) (m c : Nat) (k : List Int) (S C N D E s n kd G B X Y T U : Int) (w : World) (hi : Li w a m k S C N D E s n) (hG : i64r G) (hB : i64r B) (hX : u64r X) (hY : u64r Y) (hT : i64r T) (hU : i64r U) :
    Calls Try.prog 32 #[.agg #[.slice a m c, .int .i64 S, .int .i64 C, .int .i64 N, .int .u64 D, .int .u64 E, .int .i64 s, .int .i64 n], .agg #[.int .i64 kd, .int .i64 G, .int .i64 B, .int .u64 X, .int .u64 Y, .int .i64 T, .int .i64 U]] w fun e w' => Sx w a c ⟨k, S, C, N, D, E, s, n⟩ kd G B X Y T U e w' := by
  have hkl : k.length = m := hi.k.1
  have B1 := lnew w a m c S C N D E s n
  have B2 := bel_al' (w.alloc (.cells #[.slice a m c, .int .i64 S, .int .i64 C, .int .i64 N, .int .u64 D, .int .u64 E, .int .i64 s, .int .i64 n] 27)) (.cells #[.int .i64 kd, .int .i64 G, .int .i64 B, .int .u64 X, .int .u64 Y, .int .i64 T, .int .i64 U] 58)
  have B3 := bel_al' ((w.alloc (.cells #[.slice a m c, .int .i64 S, .int .i64 C, .int .i64 N, .int .u64 D, .int .u64 E, .int .i64 s, .int .i64 n] 27)).alloc (.cells #[.int .i64 kd, .int .i64 G, .int .i64 B, .int .u64 X, .int .u64 Y, .int .i64 T, .int .i64 U] 58)) (.cells #[.slice none 0 0, .int .i64 0, .int .i64 0, .int .i64 0, .int .u64 0, .int .u64 0, .int .i64 0, .int .i64 0] 27)
  have B4 := bel_al' (((w.alloc (.cells #[.slice a m c, .int .i64 S, .int .i64 C, .int .i64 N, .int .u64 D, .int .u64 E, .int .i64 s, .int .i64 n] 27)).alloc (.cells #[.int .i64 kd, .int .i64 G, .int .i64 B, .int .u64 X, .int .u64 Y, .int .i64 T, .int .i64 U] 58)).alloc (.cells #[.slice none 0 0, .int .i64 0, .int .i64 0, .int .i64 0, .int .u64 0, .int .u64 0, .int .i64 0, .int .i64 0] 27)) (.cells #[.int .i64 G, .int .i64 B, .int .u64 X, .int .u64 Y, .int .i64 T, .int .i64 U] 38)
  have B5 := bel_al' ((((w.alloc (.cells #[.slice a m c, .int .i64 S, .int .i64 C, .int .i64 N, .int .u64 D, .int .u64 E, .int .i64 s, .int .i64 n] 27)).alloc (.cells #[.int .i64 kd, .int .i64 G, .int .i64 B, .int .u64 X, .int .u64 Y, .int .i64 T, .int .i64 U] 58)).alloc (.cells #[.slice none 0 0, .int .i64 0, .int .i64 0, .int .i64 0, .int .u64 0, .int .u64 0, .int .i64 0, .int .i64 0] 27)).alloc (.cells #[.int .i64 G, .int .i64 B, .int .u64 X, .int .u64 Y, .int .i64 T, .int .i64 U] 38)) (.cells #[.slice none 0 0, .int .i64 0, .int .i64 0, .int .i64 0, .int .u64 0, .int .u64 0, .int .i64 0, .int .i64 0] 27)
  have B6 := bel_al' (((((w.alloc (.cells #[.slice a m c, .int .i64 S, .int .i64 C, .int .i64 N, .int .u64 D, .int .u64 E, .int .i64 s, .int .i64 n] 27)).alloc (.cells #[.int .i64 kd, .int .i64 G, .int .i64 B, .int .u64 X, .int .u64 Y, .int .i64 T, .int .i64 U] 58)).alloc (.cells #[.slice none 0 0, .int .i64 0, .int .i64 0, .int .i64 0, .int .u64 0, .int .u64 0, .int .i64 0, .int .i64 0] 27)).alloc (.cells #[.int .i64 G, .int .i64 B, .int .u64 X, .int .u64 Y, .int .i64 T, .int .i64 U] 38)).alloc (.cells #[.slice none 0 0, .int .i64 0, .int .i64 0, .int .i64 0, .int .u64 0, .int .u64 0, .int .i64 0, .int .i64 0] 27)) (.cells #[.slice none 0 0, .int .i64 0, .int .i64 0, .int .i64 0, .int .u64 0, .int .u64 0, .int .i64 0, .int .i64 0] 27)
  have HB : Hid (Below w.heap.size w ((((((w.alloc (.cells #[.slice a m c, .int .i64 S, .int .i64 C, .int .i64 N, .int .u64 D, .int .u64 E, .int .i64 s, .int .i64 n] 27)).alloc (.cells #[.int .i64 kd, .int .i64 G, .int .i64 B, .int .u64 X, .int .u64 Y, .int .i64 T, .int .i64 U] 58)).alloc (.cells #[.slice none 0 0, .int .i64 0, .int .i64 0, .int .i64 0, .int .u64 0, .int .u64 0, .int .i64 0, .int .i64 0] 27)).alloc (.cells #[.int .i64 G, .int .i64 B, .int .u64 X, .int .u64 Y, .int .i64 T, .int .i64 U] 38)).alloc (.cells #[.slice none 0 0, .int .i64 0, .int .i64 0, .int .i64 0, .int .u64 0, .int .u64 0, .int .i64 0, .int .i64 0] 27)).alloc (.cells #[.slice none 0 0, .int .i64 0, .int .i64 0, .int .i64 0, .int .u64 0, .int .u64 0, .int .i64 0, .int .i64 0] 27))) := Bw.on (Bw.on (Bw.on (Bw.on (Bw.on (W := w) B1 B2) B3) B4) B5) B6
  have HLl := hid (((((Lm.new w a m c S C N D E s n).kept B2).kept B3).kept B4 |>.kept B5).kept B6)
  have om3 := (Om.new (w.alloc (.cells #[.slice a m c, .int .i64 S, .int .i64 C, .int .i64 N, .int .u64 D, .int .u64 E, .int .i64 s, .int .i64 n] 27)) kd G B X Y T U).kept B3
  have HOo := hid (((om3.kept B4).kept B5).kept B6)
  have HLr := hid ((((Lm.new ((w.alloc (.cells #[.slice a m c, .int .i64 S, .int .i64 C, .int .i64 N, .int .u64 D, .int .u64 E, .int .i64 s, .int .i64 n] 27)).alloc (.cells #[.int .i64 kd, .int .i64 G, .int .i64 B, .int .u64 X, .int .u64 Y, .int .i64 T, .int .i64 U] 58)) none 0 0 0 0 0 0 0 0 0).kept B4).kept B5).kept B6)
  have HNn := hid (((Nm.new (((w.alloc (.cells #[.slice a m c, .int .i64 S, .int .i64 C, .int .i64 N, .int .u64 D, .int .u64 E, .int .i64 s, .int .i64 n] 27)).alloc (.cells #[.int .i64 kd, .int .i64 G, .int .i64 B, .int .u64 X, .int .u64 Y, .int .i64 T, .int .i64 U] 58)).alloc (.cells #[.slice none 0 0, .int .i64 0, .int .i64 0, .int .i64 0, .int .u64 0, .int .u64 0, .int .i64 0, .int .i64 0] 27)) G B X Y T U).kept B5).kept B6)
  have HLa := hid ((Lm.new ((((w.alloc (.cells #[.slice a m c, .int .i64 S, .int .i64 C, .int .i64 N, .int .u64 D, .int .u64 E, .int .i64 s, .int .i64 n] 27)).alloc (.cells #[.int .i64 kd, .int .i64 G, .int .i64 B, .int .u64 X, .int .u64 Y, .int .i64 T, .int .i64 U] 58)).alloc (.cells #[.slice none 0 0, .int .i64 0, .int .i64 0, .int .i64 0, .int .u64 0, .int .u64 0, .int .i64 0, .int .i64 0] 27)).alloc (.cells #[.int .i64 G, .int .i64 B, .int .u64 X, .int .u64 Y, .int .i64 T, .int .i64 U] 38)) none 0 0 0 0 0 0 0 0 0).kept B6)
  have HLb := hid (Lm.new (((((w.alloc (.cells #[.slice a m c, .int .i64 S, .int .i64 C, .int .i64 N, .int .u64 D, .int .u64 E, .int .i64 s, .int .i64 n] 27)).alloc (.cells #[.int .i64 kd, .int .i64 G, .int .i64 B, .int .u64 X, .int .u64 Y, .int .i64 T, .int .i64 U] 58)).alloc (.cells #[.slice none 0 0, .int .i64 0, .int .i64 0, .int .i64 0, .int .u64 0, .int .u64 0, .int .i64 0, .int .i64 0] 27)).alloc (.cells #[.int .i64 G, .int .i64 B, .int .u64 X, .int .u64 Y, .int .i64 T, .int .i64 U] 38)).alloc (.cells #[.slice none 0 0, .int .i64 0, .int .i64 0, .int .i64 0, .int .u64 0, .int .u64 0, .int .i64 0, .int .i64 0] 27)) none 0 0 0 0 0 0 0 0 0)
  rw [World.size_alloc] at om3 HOo
  simp only [World.size_alloc] at HLr HNn HLa HLb
  have o1 := om3.c1
  have o2 := om3.c2
  have o3 := om3.c3
  have o4 := om3.c4
  have o5 := om3.c5
  have o6 := om3.c6
  have HI := hid hi
  clear B1 B2 B3 B4 B5 B6 om3 hi
  obtain ⟨W, HW⟩ : ∃ y, Hid (((((((w.alloc (.cells #[.slice a m c, .int .i64 S, .int .i64 C, .int .i64 N, .int .u64 D, .int .u64 E, .int .i64 s, .int .i64 n] 27)).alloc (.cells #[.int .i64 kd, .int .i64 G, .int .i64 B, .int .u64 X, .int .u64 Y, .int .i64 T, .int .i64 U] 58)).alloc (.cells #[.slice none 0 0, .int .i64 0, .int .i64 0, .int .i64 0, .int .u64 0, .int .u64 0, .int .i64 0, .int .i64 0] 27)).alloc (.cells #[.int .i64 G, .int .i64 B, .int .u64 X, .int .u64 Y, .int .i64 T, .int .i64 U] 38)).alloc (.cells #[.slice none 0 0, .int .i64 0, .int .i64 0, .int .i64 0, .int .u64 0, .int .u64 0, .int .i64 0, .int .i64 0] 27)).alloc (.cells #[.slice none 0 0, .int .i64 0, .int .i64 0, .int .i64 0, .int .u64 0, .int .u64 0, .int .i64 0, .int .i64 0] 27)) = y) := ⟨_, rfl⟩
  obtain ⟨gg, Hg⟩ : ∃ y, Hid (w.heap.size = y) := ⟨_, rfl⟩
  have HWS : Hid (W.heap.size = gg + 6) := by show _ = _; rw [← HW.out, ← Hg.out]; simp
  rw [HW.out] at HB HLl HOo HLr HNn HLa HLb
  rw [Hg.out] at HLl HOo HLr HNn HLa HLb
  replace HLr : Hid (Lm W (gg + 2) none 0 0 0 0 0 0 0 0 0) := HLr
  replace HNn : Hid (Nm W (gg + 3) G B X Y T U) := HNn
  replace HLa : Hid (Lm W (gg + 4) none 0 0 0 0 0 0 0 0 0) := HLa
  replace HLb : Hid (Lm W (gg + 5) none 0 0 0 0 0 0 0 0 0) := HLb
  go_enter Try.func32, Try.ntmps32
  go_upto_region 6 with fail
  rw [HW.out, Hg.out]
  clear HW o1 o2 o3 o4 o5 o6
  have o0 := HOo.out.c0
  by_cases hk1 : kd = 1
  · subst hk1
    obtain ⟨xE, hxE⟩ : ∃ z, agnE ⟨k, S, C, N, D, E, s, n⟩ = z := ⟨_, rfl⟩
    have HRE : Hid (nxR ⟨k, S, C, N, D, E, s, n⟩ 1 G B X Y T U = agnL ⟨k, S, C, N, D, E, s, n⟩) := by show _ = _; unfold nxR; rw [if_pos rfl]
    obtain ⟨Rz, hRz⟩ : ∃ R, agnL ⟨k, S, C, N, D, E, s, n⟩ = R := ⟨_, rfl⟩
    have kx := ll.again a m c k S C N D E s n W (HI.out.on HB.out)
    rw [hRz, hxE] at kx
    have e0 := HLl.out.c0
    have e1 := HLl.out.c1
    have e2 := HLl.out.c2
    have e3 := HLl.out.c3
    have e4 := HLl.out.c4
    have e5 := HLl.out.c5
    have e6 := HLl.out.c6
    have e7 := HLl.out.c7
    have q0 := HNn.out.c0
    have q1 := HNn.out.c1
    have q2 := HNn.out.c2
    have q3 := HNn.out.c3
    have q4 := HNn.out.c4
    have q5 := HNn.out.c5
    go_wp2_with fail
    refine kx.mono ?_
    intro e y hy
    obtain ⟨kz, Sz, Cz, Nz, Dz, Ez, sz, nz⟩ := Rz
    obtain ⟨Mz, hMz⟩ : ∃ M, kz.length = M := ⟨_, rfl⟩
    obtain ⟨az, cz, rfl, vz, gz⟩ := hy.use rfl hMz
    have HRR : Hid (nxR ⟨k, S, C, N, D, E, s, n⟩ 1 G B X Y T U = ⟨kz, Sz, Cz, Nz, Dz, Ez, sz, nz⟩) := HRE.out.trans hRz
    have NL := lnew y az Mz cz Sz Cz Nz Dz Ez sz nz
    have BB := bel_bel (B := W.heap.size) gz gz.size NL
    have HX1 := hid (Lm.new y az Mz cz Sz Cz Nz Dz Ez sz nz)
    have HV1 := hid (vz.step (w' := y.alloc (.cells #[.slice az Mz cz, .int .i64 Sz, .int .i64 Cz, .int .i64 Nz, .int .u64 Dz, .int .u64 Ez, .int .i64 sz, .int .i64 nz] 27)) fun x hx _ _ => NL.block x hx)
    have HBB := hid BB
    have HPX0 : Hid (W.heap.size ≤ y.heap.size) := gz.size
    obtain ⟨w1, HW1⟩ : ∃ y', Hid (y.alloc (.cells #[.slice az Mz cz, .int .i64 Sz, .int .i64 Cz, .int .i64 Nz, .int .u64 Dz, .int .u64 Ez, .int .i64 sz, .int .i64 nz] 27) = y') := ⟨_, rfl⟩
    obtain ⟨px, HPX⟩ : ∃ y', Hid (y.heap.size = y') := ⟨_, rfl⟩
    rw [HW1.out] at HX1 HV1 HBB
    rw [HPX.out] at HX1 HPX0
    clear kx hy vz gz NL BB e0 e1 e2 e3 e4 e5 e6 e7 q0 q1 q2 q3 q4 q5
    go_upto_region 8 with fail
    rw [HW1.out, HPX.out]
    clear HW1 HPX
    have kx := dlc.again a m c k S C N D E s n w1 ((HI.out.on HB.out).on HBB.out)
    rw [hRz, hxE] at kx
    have HL1 := hid (HLl.out.kept HBB.out)
    have HN1 := hid (HNn.out.kept HBB.out)
    have e0 := HL1.out.c0
    have e1 := HL1.out.c1
    have e2 := HL1.out.c2
    have e3 := HL1.out.c3
    have e4 := HL1.out.c4
    have e5 := HL1.out.c5
    have e6 := HL1.out.c6
    have e7 := HL1.out.c7
    have q0 := HN1.out.c0
    have q1 := HN1.out.c1
    have q2 := HN1.out.c2
    have q3 := HN1.out.c3
    have q4 := HN1.out.c4
    have q5 := HN1.out.c5
    go_wp2_with fail
    refine kx.mono ?_
    intro e y2 hy
    obtain ⟨ab, cb, rfl, vz, gz⟩ := hy.use rfl hMz
    have NL := lnew y2 ab Mz cb Sz Cz Nz Dz Ez sz nz
    have BB2 := bel_bel (B := w1.heap.size) gz gz.size NL
    have HX2 := hid (HX1.out.kept BB2)
    have HY2 := hid (Lm.new y2 ab Mz cb Sz Cz Nz Dz Ez sz nz)
    have HVx := hid (HV1.out.step fun x hx _ _ => BB2.block x hx)
    have HVy := hid (vz.step (w' := y2.alloc (.cells #[.slice ab Mz cb, .int .i64 Sz, .int .i64 Cz, .int .i64 Nz, .int .u64 Dz, .int .u64 Ez, .int .i64 sz, .int .i64 nz] 27)) fun x hx _ _ => NL.block x hx)
    have HBC : Hid (Below W.heap.size W (y2.alloc (.cells #[.slice ab Mz cb, .int .i64 Sz, .int .i64 Cz, .int .i64 Nz, .int .u64 Dz, .int .u64 Ez, .int .i64 sz, .int .i64 nz] 27))) := bel_bel HBB.out HBB.out.size BB2
    have HPY0 : Hid (px < y2.heap.size) := Nat.lt_of_lt_of_le HX1.out.lt gz.size
    have HW1S : Hid (W.heap.size ≤ w1.heap.size) := HBB.out.size
    obtain ⟨w2, HW2⟩ : ∃ y', Hid (y2.alloc (.cells #[.slice ab Mz cb, .int .i64 Sz, .int .i64 Cz, .int .i64 Nz, .int .u64 Dz, .int .u64 Ez, .int .i64 sz, .int .i64 nz] 27) = y') := ⟨_, rfl⟩
    obtain ⟨py, HPY⟩ : ∃ y', Hid (y2.heap.size = y') := ⟨_, rfl⟩
    rw [HW2.out] at HX2 HY2 HVx HVy HBC
    rw [HPY.out] at HY2 HPY0
    clear kx hy vz gz NL BB2 e0 e1 e2 e3 e4 e5 e6 e7 q0 q1 q2 q3 q4 q5 HL1 HN1 HX1 HV1 HBB
    go_upto_region 9 with fail
    rw [HW2.out, HPY.out]
    clear HW2 HPY
    have HMl := hid (HLl.out.kept HBC.out)
    have HMr := hid (HLr.out.kept HBC.out)
    have HMa := hid (HLa.out.kept HBC.out)
    have HMb := hid (HLb.out.kept HBC.out)
    have HBw : Hid (Below w.heap.size w w2) := bel_bel HB.out HB.out.size HBC.out
    have t0 := HX2.out.c0
    have t1 := HX2.out.c1
    have t2 := HX2.out.c2
    have t3 := HX2.out.c3
    have t4 := HX2.out.c4
    have t5 := HX2.out.c5
    have t6 := HX2.out.c6
    have t7 := HX2.out.c7
    have u0 := HY2.out.c0
    have u1 := HY2.out.c1
    have u2 := HY2.out.c2
    have u3 := HY2.out.c3
    have u4 := HY2.out.c4
    have u5 := HY2.out.c5
    have u6 := HY2.out.c6
    have u7 := HY2.out.c7
    have ac0 := HMa.out.c0
    have af0 := HMa.out.fz 0
    have bc0 := HMb.out.c0
    have bf0 := HMb.out.fz 0
    have ac1 := HMa.out.c1
    have af1 := HMa.out.fz 1
    have bc1 := HMb.out.c1
    have bf1 := HMb.out.fz 1
    have ac2 := HMa.out.c2
    have af2 := HMa.out.fz 2
    have bc2 := HMb.out.c2
    have bf2 := HMb.out.fz 2
    have ac3 := HMa.out.c3
    have af3 := HMa.out.fz 3
    have bc3 := HMb.out.c3
    have bf3 := HMb.out.fz 3
    have ac4 := HMa.out.c4
    have af4 := HMa.out.fz 4
    have bc4 := HMb.out.c4
    have bf4 := HMb.out.fz 4
    have ac5 := HMa.out.c5
    have af5 := HMa.out.fz 5
    have bc5 := HMb.out.c5
    have bf5 := HMb.out.fz 5
    have ac6 := HMa.out.c6
    have af6 := HMa.out.fz 6
    have bc6 := HMb.out.c6
    have bf6 := HMb.out.fz 6
    have ac7 := HMa.out.c7
    have af7 := HMa.out.fz 7
    have bc7 := HMb.out.c7
    have bf7 := HMb.out.fz 7
    have n1 : px ≠ gg + 4 := by have h1 := HPX0.out; have h2 := HWS.out; omega
    have n2 : px ≠ gg + 5 := by have h1 := HPX0.out; have h2 := HWS.out; omega
    have n3 : py ≠ gg + 4 := by have h0 := HPY0.out; have h1 := HPX0.out; have h2 := HWS.out; omega
    have n4 : py ≠ gg + 5 := by have h0 := HPY0.out; have h1 := HPX0.out; have h2 := HWS.out; omega
    go_region
    have HZa : Hid (Lm ((((((((((((((((w2.setCell ⟨gg + 1 + 1 + 1 + 1, 0, none⟩ (.slice az Mz cz)).setCell ⟨gg + 1 + 1 + 1 + 1, 1, none⟩ (.int .i64 Sz)).setCell ⟨gg + 1 + 1 + 1 + 1, 2, none⟩ (.int .i64 Cz)).setCell ⟨gg + 1 + 1 + 1 + 1, 3, none⟩ (.int .i64 Nz)).setCell ⟨gg + 1 + 1 + 1 + 1, 4, none⟩ (.int .u64 Dz)).setCell ⟨gg + 1 + 1 + 1 + 1, 5, none⟩ (.int .u64 Ez)).setCell ⟨gg + 1 + 1 + 1 + 1, 6, none⟩ (.int .i64 sz)).setCell ⟨gg + 1 + 1 + 1 + 1, 7, none⟩ (.int .i64 nz)).setCell ⟨gg + 1 + 1 + 1 + 1 + 1, 0, none⟩ (.slice ab Mz cb)).setCell ⟨gg + 1 + 1 + 1 + 1 + 1, 1, none⟩ (.int .i64 Sz)).setCell ⟨gg + 1 + 1 + 1 + 1 + 1, 2, none⟩ (.int .i64 Cz)).setCell ⟨gg + 1 + 1 + 1 + 1 + 1, 3, none⟩ (.int .i64 Nz)).setCell ⟨gg + 1 + 1 + 1 + 1 + 1, 4, none⟩ (.int .u64 Dz)).setCell ⟨gg + 1 + 1 + 1 + 1 + 1, 5, none⟩ (.int .u64 Ez)).setCell ⟨gg + 1 + 1 + 1 + 1 + 1, 6, none⟩ (.int .i64 sz)).setCell ⟨gg + 1 + 1 + 1 + 1 + 1, 7, none⟩ (.int .i64 nz)).drew (gg + 4) az Mz cz Sz Cz Nz Dz Ez sz nz) := two_a (g := gg + 4) (h := gg + 5) HMa.out (by omega) az ab Mz cz cb Sz Cz Nz Dz Ez sz nz
    have HZb : Hid (Lm ((((((((((((((((w2.setCell ⟨gg + 1 + 1 + 1 + 1, 0, none⟩ (.slice az Mz cz)).setCell ⟨gg + 1 + 1 + 1 + 1, 1, none⟩ (.int .i64 Sz)).setCell ⟨gg + 1 + 1 + 1 + 1, 2, none⟩ (.int .i64 Cz)).setCell ⟨gg + 1 + 1 + 1 + 1, 3, none⟩ (.int .i64 Nz)).setCell ⟨gg + 1 + 1 + 1 + 1, 4, none⟩ (.int .u64 Dz)).setCell ⟨gg + 1 + 1 + 1 + 1, 5, none⟩ (.int .u64 Ez)).setCell ⟨gg + 1 + 1 + 1 + 1, 6, none⟩ (.int .i64 sz)).setCell ⟨gg + 1 + 1 + 1 + 1, 7, none⟩ (.int .i64 nz)).setCell ⟨gg + 1 + 1 + 1 + 1 + 1, 0, none⟩ (.slice ab Mz cb)).setCell ⟨gg + 1 + 1 + 1 + 1 + 1, 1, none⟩ (.int .i64 Sz)).setCell ⟨gg + 1 + 1 + 1 + 1 + 1, 2, none⟩ (.int .i64 Cz)).setCell ⟨gg + 1 + 1 + 1 + 1 + 1, 3, none⟩ (.int .i64 Nz)).setCell ⟨gg + 1 + 1 + 1 + 1 + 1, 4, none⟩ (.int .u64 Dz)).setCell ⟨gg + 1 + 1 + 1 + 1 + 1, 5, none⟩ (.int .u64 Ez)).setCell ⟨gg + 1 + 1 + 1 + 1 + 1, 6, none⟩ (.int .i64 sz)).setCell ⟨gg + 1 + 1 + 1 + 1 + 1, 7, none⟩ (.int .i64 nz)).drew (gg + 5) ab Mz cb Sz Cz Nz Dz Ez sz nz) := two_b (g := gg + 4) (h := gg + 5) HMb.out (by omega) az ab Mz cz cb Sz Cz Nz Dz Ez sz nz
    have HZl : Hid (Lm ((((((((((((((((w2.setCell ⟨gg + 1 + 1 + 1 + 1, 0, none⟩ (.slice az Mz cz)).setCell ⟨gg + 1 + 1 + 1 + 1, 1, none⟩ (.int .i64 Sz)).setCell ⟨gg + 1 + 1 + 1 + 1, 2, none⟩ (.int .i64 Cz)).setCell ⟨gg + 1 + 1 + 1 + 1, 3, none⟩ (.int .i64 Nz)).setCell ⟨gg + 1 + 1 + 1 + 1, 4, none⟩ (.int .u64 Dz)).setCell ⟨gg + 1 + 1 + 1 + 1, 5, none⟩ (.int .u64 Ez)).setCell ⟨gg + 1 + 1 + 1 + 1, 6, none⟩ (.int .i64 sz)).setCell ⟨gg + 1 + 1 + 1 + 1, 7, none⟩ (.int .i64 nz)).setCell ⟨gg + 1 + 1 + 1 + 1 + 1, 0, none⟩ (.slice ab Mz cb)).setCell ⟨gg + 1 + 1 + 1 + 1 + 1, 1, none⟩ (.int .i64 Sz)).setCell ⟨gg + 1 + 1 + 1 + 1 + 1, 2, none⟩ (.int .i64 Cz)).setCell ⟨gg + 1 + 1 + 1 + 1 + 1, 3, none⟩ (.int .i64 Nz)).setCell ⟨gg + 1 + 1 + 1 + 1 + 1, 4, none⟩ (.int .u64 Dz)).setCell ⟨gg + 1 + 1 + 1 + 1 + 1, 5, none⟩ (.int .u64 Ez)).setCell ⟨gg + 1 + 1 + 1 + 1 + 1, 6, none⟩ (.int .i64 sz)).setCell ⟨gg + 1 + 1 + 1 + 1 + 1, 7, none⟩ (.int .i64 nz)).drew gg a m c S C N D E s n) := HMl.out.at (two_other (g := gg + 4) (h := gg + 5) (by omega) (by omega) (.slice az Mz cz) (.int .i64 Sz) (.int .i64 Cz) (.int .i64 Nz) (.int .u64 Dz) (.int .u64 Ez) (.int .i64 sz) (.int .i64 nz) (.slice ab Mz cb) (.int .i64 Sz) (.int .i64 Cz) (.int .i64 Nz) (.int .u64 Dz) (.int .u64 Ez) (.int .i64 sz) (.int .i64 nz))
    have HZr : Hid (Lm ((((((((((((((((w2.setCell ⟨gg + 1 + 1 + 1 + 1, 0, none⟩ (.slice az Mz cz)).setCell ⟨gg + 1 + 1 + 1 + 1, 1, none⟩ (.int .i64 Sz)).setCell ⟨gg + 1 + 1 + 1 + 1, 2, none⟩ (.int .i64 Cz)).setCell ⟨gg + 1 + 1 + 1 + 1, 3, none⟩ (.int .i64 Nz)).setCell ⟨gg + 1 + 1 + 1 + 1, 4, none⟩ (.int .u64 Dz)).setCell ⟨gg + 1 + 1 + 1 + 1, 5, none⟩ (.int .u64 Ez)).setCell ⟨gg + 1 + 1 + 1 + 1, 6, none⟩ (.int .i64 sz)).setCell ⟨gg + 1 + 1 + 1 + 1, 7, none⟩ (.int .i64 nz)).setCell ⟨gg + 1 + 1 + 1 + 1 + 1, 0, none⟩ (.slice ab Mz cb)).setCell ⟨gg + 1 + 1 + 1 + 1 + 1, 1, none⟩ (.int .i64 Sz)).setCell ⟨gg + 1 + 1 + 1 + 1 + 1, 2, none⟩ (.int .i64 Cz)).setCell ⟨gg + 1 + 1 + 1 + 1 + 1, 3, none⟩ (.int .i64 Nz)).setCell ⟨gg + 1 + 1 + 1 + 1 + 1, 4, none⟩ (.int .u64 Dz)).setCell ⟨gg + 1 + 1 + 1 + 1 + 1, 5, none⟩ (.int .u64 Ez)).setCell ⟨gg + 1 + 1 + 1 + 1 + 1, 6, none⟩ (.int .i64 sz)).setCell ⟨gg + 1 + 1 + 1 + 1 + 1, 7, none⟩ (.int .i64 nz)).drew (gg + 2) none 0 0 0 0 0 0 0 0 0) := HMr.out.at (two_other (g := gg + 4) (h := gg + 5) (by omega) (by omega) (.slice az Mz cz) (.int .i64 Sz) (.int .i64 Cz) (.int .i64 Nz) (.int .u64 Dz) (.int .u64 Ez) (.int .i64 sz) (.int .i64 nz) (.slice ab Mz cb) (.int .i64 Sz) (.int .i64 Cz) (.int .i64 Nz) (.int .u64 Dz) (.int .u64 Ez) (.int .i64 sz) (.int .i64 nz))
    have HVa : Hid (Vs ((((((((((((((((w2.setCell ⟨gg + 1 + 1 + 1 + 1, 0, none⟩ (.slice az Mz cz)).setCell ⟨gg + 1 + 1 + 1 + 1, 1, none⟩ (.int .i64 Sz)).setCell ⟨gg + 1 + 1 + 1 + 1, 2, none⟩ (.int .i64 Cz)).setCell ⟨gg + 1 + 1 + 1 + 1, 3, none⟩ (.int .i64 Nz)).setCell ⟨gg + 1 + 1 + 1 + 1, 4, none⟩ (.int .u64 Dz)).setCell ⟨gg + 1 + 1 + 1 + 1, 5, none⟩ (.int .u64 Ez)).setCell ⟨gg + 1 + 1 + 1 + 1, 6, none⟩ (.int .i64 sz)).setCell ⟨gg + 1 + 1 + 1 + 1, 7, none⟩ (.int .i64 nz)).setCell ⟨gg + 1 + 1 + 1 + 1 + 1, 0, none⟩ (.slice ab Mz cb)).setCell ⟨gg + 1 + 1 + 1 + 1 + 1, 1, none⟩ (.int .i64 Sz)).setCell ⟨gg + 1 + 1 + 1 + 1 + 1, 2, none⟩ (.int .i64 Cz)).setCell ⟨gg + 1 + 1 + 1 + 1 + 1, 3, none⟩ (.int .i64 Nz)).setCell ⟨gg + 1 + 1 + 1 + 1 + 1, 4, none⟩ (.int .u64 Dz)).setCell ⟨gg + 1 + 1 + 1 + 1 + 1, 5, none⟩ (.int .u64 Ez)).setCell ⟨gg + 1 + 1 + 1 + 1 + 1, 6, none⟩ (.int .i64 sz)).setCell ⟨gg + 1 + 1 + 1 + 1 + 1, 7, none⟩ (.int .i64 nz)).drew (fun x => W.heap.size ≤ x) az Mz cz kz) := HVx.out.step fun x _ hx _ => two_other (g := gg + 4) (h := gg + 5) (by have := HWS.out; omega) (by have := HWS.out; omega) (.slice az Mz cz) (.int .i64 Sz) (.int .i64 Cz) (.int .i64 Nz) (.int .u64 Dz) (.int .u64 Ez) (.int .i64 sz) (.int .i64 nz) (.slice ab Mz cb) (.int .i64 Sz) (.int .i64 Cz) (.int .i64 Nz) (.int .u64 Dz) (.int .u64 Ez) (.int .i64 sz) (.int .i64 nz)
    have HVb : Hid (Vs ((((((((((((((((w2.setCell ⟨gg + 1 + 1 + 1 + 1, 0, none⟩ (.slice az Mz cz)).setCell ⟨gg + 1 + 1 + 1 + 1, 1, none⟩ (.int .i64 Sz)).setCell ⟨gg + 1 + 1 + 1 + 1, 2, none⟩ (.int .i64 Cz)).setCell ⟨gg + 1 + 1 + 1 + 1, 3, none⟩ (.int .i64 Nz)).setCell ⟨gg + 1 + 1 + 1 + 1, 4, none⟩ (.int .u64 Dz)).setCell ⟨gg + 1 + 1 + 1 + 1, 5, none⟩ (.int .u64 Ez)).setCell ⟨gg + 1 + 1 + 1 + 1, 6, none⟩ (.int .i64 sz)).setCell ⟨gg + 1 + 1 + 1 + 1, 7, none⟩ (.int .i64 nz)).setCell ⟨gg + 1 + 1 + 1 + 1 + 1, 0, none⟩ (.slice ab Mz cb)).setCell ⟨gg + 1 + 1 + 1 + 1 + 1, 1, none⟩ (.int .i64 Sz)).setCell ⟨gg + 1 + 1 + 1 + 1 + 1, 2, none⟩ (.int .i64 Cz)).setCell ⟨gg + 1 + 1 + 1 + 1 + 1, 3, none⟩ (.int .i64 Nz)).setCell ⟨gg + 1 + 1 + 1 + 1 + 1, 4, none⟩ (.int .u64 Dz)).setCell ⟨gg + 1 + 1 + 1 + 1 + 1, 5, none⟩ (.int .u64 Ez)).setCell ⟨gg + 1 + 1 + 1 + 1 + 1, 6, none⟩ (.int .i64 sz)).setCell ⟨gg + 1 + 1 + 1 + 1 + 1, 7, none⟩ (.int .i64 nz)).drew (fun x => w1.heap.size ≤ x) ab Mz cb kz) := HVy.out.step fun x _ hx _ => two_other (g := gg + 4) (h := gg + 5) (by have := HWS.out; have := HW1S.out; omega) (by have := HWS.out; have := HW1S.out; omega) (.slice az Mz cz) (.int .i64 Sz) (.int .i64 Cz) (.int .i64 Nz) (.int .u64 Dz) (.int .u64 Ez) (.int .i64 sz) (.int .i64 nz) (.slice ab Mz cb) (.int .i64 Sz) (.int .i64 Cz) (.int .i64 Nz) (.int .u64 Dz) (.int .u64 Ez) (.int .i64 sz) (.int .i64 nz)
    have HBz : Hid (Below w.heap.size w ((((((((((((((((w2.setCell ⟨gg + 1 + 1 + 1 + 1, 0, none⟩ (.slice az Mz cz)).setCell ⟨gg + 1 + 1 + 1 + 1, 1, none⟩ (.int .i64 Sz)).setCell ⟨gg + 1 + 1 + 1 + 1, 2, none⟩ (.int .i64 Cz)).setCell ⟨gg + 1 + 1 + 1 + 1, 3, none⟩ (.int .i64 Nz)).setCell ⟨gg + 1 + 1 + 1 + 1, 4, none⟩ (.int .u64 Dz)).setCell ⟨gg + 1 + 1 + 1 + 1, 5, none⟩ (.int .u64 Ez)).setCell ⟨gg + 1 + 1 + 1 + 1, 6, none⟩ (.int .i64 sz)).setCell ⟨gg + 1 + 1 + 1 + 1, 7, none⟩ (.int .i64 nz)).setCell ⟨gg + 1 + 1 + 1 + 1 + 1, 0, none⟩ (.slice ab Mz cb)).setCell ⟨gg + 1 + 1 + 1 + 1 + 1, 1, none⟩ (.int .i64 Sz)).setCell ⟨gg + 1 + 1 + 1 + 1 + 1, 2, none⟩ (.int .i64 Cz)).setCell ⟨gg + 1 + 1 + 1 + 1 + 1, 3, none⟩ (.int .i64 Nz)).setCell ⟨gg + 1 + 1 + 1 + 1 + 1, 4, none⟩ (.int .u64 Dz)).setCell ⟨gg + 1 + 1 + 1 + 1 + 1, 5, none⟩ (.int .u64 Ez)).setCell ⟨gg + 1 + 1 + 1 + 1 + 1, 6, none⟩ (.int .i64 sz)).setCell ⟨gg + 1 + 1 + 1 + 1 + 1, 7, none⟩ (.int .i64 nz)).drew) := two_bel (g := gg + 4) (h := gg + 5) HBw.out (by have := Hg.out; omega) (by have := Hg.out; omega) (.slice az Mz cz) (.int .i64 Sz) (.int .i64 Cz) (.int .i64 Nz) (.int .u64 Dz) (.int .u64 Ez) (.int .i64 sz) (.int .i64 nz) (.slice ab Mz cb) (.int .i64 Sz) (.int .i64 Cz) (.int .i64 Nz) (.int .u64 Dz) (.int .u64 Ez) (.int .i64 sz) (.int .i64 nz)
    obtain ⟨wz, HWz⟩ : ∃ y', Hid (((((((((((((((((w2.setCell ⟨gg + 1 + 1 + 1 + 1, 0, none⟩ (.slice az Mz cz)).setCell ⟨gg + 1 + 1 + 1 + 1, 1, none⟩ (.int .i64 Sz)).setCell ⟨gg + 1 + 1 + 1 + 1, 2, none⟩ (.int .i64 Cz)).setCell ⟨gg + 1 + 1 + 1 + 1, 3, none⟩ (.int .i64 Nz)).setCell ⟨gg + 1 + 1 + 1 + 1, 4, none⟩ (.int .u64 Dz)).setCell ⟨gg + 1 + 1 + 1 + 1, 5, none⟩ (.int .u64 Ez)).setCell ⟨gg + 1 + 1 + 1 + 1, 6, none⟩ (.int .i64 sz)).setCell ⟨gg + 1 + 1 + 1 + 1, 7, none⟩ (.int .i64 nz)).setCell ⟨gg + 1 + 1 + 1 + 1 + 1, 0, none⟩ (.slice ab Mz cb)).setCell ⟨gg + 1 + 1 + 1 + 1 + 1, 1, none⟩ (.int .i64 Sz)).setCell ⟨gg + 1 + 1 + 1 + 1 + 1, 2, none⟩ (.int .i64 Cz)).setCell ⟨gg + 1 + 1 + 1 + 1 + 1, 3, none⟩ (.int .i64 Nz)).setCell ⟨gg + 1 + 1 + 1 + 1 + 1, 4, none⟩ (.int .u64 Dz)).setCell ⟨gg + 1 + 1 + 1 + 1 + 1, 5, none⟩ (.int .u64 Ez)).setCell ⟨gg + 1 + 1 + 1 + 1 + 1, 6, none⟩ (.int .i64 sz)).setCell ⟨gg + 1 + 1 + 1 + 1 + 1, 7, none⟩ (.int .i64 nz)).drew = y') := ⟨_, rfl⟩
    rw [HWz.out] at HZa HZb HZl HZr HVa HVb HBz
    rw [HWz.out]
    clear HWz n1 n2 n3 n4 t0 t1 t2 t3 t4 t5 t6 t7 u0 u1 u2 u3 u4 u5 u6 u7 ac0 af0 bc0 bf0 ac1 af1 bc1 bf1 ac2 af2 bc2 bf2 ac3 af3 bc3 bf3 ac4 af4 bc4 bf4 ac5 af5 bc5 bf5 ac6 af6 bc6 bf6 ac7 af7 bc7 bf7
    have kn := fun x wx => num17_ x wx
    go_upto_region 30 with (first | (go_at_call 23; refine (kn _ _).mono ?_; rintro en wn ⟨rfl, hwn⟩; rw [hwn]; clear hwn) | fail)
    clear kn
    have hMx : Mz ≤ maxLen := Nat.le_trans HVa.out.nc HVa.out.cm
    have ks := sameLane_ az ab Mz cz Mz cb kz kz Sz Cz Nz Dz Ez sz nz Sz Cz Nz Dz Ez sz nz wz HVa.out.bs HVb.out.bs hMx hMx
    rw [slE_self] at ks
    have t0 := HZa.out.c0
    have t1 := HZa.out.c1
    have t2 := HZa.out.c2
    have t3 := HZa.out.c3
    have t4 := HZa.out.c4
    have t5 := HZa.out.c5
    have t6 := HZa.out.c6
    have t7 := HZa.out.c7
    have u0 := HZb.out.c0
    have u1 := HZb.out.c1
    have u2 := HZb.out.c2
    have u3 := HZb.out.c3
    have u4 := HZb.out.c4
    have u5 := HZb.out.c5
    have u6 := HZb.out.c6
    have u7 := HZb.out.c7
    go_wp2_with fail
    refine ks.mono ?_
    rintro e wy ⟨rfl, gy⟩
    have HYl := hid (HZl.out.kept gy)
    have HYr := hid (HZr.out.kept gy)
    have HYa := hid (HZa.out.kept gy)
    have HYV := hid (HVa.out.step fun x hx _ _ => gy.block x hx)
    have HBy : Hid (Below w.heap.size w wy) := bel_bel HBz.out HBz.out.size gy
    have r2 := (HZb.out.kept gy).c2
    clear ks gy t0 t1 t2 t3 t4 t5 t6 t7 u0 u1 u2 u3 u4 u5 u6 u7 HZl HZr HZa HZb HVa HVb
    by_cases hC : Cz = 0
    · have HR0 : Hid ((nxR ⟨k, S, C, N, D, E, s, n⟩ 1 G B X Y T U).C = 0) := by show _ = _; rw [HRR.out]; exact hC
      have e1 : nxL ⟨k, S, C, N, D, E, s, n⟩ 1 G B X Y T U = ⟨k, S, C, N, D, E, s, n⟩ := by unfold nxL; rw [if_pos HR0.out]
      have hcz : (Cz == 0) = true := by rw [hC]; rfl
      have t0 := HYl.out.c0
      have t1 := HYl.out.c1
      have t2 := HYl.out.c2
      have t3 := HYl.out.c3
      have t4 := HYl.out.c4
      have t5 := HYl.out.c5
      have t6 := HYl.out.c6
      have t7 := HYl.out.c7
      have HXa := hid (HYa.out.row a m c S C N D E s n)
      have HXr : Hid (Lm (wy.setRow (gg + 4) #[.slice a m c, .int .i64 S, .int .i64 C, .int .i64 N, .int .u64 D, .int .u64 E, .int .i64 s, .int .i64 n]) (gg + 2) none 0 0 0 0 0 0 0 0 0) := HYr.out.at (setRow_other _ _ _ _ (by omega))
      have HXB : Hid (Below w.heap.size w (wy.setRow (gg + 4) #[.slice a m c, .int .i64 S, .int .i64 C, .int .i64 N, .int .u64 D, .int .u64 E, .int .i64 s, .int .i64 n])) := bel_row HBy.out (by have := Hg.out; omega) _
      obtain ⟨wv, HWv⟩ : ∃ y', Hid (wy.setRow (gg + 4) #[.slice a m c, .int .i64 S, .int .i64 C, .int .i64 N, .int .u64 D, .int .u64 E, .int .i64 s, .int .i64 n] = y') := ⟨_, rfl⟩
      rw [HWv.out] at HXa HXr HXB
      go_upto_region 33 with (refine wpList_sln rfl rfl _ _ rfl (gg + 4) a m c S C N D E s n rfl rfl (by with_reducible exact HYa.out) ?_)
      rw [HWv.out]
      clear t0 t1 t2 t3 t4 t5 t6 t7 r2 HYa HYr HYl HBy
      have t0 := HXa.out.c0
      have t1 := HXa.out.c1
      have t2 := HXa.out.c2
      have t3 := HXa.out.c3
      have t4 := HXa.out.c4
      have t5 := HXa.out.c5
      have t6 := HXa.out.c6
      have t7 := HXa.out.c7
      go_wp2_with (refine wpList_sln rfl rfl _ _ rfl (gg + 2) a m c S C N D E s n rfl rfl (by with_reducible exact HXr.out) ?_)
      refine bodyPost_ret (v := .tuple #[.agg #[.slice a m c, .int .i64 S, .int .i64 C, .int .i64 N, .int .u64 D, .int .u64 E, .int .i64 s, .int .i64 n], .bool true]) ?_ rfl ?_
      · exact results_ln rfl _ _ (gg + 2) a m c S C N D E s n _ rfl rfl (HXr.out.row a m c S C N D E s n)
      · unfold Sx
        rw [e1]
        exact ⟨a, c, by simp only [hkl], bel_row HXB.out (by have := Hg.out; omega) _, .inl ⟨rfl, rfl, rfl⟩⟩
    · have HR0 : Hid ((nxR ⟨k, S, C, N, D, E, s, n⟩ 1 G B X Y T U).C ≠ 0) := by show _ ≠ _; rw [HRR.out]; exact hC
      have e1 : nxL ⟨k, S, C, N, D, E, s, n⟩ 1 G B X Y T U = ⟨kz, Sz, Cz, Nz, Dz, Ez, sz, nz⟩ := by unfold nxL; rw [if_neg HR0.out, HRR.out]
      have hcz : (Cz == 0) = false := beq_eq_false_iff_ne.2 hC
      have t0 := HYa.out.c0
      have t1 := HYa.out.c1
      have t2 := HYa.out.c2
      have t3 := HYa.out.c3
      have t4 := HYa.out.c4
      have t5 := HYa.out.c5
      have t6 := HYa.out.c6
      have t7 := HYa.out.c7
      go_wp2_with (refine wpList_sln rfl rfl _ _ rfl (gg + 2) az Mz cz Sz Cz Nz Dz Ez sz nz rfl rfl (by with_reducible exact HYr.out) ?_)
      refine bodyPost_ret (v := .tuple #[.agg #[.slice az Mz cz, .int .i64 Sz, .int .i64 Cz, .int .i64 Nz, .int .u64 Dz, .int .u64 Ez, .int .i64 sz, .int .i64 nz], .bool true]) ?_ rfl ?_
      · exact results_ln rfl _ _ (gg + 2) az Mz cz Sz Cz Nz Dz Ez sz nz _ rfl rfl (HYr.out.row az Mz cz Sz Cz Nz Dz Ez sz nz)
      · unfold Sx
        rw [e1]
        exact ⟨az, cz, by simp only [hMz], bel_row HBy.out (by have := Hg.out; omega) _, .inr (by simp only [hMz]; exact (HYV.out.step fun x _ hx _ => setRow_other _ _ _ _ (by have := HWS.out; omega)).wide fun x _ hx => (by have h1 := HWS.out; have h2 := Hg.out; omega))⟩
  by_cases hk2 : kd = 2
  · subst hk2
    obtain ⟨xu, hxu⟩ : ∃ z, IntKind.u64.wrap (D + Y) = z := ⟨_, rfl⟩
    have hxr : u64r xu := by rw [← hxu]; exact wu_r _
    have HRE : Hid (nxR ⟨k, S, C, N, D, E, s, n⟩ 2 G B X Y T U = resL ⟨k, S, C, N, D, E, s, n⟩ xu B) := by show _ = _; unfold nxR; rw [if_neg (by decide), if_pos rfl]; unfold wu; simp only [hxu]
    obtain ⟨Rz, hRz⟩ : ∃ R, resL ⟨k, S, C, N, D, E, s, n⟩ xu B = R := ⟨_, rfl⟩
    have kx := ll.reserve a m c k S C N D E s n xu B W (HI.out.on HB.out) hxr hB
    rw [hRz] at kx
    have e0 := HLl.out.c0
    have e1 := HLl.out.c1
    have e2 := HLl.out.c2
    have e3 := HLl.out.c3
    have e4 := HLl.out.c4
    have e5 := HLl.out.c5
    have e6 := HLl.out.c6
    have e7 := HLl.out.c7
    have q0 := HNn.out.c0
    have q1 := HNn.out.c1
    have q2 := HNn.out.c2
    have q3 := HNn.out.c3
    have q4 := HNn.out.c4
    have q5 := HNn.out.c5
    go_wp2_with fail
    refine kx.mono ?_
    intro e y hy
    obtain ⟨kz, Sz, Cz, Nz, Dz, Ez, sz, nz⟩ := Rz
    obtain ⟨Mz, hMz⟩ : ∃ M, kz.length = M := ⟨_, rfl⟩
    obtain ⟨az, cz, rfl, vz, gz⟩ := hy.use rfl hMz
    have HRR : Hid (nxR ⟨k, S, C, N, D, E, s, n⟩ 2 G B X Y T U = ⟨kz, Sz, Cz, Nz, Dz, Ez, sz, nz⟩) := HRE.out.trans hRz
    have HXa := hid (HLa.out.kept gz)
    have HA1 := hid (HXa.out.row az Mz cz Sz Cz Nz Dz Ez sz nz)
    have HL1 : Hid (Lm (y.setRow (gg + 4) #[.slice az Mz cz, .int .i64 Sz, .int .i64 Cz, .int .i64 Nz, .int .u64 Dz, .int .u64 Ez, .int .i64 sz, .int .i64 nz]) gg a m c S C N D E s n) := (HLl.out.kept gz).at (setRow_other _ _ _ _ (by omega))
    have HR1 : Hid (Lm (y.setRow (gg + 4) #[.slice az Mz cz, .int .i64 Sz, .int .i64 Cz, .int .i64 Nz, .int .u64 Dz, .int .u64 Ez, .int .i64 sz, .int .i64 nz]) (gg + 2) none 0 0 0 0 0 0 0 0 0) := (HLr.out.kept gz).at (setRow_other _ _ _ _ (by omega))
    have HB5 : Hid (Lm (y.setRow (gg + 4) #[.slice az Mz cz, .int .i64 Sz, .int .i64 Cz, .int .i64 Nz, .int .u64 Dz, .int .u64 Ez, .int .i64 sz, .int .i64 nz]) (gg + 5) none 0 0 0 0 0 0 0 0 0) := (HLb.out.kept gz).at (setRow_other _ _ _ _ (by omega))
    have HN1 : Hid (Nm (y.setRow (gg + 4) #[.slice az Mz cz, .int .i64 Sz, .int .i64 Cz, .int .i64 Nz, .int .u64 Dz, .int .u64 Ez, .int .i64 sz, .int .i64 nz]) (gg + 3) G B X Y T U) := (HNn.out.kept gz).at (setRow_other _ _ _ _ (by omega))
    have HV1 : Hid (Vs (y.setRow (gg + 4) #[.slice az Mz cz, .int .i64 Sz, .int .i64 Cz, .int .i64 Nz, .int .u64 Dz, .int .u64 Ez, .int .i64 sz, .int .i64 nz]) (fun x => W.heap.size ≤ x) az Mz cz kz) := vz.step fun x _ hx _ => setRow_other _ _ _ _ (by have := HWS.out; omega)
    have HB1 : Hid (Below w.heap.size w (y.setRow (gg + 4) #[.slice az Mz cz, .int .i64 Sz, .int .i64 Cz, .int .i64 Nz, .int .u64 Dz, .int .u64 Ez, .int .i64 sz, .int .i64 nz])) := bel_row (bel_bel HB.out HB.out.size gz) (by have := Hg.out; omega) _
    have HS1 : Hid (gg + 6 ≤ (y.setRow (gg + 4) #[.slice az Mz cz, .int .i64 Sz, .int .i64 Cz, .int .i64 Nz, .int .u64 Dz, .int .u64 Ez, .int .i64 sz, .int .i64 nz]).heap.size) := by have h1 := gz.size; have h2 := HWS.out; have h3 := (bel_row (Below.refl 0 y) (Nat.zero_le (gg + 4)) #[.slice az Mz cz, .int .i64 Sz, .int .i64 Cz, .int .i64 Nz, .int .u64 Dz, .int .u64 Ez, .int .i64 sz, .int .i64 nz]).size; show _ ≤ _; omega
    obtain ⟨w1, HW1⟩ : ∃ y', Hid (y.setRow (gg + 4) #[.slice az Mz cz, .int .i64 Sz, .int .i64 Cz, .int .i64 Nz, .int .u64 Dz, .int .u64 Ez, .int .i64 sz, .int .i64 nz] = y') := ⟨_, rfl⟩
    rw [HW1.out] at HA1 HL1 HR1 HB5 HN1 HV1 HB1 HS1
    clear kx hy vz gz e0 e1 e2 e3 e4 e5 e6 e7 q0 q1 q2 q3 q4 q5
    go_upto_region 13 with (refine wpList_sln rfl rfl _ _ rfl (gg + 4) az Mz cz Sz Cz Nz Dz Ez sz nz rfl rfl (by with_reducible exact HXa.out) ?_)
    rw [HW1.out]
    clear HW1 HXa
    have kx := dlc.reserve a m c k S C N D E s n xu B w1 (HI.out.on HB1.out) hxr hB
    rw [hRz] at kx
    have e0 := HL1.out.c0
    have e1 := HL1.out.c1
    have e2 := HL1.out.c2
    have e3 := HL1.out.c3
    have e4 := HL1.out.c4
    have e5 := HL1.out.c5
    have e6 := HL1.out.c6
    have e7 := HL1.out.c7
    have q0 := HN1.out.c0
    have q1 := HN1.out.c1
    have q2 := HN1.out.c2
    have q3 := HN1.out.c3
    have q4 := HN1.out.c4
    have q5 := HN1.out.c5
    go_wp2_with fail
    refine kx.mono ?_
    intro e y2 hy
    obtain ⟨ab, cb, rfl, vz, gz⟩ := hy.use rfl hMz
    have HXb := hid (HB5.out.kept gz)
    have HZb := hid (HXb.out.row ab Mz cb Sz Cz Nz Dz Ez sz nz)
    have HZl : Hid (Lm (y2.setRow (gg + 5) #[.slice ab Mz cb, .int .i64 Sz, .int .i64 Cz, .int .i64 Nz, .int .u64 Dz, .int .u64 Ez, .int .i64 sz, .int .i64 nz]) gg a m c S C N D E s n) := (HL1.out.kept gz).at (setRow_other _ _ _ _ (by omega))
    have HZr : Hid (Lm (y2.setRow (gg + 5) #[.slice ab Mz cb, .int .i64 Sz, .int .i64 Cz, .int .i64 Nz, .int .u64 Dz, .int .u64 Ez, .int .i64 sz, .int .i64 nz]) (gg + 2) none 0 0 0 0 0 0 0 0 0) := (HR1.out.kept gz).at (setRow_other _ _ _ _ (by omega))
    have HZa : Hid (Lm (y2.setRow (gg + 5) #[.slice ab Mz cb, .int .i64 Sz, .int .i64 Cz, .int .i64 Nz, .int .u64 Dz, .int .u64 Ez, .int .i64 sz, .int .i64 nz]) (gg + 4) az Mz cz Sz Cz Nz Dz Ez sz nz) := (HA1.out.kept gz).at (setRow_other _ _ _ _ (by omega))
    have HVa : Hid (Vs (y2.setRow (gg + 5) #[.slice ab Mz cb, .int .i64 Sz, .int .i64 Cz, .int .i64 Nz, .int .u64 Dz, .int .u64 Ez, .int .i64 sz, .int .i64 nz]) (fun x => W.heap.size ≤ x) az Mz cz kz) := (HV1.out.step (fun x hx _ _ => gz.block x hx)).step fun x _ hx _ => setRow_other _ _ _ _ (by have := HWS.out; omega)
    have HVb : Hid (Vs (y2.setRow (gg + 5) #[.slice ab Mz cb, .int .i64 Sz, .int .i64 Cz, .int .i64 Nz, .int .u64 Dz, .int .u64 Ez, .int .i64 sz, .int .i64 nz]) (fun x => w1.heap.size ≤ x) ab Mz cb kz) := vz.step fun x _ hx _ => setRow_other _ _ _ _ (by have := HS1.out; omega)
    have HBz : Hid (Below w.heap.size w (y2.setRow (gg + 5) #[.slice ab Mz cb, .int .i64 Sz, .int .i64 Cz, .int .i64 Nz, .int .u64 Dz, .int .u64 Ez, .int .i64 sz, .int .i64 nz])) := bel_row (bel_bel HB1.out HB1.out.size gz) (by have := Hg.out; omega) _
    obtain ⟨wz, HWz⟩ : ∃ y', Hid (y2.setRow (gg + 5) #[.slice ab Mz cb, .int .i64 Sz, .int .i64 Cz, .int .i64 Nz, .int .u64 Dz, .int .u64 Ez, .int .i64 sz, .int .i64 nz] = y') := ⟨_, rfl⟩
    rw [HWz.out] at HZb HZl HZr HZa HVa HVb HBz
    clear kx hy vz gz e0 e1 e2 e3 e4 e5 e6 e7 q0 q1 q2 q3 q4 q5 HL1 HR1 HB5 HN1 HV1 HA1
    go_upto_region 30 with (refine wpList_sln rfl rfl _ _ rfl (gg + 5) ab Mz cb Sz Cz Nz Dz Ez sz nz rfl rfl (by with_reducible exact HXb.out) ?_)
    rw [HWz.out]
    clear HWz HXb
    have hMx : Mz ≤ maxLen := Nat.le_trans HVa.out.nc HVa.out.cm
    have ks := sameLane_ az ab Mz cz Mz cb kz kz Sz Cz Nz Dz Ez sz nz Sz Cz Nz Dz Ez sz nz wz HVa.out.bs HVb.out.bs hMx hMx
    rw [slE_self] at ks
    have t0 := HZa.out.c0
    have t1 := HZa.out.c1
    have t2 := HZa.out.c2
    have t3 := HZa.out.c3
    have t4 := HZa.out.c4
    have t5 := HZa.out.c5
    have t6 := HZa.out.c6
    have t7 := HZa.out.c7
    have u0 := HZb.out.c0
    have u1 := HZb.out.c1
    have u2 := HZb.out.c2
    have u3 := HZb.out.c3
    have u4 := HZb.out.c4
    have u5 := HZb.out.c5
    have u6 := HZb.out.c6
    have u7 := HZb.out.c7
    go_wp2_with fail
    refine ks.mono ?_
    rintro e wy ⟨rfl, gy⟩
    have HYl := hid (HZl.out.kept gy)
    have HYr := hid (HZr.out.kept gy)
    have HYa := hid (HZa.out.kept gy)
    have HYV := hid (HVa.out.step fun x hx _ _ => gy.block x hx)
    have HBy : Hid (Below w.heap.size w wy) := bel_bel HBz.out HBz.out.size gy
    have r2 := (HZb.out.kept gy).c2
    clear ks gy t0 t1 t2 t3 t4 t5 t6 t7 u0 u1 u2 u3 u4 u5 u6 u7 HZl HZr HZa HZb HVa HVb
    by_cases hC : Cz = 0
    · have HR0 : Hid ((nxR ⟨k, S, C, N, D, E, s, n⟩ 2 G B X Y T U).C = 0) := by show _ = _; rw [HRR.out]; exact hC
      have e1 : nxL ⟨k, S, C, N, D, E, s, n⟩ 2 G B X Y T U = ⟨k, S, C, N, D, E, s, n⟩ := by unfold nxL; rw [if_pos HR0.out]
      have hcz : (Cz == 0) = true := by rw [hC]; rfl
      have t0 := HYl.out.c0
      have t1 := HYl.out.c1
      have t2 := HYl.out.c2
      have t3 := HYl.out.c3
      have t4 := HYl.out.c4
      have t5 := HYl.out.c5
      have t6 := HYl.out.c6
      have t7 := HYl.out.c7
      have HXa := hid (HYa.out.row a m c S C N D E s n)
      have HXr : Hid (Lm (wy.setRow (gg + 4) #[.slice a m c, .int .i64 S, .int .i64 C, .int .i64 N, .int .u64 D, .int .u64 E, .int .i64 s, .int .i64 n]) (gg + 2) none 0 0 0 0 0 0 0 0 0) := HYr.out.at (setRow_other _ _ _ _ (by omega))
      have HXB : Hid (Below w.heap.size w (wy.setRow (gg + 4) #[.slice a m c, .int .i64 S, .int .i64 C, .int .i64 N, .int .u64 D, .int .u64 E, .int .i64 s, .int .i64 n])) := bel_row HBy.out (by have := Hg.out; omega) _
      obtain ⟨wv, HWv⟩ : ∃ y', Hid (wy.setRow (gg + 4) #[.slice a m c, .int .i64 S, .int .i64 C, .int .i64 N, .int .u64 D, .int .u64 E, .int .i64 s, .int .i64 n] = y') := ⟨_, rfl⟩
      rw [HWv.out] at HXa HXr HXB
      go_upto_region 33 with (refine wpList_sln rfl rfl _ _ rfl (gg + 4) a m c S C N D E s n rfl rfl (by with_reducible exact HYa.out) ?_)
      rw [HWv.out]
      clear t0 t1 t2 t3 t4 t5 t6 t7 r2 HYa HYr HYl HBy
      have t0 := HXa.out.c0
      have t1 := HXa.out.c1
      have t2 := HXa.out.c2
      have t3 := HXa.out.c3
      have t4 := HXa.out.c4
      have t5 := HXa.out.c5
      have t6 := HXa.out.c6
      have t7 := HXa.out.c7
      go_wp2_with (refine wpList_sln rfl rfl _ _ rfl (gg + 2) a m c S C N D E s n rfl rfl (by with_reducible exact HXr.out) ?_)
      refine bodyPost_ret (v := .tuple #[.agg #[.slice a m c, .int .i64 S, .int .i64 C, .int .i64 N, .int .u64 D, .int .u64 E, .int .i64 s, .int .i64 n], .bool true]) ?_ rfl ?_
      · exact results_ln rfl _ _ (gg + 2) a m c S C N D E s n _ rfl rfl (HXr.out.row a m c S C N D E s n)
      · unfold Sx
        rw [e1]
        exact ⟨a, c, by simp only [hkl], bel_row HXB.out (by have := Hg.out; omega) _, .inl ⟨rfl, rfl, rfl⟩⟩
    · have HR0 : Hid ((nxR ⟨k, S, C, N, D, E, s, n⟩ 2 G B X Y T U).C ≠ 0) := by show _ ≠ _; rw [HRR.out]; exact hC
      have e1 : nxL ⟨k, S, C, N, D, E, s, n⟩ 2 G B X Y T U = ⟨kz, Sz, Cz, Nz, Dz, Ez, sz, nz⟩ := by unfold nxL; rw [if_neg HR0.out, HRR.out]
      have hcz : (Cz == 0) = false := beq_eq_false_iff_ne.2 hC
      have t0 := HYa.out.c0
      have t1 := HYa.out.c1
      have t2 := HYa.out.c2
      have t3 := HYa.out.c3
      have t4 := HYa.out.c4
      have t5 := HYa.out.c5
      have t6 := HYa.out.c6
      have t7 := HYa.out.c7
      go_wp2_with (refine wpList_sln rfl rfl _ _ rfl (gg + 2) az Mz cz Sz Cz Nz Dz Ez sz nz rfl rfl (by with_reducible exact HYr.out) ?_)
      refine bodyPost_ret (v := .tuple #[.agg #[.slice az Mz cz, .int .i64 Sz, .int .i64 Cz, .int .i64 Nz, .int .u64 Dz, .int .u64 Ez, .int .i64 sz, .int .i64 nz], .bool true]) ?_ rfl ?_
      · exact results_ln rfl _ _ (gg + 2) az Mz cz Sz Cz Nz Dz Ez sz nz _ rfl rfl (HYr.out.row az Mz cz Sz Cz Nz Dz Ez sz nz)
      · unfold Sx
        rw [e1]
        exact ⟨az, cz, by simp only [hMz], bel_row HBy.out (by have := Hg.out; omega) _, .inr (by simp only [hMz]; exact (HYV.out.step fun x _ hx _ => setRow_other _ _ _ _ (by have := HWS.out; omega)).wide fun x _ hx => (by have h1 := HWS.out; have h2 := Hg.out; omega))⟩
  by_cases hk3 : kd = 3
  · subst hk3
    obtain ⟨xE, hxE⟩ : ∃ z, agnE ⟨k, S, C, N, D, E, s, n⟩ = z := ⟨_, rfl⟩
    obtain ⟨xG, hxG⟩ : ∃ z, prpG ⟨k, S, C, N, D, E, s, n⟩ = z := ⟨_, rfl⟩
    have HRE : Hid (nxR ⟨k, S, C, N, D, E, s, n⟩ 3 G B X Y T U = prpL ⟨k, S, C, N, D, E, s, n⟩) := by show _ = _; unfold nxR; rw [if_neg (by decide), if_neg (by decide), if_pos rfl]
    obtain ⟨Rz, hRz⟩ : ∃ R, prpL ⟨k, S, C, N, D, E, s, n⟩ = R := ⟨_, rfl⟩
    have kx := ll.propose a m c k S C N D E s n W (HI.out.on HB.out)
    rw [hRz, hxG, hxE] at kx
    have e0 := HLl.out.c0
    have e1 := HLl.out.c1
    have e2 := HLl.out.c2
    have e3 := HLl.out.c3
    have e4 := HLl.out.c4
    have e5 := HLl.out.c5
    have e6 := HLl.out.c6
    have e7 := HLl.out.c7
    have q0 := HNn.out.c0
    have q1 := HNn.out.c1
    have q2 := HNn.out.c2
    have q3 := HNn.out.c3
    have q4 := HNn.out.c4
    have q5 := HNn.out.c5
    go_wp2_with fail
    refine kx.mono ?_
    intro e y hy
    obtain ⟨kz, Sz, Cz, Nz, Dz, Ez, sz, nz⟩ := Rz
    obtain ⟨Mz, hMz⟩ : ∃ M, kz.length = M := ⟨_, rfl⟩
    obtain ⟨az, cz, rfl, vz, gz⟩ := hy.use rfl hMz
    have HRR : Hid (nxR ⟨k, S, C, N, D, E, s, n⟩ 3 G B X Y T U = ⟨kz, Sz, Cz, Nz, Dz, Ez, sz, nz⟩) := HRE.out.trans hRz
    have NL := lnew y az Mz cz Sz Cz Nz Dz Ez sz nz
    have BB := bel_bel (B := W.heap.size) gz gz.size NL
    have HX1 := hid (Lm.new y az Mz cz Sz Cz Nz Dz Ez sz nz)
    have HV1 := hid (vz.step (w' := y.alloc (.cells #[.slice az Mz cz, .int .i64 Sz, .int .i64 Cz, .int .i64 Nz, .int .u64 Dz, .int .u64 Ez, .int .i64 sz, .int .i64 nz] 27)) fun x hx _ _ => NL.block x hx)
    have HBB := hid BB
    have HPX0 : Hid (W.heap.size ≤ y.heap.size) := gz.size
    obtain ⟨w1, HW1⟩ : ∃ y', Hid (y.alloc (.cells #[.slice az Mz cz, .int .i64 Sz, .int .i64 Cz, .int .i64 Nz, .int .u64 Dz, .int .u64 Ez, .int .i64 sz, .int .i64 nz] 27) = y') := ⟨_, rfl⟩
    obtain ⟨px, HPX⟩ : ∃ y', Hid (y.heap.size = y') := ⟨_, rfl⟩
    rw [HW1.out] at HX1 HV1 HBB
    rw [HPX.out] at HX1 HPX0
    clear kx hy vz gz NL BB e0 e1 e2 e3 e4 e5 e6 e7 q0 q1 q2 q3 q4 q5
    go_upto_region 16 with fail
    rw [HW1.out, HPX.out]
    clear HW1 HPX
    have kx := dlc.propose a m c k S C N D E s n w1 ((HI.out.on HB.out).on HBB.out)
    rw [hRz, hxG, hxE] at kx
    have HL1 := hid (HLl.out.kept HBB.out)
    have HN1 := hid (HNn.out.kept HBB.out)
    have e0 := HL1.out.c0
    have e1 := HL1.out.c1
    have e2 := HL1.out.c2
    have e3 := HL1.out.c3
    have e4 := HL1.out.c4
    have e5 := HL1.out.c5
    have e6 := HL1.out.c6
    have e7 := HL1.out.c7
    have q0 := HN1.out.c0
    have q1 := HN1.out.c1
    have q2 := HN1.out.c2
    have q3 := HN1.out.c3
    have q4 := HN1.out.c4
    have q5 := HN1.out.c5
    go_wp2_with fail
    refine kx.mono ?_
    intro e y2 hy
    obtain ⟨ab, cb, rfl, vz, gz⟩ := hy.use rfl hMz
    have NL := lnew y2 ab Mz cb Sz Cz Nz Dz Ez sz nz
    have BB2 := bel_bel (B := w1.heap.size) gz gz.size NL
    have HX2 := hid (HX1.out.kept BB2)
    have HY2 := hid (Lm.new y2 ab Mz cb Sz Cz Nz Dz Ez sz nz)
    have HVx := hid (HV1.out.step fun x hx _ _ => BB2.block x hx)
    have HVy := hid (vz.step (w' := y2.alloc (.cells #[.slice ab Mz cb, .int .i64 Sz, .int .i64 Cz, .int .i64 Nz, .int .u64 Dz, .int .u64 Ez, .int .i64 sz, .int .i64 nz] 27)) fun x hx _ _ => NL.block x hx)
    have HBC : Hid (Below W.heap.size W (y2.alloc (.cells #[.slice ab Mz cb, .int .i64 Sz, .int .i64 Cz, .int .i64 Nz, .int .u64 Dz, .int .u64 Ez, .int .i64 sz, .int .i64 nz] 27))) := bel_bel HBB.out HBB.out.size BB2
    have HPY0 : Hid (px < y2.heap.size) := Nat.lt_of_lt_of_le HX1.out.lt gz.size
    have HW1S : Hid (W.heap.size ≤ w1.heap.size) := HBB.out.size
    obtain ⟨w2, HW2⟩ : ∃ y', Hid (y2.alloc (.cells #[.slice ab Mz cb, .int .i64 Sz, .int .i64 Cz, .int .i64 Nz, .int .u64 Dz, .int .u64 Ez, .int .i64 sz, .int .i64 nz] 27) = y') := ⟨_, rfl⟩
    obtain ⟨py, HPY⟩ : ∃ y', Hid (y2.heap.size = y') := ⟨_, rfl⟩
    rw [HW2.out] at HX2 HY2 HVx HVy HBC
    rw [HPY.out] at HY2 HPY0
    clear kx hy vz gz NL BB2 e0 e1 e2 e3 e4 e5 e6 e7 q0 q1 q2 q3 q4 q5 HL1 HN1 HX1 HV1 HBB
    go_upto_region 17 with fail
    rw [HW2.out, HPY.out]
    clear HW2 HPY
    have HMl := hid (HLl.out.kept HBC.out)
    have HMr := hid (HLr.out.kept HBC.out)
    have HMa := hid (HLa.out.kept HBC.out)
    have HMb := hid (HLb.out.kept HBC.out)
    have HBw : Hid (Below w.heap.size w w2) := bel_bel HB.out HB.out.size HBC.out
    have t0 := HX2.out.c0
    have t1 := HX2.out.c1
    have t2 := HX2.out.c2
    have t3 := HX2.out.c3
    have t4 := HX2.out.c4
    have t5 := HX2.out.c5
    have t6 := HX2.out.c6
    have t7 := HX2.out.c7
    have u0 := HY2.out.c0
    have u1 := HY2.out.c1
    have u2 := HY2.out.c2
    have u3 := HY2.out.c3
    have u4 := HY2.out.c4
    have u5 := HY2.out.c5
    have u6 := HY2.out.c6
    have u7 := HY2.out.c7
    have ac0 := HMa.out.c0
    have af0 := HMa.out.fz 0
    have bc0 := HMb.out.c0
    have bf0 := HMb.out.fz 0
    have ac1 := HMa.out.c1
    have af1 := HMa.out.fz 1
    have bc1 := HMb.out.c1
    have bf1 := HMb.out.fz 1
    have ac2 := HMa.out.c2
    have af2 := HMa.out.fz 2
    have bc2 := HMb.out.c2
    have bf2 := HMb.out.fz 2
    have ac3 := HMa.out.c3
    have af3 := HMa.out.fz 3
    have bc3 := HMb.out.c3
    have bf3 := HMb.out.fz 3
    have ac4 := HMa.out.c4
    have af4 := HMa.out.fz 4
    have bc4 := HMb.out.c4
    have bf4 := HMb.out.fz 4
    have ac5 := HMa.out.c5
    have af5 := HMa.out.fz 5
    have bc5 := HMb.out.c5
    have bf5 := HMb.out.fz 5
    have ac6 := HMa.out.c6
    have af6 := HMa.out.fz 6
    have bc6 := HMb.out.c6
    have bf6 := HMb.out.fz 6
    have ac7 := HMa.out.c7
    have af7 := HMa.out.fz 7
    have bc7 := HMb.out.c7
    have bf7 := HMb.out.fz 7
    have n1 : px ≠ gg + 4 := by have h1 := HPX0.out; have h2 := HWS.out; omega
    have n2 : px ≠ gg + 5 := by have h1 := HPX0.out; have h2 := HWS.out; omega
    have n3 : py ≠ gg + 4 := by have h0 := HPY0.out; have h1 := HPX0.out; have h2 := HWS.out; omega
    have n4 : py ≠ gg + 5 := by have h0 := HPY0.out; have h1 := HPX0.out; have h2 := HWS.out; omega
    go_region
    have HZa : Hid (Lm ((((((((((((((((w2.setCell ⟨gg + 1 + 1 + 1 + 1, 0, none⟩ (.slice az Mz cz)).setCell ⟨gg + 1 + 1 + 1 + 1, 1, none⟩ (.int .i64 Sz)).setCell ⟨gg + 1 + 1 + 1 + 1, 2, none⟩ (.int .i64 Cz)).setCell ⟨gg + 1 + 1 + 1 + 1, 3, none⟩ (.int .i64 Nz)).setCell ⟨gg + 1 + 1 + 1 + 1, 4, none⟩ (.int .u64 Dz)).setCell ⟨gg + 1 + 1 + 1 + 1, 5, none⟩ (.int .u64 Ez)).setCell ⟨gg + 1 + 1 + 1 + 1, 6, none⟩ (.int .i64 sz)).setCell ⟨gg + 1 + 1 + 1 + 1, 7, none⟩ (.int .i64 nz)).setCell ⟨gg + 1 + 1 + 1 + 1 + 1, 0, none⟩ (.slice ab Mz cb)).setCell ⟨gg + 1 + 1 + 1 + 1 + 1, 1, none⟩ (.int .i64 Sz)).setCell ⟨gg + 1 + 1 + 1 + 1 + 1, 2, none⟩ (.int .i64 Cz)).setCell ⟨gg + 1 + 1 + 1 + 1 + 1, 3, none⟩ (.int .i64 Nz)).setCell ⟨gg + 1 + 1 + 1 + 1 + 1, 4, none⟩ (.int .u64 Dz)).setCell ⟨gg + 1 + 1 + 1 + 1 + 1, 5, none⟩ (.int .u64 Ez)).setCell ⟨gg + 1 + 1 + 1 + 1 + 1, 6, none⟩ (.int .i64 sz)).setCell ⟨gg + 1 + 1 + 1 + 1 + 1, 7, none⟩ (.int .i64 nz)).drew (gg + 4) az Mz cz Sz Cz Nz Dz Ez sz nz) := two_a (g := gg + 4) (h := gg + 5) HMa.out (by omega) az ab Mz cz cb Sz Cz Nz Dz Ez sz nz
    have HZb : Hid (Lm ((((((((((((((((w2.setCell ⟨gg + 1 + 1 + 1 + 1, 0, none⟩ (.slice az Mz cz)).setCell ⟨gg + 1 + 1 + 1 + 1, 1, none⟩ (.int .i64 Sz)).setCell ⟨gg + 1 + 1 + 1 + 1, 2, none⟩ (.int .i64 Cz)).setCell ⟨gg + 1 + 1 + 1 + 1, 3, none⟩ (.int .i64 Nz)).setCell ⟨gg + 1 + 1 + 1 + 1, 4, none⟩ (.int .u64 Dz)).setCell ⟨gg + 1 + 1 + 1 + 1, 5, none⟩ (.int .u64 Ez)).setCell ⟨gg + 1 + 1 + 1 + 1, 6, none⟩ (.int .i64 sz)).setCell ⟨gg + 1 + 1 + 1 + 1, 7, none⟩ (.int .i64 nz)).setCell ⟨gg + 1 + 1 + 1 + 1 + 1, 0, none⟩ (.slice ab Mz cb)).setCell ⟨gg + 1 + 1 + 1 + 1 + 1, 1, none⟩ (.int .i64 Sz)).setCell ⟨gg + 1 + 1 + 1 + 1 + 1, 2, none⟩ (.int .i64 Cz)).setCell ⟨gg + 1 + 1 + 1 + 1 + 1, 3, none⟩ (.int .i64 Nz)).setCell ⟨gg + 1 + 1 + 1 + 1 + 1, 4, none⟩ (.int .u64 Dz)).setCell ⟨gg + 1 + 1 + 1 + 1 + 1, 5, none⟩ (.int .u64 Ez)).setCell ⟨gg + 1 + 1 + 1 + 1 + 1, 6, none⟩ (.int .i64 sz)).setCell ⟨gg + 1 + 1 + 1 + 1 + 1, 7, none⟩ (.int .i64 nz)).drew (gg + 5) ab Mz cb Sz Cz Nz Dz Ez sz nz) := two_b (g := gg + 4) (h := gg + 5) HMb.out (by omega) az ab Mz cz cb Sz Cz Nz Dz Ez sz nz
    have HZl : Hid (Lm ((((((((((((((((w2.setCell ⟨gg + 1 + 1 + 1 + 1, 0, none⟩ (.slice az Mz cz)).setCell ⟨gg + 1 + 1 + 1 + 1, 1, none⟩ (.int .i64 Sz)).setCell ⟨gg + 1 + 1 + 1 + 1, 2, none⟩ (.int .i64 Cz)).setCell ⟨gg + 1 + 1 + 1 + 1, 3, none⟩ (.int .i64 Nz)).setCell ⟨gg + 1 + 1 + 1 + 1, 4, none⟩ (.int .u64 Dz)).setCell ⟨gg + 1 + 1 + 1 + 1, 5, none⟩ (.int .u64 Ez)).setCell ⟨gg + 1 + 1 + 1 + 1, 6, none⟩ (.int .i64 sz)).setCell ⟨gg + 1 + 1 + 1 + 1, 7, none⟩ (.int .i64 nz)).setCell ⟨gg + 1 + 1 + 1 + 1 + 1, 0, none⟩ (.slice ab Mz cb)).setCell ⟨gg + 1 + 1 + 1 + 1 + 1, 1, none⟩ (.int .i64 Sz)).setCell ⟨gg + 1 + 1 + 1 + 1 + 1, 2, none⟩ (.int .i64 Cz)).setCell ⟨gg + 1 + 1 + 1 + 1 + 1, 3, none⟩ (.int .i64 Nz)).setCell ⟨gg + 1 + 1 + 1 + 1 + 1, 4, none⟩ (.int .u64 Dz)).setCell ⟨gg + 1 + 1 + 1 + 1 + 1, 5, none⟩ (.int .u64 Ez)).setCell ⟨gg + 1 + 1 + 1 + 1 + 1, 6, none⟩ (.int .i64 sz)).setCell ⟨gg + 1 + 1 + 1 + 1 + 1, 7, none⟩ (.int .i64 nz)).drew gg a m c S C N D E s n) := HMl.out.at (two_other (g := gg + 4) (h := gg + 5) (by omega) (by omega) (.slice az Mz cz) (.int .i64 Sz) (.int .i64 Cz) (.int .i64 Nz) (.int .u64 Dz) (.int .u64 Ez) (.int .i64 sz) (.int .i64 nz) (.slice ab Mz cb) (.int .i64 Sz) (.int .i64 Cz) (.int .i64 Nz) (.int .u64 Dz) (.int .u64 Ez) (.int .i64 sz) (.int .i64 nz))
    have HZr : Hid (Lm ((((((((((((((((w2.setCell ⟨gg + 1 + 1 + 1 + 1, 0, none⟩ (.slice az Mz cz)).setCell ⟨gg + 1 + 1 + 1 + 1, 1, none⟩ (.int .i64 Sz)).setCell ⟨gg + 1 + 1 + 1 + 1, 2, none⟩ (.int .i64 Cz)).setCell ⟨gg + 1 + 1 + 1 + 1, 3, none⟩ (.int .i64 Nz)).setCell ⟨gg + 1 + 1 + 1 + 1, 4, none⟩ (.int .u64 Dz)).setCell ⟨gg + 1 + 1 + 1 + 1, 5, none⟩ (.int .u64 Ez)).setCell ⟨gg + 1 + 1 + 1 + 1, 6, none⟩ (.int .i64 sz)).setCell ⟨gg + 1 + 1 + 1 + 1, 7, none⟩ (.int .i64 nz)).setCell ⟨gg + 1 + 1 + 1 + 1 + 1, 0, none⟩ (.slice ab Mz cb)).setCell ⟨gg + 1 + 1 + 1 + 1 + 1, 1, none⟩ (.int .i64 Sz)).setCell ⟨gg + 1 + 1 + 1 + 1 + 1, 2, none⟩ (.int .i64 Cz)).setCell ⟨gg + 1 + 1 + 1 + 1 + 1, 3, none⟩ (.int .i64 Nz)).setCell ⟨gg + 1 + 1 + 1 + 1 + 1, 4, none⟩ (.int .u64 Dz)).setCell ⟨gg + 1 + 1 + 1 + 1 + 1, 5, none⟩ (.int .u64 Ez)).setCell ⟨gg + 1 + 1 + 1 + 1 + 1, 6, none⟩ (.int .i64 sz)).setCell ⟨gg + 1 + 1 + 1 + 1 + 1, 7, none⟩ (.int .i64 nz)).drew (gg + 2) none 0 0 0 0 0 0 0 0 0) := HMr.out.at (two_other (g := gg + 4) (h := gg + 5) (by omega) (by omega) (.slice az Mz cz) (.int .i64 Sz) (.int .i64 Cz) (.int .i64 Nz) (.int .u64 Dz) (.int .u64 Ez) (.int .i64 sz) (.int .i64 nz) (.slice ab Mz cb) (.int .i64 Sz) (.int .i64 Cz) (.int .i64 Nz) (.int .u64 Dz) (.int .u64 Ez) (.int .i64 sz) (.int .i64 nz))
    have HVa : Hid (Vs ((((((((((((((((w2.setCell ⟨gg + 1 + 1 + 1 + 1, 0, none⟩ (.slice az Mz cz)).setCell ⟨gg + 1 + 1 + 1 + 1, 1, none⟩ (.int .i64 Sz)).setCell ⟨gg + 1 + 1 + 1 + 1, 2, none⟩ (.int .i64 Cz)).setCell ⟨gg + 1 + 1 + 1 + 1, 3, none⟩ (.int .i64 Nz)).setCell ⟨gg + 1 + 1 + 1 + 1, 4, none⟩ (.int .u64 Dz)).setCell ⟨gg + 1 + 1 + 1 + 1, 5, none⟩ (.int .u64 Ez)).setCell ⟨gg + 1 + 1 + 1 + 1, 6, none⟩ (.int .i64 sz)).setCell ⟨gg + 1 + 1 + 1 + 1, 7, none⟩ (.int .i64 nz)).setCell ⟨gg + 1 + 1 + 1 + 1 + 1, 0, none⟩ (.slice ab Mz cb)).setCell ⟨gg + 1 + 1 + 1 + 1 + 1, 1, none⟩ (.int .i64 Sz)).setCell ⟨gg + 1 + 1 + 1 + 1 + 1, 2, none⟩ (.int .i64 Cz)).setCell ⟨gg + 1 + 1 + 1 + 1 + 1, 3, none⟩ (.int .i64 Nz)).setCell ⟨gg + 1 + 1 + 1 + 1 + 1, 4, none⟩ (.int .u64 Dz)).setCell ⟨gg + 1 + 1 + 1 + 1 + 1, 5, none⟩ (.int .u64 Ez)).setCell ⟨gg + 1 + 1 + 1 + 1 + 1, 6, none⟩ (.int .i64 sz)).setCell ⟨gg + 1 + 1 + 1 + 1 + 1, 7, none⟩ (.int .i64 nz)).drew (fun x => W.heap.size ≤ x) az Mz cz kz) := HVx.out.step fun x _ hx _ => two_other (g := gg + 4) (h := gg + 5) (by have := HWS.out; omega) (by have := HWS.out; omega) (.slice az Mz cz) (.int .i64 Sz) (.int .i64 Cz) (.int .i64 Nz) (.int .u64 Dz) (.int .u64 Ez) (.int .i64 sz) (.int .i64 nz) (.slice ab Mz cb) (.int .i64 Sz) (.int .i64 Cz) (.int .i64 Nz) (.int .u64 Dz) (.int .u64 Ez) (.int .i64 sz) (.int .i64 nz)
    have HVb : Hid (Vs ((((((((((((((((w2.setCell ⟨gg + 1 + 1 + 1 + 1, 0, none⟩ (.slice az Mz cz)).setCell ⟨gg + 1 + 1 + 1 + 1, 1, none⟩ (.int .i64 Sz)).setCell ⟨gg + 1 + 1 + 1 + 1, 2, none⟩ (.int .i64 Cz)).setCell ⟨gg + 1 + 1 + 1 + 1, 3, none⟩ (.int .i64 Nz)).setCell ⟨gg + 1 + 1 + 1 + 1, 4, none⟩ (.int .u64 Dz)).setCell ⟨gg + 1 + 1 + 1 + 1, 5, none⟩ (.int .u64 Ez)).setCell ⟨gg + 1 + 1 + 1 + 1, 6, none⟩ (.int .i64 sz)).setCell ⟨gg + 1 + 1 + 1 + 1, 7, none⟩ (.int .i64 nz)).setCell ⟨gg + 1 + 1 + 1 + 1 + 1, 0, none⟩ (.slice ab Mz cb)).setCell ⟨gg + 1 + 1 + 1 + 1 + 1, 1, none⟩ (.int .i64 Sz)).setCell ⟨gg + 1 + 1 + 1 + 1 + 1, 2, none⟩ (.int .i64 Cz)).setCell ⟨gg + 1 + 1 + 1 + 1 + 1, 3, none⟩ (.int .i64 Nz)).setCell ⟨gg + 1 + 1 + 1 + 1 + 1, 4, none⟩ (.int .u64 Dz)).setCell ⟨gg + 1 + 1 + 1 + 1 + 1, 5, none⟩ (.int .u64 Ez)).setCell ⟨gg + 1 + 1 + 1 + 1 + 1, 6, none⟩ (.int .i64 sz)).setCell ⟨gg + 1 + 1 + 1 + 1 + 1, 7, none⟩ (.int .i64 nz)).drew (fun x => w1.heap.size ≤ x) ab Mz cb kz) := HVy.out.step fun x _ hx _ => two_other (g := gg + 4) (h := gg + 5) (by have := HWS.out; have := HW1S.out; omega) (by have := HWS.out; have := HW1S.out; omega) (.slice az Mz cz) (.int .i64 Sz) (.int .i64 Cz) (.int .i64 Nz) (.int .u64 Dz) (.int .u64 Ez) (.int .i64 sz) (.int .i64 nz) (.slice ab Mz cb) (.int .i64 Sz) (.int .i64 Cz) (.int .i64 Nz) (.int .u64 Dz) (.int .u64 Ez) (.int .i64 sz) (.int .i64 nz)
    have HBz : Hid (Below w.heap.size w ((((((((((((((((w2.setCell ⟨gg + 1 + 1 + 1 + 1, 0, none⟩ (.slice az Mz cz)).setCell ⟨gg + 1 + 1 + 1 + 1, 1, none⟩ (.int .i64 Sz)).setCell ⟨gg + 1 + 1 + 1 + 1, 2, none⟩ (.int .i64 Cz)).setCell ⟨gg + 1 + 1 + 1 + 1, 3, none⟩ (.int .i64 Nz)).setCell ⟨gg + 1 + 1 + 1 + 1, 4, none⟩ (.int .u64 Dz)).setCell ⟨gg + 1 + 1 + 1 + 1, 5, none⟩ (.int .u64 Ez)).setCell ⟨gg + 1 + 1 + 1 + 1, 6, none⟩ (.int .i64 sz)).setCell ⟨gg + 1 + 1 + 1 + 1, 7, none⟩ (.int .i64 nz)).setCell ⟨gg + 1 + 1 + 1 + 1 + 1, 0, none⟩ (.slice ab Mz cb)).setCell ⟨gg + 1 + 1 + 1 + 1 + 1, 1, none⟩ (.int .i64 Sz)).setCell ⟨gg + 1 + 1 + 1 + 1 + 1, 2, none⟩ (.int .i64 Cz)).setCell ⟨gg + 1 + 1 + 1 + 1 + 1, 3, none⟩ (.int .i64 Nz)).setCell ⟨gg + 1 + 1 + 1 + 1 + 1, 4, none⟩ (.int .u64 Dz)).setCell ⟨gg + 1 + 1 + 1 + 1 + 1, 5, none⟩ (.int .u64 Ez)).setCell ⟨gg + 1 + 1 + 1 + 1 + 1, 6, none⟩ (.int .i64 sz)).setCell ⟨gg + 1 + 1 + 1 + 1 + 1, 7, none⟩ (.int .i64 nz)).drew) := two_bel (g := gg + 4) (h := gg + 5) HBw.out (by have := Hg.out; omega) (by have := Hg.out; omega) (.slice az Mz cz) (.int .i64 Sz) (.int .i64 Cz) (.int .i64 Nz) (.int .u64 Dz) (.int .u64 Ez) (.int .i64 sz) (.int .i64 nz) (.slice ab Mz cb) (.int .i64 Sz) (.int .i64 Cz) (.int .i64 Nz) (.int .u64 Dz) (.int .u64 Ez) (.int .i64 sz) (.int .i64 nz)
    obtain ⟨wz, HWz⟩ : ∃ y', Hid (((((((((((((((((w2.setCell ⟨gg + 1 + 1 + 1 + 1, 0, none⟩ (.slice az Mz cz)).setCell ⟨gg + 1 + 1 + 1 + 1, 1, none⟩ (.int .i64 Sz)).setCell ⟨gg + 1 + 1 + 1 + 1, 2, none⟩ (.int .i64 Cz)).setCell ⟨gg + 1 + 1 + 1 + 1, 3, none⟩ (.int .i64 Nz)).setCell ⟨gg + 1 + 1 + 1 + 1, 4, none⟩ (.int .u64 Dz)).setCell ⟨gg + 1 + 1 + 1 + 1, 5, none⟩ (.int .u64 Ez)).setCell ⟨gg + 1 + 1 + 1 + 1, 6, none⟩ (.int .i64 sz)).setCell ⟨gg + 1 + 1 + 1 + 1, 7, none⟩ (.int .i64 nz)).setCell ⟨gg + 1 + 1 + 1 + 1 + 1, 0, none⟩ (.slice ab Mz cb)).setCell ⟨gg + 1 + 1 + 1 + 1 + 1, 1, none⟩ (.int .i64 Sz)).setCell ⟨gg + 1 + 1 + 1 + 1 + 1, 2, none⟩ (.int .i64 Cz)).setCell ⟨gg + 1 + 1 + 1 + 1 + 1, 3, none⟩ (.int .i64 Nz)).setCell ⟨gg + 1 + 1 + 1 + 1 + 1, 4, none⟩ (.int .u64 Dz)).setCell ⟨gg + 1 + 1 + 1 + 1 + 1, 5, none⟩ (.int .u64 Ez)).setCell ⟨gg + 1 + 1 + 1 + 1 + 1, 6, none⟩ (.int .i64 sz)).setCell ⟨gg + 1 + 1 + 1 + 1 + 1, 7, none⟩ (.int .i64 nz)).drew = y') := ⟨_, rfl⟩
    rw [HWz.out] at HZa HZb HZl HZr HVa HVb HBz
    rw [HWz.out]
    clear HWz n1 n2 n3 n4 t0 t1 t2 t3 t4 t5 t6 t7 u0 u1 u2 u3 u4 u5 u6 u7 ac0 af0 bc0 bf0 ac1 af1 bc1 bf1 ac2 af2 bc2 bf2 ac3 af3 bc3 bf3 ac4 af4 bc4 bf4 ac5 af5 bc5 bf5 ac6 af6 bc6 bf6 ac7 af7 bc7 bf7
    have kn := fun x wx => num17_ x wx
    go_upto_region 30 with (first | (go_at_call 23; refine (kn _ _).mono ?_; rintro en wn ⟨rfl, hwn⟩; rw [hwn]; clear hwn) | fail)
    clear kn
    have hMx : Mz ≤ maxLen := Nat.le_trans HVa.out.nc HVa.out.cm
    have ks := sameLane_ az ab Mz cz Mz cb kz kz Sz Cz Nz Dz Ez sz nz Sz Cz Nz Dz Ez sz nz wz HVa.out.bs HVb.out.bs hMx hMx
    rw [slE_self] at ks
    have t0 := HZa.out.c0
    have t1 := HZa.out.c1
    have t2 := HZa.out.c2
    have t3 := HZa.out.c3
    have t4 := HZa.out.c4
    have t5 := HZa.out.c5
    have t6 := HZa.out.c6
    have t7 := HZa.out.c7
    have u0 := HZb.out.c0
    have u1 := HZb.out.c1
    have u2 := HZb.out.c2
    have u3 := HZb.out.c3
    have u4 := HZb.out.c4
    have u5 := HZb.out.c5
    have u6 := HZb.out.c6
    have u7 := HZb.out.c7
    go_wp2_with fail
    refine ks.mono ?_
    rintro e wy ⟨rfl, gy⟩
    have HYl := hid (HZl.out.kept gy)
    have HYr := hid (HZr.out.kept gy)
    have HYa := hid (HZa.out.kept gy)
    have HYV := hid (HVa.out.step fun x hx _ _ => gy.block x hx)
    have HBy : Hid (Below w.heap.size w wy) := bel_bel HBz.out HBz.out.size gy
    have r2 := (HZb.out.kept gy).c2
    clear ks gy t0 t1 t2 t3 t4 t5 t6 t7 u0 u1 u2 u3 u4 u5 u6 u7 HZl HZr HZa HZb HVa HVb
    by_cases hC : Cz = 0
    · have HR0 : Hid ((nxR ⟨k, S, C, N, D, E, s, n⟩ 3 G B X Y T U).C = 0) := by show _ = _; rw [HRR.out]; exact hC
      have e1 : nxL ⟨k, S, C, N, D, E, s, n⟩ 3 G B X Y T U = ⟨k, S, C, N, D, E, s, n⟩ := by unfold nxL; rw [if_pos HR0.out]
      have hcz : (Cz == 0) = true := by rw [hC]; rfl
      have t0 := HYl.out.c0
      have t1 := HYl.out.c1
      have t2 := HYl.out.c2
      have t3 := HYl.out.c3
      have t4 := HYl.out.c4
      have t5 := HYl.out.c5
      have t6 := HYl.out.c6
      have t7 := HYl.out.c7
      have HXa := hid (HYa.out.row a m c S C N D E s n)
      have HXr : Hid (Lm (wy.setRow (gg + 4) #[.slice a m c, .int .i64 S, .int .i64 C, .int .i64 N, .int .u64 D, .int .u64 E, .int .i64 s, .int .i64 n]) (gg + 2) none 0 0 0 0 0 0 0 0 0) := HYr.out.at (setRow_other _ _ _ _ (by omega))
      have HXB : Hid (Below w.heap.size w (wy.setRow (gg + 4) #[.slice a m c, .int .i64 S, .int .i64 C, .int .i64 N, .int .u64 D, .int .u64 E, .int .i64 s, .int .i64 n])) := bel_row HBy.out (by have := Hg.out; omega) _
      obtain ⟨wv, HWv⟩ : ∃ y', Hid (wy.setRow (gg + 4) #[.slice a m c, .int .i64 S, .int .i64 C, .int .i64 N, .int .u64 D, .int .u64 E, .int .i64 s, .int .i64 n] = y') := ⟨_, rfl⟩
      rw [HWv.out] at HXa HXr HXB
      go_upto_region 33 with (refine wpList_sln rfl rfl _ _ rfl (gg + 4) a m c S C N D E s n rfl rfl (by with_reducible exact HYa.out) ?_)
      rw [HWv.out]
      clear t0 t1 t2 t3 t4 t5 t6 t7 r2 HYa HYr HYl HBy
      have t0 := HXa.out.c0
      have t1 := HXa.out.c1
      have t2 := HXa.out.c2
      have t3 := HXa.out.c3
      have t4 := HXa.out.c4
      have t5 := HXa.out.c5
      have t6 := HXa.out.c6
      have t7 := HXa.out.c7
      go_wp2_with (refine wpList_sln rfl rfl _ _ rfl (gg + 2) a m c S C N D E s n rfl rfl (by with_reducible exact HXr.out) ?_)
      refine bodyPost_ret (v := .tuple #[.agg #[.slice a m c, .int .i64 S, .int .i64 C, .int .i64 N, .int .u64 D, .int .u64 E, .int .i64 s, .int .i64 n], .bool true]) ?_ rfl ?_
      · exact results_ln rfl _ _ (gg + 2) a m c S C N D E s n _ rfl rfl (HXr.out.row a m c S C N D E s n)
      · unfold Sx
        rw [e1]
        exact ⟨a, c, by simp only [hkl], bel_row HXB.out (by have := Hg.out; omega) _, .inl ⟨rfl, rfl, rfl⟩⟩
    · have HR0 : Hid ((nxR ⟨k, S, C, N, D, E, s, n⟩ 3 G B X Y T U).C ≠ 0) := by show _ ≠ _; rw [HRR.out]; exact hC
      have e1 : nxL ⟨k, S, C, N, D, E, s, n⟩ 3 G B X Y T U = ⟨kz, Sz, Cz, Nz, Dz, Ez, sz, nz⟩ := by unfold nxL; rw [if_neg HR0.out, HRR.out]
      have hcz : (Cz == 0) = false := beq_eq_false_iff_ne.2 hC
      have t0 := HYa.out.c0
      have t1 := HYa.out.c1
      have t2 := HYa.out.c2
      have t3 := HYa.out.c3
      have t4 := HYa.out.c4
      have t5 := HYa.out.c5
      have t6 := HYa.out.c6
      have t7 := HYa.out.c7
      go_wp2_with (refine wpList_sln rfl rfl _ _ rfl (gg + 2) az Mz cz Sz Cz Nz Dz Ez sz nz rfl rfl (by with_reducible exact HYr.out) ?_)
      refine bodyPost_ret (v := .tuple #[.agg #[.slice az Mz cz, .int .i64 Sz, .int .i64 Cz, .int .i64 Nz, .int .u64 Dz, .int .u64 Ez, .int .i64 sz, .int .i64 nz], .bool true]) ?_ rfl ?_
      · exact results_ln rfl _ _ (gg + 2) az Mz cz Sz Cz Nz Dz Ez sz nz _ rfl rfl (HYr.out.row az Mz cz Sz Cz Nz Dz Ez sz nz)
      · unfold Sx
        rw [e1]
        exact ⟨az, cz, by simp only [hMz], bel_row HBy.out (by have := Hg.out; omega) _, .inr (by simp only [hMz]; exact (HYV.out.step fun x _ hx _ => setRow_other _ _ _ _ (by have := HWS.out; omega)).wide fun x _ hx => (by have h1 := HWS.out; have h2 := Hg.out; omega))⟩
  by_cases hk4 : kd = 4
  · subst hk4
    obtain ⟨xg, hxg⟩ : ∃ z, IntKind.i64.wrap (C + G) = z := ⟨_, rfl⟩
    have hxr : i64r xg := by rw [← hxg]; exact wi_r _
    obtain ⟨xN, hxN⟩ : ∃ z, ansN ⟨k, S, C, N, D, E, s, n⟩ xg X T U B = z := ⟨_, rfl⟩
    have HRE : Hid (nxR ⟨k, S, C, N, D, E, s, n⟩ 4 G B X Y T U = ansL ⟨k, S, C, N, D, E, s, n⟩ xg X T U B) := by show _ = _; unfold nxR; rw [if_neg (by decide), if_neg (by decide), if_neg (by decide), if_pos rfl]; unfold wi; simp only [hxg]
    obtain ⟨Rz, hRz⟩ : ∃ R, ansL ⟨k, S, C, N, D, E, s, n⟩ xg X T U B = R := ⟨_, rfl⟩
    have kx := ll.answered a m c k S C N D E s n xg X T U B W (HI.out.on HB.out) hxr hX hT hU hB
    rw [hRz, hxN] at kx
    have e0 := HLl.out.c0
    have e1 := HLl.out.c1
    have e2 := HLl.out.c2
    have e3 := HLl.out.c3
    have e4 := HLl.out.c4
    have e5 := HLl.out.c5
    have e6 := HLl.out.c6
    have e7 := HLl.out.c7
    have q0 := HNn.out.c0
    have q1 := HNn.out.c1
    have q2 := HNn.out.c2
    have q3 := HNn.out.c3
    have q4 := HNn.out.c4
    have q5 := HNn.out.c5
    go_wp2_with fail
    refine kx.mono ?_
    intro e y hy
    obtain ⟨kz, Sz, Cz, Nz, Dz, Ez, sz, nz⟩ := Rz
    obtain ⟨Mz, hMz⟩ : ∃ M, kz.length = M := ⟨_, rfl⟩
    obtain ⟨az, cz, rfl, vz, gz⟩ := hy.use rfl hMz
    have HRR : Hid (nxR ⟨k, S, C, N, D, E, s, n⟩ 4 G B X Y T U = ⟨kz, Sz, Cz, Nz, Dz, Ez, sz, nz⟩) := HRE.out.trans hRz
    have NL := lnew y az Mz cz Sz Cz Nz Dz Ez sz nz
    have BB := bel_bel (B := W.heap.size) gz gz.size NL
    have HX1 := hid (Lm.new y az Mz cz Sz Cz Nz Dz Ez sz nz)
    have HV1 := hid (vz.step (w' := y.alloc (.cells #[.slice az Mz cz, .int .i64 Sz, .int .i64 Cz, .int .i64 Nz, .int .u64 Dz, .int .u64 Ez, .int .i64 sz, .int .i64 nz] 27)) fun x hx _ _ => NL.block x hx)
    have HBB := hid BB
    have HPX0 : Hid (W.heap.size ≤ y.heap.size) := gz.size
    obtain ⟨w1, HW1⟩ : ∃ y', Hid (y.alloc (.cells #[.slice az Mz cz, .int .i64 Sz, .int .i64 Cz, .int .i64 Nz, .int .u64 Dz, .int .u64 Ez, .int .i64 sz, .int .i64 nz] 27) = y') := ⟨_, rfl⟩
    obtain ⟨px, HPX⟩ : ∃ y', Hid (y.heap.size = y') := ⟨_, rfl⟩
    rw [HW1.out] at HX1 HV1 HBB
    rw [HPX.out] at HX1 HPX0
    clear kx hy vz gz NL BB e0 e1 e2 e3 e4 e5 e6 e7 q0 q1 q2 q3 q4 q5
    go_upto_region 21 with fail
    rw [HW1.out, HPX.out]
    clear HW1 HPX
    have kx := dlc.answered a m c k S C N D E s n xg X T U B w1 ((HI.out.on HB.out).on HBB.out) hxr hX hT hU hB
    rw [hRz, hxN] at kx
    have HL1 := hid (HLl.out.kept HBB.out)
    have HN1 := hid (HNn.out.kept HBB.out)
    have e0 := HL1.out.c0
    have e1 := HL1.out.c1
    have e2 := HL1.out.c2
    have e3 := HL1.out.c3
    have e4 := HL1.out.c4
    have e5 := HL1.out.c5
    have e6 := HL1.out.c6
    have e7 := HL1.out.c7
    have q0 := HN1.out.c0
    have q1 := HN1.out.c1
    have q2 := HN1.out.c2
    have q3 := HN1.out.c3
    have q4 := HN1.out.c4
    have q5 := HN1.out.c5
    go_wp2_with fail
    refine kx.mono ?_
    intro e y2 hy
    obtain ⟨ab, cb, rfl, vz, gz⟩ := hy.use rfl hMz
    have NL := lnew y2 ab Mz cb Sz Cz Nz Dz Ez sz nz
    have BB2 := bel_bel (B := w1.heap.size) gz gz.size NL
    have HX2 := hid (HX1.out.kept BB2)
    have HY2 := hid (Lm.new y2 ab Mz cb Sz Cz Nz Dz Ez sz nz)
    have HVx := hid (HV1.out.step fun x hx _ _ => BB2.block x hx)
    have HVy := hid (vz.step (w' := y2.alloc (.cells #[.slice ab Mz cb, .int .i64 Sz, .int .i64 Cz, .int .i64 Nz, .int .u64 Dz, .int .u64 Ez, .int .i64 sz, .int .i64 nz] 27)) fun x hx _ _ => NL.block x hx)
    have HBC : Hid (Below W.heap.size W (y2.alloc (.cells #[.slice ab Mz cb, .int .i64 Sz, .int .i64 Cz, .int .i64 Nz, .int .u64 Dz, .int .u64 Ez, .int .i64 sz, .int .i64 nz] 27))) := bel_bel HBB.out HBB.out.size BB2
    have HPY0 : Hid (px < y2.heap.size) := Nat.lt_of_lt_of_le HX1.out.lt gz.size
    have HW1S : Hid (W.heap.size ≤ w1.heap.size) := HBB.out.size
    obtain ⟨w2, HW2⟩ : ∃ y', Hid (y2.alloc (.cells #[.slice ab Mz cb, .int .i64 Sz, .int .i64 Cz, .int .i64 Nz, .int .u64 Dz, .int .u64 Ez, .int .i64 sz, .int .i64 nz] 27) = y') := ⟨_, rfl⟩
    obtain ⟨py, HPY⟩ : ∃ y', Hid (y2.heap.size = y') := ⟨_, rfl⟩
    rw [HW2.out] at HX2 HY2 HVx HVy HBC
    rw [HPY.out] at HY2 HPY0
    clear kx hy vz gz NL BB2 e0 e1 e2 e3 e4 e5 e6 e7 q0 q1 q2 q3 q4 q5 HL1 HN1 HX1 HV1 HBB
    go_upto_region 22 with fail
    rw [HW2.out, HPY.out]
    clear HW2 HPY
    have HMl := hid (HLl.out.kept HBC.out)
    have HMr := hid (HLr.out.kept HBC.out)
    have HMa := hid (HLa.out.kept HBC.out)
    have HMb := hid (HLb.out.kept HBC.out)
    have HBw : Hid (Below w.heap.size w w2) := bel_bel HB.out HB.out.size HBC.out
    have t0 := HX2.out.c0
    have t1 := HX2.out.c1
    have t2 := HX2.out.c2
    have t3 := HX2.out.c3
    have t4 := HX2.out.c4
    have t5 := HX2.out.c5
    have t6 := HX2.out.c6
    have t7 := HX2.out.c7
    have u0 := HY2.out.c0
    have u1 := HY2.out.c1
    have u2 := HY2.out.c2
    have u3 := HY2.out.c3
    have u4 := HY2.out.c4
    have u5 := HY2.out.c5
    have u6 := HY2.out.c6
    have u7 := HY2.out.c7
    have ac0 := HMa.out.c0
    have af0 := HMa.out.fz 0
    have bc0 := HMb.out.c0
    have bf0 := HMb.out.fz 0
    have ac1 := HMa.out.c1
    have af1 := HMa.out.fz 1
    have bc1 := HMb.out.c1
    have bf1 := HMb.out.fz 1
    have ac2 := HMa.out.c2
    have af2 := HMa.out.fz 2
    have bc2 := HMb.out.c2
    have bf2 := HMb.out.fz 2
    have ac3 := HMa.out.c3
    have af3 := HMa.out.fz 3
    have bc3 := HMb.out.c3
    have bf3 := HMb.out.fz 3
    have ac4 := HMa.out.c4
    have af4 := HMa.out.fz 4
    have bc4 := HMb.out.c4
    have bf4 := HMb.out.fz 4
    have ac5 := HMa.out.c5
    have af5 := HMa.out.fz 5
    have bc5 := HMb.out.c5
    have bf5 := HMb.out.fz 5
    have ac6 := HMa.out.c6
    have af6 := HMa.out.fz 6
    have bc6 := HMb.out.c6
    have bf6 := HMb.out.fz 6
    have ac7 := HMa.out.c7
    have af7 := HMa.out.fz 7
    have bc7 := HMb.out.c7
    have bf7 := HMb.out.fz 7
    have n1 : px ≠ gg + 4 := by have h1 := HPX0.out; have h2 := HWS.out; omega
    have n2 : px ≠ gg + 5 := by have h1 := HPX0.out; have h2 := HWS.out; omega
    have n3 : py ≠ gg + 4 := by have h0 := HPY0.out; have h1 := HPX0.out; have h2 := HWS.out; omega
    have n4 : py ≠ gg + 5 := by have h0 := HPY0.out; have h1 := HPX0.out; have h2 := HWS.out; omega
    go_region
    have HZa : Hid (Lm ((((((((((((((((w2.setCell ⟨gg + 1 + 1 + 1 + 1, 0, none⟩ (.slice az Mz cz)).setCell ⟨gg + 1 + 1 + 1 + 1, 1, none⟩ (.int .i64 Sz)).setCell ⟨gg + 1 + 1 + 1 + 1, 2, none⟩ (.int .i64 Cz)).setCell ⟨gg + 1 + 1 + 1 + 1, 3, none⟩ (.int .i64 Nz)).setCell ⟨gg + 1 + 1 + 1 + 1, 4, none⟩ (.int .u64 Dz)).setCell ⟨gg + 1 + 1 + 1 + 1, 5, none⟩ (.int .u64 Ez)).setCell ⟨gg + 1 + 1 + 1 + 1, 6, none⟩ (.int .i64 sz)).setCell ⟨gg + 1 + 1 + 1 + 1, 7, none⟩ (.int .i64 nz)).setCell ⟨gg + 1 + 1 + 1 + 1 + 1, 0, none⟩ (.slice ab Mz cb)).setCell ⟨gg + 1 + 1 + 1 + 1 + 1, 1, none⟩ (.int .i64 Sz)).setCell ⟨gg + 1 + 1 + 1 + 1 + 1, 2, none⟩ (.int .i64 Cz)).setCell ⟨gg + 1 + 1 + 1 + 1 + 1, 3, none⟩ (.int .i64 Nz)).setCell ⟨gg + 1 + 1 + 1 + 1 + 1, 4, none⟩ (.int .u64 Dz)).setCell ⟨gg + 1 + 1 + 1 + 1 + 1, 5, none⟩ (.int .u64 Ez)).setCell ⟨gg + 1 + 1 + 1 + 1 + 1, 6, none⟩ (.int .i64 sz)).setCell ⟨gg + 1 + 1 + 1 + 1 + 1, 7, none⟩ (.int .i64 nz)).drew (gg + 4) az Mz cz Sz Cz Nz Dz Ez sz nz) := two_a (g := gg + 4) (h := gg + 5) HMa.out (by omega) az ab Mz cz cb Sz Cz Nz Dz Ez sz nz
    have HZb : Hid (Lm ((((((((((((((((w2.setCell ⟨gg + 1 + 1 + 1 + 1, 0, none⟩ (.slice az Mz cz)).setCell ⟨gg + 1 + 1 + 1 + 1, 1, none⟩ (.int .i64 Sz)).setCell ⟨gg + 1 + 1 + 1 + 1, 2, none⟩ (.int .i64 Cz)).setCell ⟨gg + 1 + 1 + 1 + 1, 3, none⟩ (.int .i64 Nz)).setCell ⟨gg + 1 + 1 + 1 + 1, 4, none⟩ (.int .u64 Dz)).setCell ⟨gg + 1 + 1 + 1 + 1, 5, none⟩ (.int .u64 Ez)).setCell ⟨gg + 1 + 1 + 1 + 1, 6, none⟩ (.int .i64 sz)).setCell ⟨gg + 1 + 1 + 1 + 1, 7, none⟩ (.int .i64 nz)).setCell ⟨gg + 1 + 1 + 1 + 1 + 1, 0, none⟩ (.slice ab Mz cb)).setCell ⟨gg + 1 + 1 + 1 + 1 + 1, 1, none⟩ (.int .i64 Sz)).setCell ⟨gg + 1 + 1 + 1 + 1 + 1, 2, none⟩ (.int .i64 Cz)).setCell ⟨gg + 1 + 1 + 1 + 1 + 1, 3, none⟩ (.int .i64 Nz)).setCell ⟨gg + 1 + 1 + 1 + 1 + 1, 4, none⟩ (.int .u64 Dz)).setCell ⟨gg + 1 + 1 + 1 + 1 + 1, 5, none⟩ (.int .u64 Ez)).setCell ⟨gg + 1 + 1 + 1 + 1 + 1, 6, none⟩ (.int .i64 sz)).setCell ⟨gg + 1 + 1 + 1 + 1 + 1, 7, none⟩ (.int .i64 nz)).drew (gg + 5) ab Mz cb Sz Cz Nz Dz Ez sz nz) := two_b (g := gg + 4) (h := gg + 5) HMb.out (by omega) az ab Mz cz cb Sz Cz Nz Dz Ez sz nz
    have HZl : Hid (Lm ((((((((((((((((w2.setCell ⟨gg + 1 + 1 + 1 + 1, 0, none⟩ (.slice az Mz cz)).setCell ⟨gg + 1 + 1 + 1 + 1, 1, none⟩ (.int .i64 Sz)).setCell ⟨gg + 1 + 1 + 1 + 1, 2, none⟩ (.int .i64 Cz)).setCell ⟨gg + 1 + 1 + 1 + 1, 3, none⟩ (.int .i64 Nz)).setCell ⟨gg + 1 + 1 + 1 + 1, 4, none⟩ (.int .u64 Dz)).setCell ⟨gg + 1 + 1 + 1 + 1, 5, none⟩ (.int .u64 Ez)).setCell ⟨gg + 1 + 1 + 1 + 1, 6, none⟩ (.int .i64 sz)).setCell ⟨gg + 1 + 1 + 1 + 1, 7, none⟩ (.int .i64 nz)).setCell ⟨gg + 1 + 1 + 1 + 1 + 1, 0, none⟩ (.slice ab Mz cb)).setCell ⟨gg + 1 + 1 + 1 + 1 + 1, 1, none⟩ (.int .i64 Sz)).setCell ⟨gg + 1 + 1 + 1 + 1 + 1, 2, none⟩ (.int .i64 Cz)).setCell ⟨gg + 1 + 1 + 1 + 1 + 1, 3, none⟩ (.int .i64 Nz)).setCell ⟨gg + 1 + 1 + 1 + 1 + 1, 4, none⟩ (.int .u64 Dz)).setCell ⟨gg + 1 + 1 + 1 + 1 + 1, 5, none⟩ (.int .u64 Ez)).setCell ⟨gg + 1 + 1 + 1 + 1 + 1, 6, none⟩ (.int .i64 sz)).setCell ⟨gg + 1 + 1 + 1 + 1 + 1, 7, none⟩ (.int .i64 nz)).drew gg a m c S C N D E s n) := HMl.out.at (two_other (g := gg + 4) (h := gg + 5) (by omega) (by omega) (.slice az Mz cz) (.int .i64 Sz) (.int .i64 Cz) (.int .i64 Nz) (.int .u64 Dz) (.int .u64 Ez) (.int .i64 sz) (.int .i64 nz) (.slice ab Mz cb) (.int .i64 Sz) (.int .i64 Cz) (.int .i64 Nz) (.int .u64 Dz) (.int .u64 Ez) (.int .i64 sz) (.int .i64 nz))
    have HZr : Hid (Lm ((((((((((((((((w2.setCell ⟨gg + 1 + 1 + 1 + 1, 0, none⟩ (.slice az Mz cz)).setCell ⟨gg + 1 + 1 + 1 + 1, 1, none⟩ (.int .i64 Sz)).setCell ⟨gg + 1 + 1 + 1 + 1, 2, none⟩ (.int .i64 Cz)).setCell ⟨gg + 1 + 1 + 1 + 1, 3, none⟩ (.int .i64 Nz)).setCell ⟨gg + 1 + 1 + 1 + 1, 4, none⟩ (.int .u64 Dz)).setCell ⟨gg + 1 + 1 + 1 + 1, 5, none⟩ (.int .u64 Ez)).setCell ⟨gg + 1 + 1 + 1 + 1, 6, none⟩ (.int .i64 sz)).setCell ⟨gg + 1 + 1 + 1 + 1, 7, none⟩ (.int .i64 nz)).setCell ⟨gg + 1 + 1 + 1 + 1 + 1, 0, none⟩ (.slice ab Mz cb)).setCell ⟨gg + 1 + 1 + 1 + 1 + 1, 1, none⟩ (.int .i64 Sz)).setCell ⟨gg + 1 + 1 + 1 + 1 + 1, 2, none⟩ (.int .i64 Cz)).setCell ⟨gg + 1 + 1 + 1 + 1 + 1, 3, none⟩ (.int .i64 Nz)).setCell ⟨gg + 1 + 1 + 1 + 1 + 1, 4, none⟩ (.int .u64 Dz)).setCell ⟨gg + 1 + 1 + 1 + 1 + 1, 5, none⟩ (.int .u64 Ez)).setCell ⟨gg + 1 + 1 + 1 + 1 + 1, 6, none⟩ (.int .i64 sz)).setCell ⟨gg + 1 + 1 + 1 + 1 + 1, 7, none⟩ (.int .i64 nz)).drew (gg + 2) none 0 0 0 0 0 0 0 0 0) := HMr.out.at (two_other (g := gg + 4) (h := gg + 5) (by omega) (by omega) (.slice az Mz cz) (.int .i64 Sz) (.int .i64 Cz) (.int .i64 Nz) (.int .u64 Dz) (.int .u64 Ez) (.int .i64 sz) (.int .i64 nz) (.slice ab Mz cb) (.int .i64 Sz) (.int .i64 Cz) (.int .i64 Nz) (.int .u64 Dz) (.int .u64 Ez) (.int .i64 sz) (.int .i64 nz))
    have HVa : Hid (Vs ((((((((((((((((w2.setCell ⟨gg + 1 + 1 + 1 + 1, 0, none⟩ (.slice az Mz cz)).setCell ⟨gg + 1 + 1 + 1 + 1, 1, none⟩ (.int .i64 Sz)).setCell ⟨gg + 1 + 1 + 1 + 1, 2, none⟩ (.int .i64 Cz)).setCell ⟨gg + 1 + 1 + 1 + 1, 3, none⟩ (.int .i64 Nz)).setCell ⟨gg + 1 + 1 + 1 + 1, 4, none⟩ (.int .u64 Dz)).setCell ⟨gg + 1 + 1 + 1 + 1, 5, none⟩ (.int .u64 Ez)).setCell ⟨gg + 1 + 1 + 1 + 1, 6, none⟩ (.int .i64 sz)).setCell ⟨gg + 1 + 1 + 1 + 1, 7, none⟩ (.int .i64 nz)).setCell ⟨gg + 1 + 1 + 1 + 1 + 1, 0, none⟩ (.slice ab Mz cb)).setCell ⟨gg + 1 + 1 + 1 + 1 + 1, 1, none⟩ (.int .i64 Sz)).setCell ⟨gg + 1 + 1 + 1 + 1 + 1, 2, none⟩ (.int .i64 Cz)).setCell ⟨gg + 1 + 1 + 1 + 1 + 1, 3, none⟩ (.int .i64 Nz)).setCell ⟨gg + 1 + 1 + 1 + 1 + 1, 4, none⟩ (.int .u64 Dz)).setCell ⟨gg + 1 + 1 + 1 + 1 + 1, 5, none⟩ (.int .u64 Ez)).setCell ⟨gg + 1 + 1 + 1 + 1 + 1, 6, none⟩ (.int .i64 sz)).setCell ⟨gg + 1 + 1 + 1 + 1 + 1, 7, none⟩ (.int .i64 nz)).drew (fun x => W.heap.size ≤ x) az Mz cz kz) := HVx.out.step fun x _ hx _ => two_other (g := gg + 4) (h := gg + 5) (by have := HWS.out; omega) (by have := HWS.out; omega) (.slice az Mz cz) (.int .i64 Sz) (.int .i64 Cz) (.int .i64 Nz) (.int .u64 Dz) (.int .u64 Ez) (.int .i64 sz) (.int .i64 nz) (.slice ab Mz cb) (.int .i64 Sz) (.int .i64 Cz) (.int .i64 Nz) (.int .u64 Dz) (.int .u64 Ez) (.int .i64 sz) (.int .i64 nz)
    have HVb : Hid (Vs ((((((((((((((((w2.setCell ⟨gg + 1 + 1 + 1 + 1, 0, none⟩ (.slice az Mz cz)).setCell ⟨gg + 1 + 1 + 1 + 1, 1, none⟩ (.int .i64 Sz)).setCell ⟨gg + 1 + 1 + 1 + 1, 2, none⟩ (.int .i64 Cz)).setCell ⟨gg + 1 + 1 + 1 + 1, 3, none⟩ (.int .i64 Nz)).setCell ⟨gg + 1 + 1 + 1 + 1, 4, none⟩ (.int .u64 Dz)).setCell ⟨gg + 1 + 1 + 1 + 1, 5, none⟩ (.int .u64 Ez)).setCell ⟨gg + 1 + 1 + 1 + 1, 6, none⟩ (.int .i64 sz)).setCell ⟨gg + 1 + 1 + 1 + 1, 7, none⟩ (.int .i64 nz)).setCell ⟨gg + 1 + 1 + 1 + 1 + 1, 0, none⟩ (.slice ab Mz cb)).setCell ⟨gg + 1 + 1 + 1 + 1 + 1, 1, none⟩ (.int .i64 Sz)).setCell ⟨gg + 1 + 1 + 1 + 1 + 1, 2, none⟩ (.int .i64 Cz)).setCell ⟨gg + 1 + 1 + 1 + 1 + 1, 3, none⟩ (.int .i64 Nz)).setCell ⟨gg + 1 + 1 + 1 + 1 + 1, 4, none⟩ (.int .u64 Dz)).setCell ⟨gg + 1 + 1 + 1 + 1 + 1, 5, none⟩ (.int .u64 Ez)).setCell ⟨gg + 1 + 1 + 1 + 1 + 1, 6, none⟩ (.int .i64 sz)).setCell ⟨gg + 1 + 1 + 1 + 1 + 1, 7, none⟩ (.int .i64 nz)).drew (fun x => w1.heap.size ≤ x) ab Mz cb kz) := HVy.out.step fun x _ hx _ => two_other (g := gg + 4) (h := gg + 5) (by have := HWS.out; have := HW1S.out; omega) (by have := HWS.out; have := HW1S.out; omega) (.slice az Mz cz) (.int .i64 Sz) (.int .i64 Cz) (.int .i64 Nz) (.int .u64 Dz) (.int .u64 Ez) (.int .i64 sz) (.int .i64 nz) (.slice ab Mz cb) (.int .i64 Sz) (.int .i64 Cz) (.int .i64 Nz) (.int .u64 Dz) (.int .u64 Ez) (.int .i64 sz) (.int .i64 nz)
    have HBz : Hid (Below w.heap.size w ((((((((((((((((w2.setCell ⟨gg + 1 + 1 + 1 + 1, 0, none⟩ (.slice az Mz cz)).setCell ⟨gg + 1 + 1 + 1 + 1, 1, none⟩ (.int .i64 Sz)).setCell ⟨gg + 1 + 1 + 1 + 1, 2, none⟩ (.int .i64 Cz)).setCell ⟨gg + 1 + 1 + 1 + 1, 3, none⟩ (.int .i64 Nz)).setCell ⟨gg + 1 + 1 + 1 + 1, 4, none⟩ (.int .u64 Dz)).setCell ⟨gg + 1 + 1 + 1 + 1, 5, none⟩ (.int .u64 Ez)).setCell ⟨gg + 1 + 1 + 1 + 1, 6, none⟩ (.int .i64 sz)).setCell ⟨gg + 1 + 1 + 1 + 1, 7, none⟩ (.int .i64 nz)).setCell ⟨gg + 1 + 1 + 1 + 1 + 1, 0, none⟩ (.slice ab Mz cb)).setCell ⟨gg + 1 + 1 + 1 + 1 + 1, 1, none⟩ (.int .i64 Sz)).setCell ⟨gg + 1 + 1 + 1 + 1 + 1, 2, none⟩ (.int .i64 Cz)).setCell ⟨gg + 1 + 1 + 1 + 1 + 1, 3, none⟩ (.int .i64 Nz)).setCell ⟨gg + 1 + 1 + 1 + 1 + 1, 4, none⟩ (.int .u64 Dz)).setCell ⟨gg + 1 + 1 + 1 + 1 + 1, 5, none⟩ (.int .u64 Ez)).setCell ⟨gg + 1 + 1 + 1 + 1 + 1, 6, none⟩ (.int .i64 sz)).setCell ⟨gg + 1 + 1 + 1 + 1 + 1, 7, none⟩ (.int .i64 nz)).drew) := two_bel (g := gg + 4) (h := gg + 5) HBw.out (by have := Hg.out; omega) (by have := Hg.out; omega) (.slice az Mz cz) (.int .i64 Sz) (.int .i64 Cz) (.int .i64 Nz) (.int .u64 Dz) (.int .u64 Ez) (.int .i64 sz) (.int .i64 nz) (.slice ab Mz cb) (.int .i64 Sz) (.int .i64 Cz) (.int .i64 Nz) (.int .u64 Dz) (.int .u64 Ez) (.int .i64 sz) (.int .i64 nz)
    obtain ⟨wz, HWz⟩ : ∃ y', Hid (((((((((((((((((w2.setCell ⟨gg + 1 + 1 + 1 + 1, 0, none⟩ (.slice az Mz cz)).setCell ⟨gg + 1 + 1 + 1 + 1, 1, none⟩ (.int .i64 Sz)).setCell ⟨gg + 1 + 1 + 1 + 1, 2, none⟩ (.int .i64 Cz)).setCell ⟨gg + 1 + 1 + 1 + 1, 3, none⟩ (.int .i64 Nz)).setCell ⟨gg + 1 + 1 + 1 + 1, 4, none⟩ (.int .u64 Dz)).setCell ⟨gg + 1 + 1 + 1 + 1, 5, none⟩ (.int .u64 Ez)).setCell ⟨gg + 1 + 1 + 1 + 1, 6, none⟩ (.int .i64 sz)).setCell ⟨gg + 1 + 1 + 1 + 1, 7, none⟩ (.int .i64 nz)).setCell ⟨gg + 1 + 1 + 1 + 1 + 1, 0, none⟩ (.slice ab Mz cb)).setCell ⟨gg + 1 + 1 + 1 + 1 + 1, 1, none⟩ (.int .i64 Sz)).setCell ⟨gg + 1 + 1 + 1 + 1 + 1, 2, none⟩ (.int .i64 Cz)).setCell ⟨gg + 1 + 1 + 1 + 1 + 1, 3, none⟩ (.int .i64 Nz)).setCell ⟨gg + 1 + 1 + 1 + 1 + 1, 4, none⟩ (.int .u64 Dz)).setCell ⟨gg + 1 + 1 + 1 + 1 + 1, 5, none⟩ (.int .u64 Ez)).setCell ⟨gg + 1 + 1 + 1 + 1 + 1, 6, none⟩ (.int .i64 sz)).setCell ⟨gg + 1 + 1 + 1 + 1 + 1, 7, none⟩ (.int .i64 nz)).drew = y') := ⟨_, rfl⟩
    rw [HWz.out] at HZa HZb HZl HZr HVa HVb HBz
    rw [HWz.out]
    clear HWz n1 n2 n3 n4 t0 t1 t2 t3 t4 t5 t6 t7 u0 u1 u2 u3 u4 u5 u6 u7 ac0 af0 bc0 bf0 ac1 af1 bc1 bf1 ac2 af2 bc2 bf2 ac3 af3 bc3 bf3 ac4 af4 bc4 bf4 ac5 af5 bc5 bf5 ac6 af6 bc6 bf6 ac7 af7 bc7 bf7
    have kn := fun x wx => num17_ x wx
    go_upto_region 30 with (first | (go_at_call 23; refine (kn _ _).mono ?_; rintro en wn ⟨rfl, hwn⟩; rw [hwn]; clear hwn) | fail)
    clear kn
    have hMx : Mz ≤ maxLen := Nat.le_trans HVa.out.nc HVa.out.cm
    have ks := sameLane_ az ab Mz cz Mz cb kz kz Sz Cz Nz Dz Ez sz nz Sz Cz Nz Dz Ez sz nz wz HVa.out.bs HVb.out.bs hMx hMx
    rw [slE_self] at ks
    have t0 := HZa.out.c0
    have t1 := HZa.out.c1
    have t2 := HZa.out.c2
    have t3 := HZa.out.c3
    have t4 := HZa.out.c4
    have t5 := HZa.out.c5
    have t6 := HZa.out.c6
    have t7 := HZa.out.c7
    have u0 := HZb.out.c0
    have u1 := HZb.out.c1
    have u2 := HZb.out.c2
    have u3 := HZb.out.c3
    have u4 := HZb.out.c4
    have u5 := HZb.out.c5
    have u6 := HZb.out.c6
    have u7 := HZb.out.c7
    go_wp2_with fail
    refine ks.mono ?_
    rintro e wy ⟨rfl, gy⟩
    have HYl := hid (HZl.out.kept gy)
    have HYr := hid (HZr.out.kept gy)
    have HYa := hid (HZa.out.kept gy)
    have HYV := hid (HVa.out.step fun x hx _ _ => gy.block x hx)
    have HBy : Hid (Below w.heap.size w wy) := bel_bel HBz.out HBz.out.size gy
    have r2 := (HZb.out.kept gy).c2
    clear ks gy t0 t1 t2 t3 t4 t5 t6 t7 u0 u1 u2 u3 u4 u5 u6 u7 HZl HZr HZa HZb HVa HVb
    by_cases hC : Cz = 0
    · have HR0 : Hid ((nxR ⟨k, S, C, N, D, E, s, n⟩ 4 G B X Y T U).C = 0) := by show _ = _; rw [HRR.out]; exact hC
      have e1 : nxL ⟨k, S, C, N, D, E, s, n⟩ 4 G B X Y T U = ⟨k, S, C, N, D, E, s, n⟩ := by unfold nxL; rw [if_pos HR0.out]
      have hcz : (Cz == 0) = true := by rw [hC]; rfl
      have t0 := HYl.out.c0
      have t1 := HYl.out.c1
      have t2 := HYl.out.c2
      have t3 := HYl.out.c3
      have t4 := HYl.out.c4
      have t5 := HYl.out.c5
      have t6 := HYl.out.c6
      have t7 := HYl.out.c7
      have HXa := hid (HYa.out.row a m c S C N D E s n)
      have HXr : Hid (Lm (wy.setRow (gg + 4) #[.slice a m c, .int .i64 S, .int .i64 C, .int .i64 N, .int .u64 D, .int .u64 E, .int .i64 s, .int .i64 n]) (gg + 2) none 0 0 0 0 0 0 0 0 0) := HYr.out.at (setRow_other _ _ _ _ (by omega))
      have HXB : Hid (Below w.heap.size w (wy.setRow (gg + 4) #[.slice a m c, .int .i64 S, .int .i64 C, .int .i64 N, .int .u64 D, .int .u64 E, .int .i64 s, .int .i64 n])) := bel_row HBy.out (by have := Hg.out; omega) _
      obtain ⟨wv, HWv⟩ : ∃ y', Hid (wy.setRow (gg + 4) #[.slice a m c, .int .i64 S, .int .i64 C, .int .i64 N, .int .u64 D, .int .u64 E, .int .i64 s, .int .i64 n] = y') := ⟨_, rfl⟩
      rw [HWv.out] at HXa HXr HXB
      go_upto_region 33 with (refine wpList_sln rfl rfl _ _ rfl (gg + 4) a m c S C N D E s n rfl rfl (by with_reducible exact HYa.out) ?_)
      rw [HWv.out]
      clear t0 t1 t2 t3 t4 t5 t6 t7 r2 HYa HYr HYl HBy
      have t0 := HXa.out.c0
      have t1 := HXa.out.c1
      have t2 := HXa.out.c2
      have t3 := HXa.out.c3
      have t4 := HXa.out.c4
      have t5 := HXa.out.c5
      have t6 := HXa.out.c6
      have t7 := HXa.out.c7
      go_wp2_with (refine wpList_sln rfl rfl _ _ rfl (gg + 2) a m c S C N D E s n rfl rfl (by with_reducible exact HXr.out) ?_)
      refine bodyPost_ret (v := .tuple #[.agg #[.slice a m c, .int .i64 S, .int .i64 C, .int .i64 N, .int .u64 D, .int .u64 E, .int .i64 s, .int .i64 n], .bool true]) ?_ rfl ?_
      · exact results_ln rfl _ _ (gg + 2) a m c S C N D E s n _ rfl rfl (HXr.out.row a m c S C N D E s n)
      · unfold Sx
        rw [e1]
        exact ⟨a, c, by simp only [hkl], bel_row HXB.out (by have := Hg.out; omega) _, .inl ⟨rfl, rfl, rfl⟩⟩
    · have HR0 : Hid ((nxR ⟨k, S, C, N, D, E, s, n⟩ 4 G B X Y T U).C ≠ 0) := by show _ ≠ _; rw [HRR.out]; exact hC
      have e1 : nxL ⟨k, S, C, N, D, E, s, n⟩ 4 G B X Y T U = ⟨kz, Sz, Cz, Nz, Dz, Ez, sz, nz⟩ := by unfold nxL; rw [if_neg HR0.out, HRR.out]
      have hcz : (Cz == 0) = false := beq_eq_false_iff_ne.2 hC
      have t0 := HYa.out.c0
      have t1 := HYa.out.c1
      have t2 := HYa.out.c2
      have t3 := HYa.out.c3
      have t4 := HYa.out.c4
      have t5 := HYa.out.c5
      have t6 := HYa.out.c6
      have t7 := HYa.out.c7
      go_wp2_with (refine wpList_sln rfl rfl _ _ rfl (gg + 2) az Mz cz Sz Cz Nz Dz Ez sz nz rfl rfl (by with_reducible exact HYr.out) ?_)
      refine bodyPost_ret (v := .tuple #[.agg #[.slice az Mz cz, .int .i64 Sz, .int .i64 Cz, .int .i64 Nz, .int .u64 Dz, .int .u64 Ez, .int .i64 sz, .int .i64 nz], .bool true]) ?_ rfl ?_
      · exact results_ln rfl _ _ (gg + 2) az Mz cz Sz Cz Nz Dz Ez sz nz _ rfl rfl (HYr.out.row az Mz cz Sz Cz Nz Dz Ez sz nz)
      · unfold Sx
        rw [e1]
        exact ⟨az, cz, by simp only [hMz], bel_row HBy.out (by have := Hg.out; omega) _, .inr (by simp only [hMz]; exact (HYV.out.step fun x _ hx _ => setRow_other _ _ _ _ (by have := HWS.out; omega)).wide fun x _ hx => (by have h1 := HWS.out; have h2 := Hg.out; omega))⟩
  by_cases hk5 : kd = 5
  · subst hk5
    obtain ⟨xg, hxg⟩ : ∃ z, IntKind.i64.wrap (C + G) = z := ⟨_, rfl⟩
    have hxr : i64r xg := by rw [← hxg]; exact wi_r _
    have HRE : Hid (nxR ⟨k, S, C, N, D, E, s, n⟩ 5 G B X Y T U = opnL ⟨k, S, C, N, D, E, s, n⟩ xg X B) := by show _ = _; unfold nxR; rw [if_neg (by decide), if_neg (by decide), if_neg (by decide), if_neg (by decide), if_pos rfl]; unfold wi; simp only [hxg]
    obtain ⟨Rz, hRz⟩ : ∃ R, opnL ⟨k, S, C, N, D, E, s, n⟩ xg X B = R := ⟨_, rfl⟩
    have kx := ll.opened a m c k S C N D E s n xg X B W (HI.out.on HB.out) hxr hX hB
    rw [hRz] at kx
    have e0 := HLl.out.c0
    have e1 := HLl.out.c1
    have e2 := HLl.out.c2
    have e3 := HLl.out.c3
    have e4 := HLl.out.c4
    have e5 := HLl.out.c5
    have e6 := HLl.out.c6
    have e7 := HLl.out.c7
    have q0 := HNn.out.c0
    have q1 := HNn.out.c1
    have q2 := HNn.out.c2
    have q3 := HNn.out.c3
    have q4 := HNn.out.c4
    have q5 := HNn.out.c5
    go_wp2_with fail
    refine kx.mono ?_
    intro e y hy
    obtain ⟨kz, Sz, Cz, Nz, Dz, Ez, sz, nz⟩ := Rz
    obtain ⟨Mz, hMz⟩ : ∃ M, kz.length = M := ⟨_, rfl⟩
    obtain ⟨az, cz, rfl, vz, gz⟩ := hy.use rfl hMz
    have HRR : Hid (nxR ⟨k, S, C, N, D, E, s, n⟩ 5 G B X Y T U = ⟨kz, Sz, Cz, Nz, Dz, Ez, sz, nz⟩) := HRE.out.trans hRz
    have HXa := hid (HLa.out.kept gz)
    have HA1 := hid (HXa.out.row az Mz cz Sz Cz Nz Dz Ez sz nz)
    have HL1 : Hid (Lm (y.setRow (gg + 4) #[.slice az Mz cz, .int .i64 Sz, .int .i64 Cz, .int .i64 Nz, .int .u64 Dz, .int .u64 Ez, .int .i64 sz, .int .i64 nz]) gg a m c S C N D E s n) := (HLl.out.kept gz).at (setRow_other _ _ _ _ (by omega))
    have HR1 : Hid (Lm (y.setRow (gg + 4) #[.slice az Mz cz, .int .i64 Sz, .int .i64 Cz, .int .i64 Nz, .int .u64 Dz, .int .u64 Ez, .int .i64 sz, .int .i64 nz]) (gg + 2) none 0 0 0 0 0 0 0 0 0) := (HLr.out.kept gz).at (setRow_other _ _ _ _ (by omega))
    have HB5 : Hid (Lm (y.setRow (gg + 4) #[.slice az Mz cz, .int .i64 Sz, .int .i64 Cz, .int .i64 Nz, .int .u64 Dz, .int .u64 Ez, .int .i64 sz, .int .i64 nz]) (gg + 5) none 0 0 0 0 0 0 0 0 0) := (HLb.out.kept gz).at (setRow_other _ _ _ _ (by omega))
    have HN1 : Hid (Nm (y.setRow (gg + 4) #[.slice az Mz cz, .int .i64 Sz, .int .i64 Cz, .int .i64 Nz, .int .u64 Dz, .int .u64 Ez, .int .i64 sz, .int .i64 nz]) (gg + 3) G B X Y T U) := (HNn.out.kept gz).at (setRow_other _ _ _ _ (by omega))
    have HV1 : Hid (Vs (y.setRow (gg + 4) #[.slice az Mz cz, .int .i64 Sz, .int .i64 Cz, .int .i64 Nz, .int .u64 Dz, .int .u64 Ez, .int .i64 sz, .int .i64 nz]) (fun x => W.heap.size ≤ x) az Mz cz kz) := vz.step fun x _ hx _ => setRow_other _ _ _ _ (by have := HWS.out; omega)
    have HB1 : Hid (Below w.heap.size w (y.setRow (gg + 4) #[.slice az Mz cz, .int .i64 Sz, .int .i64 Cz, .int .i64 Nz, .int .u64 Dz, .int .u64 Ez, .int .i64 sz, .int .i64 nz])) := bel_row (bel_bel HB.out HB.out.size gz) (by have := Hg.out; omega) _
    have HS1 : Hid (gg + 6 ≤ (y.setRow (gg + 4) #[.slice az Mz cz, .int .i64 Sz, .int .i64 Cz, .int .i64 Nz, .int .u64 Dz, .int .u64 Ez, .int .i64 sz, .int .i64 nz]).heap.size) := by have h1 := gz.size; have h2 := HWS.out; have h3 := (bel_row (Below.refl 0 y) (Nat.zero_le (gg + 4)) #[.slice az Mz cz, .int .i64 Sz, .int .i64 Cz, .int .i64 Nz, .int .u64 Dz, .int .u64 Ez, .int .i64 sz, .int .i64 nz]).size; show _ ≤ _; omega
    obtain ⟨w1, HW1⟩ : ∃ y', Hid (y.setRow (gg + 4) #[.slice az Mz cz, .int .i64 Sz, .int .i64 Cz, .int .i64 Nz, .int .u64 Dz, .int .u64 Ez, .int .i64 sz, .int .i64 nz] = y') := ⟨_, rfl⟩
    rw [HW1.out] at HA1 HL1 HR1 HB5 HN1 HV1 HB1 HS1
    clear kx hy vz gz e0 e1 e2 e3 e4 e5 e6 e7 q0 q1 q2 q3 q4 q5
    go_upto_region 26 with (refine wpList_sln rfl rfl _ _ rfl (gg + 4) az Mz cz Sz Cz Nz Dz Ez sz nz rfl rfl (by with_reducible exact HXa.out) ?_)
    rw [HW1.out]
    clear HW1 HXa
    have kx := dlc.opened a m c k S C N D E s n xg X B w1 (HI.out.on HB1.out) hxr hX hB
    rw [hRz] at kx
    have e0 := HL1.out.c0
    have e1 := HL1.out.c1
    have e2 := HL1.out.c2
    have e3 := HL1.out.c3
    have e4 := HL1.out.c4
    have e5 := HL1.out.c5
    have e6 := HL1.out.c6
    have e7 := HL1.out.c7
    have q0 := HN1.out.c0
    have q1 := HN1.out.c1
    have q2 := HN1.out.c2
    have q3 := HN1.out.c3
    have q4 := HN1.out.c4
    have q5 := HN1.out.c5
    go_wp2_with fail
    refine kx.mono ?_
    intro e y2 hy
    obtain ⟨ab, cb, rfl, vz, gz⟩ := hy.use rfl hMz
    have HXb := hid (HB5.out.kept gz)
    have HZb := hid (HXb.out.row ab Mz cb Sz Cz Nz Dz Ez sz nz)
    have HZl : Hid (Lm (y2.setRow (gg + 5) #[.slice ab Mz cb, .int .i64 Sz, .int .i64 Cz, .int .i64 Nz, .int .u64 Dz, .int .u64 Ez, .int .i64 sz, .int .i64 nz]) gg a m c S C N D E s n) := (HL1.out.kept gz).at (setRow_other _ _ _ _ (by omega))
    have HZr : Hid (Lm (y2.setRow (gg + 5) #[.slice ab Mz cb, .int .i64 Sz, .int .i64 Cz, .int .i64 Nz, .int .u64 Dz, .int .u64 Ez, .int .i64 sz, .int .i64 nz]) (gg + 2) none 0 0 0 0 0 0 0 0 0) := (HR1.out.kept gz).at (setRow_other _ _ _ _ (by omega))
    have HZa : Hid (Lm (y2.setRow (gg + 5) #[.slice ab Mz cb, .int .i64 Sz, .int .i64 Cz, .int .i64 Nz, .int .u64 Dz, .int .u64 Ez, .int .i64 sz, .int .i64 nz]) (gg + 4) az Mz cz Sz Cz Nz Dz Ez sz nz) := (HA1.out.kept gz).at (setRow_other _ _ _ _ (by omega))
    have HVa : Hid (Vs (y2.setRow (gg + 5) #[.slice ab Mz cb, .int .i64 Sz, .int .i64 Cz, .int .i64 Nz, .int .u64 Dz, .int .u64 Ez, .int .i64 sz, .int .i64 nz]) (fun x => W.heap.size ≤ x) az Mz cz kz) := (HV1.out.step (fun x hx _ _ => gz.block x hx)).step fun x _ hx _ => setRow_other _ _ _ _ (by have := HWS.out; omega)
    have HVb : Hid (Vs (y2.setRow (gg + 5) #[.slice ab Mz cb, .int .i64 Sz, .int .i64 Cz, .int .i64 Nz, .int .u64 Dz, .int .u64 Ez, .int .i64 sz, .int .i64 nz]) (fun x => w1.heap.size ≤ x) ab Mz cb kz) := vz.step fun x _ hx _ => setRow_other _ _ _ _ (by have := HS1.out; omega)
    have HBz : Hid (Below w.heap.size w (y2.setRow (gg + 5) #[.slice ab Mz cb, .int .i64 Sz, .int .i64 Cz, .int .i64 Nz, .int .u64 Dz, .int .u64 Ez, .int .i64 sz, .int .i64 nz])) := bel_row (bel_bel HB1.out HB1.out.size gz) (by have := Hg.out; omega) _
    obtain ⟨wz, HWz⟩ : ∃ y', Hid (y2.setRow (gg + 5) #[.slice ab Mz cb, .int .i64 Sz, .int .i64 Cz, .int .i64 Nz, .int .u64 Dz, .int .u64 Ez, .int .i64 sz, .int .i64 nz] = y') := ⟨_, rfl⟩
    rw [HWz.out] at HZb HZl HZr HZa HVa HVb HBz
    clear kx hy vz gz e0 e1 e2 e3 e4 e5 e6 e7 q0 q1 q2 q3 q4 q5 HL1 HR1 HB5 HN1 HV1 HA1
    go_upto_region 30 with (refine wpList_sln rfl rfl _ _ rfl (gg + 5) ab Mz cb Sz Cz Nz Dz Ez sz nz rfl rfl (by with_reducible exact HXb.out) ?_)
    rw [HWz.out]
    clear HWz HXb
    have hMx : Mz ≤ maxLen := Nat.le_trans HVa.out.nc HVa.out.cm
    have ks := sameLane_ az ab Mz cz Mz cb kz kz Sz Cz Nz Dz Ez sz nz Sz Cz Nz Dz Ez sz nz wz HVa.out.bs HVb.out.bs hMx hMx
    rw [slE_self] at ks
    have t0 := HZa.out.c0
    have t1 := HZa.out.c1
    have t2 := HZa.out.c2
    have t3 := HZa.out.c3
    have t4 := HZa.out.c4
    have t5 := HZa.out.c5
    have t6 := HZa.out.c6
    have t7 := HZa.out.c7
    have u0 := HZb.out.c0
    have u1 := HZb.out.c1
    have u2 := HZb.out.c2
    have u3 := HZb.out.c3
    have u4 := HZb.out.c4
    have u5 := HZb.out.c5
    have u6 := HZb.out.c6
    have u7 := HZb.out.c7
    go_wp2_with fail
    refine ks.mono ?_
    rintro e wy ⟨rfl, gy⟩
    have HYl := hid (HZl.out.kept gy)
    have HYr := hid (HZr.out.kept gy)
    have HYa := hid (HZa.out.kept gy)
    have HYV := hid (HVa.out.step fun x hx _ _ => gy.block x hx)
    have HBy : Hid (Below w.heap.size w wy) := bel_bel HBz.out HBz.out.size gy
    have r2 := (HZb.out.kept gy).c2
    clear ks gy t0 t1 t2 t3 t4 t5 t6 t7 u0 u1 u2 u3 u4 u5 u6 u7 HZl HZr HZa HZb HVa HVb
    by_cases hC : Cz = 0
    · have HR0 : Hid ((nxR ⟨k, S, C, N, D, E, s, n⟩ 5 G B X Y T U).C = 0) := by show _ = _; rw [HRR.out]; exact hC
      have e1 : nxL ⟨k, S, C, N, D, E, s, n⟩ 5 G B X Y T U = ⟨k, S, C, N, D, E, s, n⟩ := by unfold nxL; rw [if_pos HR0.out]
      have hcz : (Cz == 0) = true := by rw [hC]; rfl
      have t0 := HYl.out.c0
      have t1 := HYl.out.c1
      have t2 := HYl.out.c2
      have t3 := HYl.out.c3
      have t4 := HYl.out.c4
      have t5 := HYl.out.c5
      have t6 := HYl.out.c6
      have t7 := HYl.out.c7
      have HXa := hid (HYa.out.row a m c S C N D E s n)
      have HXr : Hid (Lm (wy.setRow (gg + 4) #[.slice a m c, .int .i64 S, .int .i64 C, .int .i64 N, .int .u64 D, .int .u64 E, .int .i64 s, .int .i64 n]) (gg + 2) none 0 0 0 0 0 0 0 0 0) := HYr.out.at (setRow_other _ _ _ _ (by omega))
      have HXB : Hid (Below w.heap.size w (wy.setRow (gg + 4) #[.slice a m c, .int .i64 S, .int .i64 C, .int .i64 N, .int .u64 D, .int .u64 E, .int .i64 s, .int .i64 n])) := bel_row HBy.out (by have := Hg.out; omega) _
      obtain ⟨wv, HWv⟩ : ∃ y', Hid (wy.setRow (gg + 4) #[.slice a m c, .int .i64 S, .int .i64 C, .int .i64 N, .int .u64 D, .int .u64 E, .int .i64 s, .int .i64 n] = y') := ⟨_, rfl⟩
      rw [HWv.out] at HXa HXr HXB
      go_upto_region 33 with (refine wpList_sln rfl rfl _ _ rfl (gg + 4) a m c S C N D E s n rfl rfl (by with_reducible exact HYa.out) ?_)
      rw [HWv.out]
      clear t0 t1 t2 t3 t4 t5 t6 t7 r2 HYa HYr HYl HBy
      have t0 := HXa.out.c0
      have t1 := HXa.out.c1
      have t2 := HXa.out.c2
      have t3 := HXa.out.c3
      have t4 := HXa.out.c4
      have t5 := HXa.out.c5
      have t6 := HXa.out.c6
      have t7 := HXa.out.c7
      go_wp2_with (refine wpList_sln rfl rfl _ _ rfl (gg + 2) a m c S C N D E s n rfl rfl (by with_reducible exact HXr.out) ?_)
      refine bodyPost_ret (v := .tuple #[.agg #[.slice a m c, .int .i64 S, .int .i64 C, .int .i64 N, .int .u64 D, .int .u64 E, .int .i64 s, .int .i64 n], .bool true]) ?_ rfl ?_
      · exact results_ln rfl _ _ (gg + 2) a m c S C N D E s n _ rfl rfl (HXr.out.row a m c S C N D E s n)
      · unfold Sx
        rw [e1]
        exact ⟨a, c, by simp only [hkl], bel_row HXB.out (by have := Hg.out; omega) _, .inl ⟨rfl, rfl, rfl⟩⟩
    · have HR0 : Hid ((nxR ⟨k, S, C, N, D, E, s, n⟩ 5 G B X Y T U).C ≠ 0) := by show _ ≠ _; rw [HRR.out]; exact hC
      have e1 : nxL ⟨k, S, C, N, D, E, s, n⟩ 5 G B X Y T U = ⟨kz, Sz, Cz, Nz, Dz, Ez, sz, nz⟩ := by unfold nxL; rw [if_neg HR0.out, HRR.out]
      have hcz : (Cz == 0) = false := beq_eq_false_iff_ne.2 hC
      have t0 := HYa.out.c0
      have t1 := HYa.out.c1
      have t2 := HYa.out.c2
      have t3 := HYa.out.c3
      have t4 := HYa.out.c4
      have t5 := HYa.out.c5
      have t6 := HYa.out.c6
      have t7 := HYa.out.c7
      go_wp2_with (refine wpList_sln rfl rfl _ _ rfl (gg + 2) az Mz cz Sz Cz Nz Dz Ez sz nz rfl rfl (by with_reducible exact HYr.out) ?_)
      refine bodyPost_ret (v := .tuple #[.agg #[.slice az Mz cz, .int .i64 Sz, .int .i64 Cz, .int .i64 Nz, .int .u64 Dz, .int .u64 Ez, .int .i64 sz, .int .i64 nz], .bool true]) ?_ rfl ?_
      · exact results_ln rfl _ _ (gg + 2) az Mz cz Sz Cz Nz Dz Ez sz nz _ rfl rfl (HYr.out.row az Mz cz Sz Cz Nz Dz Ez sz nz)
      · unfold Sx
        rw [e1]
        exact ⟨az, cz, by simp only [hMz], bel_row HBy.out (by have := Hg.out; omega) _, .inr (by simp only [hMz]; exact (HYV.out.step fun x _ hx _ => setRow_other _ _ _ _ (by have := HWS.out; omega)).wide fun x _ hx => (by have h1 := HWS.out; have h2 := Hg.out; omega))⟩
  by_cases hk6 : kd = 6
  · subst hk6
    obtain ⟨xu, hxu⟩ : ∃ z, IntKind.u64.wrap (E + X) = z := ⟨_, rfl⟩
    have hxr : u64r xu := by rw [← hxu]; exact wu_r _
    have HRE : Hid (nxR ⟨k, S, C, N, D, E, s, n⟩ 6 G B X Y T U = rseL ⟨k, S, C, N, D, E, s, n⟩ xu B) := by show _ = _; unfold nxR; rw [if_neg (by decide), if_neg (by decide), if_neg (by decide), if_neg (by decide), if_neg (by decide), if_pos rfl]; unfold wu; simp only [hxu]
    obtain ⟨Rz, hRz⟩ : ∃ R, rseL ⟨k, S, C, N, D, E, s, n⟩ xu B = R := ⟨_, rfl⟩
    have kx := ll.raise a m c k S C N D E s n xu B W (HI.out.on HB.out) hxr hB
    rw [hRz] at kx
    have e0 := HLl.out.c0
    have e1 := HLl.out.c1
    have e2 := HLl.out.c2
    have e3 := HLl.out.c3
    have e4 := HLl.out.c4
    have e5 := HLl.out.c5
    have e6 := HLl.out.c6
    have e7 := HLl.out.c7
    have q0 := HNn.out.c0
    have q1 := HNn.out.c1
    have q2 := HNn.out.c2
    have q3 := HNn.out.c3
    have q4 := HNn.out.c4
    have q5 := HNn.out.c5
    go_wp2_with fail
    refine kx.mono ?_
    intro e y hy
    obtain ⟨kz, Sz, Cz, Nz, Dz, Ez, sz, nz⟩ := Rz
    obtain ⟨Mz, hMz⟩ : ∃ M, kz.length = M := ⟨_, rfl⟩
    obtain ⟨az, cz, rfl, vz, gz⟩ := hy.use rfl hMz
    have HRR : Hid (nxR ⟨k, S, C, N, D, E, s, n⟩ 6 G B X Y T U = ⟨kz, Sz, Cz, Nz, Dz, Ez, sz, nz⟩) := HRE.out.trans hRz
    have HXa := hid (HLa.out.kept gz)
    have HA1 := hid (HXa.out.row az Mz cz Sz Cz Nz Dz Ez sz nz)
    have HL1 : Hid (Lm (y.setRow (gg + 4) #[.slice az Mz cz, .int .i64 Sz, .int .i64 Cz, .int .i64 Nz, .int .u64 Dz, .int .u64 Ez, .int .i64 sz, .int .i64 nz]) gg a m c S C N D E s n) := (HLl.out.kept gz).at (setRow_other _ _ _ _ (by omega))
    have HR1 : Hid (Lm (y.setRow (gg + 4) #[.slice az Mz cz, .int .i64 Sz, .int .i64 Cz, .int .i64 Nz, .int .u64 Dz, .int .u64 Ez, .int .i64 sz, .int .i64 nz]) (gg + 2) none 0 0 0 0 0 0 0 0 0) := (HLr.out.kept gz).at (setRow_other _ _ _ _ (by omega))
    have HB5 : Hid (Lm (y.setRow (gg + 4) #[.slice az Mz cz, .int .i64 Sz, .int .i64 Cz, .int .i64 Nz, .int .u64 Dz, .int .u64 Ez, .int .i64 sz, .int .i64 nz]) (gg + 5) none 0 0 0 0 0 0 0 0 0) := (HLb.out.kept gz).at (setRow_other _ _ _ _ (by omega))
    have HN1 : Hid (Nm (y.setRow (gg + 4) #[.slice az Mz cz, .int .i64 Sz, .int .i64 Cz, .int .i64 Nz, .int .u64 Dz, .int .u64 Ez, .int .i64 sz, .int .i64 nz]) (gg + 3) G B X Y T U) := (HNn.out.kept gz).at (setRow_other _ _ _ _ (by omega))
    have HV1 : Hid (Vs (y.setRow (gg + 4) #[.slice az Mz cz, .int .i64 Sz, .int .i64 Cz, .int .i64 Nz, .int .u64 Dz, .int .u64 Ez, .int .i64 sz, .int .i64 nz]) (fun x => W.heap.size ≤ x) az Mz cz kz) := vz.step fun x _ hx _ => setRow_other _ _ _ _ (by have := HWS.out; omega)
    have HB1 : Hid (Below w.heap.size w (y.setRow (gg + 4) #[.slice az Mz cz, .int .i64 Sz, .int .i64 Cz, .int .i64 Nz, .int .u64 Dz, .int .u64 Ez, .int .i64 sz, .int .i64 nz])) := bel_row (bel_bel HB.out HB.out.size gz) (by have := Hg.out; omega) _
    have HS1 : Hid (gg + 6 ≤ (y.setRow (gg + 4) #[.slice az Mz cz, .int .i64 Sz, .int .i64 Cz, .int .i64 Nz, .int .u64 Dz, .int .u64 Ez, .int .i64 sz, .int .i64 nz]).heap.size) := by have h1 := gz.size; have h2 := HWS.out; have h3 := (bel_row (Below.refl 0 y) (Nat.zero_le (gg + 4)) #[.slice az Mz cz, .int .i64 Sz, .int .i64 Cz, .int .i64 Nz, .int .u64 Dz, .int .u64 Ez, .int .i64 sz, .int .i64 nz]).size; show _ ≤ _; omega
    obtain ⟨w1, HW1⟩ : ∃ y', Hid (y.setRow (gg + 4) #[.slice az Mz cz, .int .i64 Sz, .int .i64 Cz, .int .i64 Nz, .int .u64 Dz, .int .u64 Ez, .int .i64 sz, .int .i64 nz] = y') := ⟨_, rfl⟩
    rw [HW1.out] at HA1 HL1 HR1 HB5 HN1 HV1 HB1 HS1
    clear kx hy vz gz e0 e1 e2 e3 e4 e5 e6 e7 q0 q1 q2 q3 q4 q5
    go_upto_region 29 with (refine wpList_sln rfl rfl _ _ rfl (gg + 4) az Mz cz Sz Cz Nz Dz Ez sz nz rfl rfl (by with_reducible exact HXa.out) ?_)
    rw [HW1.out]
    clear HW1 HXa
    have kx := dlc.raise a m c k S C N D E s n xu B w1 (HI.out.on HB1.out) hxr hB
    rw [hRz] at kx
    have e0 := HL1.out.c0
    have e1 := HL1.out.c1
    have e2 := HL1.out.c2
    have e3 := HL1.out.c3
    have e4 := HL1.out.c4
    have e5 := HL1.out.c5
    have e6 := HL1.out.c6
    have e7 := HL1.out.c7
    have q0 := HN1.out.c0
    have q1 := HN1.out.c1
    have q2 := HN1.out.c2
    have q3 := HN1.out.c3
    have q4 := HN1.out.c4
    have q5 := HN1.out.c5
    go_wp2_with fail
    refine kx.mono ?_
    intro e y2 hy
    obtain ⟨ab, cb, rfl, vz, gz⟩ := hy.use rfl hMz
    have HXb := hid (HB5.out.kept gz)
    have HZb := hid (HXb.out.row ab Mz cb Sz Cz Nz Dz Ez sz nz)
    have HZl : Hid (Lm (y2.setRow (gg + 5) #[.slice ab Mz cb, .int .i64 Sz, .int .i64 Cz, .int .i64 Nz, .int .u64 Dz, .int .u64 Ez, .int .i64 sz, .int .i64 nz]) gg a m c S C N D E s n) := (HL1.out.kept gz).at (setRow_other _ _ _ _ (by omega))
    have HZr : Hid (Lm (y2.setRow (gg + 5) #[.slice ab Mz cb, .int .i64 Sz, .int .i64 Cz, .int .i64 Nz, .int .u64 Dz, .int .u64 Ez, .int .i64 sz, .int .i64 nz]) (gg + 2) none 0 0 0 0 0 0 0 0 0) := (HR1.out.kept gz).at (setRow_other _ _ _ _ (by omega))
    have HZa : Hid (Lm (y2.setRow (gg + 5) #[.slice ab Mz cb, .int .i64 Sz, .int .i64 Cz, .int .i64 Nz, .int .u64 Dz, .int .u64 Ez, .int .i64 sz, .int .i64 nz]) (gg + 4) az Mz cz Sz Cz Nz Dz Ez sz nz) := (HA1.out.kept gz).at (setRow_other _ _ _ _ (by omega))
    have HVa : Hid (Vs (y2.setRow (gg + 5) #[.slice ab Mz cb, .int .i64 Sz, .int .i64 Cz, .int .i64 Nz, .int .u64 Dz, .int .u64 Ez, .int .i64 sz, .int .i64 nz]) (fun x => W.heap.size ≤ x) az Mz cz kz) := (HV1.out.step (fun x hx _ _ => gz.block x hx)).step fun x _ hx _ => setRow_other _ _ _ _ (by have := HWS.out; omega)
    have HVb : Hid (Vs (y2.setRow (gg + 5) #[.slice ab Mz cb, .int .i64 Sz, .int .i64 Cz, .int .i64 Nz, .int .u64 Dz, .int .u64 Ez, .int .i64 sz, .int .i64 nz]) (fun x => w1.heap.size ≤ x) ab Mz cb kz) := vz.step fun x _ hx _ => setRow_other _ _ _ _ (by have := HS1.out; omega)
    have HBz : Hid (Below w.heap.size w (y2.setRow (gg + 5) #[.slice ab Mz cb, .int .i64 Sz, .int .i64 Cz, .int .i64 Nz, .int .u64 Dz, .int .u64 Ez, .int .i64 sz, .int .i64 nz])) := bel_row (bel_bel HB1.out HB1.out.size gz) (by have := Hg.out; omega) _
    obtain ⟨wz, HWz⟩ : ∃ y', Hid (y2.setRow (gg + 5) #[.slice ab Mz cb, .int .i64 Sz, .int .i64 Cz, .int .i64 Nz, .int .u64 Dz, .int .u64 Ez, .int .i64 sz, .int .i64 nz] = y') := ⟨_, rfl⟩
    rw [HWz.out] at HZb HZl HZr HZa HVa HVb HBz
    clear kx hy vz gz e0 e1 e2 e3 e4 e5 e6 e7 q0 q1 q2 q3 q4 q5 HL1 HR1 HB5 HN1 HV1 HA1
    go_upto_region 30 with (refine wpList_sln rfl rfl _ _ rfl (gg + 5) ab Mz cb Sz Cz Nz Dz Ez sz nz rfl rfl (by with_reducible exact HXb.out) ?_)
    rw [HWz.out]
    clear HWz HXb
    have hMx : Mz ≤ maxLen := Nat.le_trans HVa.out.nc HVa.out.cm
    have ks := sameLane_ az ab Mz cz Mz cb kz kz Sz Cz Nz Dz Ez sz nz Sz Cz Nz Dz Ez sz nz wz HVa.out.bs HVb.out.bs hMx hMx
    rw [slE_self] at ks
    have t0 := HZa.out.c0
    have t1 := HZa.out.c1
    have t2 := HZa.out.c2
    have t3 := HZa.out.c3
    have t4 := HZa.out.c4
    have t5 := HZa.out.c5
    have t6 := HZa.out.c6
    have t7 := HZa.out.c7
    have u0 := HZb.out.c0
    have u1 := HZb.out.c1
    have u2 := HZb.out.c2
    have u3 := HZb.out.c3
    have u4 := HZb.out.c4
    have u5 := HZb.out.c5
    have u6 := HZb.out.c6
    have u7 := HZb.out.c7
    go_wp2_with fail
    refine ks.mono ?_
    rintro e wy ⟨rfl, gy⟩
    have HYl := hid (HZl.out.kept gy)
    have HYr := hid (HZr.out.kept gy)
    have HYa := hid (HZa.out.kept gy)
    have HYV := hid (HVa.out.step fun x hx _ _ => gy.block x hx)
    have HBy : Hid (Below w.heap.size w wy) := bel_bel HBz.out HBz.out.size gy
    have r2 := (HZb.out.kept gy).c2
    clear ks gy t0 t1 t2 t3 t4 t5 t6 t7 u0 u1 u2 u3 u4 u5 u6 u7 HZl HZr HZa HZb HVa HVb
    by_cases hC : Cz = 0
    · have HR0 : Hid ((nxR ⟨k, S, C, N, D, E, s, n⟩ 6 G B X Y T U).C = 0) := by show _ = _; rw [HRR.out]; exact hC
      have e1 : nxL ⟨k, S, C, N, D, E, s, n⟩ 6 G B X Y T U = ⟨k, S, C, N, D, E, s, n⟩ := by unfold nxL; rw [if_pos HR0.out]
      have hcz : (Cz == 0) = true := by rw [hC]; rfl
      have t0 := HYl.out.c0
      have t1 := HYl.out.c1
      have t2 := HYl.out.c2
      have t3 := HYl.out.c3
      have t4 := HYl.out.c4
      have t5 := HYl.out.c5
      have t6 := HYl.out.c6
      have t7 := HYl.out.c7
      have HXa := hid (HYa.out.row a m c S C N D E s n)
      have HXr : Hid (Lm (wy.setRow (gg + 4) #[.slice a m c, .int .i64 S, .int .i64 C, .int .i64 N, .int .u64 D, .int .u64 E, .int .i64 s, .int .i64 n]) (gg + 2) none 0 0 0 0 0 0 0 0 0) := HYr.out.at (setRow_other _ _ _ _ (by omega))
      have HXB : Hid (Below w.heap.size w (wy.setRow (gg + 4) #[.slice a m c, .int .i64 S, .int .i64 C, .int .i64 N, .int .u64 D, .int .u64 E, .int .i64 s, .int .i64 n])) := bel_row HBy.out (by have := Hg.out; omega) _
      obtain ⟨wv, HWv⟩ : ∃ y', Hid (wy.setRow (gg + 4) #[.slice a m c, .int .i64 S, .int .i64 C, .int .i64 N, .int .u64 D, .int .u64 E, .int .i64 s, .int .i64 n] = y') := ⟨_, rfl⟩
      rw [HWv.out] at HXa HXr HXB
      go_upto_region 33 with (refine wpList_sln rfl rfl _ _ rfl (gg + 4) a m c S C N D E s n rfl rfl (by with_reducible exact HYa.out) ?_)
      rw [HWv.out]
      clear t0 t1 t2 t3 t4 t5 t6 t7 r2 HYa HYr HYl HBy
      have t0 := HXa.out.c0
      have t1 := HXa.out.c1
      have t2 := HXa.out.c2
      have t3 := HXa.out.c3
      have t4 := HXa.out.c4
      have t5 := HXa.out.c5
      have t6 := HXa.out.c6
      have t7 := HXa.out.c7
      go_wp2_with (refine wpList_sln rfl rfl _ _ rfl (gg + 2) a m c S C N D E s n rfl rfl (by with_reducible exact HXr.out) ?_)
      refine bodyPost_ret (v := .tuple #[.agg #[.slice a m c, .int .i64 S, .int .i64 C, .int .i64 N, .int .u64 D, .int .u64 E, .int .i64 s, .int .i64 n], .bool true]) ?_ rfl ?_
      · exact results_ln rfl _ _ (gg + 2) a m c S C N D E s n _ rfl rfl (HXr.out.row a m c S C N D E s n)
      · unfold Sx
        rw [e1]
        exact ⟨a, c, by simp only [hkl], bel_row HXB.out (by have := Hg.out; omega) _, .inl ⟨rfl, rfl, rfl⟩⟩
    · have HR0 : Hid ((nxR ⟨k, S, C, N, D, E, s, n⟩ 6 G B X Y T U).C ≠ 0) := by show _ ≠ _; rw [HRR.out]; exact hC
      have e1 : nxL ⟨k, S, C, N, D, E, s, n⟩ 6 G B X Y T U = ⟨kz, Sz, Cz, Nz, Dz, Ez, sz, nz⟩ := by unfold nxL; rw [if_neg HR0.out, HRR.out]
      have hcz : (Cz == 0) = false := beq_eq_false_iff_ne.2 hC
      have t0 := HYa.out.c0
      have t1 := HYa.out.c1
      have t2 := HYa.out.c2
      have t3 := HYa.out.c3
      have t4 := HYa.out.c4
      have t5 := HYa.out.c5
      have t6 := HYa.out.c6
      have t7 := HYa.out.c7
      go_wp2_with (refine wpList_sln rfl rfl _ _ rfl (gg + 2) az Mz cz Sz Cz Nz Dz Ez sz nz rfl rfl (by with_reducible exact HYr.out) ?_)
      refine bodyPost_ret (v := .tuple #[.agg #[.slice az Mz cz, .int .i64 Sz, .int .i64 Cz, .int .i64 Nz, .int .u64 Dz, .int .u64 Ez, .int .i64 sz, .int .i64 nz], .bool true]) ?_ rfl ?_
      · exact results_ln rfl _ _ (gg + 2) az Mz cz Sz Cz Nz Dz Ez sz nz _ rfl rfl (HYr.out.row az Mz cz Sz Cz Nz Dz Ez sz nz)
      · unfold Sx
        rw [e1]
        exact ⟨az, cz, by simp only [hMz], bel_row HBy.out (by have := Hg.out; omega) _, .inr (by simp only [hMz]; exact (HYV.out.step fun x _ hx _ => setRow_other _ _ _ _ (by have := HWS.out; omega)).wide fun x _ hx => (by have h1 := HWS.out; have h2 := Hg.out; omega))⟩
  have hb1 : (kd == 1) = false := beq_eq_false_iff_ne.2 hk1
  have hb2 : (kd == 2) = false := beq_eq_false_iff_ne.2 hk2
  have hb3 : (kd == 3) = false := beq_eq_false_iff_ne.2 hk3
  have hb4 : (kd == 4) = false := beq_eq_false_iff_ne.2 hk4
  have hb5 : (kd == 5) = false := beq_eq_false_iff_ne.2 hk5
  have hb6 : (kd == 6) = false := beq_eq_false_iff_ne.2 hk6
  have HR0 : Hid ((nxR ⟨k, S, C, N, D, E, s, n⟩ kd G B X Y T U).C = 0) := by show _ = _; unfold nxR; rw [if_neg hk1, if_neg hk2, if_neg hk3, if_neg hk4, if_neg hk5, if_neg hk6]; rfl
  have e1 : nxL ⟨k, S, C, N, D, E, s, n⟩ kd G B X Y T U = ⟨k, S, C, N, D, E, s, n⟩ := by unfold nxL; rw [if_pos HR0.out]
  have t0 := HLl.out.c0
  have t1 := HLl.out.c1
  have t2 := HLl.out.c2
  have t3 := HLl.out.c3
  have t4 := HLl.out.c4
  have t5 := HLl.out.c5
  have t6 := HLl.out.c6
  have t7 := HLl.out.c7
  go_wp2_with (refine wpList_sln rfl rfl _ _ rfl (gg + 2) a m c S C N D E s n rfl rfl (by with_reducible exact HLr.out) ?_)
  refine bodyPost_ret (v := .tuple #[.agg #[.slice a m c, .int .i64 S, .int .i64 C, .int .i64 N, .int .u64 D, .int .u64 E, .int .i64 s, .int .i64 n], .bool true]) ?_ rfl ?_
  · exact results_ln rfl _ _ (gg + 2) a m c S C N D E s n _ rfl rfl (HLr.out.row a m c S C N D E s n)
  · unfold Sx
    rw [e1]
    exact ⟨a, c, by simp only [hkl], bel_row HB.out (by have := Hg.out; omega) _, .inl ⟨rfl, rfl, rfl⟩⟩
end Go.Proofs.Ythhakecimnnnfaa
