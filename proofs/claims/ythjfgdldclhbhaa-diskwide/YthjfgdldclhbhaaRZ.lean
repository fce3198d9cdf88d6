import Derived.Test.YthjfgdldclhbhaaRX
import Derived.Test.YthjfgdldclhbhaaMH
namespace Go.Proofs.Ythjfgdldclhbhaa
set_option maxRecDepth 100000
open Go.RowKit Go.Shelf
set_option linter.unusedVariables false

theorem Pz.trans {w0 w w1 w2 : World} {p d e k : Nat} {s2 : St} {Q N T Q1 N1 T1 : Nat → Prop} (hs : w.heap.size ≤ w1.heap.size) (h2 : ∀ b, Q1 b ∨ N1 b ∨ T1 b → Q b ∨ N b ∨ T b ∨ w.heap.size ≤ b) (h3 : Fr (fun b => Q b ∨ N b ∨ T b) w w1) (hp : Pz w0 w1 w2 p d e k s2 Q1 N1 T1) : Pz w0 w w2 p d e k s2 Q N T := by
  obtain ⟨Q2, N2, T2, a1, a2, a3⟩ := hp
  refine ⟨Q2, N2, T2, a1, fun b q => ?_, ⟨a3.os.trans h3.os, a3.tape.trans h3.tape, a3.output.trans h3.output, Nat.le_trans hs a3.size, fun b hl hn => (a3.same b (by omega) (fun q => ?_)).trans (h3.same b hl hn)⟩⟩
  · rcases a2 b q with q | q | q | q
    · exact h2 b (.inl q)
    · exact h2 b (.inr (.inl q))
    · exact h2 b (.inr (.inr q))
    · exact .inr (.inr (.inr (by omega)))
  · rcases h2 b q with q | q | q | q
    · exact hn (.inl q)
    · exact hn (.inr (.inl q))
    · exact hn (.inr (.inr q))
    · omega
theorem opIn_nil (w : World) : OpIn w none 0 0 [] none 0 0 [] none 0 0 [] := ⟨⟨rfl, by simp, .inl rfl⟩, by omega, ⟨rfl, .inl rfl⟩, by omega, ⟨rfl, .inl rfl⟩, by omega⟩
theorem plcn_ (k : Int) (n : Nat) (w : World) (hk : -9223372036854775808 ≤ k ∧ k ≤ 9223372036854775807) (h1 : 32 ≤ n) (h2 : n ≤ 8192) : Calls Try.prog 54 #[.int .i64 k, .int .i64 n] w fun e w' => ∃ q : Nat, q < n ∧ e = .returned (.int .i64 q) ∧ w' = w := by
  have a1 := Int.tmod_lt_of_pos k (show (0 : Int) < n by omega)
  have a2 := Int.lt_tmod_of_pos k (show (0 : Int) < n by omega)
  have a3 : ¬ (n : Int) = 0 := by omega
  have a4 : ((n : Int) == 0) = false := by simp; omega
  have p1 := Int.emod_nonneg (k.tmod n + n) (show (n : Int) ≠ 0 by omega)
  have p2 := Int.emod_lt_of_pos (k.tmod n + n) (show (0 : Int) < n by omega)
  have p3 := Int.tmod_eq_emod_of_nonneg (a := k.tmod n + n) (b := n) (by omega)
  have p4 : wrap64 (k.tmod n + n) = k.tmod n + n := by unfold wrap64; omega
  obtain ⟨q, hq⟩ : ∃ q : Nat, (q : Int) = (k.tmod n + n) % n := ⟨((k.tmod n + n) % n).toNat, by omega⟩
  have HL : Hid (q < n) := by show q < n; omega
  rw [← hq] at p3
  clear hq p1 p2
  go_enter Try.func54, Try.ntmps54
  go_wp2_with fail
  go_ret
  exact ⟨q, HL.out, rfl, rfl⟩
end Go.Proofs.Ythjfgdldclhbhaa
namespace Go.Proofs.Ythjfgdldclhbhaa
set_option maxRecDepth 100000
open Go.RowKit Go.Shelf
set_option linter.unusedVariables false

/-- Writes at any places, and a read behind each. -/
def Wd (w0 w w' : World) (p d e k : Nat) (s : St) (Q N T : Nat → Prop) (m : Nat) : Prop := ∃ s', Pz w0 w w' p d e k s' Q N T ∧ s'.c ≤ s.c + 2 * m ∧ s'.P.length ≤ s.P.length + m ∧ s'.k = s.k ∧ s'.n = s.n
set_option maxHeartbeats 8000000 in
theorem writes_ (w0 w : World) (p d e k : Nat) (s : St) (Q N T : Nat → Prop) (a : Option Addr) (n c : Nat) (O : Nat → Pv) (h : Py w0 w p d e k s Q N T) (hL : IsPuts w0 a n O) (hn : n ≤ 140737488355328) (hc : s.c ≤ 1000) (hp : s.P.length ≤ 1000) (hk : s.k ≤ 1000) :
    Calls Try.prog 24 #[.pointer (some ⟨p, 0, none⟩), .slice a n c] w fun en w' => en = .returned (.bool true) ∧ Wd w0 w w' p d e k s Q N T 60 := by
  have HY := hid h
  have HL := hid hL
  clear h hL
  go_enter Try.func24, Try.ntmps24
  go_wp2_with fail
  go_loopw [5] (fun i wr => ∃ j : Nat, j ≤ n ∧ j ≤ 60 ∧ i = .int .i64 j ∧ Wd w0 w wr p d e k s Q N T j) (fun i _ => n - (intOf i).toNat)
  case atStart => exact ⟨0, by omega, by omega, rfl, s, pz_below HY.out (Below.refl _ _), by omega, by omega, rfl, rfl⟩
  case round =>
    obtain ⟨j, hjn, hj60, rfl, s1, ⟨Q1, N1, T1, hy, hcov, hfr⟩, hc1, hp1, hk1, hn1⟩ := hrel
    by_cases hlt : j < n ∧ j < 60
    · obtain ⟨hl1, hl2⟩ := hlt
      have hI1 : (j : Int) < (n : Int) := by omega
      have hI2 : (j : Int) < 60 := by omega
      obtain ⟨b, off, rfl, y0, y1⟩ := HL.out.cells hl1 hy.bl
      have hok : (O j).Ok w0 := by
        rcases HL.out with h0 | ⟨b', off', e', hc'⟩
        · omega
        · exact (hc' j hl1).2
      generalize O j = o at *
      obtain ⟨oI, oA, oN, oC, oD⟩ := o
      have HOK : Hid (Bs w0 oA oN oD) := hok.b
      have hoN : oN ≤ 140737488355328 := hok.n
      have hoI : -9223372036854775808 ≤ oI ∧ oI ≤ 9223372036854775807 := hok.i
      replace y0 : wr.cell? ⟨b, off + j * 2, none⟩ = some (.int .i64 oI) := y0
      replace y1 : wr.cell? ⟨b, off + j * 2 + 1, none⟩ = some (.slice oA oN oC) := y1
      have hnn := hy.pa.dev.n
      have c1 := hy.pa.c1
      obtain ⟨r1, r2, r3, r4, r5, r6, r7, r8, R⟩ := hy.pa.ref
      have q0 := R.c0
      have kp := fun wx => plcn_ oI s1.n wx hoI hnn.1 hnn.2
      obtain ⟨nn, HNN⟩ : ∃ nn, Hid (s1.n = nn) := ⟨_, rfl⟩
      rw [HNN.out] at q0
      simp only [HNN.out] at kp
      have HYW := hid hy
      have HCOV := hid hcov
      have HFR := hid hfr
      have hsz := hfr.size
      clear hok hy hcov hfr R
      go_wp2_with fail
      go_region_held (fun wx => wx.cell? ⟨b, off + j * 2, none⟩ = some (.int .i64 oI) ∧ wx.cell? ⟨p, 1, none⟩ = some (.pointer (some ⟨e, 0, none⟩)) ∧ wx.cell? ⟨e, 0, none⟩ = some (.int .i64 nn)) (go_keep) (first | (go_at_call 54; refine (kp _).mono ?_; rintro en w2 ⟨q, hq, rfl, hw⟩; obtain rfl := hw.symm; clear hw))
      have BD : Below wr.heap.size wr wr.drew := ⟨rfl, rfl, rfl, Nat.le_refl _, fun _ _ => rfl⟩
      have HY2 := hid (HYW.out.below BD)
      have y1' : wr.drew.cell? ⟨b, off + j * 2 + 1, none⟩ = some (.slice oA oN oC) := y1
      have HBD := hid BD
      clear kp y0 y1 c1 q0 BD
      generalize wr.drew = w2 at *
      go_wp2_with fail
      refine (padded_ oA oN oC oD w2 (HOK.out.below HY2.out.bl) hoN).mono ?_
      rintro en w3 ⟨v, rfl, o3, g3⟩
      obtain ⟨g, cap, rfl, _, _, hg, hh, hlen⟩ := own_head o3 (by omega)
      have HPS := pad_sec HOK.out.2.1
      have HB3 := hid (hh.all hlen HPS.2)
      have HY3 := hid (HY2.out.below g3)
      have HG3 := hid (bel_bel HBD.out HBD.out.size g3)
      have hnq : ¬ Q1 g ∧ ¬ N1 g ∧ ¬ T1 g := ⟨fun x => by have := HY2.out.pa.dev.lt _ x; omega, fun x => by have := HY2.out.pa.nl _ x; omega, fun x => by have := (HY2.out.tq _ x).1; omega⟩
      obtain ⟨dv, dm, dxs, hds⟩ := HY3.out.ds
      have kw := pwrite_ p d e k s1 Q1 N1 T1 dv dm dxs (q : Int) ⟨g, 0, none⟩ 512 cap (pad oD) w3 HY3.out.pa hds HY3.out.tq HB3.out (by omega) (by omega) hnq (by omega) (by omega)
      have HLE := hid (wrS_le s1 (q : Int) (pad oD))
      generalize wrS s1 (q : Int) (pad oD) = s2 at *
      clear o3 g3 hh hlen HPS hds y1' HY2 HB3 hnq
      go_wp2_with fail
      refine kw.mono ?_
      rintro en w4 ⟨rfl, PW⟩
      obtain ⟨Q2, N2, T2, hy4, cov4, fr4⟩ := pz_pw HY3.out PW
      have hle := HLE.out
      have k1 := step1_ w0 w4 p d e k s2 Q2 N2 T2 (q : Int) false none 0 0 [] none 0 0 [] none 0 0 [] hy4 (opIn_nil w0) (by omega) (by omega) (by omega) ⟨by omega, by omega, by omega⟩
      have HC4 := hid cov4
      have HF4 := hid fr4
      have HLR := hid (rdS_le s2 (q : Int))
      generalize rdS s2 (q : Int) = s3 at *
      clear kw PW hy4 cov4 fr4
      go_wp2_with fail
      refine k1.mono ?_
      rintro en w5 ⟨rfl, PZ5⟩
      have Z1 := Pz.trans HF4.out.size HC4.out HF4.out PZ5
      have Z2 := Z1.pre HG3.out
      have Z3 := hid (Pz.trans HFR.out.size HCOV.out HFR.out Z2)
      have hlr := HLR.out
      clear k1 PZ5 Z1 Z2
      go_wp2_with fail
      go_roundw
      case rel => exact ⟨j + 1, by omega, by omega, by go_num, s3, Z3.out, by omega, by omega, by omega, by omega⟩
      case measure => simp [intOf]; omega
    · have Z := hid (show Wd w0 w wr p d e k s Q N T 60 from ⟨s1, ⟨Q1, N1, T1, hy, hcov, hfr⟩, by omega, by omega, hk1, hn1⟩)
      clear hy hcov hfr
      by_cases hjn2 : j < n
      · have hI1 : (j : Int) < (n : Int) := by omega
        have hI2 : ¬ (j : Int) < 60 := by omega
        go_wp2_with fail
        go_ret
        exact ⟨rfl, Z.out⟩
      · have hI1 : ¬ (j : Int) < (n : Int) := by omega
        go_wp2_with fail
        go_ret
        exact ⟨rfl, Z.out⟩
end Go.Proofs.Ythjfgdldclhbhaa
