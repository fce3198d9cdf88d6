import Derived.Test.YthjfgdldclhbhaaYB
namespace Go.Proofs.Ythjfgdldclhbhaa
set_option maxRecDepth 100000
open Go.RowKit Go.Shelf
set_option linter.unusedVariables false

theorem Rk.cong {w : World} {e : Nat} {s : St} {N : Nat → Prop} {gl : Nat} {cur : Array Value} {pa : Option Addr} {pc : Nat} {I : List It} {fa : Option Addr} {fc : Nat} {fs : List (Int × Int)} (h : Rk w e s N gl cur pa pc I fa fc fs) (S' : Nat → List Int) (hS : ∀ i, i < s.n → s.S i = S' i) : Rk w e { s with S := S' } N gl cur pa pc I fa fc fs := by
  refine ⟨h.blk, h.lb, h.sz, fun i hi => ?_, h.own, h.it, h.ip, h.ownF, h.fl, h.fk, h.fF, h.ne, h.nl, h.np, h.nf, h.n1, h.n2⟩
  obtain ⟨v, h1, h2⟩ := h.lasts i hi
  exact ⟨v, h1, by show Slt w N v (S' i); rw [← hS i hi]; exact h2⟩
/-- Of the first j sectors the bytes have been laid. -/
def sj (zs : List Int) (j : Nat) : Nat → List Int := fun q => if q < j then secs zs q else zer
theorem bs_part {w : World} {a : Option Addr} {n c m p : Nat} {zs : List Int} (h : Bs w a n zs) (hnc : n ≤ c) (hp : m + p ≤ n) : Bs w (if c = m then a else Option.map (fun x => x.add m) a) p ((zs.drop m).take p) := by
  refine ⟨by have := h.1; simp; omega, fun z hz => h.2.1 z (List.mem_of_mem_drop (List.mem_of_mem_take hz)), ?_⟩
  by_cases hp0 : p = 0
  · exact .inl hp0
  rcases h.2.2 with h0 | ⟨b, off, rfl, hc⟩
  · omega
  · rw [if_neg (by omega)]
    refine .inr ⟨b, off + m, by simp [Addr.add], fun i hi => ?_⟩
    rw [Nat.add_assoc, hc (m + i) (by omega)]
    simp only [List.getD, List.getElem?_take, if_pos hi, List.getElem?_drop]
set_option maxHeartbeats 8000000 in
theorem rimage_ (a : Option Addr) (n L c : Nat) (zs : List Int) (w : World) (h1 : 32 ≤ n) (h2 : n ≤ 64) (hL : L = 512 * n) (hb : Bs w a L zs) (hc : L ≤ c) (hcm : c ≤ maxLen) :
    Calls Try.prog 34 #[.slice a L c] w fun en w' => ∃ e, en = .returned (.tuple #[.pointer (some ⟨e, 0, none⟩), .int .i64 0]) ∧ Rd w' e { st0 n with S := secs zs } (fun b => w.heap.size ≤ b ∧ b < w'.heap.size) ∧ Below w.heap.size w w' := by
  have d1 : (L : Int).tdiv 512 = (n : Int) := by rw [Int.tdiv_eq_ediv_of_nonneg (by omega)]; omega
  have d2 : (L : Int).tmod 512 = 0 := by rw [Int.tmod_eq_emod_of_nonneg (by omega)]; omega
  have HL := hid hL
  have HB := hid hb
  have hcm' := hcm
  unfold maxLen at hcm'
  clear hL hb
  go_enter Try.func34, Try.ntmps34
  go_wp2_with fail
  refine (rnew_ n w h1 (by omega)).mono ?_
  rintro en w1 ⟨e, rfl, ⟨gl, cur, pa, pc, I, fa, fc, fs, R⟩, B1⟩
  have R0 := R.keep (w' := w1) (R := fun b => w.heap.size ≤ b) (fun _ _ _ => rfl) (fun b hb _ => hb.1)
  have HR := hid (R0.cong (sj zs 0) (fun i hi => by unfold sj; rw [if_neg (by omega)]; rfl))
  have HBW := hid B1
  have hn : (st0 n).n = n := rfl
  clear R R0 B1
  go_wp2_with fail
  go_loopw [5] (fun i wr => ∃ (j : Nat) (cur : Array Value), j ≤ n ∧ i = .int .i64 j ∧ Rk wr e { st0 n with S := sj zs j } (fun b => w.heap.size ≤ b) gl cur pa pc I fa fc fs ∧ Below w.heap.size w wr) (fun i _ => n - (intOf i).toNat)
  case atStart => exact ⟨0, cur, Nat.zero_le _, rfl, HR.out, HBW.out⟩
  case round =>
    clear HR HBW
    obtain ⟨j, cur, hj, rfl, R, BW⟩ := hrel
    have c0 : wr.cell? ⟨e, 0, none⟩ = some (.int .i64 n) := R.c0
    have c1 : wr.cell? ⟨e, 1, none⟩ = some (.slice (some ⟨gl, 0, none⟩) n n) := R.c1
    by_cases hlt : j < n
    · have hjI : (j : Int) < (n : Int) := by omega
      have HR := hid R
      have HBW := hid BW
      have hL := HL.out
      obtain ⟨M, HM⟩ : ∃ M : Nat, Hid (M = 512 * j) := ⟨_, rfl⟩
      obtain ⟨J1, HJ⟩ : ∃ J1 : Nat, Hid (J1 = j + 1) := ⟨_, rfl⟩
      obtain ⟨M2, HM2⟩ : ∃ M2 : Nat, Hid (M2 = 512 * (j + 1)) := ⟨_, rfl⟩
      have e1 := HM.out
      have e2 := HJ.out
      have e3 := HM2.out
      have v1 : IntKind.i64.wrap ((j : Int) * 512) = (M : Int) := by rw [IntKind.wrap_i64]; omega
      have v2 : IntKind.i64.wrap ((j : Int) + 1) = (J1 : Int) := by rw [IntKind.wrap_i64]; omega
      have v3 : IntKind.i64.wrap ((J1 : Int) * 512) = (M2 : Int) := by rw [IntKind.wrap_i64]; omega
      have i1 : (0 : Int) ≤ (M : Int) := by omega
      have i2 : (M : Int) ≤ (M2 : Int) := by omega
      have i3 : (M2 : Int) ≤ (c : Int) := by omega
      have i5 : ((M2 : Int) - (M : Int)).toNat = 512 := by omega
      have i6 : M2 - M = 512 := by omega
      obtain ⟨a', ha', hbp⟩ : ∃ a', (if c = M then a else Option.map (fun x => x.add M) a) = a' ∧ Bs w a' 512 (secs zs j) := ⟨_, rfl, by have := bs_part (m := M) (p := 512) HB.out hc (by omega); rw [e1] at this ⊢; exact this⟩
      have HBP := hid (hbp.below HBW.out)
      obtain ⟨u0, hu0, _⟩ := HR.out.lasts j hlt
      have cl := HR.out.lcell hu0
      have fl := HR.out.lfz j
      clear e1 e2 e3 hbp hL hu0 R BW d1 d2
      go_wp2_with fail
      go_region_held (fun wx => wx.cell? ⟨e, 1, none⟩ = some (.slice (some ⟨gl, 0, none⟩) n n)) (go_keep) (first | (go_at_call 20; refine (refBytes a' 512 (c - M) (secs zs j) wr.drew (by exact HBP.out) (by omega)).mono ?_; rintro en w2 ⟨v, rfl, o2, g2⟩; have B2 : Below wr.heap.size wr w2 := ⟨g2.os, g2.tape, g2.output, g2.size, g2.block⟩; obtain ⟨g, cap, rfl, q1, q2, q3, q4, q5⟩ := own_head o2 (by omega); have R2 := HR.out.below B2; have HR2 := hid R2; have HB2 := hid B2; have u1 : w2.cell? ⟨e, 1, none⟩ = some (.slice (some ⟨gl, 0, none⟩) n n) := R2.c1; have cl2 := (B2.cell (p := ⟨gl, j, none⟩) (World.block_lt_of_cell? wr _ cl)).trans cl; have fl2 := R2.lfz j; have HS : Hid (Slt w2 (fun b => w.heap.size ≤ b) (.slice (some ⟨g, 0, none⟩) 512 cap) (secs zs j)) := (.inr ⟨g, cap, rfl, q4.all q5 HBP.out.2.1, (by obtain ⟨cu, hcu, _⟩ := q4; exact ⟨cu, hcu⟩), Nat.le_trans HBW.out.size q3, q1, q2⟩); have u1s : (w2.setCell ⟨gl, j, none⟩ (.slice (some ⟨g, 0, none⟩) 512 cap)).cell? ⟨e, 1, none⟩ = some (.slice (some ⟨gl, 0, none⟩) n n) := (World.cell?_of_block (w := w2) (a := ⟨e, 1, none⟩) (Below.heap_setCell _ _ _ _ (R2.lneq R2.blk (by decide)))).trans u1; clear g2 B2 R2 q4 o2 cl fl))
      have R3 := HR2.out.setL (i := j) hlt HS.out
      have HG3 : Hid (Below w.heap.size w (w2.setCell ⟨gl, j, none⟩ (.slice (some ⟨g, 0, none⟩) 512 cap))) := (bel_bel HBW.out HBW.out.size HB2.out).setCell (p := ⟨gl, j, none⟩) HR2.out.nl _
      have HR3 := hid (R3.cong (sj zs (j + 1)) (fun q hq => by
        show lay1 (sj zs j) (j, secs zs j) q = sj zs (j + 1) q
        unfold lay1 sj
        by_cases hqj : q = j
        · rw [if_pos hqj, if_pos (by omega), hqj]
        · rw [if_neg hqj]
          by_cases hql : q < j
          · rw [if_pos hql, if_pos (by omega)]
          · rw [if_neg hql, if_neg (by omega)]))
      clear R3 HR2 HB2 HS u1 cl2 fl2 u1s v1 v2 v3
      generalize w2.setCell ⟨gl, j, none⟩ (.slice (some ⟨g, 0, none⟩) 512 cap) = w3 at *
      go_wp2_with fail
      go_roundw
      case rel => exact ⟨j + 1, _, by omega, by go_num, HR3.out, HG3.out⟩
      case measure => simp [intOf]; omega
    · obtain rfl : j = n := by omega
      have hjI : ¬ (j : Int) < (j : Int) := by omega
      have HZ := hid ((R.cong (secs zs) (fun i hi => by show sj zs j i = secs zs i; unfold sj; rw [if_pos (show i < j from hi)])).keep (w' := wr) (R := fun b => w.heap.size ≤ b ∧ b < wr.heap.size) (fun _ _ _ => rfl) (fun b hb hl => ⟨hb, hl⟩))
      have HBW := hid BW
      clear R BW c1
      go_wp2_with fail
      go_ret2
      exact ⟨e, rfl, ⟨_, _, _, _, _, _, _, _, HZ.out⟩, HBW.out⟩
end Go.Proofs.Ythjfgdldclhbhaa
