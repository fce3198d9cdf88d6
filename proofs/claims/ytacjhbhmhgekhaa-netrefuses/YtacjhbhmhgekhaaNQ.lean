import Derived.Test.YtacjhbhmhgekhaaNP
import Derived.Deep.RegionWith
namespace Go.Proofs.Ytacjhbhmhgekhaa
open Go.RowKit
set_option linter.unusedVariables false
set_option maxRecDepth 100000

/-! pair.sends. -/
theorem make_b (n : Nat) (hn : n ≤ 100000) (wx : World) : (Instr.makeSlice 26 (.int .i64 (n : Int)) (.int .i64 (n : Int))).run Try.prog wx = .ok (.slice (some ⟨wx.heap.size, 0, none⟩) n n) (wx.alloc (.cells (cells (List.replicate n 0)).toArray 5)) := by
  obtain ⟨i, hi, hz0, hz1, hz2⟩ := info_parts info5
  have h := run_make (P := Try.prog) wx 26 5 i (.int .u8 0) Try.underlying26 hi hz0 .i64 .i64 (n : Int) (n : Int) (by omega) (by omega) (by rw [hz2]; omega) (by omega)
  rw [h, hz1]
  simp only [Int.toNat_natCast, Nat.mul_one]
  congr 3
  apply Array.ext
  · simp [madeCells, cells]
  · intro j h1 h2
    simp [madeCells, cells, Value.cells, Nat.mod_one]
/-- What a step leaves of a pair. -/
def Ps (w w' : World) (X : Nat → Prop) (q : Nat) (L : List Fl) (g : Int) : Prop := ∃ p r rv zs lg, Pp w' (Gr X w w') q p r rv zs lg L g ∧ Fx X w w'
theorem take_set {zs d : List Int} {j : Nat} (hj : j < d.length) (hz : j < zs.length) (h : zs.take j = d.take j) : (zs.set j (d.getD j 0)).take (j + 1) = d.take (j + 1) := by
  rw [List.take_add_one, List.take_add_one, List.take_set_of_le (Nat.le_refl _), h]
  congr 1
  simp [hj, hz, List.getD]
theorem okb_getD {d : List Int} (h : Okb d) (j : Nat) : 0 ≤ d.getD j 0 ∧ d.getD j 0 ≤ 255 := by
  by_cases hj : j < d.length
  · rw [show d.getD j 0 = d[j] from by simp [List.getD, hj]]
    exact h _ (List.getElem_mem hj)
  · rw [show d.getD j 0 = 0 from by simp [List.getD, hj]]
    omega
theorem take_set_ge {zs d : List Int} {n j : Nat} {x : Int} (h : zs.take n = d) (hj : n ≤ j) : (zs.set j x).take n = d := by
  rw [List.take_set_of_le hj]; exact h
def SnP (w w' : World) (X : Nat → Prop) (q p r : Nat) (L : List Fl) (g tt : Int) (d : List Int) (n : Nat) : Prop := (n ≤ 65536 ∧ ∃ rv' zs' lg', Pp w' (Gr X w w') q p r rv' zs' lg' (sndL L g tt d) (sndG L g) ∧ Fx X w w' ∧ zs'.length ≤ 100000) ∨ (65536 < n ∧ w' = w)
set_option maxHeartbeats 16000000 in
theorem sends_ (X V : Nat → Prop) (q p r : Nat) (rv : Value) (zs : List Int) (lg : Bool) (L : List Fl) (g tt : Int) (a : Option Addr) (n c : Nat) (d : List Int) (w : World) (h : Pp w X q p r rv zs lg L g) (hd : Vs w V a n c d) (hV : ∀ k, V k → ¬ X k) (hto : i64r tt) (hg : g ≤ 1000000000) (hzl : zs.length ≤ 100000) :
    Calls Try.prog 29 #[.pointer (some ⟨q, 0, none⟩), .int .i64 tt, .slice a n c] w fun e w' => e = .returned (.bool true) ∧ SnP w w' X q p r L g tt d n := by
  by_cases hn : n ≤ 65536
  case neg =>
    have hnI : (65536 : Int) < n := by omega
    have HN : Hid (65536 < n) := by show _ < _; omega
    clear h hd hV
    go_enter Try.func29, Try.ntmps29
    go_wp2_with fail
    go_ret
    exact ⟨rfl, .inr ⟨HN.out, rfl⟩⟩
  case pos =>
  have hnI : ¬ (65536 : Int) < n := by omega
  have HH := hid h
  have HD := hid hd
  have HVX := hid hV
  have HTO := hid hto
  have HG := hid hg
  have hdl : d.length = n := hd.bs.1
  have HDL := hid hdl
  have HOK : Hid (Okb d) := hd.bs.2.1
  obtain ⟨rl, HRL⟩ : ∃ z, Hid (zs.length = z) := ⟨_, rfl⟩
  obtain ⟨ra, rc, hrv, hr1, hr2, hr3, hr4⟩ := own_addr h.room
  rw [HRL.out] at hrv hzl hr1
  subst hrv
  have c2 := h.blk.c2
  have c3 := h.blk.c3
  have f3 := h.blk.fz 3
  have HR4 : Hid ((ra = none ∧ rl = 0) ∨ ∃ b, ra = some ⟨b, 0, none⟩) := by
    rcases hr4 with ⟨e, h0⟩ | ⟨b, e, _⟩
    · exact .inl ⟨e, by rw [← HRL.out]; exact h0⟩
    · exact .inr ⟨b, e⟩
  clear h hd hV hdl hr4
  go_enter Try.func29, Try.ntmps29
  go_upto_region 3 with fail
  go_cut [6] from 17 to 28 (fun v wx => v = .bool false ∧ ∃ l, wx = w.setCell ⟨q, 3, none⟩ (.bool l))
  case first =>
    cases lg
    · by_cases hb : (4096 : Int) < n
      all_goals
        go_wp2_with fail
        go_meet
        exact ⟨rfl, _, rfl⟩
    · go_wp2_with fail
      go_meet
      exact ⟨rfl, _, rfl⟩
  obtain ⟨rfl, lq, hwc⟩ := hcut
  have HS3 := hid (HH.out.long lq)
  have HF3 : Hid (Fx X w (w.setCell ⟨q, 3, none⟩ (.bool lq))) := (Fx.refl X w).set HH.out.xq _
  rw [← hwc] at HS3 HF3
  clear hwc c2 c3 f3
  have c2 := HS3.out.blk.c2
  have f2 := HS3.out.blk.fz 2
  have hql := HS3.out.blk.lt
  go_upto_if 37 with fail
  go_cut [6] from 29 to 44 (fun v wx => v = .bool false ∧ ∃ b m cap zs', Hid (Pp wx (Gr X w wx) q p r (.slice (some ⟨b, 0, none⟩) m cap) zs' lq L g) ∧ n + 3 ≤ m ∧ m ≤ 100000 ∧ Hid (zs'.length = m) ∧ Hid (Fx X w wx))
  case first =>
    by_cases hb : (rl : Int) < n + 3
    · obtain ⟨m, HM⟩ : ∃ m : Nat, Hid (n + 3 = m) := ⟨_, rfl⟩
      have hmI : (n : Int) + 3 = m := by have := HM.out; omega
      have hm5 : m ≤ 100000 := by have := HM.out; omega
      have hmk := make_b m hm5
      have HMK := hid (HS3.out.make hm5)
      go_wp2_with fail
      go_meet
      have hs1 := HF3.out.size
      refine ⟨rfl, wc.heap.size, m, m, List.replicate m 0, ?_, by have := HM.out; omega, hm5, by show _ = _; simp, HF3.out.trans HMK.out.2⟩
      exact HMK.out.1.wide (fun k e => ⟨e.1.imp id (Nat.le_trans hs1), e.2⟩) fun k e => e.2
    · obtain ⟨b, rfl⟩ : ∃ b, ra = some ⟨b, 0, none⟩ := by
        rcases HR4.out with ⟨_, h0⟩ | h
        · omega
        · exact h
      go_wp2_with fail
      go_meet
      exact ⟨rfl, b, rl, rc, zs, HS3.out.gr HH.out.lt HF3.out.size, by omega, hzl, HRL, HF3⟩
  obtain ⟨rfl, b, m, cap, zs1, HP1, hnm, hm5, HZ1, HF1⟩ := hcut
  clear c2 f2 hql HS3 HF3 HR4 hr1 hr2 hr3 hzl HRL
  have HNE : Hid (b ≠ q) := fun e => HP1.out.ne (by rw [e]; rfl)
  have HVB : Hid (∀ k, V k → k < w.heap.size → k ≠ b) := fun k e hk q' => by
    have := HP1.out.xr b rfl
    rcases this.1 with h1 | h1
    · exact HVX.out k e (by rw [q']; exact h1)
    · omega
  have HV1 : Hid (Vs wc (fun k => V k ∧ k < w.heap.size) a n c d) := by
    have h1 : Vs w (fun k => V k ∧ k < w.heap.size) a n c d := ⟨HD.out.bs, HD.out.nc, HD.out.cm, HD.out.nil, fun ad e hn => ⟨HD.out.lies ad e hn, (HD.out.bs.at_block e hn).1⟩⟩
    exact h1.step fun k hk e _ => HF1.out.block k hk (HVX.out k e.1)
  have HRM0 : Hid (Rm wc wc b m cap zs1) := ⟨by have := HP1.out.room; rw [HZ1.out] at this; exact this, HZ1.out, HP1.out.ok, Fx.refl _ _⟩
  have HBS : Hid (∀ wr zs', Rm wc wr b m cap zs' → Vs wr (fun k => V k ∧ k < w.heap.size) a n c d) := fun wr zs' hr => HV1.out.step fun k hk e _ => hr.fx.block k hk (HVB.out k e.1 e.2)
  have HC2 : Hid (∀ wr zs', Rm wc wr b m cap zs' → wr.cell? ⟨q, 2, none⟩ = some (.slice (some ⟨b, 0, none⟩) m cap)) := fun wr zs' hr => (HP1.out.rm hr).blk.c2
  go_wp2_with fail
  go_loopw [7] (fun i wr => ∃ (j : Nat) (zs' : List Int), j ≤ n ∧ i = .int .i64 j ∧ Hid (Rm wc wr b m cap zs') ∧ Hid (zs'.take j = d.take j)) (fun i _ => n - (intOf i).toNat)
  case atStart => exact ⟨0, zs1, by omega, rfl, HRM0, by simp [Hid]⟩
  case round =>
    obtain ⟨j, zs', hj, rfl, HR, HT⟩ := hrel
    by_cases hlt : j < n
    · have hI : (j : Int) < n := by omega
      have hjm : j < m := by omega
      have hjmI : (j : Int) < m := by omega
      have e2 := HC2.out wr zs' HR.out
      have hvb := (HBS.out wr zs' HR.out).bs
      obtain ⟨bb, off, rfl, hcell⟩ : ∃ bb off, a = some ⟨bb, off, none⟩ ∧ wr.cell? ⟨bb, off + j, none⟩ = some (.int .u8 (d.getD j 0)) := by
        rcases hvb.2.2 with h0 | ⟨bb, off, e, hc⟩
        · omega
        · exact ⟨bb, off, e, hc j hlt⟩
      have er := HR.out.cell hjm
      have fr := HR.out.fz j
      obtain ⟨y, HY⟩ : ∃ y, Hid (d.getD j 0 = y) := ⟨_, rfl⟩
      have hy : 0 ≤ y ∧ y ≤ 255 := by rw [← HY.out]; exact okb_getD HOK.out j
      have HR2 := hid (HR.out.set (i := j) hy)
      have HT2 : Hid ((zs'.set j y).take (j + 1) = d.take (j + 1)) := by show _ = _; rw [← HY.out]; exact take_set (by rw [HDL.out]; exact hlt) (by rw [HR.out.len]; exact hjm) HT.out
      have e2x := HC2.out _ _ HR2.out
      have hvx := (HBS.out _ _ HR2.out).bs
      rw [HY.out] at hcell
      have hcx : (wr.setCell ⟨b, j, none⟩ (.int .u8 y)).cell? ⟨bb, off + j, none⟩ = some (.int .u8 y) := by
        rcases hvx.2.2 with h0 | ⟨bb', off', e, hc⟩
        · omega
        · have e := Option.some.inj e
          injection e with e1 e3
          rw [e1, e3, hc j hlt, HY.out]
      clear hvb hvx
      go_wp2_with fail
      go_region_held (fun wx => wx.cell? ⟨q, 2, none⟩ = some (.slice (some ⟨b, 0, none⟩) m cap) ∧ wx.cell? ⟨bb, off + j, none⟩ = some (.int .u8 y)) (go_keep) (fail)
      all_goals
        go_wp2_with fail
        go_roundw
        case rel => exact ⟨j + 1, _, by omega, by go_num, HR2.out.drew, HT2⟩
        case measure => simp [intOf]; omega
    · have hI : ¬ (j : Int) < n := by omega
      obtain rfl : n = j := by omega
      have HTN : Hid (zs'.take n = d) := by rw [HT.out]; exact List.take_of_length_le (by rw [HDL.out]; exact Nat.le_refl _)
      clear HT HRM0 HV1
      go_wp2_with fail
      go_loopw [8] (fun i wr => ∃ (j : Nat) (zs' : List Int), j ≤ 3 ∧ i = .int .i64 j ∧ Hid (Rm wc wr b m cap zs') ∧ Hid (zs'.take n = d) ∧ Hid (∀ i : Nat, i < j → zs'.getD (n + i) 0 = 201 + i)) (fun i _ => 3 - (intOf i).toNat)
      case atStart => exact ⟨0, zs', by omega, rfl, HR, HTN, fun i hi => by omega⟩
      case round =>
        clear HR HTN zs'
        obtain ⟨j, zs', hj, rfl, HR, HT, HMK⟩ := hrel
        by_cases hlt : j < 3
        · have hI : (j : Int) < 3 := by omega
          have hjm : n + j < m := by omega
          have hjmI : (n : Int) + j < m := by omega
          have e2 := HC2.out wr zs' HR.out
          have er := HR.out.cell hjm
          have fr := HR.out.fz (n + j)
          have hcv : IntKind.u8.wrap (201 + (j : Int)) = 201 + (j : Int) := by rw [IntKind.wrap_u8]; omega
          have HR2 := hid (HR.out.set (i := n + j) (x := 201 + (j : Int)) (by omega))
          have HT2 : Hid ((zs'.set (n + j) (201 + (j : Int))).take n = d) := take_set_ge HT.out (by omega)
          have HM2 : Hid (∀ i : Nat, i < j + 1 → (zs'.set (n + j) (201 + (j : Int))).getD (n + i) 0 = 201 + i) := fun i hi => by
            by_cases e : i = j
            · subst e
              simp [List.getD, show n + i < zs'.length by rw [HR.out.len]; exact hjm]
            · rw [show (zs'.set (n + j) (201 + (j : Int))).getD (n + i) 0 = zs'.getD (n + i) 0 from by simp [List.getD, List.getElem?_set_ne (show n + j ≠ n + i by omega)]]
              exact HMK.out i (by omega)
          go_wp2_with fail
          go_roundw
          case rel => exact ⟨j + 1, _, by omega, by go_num, HR2, HT2, HM2⟩
          case measure => simp [intOf]; omega
        · have hI : ¬ (j : Int) < 3 := by omega
          obtain rfl : j = 3 := by omega
          have HPr := hid (HP1.out.rm HR.out)
          have e0 := HPr.out.blk.c0
          have e2 := HPr.out.blk.c2
          have hnmI : (n : Int) ≤ m := by omega
          have hmc : m ≤ cap := by have := HR.out.vs.nc; exact this
          have hncI : (n : Int) ≤ cap := by omega
          have HVR : Hid (Vs wr (fun k => k = b) (some ⟨b, 0, none⟩) n cap d) := by
            have := HR.out.vs.cut (m := n) (d := cap) (by omega) (by omega) (Nat.le_refl _)
            rw [HT.out] at this
            exact this
          obtain ⟨F, G, hF, hG, hFG, hGG, hX⟩ := HPr.out.fg
          have HF := hid hF
          have HGN := hid hG
          have HFG := hid hFG
          have HGG := hid hGG
          have HXX := hid hX
          have HPF : Hid (∀ k, k = b → k ≠ p) := fun k e q' => by
            obtain ⟨bm, ds, _, hnt⟩ := HF.out
            have := (HFG.out p hnt.fp).2.2
            exact this (by rw [← q', e]; rfl)
          have HKS := hid fun nq => send_ (w := wr.drewN nq) tt (some ⟨b, 0, none⟩) n cap d (fun k => k = b) (HF.out.on (drawnN wr nq).below) (HVR.out.step fun k hk _ _ => rfl) HPF.out hn HTO.out HG.out
          clear hF hG hFG hGG hX
          go_wp2_with fail
          go_region_with (go_at_call 14; refine (HKS.out 1).mono ?_; rintro e w4 ⟨rfl, h4, f4⟩; have H4 := hid h4; have F4 := hid f4; clear h4 f4)
          all_goals
            have HS4 : Hid (wr.heap.size ≤ w4.heap.size) := F4.out.size
            have HXF : Hid (∀ k, F k ∨ G k → X k ∨ w.heap.size ≤ k) := fun k e => (HXX.out k e).1
            have HFL : Hid (∀ k, F k → k < wr.heap.size) := HF.out.lt
            have HGL : Hid (∀ k, G k → k < wr.heap.size) := HGN.out.lt
            have HF4 : Hid (Fx F wr w4) := ((Fx.refl F wr).drawn (drawnN wr 1)).trans F4.out
            have HG4 := hid (HGN.out.fx HF4.out fun k e q' => (HFG.out k q').1 e)
            have HPB4 : Hid (Pb w4 q p r (.slice (some ⟨b, 0, none⟩) m cap) lq) := HPr.out.blk.at (HF4.out.block q HPr.out.blk.lt (fun e => (HFG.out q e).2.1 rfl))
            have HRW4 : Hid (w4.ownsRow 0 5 1 (.slice (some ⟨b, 0, none⟩) m cap) m (cells zs')) := row_same HR.out.row fun k e => HF4.out.block k (HR.out.row.lt k e).2 (fun q' => (HFG.out k q').2.2 e)
            have HBB : Hid (Vs wr (fun k => V k ∧ k < w.heap.size) a n c d) := HBS.out wr zs' HR.out
            have HVF : Hid (∀ k, (V k ∧ k < w.heap.size) → ¬ (F k ∨ G k)) := fun k e q' => by
              rcases HXF.out k q' with h1 | h1
              · exact HVX.out k e.1 h1
              · omega
            have HB4 : Hid (Vs w4 (fun k => V k ∧ k < w.heap.size) a n c d) := HBB.out.step fun k hk e _ => HF4.out.block k hk (fun q' => HVF.out k e (.inl q'))
            have HGr : Hid (G r) := by
              obtain ⟨vv, ds, _, hnt⟩ := HGN.out
              exact hnt.fr
            have k5 := rsend_ (w := w4) tt a n c d HG4.out HB4.out.bs (fun ad e hn' q' => HVF.out _ (HB4.out.lies ad e hn') (.inr (by rw [q']; exact HGr.out))) hn HTO.out HG.out
            have y1 := HPB4.out.c1
            clear HKS HVR e0 e2
            go_wp2_with fail
            refine k5.mono ?_
            rintro e w5 ⟨rfl, h5, f5⟩
            have H5 := hid h5
            have F5 := hid f5
            have HN5 := hid (H4.out.fx F5.out fun k e q' => by
              rcases e.1 with e | e
              · exact (HFG.out k e).1 q'
              · have := HGL.out k q'; have e : wr.heap.size ≤ k := e; omega)
            have HPB5 : Hid (Pb w5 q p r (.slice (some ⟨b, 0, none⟩) m cap) lq) := HPB4.out.at (F5.out.block q HPB4.out.lt (fun e => (HGG.out q e).1 rfl))
            have HRW5 : Hid (w5.ownsRow 0 5 1 (.slice (some ⟨b, 0, none⟩) m cap) m (cells zs')) := row_same HRW4.out fun k e => F5.out.block k (HRW4.out.lt k e).2 (fun q' => (HGG.out k q').2 e)
            have HB5 : Hid (Vs w5 (fun k => V k ∧ k < w.heap.size) a n c d) := HB4.out.step fun k hk e _ => F5.out.block k hk (fun q' => HVF.out k e (.inr q'))
            have HWC : Hid (w.heap.size ≤ wr.heap.size) := Nat.le_trans HF1.out.size HR.out.fx.size
            have HX5 : Hid (Fx X w w5) := by
              have h1 : Fx X w wr := ⟨HR.out.fx.os.trans HF1.out.os, HR.out.fx.tape.trans HF1.out.tape, HR.out.fx.output.trans HF1.out.output, HWC.out, fun k hk hX => (HR.out.fx.block k (Nat.lt_of_lt_of_le hk HF1.out.size) (fun e => by
                have := HP1.out.xr b rfl
                rcases this.1 with h1 | h1
                · exact hX (by rw [e]; exact h1)
                · omega)).trans (HF1.out.block k hk hX)⟩
              have h2 : Fx X w w4 := ⟨HF4.out.os.trans h1.os, HF4.out.tape.trans h1.tape, HF4.out.output.trans h1.output, Nat.le_trans h1.size HF4.out.size, fun k hk hX => (HF4.out.block k (Nat.lt_of_lt_of_le hk h1.size) (fun e => by
                rcases HXF.out k (.inl e) with q' | q'
                · exact hX q'
                · omega)).trans (h1.block k hk hX)⟩
              exact ⟨F5.out.os.trans h2.os, F5.out.tape.trans h2.tape, F5.out.output.trans h2.output, Nat.le_trans h2.size F5.out.size, fun k hk hX => (F5.out.block k (Nat.lt_of_lt_of_le hk h2.size) (fun e => by
                rcases HXF.out k (.inr e) with q' | q'
                · exact hX q'
                · omega)).trans (h2.block k hk hX)⟩
            have HP5 : Hid (Pp w5 (Gr X w w5) q p r (.slice (some ⟨b, 0, none⟩) m cap) zs' lq (sndL L g tt d) (sndG L g)) := by
              have hs5 := F5.out.size
              have hs4 := HS4.out
              have hwc := HWC.out
              have hbl := HR.out.row.lt b rfl
              have hql := HPr.out.blk.lt
              refine ⟨HPB5.out, by rw [HR.out.len]; exact HRW5.out, HR.out.ok, ⟨_, _, HN5.out, H5.out, fun k e => ⟨fun q' => ?_, fun q' => ?_, fun q' => ?_⟩, fun k e => ⟨fun q' => ?_, fun q' => ?_⟩, fun k e => ?_⟩, ?_, fun k e => ?_, fun k e => e.2⟩
              · have ek := e.2
                rcases e.1 with e | e
                · rcases q'.1 with q' | q'
                  · exact (HFG.out k e).1 q'
                  · have := HFL.out k e; omega
                · have e : wr.heap.size ≤ k := e
                  rcases q'.1 with q' | q'
                  · have := HGL.out k q'; omega
                  · omega
              · rcases e.1 with e | e
                · exact (HFG.out k e).2.1 q'
                · have e : wr.heap.size ≤ k := e
                  omega
              · rcases e.1 with e | e
                · exact (HFG.out k e).2.2 q'
                · have e : wr.heap.size ≤ k := e
                  have : some b = some k := q'
                  have := Option.some.inj this
                  omega
              · rcases e.1 with e | e
                · exact (HGG.out k e).1 q'
                · omega
              · rcases e.1 with e | e
                · exact (HGG.out k e).2 q'
                · have : some b = some k := q'
                  have := Option.some.inj this
                  omega
              · rcases e with e | e
                · refine ⟨?_, Nat.lt_of_lt_of_le e.2 hs5⟩
                  rcases e.1 with e | e
                  · exact HXF.out k (.inl e)
                  · have e : wr.heap.size ≤ k := e
                    exact .inr (by omega)
                · refine ⟨?_, e.2⟩
                  rcases e.1 with e | e
                  · exact HXF.out k (.inr e)
                  · exact .inr (by omega)
              · exact ⟨HP1.out.xq.1, by omega⟩
              · have : some b = some k := e
                have := Option.some.inj this
                subst this
                exact ⟨(HP1.out.xr b rfl).1, by omega⟩
            have HVR5 : Hid (Bs w5 (some ⟨b, 0, none⟩) n d) := by
              obtain ⟨a5, c5, e5, hv⟩ := Vs.own HRW5.out HR.out.ok
              obtain ⟨rfl, rfl⟩ : some ⟨b, 0, none⟩ = a5 ∧ cap = c5 := by simpa using e5
              have := hv.cut (m := n) (d := cap) (by omega) (by omega) (Nat.le_refl _)
              rw [HT.out] at this
              exact this.bs
            have z2 := HPB5.out.c2
            have k6 := same_yes (some ⟨b, 0, none⟩) a n cap n c d w5 HVR5.out HB5.out.bs (by omega) (by omega)
            clear k5 h5 f5 y1 HF HGN HFG HGG HXX HPF HF4 HG4 HPB4 HRW4 HBB HVF HB4 HGr H4 F4 H5 HN5
            go_wp2_with fail
            refine k6.mono ?_
            rintro e w6 ⟨rfl, hdr⟩
            have HP6 : Hid (Pp w6 (Gr X w w6) q p r (.slice (some ⟨b, 0, none⟩) m cap) zs' lq (sndL L g tt d) (sndG L g)) := (HP5.out.on hdr.below).wide (fun k e => ⟨e.1, Nat.lt_of_lt_of_le e.2 hdr.below.size⟩) fun k e => e.2
            have HX6 := hid (HX5.out.drawn hdr)
            have HRM6 : Hid (Rm w6 w6 b m cap zs') := ⟨by have := HP6.out.room; rw [HR.out.len] at this; exact this, HR.out.len, HR.out.ok, Fx.refl _ _⟩
            have HL6 := hid HR.out.len
            clear k6 hdr HP5 HX5 HPB5 HRW5 HB5 HVR5 z2 HP1 HF1 HBS HC2 HVB HNE HR HPr
            have u2 := HP6.out.blk.c2
            go_wp2_with fail
            go_loopw [12, 11] (fun i tv wz => ∃ (j : Nat), j ≤ 3 ∧ i = .int .i64 j ∧ tv = .bool true ∧ wz = w6) (fun i _ _ => 3 - (intOf i).toNat)
            case atStart => exact ⟨0, by omega, rfl, rfl, rfl⟩
            case round =>
              obtain ⟨j, hj, rfl, rfl, hwz⟩ := hrel
              obtain rfl := hwz.symm
              clear hwz
              by_cases hlt : j < 3
              · have hI3 : (j : Int) < 3 := by omega
                have hjm : n + j < m := by omega
                have hjmI : (n : Int) + j < m := by omega
                have er := HRM6.out.cell hjm
                rw [HMK.out j hlt] at er
                have hcv : IntKind.u8.wrap (201 + (j : Int)) = 201 + (j : Int) := by rw [IntKind.wrap_u8]; omega
                go_wp2_with fail
                go_roundw
                case rel => exact ⟨j + 1, by omega, by go_num, rfl, (by trivial)⟩
                case measure => simp [intOf]; omega
              · have hI3 : ¬ (j : Int) < 3 := by omega
                go_wp2_with fail
                go_loopw [13] (fun i wz => ∃ (j : Nat) (zs' : List Int), j ≤ n ∧ i = .int .i64 j ∧ Hid (Rm w6 wz b m cap zs')) (fun i _ => n - (intOf i).toNat)
                case atStart => exact ⟨0, zs', by omega, rfl, HRM6⟩
                case round =>
                  clear u2 HMK HT
                  obtain ⟨j, zs'', hj, rfl, HR⟩ := hrel
                  by_cases hlt : j < n
                  · have hI4 : (j : Int) < n := by omega
                    have hjm : j < m := by omega
                    have hjmI : (j : Int) < m := by omega
                    have u2 := (HP6.out.rm HR.out).blk.c2
                    have er := HR.out.cell hjm
                    have fr := HR.out.fz j
                    have HR2 := hid (HR.out.set (i := j) (x := 238) (by omega))
                    go_wp2_with fail
                    go_roundw
                    case rel => exact ⟨j + 1, _, by omega, by go_num, HR2⟩
                    case measure => simp [intOf]; omega
                  · have hI4 : ¬ (j : Int) < n := by omega
                    have hsA : (sndA L g == sndA L g) = true := by simp
                    have HPF := hid (HP6.out.rm HR.out)
                    have HXZ : Hid (Fx X w wr) := ⟨HR.out.fx.os.trans HX6.out.os, HR.out.fx.tape.trans HX6.out.tape, HR.out.fx.output.trans HX6.out.output, Nat.le_trans HX6.out.size HR.out.fx.size, fun k hk hX => (HR.out.fx.block k (Nat.lt_of_lt_of_le hk HX6.out.size) (fun e => by
                      have := HP6.out.xr b rfl
                      rcases this.1 with h1 | h1
                      · exact hX (by rw [e]; exact h1)
                      · omega)).trans (HX6.out.block k hk hX)⟩
                    have HLZ : Hid (zs''.length ≤ 100000) := by show _ ≤ _; rw [HR.out.len]; exact hm5
                    go_wp2_with fail
                    go_ret
                    have HPW : Pp wr (Gr X w wr) q p r (.slice (some ⟨b, 0, none⟩) m cap) zs'' lq (sndL L g tt d) (sndG L g) := HPF.out.wide (fun k e => ⟨e.1, Nat.lt_of_lt_of_le e.2 HR.out.fx.size⟩) (fun k e => e.2)
                    exact ⟨rfl, .inl ⟨hn, _, _, _, HPW, HXZ.out, HLZ.out⟩⟩
end Go.Proofs.Ytacjhbhmhgekhaa
