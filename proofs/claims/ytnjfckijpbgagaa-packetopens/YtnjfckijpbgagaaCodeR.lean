import Derived.Test.YtnjfckijpbgagaaCodeK
import Derived.Test.YtnjfckijpbgagaaRefN
namespace Go.Proofs.Ytnjfckijpbgagaa
set_option maxRecDepth 100000
open Go.RowKit
set_option linter.unusedVariables false

theorem under32 : Try.prog.underlying 151 = some (.array 32 5) := by kernel_rfl
theorem size32 : (Try.prog.info? 151).map (·.size) = some 32 := by kernel_rfl
/-- The round words so far, as a row. -/
def wf (key : List Nat) (m : Nat) : Nat → Nat := fun j => (kx key m).getD j 0
theorem getD_out {l : List Nat} {j : Nat} (h : l.length ≤ j) : l.getD j 0 = 0 := by simp [List.getD, List.getElem?_eq_none h]
theorem wf_put {key : List Nat} (hl : key.length = 32) (m : Nat) {T : Nat → Nat} (hT : ∀ y, y < 4 → T y = tw (kx key m) (m + 8) y) (j : Nat) :
    put8 (4 * (m + 8)) 4 (xr (from8 (4 * m) (wf key m)) T) (wf key m) j = wf key (m + 1) j := by
  unfold put8 wf
  have hk := kx_length key m
  rw [hl] at hk
  rw [kx, getD_app, hk]
  by_cases h1 : j < 32 + 4 * m
  · rw [if_pos h1, if_neg (by omega)]
  · rw [if_neg h1]
    by_cases h2 : j < 4 * (m + 8) + 4
    · rw [if_pos (by omega)]
      unfold xr from8
      rw [show j - (32 + 4 * m) = j - 4 * (m + 8) from by omega, nw_get _ _ _ (by omega), hT _ (by omega), show 4 * (m + 8) - 32 = 4 * m from by omega]
    · rw [if_neg (by omega), getD_out (by omega), getD_out (by rw [nw_length]; omega)]
theorem wf_lt {key : List Nat} (h : ∀ z ∈ key, z < 256) (m j : Nat) : wf key m j < 256 := getD_lt (kx_lt h m) j
theorem wf_zero {key : List Nat} (hl : key.length = 32) (j : Nat) : mix 32 (fun j => key.getD j 0) (fun _ => 0) j = wf key 0 j := by
  unfold mix wf
  rw [kx]
  by_cases h : j < 32
  · rw [if_pos h]
  · rw [if_neg h, getD_out (by omega)]
/-- A row that no tactic looks into. -/
structure RwS (w : World) (g t n : Nat) (f : Nat → Nat) : Prop where
  out : Rw w g t n f
theorem wpList_ldb {ops : Array Oper} {rest : List Oper} {o : Oper} {a : Act} {w : World} {Q : Exit → Act → World → Prop} (hgd : o.guard = none) (x : Operand) (ho : o.op = .load 5 x)
    (g i : Nat) (hx : a.eval x = .pointer (some ⟨g, i, none⟩)) (t n : Nat) (f : Nat → Nat) (hr : RwS w g t n f) (hi : i < n)
    (h : wpList Try.prog ops Q rest (a.put o.dst (.int .u8 (f i : Nat))) w) : wpList Try.prog ops Q (o :: rest) a w :=
  wpList_plain hgd fun K hK => by
    have hc := hr.out.byte i hi
    have hl : (loadVar 5 ⟨g, i, none⟩).run Try.prog w = .ok (.int .u8 (f i : Nat)) w := by simp [loadVar, isAgg, run_underlying under8, hc]
    unfold Oper.wp execOp
    simp only [ho, hx, Instr.loadAt, Instr.sureAddr, Sem.run_bind, Sem.run_pure, Result.andThen_ok, hl]
    exact hK _ _ h
theorem wpList_stb {ops : Array Oper} {rest : List Oper} {o : Oper} {a : Act} {w : World} {Q : Exit → Act → World → Prop} (hgd : o.guard = none) (hdst : o.dst = none) (x y : Operand) (ho : o.op = .store 5 x y)
    (g i : Nat) (hx : a.eval x = .pointer (some ⟨g, i, none⟩)) (z : Nat) (hy : a.eval y = .int .u8 (z : Nat)) (t n : Nat) (f : Nat → Nat) (hr : RwS w g t n f) (hi : i < n)
    (h : wpList Try.prog ops Q rest a (w.setCell ⟨g, i, none⟩ (.int .u8 (z : Nat)))) : wpList Try.prog ops Q (o :: rest) a w :=
  wpList_plain hgd fun K hK => by
    have hc := hr.out.byte i hi
    have hf := hr.out.fz i
    have ha : (⟨g, i, none⟩ : Addr).add 0 = ⟨g, i, none⟩ := Addr.add_mid g i 0
    have hl : (storeVar 5 ⟨g, i, none⟩ (.int .u8 (z : Nat))).run Try.prog w = .ok () (w.setCell ⟨g, i, none⟩ (.int .u8 (z : Nat))) := by
      simp [storeVar, Value.cells, storeCells, ha, run_store _ _ _ _ _ (show (Value.int IntKind.u8 (z : Nat)).oneCell' = true from rfl), hc, hf]
    unfold Oper.wp execOp
    simp only [ho, hx, hy, Instr.storeAt, Instr.sureAddr, Sem.run_bind, Sem.run_pure, Result.andThen_ok, hl]
    have := hK _ _ h
    rw [← show a.put o.dst undef = a from by rw [hdst]; rfl] at this
    exact this
/-- Which of the words. -/
theorem run_ixw (g r : Nat) (hr : r < 60) (x : Int) (hx : x = r) (w : World) : (Instr.indexAt 149 (.pointer (some ⟨g, 0, none⟩)) (.int .i64 x)).run Try.prog w = .ok (.pointer (some ⟨g, 4 * r, none⟩)) w := by
  subst hx
  have h1 : (0 : Int) ≤ (r : Int) ∧ (r : Int) < ((60 : Nat) : Int) := by omega
  simp only [Instr.indexAt, Sem.run_bind, asIntOf, Sem.run_pure, run_underlying underW, Result.andThen_ok, Instr.sureAddr, if_pos h1, run_sizeOf sizew, Addr.add_mid, Int.toNat_natCast, Nat.zero_add]
  rw [Nat.mul_comm r 4]
set_option maxRecDepth 100000 in
set_option maxHeartbeats 2000000 in
theorem roundWords_ (g : Nat) (key : List Nat) (w : World) (hc : Bx w g) (hl : key.length = 32) (hb : ∀ z ∈ key, z < 256) :
    Calls Try.prog 93 #[.pointer (some ⟨g, 0, none⟩), .agg (rw8 32 fun j => key.getD j 0)] w fun e w' => e = .returned (.agg (rw8 240 (kf key))) ∧ Below w.heap.size w w' := by
  have hgl := hc.lt
  have HL := hid hl
  have HB := hid hb
  clear hl hb
  obtain ⟨f, Hf⟩ : ∃ f, Hid ((fun j => key.getD j 0) = f) := ⟨_, rfl⟩
  rw [Hf.out]
  obtain ⟨A0, A1, A2, B0⟩ := rnew3 w 151 32 f 149 240 (fun _ => 0) 149 240 (fun _ => 0)
  go_enter Try.func93, Try.ntmps93
  go_wp2_with (refine wpList_al rfl _ rfl 240 (by exact zeroW) ?_)
  generalize ((w.alloc (.cells (rw8 32 f) 151)).alloc (.cells (rw8 240 fun _ => 0) 149)).alloc (.cells (rw8 240 fun _ => 0) 149) = w1 at *
  go_loopw [10] (fun i wr => ∃ j : Nat, j ≤ 8 ∧ i = .int .i64 j ∧ Rw wr w.heap.size 151 32 f ∧ Rw wr (w.heap.size + 1) 149 240 (fun _ => 0) ∧ Rw wr (w.heap.size + 1 + 1) 149 240 (mix (4 * j) f fun _ => 0) ∧ Below w.heap.size w wr) (fun i _ => 8 - (intOf i).toNat)
  case atStart => exact ⟨0, by omega, rfl, A0, A1, by rw [Nat.mul_zero, mix0]; exact A2, B0⟩
  case round =>
    obtain ⟨j, hj, rfl, a0, a1, a2, b0⟩ := hrel
    clear A0 A1 A2 B0
    by_cases hlt : j < 8
    · have sr := run_arr 148 4 5 underw
      have sc := fun w' => run_cut4 151 32 5 1 under32 size1 w.heap.size j (4 * j) (by omega) (by omega) w'
      have si := fun w' => run_ixw (w.heap.size + 1 + 1) j (by omega) j rfl w'
      go_wp2_with (first | (refine wpList_ldm rfl _ _ rfl w.heap.size (4 * j) rfl _ _ 4 f (by with_reducible exact a0) (by omega) _ (by exact underw) rfl (by exact sizew) ?_) | (refine wpList_stm rfl rfl _ _ _ rfl (w.heap.size + 1 + 1) (4 * j) rfl 4 (from8 (4 * j) f) rfl _ _ _ (by with_reducible exact a2) (by omega) (by exact sizew) ?_))
      have A0 := a0.omid (g' := w.heap.size + 1 + 1) (by omega) (4 * j) (rw8 4 (from8 (4 * j) f)).toList
      have A1 := a1.omid (g' := w.heap.size + 1 + 1) (by omega) (4 * j) (rw8 4 (from8 (4 * j) f)).toList
      have A2 := a2.stepm
      have B3 : Below w.heap.size w (wr.setCells (w.heap.size + 1 + 1) (4 * j) (rw8 4 (from8 (4 * j) f)).toList) := bel_cells (by omega) _ _ _ b0
      clear a0 a1 a2 b0 sr sc si
      generalize wr.setCells (w.heap.size + 1 + 1) (4 * j) (rw8 4 (from8 (4 * j) f)).toList = w3 at *
      go_roundw
      case rel => exact ⟨j + 1, by omega, by go_num, A0, A1, A2, B3⟩
      case measure => simp [intOf]; omega
    · have a2 := a2.ext (f' := wf key 0) (fun i _ => by rw [← Hf.out, show 4 * j = 32 from by omega]; exact wf_zero HL.out i)
      have hge : ¬ (j : Int) < 8 := by omega
      clear hlt hj a0 Hf
      obtain ⟨wo, rfl⟩ : ∃ wo, wo = wr := ⟨_, rfl⟩
      go_wp2_with fail
      go_loopw [7, 8] (fun p i wr => ∃ m : Nat, m ≤ 52 ∧ i = .int .i64 ((m : Int) + 8) ∧ p = .int .u8 (rc ((m + 15) / 8) : Nat) ∧ Rw wr (w.heap.size + 1) 149 240 (fun _ => 0) ∧ Rw wr (w.heap.size + 1 + 1) 149 240 (wf key m) ∧ Below w.heap.size w wr) (fun _ i _ => 60 - (intOf i).toNat)
      case atStart => exact ⟨0, by omega, rfl, rfl, a1, a2, b0⟩
      case round =>
        clear a1 a2 b0
        obtain ⟨m, hm, rfl, rfl, a1, a2, b0⟩ := hrel
        by_cases hlt : m < 52
        · have s0 := b0.size
          have l2 := a2.lt
          have si7 := fun w' => run_ixw (w.heap.size + 1 + 1) (m + 7) (by omega) ((m : Int) + 8 - 1) (by omega) w'
          have AN := Rw.new wr 148 4 (fun _ => 0)
          have lu : ∀ i, i < 4 → (from8 (4 * (m + 7)) (wf key m)) i < 256 := fun i _ => wf_lt HB.out m _
          have HP : Hid (rc ((m + 15) / 8) < 256) := rc_lt _
          have hg2 : w.heap.size + 1 + 1 < wr.heap.size := l2
          by_cases h8 : (m + 8) % 8 = 0
          · have e0 : ((m : Int) + 8) % 8 = 0 := by omega
            have HT : Hid (∀ y, y < 4 → put8 0 1 (fun _ => sb (fun y => (from8 (4 * (m + 7)) (wf key m)) ((y + 1) % 4)) 0 ^^^ rc ((m + 15) / 8)) (sb (fun y => (from8 (4 * (m + 7)) (wf key m)) ((y + 1) % 4))) y = tw (kx key m) (m + 8) y) := fun y hy => by
              unfold tw put8
              rw [if_pos h8]
              have ey : sb (fun y => (from8 (4 * (m + 7)) (wf key m)) ((y + 1) % 4)) y = sbx ((kx key m).getD (4 * (m + 8) - 4 + (y + 1) % 4) 0) := by
                rw [show 4 * (m + 8) - 4 = 4 * (m + 7) from by omega]
                rfl
              by_cases h0 : y = 0
              · rw [if_pos (by omega), if_pos h0, ← ey, h0, show (m + 8) / 8 = (m + 15) / 8 from by omega]
              · rw [if_neg (by omega), if_neg h0, ey, Nat.xor_zero]
            have HR : Hid (mul8 (rc ((m + 15) / 8)) 2 = rc ((m + 1 + 15) / 8)) := by
              show _ = _
              rw [rc_next _ (by omega) (by omega), show (m + 15) / 8 + 1 = (m + 1 + 15) / 8 from by omega]
            have lt : ∀ i, i < 4 → (fun y => (from8 (4 * (m + 7)) (wf key m)) ((y + 1) % 4)) i < 256 := fun i hi => lu _ (by omega)
            have k1 : ∀ w, Bx w g → Calls Try.prog 112 #[.pointer (some ⟨g, 0, none⟩), .agg #[.int .u8 ((from8 (4 * (m + 7)) (wf key m)) 1 : Nat), .int .u8 ((from8 (4 * (m + 7)) (wf key m)) 2 : Nat), .int .u8 ((from8 (4 * (m + 7)) (wf key m)) 3 : Nat), .int .u8 ((from8 (4 * (m + 7)) (wf key m)) 0 : Nat)]] w fun e w' => e = .returned (.agg (rw8 4 (sb (fun y => (from8 (4 * (m + 7)) (wf key m)) ((y + 1) % 4))))) ∧ Below w.heap.size w w' := fun w hc => ofWord_ g (fun y => (from8 (4 * (m + 7)) (wf key m)) ((y + 1) % 4)) w hc lt
            have k2 := fun w => mul8_ (rc ((m + 15) / 8)) 2 w HP.out (by omega)
            have ls := sb_lt lt
            have lz : sb (fun y => (from8 (4 * (m + 7)) (wf key m)) ((y + 1) % 4)) 0 ^^^ rc ((m + 15) / 8) < 256 := xor_lt8 (ls 0 (by omega)) HP.out
            have x1 := u8x (ls 0 (by omega)) HP.out
            have NS3 : RwS ((wr.alloc (.cells (rw8 4 fun _ => 0) 148)).setCells wr.heap.size 0 (rw8 4 (from8 (4 * (m + 7)) (wf key m))).toList) wr.heap.size 148 4 (from8 (4 * (m + 7)) (wf key m)) := ⟨AN.whole (from8 (4 * (m + 7)) (wf key m))⟩
            generalize mul8 (rc ((m + 15) / 8)) 2 = q at *
            generalize rc ((m + 15) / 8) = p at *
            go_wp2_with (first | (refine wpList_ldm rfl _ _ rfl (w.heap.size + 1 + 1) (4 * (m + 7)) rfl _ _ 4 (wf key m) (by with_reducible exact a2) (by omega) _ (by exact underw) rfl (by exact sizew) ?_) | (refine wpList_al rfl _ rfl 4 (by exact zerow) ?_) | (refine wpList_stm rfl rfl _ _ _ rfl wr.heap.size 0 rfl 4 (from8 (4 * (m + 7)) (wf key m)) rfl _ _ _ (by with_reducible exact AN) (by omega) (by exact sizew) ?_) | (refine wpList_ldb rfl _ rfl _ _ rfl _ _ _ (by with_reducible exact NS3) (by omega) ?_))
            have n1 := (a1.alloc (.cells (rw8 4 fun _ => 0) 148)).omid (g' := wr.heap.size) (by omega) 0 (rw8 4 (from8 (4 * (m + 7)) (wf key m))).toList
            have n2 := (a2.alloc (.cells (rw8 4 fun _ => 0) 148)).omid (g' := wr.heap.size) (by omega) 0 (rw8 4 (from8 (4 * (m + 7)) (wf key m))).toList
            have n3 := AN.whole (from8 (4 * (m + 7)) (wf key m))
            have nb : Below w.heap.size w ((wr.alloc (.cells (rw8 4 fun _ => 0) 148)).setCells wr.heap.size 0 (rw8 4 (from8 (4 * (m + 7)) (wf key m))).toList) := bel_cells (by omega) _ _ _ (b0.alloc (by omega) _)
            have a1 := n1
            have a2 := n2
            have a3 := n3
            have b0 := nb
            clear n1 n2 n3 nb AN si7 e0 h8 s0 l2 NS3
            generalize wr.heap.size = gt at *
            generalize (wr.alloc (.cells (rw8 4 fun _ => 0) 148)).setCells gt 0 (rw8 4 (from8 (4 * (m + 7)) (wf key m))).toList = wn at *
            refine (k1 _ (hc.keep b0 hgl)).mono ?_
            rintro e wa ⟨rfl, g2⟩
            have a1 := a1.kept g2
            have a2 := a2.kept g2
            have a3 := a3.kept g2
            have b0 := bel_bel b0 b0.size g2
            clear g2 k1 lu lt
            generalize sb (fun y => (from8 (4 * (m + 7)) (wf key m)) ((y + 1) % 4)) = v at *
            have A3 := a3.whole v
            have NS4 : RwS (wa.setCells gt 0 (rw8 4 v).toList) gt 148 4 v := ⟨A3⟩
            clear A3
            generalize Hz : v 0 ^^^ p = z at *
            have HZ := hid Hz
            clear Hz
            go_wp2_with (first | (refine wpList_stm rfl rfl _ _ _ rfl gt 0 rfl 4 v rfl _ _ _ (by with_reducible exact a3) (by omega) (by exact sizew) ?_) | (refine wpList_ldb rfl _ rfl _ _ rfl _ _ _ (by with_reducible exact NS4) (by omega) ?_) | (refine wpList_stb rfl rfl _ _ rfl _ _ rfl z rfl _ _ _ (by with_reducible exact NS4) (by omega) ?_))
            have A3 := NS4.out
            have a1 := (a1.omid (g' := gt) (by omega) 0 (rw8 4 v).toList).other (g' := gt) (by omega) 0 (.int .u8 (z : Nat))
            have a2 := (a2.omid (g' := gt) (by omega) 0 (rw8 4 v).toList).other (g' := gt) (by omega) 0 (.int .u8 (z : Nat))
            have a3 := A3.setv 0 z
            have b0 : Below w.heap.size w ((wa.setCells gt 0 (rw8 4 v).toList).setCell ⟨gt, 0, none⟩ (.int .u8 (z : Nat))) := (bel_cells (B := w.heap.size) (g := gt) (by omega) (rw8 4 v).toList 0 _ b0).setCell (by show _ ≤ gt; omega) _
            clear A3 NS4 x1
            generalize (wa.setCells gt 0 (rw8 4 v).toList).setCell ⟨gt, 0, none⟩ (.int .u8 (z : Nat)) = wb at *
            refine (k2 _).mono ?_
            rintro e wb' ⟨rfl, hw⟩
            obtain rfl := hw.symm
            clear k2 hw
            have lT : ∀ i, i < 4 → put8 0 1 (fun _ => z) v i < 256 := fun i hi => by
              unfold put8
              split
              · exact lz
              · exact ls i hi
            generalize put8 0 1 (fun _ => z) v = t at *
            go_wp2_with fail
            have kx1 := fun w => xorWords_ (from8 (4 * m) (wf key m)) t w (fun i _ => wf_lt HB.out m _) lT
            have sm := fun w' => run_ixw (w.heap.size + 1 + 1) m (by omega) m rfl w'
            have s8 := fun w' => run_ixw (w.heap.size + 1 + 1) (m + 8) (by omega) ((m : Int) + 8) rfl w'
            have ew : IntKind.i64.wrap ((m : Int) + 8 - 8) = (m : Int) := by rw [IntKind.wrap_i64]; omega
            have ew2 : IntKind.i64.wrap (m : Int) = (m : Int) := by rw [IntKind.wrap_i64]; omega
            have b0 := bel_drew1 b0
            have a1 := a1.drew
            have a2 := a2.drew
            have a3 := a3.drew
            refine wp_region_held_drew (S := fun wx => wx.rangeAt (w.heap.size + 1 + 1) (4 * m) (rw8 4 (from8 (4 * m) (wf key m))).toList ∧ wx.rangeAt gt 0 (rw8 4 t).toList) (by kernel_rfl) ⟨a2.range (4 * m) 4 (by omega), a3.rng0⟩ (fun hHeld => ?_)
            generalize wb.drew = wd at *
            refine take_to 0 59 (.int .i64 ((m : Int) + 8)) rfl rfl (by kernel_rfl) (by kernel_rfl) (by kernel_rfl) (fun _ _ _ h => h) (Or.inl ⟨by rfl, fun w' _ => ?_⟩) hHeld ?_
            · go_simp
            try simp only [List.setIfInBounds_toArray, List.set_cons_zero, List.set_cons_succ]
            refine take_to 1 60 (.int .i64 ((m : Int) + 8)) rfl rfl (by kernel_rfl) (by kernel_rfl) (by kernel_rfl) (fun _ _ _ h => h) (Or.inl ⟨by rfl, fun w' _ => ?_⟩) hHeld ?_
            · go_simp
            try simp only [List.setIfInBounds_toArray, List.set_cons_zero, List.set_cons_succ]
            refine take_to 2 61 (.int .i64 (m : Int)) rfl rfl (by kernel_rfl) (by kernel_rfl) (by kernel_rfl) (fun _ _ _ h => h) (Or.inl ⟨by rfl, fun w' _ => ?_⟩) hHeld ?_
            · go_simp
            try simp only [List.setIfInBounds_toArray, List.set_cons_zero, List.set_cons_succ]
            refine take_to 3 62 (.pointer (some ⟨w.heap.size + 1 + 1, 4 * m, none⟩)) rfl rfl (by kernel_rfl) (by kernel_rfl) (by kernel_rfl) (fun _ _ _ h => h) (Or.inl ⟨by rfl, fun w' _ => ?_⟩) hHeld ?_
            · go_simp
            try simp only [List.setIfInBounds_toArray, List.set_cons_zero, List.set_cons_succ]
            refine take_to 4 63 (.agg (rw8 4 (from8 (4 * m) (wf key m)))) rfl rfl (by kernel_rfl) (by kernel_rfl) (by kernel_rfl) (fun _ _ _ h => h) (yields_rng (by rfl) _ _ rfl (w.heap.size + 1 + 1) (4 * m) 4 _ rfl (fun w' h => h.1) _ underw rfl sizew) hHeld ?_
            try simp only [List.setIfInBounds_toArray, List.set_cons_zero, List.set_cons_succ]
            refine take_to 5 64 (.agg (rw8 4 t)) rfl rfl (by kernel_rfl) (by kernel_rfl) (by kernel_rfl) (fun _ _ _ h => h) (yields_rng (by rfl) _ _ rfl (gt) (0) 4 _ rfl (fun w' h => h.2) _ underw rfl sizew) hHeld ?_
            try simp only [List.setIfInBounds_toArray, List.set_cons_zero, List.set_cons_succ]
            refine wpAnyH_ready (rs := [6]) (by kernel_rfl) (by simp) ?_
            refine AllReadyH.cons rfl (fun K hK => ?_) AllReadyH.nil
            rw [if_pos (by rfl)]
            go_wp2_with fail
            refine (kx1 _).mono ?_
            rintro e wq ⟨rfl, g2⟩
            have a1 := a1.kept g2
            have a2 := a2.kept g2
            have a3 := a3.kept g2
            have b0 := bel_bel b0 b0.size g2
            clear g2 hHeld kx1
            try go_wp2_with fail
            refine hK.out _ _ ⟨a2.range (4 * m) 4 (by omega), a3.rng0⟩ (fun hHeld => ?_)
            clear hK K
            try simp only [Act.put, List.setIfInBounds_toArray, List.set_cons_zero, List.set_cons_succ]
            refine take_to 7 66 (.pointer (some ⟨w.heap.size + 1 + 1, 4 * (m + 8), none⟩)) rfl rfl (by kernel_rfl) (by kernel_rfl) (by kernel_rfl) (fun _ _ _ h => h) (Or.inl ⟨by rfl, fun w' _ => ?_⟩) hHeld ?_
            · go_simp
            try simp only [List.setIfInBounds_toArray, List.set_cons_zero, List.set_cons_succ]
            refine wpAnyH_ready (rs := [8]) (by kernel_rfl) (by simp) ?_
            refine AllReadyH.cons rfl (fun K hK => ?_) AllReadyH.nil
            rw [if_pos (by rfl)]
            refine wp_stm rfl _ _ _ rfl (w.heap.size + 1 + 1) (4 * (m + 8)) rfl 4 (xr (from8 (4 * m) (wf key m)) t) rfl _ _ _ (by with_reducible exact a2) (by omega) sizew ?_
            have a1 := a1.omid (g' := w.heap.size + 1 + 1) (by omega) (4 * (m + 8)) (rw8 4 (xr (from8 (4 * m) (wf key m)) t)).toList
            have a3 := a3.omid (g' := w.heap.size + 1 + 1) (by omega) (4 * (m + 8)) (rw8 4 (xr (from8 (4 * m) (wf key m)) t)).toList
            have a2 := a2.mid (4 * (m + 8)) 4 (xr (from8 (4 * m) (wf key m)) t)
            have b0 := bel_cells (B := w.heap.size) (g := w.heap.size + 1 + 1) (by omega) (rw8 4 (xr (from8 (4 * m) (wf key m)) t)).toList (4 * (m + 8)) _ b0
            refine hK.out _ _ ⟨World.rangeAt_setCells_apart hHeld.1 _ _ _ (Or.inr (Or.inl (by rw [rw8_len]; omega))), a3.rng0⟩ (fun hHeld => ?_)
            clear hK K
            try simp only [Act.put, List.setIfInBounds_toArray, List.set_cons_zero, List.set_cons_succ]
            have a2 := a2.ext (f' := wf key (m + 1)) (fun i _ => wf_put HL.out m HT.out i)
            generalize wq.setCells (w.heap.size + 1 + 1) (4 * (m + 8)) (rw8 4 (xr (from8 (4 * m) (wf key m)) t)).toList = we at *
            refine wpAnyH_done (by kernel_rfl) ?_ _
            clear hHeld sm s8 ew ew2
            go_wp2_with fail
            go_roundw
            case rel => exact ⟨m + 1, by omega, by go_num, by rw [HR.out], a1, a2, b0⟩
            case measure => simp [intOf]; omega
          by_cases h4 : (m + 8) % 8 = 4
          · have NS3 : RwS ((wr.alloc (.cells (rw8 4 fun _ => 0) 148)).setCells wr.heap.size 0 (rw8 4 (from8 (4 * (m + 7)) (wf key m))).toList) wr.heap.size 148 4 (from8 (4 * (m + 7)) (wf key m)) := ⟨AN.whole (from8 (4 * (m + 7)) (wf key m))⟩
            have e4 : ((m : Int) + 8) % 8 = 4 := by omega
            have HT : Hid (∀ y, y < 4 → sb (from8 (4 * (m + 7)) (wf key m)) y = tw (kx key m) (m + 8) y) := fun y hy => by
              unfold tw
              rw [if_neg h8, if_pos (by omega)]
              show sbx ((kx key m).getD (4 * (m + 7) + y) 0) = _
              rw [show 4 * (m + 8) - 4 = 4 * (m + 7) from by omega]
            have HR : Hid (rc ((m + 15) / 8) = rc ((m + 1 + 15) / 8)) := by show _ = _; rw [show (m + 1 + 15) / 8 = (m + 15) / 8 from by omega]
            have k1 := fun w hc => ofWord_ g (from8 (4 * (m + 7)) (wf key m)) w hc lu
            have lT := sb_lt lu
            generalize rc ((m + 15) / 8) = p at *
            go_wp2_with (first | (refine wpList_ldm rfl _ _ rfl (w.heap.size + 1 + 1) (4 * (m + 7)) rfl _ _ 4 (wf key m) (by with_reducible exact a2) (by omega) _ (by exact underw) rfl (by exact sizew) ?_) | (refine wpList_al rfl _ rfl 4 (by exact zerow) ?_) | (refine wpList_stm rfl rfl _ _ _ rfl wr.heap.size 0 rfl 4 (from8 (4 * (m + 7)) (wf key m)) rfl _ _ _ (by with_reducible exact AN) (by omega) (by exact sizew) ?_) | (refine wpList_ldw rfl _ _ rfl _ rfl _ _ 4 _ (by with_reducible exact NS3.out) (by omega) _ (by exact underw) rfl (by exact sizew) ?_))
            have n1 := (a1.alloc (.cells (rw8 4 fun _ => 0) 148)).omid (g' := wr.heap.size) (by omega) 0 (rw8 4 (from8 (4 * (m + 7)) (wf key m))).toList
            have n2 := (a2.alloc (.cells (rw8 4 fun _ => 0) 148)).omid (g' := wr.heap.size) (by omega) 0 (rw8 4 (from8 (4 * (m + 7)) (wf key m))).toList
            have n3 := AN.whole (from8 (4 * (m + 7)) (wf key m))
            have nb : Below w.heap.size w ((wr.alloc (.cells (rw8 4 fun _ => 0) 148)).setCells wr.heap.size 0 (rw8 4 (from8 (4 * (m + 7)) (wf key m))).toList) := bel_cells (by omega) _ _ _ (b0.alloc (by omega) _)
            have a1 := n1
            have a2 := n2
            have a3 := n3
            have b0 := nb
            clear n1 n2 n3 nb AN NS3 si7 e4 h8 h4 s0 l2
            generalize wr.heap.size = gt at *
            generalize (wr.alloc (.cells (rw8 4 fun _ => 0) 148)).setCells gt 0 (rw8 4 (from8 (4 * (m + 7)) (wf key m))).toList = wn at *
            refine (k1 _ (hc.keep b0 hgl)).mono ?_
            rintro e wa ⟨rfl, g2⟩
            have a1 := a1.kept g2
            have a2 := a2.kept g2
            have a3 := a3.kept g2
            have b0 := bel_bel b0 b0.size g2
            clear g2 k1 lu
            generalize (from8 (4 * (m + 7)) (wf key m)) = u at *
            go_wp2_with (refine wpList_stm rfl rfl _ _ _ rfl gt 0 rfl 4 (sb u) rfl _ _ _ (by with_reducible exact a3) (by omega) (by exact sizew) ?_)
            have a1 := a1.omid (g' := gt) (by omega) 0 (rw8 4 (sb u)).toList
            have a2 := a2.omid (g' := gt) (by omega) 0 (rw8 4 (sb u)).toList
            have a3 := a3.whole (sb u)
            have b0 := bel_cells (B := w.heap.size) (g := gt) (by omega) (rw8 4 (sb u)).toList 0 _ b0
            generalize wa.setCells gt 0 (rw8 4 (sb u)).toList = wb at *
            generalize sb u = v at *
            have kx1 := fun w => xorWords_ (from8 (4 * m) (wf key m)) v w (fun i _ => wf_lt HB.out m _) lT
            have sm := fun w' => run_ixw (w.heap.size + 1 + 1) m (by omega) m rfl w'
            have s8 := fun w' => run_ixw (w.heap.size + 1 + 1) (m + 8) (by omega) ((m : Int) + 8) rfl w'
            have ew : IntKind.i64.wrap ((m : Int) + 8 - 8) = (m : Int) := by rw [IntKind.wrap_i64]; omega
            have ew2 : IntKind.i64.wrap (m : Int) = (m : Int) := by rw [IntKind.wrap_i64]; omega
            have b0 := bel_drew1 b0
            have a1 := a1.drew
            have a2 := a2.drew
            have a3 := a3.drew
            refine wp_region_held_drew (S := fun wx => wx.rangeAt (w.heap.size + 1 + 1) (4 * m) (rw8 4 (from8 (4 * m) (wf key m))).toList ∧ wx.rangeAt gt 0 (rw8 4 v).toList) (by kernel_rfl) ⟨a2.range (4 * m) 4 (by omega), a3.rng0⟩ (fun hHeld => ?_)
            generalize wb.drew = wd at *
            refine take_to 0 59 (.int .i64 ((m : Int) + 8)) rfl rfl (by kernel_rfl) (by kernel_rfl) (by kernel_rfl) (fun _ _ _ h => h) (Or.inl ⟨by rfl, fun w' _ => ?_⟩) hHeld ?_
            · go_simp
            try simp only [List.setIfInBounds_toArray, List.set_cons_zero, List.set_cons_succ]
            refine take_to 1 60 (.int .i64 ((m : Int) + 8)) rfl rfl (by kernel_rfl) (by kernel_rfl) (by kernel_rfl) (fun _ _ _ h => h) (Or.inl ⟨by rfl, fun w' _ => ?_⟩) hHeld ?_
            · go_simp
            try simp only [List.setIfInBounds_toArray, List.set_cons_zero, List.set_cons_succ]
            refine take_to 2 61 (.int .i64 (m : Int)) rfl rfl (by kernel_rfl) (by kernel_rfl) (by kernel_rfl) (fun _ _ _ h => h) (Or.inl ⟨by rfl, fun w' _ => ?_⟩) hHeld ?_
            · go_simp
            try simp only [List.setIfInBounds_toArray, List.set_cons_zero, List.set_cons_succ]
            refine take_to 3 62 (.pointer (some ⟨w.heap.size + 1 + 1, 4 * m, none⟩)) rfl rfl (by kernel_rfl) (by kernel_rfl) (by kernel_rfl) (fun _ _ _ h => h) (Or.inl ⟨by rfl, fun w' _ => ?_⟩) hHeld ?_
            · go_simp
            try simp only [List.setIfInBounds_toArray, List.set_cons_zero, List.set_cons_succ]
            refine take_to 4 63 (.agg (rw8 4 (from8 (4 * m) (wf key m)))) rfl rfl (by kernel_rfl) (by kernel_rfl) (by kernel_rfl) (fun _ _ _ h => h) (yields_rng (by rfl) _ _ rfl (w.heap.size + 1 + 1) (4 * m) 4 _ rfl (fun w' h => h.1) _ underw rfl sizew) hHeld ?_
            try simp only [List.setIfInBounds_toArray, List.set_cons_zero, List.set_cons_succ]
            refine take_to 5 64 (.agg (rw8 4 v)) rfl rfl (by kernel_rfl) (by kernel_rfl) (by kernel_rfl) (fun _ _ _ h => h) (yields_rng (by rfl) _ _ rfl (gt) (0) 4 _ rfl (fun w' h => h.2) _ underw rfl sizew) hHeld ?_
            try simp only [List.setIfInBounds_toArray, List.set_cons_zero, List.set_cons_succ]
            refine wpAnyH_ready (rs := [6]) (by kernel_rfl) (by simp) ?_
            refine AllReadyH.cons rfl (fun K hK => ?_) AllReadyH.nil
            rw [if_pos (by rfl)]
            go_wp2_with fail
            refine (kx1 _).mono ?_
            rintro e wq ⟨rfl, g2⟩
            have a1 := a1.kept g2
            have a2 := a2.kept g2
            have a3 := a3.kept g2
            have b0 := bel_bel b0 b0.size g2
            clear g2 hHeld kx1
            try go_wp2_with fail
            refine hK.out _ _ ⟨a2.range (4 * m) 4 (by omega), a3.rng0⟩ (fun hHeld => ?_)
            clear hK K
            try simp only [Act.put, List.setIfInBounds_toArray, List.set_cons_zero, List.set_cons_succ]
            refine take_to 7 66 (.pointer (some ⟨w.heap.size + 1 + 1, 4 * (m + 8), none⟩)) rfl rfl (by kernel_rfl) (by kernel_rfl) (by kernel_rfl) (fun _ _ _ h => h) (Or.inl ⟨by rfl, fun w' _ => ?_⟩) hHeld ?_
            · go_simp
            try simp only [List.setIfInBounds_toArray, List.set_cons_zero, List.set_cons_succ]
            refine wpAnyH_ready (rs := [8]) (by kernel_rfl) (by simp) ?_
            refine AllReadyH.cons rfl (fun K hK => ?_) AllReadyH.nil
            rw [if_pos (by rfl)]
            refine wp_stm rfl _ _ _ rfl (w.heap.size + 1 + 1) (4 * (m + 8)) rfl 4 (xr (from8 (4 * m) (wf key m)) v) rfl _ _ _ (by with_reducible exact a2) (by omega) sizew ?_
            have a1 := a1.omid (g' := w.heap.size + 1 + 1) (by omega) (4 * (m + 8)) (rw8 4 (xr (from8 (4 * m) (wf key m)) v)).toList
            have a3 := a3.omid (g' := w.heap.size + 1 + 1) (by omega) (4 * (m + 8)) (rw8 4 (xr (from8 (4 * m) (wf key m)) v)).toList
            have a2 := a2.mid (4 * (m + 8)) 4 (xr (from8 (4 * m) (wf key m)) v)
            have b0 := bel_cells (B := w.heap.size) (g := w.heap.size + 1 + 1) (by omega) (rw8 4 (xr (from8 (4 * m) (wf key m)) v)).toList (4 * (m + 8)) _ b0
            refine hK.out _ _ ⟨World.rangeAt_setCells_apart hHeld.1 _ _ _ (Or.inr (Or.inl (by rw [rw8_len]; omega))), a3.rng0⟩ (fun hHeld => ?_)
            clear hK K
            try simp only [Act.put, List.setIfInBounds_toArray, List.set_cons_zero, List.set_cons_succ]
            have a2 := a2.ext (f' := wf key (m + 1)) (fun i _ => wf_put HL.out m HT.out i)
            generalize wq.setCells (w.heap.size + 1 + 1) (4 * (m + 8)) (rw8 4 (xr (from8 (4 * m) (wf key m)) v)).toList = we at *
            refine wpAnyH_done (by kernel_rfl) ?_ _
            clear hHeld sm s8 ew ew2
            go_wp2_with fail
            go_roundw
            case rel => exact ⟨m + 1, by omega, by go_num, by rw [HR.out], a1, a2, b0⟩
            case measure => simp [intOf]; omega
          · have e0 : ¬ ((m : Int) + 8) % 8 = 0 := by omega
            have e4 : ¬ ((m : Int) + 8) % 8 = 4 := by omega
            have e0b : (((m : Int) + 8) % 8 == 0) = false := by simpa using e0
            have e4b : (((m : Int) + 8) % 8 == 4) = false := by simpa using e4
            have HT : Hid (∀ y, y < 4 → (from8 (4 * (m + 7)) (wf key m)) y = tw (kx key m) (m + 8) y) := fun y hy => by
              unfold tw
              rw [if_neg h8, if_neg (by omega)]
              show (kx key m).getD (4 * (m + 7) + y) 0 = _
              rw [show 4 * (m + 8) - 4 = 4 * (m + 7) from by omega]
            have HR : Hid (rc ((m + 15) / 8) = rc ((m + 1 + 15) / 8)) := by show _ = _; rw [show (m + 1 + 15) / 8 = (m + 15) / 8 from by omega]
            generalize rc ((m + 15) / 8) = p at *
            go_wp2_with (first | (refine wpList_ldm rfl _ _ rfl (w.heap.size + 1 + 1) (4 * (m + 7)) rfl _ _ 4 (wf key m) (by with_reducible exact a2) (by omega) _ (by exact underw) rfl (by exact sizew) ?_) | (refine wpList_al rfl _ rfl 4 (by exact zerow) ?_) | (refine wpList_stm rfl rfl _ _ _ rfl wr.heap.size 0 rfl 4 (from8 (4 * (m + 7)) (wf key m)) rfl _ _ _ (by with_reducible exact AN) (by omega) (by exact sizew) ?_) )
            have n1 := (a1.alloc (.cells (rw8 4 fun _ => 0) 148)).omid (g' := wr.heap.size) (by omega) 0 (rw8 4 (from8 (4 * (m + 7)) (wf key m))).toList
            have n2 := (a2.alloc (.cells (rw8 4 fun _ => 0) 148)).omid (g' := wr.heap.size) (by omega) 0 (rw8 4 (from8 (4 * (m + 7)) (wf key m))).toList
            have n3 := AN.whole (from8 (4 * (m + 7)) (wf key m))
            have nb : Below w.heap.size w ((wr.alloc (.cells (rw8 4 fun _ => 0) 148)).setCells wr.heap.size 0 (rw8 4 (from8 (4 * (m + 7)) (wf key m))).toList) := bel_cells (by omega) _ _ _ (b0.alloc (by omega) _)
            have a1 := n1
            have a2 := n2
            have a3 := n3
            have b0 := nb
            clear n1 n2 n3 nb AN si7 e0 e4 e0b e4b h8 h4 s0 l2
            generalize wr.heap.size = gt at *
            generalize (wr.alloc (.cells (rw8 4 fun _ => 0) 148)).setCells gt 0 (rw8 4 (from8 (4 * (m + 7)) (wf key m))).toList = wn at *
            have lT := lu
            clear lu
            have kx1 := fun w => xorWords_ (from8 (4 * m) (wf key m)) (from8 (4 * (m + 7)) (wf key m)) w (fun i _ => wf_lt HB.out m _) lT
            have sm := fun w' => run_ixw (w.heap.size + 1 + 1) m (by omega) m rfl w'
            have s8 := fun w' => run_ixw (w.heap.size + 1 + 1) (m + 8) (by omega) ((m : Int) + 8) rfl w'
            have ew : IntKind.i64.wrap ((m : Int) + 8 - 8) = (m : Int) := by rw [IntKind.wrap_i64]; omega
            have ew2 : IntKind.i64.wrap (m : Int) = (m : Int) := by rw [IntKind.wrap_i64]; omega
            have b0 := bel_drew1 b0
            have a1 := a1.drew
            have a2 := a2.drew
            have a3 := a3.drew
            refine wp_region_held_drew (S := fun wx => wx.rangeAt (w.heap.size + 1 + 1) (4 * m) (rw8 4 (from8 (4 * m) (wf key m))).toList ∧ wx.rangeAt gt 0 (rw8 4 (from8 (4 * (m + 7)) (wf key m))).toList) (by kernel_rfl) ⟨a2.range (4 * m) 4 (by omega), a3.rng0⟩ (fun hHeld => ?_)
            generalize wn.drew = wd at *
            refine take_to 0 59 (.int .i64 ((m : Int) + 8)) rfl rfl (by kernel_rfl) (by kernel_rfl) (by kernel_rfl) (fun _ _ _ h => h) (Or.inl ⟨by rfl, fun w' _ => ?_⟩) hHeld ?_
            · go_simp
            try simp only [List.setIfInBounds_toArray, List.set_cons_zero, List.set_cons_succ]
            refine take_to 1 60 (.int .i64 ((m : Int) + 8)) rfl rfl (by kernel_rfl) (by kernel_rfl) (by kernel_rfl) (fun _ _ _ h => h) (Or.inl ⟨by rfl, fun w' _ => ?_⟩) hHeld ?_
            · go_simp
            try simp only [List.setIfInBounds_toArray, List.set_cons_zero, List.set_cons_succ]
            refine take_to 2 61 (.int .i64 (m : Int)) rfl rfl (by kernel_rfl) (by kernel_rfl) (by kernel_rfl) (fun _ _ _ h => h) (Or.inl ⟨by rfl, fun w' _ => ?_⟩) hHeld ?_
            · go_simp
            try simp only [List.setIfInBounds_toArray, List.set_cons_zero, List.set_cons_succ]
            refine take_to 3 62 (.pointer (some ⟨w.heap.size + 1 + 1, 4 * m, none⟩)) rfl rfl (by kernel_rfl) (by kernel_rfl) (by kernel_rfl) (fun _ _ _ h => h) (Or.inl ⟨by rfl, fun w' _ => ?_⟩) hHeld ?_
            · go_simp
            try simp only [List.setIfInBounds_toArray, List.set_cons_zero, List.set_cons_succ]
            refine take_to 4 63 (.agg (rw8 4 (from8 (4 * m) (wf key m)))) rfl rfl (by kernel_rfl) (by kernel_rfl) (by kernel_rfl) (fun _ _ _ h => h) (yields_rng (by rfl) _ _ rfl (w.heap.size + 1 + 1) (4 * m) 4 _ rfl (fun w' h => h.1) _ underw rfl sizew) hHeld ?_
            try simp only [List.setIfInBounds_toArray, List.set_cons_zero, List.set_cons_succ]
            refine take_to 5 64 (.agg (rw8 4 (from8 (4 * (m + 7)) (wf key m)))) rfl rfl (by kernel_rfl) (by kernel_rfl) (by kernel_rfl) (fun _ _ _ h => h) (yields_rng (by rfl) _ _ rfl (gt) (0) 4 _ rfl (fun w' h => h.2) _ underw rfl sizew) hHeld ?_
            try simp only [List.setIfInBounds_toArray, List.set_cons_zero, List.set_cons_succ]
            refine wpAnyH_ready (rs := [6]) (by kernel_rfl) (by simp) ?_
            refine AllReadyH.cons rfl (fun K hK => ?_) AllReadyH.nil
            rw [if_pos (by rfl)]
            go_wp2_with fail
            refine (kx1 _).mono ?_
            rintro e wq ⟨rfl, g2⟩
            have a1 := a1.kept g2
            have a2 := a2.kept g2
            have a3 := a3.kept g2
            have b0 := bel_bel b0 b0.size g2
            clear g2 hHeld kx1
            try go_wp2_with fail
            refine hK.out _ _ ⟨a2.range (4 * m) 4 (by omega), a3.rng0⟩ (fun hHeld => ?_)
            clear hK K
            try simp only [Act.put, List.setIfInBounds_toArray, List.set_cons_zero, List.set_cons_succ]
            refine take_to 7 66 (.pointer (some ⟨w.heap.size + 1 + 1, 4 * (m + 8), none⟩)) rfl rfl (by kernel_rfl) (by kernel_rfl) (by kernel_rfl) (fun _ _ _ h => h) (Or.inl ⟨by rfl, fun w' _ => ?_⟩) hHeld ?_
            · go_simp
            try simp only [List.setIfInBounds_toArray, List.set_cons_zero, List.set_cons_succ]
            refine wpAnyH_ready (rs := [8]) (by kernel_rfl) (by simp) ?_
            refine AllReadyH.cons rfl (fun K hK => ?_) AllReadyH.nil
            rw [if_pos (by rfl)]
            refine wp_stm rfl _ _ _ rfl (w.heap.size + 1 + 1) (4 * (m + 8)) rfl 4 (xr (from8 (4 * m) (wf key m)) (from8 (4 * (m + 7)) (wf key m))) rfl _ _ _ (by with_reducible exact a2) (by omega) sizew ?_
            have a1 := a1.omid (g' := w.heap.size + 1 + 1) (by omega) (4 * (m + 8)) (rw8 4 (xr (from8 (4 * m) (wf key m)) (from8 (4 * (m + 7)) (wf key m)))).toList
            have a3 := a3.omid (g' := w.heap.size + 1 + 1) (by omega) (4 * (m + 8)) (rw8 4 (xr (from8 (4 * m) (wf key m)) (from8 (4 * (m + 7)) (wf key m)))).toList
            have a2 := a2.mid (4 * (m + 8)) 4 (xr (from8 (4 * m) (wf key m)) (from8 (4 * (m + 7)) (wf key m)))
            have b0 := bel_cells (B := w.heap.size) (g := w.heap.size + 1 + 1) (by omega) (rw8 4 (xr (from8 (4 * m) (wf key m)) (from8 (4 * (m + 7)) (wf key m)))).toList (4 * (m + 8)) _ b0
            refine hK.out _ _ ⟨World.rangeAt_setCells_apart hHeld.1 _ _ _ (Or.inr (Or.inl (by rw [rw8_len]; omega))), a3.rng0⟩ (fun hHeld => ?_)
            clear hK K
            try simp only [Act.put, List.setIfInBounds_toArray, List.set_cons_zero, List.set_cons_succ]
            have a2 := a2.ext (f' := wf key (m + 1)) (fun i _ => wf_put HL.out m HT.out i)
            generalize wq.setCells (w.heap.size + 1 + 1) (4 * (m + 8)) (rw8 4 (xr (from8 (4 * m) (wf key m)) (from8 (4 * (m + 7)) (wf key m)))).toList = we at *
            refine wpAnyH_done (by kernel_rfl) ?_ _
            clear hHeld sm s8 ew ew2
            go_wp2_with fail
            go_roundw
            case rel => exact ⟨m + 1, by omega, by go_num, by rw [HR.out], a1, a2, b0⟩
            case measure => simp [intOf]; omega
        · have a2 := a2.ext (f' := kf key) (fun i _ => by unfold wf kf; rw [show m = 52 from by omega])
          have hge2 : ¬ (m : Int) + 8 < 60 := by omega
          obtain ⟨f, Hf⟩ : ∃ f, Hid (kf key = f) := ⟨_, rfl⟩
          rw [Hf.out] at a2
          go_wp2_with (first | (refine wpList_ldw rfl _ _ rfl _ rfl _ _ 240 _ (by with_reducible exact a2) (by omega) _ (by exact underW) rfl (by exact sizeW) ?_) | (refine wpList_stm rfl rfl _ _ _ rfl (w.heap.size + 1) 0 rfl 240 f rfl _ _ _ (by with_reducible exact a1) (by omega) (by exact sizeW) ?_))
          refine bodyPost_ret (v := .agg (rw8 240 f)) ?_ rfl ⟨by rw [Hf.out], bel_cells (by omega) _ _ _ b0⟩
          exact results_rw rfl _ _ (w.heap.size + 1) 240 f _ rfl (a1.whole _) underW rfl sizeW
end Go.Proofs.Ytnjfckijpbgagaa
