import Derived.Test.YtlepbncaicpmjaaWN
import Derived.Deep.RegionHeldLaw
import Derived.Deep.AppendLies
namespace Go.Proofs.Ytlepbncaicpmjaa
set_option maxRecDepth 100000
open Go.RowKit Go.Maps
set_option linter.unusedVariables false

/-- The rows with the sets done, as the law does them. -/
def hitS (s : List Sx) (p : List Int × List Int) : Bool := s.any fun x => sameB p.1 x.k
def newS (x : Sx) : Option (List Int × List Int) := if x.g then none else some (x.k, x.v)
def trn (L : Tab) (s : List Sx) : Tab := L.filter (fun p => !hitS s p) ++ s.filterMap newS
/-- Rows of one's own that are gathered since w, their bytes being w's. -/
structure Rw3 (w wr : World) (v : Value) (ds : List RD) : Prop where
  own : wr.ownsRow w.heap.size 38 2 v ds.length (rds ds)
  sv : ∀ d ∈ ds, RV2 w (fun _ => True) d
  bel : Below w.heap.size w wr
theorem Rw3.nil (w : World) : Rw3 w w (.slice none 0 0) [] := ⟨World.ownsRow_nil _ _ _ _, fun d hd => by simp at hd, Below.refl _ _⟩
theorem Rw3.below {w wr w2 : World} {v : Value} {ds : List RD} (h : Rw3 w wr v ds) (hb : Below wr.heap.size wr w2) : Rw3 w w2 v ds := ⟨own_bel h.own hb, h.sv, bel_bel h.bel h.bel.size hb⟩
theorem Rw3.app {w w3 w5 : World} {v v5 : Value} {ds : List RD} {d : RD} {o : Obj} (h : Rw3 w w3 v ds) (hd : RV2 w (fun _ => True) d) (ho : w5.ownsRow w.heap.size 38 2 v5 (ds ++ [d]).length (rds (ds ++ [d]))) (hg : (w3.alloc o).grownBy w5 v.ownBlock) : Rw3 w w5 v5 (ds ++ [d]) := by
  have hown : ∀ q, v.ownBlock = some q → w.heap.size ≤ q := fun q e => (h.own.lt q e).1
  have hsa : (w3.alloc o).heap.size = w3.heap.size + 1 := by simp
  refine ⟨ho, ?_, (h.bel.alloc h.bel.size o).grown hg (by rw [hsa]; have := h.bel.size; omega) (fun q e => hown q e)⟩
  intro d' hd'
  rcases List.mem_append.1 hd' with hd' | hd'
  · exact h.sv d' hd'
  · rw [List.mem_singleton] at hd'
    subst hd'
    exact hd
/-- One more behind a row of one's own, at a step of a drawn region. -/
theorem step_appRow {w : World} {ops : Array Oper} {o : Oper} {a : Act} {K : Act → World → Prop} {Q : Exit → Act → World → Prop} {E : Prop} (hgd : o.guard = none) (s x : Operand)
    (ho : o.op = .call { callee := .builtin .append, args := #[s, x], argTypes := #[32, 32] })
    (base : Nat) (v : Value) (ds : List RD) (hs : a.eval s = v) (hown : w.ownsRow base 38 2 v ds.length (rds ds)) (g : Nat) (d : RD) (hx : a.eval x = .slice (some ⟨g, 0, none⟩) 1 1)
    (hg : ∀ j u, (rdc d)[j]? = some u → w.cell? ⟨g, j, none⟩ = some u) (hlen : ds.length ≤ 1000000000) (hbase : base ≤ w.heap.size)
    (h : ∀ v' w', w'.ownsRow base 38 2 v' (ds ++ [d]).length (rds (ds ++ [d])) → w.grownBy w' v.ownBlock → K (a.put o.dst v') w') : if Region.wanted o (yielded ops a.tmps) = true then Oper.wp Try.prog o a w K Q else E := by
  obtain ⟨i, hi, hz0, hz1, hz2⟩ := info_parts infoR
  refine step_append_lies w hgd s x 32 ho base 38 i _ 2 48 Try.underlying32 hi hz0 hz1 hz2 rfl (by decide) v ds.length (rds ds) hs hown ⟨g, 0, none⟩ 1 1 (rdc d) hx rfl ?c1 ?c2 (by omega) (by unfold maxLen; omega) (by omega) hbase w.heap.size rfl ?_
  case c1 =>
    intro j u hj
    rw [Addr.add_lit, Nat.zero_add]
    exact hg j u hj
  case c2 =>
    intro u hu
    exact rds_one [d] u (by simpa [rds] using hu)
  intro g' cap w' h1 h2 _ _
  refine h _ w' ?_ h2
  rw [List.length_append, List.length_singleton, rds_app]
  simpa [rds] using h1
set_option maxHeartbeats 2000000 in
/-- The law's turned. -/
theorem turned15_ (V V' : Nat → Prop) (a a' : Option Addr) (n c m d : Nat) (L : Tab) (s : List Sx) (w : World) (hl : Rwl w V a n L) (hs : Sl w V' a' m s) (hn : n ≤ 1000000) (hm : m ≤ 1000000) :
    Calls Try.prog 9 #[.slice a n c, .slice a' m d] w fun e w' => ∃ v ds, e = .returned v ∧ Rw3 w w' v ds ∧ ds.map (·.s) = trn L s := by
  have hlen := hl.len
  have hlen' := hs.len
  have HL := hid hl
  have HS := hid hs
  clear hl hs
  go_enter Try.func9, Try.ntmps9
  go_wp2_with fail
  go_loopw [5, 6] (fun v i wr => ∃ (j : Nat) (ds : List RD), j ≤ n ∧ i = .int .i64 j ∧ Hid (Rw3 w wr v ds) ∧ Hid (ds.map (·.s) = (L.take j).filter (fun p => !hitS s p))) (fun _ i _ => n - (intOf i).toNat)
  case atStart => exact ⟨0, [], by omega, rfl, Rw3.nil w, rfl⟩
  case round =>
    obtain ⟨j, ds, hj, rfl, HR, HD⟩ := hrel
    by_cases hlt : j < n
    · have hjI : (j : Int) < n := by omega
      obtain ⟨b, off, rfl, hc⟩ : ∃ b off, a = some ⟨b, off, none⟩ ∧ ∀ i, i < n → RowAt w V b (off + i * 2) (L.getD i ([], [])) := by
        rcases HL.out.cells with h0 | ⟨b, off, e, -, h⟩
        · omega
        · exact ⟨b, off, e, h⟩
      have HT : Hid (L.take (j + 1) = L.take j ++ [L.getD j ([], [])]) := by
        have h : j < L.length := by omega
        have e : L.getD j ([], []) = L[j] := by simp [List.getD, h]
        show _ = _
        rw [e]
        exact List.take_succ_eq_append_getElem h
      obtain ⟨x, HX⟩ : ∃ x, Hid (L.getD j ([], []) = x) := ⟨_, rfl⟩
      have hx := hc j hlt
      rw [HX.out] at hx HT
      obtain ⟨xk, xv⟩ := x
      obtain ⟨qa, qc, ra, rc, c0, c1, vk, vv⟩ := hx
      simp only at c0 c1 vk vv
      have HVK := hid (vk.wide (V' := fun _ => True) fun _ _ _ => trivial)
      have HVV := hid (vv.wide (V' := fun _ => True) fun _ _ _ => trivial)
      have A0 := hid c0
      have A1 := hid c1
      clear hc c0 c1 vk vv
      --INNER
      obtain ⟨W2, rfl⟩ : ∃ z, z = wr := ⟨_, rfl⟩
      have HSW : Hid (Sl W2 V' a' m s) := HS.out.step fun x hx _ _ => HR.out.bel.block x hx
      have A0r := hid (Bw.cell HR.out.bel A0.out)
      have A1r := hid (Bw.cell HR.out.bel A1.out)
      obtain ⟨xl, Hxl⟩ : ∃ z : Nat, Hid (xk.length = z) := ⟨_, rfl⟩
      obtain ⟨yl, Hyl⟩ : ∃ z : Nat, Hid (xv.length = z) := ⟨_, rfl⟩
      rw [Hxl.out] at A0r
      rw [Hyl.out] at A1r
      clear A0 A1
      go_wp2_with fail
      go_loopw [7, 8] (fun v i wi => ∃ (t : Nat) (h : Bool), t ≤ m ∧ v = .bool h ∧ i = .int .i64 t ∧ Hid (Bw W2 wi) ∧ Hid (h = (s.take t).any fun x => sameB xk x.k)) (fun _ i _ => m - (intOf i).toNat)
      case atStart => exact ⟨0, false, by omega, rfl, rfl, Below.refl _ _, rfl⟩
      case round =>
        obtain ⟨t, h, ht, rfl, rfl, HB, HA⟩ := hrel
        by_cases htl : t < m
        · have htI : (t : Int) < m := by omega
          obtain ⟨b2, off2, rfl, hc⟩ : ∃ b off, a' = some ⟨b, off, none⟩ ∧ ∀ i, i < m → SetAt W2 V' b (off + i * 3) (s.getD i default) := by
            rcases HSW.out.cells with h0 | ⟨b, off, e, -, h⟩
            · omega
            · exact ⟨b, off, e, h⟩
          have HT2 : Hid (s.take (t + 1) = s.take t ++ [s.getD t default]) := by
            have h : t < s.length := by omega
            have e : s.getD t default = s[t] := by simp [List.getD, h]
            show _ = _
            rw [e]
            exact List.take_succ_eq_append_getElem h
          obtain ⟨y, HY⟩ : ∃ y, Hid (s.getD t default = y) := ⟨_, rfl⟩
          have hy := hc t htl
          rw [HY.out] at hy HT2
          obtain ⟨yk, yv, yg⟩ := y
          obtain ⟨ua, uc, ta, tc, e0, e1, e2, uk, uv⟩ := hy
          simp only at e0 e1 e2 uk uv
          have ks := fun wx (hq : Bw W2 wx) => same_d qa ua xk.length qc yk.length uc xk yk wx ((HVK.out.bs.below HR.out.bel).below hq) (uk.bs.below hq) (Nat.le_trans HVK.out.nc HVK.out.cm) (Nat.le_trans uk.nc uk.cm)
          obtain ⟨q, hq⟩ : ∃ q, sameB xk yk = q := ⟨_, rfl⟩
          rw [hq] at ks
          have HQ := hid hq
          obtain ⟨kl, Hkl⟩ : ∃ z : Nat, Hid (yk.length = z) := ⟨_, rfl⟩
          rw [Hkl.out] at e0 ks
          rw [Hxl.out] at ks
          have B0 := hid e0
          clear hc e0 e1 e2 uk uv hq
          have HNX : Hid ((h || q) = (s.take (t + 1)).any fun x => sameB xk x.k) := by
            show _ = _
            rw [HT2.out, List.any_append, ← HA.out, ← HQ.out]
            simp only [List.any_cons, List.any_nil, Bool.or_false]
          cases h with
          | false =>
            go_wp2_with fail
            refine wp_quietC (Bw W2) (by kernel_rfl) (by kernel_rfl) (Bw.on HB.out (below_drew _)) ?_
            repeat (first | go_big_quiet_skip | (go_big_quiet_want; go_big_quiet_op; first | go_big_quiet_on | (apply Exists.intro; refine ⟨fun wq hq => ?_, ?_⟩; (· first | (with_reducible rfl) | (go_at_call 20; exact (ks _ hq).mono fun _ _ h => ⟨h.1, hq.on h.2.below⟩) | (have q1 := hq.cell A0r.out; have q5 := hq.cell B0.out; go_simp; rfl) | rfl); go_big_quiet_on)))
            refine wpQuiet_nil ?_
            intro w3 s3
            have HB3 : Hid (Bw W2 w3) := s3
            clear s3 ks
            go_wp2_with fail
            go_roundw
            case rel => exact ⟨t + 1, q, by omega, rfl, by go_num, HB3, HNX.out⟩
            case measure => simp [intOf]; omega
          | true =>
            go_wp2_with fail
            refine wp_quietC (Bw W2) (by kernel_rfl) (by kernel_rfl) (Bw.on HB.out (below_drew _)) ?_
            repeat (first | go_big_quiet_skip | (go_big_quiet_want; go_big_quiet_op; first | go_big_quiet_on | (apply Exists.intro; refine ⟨fun wq hq => ?_, ?_⟩; (· first | (with_reducible rfl) | (go_at_call 20; exact (ks _ hq).mono fun _ _ h => ⟨h.1, hq.on h.2.below⟩) | (have q1 := hq.cell A0r.out; have q5 := hq.cell B0.out; go_simp; rfl) | rfl); go_big_quiet_on)))
            refine wpQuiet_nil ?_
            intro w3 s3
            have HB3 : Hid (Bw W2 w3) := s3
            clear s3 ks
            go_wp2_with fail
            go_roundw
            case rel => exact ⟨t + 1, true, by omega, rfl, by go_num, HB3, HNX.out⟩
            case measure => simp [intOf]; omega
        · have htI : ¬ (t : Int) < m := by omega
          obtain rfl : t = m := by omega
          rw [List.take_of_length_le (by omega)] at HA
          have HA2 : Hid (h = hitS s (xk, xv)) := HA.out
          have HR2 := hid (HR.out.below HB.out)
          have Z0 := Bw.cell HB.out A0r.out
          have Z1 := Bw.cell HB.out A1r.out
          clear HR HB HA A0r A1r
          cases h with
          | true =>
            go_wp2_with fail
            go_roundw
            case rel => exact ⟨j + 1, ds, by omega, by go_num, HR2, by show _ = _; rw [HT.out, List.filter_append, HD.out]; simp [← HA2.out]⟩
            case measure => simp [intOf]; omega
          | false =>
            have HDL : Hid (ds.length ≤ 1000000000) := by
              have h1 := congrArg List.length HD.out
              have h2 := List.length_filter_le (fun p => !hitS s p) (L.take j)
              rw [List.length_map] at h1
              rw [List.length_take] at h2
              show _ ≤ _
              omega
            have HRD : Hid (RV2 w (fun _ => True) ⟨qa, qc, ra, rc, (xk, xv)⟩) := ⟨HVK.out, HVV.out⟩
            have HNW : Hid (∀ i u, (rdc ⟨qa, qc, ra, rc, (xk, xv)⟩)[i]? = some u → (wr.alloc (.cells #[.slice qa xl qc, .slice ra yl rc] 38)).cell? ⟨wr.heap.size, i, none⟩ = some u) := fun i u hi => by
              rw [cell_of_row _ wr.heap.size i _ 38 (0, 0) (heap_alloc_new wr _)]
              simp only [rdc, Hxl.out, Hyl.out] at hi
              simpa using hi
            have HO6 := hid (HR2.out.own.alloc (.cells #[.slice qa xl qc, .slice ra yl rc] 38))
            have HBZ : Hid (w.heap.size ≤ (wr.alloc (.cells #[.slice qa xl qc, .slice ra yl rc] 38)).heap.size) := by have := HR2.out.bel.size; show _ ≤ _; simp; omega
            go_wp2_with (first | (at_builtin; refine wpList_appRow rfl _ _ rfl w.heap.size u5 ds rfl (by exact HO6.out) wr.heap.size ⟨qa, qc, ra, rc, (xk, xv)⟩ rfl (by exact HNW.out) HDL.out HBZ.out ?_; intro v7 w7 o7 g7 l7; have HO7 := hid (HR2.out.app HRD.out o7 g7); clear o7 g7 l7 HNW) | fail)
            go_roundw
            case rel => exact ⟨j + 1, ds ++ [⟨qa, qc, ra, rc, (xk, xv)⟩], by omega, by go_num, HO7, by show _ = _; rw [HT.out, List.filter_append, List.map_append, HD.out]; simp [← HA2.out]⟩
            case measure => simp [intOf]; omega
    · have hjI : ¬ (j : Int) < n := by omega
      obtain rfl : j = n := by omega
      rw [List.take_of_length_le (by omega)] at HD
      clear hlt hjI
      go_wp2_with fail
      go_loopw [5, 9] (fun v i wr => ∃ (k : Nat) (es : List RD), k ≤ m ∧ i = .int .i64 k ∧ Hid (Rw3 w wr v es) ∧ Hid (es.map (·.s) = L.filter (fun p => !hitS s p) ++ (s.take k).filterMap newS)) (fun _ i _ => m - (intOf i).toNat)
      case atStart => exact ⟨0, ds, by omega, rfl, HR, by show _ = _; rw [HD.out]; simp⟩
      case round =>
        clear HR HD ds
        obtain ⟨t, ds, ht, rfl, HR, HD⟩ := hrel
        by_cases htl : t < m
        · have htI : (t : Int) < m := by omega
          obtain ⟨b2, off2, rfl, hc⟩ : ∃ b off, a' = some ⟨b, off, none⟩ ∧ ∀ i, i < m → SetAt w V' b (off + i * 3) (s.getD i default) := by
            rcases HS.out.cells with h0 | ⟨b, off, e, -, h⟩
            · omega
            · exact ⟨b, off, e, h⟩
          have HT2 : Hid (s.take (t + 1) = s.take t ++ [s.getD t default]) := by
            have h : t < s.length := by omega
            have e : s.getD t default = s[t] := by simp [List.getD, h]
            show _ = _
            rw [e]
            exact List.take_succ_eq_append_getElem h
          obtain ⟨y, HY⟩ : ∃ y, Hid (s.getD t default = y) := ⟨_, rfl⟩
          have hy := hc t htl
          rw [HY.out] at hy HT2
          obtain ⟨yk, yv, yg⟩ := y
          obtain ⟨qa, qc, ra, rc, e0, e1, e2, uk, uv⟩ := hy
          simp only at e0 e1 e2 uk uv
          have HVK := hid (uk.wide (V' := fun _ => True) fun _ _ _ => trivial)
          have HVV := hid (uv.wide (V' := fun _ => True) fun _ _ _ => trivial)
          obtain ⟨xl, Hxl⟩ : ∃ z : Nat, Hid (yk.length = z) := ⟨_, rfl⟩
          obtain ⟨yl, Hyl⟩ : ∃ z : Nat, Hid (yv.length = z) := ⟨_, rfl⟩
          rw [Hxl.out] at e0
          rw [Hyl.out] at e1
          have E0 := hid e0
          have E1 := hid e1
          have z0 := Bw.cell HR.out.bel e0
          have z1 := Bw.cell HR.out.bel e1
          have z2 := Bw.cell HR.out.bel e2
          clear hc e0 e1 e2 uk uv
          cases yg with
          | true =>
            go_wp2_with fail
            go_roundw
            case rel => exact ⟨t + 1, ds, by omega, by go_num, HR, by show _ = _; rw [HT2.out, List.filterMap_append, HD.out]; simp [newS]⟩
            case measure => simp [intOf]; omega
          | false =>
            have HDL : Hid (ds.length ≤ 1000000000) := by
              have h1 := congrArg List.length HD.out
              have h2 := List.length_filter_le (fun p => !hitS s p) L
              have h3 := List.length_filterMap_le newS (s.take t)
              rw [List.length_map, List.length_append] at h1
              rw [List.length_take] at h3
              show _ ≤ _
              omega
            have HRD : Hid (RV2 w (fun _ => True) ⟨qa, qc, ra, rc, (yk, yv)⟩) := ⟨HVK.out, HVV.out⟩
            have HRX : Hid (Rw3 w { wr with drawn := wr.drawn + 1 } u5 ds) := HR.out.below (below_drew wr)
            have HNW : Hid (∀ i u, (rdc ⟨qa, qc, ra, rc, (yk, yv)⟩)[i]? = some u → (({ wr with drawn := wr.drawn + 1 } : World).alloc (.cells #[.slice qa xl qc, .slice ra yl rc] 38)).cell? ⟨wr.heap.size, i, none⟩ = some u) := fun i u hi => by
              rw [cell_of_row _ wr.heap.size i _ 38 (0, 0) (heap_alloc_new { wr with drawn := wr.drawn + 1 } _)]
              simp only [rdc, Hxl.out, Hyl.out] at hi
              simpa using hi
            have HO6 := hid (HRX.out.own.alloc (.cells #[.slice qa xl qc, .slice ra yl rc] 38))
            have HBZ : Hid (w.heap.size ≤ (({ wr with drawn := wr.drawn + 1 } : World).alloc (.cells #[.slice qa xl qc, .slice ra yl rc] 38)).heap.size) := by have := HR.out.bel.size; show _ ≤ _; simp; omega
            go_wp2_with fail
            go_region_held_law (fun wx => wx.cell? ⟨b2, off2 + t * 3, none⟩ = some (.slice qa xl qc) ∧ wx.cell? ⟨b2, off2 + t * 3 + 1, none⟩ = some (.slice ra yl rc)) (go_keep) (first | (refine step_appRow (by rfl) (.tmp 57) (.tmp 69) (by rfl) w.heap.size u5 ds (by rfl) (by exact HO6.out) wr.heap.size ⟨qa, qc, ra, rc, (yk, yv)⟩ (by rfl) (by exact HNW.out) HDL.out HBZ.out ?_; intro v7 w7 o7 g7; have HO7 := hid (HRX.out.app HRD.out o7 g7); have t0 := Bw.cell HO7.out.bel E0.out; have t1 := Bw.cell HO7.out.bel E1.out; clear o7 g7) | fail)
            go_wp2_with fail
            go_roundw
            case rel => exact ⟨t + 1, ds ++ [⟨qa, qc, ra, rc, (yk, yv)⟩], by omega, by go_num, HO7, by show _ = _; rw [HT2.out, List.filterMap_append, List.map_append, HD.out]; simp [newS]⟩
            case measure => simp [intOf]; omega
        · have htI : ¬ (t : Int) < m := by omega
          obtain rfl : t = m := by omega
          rw [List.take_of_length_le (by omega)] at HD
          go_wp2_with fail
          go_ret
          first | exact ⟨_, ds, rfl, HR.out, HD.out⟩ | exact ⟨_, rfl, ds, HR.out, HD.out⟩
end Go.Proofs.Ytlepbncaicpmjaa
