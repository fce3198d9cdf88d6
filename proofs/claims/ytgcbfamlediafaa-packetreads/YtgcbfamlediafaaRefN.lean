import Derived.Test.YtgcbfamlediafaaNBase
import Derived.Test.YtgcbfamlediafaaPTxt
import Derived.Test.YtgcbfamlediafaaRefD
import Derived.Deep.RegionWith
namespace Go.Proofs.Ytgcbfamlediafaa
set_option maxRecDepth 100000
open Go.RowKit
set_option linter.unusedVariables false

theorem built_ci : Try.prog.built 134 [] = some (rw8 752 fun _ => 0) := by kernel_rfl
theorem wpList_ci {ops : Array Oper} {rest : List Oper} {o : Oper} {a : Act} {w : World} {Q : Exit → Act → World → Prop} (hg : o.guard = none) (ho : o.op = .build 134 #[])
    (h : wpList Try.prog ops Q rest (a.put o.dst (.agg (rw8 752 fun _ => 0))) w) : wpList Try.prog ops Q (o :: rest) a w := by
  exact wpList_build hg 134 #[] ho (by simp [built_ci]) (by simpa [built_ci] using h)
theorem getD_byte {zs : List Int} (h : ∀ z ∈ zs, 0 ≤ z ∧ z ≤ 255) (k : Nat) : 0 ≤ zs.getD k 0 ∧ zs.getD k 0 ≤ 255 := by
  by_cases hk : k < zs.length
  · simp only [List.getD, List.getElem?_eq_getElem hk, Option.getD_some]; exact h _ (List.getElem_mem hk)
  · simp only [List.getD, List.getElem?_eq_none (by omega : zs.length ≤ k), Option.getD_none]; omega
theorem take_more (key : List Nat) (i : Nat) (hi : i < key.length) (j : Nat) : (key.take (i + 1)).getD j 0 = if j = i then key.getD i 0 else (key.take i).getD j 0 := by
  have := getD_more [] key 0 i rfl hi j
  simpa using this
theorem nw_get (l : List Nat) (i k : Nat) (hk : k < 4) : (nw l i).getD k 0 = l.getD (4 * i - 32 + k) 0 ^^^ tw l i k := by
  simp [nw, List.getD, hk]
set_option maxRecDepth 100000 in
theorem rc_next : ∀ n, 1 ≤ n → n ≤ 7 → mul8 (rc n) 2 = rc (n + 1) := by
  intro n h1 h2
  rcases (show n = 1 ∨ n = 2 ∨ n = 3 ∨ n = 4 ∨ n = 5 ∨ n = 6 ∨ n = 7 by omega) with rfl | rfl | rfl | rfl | rfl | rfl | rfl <;> decide +kernel
theorem zeros4 : #[Value.int IntKind.u8 0, Value.int IntKind.u8 0, Value.int IntKind.u8 0, Value.int IntKind.u8 0] = rw8 4 fun _ => 0 := rfl
theorem NS.new (w : World) : NS (w.alloc (.cells (rw8 752 fun _ => 0) 134)) w.heap.size 0 [] :=
  ⟨_, Rw.new w _ _ _, fun y hy => by omega, fun y hy => by omega, fun j _ => by simp⟩
set_option maxRecDepth 100000 in
set_option maxHeartbeats 8000000 in
theorem refNew_ (a : Option Addr) (n cap : Nat) (zs : List Int) (w : World) (hb : Bs w a n zs) (hn : n = 32) :
    Calls Try.prog 61 #[.slice a n cap] w fun e w' => ∃ g, e = .returned (.tuple #[.pointer (some ⟨g, 0, none⟩), .int .i64 0]) ∧ w.heap.size ≤ g ∧ Ci w' g (kf (zs.map Int.toNat)) ∧ Below w.heap.size w w' := by
  subst hn
  obtain ⟨hl, hby, hcs⟩ := hb
  obtain ⟨b, off, rfl, hcl⟩ : ∃ b off, a = some ⟨b, off, none⟩ ∧ ∀ i, i < 32 → w.cell? ⟨b, off + i, none⟩ = some (.int .u8 (zs.getD i 0)) := by
    rcases hcs with h | h
    · omega
    · exact h
  have HKL : Hid ((zs.map Int.toNat).length = 32) := by show _ = _; simp [hl]
  have HKB : Hid (∀ z ∈ zs.map Int.toNat, z < 256) := by
    intro z hz
    obtain ⟨y, hy, rfl⟩ := List.mem_map.1 hz
    have := hby y hy
    omega
  have hkc : ∀ i, i < 32 → w.cell? ⟨b, off + i, none⟩ = some (.int .u8 ((zs.map Int.toNat).getD i 0 : Nat)) := by
    intro i hi
    rw [hcl i hi]
    have h := getD_byte hby i
    have e : (((zs.map Int.toNat).getD i 0 : Nat) : Int) = zs.getD i 0 := by
      simp only [List.getD, List.getElem?_map] at h ⊢
      revert h
      cases zs[i]? with
      | none => intro _; rfl
      | some z => intro h; simp at h ⊢; omega
    rw [e]
  have hbl : b < w.heap.size := World.block_lt_of_cell? w _ (hcl 0 (by omega))
  clear hcl hcs hby hl
  generalize zs.map Int.toNat = key at *
  go_enter Try.func61, Try.ntmps61
  go_wp2_with (refine wpList_ci rfl rfl ?_)
  have N0 := NS.new w
  have B0 : Below w.heap.size w (w.alloc (.cells (rw8 752 fun _ => 0) 134)) := (Below.refl _ _).alloc (Nat.le_refl _) _
  generalize w.alloc (.cells (rw8 752 fun _ => 0) 134) = w1 at *
  go_loopw [5] (fun i wr => ∃ x : Nat, x ≤ 256 ∧ i = .int .i64 x ∧ NS wr w.heap.size x [] ∧ Below w.heap.size w wr) (fun i _ => 256 - (intOf i).toNat)
  case atStart => exact ⟨0, by omega, rfl, N0, B0⟩
  case round =>
    obtain ⟨x, hx, rfl, n0, b0⟩ := hrel
    clear N0 B0
    by_cases hlt : x < 256
    · have k1 := fun w => refSBox_ x w hlt
      have k2 := fun w => refMul8_ 2 x w (by omega) hlt
      have hw8 : IntKind.u8.wrap (x : Int) = (x : Int) := by simp [IntKind.wrap, IntKind.bits, IntKind.signed]; omega
      obtain ⟨o1, c1⟩ := n0.some x (by omega)
      have f1 := n0.fz x
      have N1 : NS (((wr.setCell ⟨w.heap.size, x, none⟩ (.int .u8 (sbx x : Nat))).drew).setCell ⟨w.heap.size, 256 + x, none⟩ (.int .u8 (mul8 2 x : Nat))) w.heap.size (x + 1) [] :=
        n0.setBoth hlt fun f r => (Rw.drew (r.set x (sbx x))).set (256 + x) (mul8 2 x)
      have n1 : ∃ o2 : Nat, ((wr.setCell ⟨w.heap.size, x, none⟩ (.int .u8 (sbx x : Nat))).drew).cell? ⟨w.heap.size, 256 + x, none⟩ = some (.int .u8 (o2 : Nat)) := by
        obtain ⟨f, r, _⟩ := n0
        exact ⟨_, (Rw.drew (r.set x (sbx x))).byte (256 + x) (by omega)⟩
      have f2 : ((wr.setCell ⟨w.heap.size, x, none⟩ (.int .u8 (sbx x : Nat))).drew).frozen? ⟨w.heap.size, 256 + x, none⟩ = false := by
        obtain ⟨f, r, _⟩ := n0
        exact (Rw.drew (r.set x (sbx x))).fz (256 + x)
      have B1 : Below w.heap.size w ((wr.setCell ⟨w.heap.size, x, none⟩ (.int .u8 (sbx x : Nat))).drew) := bel_drawn (b0.setCell (Nat.le_refl _) _) 1
      obtain ⟨o2, c2⟩ := n1
      clear n0 b0
      generalize sbx x = s at *
      generalize mul8 2 x = d at *
      go_wp2_with fail
      go_region_with ((go_simp; go_at_call 83; refine (k1 _).mono ?_; rintro e w2 ⟨rfl, hw⟩; obtain rfl := hw.symm))
      clear c1 f1 k1
      generalize (wr.setCell ⟨w.heap.size, x, none⟩ (.int .u8 (s : Nat))).drew = wz at *
      go_wp2_with fail
      go_region_with ((go_simp; go_at_call 84; refine (k2 _).mono ?_; rintro e w2 ⟨rfl, hw⟩; obtain rfl := hw.symm))
      have B2 : Below w.heap.size w (wz.setCell ⟨w.heap.size, 256 + x, none⟩ (.int .u8 (d : Nat))) := B1.setCell (Nat.le_refl _) _
      clear c2 f2 k2 B1
      go_wp2_with fail
      go_roundw
      case rel => exact ⟨x + 1, by omega, by go_num, N1.drew, bel_drawn B2 1⟩
      case measure => simp [intOf]; omega
    · have hx256 : x = 256 := by omega
      rw [hx256] at n0
      have hge : ¬ (x : Int) < 256 := by omega
      clear hx256 hlt hx
      obtain ⟨wq, rfl⟩ : ∃ wq, wq = wr := ⟨_, rfl⟩
      go_wp2_with fail
      go_loopw [6] (fun i wr => ∃ q : Nat, q ≤ 32 ∧ i = .int .i64 q ∧ NS wr w.heap.size 256 (key.take q) ∧ Below w.heap.size w wr) (fun i _ => 32 - (intOf i).toNat)
      case atStart => exact ⟨0, by omega, rfl, n0, b0⟩
      case round =>
        obtain ⟨q, hq, rfl, n1, b1⟩ := hrel
        clear n0 b0
        by_cases hlt : q < 32
        · have ck := (b1.cell (p := ⟨b, off + q, none⟩) hbl).trans (hkc q hlt)
          obtain ⟨o1, c1⟩ := n1.some (512 + q) (by omega)
          have f1 := n1.fz (512 + q)
          have N2 := n1.setKey (l' := key.take (q + 1)) (by omega) q (key.getD q 0) (by omega) (fun i _ => take_more key q (by rw [HKL.out]; exact hlt) i)
          have B2 : Below w.heap.size w (wr.setCell ⟨w.heap.size, 512 + q, none⟩ (.int .u8 (key.getD q 0 : Nat))) := b1.setCell (Nat.le_refl _) _
          clear n1 b1
          generalize key.getD q 0 = z at *
          go_wp2_with fail
          go_region
          go_wp2_with fail
          go_roundw
          case rel => exact ⟨q + 1, by omega, by go_num, N2.drew, bel_drawn B2 1⟩
          case measure => simp [intOf]; omega
        · have hq32 : q = 32 := by omega
          rw [hq32, List.take_of_length_le (by rw [HKL.out]; exact Nat.le_refl _)] at n1
          have hge2 : ¬ (q : Int) < 32 := by omega
          clear hq32 hlt hq
          obtain ⟨wp, rfl⟩ : ∃ wp, wp = wr := ⟨_, rfl⟩
          go_wp2_with fail
          go_loopw [8, 7] (fun i p wr => ∃ m : Nat, 8 ≤ m ∧ m ≤ 60 ∧ i = .int .i64 m ∧ p = .int .u8 (rc ((m + 7) / 8) : Nat) ∧ NS wr w.heap.size 256 (kx key (m - 8)) ∧ Below w.heap.size w wr) (fun i _ _ => 60 - (intOf i).toNat)
          case atStart => exact ⟨8, by omega, by omega, rfl, rfl, n1, b1⟩
          case round =>
            obtain ⟨m, hm1, hm2, rfl, rfl, n2, b2⟩ := hrel
            clear n1 b1
            by_cases hlt : m < 60
            · have HN : Hid (kx key (m + 1 - 8) = kx key (m - 8) ++ nw (kx key (m - 8)) m) := by
                show _ = _
                rw [show m + 1 - 8 = (m - 8) + 1 from by omega, kx, show m - 8 + 8 = m from by omega]
              have HL : Hid ((kx key (m - 8)).length = 4 * m) := by show _ = _; rw [kx_length, HKL.out]; omega
              have HB : Hid (∀ z ∈ kx key (m - 8), z < 256) := kx_lt HKB.out _
              generalize kx key (m - 8) = l at *
              obtain ⟨wo, rfl⟩ : ∃ wo, wo = wr := ⟨_, rfl⟩
              have T0 := Rw.new wo 137 4 fun _ => 0
              have N0 := n2.alloc (.cells (rw8 4 fun _ => 0) 137)
              have B0 := b2.alloc b2.size (.cells (rw8 4 fun _ => 0) 137)
              have gn : w.heap.size < wo.heap.size := n2.lt
              clear n2 b2
              go_wp2_with fail
              rw [zeros4]
              generalize wo.alloc (.cells (rw8 4 fun _ => 0) 137) = wt at *
              generalize wo.heap.size = tb at *
              go_loopw [10] (fun i wr => ∃ k : Nat, k ≤ 4 ∧ i = .int .i64 k ∧ (∃ ft, Rw wr tb 137 4 ft ∧ Hid (∀ y, y < k → ft y = l.getD (4 * m - 4 + y) 0)) ∧ NS wr w.heap.size 256 l ∧ Below w.heap.size w wr) (fun i _ => 4 - (intOf i).toNat)
              case atStart => exact ⟨0, by omega, rfl, ⟨_, T0, fun y hy => by omega⟩, N0, B0⟩
              case round =>
                obtain ⟨k, hk, rfl, ⟨ft, t1, HT⟩, n3, b3⟩ := hrel
                clear T0 N0 B0
                by_cases hk4 : k < 4
                · have ck := n3.key (4 * m - 4 + k) (by omega)
                  have ct := t1.byte k hk4
                  have f1 := t1.fz k
                  have T2 := t1.set k (l.getD (4 * m - 4 + k) 0)
                  have HT2 : Hid (∀ y, y < k + 1 → (fun j => if j = k then l.getD (4 * m - 4 + k) 0 else ft j) y = l.getD (4 * m - 4 + y) 0) := by
                    intro y hy
                    show (if y = k then l.getD (4 * m - 4 + k) 0 else ft y) = _
                    by_cases e : y = k
                    · rw [if_pos e, e]
                    · rw [if_neg e, HT.out y (by omega)]
                  have N2 := n3.other (g' := tb) (by omega) k (.int .u8 (l.getD (4 * m - 4 + k) 0 : Nat))
                  have B2 : Below w.heap.size w (wr.setCell ⟨tb, k, none⟩ (.int .u8 (l.getD (4 * m - 4 + k) 0 : Nat))) := b3.setCell (by show _ ≤ tb; omega) _
                  clear n3 b3 t1 HT
                  generalize l.getD (4 * m - 4 + k) 0 = z at *
                  generalize ft k = o at *
                  go_wp2_with fail
                  go_roundw
                  case rel => exact ⟨k + 1, by omega, by go_num, ⟨_, T2, HT2⟩, N2, B2⟩
                  case measure => simp [intOf]; omega
                · have hge4 : ¬ (k : Int) < 4 := by omega
                  have HT4 : Hid (∀ y, y < 4 → ft y = l.getD (4 * m - 4 + y) 0) := fun y hy => HT.out y (by omega)
                  clear HT hk hk4
                  obtain ⟨wk, rfl⟩ : ∃ wk, wk = wr := ⟨_, rfl⟩
                  have HG : Hid (∀ j, l.getD j 0 < 256) := getD_lt HB.out
                  by_cases h8 : m % 8 = 0
                  · have e8 : (m : Int) % 8 = 0 := by omega
                    have e4 : (m : Int) % 4 = 0 := by omega
                    have e8n : m % 8 = 0 := h8
                    have e4n : m % 4 = 0 := by omega
                    have HM8 : Hid (m % 8 = 0) := h8
                    have c0 := t1.byte 0 (by omega)
                    have c1 := t1.byte 1 (by omega)
                    have c2 := t1.byte 2 (by omega)
                    have c3 := t1.byte 3 (by omega)
                    have f0 := t1.fz 0
                    have f1 := t1.fz 1
                    have f2 := t1.fz 2
                    have f3 := t1.fz 3
                    obtain ⟨u, HU4⟩ : ∃ u : Nat → Nat, Hid (∀ y, y < 4 → u y = l.getD (4 * m - 4 + (y + 1) % 4) 0) := ⟨_, fun _ _ => rfl⟩
                    have HUB : Hid (∀ y, y < 4 → u y < 256) := fun y hy => by rw [HU4.out y hy]; exact HG.out _
                    have T5 := (((t1.set 0 (ft 1)).set 1 (ft 2)).set 2 (ft 3)).set 3 (ft 0)
                    have HU : Hid (∀ y, y < 4 → (fun j => if j = 3 then ft 0 else if j = 2 then ft 3 else if j = 1 then ft 2 else if j = 0 then ft 1 else ft j) y = u y) := by
                      intro y hy
                      rw [HU4.out y hy]
                      rcases (show y = 0 ∨ y = 1 ∨ y = 2 ∨ y = 3 by omega) with rfl | rfl | rfl | rfl
                      · exact HT4.out 1 (by omega)
                      · exact HT4.out 2 (by omega)
                      · exact HT4.out 3 (by omega)
                      · exact HT4.out 0 (by omega)
                    have N5 := (((n3.other (g' := tb) (by omega) 0 (.int .u8 (ft 1 : Nat))).other (g' := tb) (by omega) 1 (.int .u8 (ft 2 : Nat))).other (g' := tb) (by omega) 2 (.int .u8 (ft 3 : Nat))).other (g' := tb) (by omega) 3 (.int .u8 (ft 0 : Nat))
                    have B5 : Below w.heap.size w ((((wk.setCell ⟨tb, 0, none⟩ (.int .u8 (ft 1 : Nat))).setCell ⟨tb, 1, none⟩ (.int .u8 (ft 2 : Nat))).setCell ⟨tb, 2, none⟩ (.int .u8 (ft 3 : Nat))).setCell ⟨tb, 3, none⟩ (.int .u8 (ft 0 : Nat))) := (((b3.setCell (by show _ ≤ tb; omega) _).setCell (by show _ ≤ tb; omega) _).setCell (by show _ ≤ tb; omega) _).setCell (by show _ ≤ tb; omega) _
                    clear t1 n3 b3 HT4 h8
                    generalize (fun j => if j = 3 then ft 0 else if j = 2 then ft 3 else if j = 1 then ft 2 else if j = 0 then ft 1 else ft j) = ft5 at *
                    generalize ft 0 = y0 at *
                    generalize ft 1 = y1 at *
                    generalize ft 2 = y2 at *
                    generalize ft 3 = y3 at *
                    go_wp2_with fail
                    generalize (((wk.setCell ⟨tb, 0, none⟩ (.int .u8 (y1 : Nat))).setCell ⟨tb, 1, none⟩ (.int .u8 (y2 : Nat))).setCell ⟨tb, 2, none⟩ (.int .u8 (y3 : Nat))).setCell ⟨tb, 3, none⟩ (.int .u8 (y0 : Nat)) = wz at *
                    clear c0 c1 c2 c3 f0 f1 f2 f3
                    obtain ⟨wl5, rfl⟩ : ∃ wl5, wl5 = wz := ⟨_, rfl⟩
                    go_loopw [12] (fun i wr => ∃ k : Nat, k ≤ 4 ∧ i = .int .i64 k ∧ (∃ ft, Rw wr tb 137 4 ft ∧ Hid ((∀ y, y < k → ft y = sbx (u y)) ∧ ∀ y, k ≤ y → y < 4 → ft y = u y)) ∧ NS wr w.heap.size 256 l ∧ Below w.heap.size w wr) (fun i _ => 4 - (intOf i).toNat)
                    case atStart => exact ⟨0, by omega, rfl, ⟨_, T5, ⟨fun y hy => by omega, fun y _ hy => HU.out y hy⟩⟩, N5, B5⟩
                    case round =>
                      obtain ⟨k, hk, rfl, ⟨ft, t5, HT⟩, n5, b5⟩ := hrel
                      clear T5 N5 B5 HU
                      by_cases hk4 : k < 4
                      · have ct := t5.byte k hk4
                        rw [HT.out.2 k (Nat.le_refl _) hk4] at ct
                        have hu := HUB.out k hk4
                        have cb := n5.box (u k) hu (by omega)
                        have f1 := t5.fz k
                        have T2 := t5.set k (sbx (u k))
                        have HT2 : Hid ((∀ y, y < k + 1 → (fun j => if j = k then sbx (u k) else ft j) y = sbx (u y)) ∧ ∀ y, k + 1 ≤ y → y < 4 → (fun j => if j = k then sbx (u k) else ft j) y = u y) := by
                          refine ⟨fun y hy => ?_, fun y h1 h2 => ?_⟩
                          · show (if y = k then sbx (u k) else ft y) = _
                            by_cases e : y = k
                            · rw [if_pos e, e]
                            · rw [if_neg e, HT.out.1 y (by omega)]
                          · show (if y = k then sbx (u k) else ft y) = _
                            rw [if_neg (by omega), HT.out.2 y (by omega) h2]
                        have N2 := n5.other (g' := tb) (by omega) k (.int .u8 (sbx (u k) : Nat))
                        have B2 : Below w.heap.size w (wr.setCell ⟨tb, k, none⟩ (.int .u8 (sbx (u k) : Nat))) := b5.setCell (by show _ ≤ tb; omega) _
                        clear n5 b5 t5 HT
                        generalize sbx (u k) = z at *
                        generalize hv : u k = x1 at *
                        clear hv
                        go_wp2_with fail
                        go_region
                        go_wp2_with fail
                        go_roundw
                        case rel => exact ⟨k + 1, by omega, by go_num, ⟨_, T2.drew, HT2⟩, N2.drew, bel_drawn B2 1⟩
                        case measure => simp [intOf]; omega
                      · have hge5 : ¬ (k : Int) < 4 := by omega
                        have HS : Hid (∀ y, y < 4 → ft y = sbx (u y)) := fun y hy => HT.out.1 y (by omega)
                        clear HT hk hk4
                        obtain ⟨wr5, rfl⟩ : ∃ wr5, wr5 = wr := ⟨_, rfl⟩
                        have ct := t5.byte 0 (by omega)
                        have f1 := t5.fz 0
                        have hs0 : ft 0 < 256 := by rw [HS.out 0 (by omega)]; exact sbx_lt (HUB.out 0 (by omega))
                        have hp := rc_lt ((m + 7) / 8)
                        have ex := u8x hs0 hp
                        have T6 := t5.set 0 (ft 0 ^^^ rc ((m + 7) / 8))
                        have HF : Hid (∀ y, y < 4 → (fun j => if j = 0 then ft 0 ^^^ rc ((m + 7) / 8) else ft j) y = tw l m y) := by
                          intro y hy
                          show (if y = 0 then ft 0 ^^^ rc ((m + 7) / 8) else ft y) = _
                          unfold tw
                          rw [if_pos HM8.out]
                          by_cases e : y = 0
                          · rw [if_pos e, if_pos e, HS.out 0 (by omega), HU4.out 0 (by omega), e, show (m + 7) / 8 = m / 8 from by have := HM8.out; omega]
                          · rw [if_neg e, if_neg e, HS.out y hy, HU4.out y hy, Nat.xor_zero]
                        have N6 := n5.other (g' := tb) (by omega) 0 (.int .u8 (ft 0 ^^^ rc ((m + 7) / 8) : Nat))
                        have B6 : Below w.heap.size w (wr5.setCell ⟨tb, 0, none⟩ (.int .u8 (ft 0 ^^^ rc ((m + 7) / 8) : Nat))) := b5.setCell (by show _ ≤ tb; omega) _
                        have kp := fun w => refMul8_ (rc ((m + 7) / 8)) 2 w hp (by omega)
                        have HPW : Hid (rc ((m + 1 + 7) / 8) = mul8 (rc ((m + 7) / 8)) 2) := by
                          show _ = _
                          rw [show (m + 1 + 7) / 8 = (m + 7) / 8 + 1 from by have := HM8.out; omega]
                          exact (rc_next ((m + 7) / 8) (by omega) (by omega)).symm
                        clear n5 b5 t5 HS hs0 hp
                        generalize mul8 (rc ((m + 7) / 8)) 2 = p2 at *
                        generalize (fun j => if j = 0 then ft 0 ^^^ rc ((m + 7) / 8) else ft j) = ft6 at *
                        generalize ft 0 ^^^ rc ((m + 7) / 8) = z at *
                        generalize ft 0 = z0 at *
                        generalize rc ((m + 7) / 8) = p at *
                        go_wp2_with fail
                        generalize wr5.setCell ⟨tb, 0, none⟩ (.int .u8 (z : Nat)) = wr at *
                        refine (kp _).mono ?_
                        rintro e w2 ⟨rfl, rfl⟩
                        clear kp ex ct f1
                        go_wp2_with fail
                        obtain ⟨wr, rfl⟩ : ∃ wr, wr = w2 := ⟨_, rfl⟩
                        obtain ⟨ft, rfl⟩ : ∃ ft, ft = ft6 := ⟨_, rfl⟩
                        obtain ⟨wl6, rfl⟩ : ∃ wl6, wl6 = wr := ⟨_, rfl⟩
                        go_loopw [13] (fun i wr => ∃ k : Nat, k ≤ 4 ∧ i = .int .i64 k ∧ Rw wr tb 137 4 ft ∧ NS wr w.heap.size 256 (l ++ (nw l m).take k) ∧ Below w.heap.size w wr) (fun i _ => 4 - (intOf i).toNat)
                        case atStart => exact ⟨0, by omega, rfl, T6, by rw [List.take_zero, List.append_nil]; exact N6, B6⟩
                        case round =>
                          obtain ⟨k, hk, rfl, t6, n6, b6⟩ := hrel
                          clear T6 N6 B6
                          by_cases hk4 : k < 4
                          · have ck := n6.key (4 * m - 32 + k) (by omega)
                            rw [getD_app, if_pos (by rw [HL.out]; omega)] at ck
                            have ct := t6.byte k hk4
                            have HX : Hid (bits .xor .u8 (l.getD (4 * m - 32 + k) 0 : Int) (ft k : Int) = (((nw l m).getD k 0 : Nat) : Int)) := by
                              show _ = _
                              rw [HF.out k hk4, u8x (getD_lt HB.out _) (tw_lt HB.out m k), nw_get l m k hk4]
                            obtain ⟨o1, co⟩ := n6.some (512 + (4 * m + k)) (by omega)
                            have f1 := n6.fz (512 + (4 * m + k))
                            have N2 := n6.setKey (l' := l ++ (nw l m).take (k + 1)) (by omega) (4 * m + k) ((nw l m).getD k 0) (by omega) (fun i _ => getD_more l (nw l m) (4 * m) k HL.out (by rw [nw_length]; exact hk4) i)
                            have T2 := t6.other (g' := w.heap.size) (by omega) (512 + (4 * m + k)) (.int .u8 ((nw l m).getD k 0 : Nat))
                            have B2 : Below w.heap.size w (wr.setCell ⟨w.heap.size, 512 + (4 * m + k), none⟩ (.int .u8 ((nw l m).getD k 0 : Nat))) := b6.setCell (Nat.le_refl _) _
                            clear n6 b6 t6
                            generalize (nw l m).getD k 0 = z at *
                            generalize l.getD (4 * m - 32 + k) 0 = x1 at *
                            generalize ft k = x2 at *
                            go_wp2_with fail
                            go_region
                            rw [HX.out]
                            go_wp2_with fail
                            go_roundw
                            case rel => exact ⟨k + 1, by omega, by go_num, T2.drew, N2.drew, bel_drawn B2 1⟩
                            case measure => simp [intOf]; omega
                          · have hge6 : ¬ (k : Int) < 4 := by omega
                            have hk44 : k = 4 := by omega
                            rw [hk44, List.take_of_length_le (by rw [nw_length]; exact Nat.le_refl _), ← HN.out] at n6
                            clear hk44 hk hk4
                            go_wp2_with fail
                            go_roundw
                            case rel => exact ⟨m + 1, by omega, by omega, by go_num, by rw [HPW.out], n6, b6⟩
                            case measure => simp [intOf]; omega
                  · have e8 : ¬ (m : Int) % 8 = 0 := by omega
                    have e8b : ((m : Int) % 8 == 0) = false := by simpa using e8
                    have HM8 : Hid (¬ m % 8 = 0) := h8
                    by_cases h4 : m % 4 = 0
                    · have e4 : (m : Int) % 4 = 0 := by omega
                      have e4n : m % 4 = 0 := h4
                      have HM4 : Hid (m % 4 = 0) := h4
                      obtain ⟨u, HU4⟩ : ∃ u : Nat → Nat, Hid (∀ y, y < 4 → u y = l.getD (4 * m - 4 + y) 0) := ⟨_, fun _ _ => rfl⟩
                      have HUB : Hid (∀ y, y < 4 → u y < 256) := fun y hy => by rw [HU4.out y hy]; exact HG.out _
                      have T5 := t1
                      have HU : Hid (∀ y, y < 4 → ft y = u y) := fun y hy => by rw [HU4.out y hy]; exact HT4.out y hy
                      have N5 := n3
                      have B5 := b3
                      clear t1 n3 b3 HT4 h8 h4
                      go_wp2_with fail
                      obtain ⟨wz, rfl⟩ : ∃ wz, wz = wk := ⟨_, rfl⟩
                      obtain ⟨wl5, rfl⟩ : ∃ wl5, wl5 = wz := ⟨_, rfl⟩
                      go_loopw [12] (fun i wr => ∃ k : Nat, k ≤ 4 ∧ i = .int .i64 k ∧ (∃ ft, Rw wr tb 137 4 ft ∧ Hid ((∀ y, y < k → ft y = sbx (u y)) ∧ ∀ y, k ≤ y → y < 4 → ft y = u y)) ∧ NS wr w.heap.size 256 l ∧ Below w.heap.size w wr) (fun i _ => 4 - (intOf i).toNat)
                      case atStart => exact ⟨0, by omega, rfl, ⟨_, T5, ⟨fun y hy => by omega, fun y _ hy => HU.out y hy⟩⟩, N5, B5⟩
                      case round =>
                        obtain ⟨k, hk, rfl, ⟨ft, t5, HT⟩, n5, b5⟩ := hrel
                        clear T5 N5 B5 HU
                        by_cases hk4 : k < 4
                        · have ct := t5.byte k hk4
                          rw [HT.out.2 k (Nat.le_refl _) hk4] at ct
                          have hu := HUB.out k hk4
                          have cb := n5.box (u k) hu (by omega)
                          have f1 := t5.fz k
                          have T2 := t5.set k (sbx (u k))
                          have HT2 : Hid ((∀ y, y < k + 1 → (fun j => if j = k then sbx (u k) else ft j) y = sbx (u y)) ∧ ∀ y, k + 1 ≤ y → y < 4 → (fun j => if j = k then sbx (u k) else ft j) y = u y) := by
                            refine ⟨fun y hy => ?_, fun y h1 h2 => ?_⟩
                            · show (if y = k then sbx (u k) else ft y) = _
                              by_cases e : y = k
                              · rw [if_pos e, e]
                              · rw [if_neg e, HT.out.1 y (by omega)]
                            · show (if y = k then sbx (u k) else ft y) = _
                              rw [if_neg (by omega), HT.out.2 y (by omega) h2]
                          have N2 := n5.other (g' := tb) (by omega) k (.int .u8 (sbx (u k) : Nat))
                          have B2 : Below w.heap.size w (wr.setCell ⟨tb, k, none⟩ (.int .u8 (sbx (u k) : Nat))) := b5.setCell (by show _ ≤ tb; omega) _
                          clear n5 b5 t5 HT
                          generalize sbx (u k) = z at *
                          generalize hv : u k = x1 at *
                          clear hv
                          go_wp2_with fail
                          go_region
                          go_wp2_with fail
                          go_roundw
                          case rel => exact ⟨k + 1, by omega, by go_num, ⟨_, T2.drew, HT2⟩, N2.drew, bel_drawn B2 1⟩
                          case measure => simp [intOf]; omega
                        · have hge5 : ¬ (k : Int) < 4 := by omega
                          have HS : Hid (∀ y, y < 4 → ft y = sbx (u y)) := fun y hy => HT.out.1 y (by omega)
                          clear HT hk hk4
                          obtain ⟨wr5, rfl⟩ : ∃ wr5, wr5 = wr := ⟨_, rfl⟩
                          have T6 := t5
                          have N6 := n5
                          have B6 := b5
                          have HF : Hid (∀ y, y < 4 → ft y = tw l m y) := by
                            intro y hy
                            unfold tw
                            rw [if_neg HM8.out, if_pos HM4.out, HS.out y hy, HU4.out y hy]
                          have HPW : Hid (rc ((m + 1 + 7) / 8) = rc ((m + 7) / 8)) := by show _ = _; rw [show (m + 1 + 7) / 8 = (m + 7) / 8 from by have := HM8.out; omega]
                          clear t5 n5 b5
                          generalize rc ((m + 7) / 8) = p at *
                          go_wp2_with fail
                          obtain ⟨wr, rfl⟩ : ∃ wr, wr = wr5 := ⟨_, rfl⟩
                          obtain ⟨wl6, rfl⟩ : ∃ wl6, wl6 = wr := ⟨_, rfl⟩
                          go_loopw [13] (fun i wr => ∃ k : Nat, k ≤ 4 ∧ i = .int .i64 k ∧ Rw wr tb 137 4 ft ∧ NS wr w.heap.size 256 (l ++ (nw l m).take k) ∧ Below w.heap.size w wr) (fun i _ => 4 - (intOf i).toNat)
                          case atStart => exact ⟨0, by omega, rfl, T6, by rw [List.take_zero, List.append_nil]; exact N6, B6⟩
                          case round =>
                            obtain ⟨k, hk, rfl, t6, n6, b6⟩ := hrel
                            clear T6 N6 B6
                            by_cases hk4 : k < 4
                            · have ck := n6.key (4 * m - 32 + k) (by omega)
                              rw [getD_app, if_pos (by rw [HL.out]; omega)] at ck
                              have ct := t6.byte k hk4
                              have HX : Hid (bits .xor .u8 (l.getD (4 * m - 32 + k) 0 : Int) (ft k : Int) = (((nw l m).getD k 0 : Nat) : Int)) := by
                                show _ = _
                                rw [HF.out k hk4, u8x (getD_lt HB.out _) (tw_lt HB.out m k), nw_get l m k hk4]
                              obtain ⟨o1, co⟩ := n6.some (512 + (4 * m + k)) (by omega)
                              have f1 := n6.fz (512 + (4 * m + k))
                              have N2 := n6.setKey (l' := l ++ (nw l m).take (k + 1)) (by omega) (4 * m + k) ((nw l m).getD k 0) (by omega) (fun i _ => getD_more l (nw l m) (4 * m) k HL.out (by rw [nw_length]; exact hk4) i)
                              have T2 := t6.other (g' := w.heap.size) (by omega) (512 + (4 * m + k)) (.int .u8 ((nw l m).getD k 0 : Nat))
                              have B2 : Below w.heap.size w (wr.setCell ⟨w.heap.size, 512 + (4 * m + k), none⟩ (.int .u8 ((nw l m).getD k 0 : Nat))) := b6.setCell (Nat.le_refl _) _
                              clear n6 b6 t6
                              generalize (nw l m).getD k 0 = z at *
                              generalize l.getD (4 * m - 32 + k) 0 = x1 at *
                              generalize ft k = x2 at *
                              go_wp2_with fail
                              go_region
                              rw [HX.out]
                              go_wp2_with fail
                              go_roundw
                              case rel => exact ⟨k + 1, by omega, by go_num, T2.drew, N2.drew, bel_drawn B2 1⟩
                              case measure => simp [intOf]; omega
                            · have hge6 : ¬ (k : Int) < 4 := by omega
                              have hk44 : k = 4 := by omega
                              rw [hk44, List.take_of_length_le (by rw [nw_length]; exact Nat.le_refl _), ← HN.out] at n6
                              clear hk44 hk hk4
                              go_wp2_with fail
                              go_roundw
                              case rel => exact ⟨m + 1, by omega, by omega, by go_num, by rw [HPW.out], n6, b6⟩
                              case measure => simp [intOf]; omega
                    · have e4 : ¬ (m : Int) % 4 = 0 := by omega
                      have e4b : ((m : Int) % 4 == 0) = false := by simpa using e4
                      have T6 := t1
                      have N6 := n3
                      have B6 := b3
                      have HF : Hid (∀ y, y < 4 → ft y = tw l m y) := by
                        intro y hy
                        unfold tw
                        rw [if_neg HM8.out, if_neg h4]
                        exact HT4.out y hy
                      have HPW : Hid (rc ((m + 1 + 7) / 8) = rc ((m + 7) / 8)) := by show _ = _; rw [show (m + 1 + 7) / 8 = (m + 7) / 8 from by have := HM8.out; omega]
                      clear t1 n3 b3 HT4 h8 h4
                      generalize rc ((m + 7) / 8) = p at *
                      go_wp2_with fail
                      obtain ⟨wr, rfl⟩ : ∃ wr, wr = wk := ⟨_, rfl⟩
                      obtain ⟨wl6, rfl⟩ : ∃ wl6, wl6 = wr := ⟨_, rfl⟩
                      go_loopw [13] (fun i wr => ∃ k : Nat, k ≤ 4 ∧ i = .int .i64 k ∧ Rw wr tb 137 4 ft ∧ NS wr w.heap.size 256 (l ++ (nw l m).take k) ∧ Below w.heap.size w wr) (fun i _ => 4 - (intOf i).toNat)
                      case atStart => exact ⟨0, by omega, rfl, T6, by rw [List.take_zero, List.append_nil]; exact N6, B6⟩
                      case round =>
                        obtain ⟨k, hk, rfl, t6, n6, b6⟩ := hrel
                        clear T6 N6 B6
                        by_cases hk4 : k < 4
                        · have ck := n6.key (4 * m - 32 + k) (by omega)
                          rw [getD_app, if_pos (by rw [HL.out]; omega)] at ck
                          have ct := t6.byte k hk4
                          have HX : Hid (bits .xor .u8 (l.getD (4 * m - 32 + k) 0 : Int) (ft k : Int) = (((nw l m).getD k 0 : Nat) : Int)) := by
                            show _ = _
                            rw [HF.out k hk4, u8x (getD_lt HB.out _) (tw_lt HB.out m k), nw_get l m k hk4]
                          obtain ⟨o1, co⟩ := n6.some (512 + (4 * m + k)) (by omega)
                          have f1 := n6.fz (512 + (4 * m + k))
                          have N2 := n6.setKey (l' := l ++ (nw l m).take (k + 1)) (by omega) (4 * m + k) ((nw l m).getD k 0) (by omega) (fun i _ => getD_more l (nw l m) (4 * m) k HL.out (by rw [nw_length]; exact hk4) i)
                          have T2 := t6.other (g' := w.heap.size) (by omega) (512 + (4 * m + k)) (.int .u8 ((nw l m).getD k 0 : Nat))
                          have B2 : Below w.heap.size w (wr.setCell ⟨w.heap.size, 512 + (4 * m + k), none⟩ (.int .u8 ((nw l m).getD k 0 : Nat))) := b6.setCell (Nat.le_refl _) _
                          clear n6 b6 t6
                          generalize (nw l m).getD k 0 = z at *
                          generalize l.getD (4 * m - 32 + k) 0 = x1 at *
                          generalize ft k = x2 at *
                          go_wp2_with fail
                          go_region
                          rw [HX.out]
                          go_wp2_with fail
                          go_roundw
                          case rel => exact ⟨k + 1, by omega, by go_num, T2.drew, N2.drew, bel_drawn B2 1⟩
                          case measure => simp [intOf]; omega
                        · have hge6 : ¬ (k : Int) < 4 := by omega
                          have hk44 : k = 4 := by omega
                          rw [hk44, List.take_of_length_le (by rw [nw_length]; exact Nat.le_refl _), ← HN.out] at n6
                          clear hk44 hk hk4
                          go_wp2_with fail
                          go_roundw
                          case rel => exact ⟨m + 1, by omega, by omega, by go_num, by rw [HPW.out], n6, b6⟩
                          case measure => simp [intOf]; omega
            · obtain rfl : m = 60 := by omega
              go_wp2_with fail
              go_ret2
              refine ⟨_, rfl, Nat.le_refl _, ⟨n2.lt, fun x hx => n2.box x hx (by omega), fun x hx => n2.dbl x hx (by omega), fun j hj => n2.key j hj⟩, b2⟩
end Go.Proofs.Ytgcbfamlediafaa
