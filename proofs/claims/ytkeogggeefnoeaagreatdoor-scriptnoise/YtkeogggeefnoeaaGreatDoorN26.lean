import Derived.Deep.RegionHeldLaw
import Derived.Test.YtkeogggeefnoeaaGreatDoorN23
import Derived.Maps.AppendAt
namespace Go.Proofs.YtkeogggeefnoeaaGreatDoor
set_option linter.unusedSimpArgs false
open Go.RowKit
set_option linter.unusedVariables false
set_option maxRecDepth 100000

/-! Reading: a line. -/
/-- What a call at the reader leaves alone. -/
structure RF (S rb : Nat) (W W' : World) : Prop where
  ko : KeepsOthers W W'
  same : ∀ k, k < S → k ≠ rb → W'.heap[k]? = W.heap[k]?
  os : W'.os = W.os
  tape : W'.tape = W.tape
  output : W'.output = W.output
  size : W.heap.size ≤ W'.heap.size
section
variable {S rb : Nat} {A B C W W' : World}
theorem RF.trans (h : RF S rb A B) (k : RF S rb B C) : RF S rb A C := ⟨h.ko.trans k.ko, fun j hj hne => (k.same j hj hne).trans (h.same j hj hne), k.os.trans h.os, k.tape.trans h.tape, k.output.trans h.output, Nat.le_trans h.size k.size⟩
theorem RF.of (hS : S ≤ W.heap.size) (h : Below W.heap.size W W') : RF S rb W W' := ⟨keeps_be h, fun k hk _ => h.block k (by omega), h.os, h.tape, h.output, h.size⟩
theorem RF.refl (W : World) : RF S rb W W := ⟨KeepsOthers.refl W, fun _ _ _ => rfl, rfl, rfl, rfl, Nat.le_refl _⟩
theorem RF.set (W : World) (i : Nat) (v : Value) : RF S rb W (W.setCell ⟨rb, i, none⟩ v) := ⟨KeepsOthers.setCell W ⟨rb, i, none⟩ v, fun k _ hne => Below.heap_setCell _ _ _ _ hne, rfl, rfl, rfl, by simp [World.setCell]⟩
theorem RF.app {et sz n : Nat} {v : Value} {xs : List Value} (ho : W.ownsRow S et sz v n xs) (hg : W.grownBy W' v.ownBlock) (hS : S ≤ W.heap.size) : RF S rb W W' := by
  refine ⟨KeepsOthers.of_grownBy hg (fun j o' ej hj => ?_), fun k hk _ => hg.block k (by omega) (fun e => by have := (ho.lt k e.symm).1; omega), hg.os, hg.tape, hg.output, hg.size⟩
  obtain ⟨cur, hc⟩ := own_ty ho ej
  have h2 : some o' = some (Obj.cells cur et (0, 0)) := hj.symm.trans hc
  cases h2
  rfl
theorem RF.bel {w0 : World} (h : RF S rb W W') (hb : Below w0.heap.size w0 W) (hr : w0.heap.size ≤ rb) (hs : w0.heap.size ≤ S) : Below w0.heap.size w0 W' := ⟨h.os.trans hb.os, h.tape.trans hb.tape, h.output.trans hb.output, Nat.le_trans hb.size h.size, fun k hk => (h.same k (by omega) (by omega)).trans (hb.block k hk)⟩
end
def orow (os : List OD) : List Value := os.flatMap odc
/-- A script as far as it was read: the reader's three cells, the steps in a row of their own. -/
def Rde (W : World) (S rb : Nat) (s : Option Scr) : Prop := ∃ (sec : Int) (v : Value) (os : List OD) (bg : Bool), Yx W rb 58 [.int .i64 sec, v, .bool bg] ∧ W.ownsRow S 53 14 v os.length (orow os) ∧ (∀ x ∈ os, Vo W (fun k => S ≤ k ∧ v.ownBlock ≠ some k) x) ∧ rb < S ∧ S ≤ W.heap.size ∧ match s with
  | none => bg = false ∧ os = []
  | some sc => bg = true ∧ sec = sc.sec ∧ os.map (·.o) = sc.ops
theorem Rde.on {W W' : World} {S rb : Nat} {s : Option Scr} (h : Rde W S rb s) (hb : Below W.heap.size W W') : Rde W' S rb s := by
  obtain ⟨sec, v, os, bg, h1, h2, h3, h4, h5, h6⟩ := h
  exact ⟨sec, v, os, bg, h1.on hb, own_bel h2 hb, fun x hx => (h3 x hx).on hb, h4, Nat.le_trans h5 hb.size, h6⟩
/-- What a line leaves. -/
def LnV (S rb : Nat) (W : World) (r : R (Option Scr)) (e : Ending) (W' : World) : Prop := RF S rb W W' ∧ match r with
  | .error k => e = .returned (.int .i64 (k : Nat)) ∧ k ≠ 0
  | .ok s => e = .returned (.int .i64 0) ∧ Rde W' S rb s
theorem LnV.err {S rb : Nat} {w w' : World} {r : R (Option Scr)} {k : Nat} (hg : RF S rb w w') (hr : r = .error k) (hk : k ≠ 0) : LnV S rb w r (.returned (.int .i64 (k : Nat))) w' := by
  rw [hr]
  exact ⟨hg, rfl, hk⟩
theorem LnV.ok {S rb : Nat} {w w' : World} {r : R (Option Scr)} {s : Option Scr} (hg : RF S rb w w') (hr : r = .ok s) (hs : Rde w' S rb s) : LnV S rb w r (.returned (.int .i64 0)) w' := by
  rw [hr]
  exact ⟨hg, rfl, hs⟩
theorem Rde.same {W W' : World} {S rb : Nat} {s : Option Scr} (h : Rde W S rb s) (hs : W.heap.size ≤ W'.heap.size) (hk : ∀ k, k < W.heap.size → W'.heap[k]? = W.heap[k]?) : Rde W' S rb s := by
  obtain ⟨sec, v, os, bg, h1, h2, h3, h4, h5, h6⟩ := h
  exact ⟨sec, v, os, bg, (hk rb h1.lt).trans h1, own_at' h2 (fun g eg => hk g (h2.lt g eg).2), fun x hx => (h3 x hx).step (fun k hk' _ => hk k hk') hs, h4, Nat.le_trans h5 hs, h6⟩
set_option maxHeartbeats 4000000 in
theorem sbegin_ (V : Nat → Prop) (a : Option Addr) (n p : Nat) (ws : List (List Nat)) (hw : Gw ws) (S rb : Nat) (w0 w : World) (h : Wv w V a n p ws) (hn : 1 ≤ n) (hq : Tq w0) (hb : Below w0.heap.size w0 w) (hrb : w0.heap.size ≤ rb) (hr : Rde w S rb none) (hVr : ∀ k, V k → k ≠ rb) :
    Calls Tryz.prog 33 #[.pointer (some ⟨rb, 0, none⟩), .slice a n p] w fun e w' => LnV S rb w (match fstv ws with
      | .error e => .error e
      | .ok n => .ok (some ⟨n, []⟩)) e w' := by
  obtain ⟨sec, v, os, bg, h1, h2, h3, h4, h5, rfl, rfl⟩ := hr
  obtain ⟨va, vc, rfl, _⟩ := own_slice h2
  have c2 := h1.cell 2
  have f2 := h1.fz 2
  simp only [List.getElem?_cons_succ, List.getElem?_cons_zero] at c2
  have HY1 := hid (h1.set 2 (.bool true))
  have hb1 : Below w0.heap.size w0 (w.setCell ⟨rb, 2, none⟩ (.bool true)) := hb.setCell (p := ⟨rb, 2, none⟩) hrb _
  have hV1 : Wv (w.setCell ⟨rb, 2, none⟩ (.bool true)) V a n p ws := ⟨h.ln, h.np, h.pm, h.nl, h.ls.step (fun k _ hV => Below.heap_setCell _ _ _ _ (hVr k hV)) (by simp [World.setCell])⟩
  have HO1 : Hid ((w.setCell ⟨rb, 2, none⟩ (.bool true)).ownsRow S 53 14 (.slice va ([] : List OD).length vc) ([] : List OD).length (orow [])) := own_at' h2 (fun g eg => Below.heap_setCell _ _ _ _ (by have := (h2.lt g eg).1; show g ≠ rb; omega))
  have HRF1 : Hid (RF S rb w (w.setCell ⟨rb, 2, none⟩ (.bool true))) := RF.set w 2 (.bool true)
  have HS1 : Hid (S ≤ (w.setCell ⟨rb, 2, none⟩ (.bool true)).heap.size) := by show _ ≤ _; simpa [World.setCell] using h5
  have k2 := readFirst_ V a n p ws hw _ hV1 hn (hq.kept hb1)
  obtain ⟨w1, HW1⟩ : ∃ z, Hid (w.setCell ⟨rb, 2, none⟩ (.bool true) = z) := ⟨_, rfl⟩
  rw [HW1.out] at HY1 HO1 HRF1 HS1 k2
  have HRB := hid h4
  simp only [List.length_nil] at HO1 HY1 c2
  cases hh : fstv ws with
  | error ek =>
    rw [hh] at k2
    clear h h1 h2 h3 h5 hb1 hV1 hh hq hb hVr
    go_enter Tryz.func33, Tryz.ntmps33
    go_upto_region 2 with fail
    rw [HW1.out]
    go_wp2_with fail
    refine k2.mono ?_
    rintro e w2 ⟨⟨rfl, hek⟩, g2⟩
    have HY2 := hid (HY1.out.on g2)
    have c0 := HY2.out.cell 0
    have f0 := HY2.out.fz 0
    simp only [List.set_cons_succ, List.set_cons_zero, List.getElem?_cons_zero] at c0
    have HG : Hid (RF S rb w (w2.setCell ⟨rb, 0, none⟩ (.int .i64 0))) := (HRF1.out.trans (RF.of HS1.out g2)).trans (RF.set w2 0 (.int .i64 0))
    have HEK := hid hek
    clear k2 g2 hek
    go_wp2_with fail
    go_ret
    exact LnV.err HG.out rfl HEK.out
  | ok m =>
    rw [hh] at k2
    clear h h1 h2 h3 h5 hb1 hV1 hh hq hb hVr
    go_enter Tryz.func33, Tryz.ntmps33
    go_upto_region 2 with fail
    rw [HW1.out]
    go_wp2_with fail
    refine k2.mono ?_
    rintro e w2 ⟨rfl, g2⟩
    have HY2 := hid (HY1.out.on g2)
    have c0 := HY2.out.cell 0
    have f0 := HY2.out.fz 0
    simp only [List.set_cons_succ, List.set_cons_zero, List.getElem?_cons_zero] at c0
    have HG : Hid (RF S rb w (w2.setCell ⟨rb, 0, none⟩ (.int .i64 m))) := (HRF1.out.trans (RF.of HS1.out g2)).trans (RF.set w2 0 (.int .i64 m))
    have HRD : Hid (Rde (w2.setCell ⟨rb, 0, none⟩ (.int .i64 m)) S rb (some ⟨m, []⟩)) := by
      have hO2 := own_bel HO1.out g2
      refine ⟨m, _, [], true, HY2.out.set 0 (.int .i64 m), own_at' hO2 (fun g eg => Below.heap_setCell _ _ _ _ (by have := (hO2.lt g eg).1; have := HRB.out; show g ≠ rb; omega)), by simp, HRB.out, ?_, rfl, rfl, rfl⟩
      have := g2.size
      have := HS1.out
      simp [World.setCell]
      omega
    clear k2 g2
    go_wp2_with fail
    go_ret
    exact LnV.ok HG.out rfl HRD.out
end Go.Proofs.YtkeogggeefnoeaaGreatDoor
namespace Go.Proofs.YtkeogggeefnoeaaGreatDoor
set_option linter.unusedSimpArgs false
open Go.RowKit
set_option linter.unusedVariables false
set_option maxRecDepth 100000

/-! Reading: a step's line. -/
theorem infoOp : (Tryz.prog.info? 53).map (fun i => (i.zero, i.size, i.bytes)) = some (some (.agg #[.int .i64 0, .int .i64 0, .int .i64 0, .int .i64 0, .int .i64 0, .int .i64 0, .slice none 0 0, .int .i64 0, .int .i64 0, .int .i64 0, .int .i64 0, .slice none 0 0, .slice none 0 0, .slice none 0 0]), 14, 176) := by kernel_rfl
/-- append of a step to a row of one's own, in a region that draws its order. -/
theorem step_appO {w : World} {ops : Array Oper} {o : Oper} {act : Act} {K : Act → World → Prop} {Q : Exit → Act → World → Prop} {E : Prop} (hgd : o.guard = none) (s x : Operand)
    (ho : o.op = .call { callee := .builtin .append, args := #[s, x], argTypes := #[22, 22] })
    (base : Nat) (v : Value) (n : Nat) (xs : List Value) (hs : act.eval s = v) (hown : w.ownsRow base 53 14 v n xs) (ad : Addr) (c : Nat) (y : OD) (hx : act.eval x = .slice (some ad) 1 c) (hc : ∀ j u, (odc y)[j]? = some u → w.cell? (ad.add j) = some u) (hn : n ≤ 3000) (hbase : base ≤ w.heap.size)
    (h : ∀ v' w', w'.ownsRow base 53 14 v' (n + 1) (xs ++ odc y) → w.grownBy w' v.ownBlock → (v'.ownBlock = v.ownBlock ∨ v'.ownBlock = some w.heap.size) → K (act.put o.dst v') w') : if Region.wanted o (yielded ops act.tmps) = true then Oper.wp Tryz.prog o act w K Q else E := by
  have hw : Region.wanted o (yielded ops act.tmps) = true := by simp [Region.wanted, hgd]
  rw [if_pos hw]
  obtain ⟨i, hi, hz0, hz1, hz2⟩ := info_parts infoOp
  obtain ⟨v', w', hr, h1, h2, _, h3⟩ := run_append_own_at (P := Tryz.prog) w base 22 o.type 53 i _ 14 176 Tryz.underlying22 hi hz0 hz1 hz2 rfl (by decide) v n xs hown ad 1 c (odc y) rfl hc (fun u hu => by
    simp [odc] at hu
    rcases hu with rfl | rfl | rfl | rfl | rfl | rfl | rfl | rfl | rfl | rfl | rfl | rfl | rfl | rfl <;> rfl) (by unfold maxLen; omega) (by omega) hbase
  unfold Oper.wp execOp
  simp only [ho, resolve, invoke, builtin, Sem.run_bind, Sem.run_pure, Result.andThen_ok, List.map_toArray, List.map_cons, List.map_nil, hs, hx, hr]
  exact h v' w' h1 h2 h3
theorem orow_at : ∀ (cs : List OD) (i : Nat), i < cs.length → ∀ j v, (odc (cs.getD i od0))[j]? = some v → (orow cs)[i * 14 + j]? = some v
  | [], i, h, _, _, _ => by simp at h
  | x :: l, 0, h, j, v, hv => by
    have hv : (odc x)[j]? = some v := hv
    have hj := (List.getElem?_eq_some_iff.1 hv).1
    show (odc x ++ orow l)[0 * 14 + j]? = _
    rw [Nat.zero_mul, Nat.zero_add, List.getElem?_append_left hj]
    exact hv
  | x :: l, i + 1, h, j, v, hv => by
    have := orow_at l i (by simpa using h) j v hv
    show (odc x ++ orow l)[(i + 1) * 14 + j]? = _
    rw [List.getElem?_append_right (by simp [odc]; omega)]
    rw [show (i + 1) * 14 + j - (odc x).length = i * 14 + j by simp [odc]; omega]
    exact this
theorem ops_own {w : World} {S S0 n c : Nat} {a : Option Addr} {os : List OD} {V : Nat → Prop} (h : w.ownsRow S 53 14 (.slice a n c) n (orow os)) (hn : os.length = n) (hS : S0 ≤ S) (hv : ∀ x ∈ os, Vo w V x) (hV : ∀ k, V k → S0 ≤ k) : Ops w (fun x => S0 ≤ x) a n (os.map (·.o)) :=
  ⟨os, rfl, hn, (ls_own h _ (fun i hi j u hu => orow_at os i (by omega) j u hu)).wide (fun x _ hx => Nat.le_trans hS hx), fun x hx => (hv x hx).wide fun k _ hk => hV k hk⟩
set_option maxHeartbeats 8000000 in
theorem sstep_ (V : Nat → Prop) (a : Option Addr) (n p : Nat) (ws : List (List Nat)) (hw : Gw ws) (S rb : Nat) (w0 w : World) (h : Wv w V a n p ws) (hn : 1 ≤ n) (hn4 : n ≤ 2000000) (hq : Tq w0) (hb : Below w0.heap.size w0 w) (sc : Scr) (hr : Rde w S rb (some sc)) (hmany : sc.ops.length ≤ 2000) :
    Calls Tryz.prog 34 #[.pointer (some ⟨rb, 0, none⟩), .slice a n p] w fun e w' => LnV S rb w (if 2000 ≤ sc.ops.length then .error 221 else match stpv ws with
      | .error e => .error e
      | .ok o => .ok (some { sc with ops := sc.ops ++ [o] })) e w' := by
  obtain ⟨sec, v, os, bg, h1, h2, h3, h4, h5, rfl, hsec, hops⟩ := hr
  obtain ⟨va, vc, rfl, hvc, hvm, hvn, hva⟩ := own_slice h2
  have hol : os.length = sc.ops.length := by rw [← hops, List.length_map]
  have c1 := h1.cell 1
  simp only [List.getElem?_cons_succ, List.getElem?_cons_zero] at c1
  by_cases hfull : 2000 ≤ sc.ops.length
  · have HR : Hid ((if 2000 ≤ sc.ops.length then .error 221 else match stpv ws with
      | .error e => .error e
      | .ok o => .ok (some { sc with ops := sc.ops ++ [o] }) : R (Option Scr)) = .error 221) := by show _ = _; rw [if_pos hfull]
    have hfi : (2000 : Int) ≤ (os.length : Int) := by omega
    obtain ⟨m, Hm⟩ : ∃ z, Hid (os.length = z) := ⟨_, rfl⟩
    rw [Hm.out] at c1 hfi
    rw [HR.out]
    clear h h2 h3 hq hb hfull hops hol
    go_enter Tryz.func34, Tryz.ntmps34
    go_wp2_with fail
    go_ret
    exact LnV.err (RF.refl _) rfl (by decide)
  · have k2 := readStep_ V a n p ws hw w h hn hn4 (hq.kept hb)
    rw [if_neg hfull]
    have hfi : ¬ (2000 : Int) ≤ (os.length : Int) := by omega
    cases hst : stpv ws with
    | error ek =>
      rw [hst] at k2
      obtain ⟨m, Hm⟩ : ∃ z, Hid (os.length = z) := ⟨_, rfl⟩
      rw [Hm.out] at c1 hfi
      have HS := hid h5
      clear h h2 h3 hq hb hfull hops hol hst
      go_enter Tryz.func34, Tryz.ntmps34
      go_wp2_with fail
      refine k2.mono ?_
      rintro e w1 ⟨⟨rfl, hek⟩, g1⟩
      have i1 : ¬ (ek : Int) = 0 := by omega
      have i2 : ((ek : Int) == 0) = false := by simp; omega
      have i3 : ((ek : Int) != 0) = true := by simp; omega
      have HG : Hid (RF S rb w (w1.alloc (.cells #[.int .i64 0, .int .i64 0, .int .i64 0, .int .i64 0, .int .i64 0, .int .i64 0, .slice none 0 0, .int .i64 0, .int .i64 0, .int .i64 0, .int .i64 0, .slice none 0 0, .slice none 0 0, .slice none 0 0] 53))) := RF.of HS.out (bel_bel g1 g1.size ((Below.refl _ _).alloc (Nat.le_refl _) _))
      have HEK := hid hek
      unfold odv od0 opp0
      clear k2 g1 hek
      go_wp2_with fail
      go_ret
      exact LnV.err HG.out rfl HEK.out
    | ok o =>
      rw [hst] at k2
      obtain ⟨m, Hm⟩ : ∃ z, Hid (os.length = z) := ⟨_, rfl⟩
      rw [Hm.out] at c1 hfi h2 hvc
      have H1 := hid h1
      have H2 := hid h2
      have H3 := hid h3
      have H5 := hid h5
      have H4 := hid h4
      have hm3 : m ≤ 2000 := by rw [← Hm.out]; omega
      have HOPS := hid hops
      have HSEC := hid hsec
      obtain ⟨L, HL⟩ : ∃ z, Hid (orow os = z) := ⟨_, rfl⟩
      rw [HL.out] at H2
      rw [Hm.out] at H1
      rw [Hm.out] at H3
      clear h h1 h2 h3 h4 h5 hq hb hfull hops hol hst hsec
      go_enter Tryz.func34, Tryz.ntmps34
      go_wp2_with fail
      refine k2.mono ?_
      rintro e w1 ⟨⟨y, rfl, rfl, hvy⟩, g1⟩
      have hov : Ov (w1.alloc (.cells #[.int .i64 y.o.kd, .int .i64 y.o.a, .int .i64 y.o.k, .int .i64 y.o.t, .int .i64 y.o.x, .int .i64 y.o.lk, .slice y.da y.o.d.length y.dp, .int .i64 y.o.sec, .int .i64 y.o.nano, .int .i64 y.o.bl, .int .i64 y.o.wi, .slice y.ca y.o.ch.length y.cp, .slice y.fa y.o.fl.length y.fp, .slice y.ka y.o.kp.length y.kp] 53)) w1.heap.size y := Ov.new w1 y
      have gal : Below w1.heap.size w1 (w1.alloc (.cells #[.int .i64 y.o.kd, .int .i64 y.o.a, .int .i64 y.o.k, .int .i64 y.o.t, .int .i64 y.o.x, .int .i64 y.o.lk, .slice y.da y.o.d.length y.dp, .int .i64 y.o.sec, .int .i64 y.o.nano, .int .i64 y.o.bl, .int .i64 y.o.wi, .slice y.ca y.o.ch.length y.cp, .slice y.fa y.o.fl.length y.fp, .slice y.ka y.o.kp.length y.kp] 53)) := (Below.refl _ _).alloc (Nat.le_refl _) _
      have HVY := hid hvy
      have G1 := hid g1
      have HOV := hid hov
      have GAL := hid gal
      unfold odv
      clear k2 hvy g1 hov gal
      go_upto_region 6 with fail
      obtain ⟨w2, HW2⟩ : ∃ z, Hid (w1.alloc (.cells #[.int .i64 y.o.kd, .int .i64 y.o.a, .int .i64 y.o.k, .int .i64 y.o.t, .int .i64 y.o.x, .int .i64 y.o.lk, .slice y.da y.o.d.length y.dp, .int .i64 y.o.sec, .int .i64 y.o.nano, .int .i64 y.o.bl, .int .i64 y.o.wi, .slice y.ca y.o.ch.length y.cp, .slice y.fa y.o.fl.length y.fp, .slice y.ka y.o.kp.length y.kp] 53) = z) := ⟨_, rfl⟩
      obtain ⟨cg, HCG⟩ : ∃ z, Hid (w1.heap.size = z) := ⟨_, rfl⟩
      rw [HW2.out] at HOV GAL ⊢
      rw [HCG.out] at HOV ⊢
      have HY2 := hid ((H1.out.on G1.out).on GAL.out)
      have HO2 := hid (own_bel (own_bel H2.out G1.out) GAL.out)
      have hSs : S ≤ w2.heap.size := Nat.le_trans H5.out (Nat.le_trans G1.out.size GAL.out.size)
      have hob : ∀ k, (Value.slice va m vc).ownBlock = some k → S ≤ k ∧ k < w.heap.size := fun k ek => ⟨(H2.out.lt k ek).1, (H2.out.lt k ek).2⟩
      have hcgw : w.heap.size ≤ cg ∧ cg < w2.heap.size := ⟨by have := HCG.out; have := G1.out.size; omega, HOV.out.yx.lt⟩
      have hrbw : rb < w.heap.size := H1.out.lt
      have hwd : Below w2.heap.size w2 (w2.drew.alloc (.cells #[.int .i64 y.o.kd, .int .i64 y.o.a, .int .i64 y.o.k, .int .i64 y.o.t, .int .i64 y.o.x, .int .i64 y.o.lk, .slice y.da y.o.d.length y.dp, .int .i64 y.o.sec, .int .i64 y.o.nano, .int .i64 y.o.bl, .int .i64 y.o.wi, .slice y.ca y.o.ch.length y.cp, .slice y.fa y.o.fl.length y.fp, .slice y.ka y.o.kp.length y.kp] 53)) := (below_drew w2).alloc (below_drew w2).size _
      have HWD := hid hwd
      have HOD := hid (own_bel HO2.out hwd)
      have HNB : Hid ((w2.drew.alloc (.cells #[.int .i64 y.o.kd, .int .i64 y.o.a, .int .i64 y.o.k, .int .i64 y.o.t, .int .i64 y.o.x, .int .i64 y.o.lk, .slice y.da y.o.d.length y.dp, .int .i64 y.o.sec, .int .i64 y.o.nano, .int .i64 y.o.bl, .int .i64 y.o.wi, .slice y.ca y.o.ch.length y.cp, .slice y.fa y.o.fl.length y.fp, .slice y.ka y.o.kp.length y.kp] 53)).heap[w2.heap.size]? = some (.cells #[.int .i64 y.o.kd, .int .i64 y.o.a, .int .i64 y.o.k, .int .i64 y.o.t, .int .i64 y.o.x, .int .i64 y.o.lk, .slice y.da y.o.d.length y.dp, .int .i64 y.o.sec, .int .i64 y.o.nano, .int .i64 y.o.bl, .int .i64 y.o.wi, .slice y.ca y.o.ch.length y.cp, .slice y.fa y.o.fl.length y.fp, .slice y.ka y.o.kp.length y.kp] 53 (0, 0))) := heap_alloc_new w2.drew _
      have HCD : Hid (∀ j u, (odc y)[j]? = some u → (w2.drew.alloc (.cells #[.int .i64 y.o.kd, .int .i64 y.o.a, .int .i64 y.o.k, .int .i64 y.o.t, .int .i64 y.o.x, .int .i64 y.o.lk, .slice y.da y.o.d.length y.dp, .int .i64 y.o.sec, .int .i64 y.o.nano, .int .i64 y.o.bl, .int .i64 y.o.wi, .slice y.ca y.o.ch.length y.cp, .slice y.fa y.o.fl.length y.fp, .slice y.ka y.o.kp.length y.kp] 53)).cell? ((⟨w2.heap.size, 0, none⟩ : Addr).add j) = some u) := fun j u hj => by
        rw [Addr.add_lit, Nat.zero_add, cell_of_row _ _ j _ _ (0, 0) HNB.out]
        simpa [odc] using hj
      have HSZ : Hid (S ≤ (w2.drew.alloc (.cells #[.int .i64 y.o.kd, .int .i64 y.o.a, .int .i64 y.o.k, .int .i64 y.o.t, .int .i64 y.o.x, .int .i64 y.o.lk, .slice y.da y.o.d.length y.dp, .int .i64 y.o.sec, .int .i64 y.o.nano, .int .i64 y.o.bl, .int .i64 y.o.wi, .slice y.ca y.o.ch.length y.cp, .slice y.fa y.o.fl.length y.fp, .slice y.ka y.o.kp.length y.kp] 53)).heap.size) := by show _ ≤ _; have := hwd.size; omega
      have HFZ : Hid (∀ w', (w2.drew.alloc (.cells #[.int .i64 y.o.kd, .int .i64 y.o.a, .int .i64 y.o.k, .int .i64 y.o.t, .int .i64 y.o.x, .int .i64 y.o.lk, .slice y.da y.o.d.length y.dp, .int .i64 y.o.sec, .int .i64 y.o.nano, .int .i64 y.o.bl, .int .i64 y.o.wi, .slice y.ca y.o.ch.length y.cp, .slice y.fa y.o.fl.length y.fp, .slice y.ka y.o.kp.length y.kp] 53)).grownBy w' (Value.slice va m vc).ownBlock → (w'.cell? ⟨cg, 0, none⟩ = some (.int .i64 y.o.kd) ∧ w'.cell? ⟨cg, 1, none⟩ = some (.int .i64 y.o.a) ∧ w'.cell? ⟨cg, 2, none⟩ = some (.int .i64 y.o.k) ∧ w'.cell? ⟨cg, 3, none⟩ = some (.int .i64 y.o.t) ∧ w'.cell? ⟨cg, 4, none⟩ = some (.int .i64 y.o.x) ∧ w'.cell? ⟨cg, 5, none⟩ = some (.int .i64 y.o.lk) ∧ w'.cell? ⟨cg, 6, none⟩ = some (.slice y.da y.o.d.length y.dp) ∧ w'.cell? ⟨cg, 7, none⟩ = some (.int .i64 y.o.sec) ∧ w'.cell? ⟨cg, 8, none⟩ = some (.int .i64 y.o.nano) ∧ w'.cell? ⟨cg, 9, none⟩ = some (.int .i64 y.o.bl) ∧ w'.cell? ⟨cg, 10, none⟩ = some (.int .i64 y.o.wi) ∧ w'.cell? ⟨cg, 11, none⟩ = some (.slice y.ca y.o.ch.length y.cp) ∧ w'.cell? ⟨cg, 12, none⟩ = some (.slice y.fa y.o.fl.length y.fp) ∧ w'.cell? ⟨cg, 13, none⟩ = some (.slice y.ka y.o.kp.length y.kp)) ∧ w'.cell? ⟨rb, 1, none⟩ = some (.slice va m vc) ∧ w'.frozen? ⟨rb, 1, none⟩ = false ∧ Hid (Yx w' rb 58 [.int .i64 sec, .slice va m vc, .bool true])) := fun w' hg => by
        have kc : w'.heap[cg]? = w2.heap[cg]? := (hg.block cg (by have := hwd.size; omega) (fun e => by have := (hob cg e.symm).2; omega)).trans (hwd.block cg hcgw.2)
        have kr : w'.heap[rb]? = w2.heap[rb]? := (hg.block rb (by have := hwd.size; omega) (fun e => by have := (hob rb e.symm).1; have := H4.out; omega)).trans (hwd.block rb (by omega))
        have hyc : Yx w' cg 53 (odc y) := kc.trans HOV.out
        have hyr : Yx w' rb 58 [.int .i64 sec, .slice va m vc, .bool true] := kr.trans HY2.out
        exact ⟨⟨hyc.cell 0, hyc.cell 1, hyc.cell 2, hyc.cell 3, hyc.cell 4, hyc.cell 5, hyc.cell 6, hyc.cell 7, hyc.cell 8, hyc.cell 9, hyc.cell 10, hyc.cell 11, hyc.cell 12, hyc.cell 13⟩, hyr.cell 1, hyr.fz 1, hyr⟩
      have v0 := HOV.out.yx.cell 0
      have v1 := HOV.out.yx.cell 1
      have v2 := HOV.out.yx.cell 2
      have v3 := HOV.out.yx.cell 3
      have v4 := HOV.out.yx.cell 4
      have v5 := HOV.out.yx.cell 5
      have v6 := HOV.out.yx.cell 6
      have v7 := HOV.out.yx.cell 7
      have v8 := HOV.out.yx.cell 8
      have v9 := HOV.out.yx.cell 9
      have v10 := HOV.out.yx.cell 10
      have v11 := HOV.out.yx.cell 11
      have v12 := HOV.out.yx.cell 12
      have v13 := HOV.out.yx.cell 13
      simp only [odc, List.getElem?_cons_succ, List.getElem?_cons_zero] at v0 v1 v2 v3 v4 v5 v6 v7 v8 v9 v10 v11 v12 v13
      have c1' := HY2.out.cell 1
      simp only [List.getElem?_cons_succ, List.getElem?_cons_zero] at c1'
      have f1' := HY2.out.fz 1
      have hcr : ¬ cg = rb := by omega
      have hrc : ¬ rb = cg := by omega
      have HM : Hid (m ≤ 3000) := by show _ ≤ _; omega
      have d1 : (w2.drew.alloc (.cells #[.int .i64 y.o.kd, .int .i64 y.o.a, .int .i64 y.o.k, .int .i64 y.o.t, .int .i64 y.o.x, .int .i64 y.o.lk, .slice y.da y.o.d.length y.dp, .int .i64 y.o.sec, .int .i64 y.o.nano, .int .i64 y.o.bl, .int .i64 y.o.wi, .slice y.ca y.o.ch.length y.cp, .slice y.fa y.o.fl.length y.fp, .slice y.ka y.o.kp.length y.kp] 53)).cell? ⟨rb, 1, none⟩ = some (.slice va m vc) := (HY2.out.on hwd).cell 1
      have d1f : (w2.drew.alloc (.cells #[.int .i64 y.o.kd, .int .i64 y.o.a, .int .i64 y.o.k, .int .i64 y.o.t, .int .i64 y.o.x, .int .i64 y.o.lk, .slice y.da y.o.d.length y.dp, .int .i64 y.o.sec, .int .i64 y.o.nano, .int .i64 y.o.bl, .int .i64 y.o.wi, .slice y.ca y.o.ch.length y.cp, .slice y.fa y.o.fl.length y.fp, .slice y.ka y.o.kp.length y.kp] 53)).frozen? ⟨rb, 1, none⟩ = false := (HY2.out.on hwd).fz 1
      have d3 : (w2.alloc (.cells #[.int .i64 y.o.kd, .int .i64 y.o.a, .int .i64 y.o.k, .int .i64 y.o.t, .int .i64 y.o.x, .int .i64 y.o.lk, .slice y.da y.o.d.length y.dp, .int .i64 y.o.sec, .int .i64 y.o.nano, .int .i64 y.o.bl, .int .i64 y.o.wi, .slice y.ca y.o.ch.length y.cp, .slice y.fa y.o.fl.length y.fp, .slice y.ka y.o.kp.length y.kp] 53)).drew.cell? ⟨rb, 1, none⟩ = some (.slice va m vc) := (HY2.out.on hwd).cell 1
      have d3f : (w2.alloc (.cells #[.int .i64 y.o.kd, .int .i64 y.o.a, .int .i64 y.o.k, .int .i64 y.o.t, .int .i64 y.o.x, .int .i64 y.o.lk, .slice y.da y.o.d.length y.dp, .int .i64 y.o.sec, .int .i64 y.o.nano, .int .i64 y.o.bl, .int .i64 y.o.wi, .slice y.ca y.o.ch.length y.cp, .slice y.fa y.o.fl.length y.fp, .slice y.ka y.o.kp.length y.kp] 53)).drew.frozen? ⟨rb, 1, none⟩ = false := (HY2.out.on hwd).fz 1
      have d2 : w2.drew.cell? ⟨rb, 1, none⟩ = some (.slice va m vc) := c1'
      clear c1 hfi hob hwd
      go_region_law (first | (refine step_appO rfl (.tmp 27) (.tmp 29) rfl S (.slice va m vc) m L (by rfl) (by exact HOD.out) ⟨w2.heap.size, 0, none⟩ 1 y (by rfl) (by exact HCD.out) HM.out (by exact HSZ.out) ?_; intro v' w4 z1 z2 z3; obtain ⟨a7, c7, rfl, _⟩ := own_slice z1; obtain ⟨⟨q0, q1, q2, q3, q4, q5, q6, q7, q8, q9, q10, q11, q12, q13⟩, zc, zf, zy⟩ := HFZ.out w4 z2; have HZ1 := hid z1; have HZ2 := hid z2; have HZ3 := hid z3))
      all_goals
        have hob2 : ∀ k, (Value.slice va m vc).ownBlock = some k → S ≤ k ∧ k < w.heap.size := fun k ek => ⟨(H2.out.lt k ek).1, (H2.out.lt k ek).2⟩
        have hrs : rb < S := H4.out
        have hW1 : w.heap.size ≤ w1.heap.size := G1.out.size
        have hW2 : w1.heap.size ≤ w2.heap.size := GAL.out.size
        have hWd : w2.heap.size ≤ (w2.drew.alloc (.cells #[.int .i64 y.o.kd, .int .i64 y.o.a, .int .i64 y.o.k, .int .i64 y.o.t, .int .i64 y.o.x, .int .i64 y.o.lk, .slice y.da y.o.d.length y.dp, .int .i64 y.o.sec, .int .i64 y.o.nano, .int .i64 y.o.bl, .int .i64 y.o.wi, .slice y.ca y.o.ch.length y.cp, .slice y.fa y.o.fl.length y.fp, .slice y.ka y.o.kp.length y.kp] 53)).heap.size := HWD.out.size
        have HG : Hid (RF S rb w (w4.setCell ⟨rb, 1, none⟩ (.slice a7 (m + 1) c7))) := (((RF.of H5.out G1.out).trans (RF.of (Nat.le_trans H5.out hW1) GAL.out)).trans ((RF.of hSs HWD.out).trans (RF.app HOD.out HZ2.out HSZ.out))).trans (RF.set w4 1 _)
        have HRD : Hid (Rde (w4.setCell ⟨rb, 1, none⟩ (.slice a7 (m + 1) c7)) S rb (some { sc with ops := sc.ops ++ [y.o] })) := by
          refine ⟨sec, .slice a7 (m + 1) c7, os ++ [y], true, zy.out.set 1 _, ?_, fun x hx => ?_, hrs, ?_, rfl, HSEC.out, ?_⟩
          · rw [List.length_append, Hm.out, show orow (os ++ [y]) = L ++ odc y by rw [← HL.out]; simp [orow]]
            exact own_at' HZ1.out (fun g eg => Below.heap_setCell _ _ _ _ (by have := (HZ1.out.lt g eg).1; show g ≠ rb; omega))
          · have key : Vo w2 (fun k => S ≤ k ∧ (Value.slice va m vc).ownBlock ≠ some k) x := by
              rcases List.mem_append.1 hx with hx | hx
              · exact ((H3.out x hx).on G1.out).on GAL.out
              · rw [List.mem_singleton.1 hx]
                exact (HVY.out.on GAL.out).wide fun k hk hk2 => ⟨Nat.le_trans H5.out hk2, fun e => by have := (hob2 k e).2; omega⟩
            have key2 := (key.on HWD.out).wide (V' := fun k => (S ≤ k ∧ (Value.slice va m vc).ownBlock ≠ some k) ∧ k < (w2.drew.alloc (.cells #[.int .i64 y.o.kd, .int .i64 y.o.a, .int .i64 y.o.k, .int .i64 y.o.t, .int .i64 y.o.x, .int .i64 y.o.lk, .slice y.da y.o.d.length y.dp, .int .i64 y.o.sec, .int .i64 y.o.nano, .int .i64 y.o.bl, .int .i64 y.o.wi, .slice y.ca y.o.ch.length y.cp, .slice y.fa y.o.fl.length y.fp, .slice y.ka y.o.kp.length y.kp] 53)).heap.size) fun k hk hk2 => ⟨hk2, hk⟩
            refine ((key2.step (fun k hk hk2 => (Below.heap_setCell _ _ _ _ (by have := hk2.1.1; show k ≠ rb; omega)).trans (HZ2.out.block k hk (fun e => hk2.1.2 e.symm))) ?_).wide fun k _ hk2 => ⟨hk2.1.1, fun e => ?_⟩)
            · have := HZ2.out.size
              simpa [World.setCell] using this
            · rcases HZ3.out with h | h
              · exact hk2.1.2 (by rw [← h]; exact e)
              · rw [h] at e
                have h1 : (w2.drew.alloc (.cells #[.int .i64 y.o.kd, .int .i64 y.o.a, .int .i64 y.o.k, .int .i64 y.o.t, .int .i64 y.o.x, .int .i64 y.o.lk, .slice y.da y.o.d.length y.dp, .int .i64 y.o.sec, .int .i64 y.o.nano, .int .i64 y.o.bl, .int .i64 y.o.wi, .slice y.ca y.o.ch.length y.cp, .slice y.fa y.o.fl.length y.fp, .slice y.ka y.o.kp.length y.kp] 53)).heap.size = k := Option.some.inj e
                have h2 := hk2.2
                omega
          · have h1 : (w2.drew.alloc (.cells #[.int .i64 y.o.kd, .int .i64 y.o.a, .int .i64 y.o.k, .int .i64 y.o.t, .int .i64 y.o.x, .int .i64 y.o.lk, .slice y.da y.o.d.length y.dp, .int .i64 y.o.sec, .int .i64 y.o.nano, .int .i64 y.o.bl, .int .i64 y.o.wi, .slice y.ca y.o.ch.length y.cp, .slice y.fa y.o.fl.length y.fp, .slice y.ka y.o.kp.length y.kp] 53)).heap.size ≤ w4.heap.size := HZ2.out.size
            have h2 := HSZ.out
            show S ≤ (w4.setCell _ _).heap.size
            simp only [World.setCell, Array.size_modify]
            omega
          · rw [List.map_append, HOPS.out]
            rfl
        clear q0 q1 q2 q3 q4 q5 q6 q7 q8 q9 q10 q11 q12 q13 zc zf zy v0 v1 v2 v3 v4 v5 v6 v7 v8 v9 v10 v11 v12 v13
        go_wp2_with fail
        go_ret
        exact LnV.ok HG.out rfl HRD.out
end Go.Proofs.YtkeogggeefnoeaaGreatDoor
namespace Go.Proofs.YtkeogggeefnoeaaGreatDoor
set_option linter.unusedSimpArgs false
open Go.RowKit
set_option linter.unusedVariables false
set_option maxRecDepth 100000

/-! Reading: any line. -/
theorem spl_gw : ∀ (l cur : List Nat), (∀ x ∈ cur, x < 256) → (∀ x ∈ l, x < 256) → ∀ w ∈ spl cur l, (∀ y ∈ w, y < 256) ∧ w.length ≤ cur.length + l.length
  | [], cur, hc, hl, w, hw => by
    rw [spl] at hw
    split at hw
    · simp at hw
    · rw [List.mem_singleton.1 hw]
      exact ⟨hc, by simp⟩
  | x :: l, cur, hc, hl, w, hw => by
    have hl' : ∀ y ∈ l, y < 256 := fun y hy => hl y (List.mem_cons_of_mem _ hy)
    rw [spl] at hw
    split at hw
    · split at hw
      · obtain ⟨h1, h2⟩ := spl_gw l [] (by simp) hl' w hw
        exact ⟨h1, by simp at h2 ⊢; omega⟩
      · rcases List.mem_cons.1 hw with rfl | hw
        · exact ⟨hc, by omega⟩
        · obtain ⟨h1, h2⟩ := spl_gw l [] (by simp) hl' w hw
          exact ⟨h1, by simp at h2 ⊢; omega⟩
    · obtain ⟨h1, h2⟩ := spl_gw l (cur ++ [x]) (fun y hy => by
        rcases List.mem_append.1 hy with hy | hy
        · exact hc y hy
        · rw [List.mem_singleton.1 hy]
          exact hl x List.mem_cons_self) hl' w hw
      exact ⟨h1, by simp at h2 ⊢; omega⟩
theorem said_mem : ∀ (l : List Nat), ∀ x ∈ said l, x ∈ l
  | [], x, hx => by simp [said] at hx
  | y :: l, x, hx => by
    rw [said] at hx
    split at hx
    · simp at hx
    · rcases List.mem_cons.1 hx with rfl | hx
      · exact List.mem_cons_self
      · exact List.mem_cons_of_mem _ (said_mem l x hx)
theorem wds_gw {l : List Nat} (hy : ∀ x ∈ l, x < 256) (hl : l.length ≤ 1048576) : Gw (wds l) := fun w hw => by
  obtain ⟨h1, h2⟩ := spl_gw (said l) [] (by simp) (fun x hx => hy x (said_mem l x hx)) w hw
  have := said_len l
  exact ⟨h1, by simp at h2; omega⟩
theorem wds_len (l : List Nat) : (wds l).length ≤ l.length + 1 := by
  have h1 := spl_len (said l) []
  have h2 := said_len l
  unfold wds
  omega
set_option maxHeartbeats 8000000 in
theorem line_ (l : List Nat) (hy : ∀ x ∈ l, x < 256) (hl : l.length ≤ 1048576) (S rb : Nat) (w0 w : World) (hq : Tq w0) (hb : Below w0.heap.size w0 w) (hrb : w0.heap.size ≤ rb) (s : Option Scr) (hr : Rde w S rb s) (hmany : ∀ sc, s = some sc → sc.ops.length ≤ 2000) :
    Calls Tryz.prog 22 #[.pointer (some ⟨rb, 0, none⟩), .string (sb l)] w fun e w' => LnV S rb w (linv s l) e w' := by
  have k1 := listed_ l hy hl w
  unfold LdV at k1
  have hg := wds_gw hy hl
  have hwl := wds_len l
  obtain ⟨r, HR⟩ : ∃ z, Hid (linv s l = z) := ⟨_, rfl⟩
  have hr0 := HR.out
  unfold linv at hr0
  rw [HR.out]
  have HRD := hid hr
  have HSW : Hid (rb < S ∧ S ≤ w.heap.size) := by
    obtain ⟨sec, v, os, bg, h1, h2, h3, h4, h5, h6⟩ := hr
    exact ⟨h4, h5⟩
  obtain ⟨X, HX⟩ : ∃ z, Hid (sb l = z) := ⟨_, rfl⟩
  rw [HX.out] at k1 ⊢
  obtain ⟨ws, HWS⟩ : ∃ z, Hid (wds l = z) := ⟨_, rfl⟩
  rw [HWS.out] at k1 hg hwl hr0
  by_cases hgd : sgood l = true
  · rw [if_pos hgd] at hr0
    have k1' : Calls Tryz.prog 32 #[.string X] w fun e w' => (∃ a p, e = .returned (.tuple #[.slice a ws.length p, .int .i64 0]) ∧ Wv w' (fun x => w.heap.size ≤ x) a ws.length p ws) ∧ Below w.heap.size w w' := k1.mono fun e w' h => ⟨by have := h.1; rwa [if_pos hgd] at this, h.2⟩
    clear k1 hgd hr
    by_cases hw0 : ws = []
    · rw [if_pos hw0] at hr0
      subst hw0
      have HRR := hid hr0.symm
      clear hr0
      go_enter Tryz.func22, Tryz.ntmps22
      go_wp2_with fail
      refine k1'.mono ?_
      rintro e w1 ⟨⟨a, p, rfl, hwv⟩, g1⟩
      have G1 := hid g1
      clear k1' hwv g1
      go_wp2_with fail
      go_ret
      exact LnV.ok (RF.of HSW.out.2 G1.out) HRR.out (HRD.out.on G1.out)
    · rw [if_neg hw0] at hr0
      have hn1 : 1 ≤ ws.length := List.length_pos_iff.2 hw0
      have hnn : ¬ (ws.length : Int) = 0 := by omega
      have hnb : ((ws.length : Int) == 0) = false := by simp; omega
      cases s with
      | none =>
        have HRR := hid hr0
        have HH := hid fun (w1 : World) (a : Option Addr) (p : Nat) (g1 : Below w.heap.size w w1) (hwv : Wv w1 (fun x => w.heap.size ≤ x) a ws.length p ws) => (sbegin_ _ a ws.length p ws hg S rb w0 w1 hwv hn1 hq (bel_bel hb hb.size g1) hrb (HRD.out.on g1) (fun k hk => by have := HSW.out; omega)).mono fun e w' h => (show LnV S rb w1 r e w' from by rw [← HRR.out]; exact h)
        obtain ⟨n, HN⟩ : ∃ z, Hid (ws.length = z) := ⟨_, rfl⟩
        rw [HN.out] at k1' HH hnn hnb
        clear hr0 hw0 hq hb hn1 hwl
        go_enter Tryz.func22, Tryz.ntmps22
        go_wp2_with fail
        refine k1'.mono ?_
        rintro e w1 ⟨⟨a, p, rfl, hwv⟩, g1⟩
        have k2 := HH.out w1 a p g1 hwv
        have G1 := hid g1
        obtain ⟨sec, v, os, bg, h1, _, _, _, _, rfl, _⟩ := HRD.out.on g1
        have c2 := h1.cell 2
        simp only [List.getElem?_cons_succ, List.getElem?_cons_zero] at c2
        clear k1' hwv g1 h1
        go_wp2_with fail
        refine k2.mono ?_
        rintro e w2 ⟨hF, hM⟩
        have HF := hid hF
        have HM := hid hM
        clear k2 hF hM
        cases r with
        | error ek =>
          obtain ⟨rfl, hek⟩ := HM.out
          go_wp2_with fail
          go_ret
          exact LnV.err ((RF.of HSW.out.2 G1.out).trans HF.out) rfl hek
        | ok s' =>
          obtain ⟨rfl, hrd⟩ := HM.out
          have HRD2 := hid hrd
          clear hrd
          go_wp2_with fail
          go_ret
          exact LnV.ok ((RF.of HSW.out.2 G1.out).trans HF.out) rfl HRD2.out
      | some sc =>
        have HRR := hid hr0
        have hmn := hmany sc rfl
        have HH := hid fun (w1 : World) (a : Option Addr) (p : Nat) (g1 : Below w.heap.size w w1) (hwv : Wv w1 (fun x => w.heap.size ≤ x) a ws.length p ws) => (sstep_ _ a ws.length p ws hg S rb w0 w1 hwv hn1 (by omega) hq (bel_bel hb hb.size g1) sc (HRD.out.on g1) hmn).mono fun e w' h => (show LnV S rb w1 r e w' from by rw [← HRR.out]; exact h)
        obtain ⟨n, HN⟩ : ∃ z, Hid (ws.length = z) := ⟨_, rfl⟩
        rw [HN.out] at k1' HH hnn hnb
        clear hr0 hw0 hq hb hn1 hwl hmany hmn
        go_enter Tryz.func22, Tryz.ntmps22
        go_wp2_with fail
        refine k1'.mono ?_
        rintro e w1 ⟨⟨a, p, rfl, hwv⟩, g1⟩
        have k2 := HH.out w1 a p g1 hwv
        have G1 := hid g1
        obtain ⟨sec, v, os, bg, h1, _, _, _, _, rfl, _⟩ := HRD.out.on g1
        have c2 := h1.cell 2
        simp only [List.getElem?_cons_succ, List.getElem?_cons_zero] at c2
        clear k1' hwv g1 h1
        go_wp2_with fail
        refine k2.mono ?_
        rintro e w2 ⟨hF, hM⟩
        have HF := hid hF
        have HM := hid hM
        clear k2 hF hM
        cases r with
        | error ek =>
          obtain ⟨rfl, hek⟩ := HM.out
          go_wp2_with fail
          go_ret
          exact LnV.err ((RF.of HSW.out.2 G1.out).trans HF.out) rfl hek
        | ok s' =>
          obtain ⟨rfl, hrd⟩ := HM.out
          have HRD2 := hid hrd
          clear hrd
          go_wp2_with fail
          go_ret
          exact LnV.ok ((RF.of HSW.out.2 G1.out).trans HF.out) rfl HRD2.out
  · rw [if_neg hgd] at hr0
    have k1' : Calls Tryz.prog 32 #[.string X] w fun e w' => e = .returned (.tuple #[.slice none 0 0, .int .i64 224]) ∧ Below w.heap.size w w' := k1.mono fun e w' h => ⟨by have := h.1; rwa [if_neg hgd] at this, h.2⟩
    have HRR := hid hr0.symm
    clear k1 hgd hr hr0
    go_enter Tryz.func22, Tryz.ntmps22
    go_wp2_with fail
    refine k1'.mono ?_
    rintro e w1 ⟨rfl, g1⟩
    have G1 := hid g1
    clear k1' g1
    go_wp2_with fail
    go_ret
    exact LnV.err (RF.of HSW.out.2 G1.out) HRR.out (by decide)
end Go.Proofs.YtkeogggeefnoeaaGreatDoor
