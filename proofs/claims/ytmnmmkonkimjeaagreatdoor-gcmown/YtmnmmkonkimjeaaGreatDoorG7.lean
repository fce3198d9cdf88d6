import Derived.Test.YtmnmmkonkimjeaaGreatDoorG6
import Derived.Test.YtmnmmkonkimjeaaGreatDoorCode
import Derived.Laws.Tables
namespace Go.Proofs.YtmnmmkonkimjeaaGreatDoor
open Go.RowKit
set_option linter.unusedVariables false
set_option maxRecDepth 100000

/-- No sealer. -/
def sz : Array Value := (Value.pointer none :: (rw8 12 fun _ => 0).toList).toArray
theorem sz_size : sz.size = 13 := by simp [sz, rw8_size]
theorem sz_one : sz.all (·.oneCell') = true := by simp [sz, rw8, Value.oneCell']
theorem zeros13 : (Tryz.prog.info? 60).map (·.zero) = some (some (.agg sz)) := by kernel_rfl
theorem builts0 : Tryz.prog.built 60 [] = some sz := by kernel_rfl
theorem builts2 (gc : Nat) (f : Nat → Nat) : Tryz.prog.built 60 [(0, .pointer (some ⟨gc, 0, none⟩)), (1, .agg (rw8 12 f))] = some (sv gc f) := by kernel_rfl
theorem wpList_als {ops : Array Oper} {rest : List Oper} {o : Oper} {a : Act} {w : World} {Q : Exit → Act → World → Prop} (hgd : o.guard = none) (ho : o.op = .alloc 60)
    (h : wpList Tryz.prog ops Q rest (a.put o.dst (.pointer (some ⟨w.heap.size, 0, none⟩))) (w.alloc (.cells sz 60))) : wpList Tryz.prog ops Q (o :: rest) a w :=
  wpList_plain hgd fun K hK => by
    obtain ⟨i, hi, hs⟩ := Option.map_eq_some_iff.1 zeros13
    have hz' : (zeroValue 60).run Tryz.prog w = .ok (.agg sz) w := by simp [zeroValue, typeInfo, hi, hs]
    unfold Oper.wp
    have e : (execOp a.eval o).run Tryz.prog w = .ok (.value (.pointer (some ⟨w.heap.size, 0, none⟩))) (w.alloc (.cells sz 60)) := by
      unfold execOp
      simp only [ho, Instr.alloc, hz', Sem.run_bind, Sem.run_pure, Result.andThen_ok, newVar, newRow, run_newObj_alloc, Value.cells]
    rw [e]
    exact hK _ _ h
theorem wpList_blds0 {ops : Array Oper} {rest : List Oper} {o : Oper} {a : Act} {w : World} {Q : Exit → Act → World → Prop} (hgd : o.guard = none) (ho : o.op = .build 60 #[])
    (h : wpList Tryz.prog ops Q rest (a.put o.dst (.agg sz)) w) : wpList Tryz.prog ops Q (o :: rest) a w := by
  have e : ((#[] : Array (Nat × Operand)).map fun (i, x) => (i, a.eval x)).toList = [] := by simp
  exact wpList_build hgd 60 #[] ho (by rw [e, builts0]; rfl) (by rw [e, builts0]; exact h)
theorem wpList_blds {ops : Array Oper} {rest : List Oper} {o : Oper} {a : Act} {w : World} {Q : Exit → Act → World → Prop} (hgd : o.guard = none) (x y : Operand) (ho : o.op = .build 60 #[(0, x), (1, y)]) (gc : Nat) (f : Nat → Nat) (hx : a.eval x = .pointer (some ⟨gc, 0, none⟩)) (hy : a.eval y = .agg (rw8 12 f))
    (h : wpList Tryz.prog ops Q rest (a.put o.dst (.agg (sv gc f))) w) : wpList Tryz.prog ops Q (o :: rest) a w := by
  have e : ((#[(0, x), (1, y)] : Array (Nat × Operand)).map fun (i, x) => (i, a.eval x)).toList = [(0, .pointer (some ⟨gc, 0, none⟩)), (1, .agg (rw8 12 f))] := by simp [hx, hy]
  exact wpList_build hgd 60 #[(0, x), (1, y)] ho (by rw [e, builts2]; rfl) (by rw [e, builts2]; exact h)
def Sx (w : World) (g : Nat) (vs : Array Value) : Prop := w.heap[g]? = some (.cells vs 60 (0, 0))
theorem Sx.kept {w w' : World} {g : Nat} {vs : Array Value} (h : Sx w g vs) (hb : Below w.heap.size w w') : Sx w' g vs := by
  have := (Array.getElem?_eq_some_iff.1 h).1
  unfold Sx at *; rw [hb.block g this]; exact h
theorem wpList_sts {ops : Array Oper} {rest : List Oper} {o : Oper} {a : Act} {w : World} {Q : Exit → Act → World → Prop} (hgd : o.guard = none) (hdst : o.dst = none) (x y : Operand) (ho : o.op = .store 60 x y)
    (g : Nat) (vs : Array Value) (hx : a.eval x = .pointer (some ⟨g, 0, none⟩)) (hy : a.eval y = .agg vs) (hs : vs.size = 13) (h1 : vs.all (·.oneCell') = true) (old : Array Value) (ho' : old.size = 13) (hg : Sx w g old)
    (h : wpList Tryz.prog ops Q rest a (w.setRow g vs)) : wpList Tryz.prog ops Q (o :: rest) a w := by
  refine wpList_store_row hgd _ x y ho g vs hx hy _ old hg (by rw [hs]; exact sizes) (by rw [ho', hs]) h1 ?_
  rw [hdst]
  exact h
theorem results_s {fn : Func} {p u : Tmp} (h : fn.results = #[.cell p 60, .tmp u]) (tmps : Array Value) (w : World) (g : Nat) (vs : Array Value) (v : Value)
    (hp : tmps.getD p undef = .pointer (some ⟨g, 0, none⟩)) (hv : tmps.getD u undef = v) (hg : Sx w g vs) (hs : vs.size = 13) : (results fn tmps).run Tryz.prog w = .ok (.tuple #[.agg vs, v]) w := by
  obtain ⟨d, hu, hd⟩ := Option.map_eq_some_iff.1 unders
  exact results_row2 h tmps w g _ vs (0, 0) d v hp hv hg hu hd (by rw [hs]; exact sizes)
theorem Sx.row {w : World} {g : Nat} {old : Array Value} (h : Sx w g old) (vs : Array Value) : Sx (w.setRow g vs) g vs := setRow_heap w g _ _ _ _ h

set_option maxHeartbeats 1000000 in
theorem ready_bad (a0 a1 a2 a3 : Option Addr) (n0 c0 n1 c1 n2 c2 n3 c3 : Nat) (zs : List Int) (w : World) (hb0 : Bs w a0 n0 zs) (h0 : n0 ≤ maxLen) (h1 : n1 ≤ maxLen) (h2 : n2 ≤ maxLen) (h3 : n3 ≤ maxLen) (hn : n0 ≠ 32 ∨ n1 ≠ 12 ∨ 65536 < n2 ∨ 65536 < n3) :
    Calls Tryz.prog 16 #[.slice a0 n0 c0, .slice a1 n1 c1, .slice a2 n2 c2, .slice a3 n3 c3] w fun e w' => e = .returned (.tuple #[.agg sz, .int .i64 (if n0 ≠ 32 then 40 else if n1 ≠ 12 then 50 else 51)]) ∧ Below w.heap.size w w' := by
  have x0 : Sx (w.alloc (.cells sz 60)) w.heap.size sz := heap_alloc_new w _
  have b0 := (Below.refl w.heap.size w).alloc (Nat.le_refl _) (.cells sz 60)
  have hb0 := hb0.below b0
  by_cases e0 : n0 = 32
  · have k0 := fun w hb => new_ a0 n0 c0 zs w hb e0
    rw [if_neg (by omega)]
    unfold maxLen at h0 h1 h2 h3
    have H0 := hid e0
    clear e0
    by_cases e1 : n1 = 12
    · have b1 : ((n1 : Int) != 12) = false := by simp [e1]
      rw [if_neg (by omega)]
      by_cases e2 : 65536 < n2
      · have b2 : decide ((65536 : Int) < (n2 : Int)) = true := decide_eq_true (by omega)
        clear e1 e2 hn
        go_enter Tryz.func16, Tryz.ntmps16
        go_wp2_with (refine wpList_als rfl rfl ?_)
        refine (k0 _ hb0).mono ?_
        rintro e w1 ⟨gc, rfl, _, _, g2⟩
        have x0 := x0.kept g2
        have b0 := bel_bel b0 b0.size g2
        clear g2 k0 hb0
        go_wp2_with (first | (refine wpList_blds0 rfl rfl ?_) | (refine wpList_sts rfl rfl _ _ rfl w.heap.size sz rfl rfl sz_size sz_one sz sz_size (by with_reducible exact x0) ?_))
        refine bodyPost_ret (v := .tuple #[.agg sz, .int .i64 51]) ?_ rfl ⟨rfl, bel_row b0 (Nat.le_refl _) _⟩
        exact results_s rfl _ _ w.heap.size sz _ rfl rfl (x0.row sz) sz_size
      · have b2 : decide ((65536 : Int) < (n2 : Int)) = false := decide_eq_false (by omega)
        have b3 : decide ((65536 : Int) < (n3 : Int)) = true := decide_eq_true (by have := H0.out; omega)
        clear e1 e2 hn
        go_enter Tryz.func16, Tryz.ntmps16
        go_wp2_with (refine wpList_als rfl rfl ?_)
        refine (k0 _ hb0).mono ?_
        rintro e w1 ⟨gc, rfl, _, _, g2⟩
        have x0 := x0.kept g2
        have b0 := bel_bel b0 b0.size g2
        clear g2 k0 hb0
        go_wp2_with (first | (refine wpList_blds0 rfl rfl ?_) | (refine wpList_sts rfl rfl _ _ rfl w.heap.size sz rfl rfl sz_size sz_one sz sz_size (by with_reducible exact x0) ?_))
        refine bodyPost_ret (v := .tuple #[.agg sz, .int .i64 51]) ?_ rfl ⟨rfl, bel_row b0 (Nat.le_refl _) _⟩
        exact results_s rfl _ _ w.heap.size sz _ rfl rfl (x0.row sz) sz_size
    · have b1 : ((n1 : Int) != 12) = true := by simpa using fun h => e1 (by omega)
      rw [if_pos e1]
      clear e1 hn
      go_enter Tryz.func16, Tryz.ntmps16
      go_wp2_with (refine wpList_als rfl rfl ?_)
      refine (k0 _ hb0).mono ?_
      rintro e w1 ⟨gc, rfl, _, _, g2⟩
      have x0 := x0.kept g2
      have b0 := bel_bel b0 b0.size g2
      clear g2 k0 hb0
      go_wp2_with (first | (refine wpList_blds0 rfl rfl ?_) | (refine wpList_sts rfl rfl _ _ rfl w.heap.size sz rfl rfl sz_size sz_one sz sz_size (by with_reducible exact x0) ?_))
      refine bodyPost_ret (v := .tuple #[.agg sz, .int .i64 50]) ?_ rfl ⟨rfl, bel_row b0 (Nat.le_refl _) _⟩
      exact results_s rfl _ _ w.heap.size sz _ rfl rfl (x0.row sz) sz_size
  · rw [if_pos e0]
    have k0 := fun w => new_bad a0 n0 c0 w e0 h0
    unfold maxLen at h0 h1 h2 h3
    clear e0 hn
    go_enter Tryz.func16, Tryz.ntmps16
    go_wp2_with (refine wpList_als rfl rfl ?_)
    refine (k0 _).mono ?_
    rintro e w1 ⟨rfl, g2⟩
    have x0 := x0.kept g2
    have b0 := bel_bel b0 b0.size g2
    clear g2 k0 hb0
    go_wp2_with (first | (refine wpList_blds0 rfl rfl ?_) | (refine wpList_sts rfl rfl _ _ rfl w.heap.size sz rfl rfl sz_size sz_one sz sz_size (by with_reducible exact x0) ?_))
    refine bodyPost_ret (v := .tuple #[.agg sz, .int .i64 40]) ?_ rfl ⟨rfl, bel_row b0 (Nat.le_refl _) _⟩
    exact results_s rfl _ _ w.heap.size sz _ rfl rfl (x0.row sz) sz_size

set_option maxHeartbeats 1000000 in
theorem ready_ (a0 a1 a2 a3 : Option Addr) (c0 c1 n2 c2 n3 c3 : Nat) (key nz : List Nat) (w : World) (hb0 : Bs w a0 32 (ic key)) (hb1 : Bs w a1 12 (ic nz)) (hn2 : n2 ≤ 65536) (hn3 : n3 ≤ 65536) :
    Calls Tryz.prog 16 #[.slice a0 32 c0, .slice a1 12 c1, .slice a2 n2 c2, .slice a3 n3 c3] w fun e w' => ∃ gc, e = .returned (.tuple #[.agg (sv gc (fb nz)), .int .i64 0]) ∧ w.heap.size ≤ gc ∧ Cp w' gc (kf key) ∧ Below w.heap.size w w' := by
  have x0 : Sx (w.alloc (.cells sz 60)) w.heap.size sz := heap_alloc_new w _
  have b0 := (Below.refl w.heap.size w).alloc (Nat.le_refl _) (.cells sz 60)
  have hbk := hb0.below b0
  have k0 := fun w hb => new_ a0 32 c0 (ic key) w hb rfl
  have ek : (ic key).map Int.toNat = key := by
    unfold ic
    rw [List.map_map]
    conv => rhs; rw [← List.map_id key]
    apply List.map_congr_left
    intro z _
    rfl
  rw [ek] at k0
  obtain ⟨b, off, rfl, hr⟩ : ∃ b off, a1 = some ⟨b, off, none⟩ ∧ w.rangeAt b off (rw8 12 (fb nz)).toList := by
    rcases hb1.2.2 with h | ⟨b, off, e, hc⟩
    · omega
    · refine ⟨b, off, e, fun j v hv => ?_⟩
      have hj : j < 12 := by have := (List.getElem?_eq_some_iff.1 hv).1; rwa [rw8_len] at this
      rw [Array.getElem?_toList, rw8_get _ _ j hj] at hv
      rw [hc j hj, ← hv, ic_get]
      rfl
  have hr := rng_kept hr b0
  have ar := run_arr 58 12 5 under12
  have b2 : decide ((65536 : Int) < (n2 : Int)) = false := decide_eq_false (by omega)
  have b3 : decide ((65536 : Int) < (n3 : Int)) = false := decide_eq_false (by omega)
  obtain ⟨f, Hf⟩ : ∃ f, Hid (fb nz = f) := ⟨_, rfl⟩
  rw [Hf.out] at hr ⊢
  clear hb0 hb1 ek
  go_enter Tryz.func16, Tryz.ntmps16
  go_wp2_with (refine wpList_als rfl rfl ?_)
  have hs := b0.size
  refine (k0 _ hbk).mono ?_
  rintro e w1 ⟨gc, rfl, hgc, cc, g2⟩
  have x0 := x0.kept g2
  have hr := rng_kept hr g2
  have b0 := bel_bel b0 b0.size g2
  rw [World.size_alloc] at hgc
  clear g2 k0 hbk
  go_wp2_with (first | (refine wpList_load_mid rfl _ _ rfl b off rfl (rw8 12 f).toList _ (by with_reducible exact hr) (by exact under12) rfl (by rw [rw8_len]; exact size12) ?_) | (refine wpList_blds rfl _ _ rfl gc f rfl (by rfl) ?_) | (refine wpList_sts rfl rfl _ _ rfl w.heap.size (sv gc f) rfl rfl (sv_size _ _) (sv_one _ _) sz sz_size (by with_reducible exact x0) ?_))
  refine bodyPost_ret (v := .tuple #[.agg (sv gc f), .int .i64 0]) ?_ rfl ⟨gc, rfl, by omega, cc.same (setRow_other w1 w.heap.size gc _ (by omega)), bel_row b0 (Nat.le_refl _) _⟩
  exact results_s rfl _ _ w.heap.size (sv gc f) _ rfl rfl (x0.row _) (sv_size _ _)
end Go.Proofs.YtmnmmkonkimjeaaGreatDoor
