import Derived.Test.YtnjfckijpbgagaaCodeK
import Derived.Test.YtnjfckijpbgagaaCode
import Derived.Laws.Tables
import Derived.Test.YtnjfckijpbgagaaN0
namespace Go.Proofs.Ytnjfckijpbgagaa
set_option maxRecDepth 100000
open Go.RowKit
set_option linter.unusedVariables false

/-- No sealer. -/
def sz : Array Value := (Value.pointer none :: (rw8 12 fun _ => 0).toList).toArray
theorem sz_size : sz.size = 13 := by simp [sz, rw8_size]
theorem sz_one : sz.all (·.oneCell') = true := by simp [sz, rw8, Value.oneCell']
theorem zeros13 : (Try.prog.info? 93).map (·.zero) = some (some (.agg sz)) := by kernel_rfl
theorem builts0 : Try.prog.built 93 [] = some sz := by kernel_rfl
theorem builts2 (gc : Nat) (f : Nat → Nat) : Try.prog.built 93 [(0, .pointer (some ⟨gc, 0, none⟩)), (1, .agg (rw8 12 f))] = some (sv gc f) := by kernel_rfl
theorem wpList_als {ops : Array Oper} {rest : List Oper} {o : Oper} {a : Act} {w : World} {Q : Exit → Act → World → Prop} (hgd : o.guard = none) (ho : o.op = .alloc 93)
    (h : wpList Try.prog ops Q rest (a.put o.dst (.pointer (some ⟨w.heap.size, 0, none⟩))) (w.alloc (.cells sz 93))) : wpList Try.prog ops Q (o :: rest) a w :=
  wpList_plain hgd fun K hK => by
    obtain ⟨i, hi, hs⟩ := Option.map_eq_some_iff.1 zeros13
    have hz' : (zeroValue 93).run Try.prog w = .ok (.agg sz) w := by simp [zeroValue, typeInfo, hi, hs]
    unfold Oper.wp
    have e : (execOp a.eval o).run Try.prog w = .ok (.value (.pointer (some ⟨w.heap.size, 0, none⟩))) (w.alloc (.cells sz 93)) := by
      unfold execOp
      simp only [ho, Instr.alloc, hz', Sem.run_bind, Sem.run_pure, Result.andThen_ok, newVar, newRow, run_newObj_alloc, Value.cells]
    rw [e]
    exact hK _ _ h
theorem wpList_blds0 {ops : Array Oper} {rest : List Oper} {o : Oper} {a : Act} {w : World} {Q : Exit → Act → World → Prop} (hgd : o.guard = none) (ho : o.op = .build 93 #[])
    (h : wpList Try.prog ops Q rest (a.put o.dst (.agg sz)) w) : wpList Try.prog ops Q (o :: rest) a w := by
  have e : ((#[] : Array (Nat × Operand)).map fun (i, x) => (i, a.eval x)).toList = [] := by simp
  exact wpList_build hgd 93 #[] ho (by rw [e, builts0]; rfl) (by rw [e, builts0]; exact h)
theorem wpList_blds {ops : Array Oper} {rest : List Oper} {o : Oper} {a : Act} {w : World} {Q : Exit → Act → World → Prop} (hgd : o.guard = none) (x y : Operand) (ho : o.op = .build 93 #[(0, x), (1, y)]) (gc : Nat) (f : Nat → Nat) (hx : a.eval x = .pointer (some ⟨gc, 0, none⟩)) (hy : a.eval y = .agg (rw8 12 f))
    (h : wpList Try.prog ops Q rest (a.put o.dst (.agg (sv gc f))) w) : wpList Try.prog ops Q (o :: rest) a w := by
  have e : ((#[(0, x), (1, y)] : Array (Nat × Operand)).map fun (i, x) => (i, a.eval x)).toList = [(0, .pointer (some ⟨gc, 0, none⟩)), (1, .agg (rw8 12 f))] := by simp [hx, hy]
  exact wpList_build hgd 93 #[(0, x), (1, y)] ho (by rw [e, builts2]; rfl) (by rw [e, builts2]; exact h)
def Sx (w : World) (g : Nat) (vs : Array Value) : Prop := w.heap[g]? = some (.cells vs 93 (0, 0))
theorem Sx.kept {w w' : World} {g : Nat} {vs : Array Value} (h : Sx w g vs) (hb : Below w.heap.size w w') : Sx w' g vs := by
  have := (Array.getElem?_eq_some_iff.1 h).1
  unfold Sx at *; rw [hb.block g this]; exact h
theorem wpList_sts {ops : Array Oper} {rest : List Oper} {o : Oper} {a : Act} {w : World} {Q : Exit → Act → World → Prop} (hgd : o.guard = none) (hdst : o.dst = none) (x y : Operand) (ho : o.op = .store 93 x y)
    (g : Nat) (vs : Array Value) (hx : a.eval x = .pointer (some ⟨g, 0, none⟩)) (hy : a.eval y = .agg vs) (hs : vs.size = 13) (h1 : vs.all (·.oneCell') = true) (old : Array Value) (ho' : old.size = 13) (hg : Sx w g old)
    (h : wpList Try.prog ops Q rest a (w.setRow g vs)) : wpList Try.prog ops Q (o :: rest) a w := by
  refine wpList_store_row hgd _ x y ho g vs hx hy _ old hg (by rw [hs]; exact sizes) (by rw [ho', hs]) h1 ?_
  rw [hdst]
  exact h
theorem results_s {fn : Func} {p u : Tmp} (h : fn.results = #[.cell p 93, .tmp u]) (tmps : Array Value) (w : World) (g : Nat) (vs : Array Value) (v : Value)
    (hp : tmps.getD p undef = .pointer (some ⟨g, 0, none⟩)) (hv : tmps.getD u undef = v) (hg : Sx w g vs) (hs : vs.size = 13) : (results fn tmps).run Try.prog w = .ok (.tuple #[.agg vs, v]) w := by
  obtain ⟨d, hu, hd⟩ := Option.map_eq_some_iff.1 unders
  exact results_row2 h tmps w g _ vs (0, 0) d v hp hv hg hu hd (by rw [hs]; exact sizes)
theorem Sx.row {w : World} {g : Nat} {old : Array Value} (h : Sx w g old) (vs : Array Value) : Sx (w.setRow g vs) g vs := setRow_heap w g _ _ _ _ h

set_option maxHeartbeats 1000000 in
theorem ready_bad (a0 a1 a2 a3 : Option Addr) (n0 c0 n1 c1 n2 c2 n3 c3 : Nat) (zs : List Int) (w : World) (hb0 : Bs w a0 n0 zs) (h0 : n0 ≤ maxLen) (h1 : n1 ≤ maxLen) (h2 : n2 ≤ maxLen) (h3 : n3 ≤ maxLen) (hn : n0 ≠ 32 ∨ n1 ≠ 12 ∨ 65536 < n2 ∨ 65536 < n3) :
    Calls Try.prog 52 #[.slice a0 n0 c0, .slice a1 n1 c1, .slice a2 n2 c2, .slice a3 n3 c3] w fun e w' => e = .returned (.tuple #[.agg sz, .int .i64 (if n0 ≠ 32 then 40 else if n1 ≠ 12 then 50 else 51)]) ∧ Below w.heap.size w w' := by
  have x0 : Sx (w.alloc (.cells sz 93)) w.heap.size sz := heap_alloc_new w _
  have b0 := (Below.refl w.heap.size w).alloc (Nat.le_refl _) (.cells sz 93)
  have hb0 := hb0.below b0
  by_cases e0 : n0 = 32
  · have k0 := fun w hb => new_ a0 n0 c0 zs w hb e0
    rw [if_neg (by omega)]
    unfold maxLen at h0 h1 h2 h3
    have H0 := hid e0
    clear e0
    by_cases e1 : n1 = 12
    · have b1 : ((n1 : Int) != 12) = false := by simp [e1]
      rw [if_neg (by omega)]
      by_cases e2 : 65536 < n2
      · have b2 : decide ((65536 : Int) < (n2 : Int)) = true := decide_eq_true (by omega)
        clear e1 e2 hn
        go_enter Try.func52, Try.ntmps52
        go_wp2_with (refine wpList_als rfl rfl ?_)
        refine (k0 _ hb0).mono ?_
        rintro e w1 ⟨gc, rfl, _, _, g2⟩
        have x0 := x0.kept g2
        have b0 := bel_bel b0 b0.size g2
        clear g2 k0 hb0
        go_wp2_with (first | (refine wpList_blds0 rfl rfl ?_) | (refine wpList_sts rfl rfl _ _ rfl w.heap.size sz rfl rfl sz_size sz_one sz sz_size (by with_reducible exact x0) ?_))
        refine bodyPost_ret (v := .tuple #[.agg sz, .int .i64 51]) ?_ rfl ⟨rfl, bel_row b0 (Nat.le_refl _) _⟩
        exact results_s rfl _ _ w.heap.size sz _ rfl rfl (x0.row sz) sz_size
      · have b2 : decide ((65536 : Int) < (n2 : Int)) = false := decide_eq_false (by omega)
        have b3 : decide ((65536 : Int) < (n3 : Int)) = true := decide_eq_true (by have := H0.out; omega)
        clear e1 e2 hn
        go_enter Try.func52, Try.ntmps52
        go_wp2_with (refine wpList_als rfl rfl ?_)
        refine (k0 _ hb0).mono ?_
        rintro e w1 ⟨gc, rfl, _, _, g2⟩
        have x0 := x0.kept g2
        have b0 := bel_bel b0 b0.size g2
        clear g2 k0 hb0
        go_wp2_with (first | (refine wpList_blds0 rfl rfl ?_) | (refine wpList_sts rfl rfl _ _ rfl w.heap.size sz rfl rfl sz_size sz_one sz sz_size (by with_reducible exact x0) ?_))
        refine bodyPost_ret (v := .tuple #[.agg sz, .int .i64 51]) ?_ rfl ⟨rfl, bel_row b0 (Nat.le_refl _) _⟩
        exact results_s rfl _ _ w.heap.size sz _ rfl rfl (x0.row sz) sz_size
    · have b1 : ((n1 : Int) != 12) = true := by simpa using fun h => e1 (by omega)
      rw [if_pos e1]
      clear e1 hn
      go_enter Try.func52, Try.ntmps52
      go_wp2_with (refine wpList_als rfl rfl ?_)
      refine (k0 _ hb0).mono ?_
      rintro e w1 ⟨gc, rfl, _, _, g2⟩
      have x0 := x0.kept g2
      have b0 := bel_bel b0 b0.size g2
      clear g2 k0 hb0
      go_wp2_with (first | (refine wpList_blds0 rfl rfl ?_) | (refine wpList_sts rfl rfl _ _ rfl w.heap.size sz rfl rfl sz_size sz_one sz sz_size (by with_reducible exact x0) ?_))
      refine bodyPost_ret (v := .tuple #[.agg sz, .int .i64 50]) ?_ rfl ⟨rfl, bel_row b0 (Nat.le_refl _) _⟩
      exact results_s rfl _ _ w.heap.size sz _ rfl rfl (x0.row sz) sz_size
  · rw [if_pos e0]
    have k0 := fun w => new_bad a0 n0 c0 w e0 h0
    unfold maxLen at h0 h1 h2 h3
    clear e0 hn
    go_enter Try.func52, Try.ntmps52
    go_wp2_with (refine wpList_als rfl rfl ?_)
    refine (k0 _).mono ?_
    rintro e w1 ⟨rfl, g2⟩
    have x0 := x0.kept g2
    have b0 := bel_bel b0 b0.size g2
    clear g2 k0 hb0
    go_wp2_with (first | (refine wpList_blds0 rfl rfl ?_) | (refine wpList_sts rfl rfl _ _ rfl w.heap.size sz rfl rfl sz_size sz_one sz sz_size (by with_reducible exact x0) ?_))
    refine bodyPost_ret (v := .tuple #[.agg sz, .int .i64 40]) ?_ rfl ⟨rfl, bel_row b0 (Nat.le_refl _) _⟩
    exact results_s rfl _ _ w.heap.size sz _ rfl rfl (x0.row sz) sz_size

set_option maxHeartbeats 1000000 in
theorem ready_ (a0 a1 a2 a3 : Option Addr) (c0 c1 n2 c2 n3 c3 : Nat) (key nz : List Nat) (w : World) (hb0 : Bs w a0 32 (ic key)) (hb1 : Bs w a1 12 (ic nz)) (hn2 : n2 ≤ 65536) (hn3 : n3 ≤ 65536) :
    Calls Try.prog 52 #[.slice a0 32 c0, .slice a1 12 c1, .slice a2 n2 c2, .slice a3 n3 c3] w fun e w' => ∃ gc, e = .returned (.tuple #[.agg (sv gc (fb nz)), .int .i64 0]) ∧ w.heap.size ≤ gc ∧ Cp w' gc (kf key) ∧ Below w.heap.size w w' := by
  have x0 : Sx (w.alloc (.cells sz 93)) w.heap.size sz := heap_alloc_new w _
  have b0 := (Below.refl w.heap.size w).alloc (Nat.le_refl _) (.cells sz 93)
  have hbk := hb0.below b0
  have k0 := fun w hb => new_ a0 32 c0 (ic key) w hb rfl
  have ek : (ic key).map Int.toNat = key := by
    unfold ic
    rw [List.map_map]
    conv => rhs; rw [← List.map_id key]
    apply List.map_congr_left
    intro z _
    rfl
  rw [ek] at k0
  obtain ⟨b, off, rfl, hr⟩ : ∃ b off, a1 = some ⟨b, off, none⟩ ∧ w.rangeAt b off (rw8 12 (fb nz)).toList := by
    rcases hb1.2.2 with h | ⟨b, off, e, hc⟩
    · omega
    · refine ⟨b, off, e, fun j v hv => ?_⟩
      have hj : j < 12 := by have := (List.getElem?_eq_some_iff.1 hv).1; rwa [rw8_len] at this
      rw [Array.getElem?_toList, rw8_get _ _ j hj] at hv
      rw [hc j hj, ← hv, ic_get]
      rfl
  have hr := rng_kept hr b0
  have ar := run_arr 91 12 5 under12
  have b2 : decide ((65536 : Int) < (n2 : Int)) = false := decide_eq_false (by omega)
  have b3 : decide ((65536 : Int) < (n3 : Int)) = false := decide_eq_false (by omega)
  obtain ⟨f, Hf⟩ : ∃ f, Hid (fb nz = f) := ⟨_, rfl⟩
  rw [Hf.out] at hr ⊢
  clear hb0 hb1 ek
  go_enter Try.func52, Try.ntmps52
  go_wp2_with (refine wpList_als rfl rfl ?_)
  have hs := b0.size
  refine (k0 _ hbk).mono ?_
  rintro e w1 ⟨gc, rfl, hgc, cc, g2⟩
  have x0 := x0.kept g2
  have hr := rng_kept hr g2
  have b0 := bel_bel b0 b0.size g2
  rw [World.size_alloc] at hgc
  clear g2 k0 hbk
  go_wp2_with (first | (refine wpList_load_mid rfl _ _ rfl b off rfl (rw8 12 f).toList _ (by with_reducible exact hr) (by exact under12) rfl (by rw [rw8_len]; exact size12) ?_) | (refine wpList_blds rfl _ _ rfl gc f rfl (by rfl) ?_) | (refine wpList_sts rfl rfl _ _ rfl w.heap.size (sv gc f) rfl rfl (sv_size _ _) (sv_one _ _) sz sz_size (by with_reducible exact x0) ?_))
  refine bodyPost_ret (v := .tuple #[.agg (sv gc f), .int .i64 0]) ?_ rfl ⟨gc, rfl, by omega, cc.same (setRow_other w1 w.heap.size gc _ (by omega)), bel_row b0 (Nat.le_refl _) _⟩
  exact results_s rfl _ _ w.heap.size (sv gc f) _ rfl rfl (x0.row _) (sv_size _ _)
end Go.Proofs.Ytnjfckijpbgagaa
namespace Go.Proofs.Ytnjfckijpbgagaa
set_option maxRecDepth 100000
open Go.RowKit
set_option linter.unusedVariables false

theorem wpList_stns {ops : Array Oper} {rest : List Oper} {o : Oper} {a : Act} {w : World} {Q : Exit → Act → World → Prop} (hgd : o.guard = none) (hdst : o.dst = none) (x y : Operand) (ho : o.op = .store 93 x y)
    (g : Nat) (vs : Array Value) (hx : a.eval x = .pointer (some ⟨g, 0, none⟩)) (hy : a.eval y = .agg vs) (hs : vs.size = 13) (h1 : vs.all (·.oneCell') = true) (hg : w.heap.size = g)
    (h : wpList Try.prog ops Q rest a (w.alloc (.cells vs 93))) : wpList Try.prog ops Q (o :: rest) a (w.alloc (.cells sz 93)) := by
  subst hg
  refine wpList_sts hgd hdst x y ho w.heap.size vs hx hy hs h1 sz sz_size (heap_alloc_new w _) ?_
  rw [World.setRow_alloc_new]
  exact h
theorem Ob.le {w : World} {B B' g p cap : Nat} {xs : List Nat} (h : Ob w B g p cap xs) (hB : B' ≤ B) : Ob w B' g p cap xs := own_le h hB
theorem Ob.bs {w : World} {B g p cap : Nat} {xs : List Nat} (h : Ob w B g p cap xs) (hy : ∀ x ∈ xs, x < 256) : Bs w (some ⟨g, 0, none⟩) p (ic xs) := by
  obtain ⟨a, c, e, hb, _⟩ := own_form h (ic_bytes hy)
  simp at e
  obtain ⟨rfl, rfl⟩ := e
  exact hb

set_option maxHeartbeats 1000000 in
theorem seal_bad (a0 a1 a2 a3 : Option Addr) (n0 c0 n1 c1 n2 c2 n3 c3 : Nat) (zs : List Int) (w : World) (hb0 : Bs w a0 n0 zs) (h0 : n0 ≤ maxLen) (h1 : n1 ≤ maxLen) (h2 : n2 ≤ maxLen) (h3 : n3 ≤ maxLen) (hn : n0 ≠ 32 ∨ n1 ≠ 12 ∨ 65536 < n2 ∨ 65536 < n3) :
    Calls Try.prog 27 #[.slice a0 n0 c0, .slice a1 n1 c1, .slice a2 n2 c2, .slice a3 n3 c3] w fun e w' => (∃ a cap, e = .returned (.tuple #[.slice a 0 cap, .int .i64 (if n0 ≠ 32 then 40 else if n1 ≠ 12 then 50 else 51)])) ∧ Below w.heap.size w w' := by
  have k0 := fun w hb => ready_bad a0 a1 a2 a3 n0 c0 n1 c1 n2 c2 n3 c3 zs w hb h0 h1 h2 h3 hn
  obtain ⟨q, Hq, hq⟩ : ∃ q : Int, Hid ((if n0 ≠ 32 then (40 : Int) else if n1 ≠ 12 then 50 else 51) = q) ∧ (q != 0) = true := by
    refine ⟨_, rfl, ?_⟩
    split
    · rfl
    · split <;> rfl
  simp only [Hq.out] at k0
  rw [Hq.out]
  clear hn
  unfold maxLen at h0 h1 h2 h3
  go_enter Try.func27, Try.ntmps27
  go_wp2_with fail
  refine (k0 _ hb0).mono ?_
  rintro e w1 ⟨rfl, b0⟩
  have b0 := b0.alloc b0.size (.cells sz 93)
  clear k0 hb0
  go_wp2_with (first | (refine wpList_als rfl rfl ?_) | (refine wpList_stns rfl rfl _ _ rfl _ sz rfl rfl sz_size sz_one rfl ?_))
  go_ret2
  exact ⟨⟨_, _, rfl⟩, b0⟩

set_option maxHeartbeats 2000000 in
theorem seal_own (a0 a1 a2 a3 : Option Addr) (c0 c1 n2 c2 n3 c3 : Nat) (key nz ad t : List Nat) (w : World) (hb0 : Bs w a0 32 (ic key)) (hb1 : Bs w a1 12 (ic nz)) (hb2 : Bs w a2 n2 (ic ad)) (hb3 : Bs w a3 n3 (ic t)) (hy0 : ∀ x ∈ key, x < 256) (hy1 : ∀ x ∈ nz, x < 256) (hy2 : ∀ x ∈ ad, x < 256) (hy3 : ∀ x ∈ t, x < 256) (hn2 : n2 ≤ 65536) (hn3 : n3 ≤ 65536) (hc2 : n2 ≤ c2) (hm2 : c2 ≤ maxLen) (hc3 : n3 ≤ c3) (hm3 : c3 ≤ maxLen) :
    Calls Try.prog 27 #[.slice a0 32 c0, .slice a1 12 c1, .slice a2 n2 c2, .slice a3 n3 c3] w fun e w' => ∃ g, e = .returned (.tuple #[.slice (some ⟨g, 0, none⟩) (n3 + 16) (n3 + 16), .int .i64 0]) ∧ Ob w' w.heap.size g (n3 + 16) (n3 + 16) (sl (kf key) nz ad t) ∧ Below w.heap.size w w' := by
  have HK : Hid (∀ j, kf key j < 256) := kf_lt hy0
  have k0 := fun w hb0 hb1 => ready_ a0 a1 a2 a3 c0 c1 n2 c2 n3 c3 key nz w hb0 hb1 hn2 hn3
  have hl1 : nz.length = 12 := by have := hb1.1; rwa [ic_length] at this
  have hl3 : t.length = n3 := by have := hb3.1; rwa [ic_length] at this
  generalize kf key = k at *
  have HCY := hid (st_lt (k := k) (nz := nz) HK.out hy1 hy3)
  have kh := fun gc w cc hb => hide_ gc k nz a3 n3 c3 t w cc HK.out hl1 hy1 hb hc3 hm3 hy3 hn3
  have kt := fun gc g w cc hb2 hb3 => tag5_ gc k nz a2 n2 c2 ad (some ⟨g, 0, none⟩) n3 (n3 + 16) (st k nz t) w cc HK.out hl1 hy1 hb2 hc2 hm2 hy2 hb3 (by omega) (by unfold maxLen; omega) HCY.out hn2 hn3
  have HTG : Hid (∀ i, i < 16 → tg k nz ad (st k nz t) (0 + i) = (tl k nz ad (st k nz t)).getD i 0) := fun i hi => by rw [Nat.zero_add, tl_get _ _ _ _ i hi]
  have HTL : Hid ((tl k nz ad (st k nz t)).length = 16) := tl_length _ _ _ _
  have HTY := hid (tl_lt (k := k) (nz := nz) HK.out hy1 ad (st k nz t))
  have HSL : Hid (st k nz t ++ tl k nz ad (st k nz t) = sl k nz ad t) := rfl
  obtain ⟨S, HS⟩ : ∃ S, Hid (sl k nz ad t = S) := ⟨_, rfl⟩
  rw [HS.out] at HSL ⊢
  obtain ⟨f, Hf⟩ : ∃ f, Hid (fb nz = f) := ⟨_, rfl⟩
  simp only [Hf.out] at k0 kh kt
  generalize tl k nz ad (st k nz t) = L at *
  generalize tg k nz ad (st k nz t) = G at *
  generalize st k nz t = C at *
  have HB2 := hid hb2
  have HB3 := hid hb3
  unfold maxLen at hm2 hm3
  clear hb2 hb3 hl1 hl3 hy0 hy1 hy2 hy3
  go_enter Try.func27, Try.ntmps27
  go_wp2_with fail
  refine (k0 _ hb0 hb1).mono ?_
  rintro e w1 ⟨gc, rfl, hgc, cc, b0⟩
  clear k0 hb0 hb1
  have hgl := cc.lt
  have hgs := b0.size
  have s0 := Se.new w1 gc f
  have cc := cc.alloc (.cells (sv gc f) 93)
  have b0 := b0.alloc b0.size (.cells (sv gc f) 93)
  go_wp2_with (first | (refine wpList_als rfl rfl ?_) | (refine wpList_stns rfl rfl _ _ rfl _ (sv gc f) rfl rfl (sv_size _ _) (sv_one _ _) rfl ?_) | (refine wpList_lds rfl _ rfl _ rfl gc f (by with_reducible exact s0) ?_))
  generalize w1.heap.size = gs at *
  generalize w1.alloc (.cells (sv gc f) 93) = w2 at *
  have hs2 := b0.size
  refine (kh gc _ cc (HB3.out.below b0)).mono ?_
  rintro e w3 ⟨g, rfl, o0, g2⟩
  have s0 := s0.kept g2
  have cc := cc.kept g2
  have b0 := bel_bel b0 b0.size g2
  have o0 := o0.le hs2
  clear g2 kh
  go_wp2_with (refine wpList_lds rfl _ rfl _ rfl gc f (by with_reducible exact s0) ?_)
  refine (kt gc g _ cc (HB2.out.below b0) (o0.bs HCY.out)).mono ?_
  rintro e w4 ⟨rfl, g2⟩
  have o0 := o0.kept g2
  have b0 := bel_bel b0 b0.size g2
  have hgo := o0.blk.1
  have hgt := o0.lt
  clear g2 kt s0 cc
  have o0 := o0.alloc (.cells (rw8 16 G) 96)
  have a3r := Rw.new w4 96 16 G
  have b0 := b0.alloc b0.size (.cells (rw8 16 G) 96)
  have L1 := (a3r.bs 0 16 L (by omega) HTL.out HTY.out HTG.out).src1 (grown_self _ none)
  have L2 : (cells (ic L)).length = 16 * 1 := by rw [cells_length, ic_length, HTL.out]
  have L3 := cells_one (ic L)
  obtain ⟨ps, Hps⟩ : ∃ ps, Hid (cells (ic L) = ps) := ⟨_, rfl⟩
  rw [Hps.out] at L1 L2 L3
  have HL1 := hid L1
  have HL2 := hid L2
  have HL3 := hid L3
  have HO0 := hid o0
  clear L1 L2 L3 o0 a3r
  obtain ⟨i, hi, hz0, hz1, hz2⟩ := info_parts info5
  have hP : n3 + 16 ≤ n3 + 16 := Nat.le_refl _
  go_wp2_with (first | (refine wpList_al rfl _ rfl 16 (by exact zeroa) ?_) | (refine wpList_stnr rfl rfl _ _ rfl _ _ G rfl rfl rfl (by simp [rw8_size]) ?_) | (at_builtin; refine wpList_append_fits _ rfl _ _ 22 rfl w.heap.size 5 i 1 Try.underlying22 hi hz1 g n3 (n3 + 16) _ rfl HO0.out ⟨w4.heap.size, 0, none⟩ 16 16 ps rfl HL2.out HL1.out HL3.out hP ?_; intro w6 hown hg; have b0 := bel_grown b0 b0.size hgo hg; clear hg hi hz0 hz1 hz2))
  have o1 : Ob w6 w.heap.size g (n3 + 16) (n3 + 16) S := by
    rw [← Hps.out, ← cells_append, ← ic_append, HSL.out] at hown
    exact hown
  go_ret2
  exact ⟨g, rfl, o1, b0⟩

theorem seal_ (a0 a1 a2 a3 : Option Addr) (c0 c1 n2 c2 n3 c3 : Nat) (key nz ad t : List Nat) (w : World) (hb0 : Bs w a0 32 (ic key)) (hb1 : Bs w a1 12 (ic nz)) (hb2 : Bs w a2 n2 (ic ad)) (hb3 : Bs w a3 n3 (ic t)) (hy0 : ∀ x ∈ key, x < 256) (hy1 : ∀ x ∈ nz, x < 256) (hy2 : ∀ x ∈ ad, x < 256) (hy3 : ∀ x ∈ t, x < 256) (hn2 : n2 ≤ 65536) (hn3 : n3 ≤ 65536) (hc2 : n2 ≤ c2) (hm2 : c2 ≤ maxLen) (hc3 : n3 ≤ c3) (hm3 : c3 ≤ maxLen) :
    Calls Try.prog 27 #[.slice a0 32 c0, .slice a1 12 c1, .slice a2 n2 c2, .slice a3 n3 c3] w fun e w' => ∃ a cap, e = .returned (.tuple #[.slice a (n3 + 16 : Nat) cap, .int .i64 0]) ∧ Bs w' a (n3 + 16) (ic (sl (kf key) nz ad t)) ∧ n3 + 16 ≤ cap ∧ cap ≤ maxLen ∧ Below w.heap.size w w' := by
  refine (seal_own a0 a1 a2 a3 c0 c1 n2 c2 n3 c3 key nz ad t w hb0 hb1 hb2 hb3 hy0 hy1 hy2 hy3 hn2 hn3 hc2 hm2 hc3 hm3).mono ?_
  rintro e w' ⟨g, rfl, o0, b0⟩
  exact ⟨_, _, rfl, o0.bs (sl_lt (kf_lt hy0) hy1 hy3), Nat.le_refl _, by unfold maxLen; omega, b0⟩
end Go.Proofs.Ytnjfckijpbgagaa
