import Derived.RangeFuncNested
import Derived.RangeFuncBound
import Derived.RangeFuncCalls
import Derived.RangeFuncLeaves
import Derived.Shelf.Abstract
import Derived.Shelf.RegionOpen
import Derived.WalkKit
import Derived.OwnWalkIn
import Derived.TacticsInMore
import Derived.LoopNIn
import Derived.LoopIn
import Derived.Test.YtblcpdffiafgnaaGreatDoorD9
namespace Go.Proofs.YtblcpdffiafgnaaGreatDoor
set_option maxRecDepth 100000
open Go.RowKit Go.Shelf
set_option linter.unusedVariables false
attribute [local go_sem] Oper.semAt_some

theorem with_act {F : Fence} {n : Nat} {P : Program} {c : Code} {Q : Exit → Act → World → Prop} {a : Act} {w : World} (h : ∀ A, A = a → c.wpIn F n P Q A w) : c.wpIn F n P Q a w := h a rfl
instance : Inhabited It := ⟨⟨0, 0, 0, []⟩⟩
/-- What has come when m are left, from behind. -/
def dlP (I : List It) (m : Nat) : List (Int × It) := ((List.range I.length).drop m).reverse.map fun (j : Nat) => ((j : Int), I.getD j default)
theorem dl_step (I : List It) (m : Nat) (h : m < I.length) : dlP I m = dlP I (m + 1) ++ [((m : Int), I.getD m default)] := by
  unfold dlP
  rw [List.drop_eq_getElem_cons (by simpa using h)]
  simp
theorem dl_top (I : List It) : dlP I I.length = [] := by
  unfold dlP
  rw [List.drop_of_length_le (by simp)]
  rfl
theorem dlP_length (I : List It) (m : Nat) : (dlP I m).length = I.length - m := by simp [dlP]
theorem dl_mem {I : List It} {m : Nat} {y : Int × It} (h : y ∈ dlP I m) : y.2 ∈ I := by
  unfold dlP at h
  obtain ⟨j, hj, rfl⟩ := List.mem_map.1 h
  have := List.mem_of_mem_drop (List.mem_reverse.1 hj)
  have hl : j < I.length := by simpa using this
  simp [List.getD, hl]
theorem dl_all {I : List It} {m : Nat} {j : Nat} {x : It} (hm : m ≤ j) (hx : I[j]? = some x) : ((j : Int), x) ∈ dlP I m := by
  have hl : j < I.length := (List.getElem?_eq_some_iff.1 hx).1
  unfold dlP
  refine List.mem_map.2 ⟨j, List.mem_reverse.2 ?_, by simp [List.getD, hx]⟩
  refine List.mem_of_getElem? (i := j - m) ?_
  rw [List.getElem?_drop, show m + (j - m) = j from by omega]
  simp [hl]
set_option maxHeartbeats 2000000 in
theorem back1_in (n : Nat) (hn : 1 ≤ n) (lp Bc n₀ gp pc : Nat) (I : List It) (hl : I.length ≤ 1000000) (hI : 0 < I.length) (hb : gp < n₀) (hbc : Bc < n₀) (J Jx : List (Int × It) → World → Prop)
    (hY : ∀ pre x W, J pre W → pre.length < I.length → YieldAt Fence.wide (n - 1) Tryz.prog lp #[.int .i64 x.1, .agg #[.int .i64 x.2.S, .slice (some ⟨x.2.g, 0, none⟩) 512 x.2.c]] W fun e W' =>
      (e = .returned (.bool true) ∧ J (pre ++ [x]) W' ∧ Below n₀ W W') ∨ (e = .returned (.bool false) ∧ Jx (pre ++ [x]) W'))
    (W : World) (hBc : W.cell? ⟨Bc, 0, none⟩ = some (.slice (some ⟨gp, 0, none⟩) I.length pc)) (hc : ∀ j x, I[j]? = some x → W.cell? ⟨gp, j * 2, none⟩ = some (.int .i64 x.S) ∧ W.cell? ⟨gp, j * 2 + 1, none⟩ = some (.slice (some ⟨x.g, 0, none⟩) 512 x.c)) (h0 : J [] W) :
    CallsIn Fence.wide n Tryz.prog 127 #[.func (.yield lp) #[] #[], .pointer (some ⟨Bc, 0, none⟩)] W fun e W' => (∃ v, e = .returned v) ∧
      ((∃ ys, ys = dlP I 0 ∧ J ys W') ∨ (∃ pre, (∃ m, m ≤ I.length ∧ pre = dlP I m) ∧ Jx pre W')) := by
  have HC := hid hc
  clear hc
  refine callsIn_of_wp Tryz.func127 rfl trivial ?_ rfl
  simp only [Tryz.ntmps127, List.size_toArray, List.length_cons, List.length_nil, Nat.reduceAdd, Nat.reduceSub, Array.replicate_succ, Array.replicate_zero, List.push_toArray, List.append_toArray, List.nil_append, List.cons_append]
  gi_wp2
  gi_loopw [3] (fun i wr => ∃ m : Nat, m ≤ I.length ∧ i = .int .i64 ((m : Int) - 1) ∧ J (dlP I m) wr ∧ Below n₀ W wr) (fun i _ => (intOf i + 1).toNat)
  case atStart => exact ⟨I.length, Nat.le_refl _, rfl, by rw [dl_top]; exact h0, Below.refl _ _⟩
  case round =>
    obtain ⟨m, hm, rfl, hJs, hnx⟩ := hrel
    cases m with
    | zero =>
      gi_wp2
      go_end0
      exact ⟨⟨_, rfl⟩, .inl ⟨_, rfl, hJs⟩⟩
    | succ m =>
      have em : (((m + 1 : Nat) : Int) - 1) = (m : Int) := by omega
      rw [em]
      have hx : I[m]? = some (I.getD m default) := by simp [List.getD, show m < I.length from by omega]
      have c0 := (hnx.cell (p := ⟨gp, m * 2, none⟩) hb).trans (HC.out m _ hx).1
      have c1 := (hnx.cell (p := ⟨gp, m * 2 + 1, none⟩) hb).trans (HC.out m _ hx).2
      have cb := (hnx.cell (p := ⟨Bc, 0, none⟩) hbc).trans hBc
      have HST := hid (dl_step I m (by omega))
      generalize I.getD m default = x at *
      obtain ⟨fn, tmps, assign, body, hy, hR⟩ := hY _ ((m : Int), x) wr hJs (by rw [dlP_length]; omega)
      dsimp only at hy
      have hmI : (m : Int) < (I.length : Int) := by omega
      have hm0 : ¬ (m : Int) < 0 := by omega
      clear hx em
      gi_wp2
      refine hR.mono ?_
      rintro e W3 (⟨rfl, hJ3, hk3⟩ | ⟨rfl, hJx3⟩)
      · clear hR hy
        gi_wp2
        go_roundw
        case rel => exact ⟨m, by omega, rfl, by rw [HST.out]; exact hJ3, hnx.trans hk3⟩
        case measure => simp [intOf]
      · clear hR hy
        gi_wp2
        refine bodyPost_ret (results_none rfl _ _ _) rfl ?_
        exact ⟨⟨_, rfl⟩, .inr ⟨_, ⟨m, by omega, HST.out.symm⟩, hJx3⟩⟩
set_option maxHeartbeats 1000000 in
theorem back1_nil (n : Nat) (lp Bc : Nat) (a : Option Addr) (c : Nat) (J : List (Int × It) → World → Prop) (W : World) (hBc : W.cell? ⟨Bc, 0, none⟩ = some (.slice a 0 c)) (h0 : J [] W) :
    CallsIn Fence.wide n Tryz.prog 127 #[.func (.yield lp) #[] #[], .pointer (some ⟨Bc, 0, none⟩)] W fun e W' => (∃ v, e = .returned v) ∧ J [] W' := by
  refine callsIn_of_wp Tryz.func127 rfl trivial ?_ rfl
  simp only [Tryz.ntmps127, List.size_toArray, List.length_cons, List.length_nil, Nat.reduceAdd, Nat.reduceSub, Array.replicate_succ, Array.replicate_zero, List.push_toArray, List.append_toArray, List.nil_append, List.cons_append]
  gi_wp2
  gi_loopw [3] (fun i wr => i = .int .i64 (-1) ∧ J [] wr) (fun _ _ => 0)
  case atStart => exact ⟨rfl, h0⟩
  case round =>
    obtain ⟨rfl, hJs⟩ := hrel
    gi_wp2
    go_end0
    exact ⟨⟨_, rfl⟩, hJs⟩
theorem backward_ (a : Option Addr) (n c : Nat) (w : World) :
    Calls Tryz.prog 108 #[.slice a n c] w fun e w' => e = .returned (.func (.func 127) #[] #[.pointer (some ⟨w.heap.size, 0, none⟩)]) ∧ w' = w.alloc (.cells #[.slice a n c] 78) := by
  have hmf : ∀ fn first cap w, (Instr.makeFunc fn first cap).run Tryz.prog w = .ok (.func fn first cap) w := fun _ _ _ _ => rfl
  go_enter Tryz.func108, Tryz.ntmps108
  go_wp2_with fail
  go_ret
  exact ⟨rfl, rfl⟩
/-- A write in a variable. -/
def Pd (W : World) (B : Nat) (x : It) : Prop := W.heap[B]? = some (.cells #[.int .i64 x.S, .slice (some ⟨x.g, 0, none⟩) 512 x.c] 95 (0, 0))
theorem Pd.c0 {W : World} {B : Nat} {x : It} (h : Pd W B x) : W.cell? ⟨B, 0, none⟩ = some (.int .i64 x.S) := (cell_of_row _ _ 0 _ _ (0, 0) h).trans rfl
theorem Pd.c1 {W : World} {B : Nat} {x : It} (h : Pd W B x) : W.cell? ⟨B, 1, none⟩ = some (.slice (some ⟨x.g, 0, none⟩) 512 x.c) := (cell_of_row _ _ 1 _ _ (0, 0) h).trans rfl
theorem Pd.own {B g : Nat} {X Y : World} {row : Option Nat} {x : It} (h : Pd X g x) (hg : X.grownBy Y row) (hr : ∀ r, row = some r → B ≤ r ∧ ∃ o : Obj, X.heap[r]? = some o ∧ o.isCells = false) : Pd Y g x :=
  (hg.block g (Array.getElem?_eq_some_iff.1 h).1 (fun e => by
    obtain ⟨_, o, ho, hc⟩ := hr g e.symm
    unfold Pd at h
    rw [h] at ho
    cases ho
    cases hc)).trans h
theorem lat_none {S : Nat → List Int} {I : List It} {i : Nat} (h : ∀ z ∈ dlP I 0, z.2.S ≠ i) : layA S (I.map fun x => (x.S, x.Z)) i = S i := by
  refine layA_none S i _ (fun p hp => ?_)
  obtain ⟨x, hx, rfl⟩ := List.mem_map.1 hp
  obtain ⟨j, hj, rfl⟩ := List.getElem_of_mem hx
  exact h _ (dl_all (m := 0) (Nat.zero_le _) (List.getElem?_eq_getElem hj))
theorem lat_some {S : Nat → List Int} {I : List It} {i m : Nat} {pre : List (Int × It)} {z : Int × It} (hm : m ≤ I.length) (e : pre ++ [z] = dlP I m) (h : ∀ y ∈ pre, y.2.S ≠ i) (hz : z.2.S = i) : z.2 ∈ I ∧ layA S (I.map fun x => (x.S, x.Z)) i = z.2.Z := by
  have hlt : m < I.length := by
    have := congrArg List.length e
    rw [dlP_length, List.length_append] at this
    simp at this
    omega
  rw [dl_step I m hlt] at e
  obtain ⟨e1, e2⟩ := List.append_inj' e rfl
  have ez : z = ((m : Int), I.getD m default) := by simpa using e2
  have hx : I.getD m default = I[m] := by simp [List.getD, hlt]
  have hsp : I = I.take m ++ [I[m]] ++ I.drop (m + 1) := by
    rw [List.append_assoc, List.singleton_append, ← List.drop_eq_getElem_cons hlt, List.take_append_drop]
  have ez2 : z.2 = I[m] := by rw [ez]; exact hx
  refine ⟨by rw [ez2]; exact List.getElem_mem hlt, ?_⟩
  rw [ez2]
  have hS : I[m].S = i := by rw [← ez2]; exact hz
  have key : I.map (fun x => (x.S, x.Z)) = (I.take m).map (fun x => (x.S, x.Z)) ++ [(I[m].S, I[m].Z)] ++ (I.drop (m + 1)).map (fun x => (x.S, x.Z)) := by
    have := congrArg (List.map fun x : It => (x.S, x.Z)) hsp
    rw [List.map_append, List.map_append] at this
    exact this
  rw [key]
  refine layA_last S i _ _ _ hS (fun q hq => ?_)
  obtain ⟨y, hy, rfl⟩ := List.mem_map.1 hq
  obtain ⟨j, hj⟩ := List.getElem?_of_mem hy
  rw [List.getElem?_drop] at hj
  have := dl_all (I := I) (m := m + 1) (j := m + 1 + j) (by omega) hj
  rw [← e1] at this
  exact h _ this
set_option maxHeartbeats 4000000 in
theorem latest_ (d i : Nat) (s : St) (Q : Nat → Prop) (w : World) (h : Dev w d s Q) (hp : s.P.length ≤ 1000000) (hi : i < s.n) :
    Calls Tryz.prog 83 #[.pointer (some ⟨d, 0, none⟩), .int .i64 i] w fun e w' => ∃ ad c, e = .returned (.slice (some ad) 512 c) ∧ Bs w' (some ad) 512 (layA s.S s.P i) ∧ Below w.heap.size w w' := by
  obtain ⟨gl, pa, pn, pc, go, a, m, cp, fs, I, h⟩ := h
  have hI : I.length ≤ 1000000 := by have := hp; rw [h.ip, List.length_map] at this; exact this
  have hpn : pn = I.length := h.hpn
  subst hpn
  have hmx : Tryz.prog.follows .mixedOrders = true := by kernel_rfl
  have B0 : Below w.heap.size w ((w.alloc (.cells #[.int .i64 i] 3)).alloc (.cells #[.slice none 0 0] 27)) := ((Below.refl _ _).alloc (Nat.le_refl _) _).alloc (by simp) _
  have bI := (Boxed.new w 3 (.int .i64 i)).alloc (.cells #[.slice none 0 0] 27)
  have bR := Boxed.new (w.alloc (.cells #[.int .i64 i] 3)) 27 (.slice none 0 0)
  rw [World.size_alloc] at bR
  have H0 := h.below B0
  have m1 := H0.dm.c1
  have sz0 : ((w.alloc (.cells #[.int .i64 i] 3)).alloc (.cells #[.slice none 0 0] 27)).heap.size = w.heap.size + 2 := by simp
  have hlt := h.dm.lt
  have HH := hid h
  clear h
  refine (callsIn_wide (n := 9)).1 ?_
  refine callsIn_of_wp_marks Tryz.func83 rfl trivial ?_ rfl
  simp only [Tryz.ntmps83, List.size_toArray, List.length_cons, List.length_nil, Nat.reduceAdd, Nat.reduceSub, Array.replicate_succ, Array.replicate_zero, List.push_toArray, List.append_toArray, List.nil_append, List.cons_append]
  gi_wp2_with (refine ⟨trivial, ?_⟩; gi_at_call 108; refine (callsIn_wide.2 (backward_ _ _ _ _)).mono ?_; rintro e w2 ⟨rfl, hw2⟩)
  have K2 := H0.below ((Below.refl ((w.alloc (.cells #[.int .i64 i] 3)).alloc (.cells #[.slice none 0 0] 27)).heap.size _).alloc (Nat.le_refl _) (.cells #[.slice pa I.length pc] 78))
  have bI2 := bI.alloc (.cells #[.slice pa I.length pc] 78)
  have bR2 := bR.alloc (.cells #[.slice pa I.length pc] 78)
  have B2 := B0.alloc B0.size (.cells #[.slice pa I.length pc] 78)
  have cB : (((w.alloc (.cells #[.int .i64 i] 3)).alloc (.cells #[.slice none 0 0] 27)).alloc (.cells #[.slice pa I.length pc] 78)).cell? ⟨w.heap.size + 2, 0, none⟩ = some (.slice pa I.length pc) := by
    have := (cell_of_row _ _ 0 _ _ (0, 0) (heap_alloc_new ((w.alloc (.cells #[.int .i64 i] 3)).alloc (.cells #[.slice none 0 0] 27)) (.cells #[.slice pa I.length pc] 78)))
    rw [sz0] at this
    exact this.trans rfl
  have sz2 : (((w.alloc (.cells #[.int .i64 i] 3)).alloc (.cells #[.slice none 0 0] 27)).alloc (.cells #[.slice pa I.length pc] 78)).heap.size = w.heap.size + 3 := by rw [World.size_alloc, sz0]
  clear hw2 H0 bI bR B0 sz0 m1
  generalize ((w.alloc (.cells #[.int .i64 i] 3)).alloc (.cells #[.slice none 0 0] 27)).alloc (.cells #[.slice pa I.length pc] 78) = W2 at *
  have hseq : SeqStopsK Fence.wide 8 Tryz.prog 127 #[.pointer (some ⟨w.heap.size + 2, 0, none⟩)] (fun x : Int × It => #[Value.int .i64 x.1, .agg #[.int .i64 x.2.S, .slice (some ⟨x.2.g, 0, none⟩) 512 x.2.c]]) (Below W2.heap.size) (fun ys => ys = dlP I 0) (fun pre => ∃ m, m ≤ I.length ∧ pre = dlP I m) I.length W2 := fun lp J Jx W hW _ _ hY h0 => by
    have hc' := (hW.cell (p := ⟨w.heap.size + 2, 0, none⟩) (by show w.heap.size + 2 < _; omega)).trans cB
    by_cases hz : I.length = 0
    · rw [hz] at hc'
      refine (back1_nil 8 lp (w.heap.size + 2) pa pc J W hc' h0).mono fun e W' ⟨he, hj⟩ => ⟨he, .inl ⟨_, ?_, hj⟩⟩
      rw [← hz, dl_top]
    · have KW := K2.below hW
      obtain ⟨x0, hx0⟩ : ∃ x, I[0]? = some x := ⟨I[0], by simp [show 0 < I.length from by omega]⟩
      obtain ⟨gp, rfl, _, _, hcc, _⟩ := K2.cellI hx0
      refine back1_in 8 (by omega) lp (w.heap.size + 2) W2.heap.size gp pc I hI (by omega) (World.block_lt_of_cell? _ _ hcc) (by omega) J Jx hY W hc' (fun j x hx => ?_) h0
      obtain ⟨gp', e', _, _, q0, q1⟩ := KW.cellI hx
      obtain rfl : gp = gp' := by simpa using e'
      exact ⟨q0, q1⟩
  obtain ⟨R, HR⟩ : ∃ R, Hid (layA s.S s.P i = R) := ⟨_, rfl⟩
  have HK2 := hid K2
  have hw3 : w.heap.size + 3 ≤ W2.heap.size := by omega
  refine with_act (fun A hA => ?_)
  refine wpIn_rangeFunc_ownH rfl (by omega) (gf := 127) (lb := #[.pointer (some ⟨w.heap.size + 2, 0, none⟩)]) (by rw [hA]; rfl) trivial (enters_of Tryz.func127 (by kernel_rfl) rfl) hseq belowK_t (belowK_b (Nat.le_refl _)) (Below.refl _ _) (fun _ => rfl)
    (fun pre W => Below W2.heap.size W2 W ∧ ∀ z ∈ pre, z.2.S ≠ i)
    (fun c pre W => (∃ pre' z, pre = pre' ++ [z] ∧ c = .ret ∧ (∀ y ∈ pre', y.2.S ≠ i) ∧ z.2.S = i ∧ Boxed W (w.heap.size + 1) 27 (.slice (some ⟨z.2.g, 0, none⟩) 512 z.2.c)) ∧ Below w.heap.size w W)
    (OwnFrom.and (ownFrom_below (Nat.le_refl _) (Nat.le_refl _)) (fun _ _ _ _ hs _ _ => hs))
    (fun c => OwnFrom.and (fun s X Y row hs hg hr => by
      obtain ⟨pre', z, h1, h2, h3, h4, h5⟩ := hs
      exact ⟨pre', z, h1, h2, h3, h4, Own.from (boxed_own (w.heap.size + 1) 27 (fun _ : Unit => Value.slice (some ⟨z.2.g, 0, none⟩) 512 z.2.c)) _ () X Y row h5 hg hr⟩) (ownFrom_below (Nat.le_refl _) (by omega)))
    ⟨Below.refl _ _, fun z hz => (by cases hz)⟩
    (fun x a' W => ∃ Bx, W2.heap.size ≤ Bx ∧ Pd W Bx x.2 ∧ a' = { tmps := ((A.tmps.setIfInBounds 12 (.int .i64 x.1)).setIfInBounds 13 (.agg #[.int .i64 x.2.S, .slice (some ⟨x.2.g, 0, none⟩) 512 x.2.c])).setIfInBounds 6 (.pointer (some ⟨Bx, 0, none⟩)), defers := [] })
    (fun x a' _ X Y row hs hg hr => by obtain ⟨Bx, h1, h2, h3⟩ := hs; exact ⟨Bx, h1, h2.own hg hr, h3⟩)
    ?assign ?body ?done ?stop
  case assign =>
    subst hA
    rintro lp pre x W K ⟨hB, hall⟩ hK
    have HALL := hid hall
    clear hall
    gi_wp2
    refine hK _ _ ((KeepsOthers.alloc _ _).from _) ((Below.refl _ W).alloc hB.size _) ⟨hB.alloc hB.size _, HALL.out⟩ ⟨W.heap.size, hB.size, heap_alloc_new W _, ?_⟩
    simp only [List.setIfInBounds_toArray, List.set_cons_zero, List.set_cons_succ]
  case body =>
    subst hA
    rintro lp pre x a' W hlp _ ⟨hB, hall⟩ ⟨Bx, hBx, pd, ha⟩ hlt'
    simp only [List.setIfInBounds_toArray, List.set_cons_zero, List.set_cons_succ] at ha
    subst ha
    have c0 := pd.c0
    have c1 := pd.c1
    have bI := bI2.kept (grown_of_below hB) (fun e => by cases e)
    have bR := bR2.kept (grown_of_below hB) (fun e => by cases e)
    have cI := bI.cell
    have cR := bR.cell
    have fR := bR.frozen
    have HALL := hid hall
    clear hall pd
    by_cases hS : x.2.S = i
    · have e1 : ((x.2.S : Int) == (i : Int)) = true := by simp; omega
      gi_wp2
      exact ⟨(KeepsOthers.setCell _ _ _).from _, ⟨pre, x, rfl, rfl, HALL.out, hS, bR.set _⟩, ((B2.trans (hB.mono (by omega))).setCell (p := ⟨w.heap.size + 1, 0, none⟩) (by show w.heap.size ≤ w.heap.size + 1; omega) _)⟩
    · have e1 : ((x.2.S : Int) == (i : Int)) = false := by simp; omega
      gi_wp2
      refine ⟨KeepsFrom.refl _ _, Below.refl _ _, hB, fun y hy => ?_⟩
      rcases List.mem_append.1 hy with hy | hy
      · exact HALL.out y hy
      · rw [List.mem_singleton] at hy
        subst hy
        exact hS
  case done =>
    subst hA
    rintro D ys W hD hys ⟨hB, hall⟩ hK
    subst hys
    have HRS : Hid (R = s.S i) := by
      show _ = _
      rw [← HR.out, HK2.out.ip]
      exact lat_none hall
    have bI := bI2.kept (grown_of_below hB) (fun e => by cases e)
    have bR := bR2.kept (grown_of_below hB) (fun e => by cases e)
    have cI := bI.cell
    have cR := bR.cell
    have fR := bR.frozen
    have KW := HK2.out.below hB
    have ksec := sector_ d gl s.n i _ _ _ _ _ W KW.dm KW.n0.2 hi
    have Bw := (B2.trans (hB.mono (by omega))).setCell (p := ⟨w.heap.size + 1, 0, none⟩) (by show w.heap.size ≤ w.heap.size + 1; omega) (.slice (some ⟨gl, i * 512, none⟩) 512 (512 * s.n - i * 512))
    have hK2 := (Below.heap_setCell W ⟨w.heap.size + 1, 0, none⟩ (.slice (some ⟨gl, i * 512, none⟩) 512 (512 * s.n - i * 512)) D (by show D ≠ w.heap.size + 1; omega)).trans hK
    have b2 := (bR.set (.slice (some ⟨gl, i * 512, none⟩) 512 (512 * s.n - i * 512))).cell
    have HBs := hid (KW.ls.sec hi)
    clear hall KW
    gi_wp2_with (refine ⟨trivial, ?_⟩; gi_at_call 74; refine (callsIn_wide.2 ksec).mono ?_; rintro e w' ⟨rfl, hw⟩; obtain rfl := hw.symm; clear hw)
    refine ⟨by simp, .inl ⟨_, _, rfl, run_takeDeferred hK2, ?_⟩⟩
    have r4 := cell_kept b2 (grownBy_putObj' _ D (.deferred none)) (fun r e => by cases e; exact ⟨_, hK2, rfl⟩)
    have BF := Bw.trans (belowK_b (w := w) (Nat.le_refl _) _ D _ (.deferred none) (by omega) hK2 rfl rfl)
    refine ⟨.slice (some ⟨gl, i * 512, none⟩) 512 (512 * s.n - i * 512), ?_, ⟨_, _, rfl, ?_, BF⟩⟩
    · simp [results, Tryz.f83, go_sem, r4]
    · rw [HR.out, HRS.out]
      exact (HH.out.ls.sec hi).below BF
  case stop =>
    subst hA
    rintro D c pre W hD ⟨m', hm', hsp⟩ ⟨⟨pre', z, rfl, rfl, h3, h4, h5⟩, hB⟩ hK
    obtain ⟨hz1, hz2⟩ := lat_some (S := s.S) hm' hsp h3 h4
    rw [← HH.out.ip, HR.out] at hz2
    have HRZ := hid hz2
    have b2 := h5.cell
    clear hsp h3 h4 hz2
    gi_wp2
    refine ⟨by simp, .inl ⟨_, _, rfl, run_takeDeferred hK, ?_⟩⟩
    have r4 := cell_kept b2 (grownBy_putObj' _ D (.deferred none)) (fun r e => by cases e; exact ⟨_, hK, rfl⟩)
    have BF := hB.trans (belowK_b (w := w) (Nat.le_refl _) _ D _ (.deferred none) (by omega) hK rfl rfl)
    refine ⟨.slice (some ⟨z.2.g, 0, none⟩) 512 z.2.c, ?_, ⟨_, _, rfl, ?_, BF⟩⟩
    · simp [results, Tryz.f83, go_sem, r4]
    · rw [HR.out, HRZ.out]
      exact (HH.out.it z.2 hz1).bs.below BF
theorem own_mono {w : World} {B B' n sz : Nat} {t : TypeId} {v : Value} {xs : List Value} (h : w.ownsRow B t sz v n xs) (hb : B' ≤ B) : w.ownsRow B' t sz v n xs := by
  obtain ⟨h1, h2⟩ := h
  refine ⟨h1, ?_⟩
  rcases h2 with h2 | ⟨g, cap, cur, e, hg, r⟩
  · exact .inl h2
  · exact .inr ⟨g, cap, cur, e, Nat.le_trans hb hg, r⟩
/-- What a Read answers. -/
def rdE (s : St) (i : Int) : Int := if 0 ≤ i ∧ i < s.n then opE s else 101
def rdS (s : St) (i : Int) : St := if 0 ≤ i ∧ i < s.n then opS s else s
/-- What a Read tells. -/
def rdB (s : St) (i : Int) : List Int := if rdE s i = 0 then layA s.S s.P i.toNat else []
set_option maxHeartbeats 2000000 in
theorem dread_ (d : Nat) (i : Int) (s : St) (Q : Nat → Prop) (w : World) (h : Dev w d s Q) (hc : s.c ≤ 1000000) (hp : s.P.length ≤ 1000000) :
    Calls Tryz.prog 60 #[.pointer (some ⟨d, 0, none⟩), .int .i64 i] w fun e w' => ∃ v, e = .returned (.tuple #[v, .int .i64 (rdE s i)]) ∧ w'.ownsRow w.heap.size 5 1 v (rdB s i).length (cells (rdB s i)) ∧ Dev w' d (rdS s i) Q ∧ Fr Q w w' := by
  obtain ⟨gl, pa, pn, pc, go, a, m, cp, fs, I, h⟩ := h
  have kh := has_ d gl s.n (512 * s.n) (.slice pa pn pc) (fnv go) s.c s.on s.k i w h.dm h.n0.2
  by_cases hin : 0 ≤ i ∧ i < (s.n : Int)
  case neg =>
    have HE : Hid (rdE s i = 101) := by show _ = _; unfold rdE; rw [if_neg hin]
    have HS : Hid (rdS s i = s) := by show _ = _; unfold rdS; rw [if_neg hin]
    have HBB : Hid (rdB s i = []) := by show _ = _; unfold rdB; rw [HE.out]; rfl
    rw [show decide (0 ≤ i ∧ i < (s.n : Int)) = false from decide_eq_false hin] at kh
    rw [HE.out, HS.out, HBB.out]
    have HD := hid h
    clear h hin
    go_enter Tryz.func60, Tryz.ntmps60
    go_wp2_with (go_at_call 81; refine kh.mono ?_; rintro e w' ⟨rfl, hw⟩; obtain rfl := hw.symm; clear hw)
    go_ret2
    exact ⟨_, rfl, World.ownsRow_nil _ _ _ _, ⟨_, _, _, _, _, _, _, _, _, _, HD.out⟩, .refl _ _⟩
  case pos =>
    rw [show decide (0 ≤ i ∧ i < (s.n : Int)) = true from decide_eq_true hin] at kh
    obtain ⟨E, HE0⟩ : ∃ E, Hid (opE s = E) := ⟨_, rfl⟩
    have HE : Hid (rdE s i = E) := by show _ = _; unfold rdE; rw [if_pos hin]; exact HE0.out
    have HS : Hid (rdS s i = opS s) := by show _ = _; unfold rdS; rw [if_pos hin]
    have ko := opr_ d s Q gl pa pn pc go a m cp fs I w h hc
    rw [HE0.out] at ko
    rw [HE.out, HS.out]
    by_cases hE : E = 0
    case neg =>
      have HBB : Hid (rdB s i = []) := by show _ = _; unfold rdB; rw [HE.out, if_neg hE]
      have e1 : (E != 0) = true := by rw [bne_iff_ne]; exact hE
      rw [HBB.out]
      clear h hin hE
      go_enter Tryz.func60, Tryz.ntmps60
      go_wp2_with (first | (go_at_call 81; refine kh.mono ?_; rintro e w' ⟨rfl, hw⟩; obtain rfl := hw.symm; clear hw) | (go_at_call 82; refine ko.mono ?_; rintro e w1 ⟨rfl, h1, g1⟩))
      go_ret2
      exact ⟨_, rfl, World.ownsRow_nil _ _ _ _, ⟨_, _, _, _, _, _, _, _, _, _, h1⟩, .of g1 h1.qd⟩
    case pos =>
      subst hE
      obtain ⟨i, rfl⟩ := Int.eq_ofNat_of_zero_le hin.1
      have hin2 : i < s.n := by have := hin.2; omega
      have HBB : Hid (rdB s (i : Int) = layA s.S s.P i) := by show _ = _; unfold rdB; rw [HE.out, if_pos rfl, Int.toNat_natCast]
      rw [HBB.out]
      clear h hin
      go_enter Tryz.func60, Tryz.ntmps60
      go_wp2_with (first | (go_at_call 81; refine kh.mono ?_; rintro e w' ⟨rfl, hw⟩; obtain rfl := hw.symm; clear hw) | (go_at_call 82; refine ko.mono ?_; rintro e w1 ⟨rfl, h1, g1⟩))
      have kl := latest_ d i (opS s) Q w1 ⟨_, _, _, _, _, _, _, _, _, _, h1⟩ (by rw [opS_P]; exact hp) (by rw [opS_n]; exact hin2)
      rw [opS_P, opS_S] at kl
      have H1 := hid h1
      have G1 := hid g1
      clear h1 g1 ko kh
      refine kl.mono ?_
      rintro e w2 ⟨ad, c, rfl, hb, g2⟩
      clear kl
      have kb := bclone_ ad 512 c _ w2 hb (by decide)
      have hl := hb.1
      have H2 := hid (H1.out.below g2)
      have F2 := hid ((Fr.of (Q := Q) G1.out H1.out.qd).below g2)
      have s2 := Nat.le_trans G1.out.size g2.size
      clear hb g2 H1 G1
      go_wp2_with fail
      refine kb.mono ?_
      rintro e w3 ⟨v, rfl, o3, g3⟩
      have H3 := hid (H2.out.below g3)
      have F3 := hid (F2.out.below g3)
      have O3 := hid (own_mono o3 s2)
      clear kb o3 g3 H2 F2
      go_wp2_with fail
      go_ret2
      exact ⟨_, rfl, by rw [hl]; exact O3.out, ⟨_, _, _, _, _, _, _, _, _, _, H3.out⟩, F3.out⟩
end Go.Proofs.YtblcpdffiafgnaaGreatDoor
namespace Go.Proofs.YtblcpdffiafgnaaGreatDoor
set_option maxRecDepth 100000
open Go.RowKit Go.Shelf
set_option linter.unusedVariables false

section
variable {w w' : World} {d : Nat} {s : St} {Q : Nat → Prop}
theorem Dev.lt (h : Dev w d s Q) : ∀ b, Q b → b < w.heap.size := by
  obtain ⟨_, _, _, _, _, _, _, _, _, _, h⟩ := h
  exact h.lt
theorem Dev.below (h : Dev w d s Q) (hb : Below w.heap.size w w') : Dev w' d s Q := by
  obtain ⟨_, _, _, _, _, _, _, _, _, _, h⟩ := h
  exact ⟨_, _, _, _, _, _, _, _, _, _, h.below hb⟩
theorem Dev.fr {R : Nat → Prop} (h : Dev w d s Q) (hf : Fr R w w') (hq : ∀ b, Q b → ¬ R b) : Dev w' d s Q := by
  obtain ⟨_, _, _, _, _, _, _, _, _, _, h⟩ := h
  exact ⟨_, _, _, _, _, _, _, _, _, _, h.keep hf.size (fun b hb => hf.same b (h.lt b hb) (hq b hb))⟩
theorem Dev.n (h : Dev w d s Q) : 32 ≤ s.n ∧ s.n ≤ 8192 := by
  obtain ⟨_, _, _, _, _, _, _, _, _, _, h⟩ := h
  exact h.n0
theorem Dev.sec (h : Dev w d s Q) : ∀ i, i < s.n → Sc5 (s.S i) := by
  obtain ⟨_, _, _, _, _, _, _, _, _, _, h⟩ := h
  exact h.ls.2
theorem Dev.pen (h : Dev w d s Q) : ∀ p ∈ s.P, p.1 < s.n ∧ Sc5 p.2 := by
  obtain ⟨_, _, _, _, _, _, _, _, _, I, h⟩ := h
  intro p hp
  rw [h.ip] at hp
  obtain ⟨x, hx, rfl⟩ := List.mem_map.1 hp
  exact ⟨(h.it x hx).s, (h.it x hx).bs.1, (h.it x hx).bs.2.1⟩
theorem doneD (h : Dev w d s Q) : Calls Tryz.prog 24 #[.pointer (some ⟨d, 0, none⟩)] w fun e w' => e = .returned (.int .i64 s.c) ∧ w' = w := by
  obtain ⟨_, _, _, _, _, _, _, _, _, _, h⟩ := h
  exact done_ d _ _ _ _ _ _ w h.dm
theorem claimedD (h : Dev w d s Q) : Calls Tryz.prog 69 #[.pointer (some ⟨d, 0, none⟩)] w fun e w' => e = .returned (.int .i64 s.k) ∧ w' = w := by
  obtain ⟨_, _, _, _, _, _, _, _, _, _, h⟩ := h
  exact claimed_ d _ _ _ _ _ _ w h.dm
theorem sectorsD (h : Dev w d s Q) : Calls Tryz.prog 59 #[.pointer (some ⟨d, 0, none⟩)] w fun e w' => e = .returned (.int .i64 s.n) ∧ w' = w := by
  obtain ⟨_, _, _, _, _, _, _, _, _, _, h⟩ := h
  exact sectors_ d _ _ _ _ _ _ _ _ w h.dm h.n0.2
theorem claimD (h : Dev w d s Q) (hk : s.k ≤ 1000000) : Calls Tryz.prog 29 #[.pointer (some ⟨d, 0, none⟩)] w fun e w' => e = .returned (.int .i64 ((s.k + 1 : Nat) : Int)) ∧ Dev w' d { s with k := s.k + 1 } Q ∧ Fr Q w w' := by
  obtain ⟨_, _, _, _, _, _, _, _, _, _, h⟩ := h
  refine (claim_ d _ _ _ _ _ s.k w h.dm hk).mono ?_
  rintro e w' ⟨rfl, h1, h2⟩
  exact ⟨rfl, ⟨_, _, _, _, _, _, _, _, _, _, h.turn h1 h2⟩, .of h2 h.qd⟩
end
/-- Bytes that lie outside a device. -/
structure Ro (w : World) (Q : Nat → Prop) (a : Option Addr) (n : Nat) (zs : List Int) : Prop where
  bs : Bs w a n zs
  nq : ∀ ad, a = some ad → 0 < n → ¬ Q ad.block
theorem Bs.lt {w : World} {ad : Addr} {n : Nat} {zs : List Int} (h : Bs w (some ad) n zs) (hn : 0 < n) : ad.block < w.heap.size := by
  rcases h.2.2 with h0 | ⟨b, off, e, hc⟩
  · omega
  · obtain rfl := Option.some.inj e
    exact World.block_lt_of_cell? w _ (hc 0 hn)
section
variable {w w' : World} {Q : Nat → Prop} {a : Option Addr} {n : Nat} {zs : List Int}
theorem Ro.dev (h : Ro w Q a n zs) (hf : Fr Q w w') : Ro w' (fun b => Q b ∨ (w.heap.size ≤ b ∧ b < w'.heap.size)) a n zs :=
  ⟨h.bs.fr hf h.nq, fun ad ha hn hq => by
    subst ha
    rcases hq with hq | hq
    · exact h.nq ad rfl hn hq
    · have := h.bs.lt hn
      omega⟩
theorem Ro.fr (h : Ro w Q a n zs) (hf : Fr Q w w') : Ro w' Q a n zs := ⟨h.bs.fr hf h.nq, h.nq⟩
theorem Ro.below (h : Ro w Q a n zs) (hb : Below w.heap.size w w') : Ro w' Q a n zs := ⟨h.bs.below hb, h.nq⟩
/-- New bytes. -/
theorem Ro.new {v : Value} (ho : w'.ownsRow w.heap.size 5 1 v n (cells zs)) (hz : ∀ z ∈ zs, 0 ≤ z ∧ z ≤ 255) (hq : ∀ b, Q b → b < w.heap.size) : ∃ a c, v = .slice a n c ∧ Ro w' Q a n zs ∧ n ≤ c ∧ c ≤ maxLen := by
  obtain ⟨a, c, rfl, h1, h2, h3, _⟩ := own_form ho hz
  refine ⟨a, c, rfl, ⟨h1, fun ad ha hn hqq => ?_⟩, h2, h3⟩
  subst ha
  rcases ho.2 with ⟨e, h0⟩ | ⟨g, cap, cur, e, hb, _⟩
  · omega
  · simp at e
    obtain ⟨rfl, rfl⟩ := e
    have := hq _ hqq
    simp only at this
    omega
end
theorem made_zerosD (n : Nat) : (madeCells (Value.int .u8 0).cells (n * 1)).toList = cells (List.replicate n 0) := by
  simp [madeCells, cells, Value.cells, Nat.mod_one, List.map_const']
theorem own1_cell {w : World} {B n : Nat} {v : Value} {xs : List Int} (h : w.ownsRow B 5 1 v n (cells xs)) (hn : 0 < n) : ∃ g cap, v = .slice (some ⟨g, 0, none⟩) n cap ∧ B ≤ g ∧ (∃ cur, w.heap[g]? = some (.cells cur 5 (0, 0))) ∧ ∀ i, i < n → w.cell? ⟨g, i, none⟩ = some (.int .u8 (xs.getD i 0)) := by
  obtain ⟨h1, h2⟩ := h
  rw [cells_length] at h1
  rcases h2 with ⟨_, h⟩ | ⟨g, cap, cur, rfl, hb, hg, hnc, hcm, hs, ht⟩
  · omega
  · refine ⟨g, cap, rfl, hb, ⟨cur, hg⟩, fun i hi => ?_⟩
    rw [cell_of_row w g i cur _ (0, 0) hg]
    have hq := cells_get xs i (by omega)
    rw [← ht, List.getElem?_take, if_pos (by omega)] at hq
    simpa using hq
/-- A sector of one byte. -/
def ful (x : Int) : List Int := List.replicate 512 x
theorem ful_sec {x : Int} (h : 0 ≤ x ∧ x ≤ 255) : Sc5 (ful x) := ⟨List.length_replicate, fun y hy => by obtain rfl := List.eq_of_mem_replicate hy; exact h⟩
theorem ful_zero : ful 0 = zer := rfl
end Go.Proofs.YtblcpdffiafgnaaGreatDoor
namespace Go.Proofs.YtblcpdffiafgnaaGreatDoor
set_option maxRecDepth 100000
open Go.RowKit Go.Shelf
set_option linter.unusedVariables false

/-! A range over a function that writes blocks of its own between two rounds. -/
/-- What a round keeps: these blocks are as they were. -/
structure Kp12 (K : Nat → Prop) (A B : World) : Prop where
  size : A.heap.size ≤ B.heap.size
  same : ∀ b, K b → B.heap[b]? = A.heap[b]?
theorem Kp12.refl (K : Nat → Prop) (A : World) : Kp12 K A A := ⟨Nat.le_refl _, fun _ _ => rfl⟩
theorem Kp12.trans {K : Nat → Prop} {A B C : World} (h : Kp12 K A B) (k : Kp12 K B C) : Kp12 K A C := ⟨Nat.le_trans h.size k.size, fun b hb => (k.same b hb).trans (h.same b hb)⟩
theorem Kp12.put {K : Nat → Prop} {W : World} {l : Nat} {o' : Obj} (hl : ¬ K l) : Kp12 K W (W.putObj l o') :=
  ⟨(grownBy_putObj' W l o').size, fun b hb => by
    by_cases hlt : b < W.heap.size
    · exact (grownBy_putObj' W l o').block b hlt (fun e => hl (by rw [← Option.some.inj e]; exact hb))
    · exact World.putObj_heap_other (fun e => hl (e ▸ hb))⟩
/-- How a round's body may be left. -/
def post12 {α : Type} (B : Nat) (K : Nat → Prop) (I Ix : List α → World → Prop) (xs : List α) (W : World) : Exit → Act → World → Prop
  | .normal, _, W' => KeepsFrom B W W' ∧ Kp12 K W W' ∧ I xs W'
  | .ret, _, W' => KeepsFrom B W W' ∧ Kp12 K W W' ∧ Ix xs W'
  | _, _, _ => False
/-- Bookkeeping of the loop's record does not touch it. -/
def Bk12 {α : Type} (B : Nat) (I : List α → World → Prop) : Prop := ∀ pre W l o', I pre W → B ≤ l → (∃ o, W.heap[l]? = some o ∧ o.isCells = false) → I pre (W.putObj l o')
theorem wpIn_range12 {α : Type} {P : Program} {n : Nat} {g : Operand} {ps : Array Tmp} {assign body : Code} {Q : Exit → Act → World → Prop} {a : Act} {w : World} (h1 : 1 ≤ n) {gf : Nat} {lb : Array Value} (hg : a.eval g = .func (.func gf) #[] lb) (eg : ∀ args w, (callFunc gf args).run P w = .ok (.enter gf args) w)
    {encs : α → Array Value} (Px : List α → α → World → Prop) (hps : ∀ x, (encs x).size = ps.size) (R K : Nat → Prop) (hR : ∀ b, R b → b < w.heap.size) (hK : ∀ b, K b → b < w.heap.size) (Fin FinX : List α → World → Prop) (hF : Bk12 w.heap.size Fin) (hFX : Bk12 w.heap.size FinX)
    (hit : ∀ (l : Nat) (J Jx : List α → World → Prop) (W1 : World), Below w.heap.size w W1 → (∀ pre A B, J pre A → Fr R A B → J pre B) →
      (∀ pre x A, J pre A → Px pre x A → YieldAt Fence.wide (n - 1 - 1) P l (encs x) A fun e B => (e = .returned (.bool true) ∧ J (pre ++ [x]) B ∧ Kp12 K A B) ∨ (e = .returned (.bool false) ∧ Jx (pre ++ [x]) B ∧ Kp12 K A B)) → J [] W1 →
      CallsIn Fence.wide (n - 1) P gf (#[.func (.yield l) #[] #[]] ++ lb) W1 fun e W' => (∃ v, e = .returned v) ∧ ((∃ xs, J xs W' ∧ Fin xs W') ∨ (∃ pre, Jx pre W' ∧ FinX pre W')))
    (I Ix : List α → World → Prop) (hI : Bk12 w.heap.size I) (hIa : ∀ pre W o, I pre W → I pre (W.alloc o)) (hIx : Bk12 w.heap.size Ix) (hIf : ∀ pre A B, I pre A → Fr R A B → I pre B) (h0 : I [] w) (Ax : List α → α → Act → World → Prop) (hAx : ∀ pre x a' W l o', Ax pre x a' W → w.heap.size ≤ l → (∃ o, W.heap[l]? = some o ∧ o.isCells = false) → Ax pre x a' (W.putObj l o'))
    (hassign : ∀ (l : Nat) (pre : List α) (x : α) (W : World) (K' : Act → World → Prop), I pre W → Px pre x W → (∀ a' W', KeepsFrom w.heap.size W W' → Kp12 K W W' → I pre W' → Ax pre x a' W' → K' a' W') →
      assign.wpIn (Fence.wide.inRound l) (n - 1 - 1) P (Exit.then K' (fun _ _ _ => False)) { tmps := (ps.zip (encs x)).foldl (fun t (p, v) => t.setIfInBounds p v) a.tmps, defers := [] } W)
    (hbody : ∀ (l : Nat) (pre : List α) (x : α) (a' : Act) (W : World), w.heap.size ≤ l → I pre W → Ax pre x a' W → body.wpIn (Fence.wide.inRound l) (n - 1 - 1) P (post12 w.heap.size K I Ix (pre ++ [x]) W) a' W)
    (hdone : ∀ (D : Nat) (xs : List α) (W : World), w.heap.size ≤ D → I xs W → Fin xs W → W.heap[D]? = some (.deferred (some [])) → Q .normal { a with defers := { target := .collected D, args := #[] } :: a.defers } W)
    (hstop : ∀ (D : Nat) (pre : List α) (W : World), w.heap.size ≤ D → Ix pre W → FinX pre W → W.heap[D]? = some (.deferred (some [])) → Code.ret.wpIn Fence.wide n P Q { a with defers := { target := .collected D, args := #[] } :: a.defers } W) :
    (Code.rangeFunc g ps assign body).wpIn Fence.wide n P Q a w := by
  refine wpIn_rangeFunc ?_
  intro fn hfn
  have nR : ∀ b, w.heap.size ≤ b → ¬ R b := fun b hb q => by have := hR b q; omega
  have nK : ∀ b, w.heap.size ≤ b → ¬ K b := fun b hb q => by have := hK b q; omega
  obtain ⟨rc, hrc⟩ : ∃ rc : LoopState → Option Code → Loop, rc = fun st pe => { state := st, pending := pe, fn, tmps := a.tmps, params := ps, assign, body, defers := w.heap.size } := ⟨_, rfl⟩
  obtain ⟨W1, hW1⟩ : ∃ W1, (w.alloc (.deferred (some []))).alloc (.loop (rc .ready none)) = W1 := ⟨_, rfl⟩
  have hL1 : W1.heap[w.heap.size + 1]? = some (.loop (rc .ready none)) := by
    rw [← hW1]
    have := World.alloc_heap_new (w.alloc (.deferred (some []))) (.loop (rc .ready none))
    rwa [World.size_alloc] at this
  have hD1 : W1.heap[w.heap.size]? = some (.deferred (some [])) := by
    rw [← hW1]
    exact (Below.heap_alloc _ _ _ (by simp)).trans (World.alloc_heap_new w _)
  have hI1 : I [] W1 := by rw [← hW1]; exact hIa _ _ _ (hIa _ _ _ h0)
  have hB1 : Below w.heap.size w W1 := by rw [← hW1]; exact ((Below.refl _ w).alloc (Nat.le_refl _) _).alloc (by simp) _
  refine ⟨w.heap.size + 1, [{ target := .collected w.heap.size, args := #[] }], W1, { target := .fn (.func gf) lb, args := #[.func (.yield (w.heap.size + 1)) #[] #[]] }, W1, gf, #[.func (.yield (w.heap.size + 1)) #[] #[]] ++ lb, W1, ?_, ?_, ?_, ?_, fun _ => h1, ?_⟩
  · rw [← hW1, hrc]
    exact run_enterLoop_outer _ _ _ _ _
  · simp only [resolve, hg]
    simp [go_sem]
  · intro f' _
    trivial
  · simp [invoke, go_sem, eg]
  · refine (hit (w.heap.size + 1)
      (fun pre W => I pre W ∧ W.heap[w.heap.size + 1]? = some (.loop (rc .ready none)) ∧ W.heap[w.heap.size]? = some (.deferred (some [])))
      (fun pre W => Ix pre W ∧ W.heap[w.heap.size + 1]? = some (.loop (rc .done (some .ret))) ∧ W.heap[w.heap.size]? = some (.deferred (some [])))
      W1 hB1 (fun pre A B hJ hf => ?_) ?_ ⟨hI1, hL1, hD1⟩).mono ?_
    · have lt : ∀ {b : Nat} {o : Obj}, A.heap[b]? = some o → b < A.heap.size := fun h => (Array.getElem?_eq_some_iff.1 h).1
      exact ⟨hIf pre A B hJ.1 hf, (hf.same _ (lt hJ.2.1) (nR _ (by omega))).trans hJ.2.1, (hf.same _ (lt hJ.2.2) (nR _ (Nat.le_refl _))).trans hJ.2.2⟩
    · rintro pre x W ⟨hi, hl, hd⟩ hpx
      have hy := run_yield (P := P) (args := encs x) hl (by rw [hrc]; exact hps x)
      rw [hrc] at hy
      refine ⟨fn, _, assign, body, hy, roundIn_of_wpIn hfn (hassign _ pre x W _ hi hpx ?_)⟩
      clear hy
      intro a' Wa hka hpa hia hax
      have hla := hka.same _ _ (by omega) hl rfl
      have hda := hka.same _ _ (Nat.le_refl _) hd rfl
      have hlt : w.heap.size + 1 < Wa.heap.size := (Array.getElem?_eq_some_iff.1 hla).1
      refine ⟨_, run_beginRound hla (by rw [hrc]), ?_⟩
      have hl2 : (Wa.putObj (w.heap.size + 1) (.loop { rc .ready none with state := .busy })).heap[w.heap.size + 1]? = some (.loop { rc .ready none with state := .busy }) := World.putObj_heap_same hlt
      have hd2 : (Wa.putObj (w.heap.size + 1) (.loop { rc .ready none with state := .busy })).heap[w.heap.size]? = some (.deferred (some [])) := (World.putObj_heap_other (by omega)).trans hda
      have hk2 : Kp12 K Wa (Wa.putObj (w.heap.size + 1) (.loop { rc .ready none with state := .busy })) := Kp12.put (nK _ (by omega))
      refine wpIn_mono (hbody _ pre x a' _ (by omega) (hI _ _ _ _ hia (by omega) ⟨_, hla, rfl⟩) (hAx _ _ _ _ _ _ hax (by omega) ⟨_, hla, rfl⟩)) ?_
      have fin : ∀ (jump : Option Code) (W3 : World), KeepsFrom w.heap.size (Wa.putObj (w.heap.size + 1) (.loop { rc .ready none with state := .busy })) W3 →
          (Instr.endRound (w.heap.size + 1) jump).run P W3 = .ok (.bool jump.isNone) (W3.putObj (w.heap.size + 1) (.loop (rc (if jump.isNone then .ready else .done) jump))) ∧
          W3.heap[w.heap.size + 1]? = some (.loop { rc .ready none with state := .busy }) ∧
          (W3.putObj (w.heap.size + 1) (.loop (rc (if jump.isNone then .ready else .done) jump))).heap[w.heap.size + 1]? = some (.loop (rc (if jump.isNone then .ready else .done) jump)) ∧
          (W3.putObj (w.heap.size + 1) (.loop (rc (if jump.isNone then .ready else .done) jump))).heap[w.heap.size]? = some (.deferred (some [])) := fun jump W3 hk3 => by
        have hl3 := hk3.same _ _ (by omega) hl2 rfl
        have := run_endRound (P := P) jump hl3
        rw [hrc] at this ⊢
        exact ⟨this, by rw [hrc] at hl3; exact hl3, World.putObj_heap_same (Array.getElem?_eq_some_iff.1 hl3).1, (World.putObj_heap_other (by omega)).trans (hk3.same _ _ (Nat.le_refl _) hd2 rfl)⟩
      rintro e a3 W3 hp
      cases e with
      | normal =>
        obtain ⟨hk3, hkp3, hi3⟩ := hp
        obtain ⟨hr, hl3, hl4, hd4⟩ := fin none W3 hk3
        exact ⟨_, _, hr, .inl ⟨rfl, ⟨hI _ _ _ _ hi3 (by omega) ⟨_, hl3, rfl⟩, hl4, hd4⟩, hpa.trans (hk2.trans (hkp3.trans (Kp12.put (nK _ (by omega)))))⟩⟩
      | ret =>
        obtain ⟨hk3, hkp3, hi3⟩ := hp
        obtain ⟨hr, hl3, hl4, hd4⟩ := fin (some .ret) W3 hk3
        exact ⟨_, _, hr, .inr ⟨rfl, ⟨hIx _ _ _ _ hi3 (by omega) ⟨_, hl3, rfl⟩, hl4, hd4⟩, hpa.trans (hk2.trans (hkp3.trans (Kp12.put (nK _ (by omega)))))⟩⟩
      | exit id => exact hp.elim
      | goto t => exact hp.elim
      | panic ch => exact hp.elim
      | outgrown => exact hp.elim
    · rintro e W2 ⟨⟨v, rfl⟩, (⟨xs, ⟨hi, hl, hd⟩, hf⟩ | ⟨pre, ⟨hi, hl, hd⟩, hf⟩)⟩
      · exact ⟨none, _, by have := run_endLoop (P := P) hl (by rw [hrc]; simp); rw [hrc] at this; exact this, hdone _ xs _ (Nat.le_refl _) (hI _ _ _ _ hi (by omega) ⟨_, hl, rfl⟩) (hF _ _ _ _ hf (by omega) ⟨_, hl, rfl⟩) ((World.putObj_heap_other (by omega)).trans hd)⟩
      · exact ⟨some .ret, _, by have := run_endLoop (P := P) hl (by rw [hrc]; simp); rw [hrc] at this; exact this, hstop _ pre _ (Nat.le_refl _) (hIx _ _ _ _ hi (by omega) ⟨_, hl, rfl⟩) (hFX _ _ _ _ hf (by omega) ⟨_, hl, rfl⟩) ((World.putObj_heap_other (by omega)).trans hd)⟩
end Go.Proofs.YtblcpdffiafgnaaGreatDoor
namespace Go.Proofs.YtblcpdffiafgnaaGreatDoor
set_option maxRecDepth 100000
set_option linter.unusedVariables false

/-- The lowest j bytes of x, the highest first. -/
def be : Nat → Int → List Int
  | 0, _ => []
  | j + 1, x => (x / 256 ^ j % 256) :: be j x
theorem be_length (j : Nat) (x : Int) : (be j x).length = j := by induction j with
  | zero => rfl
  | succ j ih => simp [be, ih]
theorem be_byte (j : Nat) (x : Int) : ∀ z ∈ be j x, 0 ≤ z ∧ z ≤ 255 := by
  induction j with
  | zero => intro z hz; simp [be] at hz
  | succ j ih =>
    intro z hz
    rw [be] at hz
    rcases List.mem_cons.1 hz with rfl | hz
    · omega
    · exact ih z hz

/-- The number that these bytes are, the highest first. -/
def val (zs : List Int) : Int := zs.foldl (fun x b => x * 256 + b) 0
theorem val_snoc (l : List Int) (b : Int) : val (l ++ [b]) = val l * 256 + b := by simp [val]
theorem fold_bound (l : List Int) : ∀ (x : Int) (m : Nat), (∀ z ∈ l, 0 ≤ z ∧ z ≤ 255) → 0 ≤ x → x < 256 ^ m → 0 ≤ l.foldl (fun x b => x * 256 + b) x ∧ l.foldl (fun x b => x * 256 + b) x < 256 ^ (m + l.length) := by
  induction l with
  | nil => intro x m _ h0 h1; exact ⟨h0, h1⟩
  | cons b l ih =>
    intro x m h h0 h1
    have hb := h b (by simp)
    have := ih (x * 256 + b) (m + 1) (fun z hz => h z (by simp [hz])) (by omega) (by rw [Int.pow_succ]; omega)
    rw [show m + 1 + l.length = m + (b :: l).length from by simp; omega] at this
    exact this
theorem val_bound (l : List Int) (h : ∀ z ∈ l, 0 ≤ z ∧ z ≤ 255) : 0 ≤ val l ∧ val l < 256 ^ l.length := by
  have := fold_bound l 0 0 h (by omega) (by decide)
  rwa [Nat.zero_add] at this
theorem fold_val (l : List Int) : ∀ x : Int, l.foldl (fun x b => x * 256 + b) x = x * 256 ^ l.length + val l := by
  induction l with
  | nil => intro x; simp [val]
  | cons b l ih =>
    intro x
    have e : val (b :: l) = b * 256 ^ l.length + val l := by
      show List.foldl _ (0 * 256 + b) l = _
      rw [ih]; simp
    rw [List.foldl_cons, ih, e, List.length_cons, Int.pow_succ, Int.add_mul, Int.mul_assoc, Int.mul_comm 256, Int.add_assoc]
theorem val_cons (b : Int) (l : List Int) : val (b :: l) = b * 256 ^ l.length + val l := by
  show List.foldl _ (0 * 256 + b) l = _
  rw [fold_val]; simp
theorem emod_step (x m : Int) (hm : 0 < m) : x / m % 256 * m + x % m = x % (m * 256) := by
  have h1 := Int.mul_ediv_add_emod x m
  have h2 := Int.mul_ediv_add_emod (x / m) 256
  have r0 := Int.emod_nonneg x (show m ≠ 0 by omega)
  have r1 := Int.emod_lt_of_pos x hm
  have q0 := Int.emod_nonneg (x / m) (show (256 : Int) ≠ 0 by omega)
  have q1 := Int.emod_lt_of_pos (x / m) (show (0 : Int) < 256 by omega)
  generalize x / m = q at *
  generalize x % m = r at *
  generalize q / 256 = u at *
  generalize q % 256 = v at *
  have e : x = (v * m + r) + (m * 256) * u := by
    rw [← h1, ← h2, Int.mul_add, Int.mul_assoc, Int.mul_comm m v, ← Int.mul_assoc]; omega
  have b1 : v * m + r < m * 256 := by
    have : v * m ≤ 255 * m := Int.mul_le_mul_of_nonneg_right (by omega) (by omega)
    omega
  have b0 : 0 ≤ v * m + r := by have := Int.mul_nonneg q0 (Int.le_of_lt hm); omega
  rw [e, Int.add_mul_emod_self_left, Int.emod_eq_of_lt b0 b1]
theorem val_be (w : Nat) (x : Int) : val (be w x) = x % 256 ^ w := by
  induction w with
  | zero => simp [be, val]
  | succ w ih => rw [be, val_cons, be_length, ih, Int.pow_succ]; exact emod_step x _ (Int.pow_pos (by omega))

theorem be_congr (j : Nat) (x y : Int) (h : x % 256 ^ j = y % 256 ^ j) : be j x = be j y := by
  have e : ∀ (j : Nat) (x : Int), be j x = be j (x % 256 ^ j) := fun j => by
    induction j with
    | zero => intro x; rfl
    | succ j ih =>
      intro x
      have hp : (0 : Int) < 256 ^ j := Int.pow_pos (by omega)
      rw [be, be, ih x, ih (x % 256 ^ (j + 1))]
      have h1 : x % 256 ^ (j + 1) % 256 ^ j = x % 256 ^ j := Int.emod_emod_of_dvd x ⟨256, by rw [Int.pow_succ]⟩
      have h2 : x / 256 ^ j % 256 = x % 256 ^ (j + 1) / 256 ^ j % 256 := by
        have e1 := Int.mul_ediv_add_emod x (256 ^ (j + 1))
        have e2 : x / 256 ^ j = x % 256 ^ (j + 1) / 256 ^ j + 256 * (x / 256 ^ (j + 1)) := by
          conv => lhs; rw [← e1, Int.pow_succ, Int.mul_assoc, Int.add_comm, Int.add_mul_ediv_left _ _ (by omega)]
          rw [Int.pow_succ]
        rw [e2, Int.add_mul_emod_self_left]
      rw [h1, h2]
  rw [e j x, e j y, h]
theorem be_val (l : List Int) (h : ∀ z ∈ l, 0 ≤ z ∧ z ≤ 255) : be l.length (val l) = l := by
  induction l with
  | nil => rfl
  | cons b l ih =>
    have hb := h b (by simp)
    have hl : ∀ z ∈ l, 0 ≤ z ∧ z ≤ 255 := fun z hz => h z (by simp [hz])
    obtain ⟨v0, v1⟩ := val_bound l hl
    have hp : (0 : Int) < 256 ^ l.length := Int.pow_pos (by omega)
    rw [List.length_cons, be, val_cons]
    congr 1
    · rw [Int.add_comm, Int.add_mul_ediv_right _ _ (by omega), Int.ediv_eq_zero_of_lt v0 v1, Int.zero_add, Int.emod_eq_of_lt hb.1 (by omega)]
    · have e : be l.length (b * 256 ^ l.length + val l) = be l.length (val l) := be_congr _ _ _ (by rw [Int.add_comm, Int.add_mul_emod_self_right])
      rw [e, ih hl]

end Go.Proofs.YtblcpdffiafgnaaGreatDoor
