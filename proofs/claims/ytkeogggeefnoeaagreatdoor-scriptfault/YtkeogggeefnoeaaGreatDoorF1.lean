import Derived.Test.YtkeogggeefnoeaaGreatDoorQ1
import Derived.Test.YtkeogggeefnoeaaGreatDoorN22
import Derived.Test.YtkeogggeefnoeaaGreatDoorN27
import Derived.Test.YtkeogggeefnoeaaGreatDoorN1
namespace Go.Proofs.YtkeogggeefnoeaaGreatDoor
set_option linter.unusedSimpArgs false
set_option linter.unusedVariables false
set_option maxRecDepth 100000

/-! The little script of the laws. -/
def litC : List Chg := [⟨1, 1, 1, [160, 1], 0, 0, 0, 0⟩, ⟨4, 1, 0, [], 4, 0, 167772160, 8⟩]
def litO : List Opp := [{ opp0 1 with a := 1, ch := litC }, { opp0 2 with d := [171] }, { opp0 10 with fl := [(3, 1), (5, 2)] }, { opp0 11 with a := 1, kp := [false, true] }]
def litS : Scr := ⟨64, litO⟩
def litT : List Nat := [99, 117, 108, 118, 101, 114, 116, 32, 54, 52, 10, 99, 111, 109, 109, 105, 116, 32, 49, 32, 97, 100, 100, 32, 49, 32, 97, 48, 48, 49, 32, 49, 32, 44, 32, 97, 108, 108, 111, 119, 32, 49, 32, 49, 48, 46, 48, 46, 48, 46, 48, 47, 56, 10, 115, 101, 110, 100, 32, 48, 32, 97, 98, 10, 97, 114, 109, 32, 48, 32, 112, 111, 119, 101, 114, 32, 51, 32, 105, 111, 32, 53, 10, 99, 114, 97, 115, 104, 32, 49, 32, 48, 49, 10]
theorem lit_ok : ScrOk litS := by
  intro o ho
  simp only [litS, litO, List.mem_cons, List.not_mem_nil, or_false] at ho
  rcases ho with rfl | rfl | rfl | rfl
  all_goals
    refine ⟨by decide, by decide, ?_⟩
    intro c hc
    simp only [opp0, litC, List.mem_cons, List.not_mem_nil, or_false] at hc
    try rcases hc with rfl | rfl
    all_goals exact ⟨by decide, ⟨by decide, by decide⟩, ⟨by decide, by decide⟩⟩
theorem lit_print : scrW litS = .ok litT := by
  kernel_rfl
theorem lit_parse : scrv litT = (litS, 0, 0) := (scr_round lit_ok lit_print).1
/-- What is printed is bytes. -/
theorem jsp_byte {ws : List (List Nat)} (h : ∀ w ∈ ws, Wd w) : ∀ x ∈ jsp ws, x < 256 := fun x hx => by
  rcases jsp_no h x hx with rfl | ⟨e, _⟩
  · omega
  · have := of_decide_eq_true (show decide _ = true from e)
    omega
theorem scr_byte {s : Scr} {T : List Nat} (hs : ScrOk s) (h : scrW s = .ok T) : ∀ x ∈ T, x < 256 := by
  unfold scrW at h
  split at h
  · cases h
  · rename_i n hn
    split at h
    · cases h
    · split at h
      · cases h
      · rename_i ls hl
        split at h
        · cases h
        · cases h
          obtain ⟨f1, f2⟩ := linv_first hn
          obtain ⟨i1, i2, i3⟩ := mapR_ok (f := stpW) (g := stpv) (P := OppOk) (Q := fun ws => ws ≠ [] ∧ ∀ w ∈ ws, Wd w) (fun x y hx hy => stpW_ok hx hy) _ _ hs hl
          intro x hx
          obtain ⟨ws, hws, hx⟩ := List.mem_flatMap.1 hx
          have hw : ∀ w ∈ ws, Wd w := by
            rcases List.mem_cons.1 hws with rfl | hws
            · exact f1
            · exact (i2 ws hws).2
          rcases List.mem_append.1 hx with hx | hx
          · exact jsp_byte hw x hx
          · rw [List.mem_singleton.1 hx]; omega
theorem pch_byte {l : List Chg} {T : List Nat} (hl : ∀ c ∈ l, ChgOk c) (h : pchW l = .ok T) : ∀ x ∈ T, x < 256 := by
  unfold pchW at h
  split at h
  · cases h
  · rename_i ws hw
    cases h
    obtain ⟨h1, h2, h3⟩ := chsW_ok hl hw
    exact jsp_byte h1
end Go.Proofs.YtkeogggeefnoeaaGreatDoor
namespace Go.Proofs.YtkeogggeefnoeaaGreatDoor
set_option linter.unusedSimpArgs false
open Go.RowKit Go.Shelf
set_option linter.unusedVariables false
set_option maxRecDepth 100000

/-! The laws' small functions. -/
theorem scr_num (e : Int) (w : World) : Calls Tryz.prog 10 #[.int .i64 e] w fun r w' => r = .returned (.int .i64 e) ∧ w' = w := by
  go_enter Tryz.func10, Tryz.ntmps10
  go_wp2_with fail
  go_ret
  exact ⟨rfl, rfl⟩
set_option maxHeartbeats 2000000 in
/-- Two scripts that read alike are the same. -/
theorem scr_same {V V' : Nat → Prop} (sec : Int) (a a' : Option Addr) (n p p' : Nat) (l : List Opp) (w : World) (h : Ops w V a n l) (h' : Ops w V' a' n l) (hin : ∀ x ∈ l, OpN x) (hn : n ≤ 140737488355328) :
    Calls Tryz.prog 12 #[.agg #[.int .i64 sec, .slice a n p], .agg #[.int .i64 sec, .slice a' n p']] w fun e w' => e = .returned (.bool true) ∧ Below w.heap.size w w' := by
  have B0 : Below w.heap.size w ((w.alloc (.cells #[.int .i64 sec, .slice a n p] 24)).alloc (.cells #[.int .i64 sec, .slice a' n p'] 24)) := ((Below.refl _ _).alloc (Nat.le_refl _) _).alloc (by simp) _
  have q0 : Yx ((w.alloc (.cells #[.int .i64 sec, .slice a n p] 24)).alloc (.cells #[.int .i64 sec, .slice a' n p'] 24)) w.heap.size 24 [.int .i64 sec, .slice a n p] := (Yx.new w 24 [.int .i64 sec, .slice a n p]).on ((Below.refl _ _).alloc (Nat.le_refl _) _)
  have q1 := Yx.new (w.alloc (.cells #[.int .i64 sec, .slice a n p] 24)) 24 [.int .i64 sec, .slice a' n p']
  rw [World.size_alloc] at q1
  have ks := sameOps_ a a' n p p' l _ (h.on B0) (h'.on B0) hin hn
  have HB := hid B0
  have HP0 := hid q0
  have HP1 := hid q1
  have a1 := q0.cell 1
  have b1 := q1.cell 1
  simp only [List.getElem?_cons_succ, List.getElem?_cons_zero] at a1 b1
  clear B0 q0 q1 h h' hin
  go_enter Tryz.func12, Tryz.ntmps12
  go_wp2_with fail
  clear a1 b1
  refine ks.mono ?_
  rintro e w1 ⟨rfl, g⟩
  have q0 : Yx w1 w.heap.size 24 [.int .i64 sec, .slice a n p] := HP0.out.on g
  have q1 : Yx w1 (w.heap.size + 1) 24 [.int .i64 sec, .slice a' n p'] := HP1.out.on g
  have HB1 := hid (bel_bel HB.out HB.out.size g)
  have a0 := q0.cell 0
  have b0 := q1.cell 0
  simp only [List.getElem?_cons_succ, List.getElem?_cons_zero] at a0 b0
  clear q0 q1 g ks HP0 HP1 HB
  go_wp2_with fail
  go_ret
  exact ⟨rfl, HB1.out⟩
set_option maxHeartbeats 2000000 in
theorem sparseBig_ (X : ByteArray) (h : 1048576 < X.size) (w : World) : Calls Tryz.prog 11 #[.string X] w fun e w' => e = .returned (.tuple #[.agg #[.int .i64 0, .slice none 0 0], .int .i64 0, .int .i64 221]) ∧ Below w.heap.size w w' := by
  have hszi : (1048576 : Int) < (X.size : Int) := by omega
  go_enter Tryz.func11, Tryz.ntmps11
  go_wp2_with fail
  have y0 := ((Yx.new w 24 [.int .i64 0, .slice none 0 0]).on ((Below.refl _ _).alloc (Nat.le_refl _) (.cells #[.int .i64 0] 3))).on ((Below.refl _ _).alloc (Nat.le_refl _) (.cells #[.int .i64 221] 26))
  have y1 := (Yx.new (w.alloc (.cells #[.int .i64 0, .slice none 0 0] 24)) 3 [.int .i64 0]).on ((Below.refl _ _).alloc (Nat.le_refl _) (.cells #[.int .i64 221] 26))
  have y2 := Yx.new ((w.alloc (.cells #[.int .i64 0, .slice none 0 0] 24)).alloc (.cells #[.int .i64 0] 3)) 26 [.int .i64 221]
  rw [World.size_alloc] at y1 y2
  rw [World.size_alloc] at y2
  have r0 := y0.cell 0
  have r1 := y0.cell 1
  have r2 := y1.cell 0
  have r3 := y2.cell 0
  simp only [List.getElem?_cons_succ, List.getElem?_cons_zero] at r0 r1 r2 r3
  refine bodyPost_ret (v := .tuple #[.agg #[.int .i64 0, .slice none 0 0], .int .i64 0, .int .i64 221]) ?_ rfl ⟨rfl, ((((Below.refl _ _).alloc (Nat.le_refl _) _).alloc (by simp) _).alloc (by simp; omega) _)⟩
  simp [results, Tryz.f11, go_sem, r0, r1, r2, r3]
theorem scr_parse (t : List Nat) (hy : ∀ x ∈ t, x < 256) (w : World) (hq : Tq w) : Calls Tryz.prog 11 #[.string (sb t)] w fun e w' => PaV w (scrv t) e w' ∧ Below w.heap.size w w' := by
  unfold scrv
  by_cases h : 1048576 < t.length
  · rw [if_pos h]
    refine (sparseBig_ (sb t) (by rw [sb_size]; exact h) w).mono ?_
    rintro e w' ⟨rfl, hb⟩
    exact ⟨⟨none, 0, rfl, ops_none _ _⟩, hb⟩
  · rw [if_neg h]
    exact sparseAll_ t hy (by omega) w hq
/-! The little script in memory. -/
theorem allocs_at : ∀ (os : List Obj) (w : World), (os.foldl World.alloc w).heap.size = w.heap.size + os.length ∧ Below w.heap.size w (os.foldl World.alloc w) ∧ ∀ i o, os[i]? = some o → (os.foldl World.alloc w).heap[w.heap.size + i]? = some o
  | [], w => ⟨rfl, Below.refl _ _, fun i o h => by simp at h⟩
  | x :: os, w => by
    obtain ⟨h1, h2, h3⟩ := allocs_at os (w.alloc x)
    have hb := (Below.refl w.heap.size w).alloc (Nat.le_refl _) x
    rw [World.size_alloc] at h1 h3
    refine ⟨by rw [List.foldl_cons, h1, List.length_cons]; omega, bel_bel hb hb.size h2, fun i o h => ?_⟩
    match i, h with
    | 0, h =>
      simp at h
      subst h
      rw [List.foldl_cons, Nat.add_zero, h2.block _ (by rw [World.size_alloc]; omega)]
      exact heap_alloc_new w x
    | i + 1, h =>
      rw [List.foldl_cons, show w.heap.size + (i + 1) = w.heap.size + 1 + i by omega]
      exact h3 i o (by simpa using h)
def litCD (S : Nat) : List CD := [⟨⟨1, 1, 1, [160, 1], 0, 0, 0, 0⟩, some ⟨S + 1 + 1, 0, none⟩, 2⟩, ⟨⟨4, 1, 0, [], 4, 0, 167772160, 8⟩, none, 0⟩]
def litOD (S : Nat) : List OD := [⟨{ opp0 1 with a := 1, ch := litC }, none, 0, some ⟨S + 1 + 1 + 1, 0, none⟩, 2, none, 0, none, 0⟩, ⟨{ opp0 2 with d := [171] }, some ⟨S + 1 + 1 + 1 + 1, 0, none⟩, 1, none, 0, none, 0, none, 0⟩, ⟨{ opp0 10 with fl := [(3, 1), (5, 2)] }, none, 0, none, 0, some ⟨S + 1 + 1 + 1 + 1 + 1, 0, none⟩, 2, none, 0⟩, ⟨{ opp0 11 with a := 1, kp := [false, true] }, none, 0, none, 0, none, 0, some ⟨S + 1 + 1 + 1 + 1 + 1 + 1, 0, none⟩, 2⟩]
def litObs (S : Nat) : List Obj := [.cells #[.int .i64 64, .slice (some ⟨S + 1 + 1 + 1 + 1 + 1 + 1 + 1, 0, none⟩) 4 4] 24, .cells #[.int .i64 64, .slice (some ⟨S + 1 + 1 + 1 + 1 + 1 + 1 + 1, 0, none⟩) 4 4] 24, .cells (cells (ic [160, 1])).toArray 5, .cells (crow (litCD S)).toArray 70, .cells (cells (ic [171])).toArray 5, .cells (frow [(3, 1), (5, 2)]).toArray 72, .cells ([false, true].map Value.bool).toArray 4, .cells (orow (litOD S)).toArray 53]
theorem ls_row {w : World} {V : Nat → Prop} {g n sz : Nat} {t : TypeId} {xs : List Value} (h : w.heap[g]? = some (.cells xs.toArray t (0, 0))) (hV : V g) (f : Nat → List Value) (hx : ∀ i, i < n → ∀ j u, (f i)[j]? = some u → xs[i * sz + j]? = some u) : Ls w V (some ⟨g, 0, none⟩) n sz f :=
  .inr ⟨g, 0, rfl, hV, (Array.getElem?_eq_some_iff.1 h).1, fun i hi j v hv => by
    rw [Nat.zero_add, cell_of_row w g (i * sz + j) _ t (0, 0) h]
    simpa using hx i hi j v hv⟩
theorem vs_row {w : World} {V : Nat → Prop} {g n : Nat} {l : List Nat} (h : w.heap[g]? = some (.cells (cells (ic l)).toArray 5 (0, 0))) (hV : V g) (hn : l.length = n) (hb : ∀ x ∈ l, x < 256) (hm : n ≤ maxLen) : Vs w V (some ⟨g, 0, none⟩) n n (ic l) :=
  ⟨Bs.ofCells h (by unfold ic; rw [List.length_map]; exact hn) (fun z hz => by
    unfold ic at hz
    obtain ⟨y, hy, rfl⟩ := List.mem_map.1 hz
    have := hb y hy
    omega), Nat.le_refl _, hm, fun e => (by cases e), fun ad e _ => (by obtain rfl := Option.some.inj e; exact hV)⟩
theorem cs_none (w : World) (V : Nat → Prop) : Cs w V none 0 [] := ⟨[], rfl, rfl, .inl rfl, by simp⟩
theorem fts_none (w : World) (V : Nat → Prop) : Fts w V none 0 [] := ⟨rfl, .inl rfl⟩
theorem kps_none (w : World) (V : Nat → Prop) : Kps w V none 0 [] := ⟨rfl, .inl rfl⟩
theorem lit_ops (w : World) : Ops ((litObs w.heap.size).foldl World.alloc w) (fun x => w.heap.size ≤ x) (some ⟨w.heap.size + 1 + 1 + 1 + 1 + 1 + 1 + 1, 0, none⟩) 4 litO := by
  obtain ⟨h1, h2, h3⟩ := allocs_at (litObs w.heap.size) w
  generalize (litObs w.heap.size).foldl World.alloc w = W at *
  have k2 := h3 2 _ rfl
  have k3 := h3 3 _ rfl
  have k4 := h3 4 _ rfl
  have k5 := h3 5 _ rfl
  have k6 := h3 6 _ rfl
  have k7 := h3 7 _ rfl
  have hc : Cs W (fun x => w.heap.size ≤ x) (some ⟨w.heap.size + 1 + 1 + 1, 0, none⟩) 2 litC :=
    ⟨litCD w.heap.size, rfl, rfl, ls_row k3 (by omega) _ (fun i hi j u hu => crow_at (litCD w.heap.size) i hi j u hu), fun x hx => by
      simp only [litCD, List.mem_cons, List.not_mem_nil, or_false] at hx
      rcases hx with rfl | rfl
      · show Vs W _ _ 2 2 (ic [160, 1])
        exact vs_row k2 (by omega) rfl (by decide) (by decide)
      · exact vs_none _ _⟩
  refine ⟨litOD w.heap.size, rfl, rfl, ls_row k7 (by omega) _ (fun i hi j u hu => orow_at (litOD w.heap.size) i hi j u hu), fun x hx => ?_⟩
  simp only [litOD, List.mem_cons, List.not_mem_nil, or_false] at hx
  rcases hx with rfl | rfl | rfl | rfl
  · exact ⟨vs_none _ _, hc, fts_none _ _, kps_none _ _, Nat.le_refl _⟩
  · have hv : Vs W (fun x => w.heap.size ≤ x) (some ⟨w.heap.size + 1 + 1 + 1 + 1, 0, none⟩) 1 1 (ic [171]) := vs_row k4 (by omega) rfl (by decide) (by decide)
    exact ⟨hv, cs_none _ _, fts_none _ _, kps_none _ _, Nat.le_refl _⟩
  · refine ⟨vs_none _ _, cs_none _ _, ⟨rfl, ls_row k5 (by omega) _ (fun i hi j u hu => ?_)⟩, kps_none _ _, Nat.le_refl _⟩
    obtain ⟨q1, q2⟩ := frow_at [(3, 1), (5, 2)] i hi
    match j, hu with
    | 0, hu => simp at hu; subst hu; exact q1
    | 1, hu => simp at hu; subst hu; exact q2
    | j + 2, hu => simp at hu
  · refine ⟨vs_none _ _, cs_none _ _, fts_none _ _, ⟨rfl, ls_row k6 (by omega) _ (fun i hi j u hu => ?_)⟩, Nat.le_refl _⟩
    match j, hu with
    | 0, hu =>
      simp at hu
      subst hu
      have hi : i < 2 := hi
      match i, hi with
      | 0, _ => rfl
      | 1, _ => rfl
    | j + 1, hu => simp at hu
set_option maxHeartbeats 2000000 in
theorem little_ (w : World) : Calls Tryz.prog 15 #[] w fun e w' => (∃ a p, e = .returned (.tuple #[.agg #[.int .i64 64, .slice a 4 p], .string (sb litT)]) ∧ Ops w' (fun x => w.heap.size ≤ x) a 4 litO) ∧ Below w.heap.size w w' := by
  have hT : sb litT = ⟨#[99, 117, 108, 118, 101, 114, 116, 32, 54, 52, 10, 99, 111, 109, 109, 105, 116, 32, 49, 32, 97, 100, 100, 32, 49, 32, 97, 48, 48, 49, 32, 49, 32, 44, 32, 97, 108, 108, 111, 119, 32, 49, 32, 49, 48, 46, 48, 46, 48, 46, 48, 47, 56, 10, 115, 101, 110, 100, 32, 48, 32, 97, 98, 10, 97, 114, 109, 32, 48, 32, 112, 111, 119, 101, 114, 32, 51, 32, 105, 111, 32, 53, 10, 99, 114, 97, 115, 104, 32, 49, 32, 48, 49, 10]⟩ := rfl
  rw [hT]
  clear hT
  go_enter Tryz.func15, Tryz.ntmps15
  go_wp2_with fail
  obtain ⟨h1, h2, h3⟩ := allocs_at (litObs w.heap.size) w
  have ho := lit_ops w
  have k0 := h3 0 _ rfl
  rw [Nat.add_zero] at k0
  have r0 : ((litObs w.heap.size).foldl World.alloc w).cell? ⟨w.heap.size, 0, none⟩ = some (.int .i64 64) := (cell_of_row _ _ 0 _ _ (0, 0) k0).trans rfl
  have r1 : ((litObs w.heap.size).foldl World.alloc w).cell? ⟨w.heap.size, 1, none⟩ = some (.slice (some ⟨w.heap.size + 1 + 1 + 1 + 1 + 1 + 1 + 1, 0, none⟩) 4 4) := (cell_of_row _ _ 1 _ _ (0, 0) k0).trans rfl
  refine bodyPost_ret (w := (litObs w.heap.size).foldl World.alloc w) (v := .tuple #[.agg #[.int .i64 64, .slice (some ⟨w.heap.size + 1 + 1 + 1 + 1 + 1 + 1 + 1, 0, none⟩) 4 4], .string ⟨#[99, 117, 108, 118, 101, 114, 116, 32, 54, 52, 10, 99, 111, 109, 109, 105, 116, 32, 49, 32, 97, 100, 100, 32, 49, 32, 97, 48, 48, 49, 32, 49, 32, 44, 32, 97, 108, 108, 111, 119, 32, 49, 32, 49, 48, 46, 48, 46, 48, 46, 48, 47, 56, 10, 115, 101, 110, 100, 32, 48, 32, 97, 98, 10, 97, 114, 109, 32, 48, 32, 112, 111, 119, 101, 114, 32, 51, 32, 105, 111, 32, 53, 10, 99, 114, 97, 115, 104, 32, 49, 32, 48, 49, 10]⟩]) ?_ rfl ⟨⟨_, _, rfl, ho⟩, h2⟩
  generalize (litObs w.heap.size).foldl World.alloc w = W at *
  simp [results, Tryz.f15, go_sem, r0, r1]
end Go.Proofs.YtkeogggeefnoeaaGreatDoor
namespace Go.Proofs.YtkeogggeefnoeaaGreatDoor
set_option linter.unusedSimpArgs false
open Go.RowKit Go.Shelf
set_option linter.unusedVariables false
set_option maxRecDepth 100000

/-! The laws' first(). -/
theorem lit_in : ∀ x ∈ litO, InO x ∧ Bo x := by
  intro o ho
  simp only [litO, List.mem_cons, List.not_mem_nil, or_false] at ho
  rcases ho with rfl | rfl | rfl | rfl
  all_goals
    refine ⟨⟨(by constructor <;> decide), (by constructor <;> decide), (by constructor <;> decide), (by constructor <;> decide), (by constructor <;> decide), (by constructor <;> decide), (by constructor <;> decide), (by constructor <;> decide), (by constructor <;> decide), (by constructor <;> decide)⟩, ⟨by decide, by decide, ?_, by decide, ?_, by decide⟩⟩
    · intro c hc
      simp only [opp0, litC, List.mem_cons, List.not_mem_nil, or_false] at hc
      try rcases hc with rfl | rfl
      all_goals exact ⟨⟨(by constructor <;> decide), (by constructor <;> decide), (by constructor <;> decide), (by constructor <;> decide), (by constructor <;> decide), (by constructor <;> decide), (by constructor <;> decide)⟩, by decide⟩
    · intro c hc
      simp only [opp0, List.mem_cons, List.not_mem_nil, or_false] at hc
      try rcases hc with rfl | rfl
      all_goals exact ⟨(by constructor <;> decide), (by constructor <;> decide)⟩
theorem lit_opn : ∀ x ∈ litO, OpN x := by
  intro o ho
  simp only [litO, List.mem_cons, List.not_mem_nil, or_false] at ho
  rcases ho with rfl | rfl | rfl | rfl
  all_goals exact ⟨by decide, by decide, by decide⟩
set_option maxHeartbeats 4000000 in
theorem scr_first (w : World) (hq : Tq w) : Calls Tryz.prog 7 #[] w fun e w' => e = .returned (.bool true) ∧ Below w.heap.size w w' := by
  have HQ := hid hq
  obtain ⟨X, HX⟩ : ∃ z, Hid (sb litT = z) := ⟨_, rfl⟩
  have k1 := little_ w
  rw [HX.out] at k1
  clear hq
  go_enter Tryz.func7, Tryz.ntmps7
  go_wp2_with fail
  refine k1.mono ?_
  rintro e w1 ⟨⟨a, p, rfl, ho⟩, hb⟩
  have b2 : Below w1.heap.size w1 (w1.alloc (.cells #[.int .i64 64, .slice a 4 p] 24)) := (Below.refl _ _).alloc (Nat.le_refl _) _
  have hb2 := bel_bel hb hb.size b2
  have k2 := scrPrint_ (p := p) (HQ.out.kept hb2) (sec := 64) (by constructor <;> decide) (ho.on b2) lit_in (by decide)
  rw [show scrW ⟨64, litO⟩ = .ok litT from lit_print] at k2
  unfold TxV at k2
  simp only [HX.out] at k2
  have y0 := Yx.new w1 24 [.int .i64 64, .slice a 4 p]
  have c0 := y0.cell 0
  have c1 := y0.cell 1
  simp only [List.getElem?_cons_succ, List.getElem?_cons_zero] at c0 c1
  have HO := hid (ho.on b2)
  have HB := hid hb2
  have HY := hid y0
  have HL : Hid (w.heap.size ≤ w1.heap.size) := hb.size
  clear k1 ho hb b2 hb2 y0
  go_wp2_with fail
  clear c0 c1
  refine k2.mono ?_
  rintro e w3 ⟨rfl, g3, _⟩
  have HB3 := hid (bel_bel HB.out HB.out.size g3)
  have HO3 := hid (HO.out.on g3)
  have HY3 : Hid (Yx w3 w1.heap.size 24 [.int .i64 64, .slice a 4 p]) := HY.out.on g3
  have k3 : Calls Tryz.prog 11 #[.string X] w3 fun e w' => (∃ a p, e = .returned (.tuple #[.agg #[.int .i64 64, .slice a 4 p], .int .i64 0, .int .i64 0]) ∧ Ops w' (fun x => w3.heap.size ≤ x) a 4 litO) ∧ Below w3.heap.size w3 w' := by
    rw [← HX.out]
    refine (scr_parse litT (by decide) w3 (HQ.out.kept HB3.out)).mono ?_
    rintro e w' ⟨h, g⟩
    rw [lit_parse] at h
    obtain ⟨a, p, rfl, ho⟩ := h
    exact ⟨⟨a, p, rfl, ho⟩, g⟩
  clear k2 g3 HO HY HB
  go_wp2_with fail
  refine k3.mono ?_
  rintro e w4 ⟨⟨a', p', rfl, ho'⟩, g4⟩
  have b5 : Below w4.heap.size w4 (w4.alloc (.cells #[.int .i64 64, .slice a' 4 p'] 24)) := (Below.refl _ _).alloc (Nat.le_refl _) _
  have g5 := bel_bel g4 g4.size b5
  have HB5 := hid (bel_bel HB3.out HB3.out.size g5)
  have k5 := scr_same 64 a' a 4 p' p litO _ (ho'.on b5) (HO3.out.on g5) lit_opn (by decide)
  have y0 := Yx.new w4 24 [.int .i64 64, .slice a' 4 p']
  have y1 : Yx (w4.alloc (.cells #[.int .i64 64, .slice a' 4 p'] 24)) w1.heap.size 24 [.int .i64 64, .slice a 4 p] := HY3.out.on g5
  have c0 := y0.cell 0
  have c1 := y0.cell 1
  have d0 := y1.cell 0
  have d1 := y1.cell 1
  simp only [List.getElem?_cons_succ, List.getElem?_cons_zero] at c0 c1 d0 d1
  clear k3 g4 b5 g5 ho' HO3 HY3 HB3 y0 y1
  go_wp2_with fail
  clear c0 c1 d0 d1
  refine k5.mono ?_
  rintro e w6 ⟨rfl, g6⟩
  have HB6 := hid (bel_bel HB5.out HB5.out.size g6)
  clear k5 g6 HB5
  go_wp2_with fail
  refine (scr_num _ _).mono ?_
  rintro e _ ⟨rfl, rfl⟩
  go_wp2_with fail
  refine (scr_num _ _).mono ?_
  rintro e _ ⟨rfl, rfl⟩
  go_wp2_with fail
  go_ret
  exact ⟨rfl, HB6.out⟩
end Go.Proofs.YtkeogggeefnoeaaGreatDoor
namespace Go.Proofs.YtkeogggeefnoeaaGreatDoor
set_option linter.unusedSimpArgs false
open Go.RowKit Go.Shelf
set_option linter.unusedVariables false
set_option maxRecDepth 100000

/-! ScriptFault. -/
theorem sb_cat3 (t b : List Nat) : (sb t ++ (⟨#[10]⟩ : ByteArray)) ++ sb b = sb (t ++ 10 :: b) := by
  rw [show (⟨#[10]⟩ : ByteArray) = sb [10] from rfl, sb_append, sb_append]
  simp
/-- Parse, its answer in letters. -/
theorem scr_parseL (t : List Nat) (hy : ∀ x ∈ t, x < 256) (sec : Int) (ops : List Opp) (ln er n : Nat) (hr : scrv t = (⟨sec, ops⟩, ln, er)) (hn : ops.length = n) (L E : Int) (hL : (ln : Int) = L) (hE : (er : Int) = E) (w : World) (hq : Tq w) : Calls Tryz.prog 11 #[.string (sb t)] w fun e w' => (∃ a p, e = .returned (.tuple #[.agg #[.int .i64 sec, .slice a n p], .int .i64 L, .int .i64 E]) ∧ Ops w' (fun x => w.heap.size ≤ x) a n ops) ∧ Below w.heap.size w w' := by
  refine (scr_parse t hy w hq).mono ?_
  rintro e w' ⟨h, g⟩
  rw [hr] at h
  obtain ⟨a, p, rfl, ho⟩ := h
  subst hn hL hE
  exact ⟨⟨a, p, rfl, ho⟩, g⟩
set_option maxHeartbeats 4000000 in
theorem scriptFault_ (t b : List Nat) (hy : ∀ x ∈ t, x < 256) (hyb : ∀ x ∈ b, x < 256) (hl : t.length ≤ 140737488355328) (hlb : b.length ≤ 140737488355328) (w : World) (hq : Tq w) : Calls Tryz.prog 6 #[.string (sb t), .string (sb b)] w fun e w' => e = .returned (.bool true) ∧ Below w.heap.size w w' := by
  have HQ := hid hq
  have hsx : (sb t).size = t.length := sb_size t
  have hsy : (sb b).size = b.length := sb_size b
  have hcat := sb_cat3 t b
  obtain ⟨X, HX⟩ : ∃ z, Hid (sb t = z) := ⟨_, rfl⟩
  obtain ⟨Y, HY⟩ : ∃ z, Hid (sb b = z) := ⟨_, rfl⟩
  obtain ⟨Z, HZ⟩ : ∃ z, Hid (sb (t ++ 10 :: b) = z) := ⟨_, rfl⟩
  rw [HX.out, HY.out, HZ.out] at hcat
  rw [HX.out] at hsx ⊢
  rw [HY.out] at hsy ⊢
  have HC := hid hcat
  obtain ⟨s, hs1, hs2⟩ : ∃ s : Nat, (IntKind.i64.wrap ((X.size : Int) + (Y.size : Int))) = (s : Int) ∧ s = t.length + b.length := ⟨X.size + Y.size, by rw [IntKind.wrap_i64]; omega, by omega⟩
  have HS2 := hid hs2
  have HA1 : Hid (X.size + 1 ≤ 281474976710656) := by show _ ≤ _; omega
  have HA2 : Hid (X.size + 1 + Y.size ≤ 281474976710657) := by show _ ≤ _; omega
  have k1 := scr_first w hq
  clear hq hs2 hsx hsy hcat
  by_cases hbig : 1048576 ≤ s
  · have hi : (1048576 : Int) ≤ (s : Int) := by omega
    go_enter Tryz.func6, Tryz.ntmps6
    go_wp2_with fail
    refine k1.mono ?_
    rintro e w1 ⟨rfl, g1⟩
    have HB := hid g1
    clear g1 k1
    go_wp2_with fail
    go_ret
    exact ⟨rfl, HB.out⟩
  · have hi : decide ((1048576 : Int) ≤ (s : Int)) = false := decide_eq_false (by omega)
    obtain ⟨⟨⟨sec, ops⟩, ln, er⟩, HR⟩ : ∃ r : Scr × Nat × Nat, Hid (scrv t = r) := ⟨_, rfl⟩
    obtain ⟨n, HN⟩ : ∃ z, Hid (ops.length = z) := ⟨_, rfl⟩
    by_cases he : er = 0
    · have K2 := hid fun wx (h : Tq wx) => scr_parseL t hy sec ops ln er n HR.out HN.out (ln : Int) 0 rfl (by omega) wx h
      rw [HX.out] at K2
      clear he
      go_enter Tryz.func6, Tryz.ntmps6
      go_wp2_with fail
      refine k1.mono ?_
      rintro e w1 ⟨rfl, g1⟩
      have HB := hid g1
      have k2 := K2.out w1 (HQ.out.kept g1)
      clear g1 k1 K2
      go_wp2_with fail
      refine k2.mono ?_
      rintro e w2 ⟨⟨a, p, rfl, ho⟩, g2⟩
      have HB2 := hid (bel_bel HB.out HB.out.size g2)
      clear k2 g2 ho HB
      have HB3 := hid (HB2.out.alloc HB2.out.size (.cells #[.int .i64 sec, .slice a n p] 24))
      go_wp2_with fail
      refine (scr_num _ _).mono ?_
      rintro e _ ⟨rfl, rfl⟩
      go_wp2_with fail
      go_ret
      exact ⟨rfl, HB3.out⟩
    · obtain ⟨E, HE⟩ : ∃ z : Int, Hid ((er : Int) = z) := ⟨_, rfl⟩
      have he1 : (E == 0) = false := by have := HE.out; simp; omega
      by_cases hln : ln = 0
      · have K2 := hid fun wx (h : Tq wx) => scr_parseL t hy sec ops ln er n HR.out HN.out 0 E (by omega) HE.out wx h
        rw [HX.out] at K2
        clear he hln
        go_enter Tryz.func6, Tryz.ntmps6
        go_wp2_with fail
        refine k1.mono ?_
        rintro e w1 ⟨rfl, g1⟩
        have HB := hid g1
        have k2 := K2.out w1 (HQ.out.kept g1)
        clear g1 k1 K2
        go_wp2_with fail
        refine k2.mono ?_
        rintro e w2 ⟨⟨a, p, rfl, ho⟩, g2⟩
        have HB2 := hid (bel_bel HB.out HB.out.size g2)
        clear k2 g2 ho HB
        have HB3 := hid (HB2.out.alloc HB2.out.size (.cells #[.int .i64 sec, .slice a n p] 24))
        go_wp2_with fail
        refine (scr_num _ _).mono ?_
        rintro e _ ⟨rfl, rfl⟩
        go_wp2_with fail
        go_ret
        exact ⟨rfl, HB3.out⟩
      · obtain ⟨L, HL⟩ : ∃ z : Int, Hid ((ln : Int) = z) := ⟨_, rfl⟩
        have hl1 : (L == 0) = false := by have := HL.out; simp; omega
        have hf := scr_fault t b (by have := HS2.out; omega) (by rw [HR.out]; exact he) (by rw [HR.out]; exact hln)
        have h0 := (scr_canon t).2 (by rw [HR.out]; exact he)
        rw [HR.out] at h0 hf
        have h1 : sec = 0 ∧ ops = [] := by injection h0 with h1 h2; exact ⟨h1, h2⟩
        obtain ⟨rfl, rfl⟩ := h1
        have K2 := hid fun wx (h : Tq wx) => scr_parseL t hy 0 [] ln er 0 HR.out rfl L E HL.out HE.out wx h
        have K3 := hid fun wx (h : Tq wx) => scr_parseL (t ++ 10 :: b) (by
          intro x hx
          rcases List.mem_append.1 hx with hx | hx
          · exact hy x hx
          · rcases List.mem_cons.1 hx with rfl | hx
            · omega
            · exact hyb x hx) 0 [] ln er 0 hf rfl L E HL.out HE.out wx h
        rw [HX.out] at K2
        rw [HZ.out] at K3
        have hcat := HC.out
        have a1 := fun w => run_string_add_sum (P := Tryz.prog) w X ⟨#[10]⟩ (by show X.size + 1 ≤ _; exact Nat.le_trans HA1.out (by decide))
        have a2 := fun w => run_string_add_sum (P := Tryz.prog) w (X ++ ⟨#[10]⟩) Y (by rw [ByteArray.size_append]; show X.size + 1 + Y.size ≤ _; exact Nat.le_trans HA2.out (by decide))
        rw [hcat] at a2
        clear h0 hf he hln
        go_enter Tryz.func6, Tryz.ntmps6
        go_wp2_with fail
        refine k1.mono ?_
        rintro e w1 ⟨rfl, g1⟩
        have HB := hid g1
        have k2 := K2.out w1 (HQ.out.kept g1)
        clear g1 k1 K2
        go_wp2_with fail
        refine k2.mono ?_
        rintro e w2 ⟨⟨a, p, rfl, ho⟩, g2⟩
        have HB2 := hid (bel_bel HB.out HB.out.size g2)
        clear k2 g2 ho HB
        have HB3 := hid (HB2.out.alloc HB2.out.size (.cells #[.int .i64 0, .slice a 0 p] 24))
        have k3 := K3.out _ (HQ.out.kept HB3.out)
        go_wp2_with fail
        refine (scr_num _ _).mono ?_
        rintro e _ ⟨rfl, rfl⟩
        go_wp2_with fail
        refine k3.mono ?_
        rintro e w4 ⟨⟨a', p', rfl, ho⟩, g4⟩
        have HB4 := hid (bel_bel HB3.out HB3.out.size g4)
        have HB5 := hid (HB4.out.alloc HB4.out.size (.cells #[.int .i64 0, .slice a' 0 p'] 24))
        clear k3 g4 ho K3
        go_wp2_with fail
        refine (scr_num _ _).mono ?_
        rintro e _ ⟨rfl, rfl⟩
        go_wp2_with fail
        refine (scr_num _ _).mono ?_
        rintro e _ ⟨rfl, rfl⟩
        go_wp2_with fail
        go_ret
        exact ⟨rfl, HB5.out⟩
end Go.Proofs.YtkeogggeefnoeaaGreatDoor
