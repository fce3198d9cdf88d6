import Derived.Test.YtcaecfdeieoenaaT9
import Derived.Test.YtcaecfdeieoenaaRE
namespace Go.Proofs.Ytcaecfdeieoenaa
set_option maxRecDepth 100000
open Go.RowKit Go.Shelf
set_option linter.unusedVariables false
attribute [local go_sem] Oper.semAt_some

theorem subs {β : Type} {p : β → Prop} : ∀ l : List β, (∀ z ∈ l, p z) → ∃ xs : List { z : β // p z }, xs.map (·.1) = l
  | [], _ => ⟨[], rfl⟩
  | z :: l, h => by
    obtain ⟨xs, e⟩ := subs l (fun y hy => h y (List.mem_cons_of_mem _ hy))
    exact ⟨⟨z, h z List.mem_cons_self⟩ :: xs, by rw [List.map_cons, e]⟩
set_option maxHeartbeats 1000000 in
theorem path_ (w0 w : World) (k : Nat) (t4 t6 : Tn) (h : Tbm w0 k t4 t6) (hb : Below w0.heap.size w0 w) (q : Wy) (hq : q.In) (ha : va q.F q.H q.L = true) (hqB : q.B ≤ nb q.F) (hwf : Wf q.F (tF q.F t4 t6)) :
    Calls Try.prog 36 #[.pointer (some ⟨k, 0, none⟩), .agg #[.int .i64 q.F, .int .u64 q.H, .int .u64 q.L, .int .i64 q.B]] w fun e w' => (∃ lb, e = .returned (.func (.func 52) #[] lb) ∧ ∀ n, 1 ≤ n → SeqStopsK Fence.wide n Try.prog 52 lb (fun x : Zn (tF q.F t4 t6) => #[.pointer (some ⟨x.1.1, 0, none⟩)]) (Kq w0.heap.size w.heap.size w'.heap.size) (fun ys => ys.map (·.1) = pth (nb q.F) q.A q.B (tF q.F t4 t6)) (fun pre => pre.map (·.1) <+: pth (nb q.F) q.A q.B (tF q.F t4 t6)) (pth (nb q.F) q.A q.B (tF q.F t4 t6)).length w') ∧ Below w.heap.size w w' := by
  obtain ⟨xs, hx⟩ := subs (pth (nb q.F) q.A q.B (tF q.F t4 t6)) (fun z hz => (pth_mem hwf z hz).1)
  have HSQ : Hid (∀ n, 1 ≤ n → SeqStopsK Fence.wide n Try.prog 52 #[.pointer (some ⟨w.heap.size, 0, none⟩), .pointer (some ⟨w.heap.size + 1, 0, none⟩)] (fun x : Zn (tF q.F t4 t6) => #[.pointer (some ⟨x.1.1, 0, none⟩)]) (Kq w0.heap.size w.heap.size (w.heap.size + 2)) (fun ys => ys.map (·.1) = pth (nb q.F) q.A q.B (tF q.F t4 t6)) (fun pre => pre.map (·.1) <+: pth (nb q.F) q.A q.B (tF q.F t4 t6)) (pth (nb q.F) q.A q.B (tF q.F t4 t6)).length ((w.alloc (.cells #[.pointer (some ⟨k, 0, none⟩)] 40)).alloc (.cells #[.int .i64 q.F, .int .u64 q.H, .int .u64 q.L, .int .i64 q.B] 32))) := by
    intro n hn lp J Jx W hW hJ hJx hY h0
    have hs := hW.size
    simp only [World.size_alloc] at hs
    have hb2 : Below w0.heap.size w0 W := hb.trans ((((Below.refl w0.heap.size w).alloc hb.size _).alloc (by simp; have := hb.size; omega) _).trans (hW.mono (by simp; have := hb.size; omega)))
    have hT := h.nd q.F
    have mp := Pm.new (w.alloc (.cells #[.pointer (some ⟨k, 0, none⟩)] 40)) q.F q.H q.L q.B
    rw [World.size_alloc] at mp
    refine (path1_ n hn lp w0.heap.size w.heap.size (w.heap.size + 2) w.heap.size (w.heap.size + 1) k q t4 t6 hq ha hqB hwf xs hx (by omega) (by omega) (Array.getElem?_eq_some_iff.1 h.1).1 hT.lt J Jx
      (fun pre A B hj hbl => hJ pre A B none hj (grown_of_below hbl) (fun r e => by cases e)) (fun pre A B hj hbl => hJx pre A B none hj (grown_of_below hbl) (fun r e => by cases e))
      (fun pre x W1 hj hlt => hY pre x W1 hj (by rw [← hx, List.length_map]; exact hlt)) W h0 ⟨?_, ?_, ?_, ?_⟩).mono ?_
    · exact (hW.block _ (by simp; omega)).trans ((Below.heap_alloc _ _ _ (by simp)).trans (heap_alloc_new _ _))
    · exact mp.at (hW.block _ (by simp))
    · exact (hb2.block k (Array.getElem?_eq_some_iff.1 h.1).1).trans h.1
    · exact hT.at (fun z hz => hb2.block _ (hT.lt z hz))
    · rintro e W' ⟨hv, ⟨ys, rfl, hj⟩ | ⟨pre, hp, hj⟩⟩
      · exact ⟨hv, .inl ⟨ys, hx, hj⟩⟩
      · refine ⟨hv, .inr ⟨pre, ?_, hj⟩⟩
        rw [← hx]
        exact hp.map _
  clear hx
  go_enter Try.func36, Try.ntmps36
  go_wp2_with fail
  go_ret
  refine ⟨⟨_, rfl, ?_⟩, ((Below.refl _ _).alloc (Nat.le_refl _) _).alloc (by simp) _⟩
  simp only [World.size_alloc]
  exact HSQ.out
theorem lk_none {p : Wy} {l : List (Nat × Wy)} (h : ∀ z ∈ l, z.2.sm p = false) : lk p l = 0 := by
  unfold lk
  rw [List.find?_eq_none.2 (fun z hz => by rw [h z hz]; simp)]
theorem lk_some {p : Wy} {l pre : List (Nat × Wy)} {z : Nat × Wy} (h : ∀ y ∈ pre, y.2.sm p = false) (hz : z.2.sm p = true) (hp : pre ++ [z] <+: l) : lk p l = z.2.K := by
  obtain ⟨r, rfl⟩ := hp
  have e : (pre ++ [z] ++ r).find? (fun z => z.2.sm p) = some z := by
    rw [List.append_assoc, List.find?_append, List.find?_eq_none.2 (fun y hy => by rw [h y hy]; simp)]
    simp [hz]
  unfold lk
  rw [e]
set_option maxHeartbeats 4000000 in
theorem linkOf_ (w0 w : World) (k : Nat) (t4 t6 : Tn) (h : Tbm w0 k t4 t6) (hb : Below w0.heap.size w0 w) (p : Wy) (hp : p.In) (ha : va p.F p.H p.L = true) (hpB : p.B ≤ nb p.F) (hwf : Wf p.F (tF p.F t4 t6)) :
    Calls Try.prog 41 #[.pointer (some ⟨k, 0, none⟩), .agg #[.int .i64 p.F, .int .u64 p.H, .int .u64 p.L, .int .i64 p.B]] w fun e w' => e = .returned (.int .i64 (lk p (pth (nb p.F) p.A p.B (tF p.F t4 t6)))) ∧ Below w.heap.size w w' := by
  have hmx : Try.prog.follows .mixedOrders = true := by kernel_rfl
  have B0 := (pnew w p.F p.H p.L p.B).alloc (by simp) (.cells #[.int .i64 0] 3)
  have m0 := (Pm.new w p.F p.H p.L p.B).alloc (.cells #[.int .i64 0] 3)
  have b0 := Boxed.new (w.alloc (.cells #[.int .i64 p.F, .int .u64 p.H, .int .u64 p.L, .int .i64 p.B] 32)) 3 (.int .i64 0)
  rw [World.size_alloc] at b0
  have hb1 := hb.trans (B0.mono hb.size)
  have kp := path_ w0 _ k t4 t6 h hb1 p hp ha hpB hwf
  have HT := hid (h.nd p.F)
  obtain ⟨R, HR⟩ : ∃ R, Hid (lk p (pth (nb p.F) p.A p.B (tF p.F t4 t6)) = R) := ⟨_, rfl⟩
  rw [HR.out]
  have c0 := m0.c0
  have c1 := m0.c1
  have c2 := m0.c2
  have c3 := m0.c3
  clear h hwf ha hpB hp
  refine (callsIn_wide (n := 9)).1 ?_
  refine callsIn_of_wp_marks Try.func41 rfl trivial ?_ rfl
  simp only [Try.ntmps41, List.size_toArray, List.length_cons, List.length_nil, Nat.reduceAdd, Nat.reduceSub, Array.replicate_succ, Array.replicate_zero, List.push_toArray, List.append_toArray, List.nil_append, List.cons_append]
  gi_wp2_with (refine ⟨trivial, ?_⟩; gi_at_call 36; refine (callsIn_wide.2 kp).mono ?_; rintro e w2 ⟨⟨lb, rfl, hseq⟩, g2⟩)
  clear kp c0 c1 c2 c3
  simp only [World.size_alloc] at hseq
  have hsz : w.heap.size + 2 ≤ w2.heap.size := by have := g2.size; simp only [World.size_alloc] at this; omega
  replace m0 := m0.kept g2
  replace b0 := b0.kept (grown_of_below g2) (fun e => by cases e)
  replace B0 := bel_bel B0 B0.size g2
  have hb2 : Below w0.heap.size w0 w2 := hb.trans (B0.mono hb.size)
  have hw0 := hb.size
  clear g2 hb1
  refine with_act (fun A hA => ?_)
  refine wpIn_rangeFunc_ownH rfl (by omega) (gf := 52) (lb := lb) (by rw [hA]; rfl) trivial (enters_of Try.func52 (by kernel_rfl) rfl) (hseq 8 (by omega)) Kq.t (Kq.b (by omega) (Nat.le_refl _)) (Below.refl _ _) (fun _ => rfl)
    (fun pre W => Below w2.heap.size w2 W ∧ ∀ z ∈ pre, z.1.2.sm p = false)
    (fun c pre W => (∃ pre' z, pre = pre' ++ [z] ∧ c = .ret ∧ (∀ y ∈ pre', y.1.2.sm p = false) ∧ z.1.2.sm p = true ∧ Boxed W (w.heap.size + 1) 3 (.int .i64 z.1.2.K)) ∧ Below w.heap.size w W)
    (OwnFrom.and (ownFrom_below (Nat.le_refl _) (Nat.le_refl _)) (fun _ _ _ _ hs _ _ => hs))
    (fun c => OwnFrom.and (fun s X Y row hs hg hr => by
      obtain ⟨pre', z, h1, h2, h3, h4, h5⟩ := hs
      exact ⟨pre', z, h1, h2, h3, h4, Own.from (boxed_own (w.heap.size + 1) 3 (fun _ : Unit => Value.int .i64 z.1.2.K)) _ () X Y row h5 hg hr⟩) (ownFrom_below (Nat.le_refl _) (by omega)))
    ⟨Below.refl _ _, fun z hz => (by cases hz)⟩
    (fun x a' W => a' = { tmps := (A.tmps.setIfInBounds 9 (.pointer (some ⟨x.1.1, 0, none⟩))).setIfInBounds 5 (.pointer (some ⟨x.1.1, 0, none⟩)), defers := [] })
    (fun x a' _ X Y row hs hg hr => hs)
    ?assign ?body ?done ?stop
  case assign =>
    subst hA
    rintro lp pre x W K hi hK
    gi_wp2
    refine hK _ _ (KeepsFrom.refl _ _) (Kq.refl _ _ _ _) hi ?_
    simp only [List.setIfInBounds_toArray, List.set_cons_zero, List.set_cons_succ]
  case body =>
    subst hA
    rintro lp pre x a' W hlp _ ⟨hB, hall⟩ ha hlt
    simp only [List.setIfInBounds_toArray, List.set_cons_zero, List.set_cons_succ] at ha
    subst ha
    obtain ⟨lv, rv, mn⟩ := HT.out.mem x.1 x.2
    replace mn := mn.at ((hB.block _ (by have := mn.lt; omega)).trans (hb2.block _ mn.lt))
    have mp := m0.at (hB.block _ (by omega))
    have bx := b0.kept (grown_of_below hB) (fun e => by cases e)
    have c0 := mn.c0
    have c1 := mn.c1
    have c2 := mn.c2
    have c3 := mn.c3
    have c4 := mn.c4
    have f0 := mp.c0
    have f1 := mp.c1
    have f2 := mp.c2
    have f3 := mp.c3
    have HALL := hid hall
    have hlt2 : w2.heap.size ≤ W.heap.size := hB.size
    clear mn mp hall
    have q1 := fun w => eqp_sm x.1.2 p w
    obtain ⟨⟨zb, z⟩, hz⟩ := x
    simp only at c0 c1 c2 c3 c4 q1
    cases hs : z.sm p with
    | false =>
      rw [hs] at q1
      gi_wp2
      refine quiet_r (C := fun w' => ∃ n, w' = W.drewN n) hmx ?hq (by simp) (by kernel_rfl) ⟨1, rfl⟩ ?_
      case hq => rintro ⟨_, _, hh⟩; exact hh
      repeat (go_big_quiet_step (fail))
      refine wpQuiet_nil ?_
      rintro _ ⟨nq, rfl⟩
      gi_wp2
      have G : Gs (fun _ => False) W (W.drewN nq) := (Gs.refl _ W).below (bel_drawn (Below.refl _ _) _)
      refine ⟨G.keeps (fun j h => h.elim), G.kq (fun _ h => h.elim) (by omega) hlt2 (fun _ h => h.elim), bel_drawn hB nq, fun y hy => ?_⟩
      rcases List.mem_append.1 hy with hy | hy
      · exact HALL.out y hy
      · rw [List.mem_singleton] at hy
        subst hy
        exact hs
    | true =>
      rw [hs] at q1
      have cR := bx.cell
      have fR := bx.frozen
      gi_wp2
      refine quiet_r (C := fun w' => ∃ n, w' = W.drewN n) hmx ?hq (by simp) (by kernel_rfl) ⟨1, rfl⟩ ?_
      case hq => rintro ⟨_, _, hh⟩; exact hh
      repeat (go_big_quiet_step (fail))
      refine wpQuiet_nil ?_
      rintro _ ⟨nq, rfl⟩
      gi_wp2
      have bq : Boxed (W.drewN nq) (w.heap.size + 1) 3 (.int .i64 0) := bx
      have G : Gs (fun j => j = w.heap.size + 1) W ((W.drewN nq).setCell ⟨w.heap.size + 1, 0, none⟩ (.int .i64 z.K)) := Gs.set (M := fun j => j = w.heap.size + 1) ((Gs.refl _ W).below (bel_drawn (Below.refl _ _) _)) (.inl rfl) _
      have Bw : Below w.heap.size w ((W.drewN nq).setCell ⟨w.heap.size + 1, 0, none⟩ (.int .i64 z.K)) := (bel_drawn (bel_bel B0 B0.size hB) nq).setCell (p := ⟨w.heap.size + 1, 0, none⟩) (by show w.heap.size ≤ w.heap.size + 1; omega) _
      exact ⟨G.keeps (fun j h => by omega), ⟨pre, ⟨(zb, z), hz⟩, rfl, rfl, HALL.out, hs, bq.set _⟩, Bw⟩
  case done =>
    subst hA
    rintro D ys W hD hys ⟨hB, hall⟩ hK
    have HR0 : Hid (R = 0) := by
      show _ = _
      rw [← HR.out]
      refine lk_none (fun z hz => ?_)
      rw [← hys, List.mem_map] at hz
      obtain ⟨y, hy, rfl⟩ := hz
      exact hall y hy
    have bx := b0.kept (grown_of_below hB) (fun e => by cases e)
    have cR := bx.cell
    have fR := bx.frozen
    have Bw := (bel_bel B0 B0.size hB).setCell (p := ⟨w.heap.size + 1, 0, none⟩) (by show w.heap.size ≤ w.heap.size + 1; omega) (.int .i64 0)
    have hK2 := (Below.heap_setCell W ⟨w.heap.size + 1, 0, none⟩ (.int .i64 0) D (by show D ≠ w.heap.size + 1; omega)).trans hK
    have b2 := (bx.set (.int .i64 0)).cell
    clear hys hall
    gi_wp2
    refine ⟨by simp, .inl ⟨_, _, rfl, run_takeDeferred hK2, ?_⟩⟩
    have r4 := cell_kept b2 (grownBy_putObj' _ D (.deferred none)) (fun r e => by cases e; exact ⟨_, hK2, rfl⟩)
    refine ⟨.int .i64 0, ?_, by rw [HR0.out], Bw.trans (belowK_b (w := w) (Nat.le_refl _) _ D _ _ (by omega) hK2 rfl rfl)⟩
    simp [results, Try.f41, go_sem, r4]
  case stop =>
    subst hA
    rintro D c pre W hD hsp ⟨⟨pre', z, rfl, rfl, h3, h4, h5⟩, hB⟩ hK
    have HRK : Hid (R = z.1.2.K) := by
      show _ = _
      rw [← HR.out]
      rw [List.map_append] at hsp
      refine lk_some (fun y hy => ?_) h4 hsp
      obtain ⟨y', hy', rfl⟩ := List.mem_map.1 hy
      exact h3 y' hy'
    have b2 := h5.cell
    clear hsp h3 h4
    gi_wp2
    refine ⟨by simp, .inl ⟨_, _, rfl, run_takeDeferred hK, ?_⟩⟩
    have r4 := cell_kept b2 (grownBy_putObj' _ D (.deferred none)) (fun r e => by cases e; exact ⟨_, hK, rfl⟩)
    refine ⟨.int .i64 z.1.2.K, ?_, by rw [HRK.out], hB.trans (belowK_b (w := w) (Nat.le_refl _) _ D _ _ (by omega) hK rfl rfl)⟩
    simp [results, Try.f41, go_sem, r4]
end Go.Proofs.Ytcaecfdeieoenaa
