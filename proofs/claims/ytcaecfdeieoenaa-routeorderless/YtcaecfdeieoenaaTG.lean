import Derived.Test.YtcaecfdeieoenaaTF
import Derived.Test.YtcaecfdeieoenaaRH
namespace Go.Proofs.Ytcaecfdeieoenaa
set_option maxRecDepth 100000
open Go.RowKit Go.Shelf
set_option linter.unusedVariables false
attribute [local go_sem] Oper.semAt_some

set_option maxHeartbeats 1000000 in
theorem rall_ (w0 w : World) (v : Value) (l : List Wy) (h : Tr w0 v l) (hb : Below w0.heap.size w0 w) (hlen : l.length ≤ 99999) :
    Calls Try.prog 13 #[v] w fun e w' => (∃ (gf : Nat) (lb : Array Value), e = .returned (.func (.func gf) #[] lb) ∧ (∀ args w, (callFunc gf args).run Try.prog w = .ok (.enter gf args) w) ∧ ∀ n, 1 ≤ n → SeqStopsK Fence.wide n Try.prog gf lb (fun x : Wi => #[x.1.px, .int .i64 x.1.K]) (Kq w0.heap.size w.heap.size w'.heap.size) (fun ys => ys.map (·.1) = l) (fun pre => pre.map (·.1) <+: l) l.length w') ∧ Below w.heap.size w w' := by
  obtain ⟨k, t4, t6, rfl, htb, hw4, hw6, hl, hm⟩ := h
  obtain ⟨xs, hx⟩ := subs l (fun y hy => (hl.2 y hy).1)
  have HSQ : Hid (∀ n, 1 ≤ n → SeqStopsK Fence.wide n Try.prog 27 #[.pointer (some ⟨w.heap.size, 0, none⟩)] (fun x : Wi => #[x.1.px, .int .i64 x.1.K]) (Kq w0.heap.size w.heap.size (w.heap.size + 1)) (fun ys => ys.map (·.1) = l) (fun pre => pre.map (·.1) <+: l) l.length (w.alloc (.cells #[.pointer (some ⟨k, 0, none⟩)] 40))) := by
    intro n hn lp J Jx W hW hJ hJx hY h0
    have hs := hW.size
    simp only [World.size_alloc] at hs
    have hb2 : Below w0.heap.size w0 W := hb.trans (((Below.refl w0.heap.size w).alloc hb.size _).trans (hW.mono (by simp; have := hb.size; omega)))
    have hT : Tbm W k t4 t6 := htb.kept hb2
    refine (all1_ n hn lp w0.heap.size w.heap.size (w.heap.size + 1) w.heap.size k t4 t6 l xs hx hl hlen hw4 hw6 hm (fun z hz => ?_) J Jx
      (fun pre A B hj hbl => hJ pre A B none hj (grown_of_below hbl) (fun r e => by cases e))
      (fun pre x W1 hj hlt => hY pre x W1 hj (by rw [← hx, List.length_map]; exact hlt)) W h0 ?_ hT).mono ?_
    · rcases List.mem_append.1 hz with hz | hz
      · exact htb.2.1.lt z ((gs_mem z t4).1 hz).1
      · exact htb.2.2.lt z ((gs_mem z t6).1 hz).1
    · exact (hW.block _ (by simp)).trans (heap_alloc_new _ _)
    · rintro e W' ⟨hv, ⟨ys, rfl, hj⟩ | ⟨pre, hp, hj⟩⟩
      · exact ⟨hv, .inl ⟨ys, hx, hj⟩⟩
      · refine ⟨hv, .inr ⟨pre, ?_, hj⟩⟩
        rw [← hx]
        exact hp.map _
  clear hx
  go_enter Try.func13, Try.ntmps13
  go_wp2_with fail
  go_ret
  refine ⟨⟨27, _, rfl, enters_of Try.func27 (by kernel_rfl) rfl, ?_⟩, (Below.refl _ _).alloc (Nat.le_refl _) _⟩
  simp only [World.size_alloc]
  exact HSQ.out
set_option maxHeartbeats 1000000 in
theorem rlen_ (w : World) (v : Value) (l : List Wy) (h : Tr w v l) (hlen : l.length ≤ 99999) : Calls Try.prog 17 #[v] w fun e w' => e = .returned (.int .i64 l.length) ∧ Below w.heap.size w w' := by
  have B0 : Below w.heap.size w (w.alloc (.cells #[.int .i64 0] 3)) := (Below.refl _ _).alloc (Nat.le_refl _) _
  have ka := rall_ w _ v l h B0 hlen
  have b0 := Boxed.new w 3 (.int .i64 0)
  obtain ⟨k, _, _, rfl, _⟩ := h
  refine (callsIn_wide (n := 9)).1 ?_
  refine callsIn_of_wp_marks Try.func17 rfl trivial ?_ rfl
  simp only [Try.ntmps17, List.size_toArray, List.length_cons, List.length_nil, Nat.reduceAdd, Nat.reduceSub, Array.replicate_succ, Array.replicate_zero, List.push_toArray, List.append_toArray, List.nil_append, List.cons_append]
  gi_wp2_with (refine ⟨trivial, ?_⟩; gi_at_call 13; refine (callsIn_wide.2 ka).mono ?_; rintro e w2 ⟨⟨gf, lb, rfl, eg, hseq⟩, g2⟩)
  clear ka
  simp only [World.size_alloc] at hseq
  have hsz : w.heap.size + 1 ≤ w2.heap.size := by have := g2.size; simp only [World.size_alloc] at this; omega
  replace b0 := b0.kept (grown_of_below g2) (fun e => by cases e)
  replace B0 := bel_bel B0 B0.size g2
  clear g2
  refine with_act (fun A hA => ?_)
  refine wpIn_rangeFunc_ownH rfl (by omega) (gf := gf) (lb := lb) (by rw [hA]; rfl) trivial eg (hseq 8 (by omega)) Kq.t (Kq.b (by omega) (Nat.le_refl _)) (Below.refl _ _) (fun _ => rfl)
    (fun pre W => Boxed W w.heap.size 3 (.int .i64 (pre.length : Int)) ∧ (Gs (fun j => j = w.heap.size) w2 W ∧ Below w.heap.size w W))
    (fun _ _ _ => False)
    (OwnFrom.and (Own.from (boxed_own _ _ (fun pre : List Wi => Value.int .i64 (pre.length : Int))) _) (OwnFrom.and (ownFrom_gs (Nat.le_refl _)) (ownFrom_below (Nat.le_refl _) (by omega))))
    (fun _ _ _ _ _ hs _ _ => hs)
    ⟨b0, Gs.refl _ _, B0⟩
    (fun x a' W => a' = { tmps := (A.tmps.setIfInBounds 6 x.1.px).setIfInBounds 7 (.int .i64 x.1.K), defers := [] })
    (fun x a' _ X Y row hs hg hr => hs)
    ?assign ?body ?done ?stop
  case assign =>
    subst hA
    rintro lp pre x W K hi hK
    gi_wp2
    refine hK _ _ (KeepsFrom.refl _ _) (Kq.refl _ _ _ _) hi ?_
    simp only [List.setIfInBounds_toArray, List.set_cons_zero, List.set_cons_succ]
  case body =>
    subst hA
    rintro lp pre x a' W hlp _ ⟨bL, G1, Bw⟩ ha hlt
    simp only [List.setIfInBounds_toArray, List.set_cons_zero, List.set_cons_succ] at ha
    subst ha
    have cL := bL.cell
    have fL := bL.frozen
    have hsz1 := G1.1
    have hNR := Nr.boxed bL (by decide)
    have hln : (pre.length : Int) ≤ 99999 := by omega
    generalize x.1.px = xp at *
    generalize x.1.K = xk at *
    gi_wp2
    have Gd : Gs (fun j => j = w.heap.size) W (W.setCell ⟨w.heap.size, 0, none⟩ (.int .i64 ((pre.length : Int) + 1))) := Gs.set (M := fun j => j = w.heap.size) (Gs.refl _ W) (.inl rfl) _
    refine ⟨Gd.keeps (fun j h => by omega), Gd.kq (fun j h => by omega) (by omega) hsz1 (fun j h => by subst h; exact hNR), ?_, G1.trans Gd, Bw.setCell (p := ⟨w.heap.size, 0, none⟩) (Nat.le_refl _) _⟩
    rw [List.length_append, List.length_singleton, Int.natCast_add]
    exact bL.set _
  case done =>
    subst hA
    rintro D ys W hD hys ⟨bR, G1, Bw⟩ hK
    have HE : Hid ((ys.length : Int) = l.length) := by
      show _ = _
      rw [← hys, List.length_map]
    rw [HE.out] at bR
    have cR := bR.cell
    clear hys
    gi_wp2
    refine ⟨by simp, .inl ⟨_, _, rfl, run_takeDeferred hK, ?_⟩⟩
    exact ⟨_, results_tmp rfl _ _ _, rfl, Bw.trans (belowK_b (w := w) (Nat.le_refl _) _ D _ _ (by omega) hK rfl rfl)⟩
  case stop =>
    rintro D c pre W _ _ h _
    exact h.elim
theorem rte : Rte Tr where
  kept := Tr.kept
  ptr := fun h => by
    obtain ⟨k, _, _, e, _⟩ := h
    exact ⟨_, e⟩
  tl := fun h => by
    obtain ⟨_, _, _, _, _, _, _, h, _⟩ := h
    exact h
  new_ := new_
  with_ := fun w v l p h hp _ => rwith_ w v l p h hp
  without_ := fun w v l p h hp _ => rwithout_ w v l p h hp
  find_ := fun w v l F H L h hF hH hL _ => by
    obtain ⟨k, t4, t6, rfl, htb, hw4, hw6, hl, hm⟩ := h
    exact rfind_ w w k t4 t6 l htb (Below.refl _ _) hl hw4 hw6 hm F H L hF hH hL
  len_ := fun w v l h hl => rlen_ w v l h hl
  all_ := fun w0 w v l h hb hl => rall_ w0 w v l h hb hl
theorem ofw : Ofw Tr := fun w w' v l h hs hm => by
  obtain ⟨k, t4, t6, rfl, htb, h2⟩ := h
  have nl : ∀ {b : Nat} {cs : Array Value} {t : TypeId}, w.heap[b]? = some (.cells cs t (0, 0)) → t ≠ 40 → t ≠ 41 → t ≠ 38 → w'.heap[b]? = w.heap[b]? := fun {b cs t} hb h1 h2 h3 => hm b (Array.getElem?_eq_some_iff.1 hb).1 (fun hl => by
    obtain ⟨cur, t', e, h⟩ := hl
    rw [hb] at e
    simp at e
    obtain ⟨_, rfl⟩ := e
    rcases h with h | h | h
    · exact h1 h
    · exact h2 h
    · exact h3 h)
  have nd : ∀ {t : Tn}, Nd w t → Nd w' t := fun {t} h => h.at (fun z hz => by
    obtain ⟨l, r, hn⟩ := h.mem z hz
    exact nl hn (by decide) (by decide) (by decide))
  exact ⟨k, t4, t6, rfl, ⟨(nl htb.1 (by decide) (by decide) (by decide)).trans htb.1, nd htb.2.1, nd htb.2.2⟩, h2⟩
end Go.Proofs.Ytcaecfdeieoenaa
