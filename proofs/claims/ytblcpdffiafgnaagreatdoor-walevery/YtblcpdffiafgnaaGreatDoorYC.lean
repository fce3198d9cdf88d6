import Derived.Test.YtblcpdffiafgnaaGreatDoorYD
namespace Go.Proofs.YtblcpdffiafgnaaGreatDoor
set_option linter.unusedSimpArgs false
set_option maxRecDepth 100000
open Go.RowKit Go.Shelf
set_option linter.unusedVariables false
attribute [local go_sem] Oper.semAt_some

theorem transactions_ (p : Option Addr) (w : World) :
    Calls Tryz.prog 57 #[.pointer p] w fun e w' => e = .returned (.func (.func 77) #[] #[.pointer (some ⟨w.heap.size, 0, none⟩)]) ∧ w' = w.alloc (.cells #[.pointer p] 36) := by
  have hmf : ∀ fn first cap w, (Instr.makeFunc fn first cap).run Tryz.prog w = .ok (.func fn first cap) w := fun _ _ _ _ => rfl
  go_enter Tryz.func57, Tryz.ntmps57
  go_wp2_with fail
  go_ret
  exact ⟨rfl, rfl⟩
/-- What Open answers. -/
def opPost (N B : Nat) (Q : Nat → Prop) (w' : World) (en : Ending) (d mi : Nat) (s' : St) (r : Except Int (Option (List Int × List (List Int) × Nat × Nat × Nat))) : Prop :=
  match r with
  | .error E => en = .returned (.tuple #[.pointer none, .slice none 0 0, .slice none 0 0, .int .i64 E])
  | .ok none => en = .returned (.tuple #[.pointer none, .slice none 0 0, .slice none 0 0, .int .i64 110])
  | .ok (some (st, txs, ep, nx, pl)) => ∃ (g : Nat) (v vt : Value) (xs : List Yx), en = .returned (.tuple #[.pointer (some ⟨g, 0, none⟩), v, vt, .int .i64 0]) ∧ B ≤ g ∧ w'.ownsRow B 5 1 v st.length (cells st) ∧ By st ∧ w'.ownsRow B 27 1 vt xs.length (xs.map (·.v)) ∧ xs.map Yx.tx = txs ∧ (∀ x ∈ xs, w'.ownsRow B 5 1 x.v x.tx.length (cells x.tx) ∧ By x.tx) ∧ Wq w' g d mi ep nx pl false false s' Q ∧ pl ≤ roo N ∧ mq ep
theorem onP_run (N : Nat) (s : St) : (onP N).run s = match (fnP N).run s with
    | (.ok (some (x, st)), s') => (match (lgP N x.e (roo N + 1) x.s x.K).run s' with
      | (.ok r, s'') => (.ok (some (st, r.1, x.e, r.2.1, r.2.2)), s'')
      | (.error E, s'') => (.error E, s''))
    | (.ok none, s') => (.ok none, s')
    | (.error E, s') => (.error E, s') := by
  unfold onP
  rw [Rp.run_bind]
  generalize (fnP N).run s = r
  obtain ⟨r1, s'⟩ := r
  cases r1 with
  | error E => rfl
  | ok o =>
    cases o with
    | none => rfl
    | some y =>
      obtain ⟨x, st⟩ := y
      simp only
      rw [Rp.run_bind]
      generalize (lgP N x.e (roo N + 1) x.s x.K).run s' = r2
      obtain ⟨r2, s''⟩ := r2
      cases r2 <;> rfl
theorem Dev.belB {w w' : World} {d B : Nat} {s : St} {Q : Nat → Prop} (h : Dev w d s Q) (hQ : ∀ b, Q b → b < B) (hb : Below B w w') : Dev w' d s Q := by
  obtain ⟨_, _, _, _, _, _, _, _, _, _, hd⟩ := h
  exact ⟨_, _, _, _, _, _, _, _, _, _, hd.keep hb.size (fun b q => hb.block b (hQ b q))⟩
/-- The four cells of Open's answer are stored. -/
theorem four12 {W : World} {B0 : Nat} {t0 t1 t2 t3 : TypeId} {u0 u1 u2 u3 : Value} (y0 : Boxed W B0 t0 u0) (y1 : Boxed W (B0 + 1) t1 u1) (y2 : Boxed W (B0 + 1 + 1) t2 u2) (y3 : Boxed W (B0 + 1 + 1 + 1) t3 u3) (v0 v1 v2 v3 : Value) :
    ∃ W5, Hid ((((W.setCell ⟨B0, 0, none⟩ v0).setCell ⟨B0 + 1, 0, none⟩ v1).setCell ⟨B0 + 1 + 1, 0, none⟩ v2).setCell ⟨B0 + 1 + 1 + 1, 0, none⟩ v3 = W5) ∧ Boxed W5 B0 t0 v0 ∧ Boxed W5 (B0 + 1) t1 v1 ∧ Boxed W5 (B0 + 1 + 1) t2 v2 ∧ Boxed W5 (B0 + 1 + 1 + 1) t3 v3 ∧ Below B0 W W5 ∧ KeepsOthers W W5 ∧ (∀ b, (b < B0 ∨ B0 + 1 + 1 + 1 < b) → W5.heap[b]? = W.heap[b]?) ∧ W5.heap.size = W.heap.size := by
  refine ⟨_, rfl, (((y0.set _).other (by omega) _).other (by omega) _).other (by omega) _, (((y1.other (by omega) _).set _).other (by omega) _).other (by omega) _, (((y2.other (by omega) _).other (by omega) _).set _).other (by omega) _, ((((y3.other (by omega) _).other (by omega) _).other (by omega) _).set _), ?_, ?_, ?_, by simp⟩
  · exact bel_set (bel_set (bel_set (bel_set (Below.refl _ _) (Nat.le_refl _) _) (by omega) _) (by omega) _) (by omega) _
  · exact ((KeepsOthers.setCell W _ _).trans (KeepsOthers.setCell _ _ _)).trans ((KeepsOthers.setCell _ _ _).trans (KeepsOthers.setCell _ _ _))
  · intro b hb
    exact (Below.heap_setCell _ _ _ _ (by show b ≠ B0 + 1 + 1 + 1; omega)).trans ((Below.heap_setCell _ _ _ _ (by show b ≠ B0 + 1 + 1; omega)).trans ((Below.heap_setCell _ _ _ _ (by show b ≠ B0 + 1; omega)).trans (Below.heap_setCell _ _ _ _ (by show b ≠ B0; omega))))
theorem run_ne0 {α : Type} : ∀ (r : Rp α) (s : St) (E : Int), (r.run s).1 = .error E → E ≠ 0 := fun r => by
  induction r with
  | ret a => intro s E h; cases h
  | rd i k ih =>
    intro s E h
    unfold Rp.run at h
    by_cases h0 : opE s = 0
    · rw [if_pos h0] at h
      exact ih _ _ _ h
    · rw [if_neg h0] at h
      cases h
      exact h0
theorem run_SP {α : Type} : ∀ (r : Rp α) (s : St), (r.run s).2.S = s.S ∧ (r.run s).2.P = s.P := fun r => by
  induction r with
  | ret a => intro s; exact ⟨rfl, rfl⟩
  | rd i k ih =>
    intro s
    unfold Rp.run
    split
    · obtain ⟨h1, h2⟩ := ih (gs (layA s.S s.P i)) (opS s)
      exact ⟨h1.trans (opS_S' s), h2.trans (opS_P' s)⟩
    · exact ⟨opS_S' s, opS_P' s⟩
set_option maxHeartbeats 8000000 in
theorem open_ (d : Nat) (s : St) (Q : Nat → Prop) (w : World) (h : Dev w d s Q) (hT : Tab w) (h0 : ¬ Q 0) (hsc : s.c ≤ 40000) (hP : s.P.length ≤ 90000) (hk : s.k ≤ 1000000) :
    Calls Tryz.prog 27 #[.pointer (some ⟨d, 0, none⟩)] w fun en w' => opPost s.n w.heap.size Q w' en d (s.k + 1) ((onP s.n).run { s with k := s.k + 1 }).2 ((onP s.n).run { s with k := s.k + 1 }).1 ∧ Dev w' d ((onP s.n).run { s with k := s.k + 1 }).2 Q ∧ Fr Q w w' := by
  have hmx : Tryz.prog.follows .mixedOrders = true := by kernel_rfl
  have hN := h.n
  have HRO := hid (onP_run s.n { s with k := s.k + 1 })
  obtain ⟨RO, HR⟩ : ∃ RO, Hid ((onP s.n).run { s with k := s.k + 1 } = RO) := ⟨_, rfl⟩
  rw [HR.out] at HRO ⊢
  have hlt := hid h.lt
  have hw0 : 0 < w.heap.size := hT.1
  obtain ⟨W1, HW1⟩ : ∃ W1, Hid ((((w.alloc (.cells #[.pointer none] 36)).alloc (.cells #[.slice none 0 0] 27)).alloc (.cells #[.slice none 0 0] 37)).alloc (.cells #[.int .i64 0] 47) = W1) := ⟨_, rfl⟩
  have sz1 : W1.heap.size = w.heap.size + 1 + 1 + 1 + 1 := by rw [← HW1.out]; simp
  have B1 : Below w.heap.size w W1 := by
    rw [← HW1.out]
    exact ((((Below.refl _ _).alloc (Nat.le_refl _) _).alloc (by simp) _).alloc (by simp; omega) _).alloc (by simp; omega) _
  have b0 : Boxed W1 w.heap.size 36 (.pointer none) := by
    rw [← HW1.out]
    exact (((Boxed.new w 36 (.pointer none)).alloc _).alloc _).alloc _
  have b1 : Boxed W1 (w.heap.size + 1) 27 (.slice none 0 0) := by
    rw [← HW1.out]
    have := ((Boxed.new (w.alloc (.cells #[.pointer none] 36)) 27 (.slice none 0 0)).alloc (.cells #[.slice none 0 0] 37)).alloc (.cells #[.int .i64 0] 47)
    simpa using this
  have b2 : Boxed W1 (w.heap.size + 1 + 1) 37 (.slice none 0 0) := by
    rw [← HW1.out]
    have := (Boxed.new ((w.alloc (.cells #[.pointer none] 36)).alloc (.cells #[.slice none 0 0] 27)) 37 (.slice none 0 0)).alloc (.cells #[.int .i64 0] 47)
    simpa using this
  have b3 : Boxed W1 (w.heap.size + 1 + 1 + 1) 47 (.int .i64 0) := by
    rw [← HW1.out]
    have := Boxed.new (((w.alloc (.cells #[.pointer none] 36)).alloc (.cells #[.slice none 0 0] 27)).alloc (.cells #[.slice none 0 0] 37)) 47 (.int .i64 0)
    simpa using this
  have kc := claimD (h.below B1) hk
  have HT1 := hid (hT.bel B1)
  refine (callsIn_wide (n := 9)).1 ?_
  refine callsIn_of_wp_marks Tryz.func27 rfl trivial ?_ rfl
  simp only [Tryz.ntmps27, List.size_toArray, List.length_cons, List.length_nil, Nat.reduceAdd, Nat.reduceSub, Array.replicate_succ, Array.replicate_zero, List.push_toArray, List.append_toArray, List.nil_append, List.cons_append]
  gi_wp2_with fail
  rw [HW1.out]
  refine ⟨trivial, (callsIn_wide.2 kc).mono ?_⟩
  rintro en w2 ⟨rfl, D2, F2⟩
  simp only
  have nq : ∀ b, w.heap.size ≤ b → ¬ Q b := fun b hb q => by have := hlt.out b q; omega
  have hsz := F2.size
  have F0 : Fr Q w w2 := (Fr.ofB B1 : Fr Q w W1).trans F2
  have HT2 := HT1.out.fr F2 h0
  obtain ⟨mi, Hmi⟩ : ∃ mi, Hid (s.k + 1 = mi) := ⟨_, rfl⟩
  obtain ⟨sc, Hs2⟩ : ∃ sc : St, Hid ({ s with k := s.k + 1 } = sc) := ⟨_, rfl⟩
  have hs2n : sc.n = s.n := by rw [← Hs2.out]
  have hs2c : sc.c = s.c := by rw [← Hs2.out]
  have hs2P : sc.P = s.P := by rw [← Hs2.out]
  rw [Hs2.out] at D2 HRO HR
  rw [Hmi.out]
  have B3 : Below w2.heap.size w2 (w2.alloc (.cells #[.pointer (some ⟨d, 0, none⟩), .int .i64 mi, .int .i64 0, .int .i64 0, .int .i64 0, .bool false, .bool false] 83)) := (Below.refl _ _).alloc (Nat.le_refl _) _
  have L3 : Wm (w2.alloc (.cells #[.pointer (some ⟨d, 0, none⟩), .int .i64 mi, .int .i64 0, .int .i64 0, .int .i64 0, .bool false, .bool false] 83)) w2.heap.size d mi 0 0 0 false false := heap_alloc_new w2 _
  have Q3 : Wq (w2.alloc (.cells #[.pointer (some ⟨d, 0, none⟩), .int .i64 mi, .int .i64 0, .int .i64 0, .int .i64 0, .bool false, .bool false] 83)) w2.heap.size d mi 0 0 0 false false sc Q := ⟨L3, D2.below B3, nq _ (by omega), HT2.bel B3, h0, by omega⟩
  have x0 := hid ((box12 b0 (F2.same _ b0.lt (nq _ (Nat.le_refl _)))).alloc (.cells #[.pointer (some ⟨d, 0, none⟩), .int .i64 mi, .int .i64 0, .int .i64 0, .int .i64 0, .bool false, .bool false] 83))
  have x1 := hid ((box12 b1 (F2.same _ b1.lt (nq _ (by omega)))).alloc (.cells #[.pointer (some ⟨d, 0, none⟩), .int .i64 mi, .int .i64 0, .int .i64 0, .int .i64 0, .bool false, .bool false] 83))
  have x2 := hid ((box12 b2 (F2.same _ b2.lt (nq _ (by omega)))).alloc (.cells #[.pointer (some ⟨d, 0, none⟩), .int .i64 mi, .int .i64 0, .int .i64 0, .int .i64 0, .bool false, .bool false] 83))
  have x3 := hid ((box12 b3 (F2.same _ b3.lt (nq _ (by omega)))).alloc (.cells #[.pointer (some ⟨d, 0, none⟩), .int .i64 mi, .int .i64 0, .int .i64 0, .int .i64 0, .bool false, .bool false] 83))
  have F3 := F0.below B3
  obtain ⟨g, Hg⟩ : ∃ g, Hid (w2.heap.size = g) := ⟨_, rfl⟩
  have szg : w.heap.size + 1 + 1 + 1 + 1 ≤ g := by rw [← Hg.out]; omega
  have sz3 : (w2.alloc (.cells #[.pointer (some ⟨d, 0, none⟩), .int .i64 mi, .int .i64 0, .int .i64 0, .int .i64 0, .bool false, .bool false] 83)).heap.size = g + 1 := by rw [World.size_alloc, Hg.out]
  rw [Hg.out] at Q3
  have ke := enter_ g d mi 0 0 0 sc Q _ Q3 (by omega) (by rw [hs2P]; exact hP)
  rw [hs2n] at ke
  have HQ3 := hid Q3
  have HF3 := hid F3
  have HSZ := hid sz3
  have Hsc := hid (And.intro hs2n (And.intro hs2c hs2P))
  have Hnq := hid nq
  clear kc D2 F2 F0 HT2 B3 L3 Q3 F3 sz3 b0 b1 b2 b3 hsz h hT B1 HT1 sz1 hs2n hs2c hs2P nq
  gi_wp2_with fail
  rw [Hg.out]
  obtain ⟨W3, HW3⟩ : ∃ W3, Hid (w2.alloc (.cells #[.pointer (some ⟨d, 0, none⟩), .int .i64 mi, .int .i64 0, .int .i64 0, .int .i64 0, .bool false, .bool false] 83) = W3) := ⟨_, rfl⟩
  rw [HW3.out] at x0 x1 x2 x3 HQ3 HF3 HSZ ke ⊢
  obtain ⟨RE, HRE⟩ : ∃ RE, Hid ((fnP s.n).run sc = RE) := ⟨_, rfl⟩
  have hne0 := fun E (h : RE.1 = .error E) => run_ne0 (fnP s.n) sc E (by rw [HRE.out]; exact h)
  rw [HRE.out] at ke HRO
  obtain ⟨re, se⟩ := RE
  simp only at ke HRO hne0
  refine ⟨trivial, (callsIn_wide.2 ke).mono ?_⟩
  rintro en w4 ⟨hen, D4, F4, hc4⟩
  obtain ⟨B0, HB0⟩ : ∃ B0, Hid (w.heap.size = B0) := ⟨_, rfl⟩
  have hgq : ∀ b, w.heap.size ≤ b → b < g → ¬ Qg Q g b := fun b h1 h2 q => q.elim (Hnq.out b h1) (fun e => by omega)
  have y0 := box12 x0.out (F4.same _ x0.out.lt (hgq _ (Nat.le_refl _) (by omega)))
  have y1 := box12 x1.out (F4.same _ x1.out.lt (hgq _ (by omega) (by omega)))
  have y2 := box12 x2.out (F4.same _ x2.out.lt (hgq _ (by omega) (by omega)))
  have y3 := box12 x3.out (F4.same _ x3.out.lt (hgq _ (by omega) (by omega)))
  have F5 : Fr Q w w4 := ⟨F4.os.trans HF3.out.os, F4.tape.trans HF3.out.tape, F4.output.trans HF3.out.output, Nat.le_trans HF3.out.size F4.size, fun b hb hn => (F4.same b (Nat.lt_of_lt_of_le hb HF3.out.size) (fun q => q.elim hn (fun e => by omega))).trans (HF3.out.same b hb hn)⟩
  have s4 := F4.size
  rw [HSZ.out] at s4
  have HF4 := hid F4
  have HF5 := hid F5
  have HD4 := hid D4
  have Hc4 := hid hc4
  clear x0 x1 x2 x3 ke F4 F5 D4 hc4
  have z0 := y0.cell
  have z1 := y1.cell
  have z2 := y2.cell
  have z3 := y3.cell
  have f0 := y0.frozen
  have f1 := y1.frozen
  have f2 := y2.frozen
  have f3 := y3.frozen
  cases re with
  | error E =>
    have hE : E ≠ 0 := hne0 E rfl
    have hEb : ((E : Int) != 0) = true := by simp; exact hE
    simp only [enPost] at hen
    subst hen
    obtain ⟨W5, HW5, q0, q1, q2, q3, BW, _⟩ := four12 y0 y1 y2 y3 (.pointer none) (.slice none 0 0) (.slice none 0 0) (.int .i64 E)
    clear y0 y1 y2 y3
    gi_wp2
    rw [HW5.out]
    have r0 := q0.cell
    have r1 := q1.cell
    have r2 := q2.cell
    have r3 := q3.cell
    refine ⟨.tuple #[.pointer none, .slice none 0 0, .slice none 0 0, .int .i64 E], ?_, ?_⟩
    · simp [results, Tryz.f27, go_sem, r0, r1, r2, r3]
    · rw [HRO.out]
      exact ⟨rfl, HD4.out.belB hlt.out BW, fr_belB HF5.out (Nat.le_refl _) BW⟩
  | ok o =>
    cases o with
    | none =>
      simp only [enPost] at hen
      subst hen
      obtain ⟨W5, HW5, q0, q1, q2, q3, BW, _⟩ := four12 y0 y1 y2 y3 (.pointer none) (.slice none 0 0) (.slice none 0 0) (.int .i64 110)
      clear y0 y1 y2 y3
      gi_wp2
      rw [HW5.out]
      have r0 := q0.cell
      have r1 := q1.cell
      have r2 := q2.cell
      have r3 := q3.cell
      refine ⟨.tuple #[.pointer none, .slice none 0 0, .slice none 0 0, .int .i64 110], ?_, ?_⟩
      · simp [results, Tryz.f27, go_sem, r0, r1, r2, r3]
      · rw [HRO.out]
        exact ⟨rfl, HD4.out.belB hlt.out BW, fr_belB HF5.out (Nat.le_refl _) BW⟩
    | some y =>
      obtain ⟨x, st⟩ := y
      obtain ⟨v, rfl, own4, hby, L4, mqe, mqs, hxK⟩ := hen
      obtain ⟨va, vc, hv0, _, _, _⟩ := own_slice own4
      obtain ⟨vn, Hvn⟩ : ∃ vn, Hid (st.length = vn) := ⟨_, rfl⟩
      rw [Hvn.out] at hv0
      subst hv0
      have kt := transactions_ (some ⟨g, 0, none⟩) (w4.alloc (.cells #[.slice none 0 0] 37))
      rw [World.size_alloc] at kt
      obtain ⟨RL, HRL⟩ : ∃ RL, Hid ((lgP s.n x.e (roo s.n + 1) x.s x.K).run se = RL) := ⟨_, rfl⟩
      simp only [HRL.out] at HRO
      obtain ⟨W6, HW6⟩ : ∃ W6, Hid ((w4.alloc (.cells #[.slice none 0 0] 37)).alloc (.cells #[.pointer (some ⟨g, 0, none⟩)] 36) = W6) := ⟨_, rfl⟩
      have B6 : Below w4.heap.size w4 W6 := by
        rw [← HW6.out]
        exact ((Below.refl _ _).alloc (Nat.le_refl _) _).alloc (by simp) _
      have sz6 : W6.heap.size = w4.heap.size + 1 + 1 := by rw [← HW6.out]; simp
      have b9 : Boxed W6 w4.heap.size 37 (.slice none 0 0) := by
        rw [← HW6.out]
        exact (Boxed.new w4 37 (.slice none 0 0)).alloc _
      have bx : Boxed W6 (w4.heap.size + 1) 36 (.pointer (some ⟨g, 0, none⟩)) := by
        rw [← HW6.out]
        have := Boxed.new (w4.alloc (.cells #[.slice none 0 0] 37)) 36 (.pointer (some ⟨g, 0, none⟩))
        rw [World.size_alloc] at this
        exact this
      have hse := run_nk (fnP s.n) sc
      rw [HRE.out] at hse
      have Q6 : Wq W6 g d mi x.e x.s x.K false false se Q := Wq.below ⟨L4, HD4.out, HQ3.out.ng, HQ3.out.tb.fr HF4.out (fun q => q.elim h0 (fun e => by omega)), h0, by omega⟩ B6
      have O6 : Oi w Q g w4.heap.size W6.heap.size (.slice va vn vc) st [] W6 := ⟨box12 y0 (B6.block _ y0.lt), box12 y1 (B6.block _ y1.lt), box12 y2 (B6.block _ y2.lt), box12 y3 (B6.block _ y3.lt), by have := own_bel12 own4 B6; rw [HSZ.out] at this; exact this, fun x hx => (by cases hx), ⟨_, b9, World.ownsRow_nil _ _ _ _⟩, HF5.out.below B6, Nat.le_refl _⟩
      have hcse := Hc4.out
      have hscc := Hsc.out.2.1
      have hsP : se.P.length ≤ 90000 := by
        have h1 := (run_SP (fnP s.n) sc).2
        rw [HRE.out] at h1
        rw [h1, Hsc.out.2.2]
        exact hP
      obtain ⟨B9, H9⟩ : ∃ B9, Hid (w4.heap.size = B9) := ⟨_, rfl⟩
      rw [H9.out] at s4 kt sz6 b9 bx O6
      obtain ⟨sz6a, sz6b⟩ := le_both sz6
      clear sz6
      have HO6 := hid O6
      have HQ6 := hid Q6
      have HBX := hid bx
      have Hby := hid hby
      clear hby L4 own4 B6 b9 bx Q6 O6 y0 y1 y2 y3 z0 z1 z2 z3 f0 f1 f2 f3
      gi_wp2_with fail
      refine ⟨trivial, (callsIn_wide.2 kt).mono ?_⟩
      rintro en w5 ⟨rfl, hw5⟩
      rw [HW6.out] at hw5
      obtain rfl := hw5
      simp only
      clear kt
      gi_wp2
      rw [H9.out]
      refine with_act (fun A hA => ?_)
      refine wpIn_range12 (by omega) (gf := 77) (lb := #[.pointer (some ⟨B9 + 1, 0, none⟩)]) (by rw [hA]; rfl) (enters_of Tryz.func77 (by kernel_rfl) rfl)
        (encs := fun x : Yx => #[x.v, .int .i64 x.e]) (Px12 w5.heap.size) (fun _ => rfl) (Qg Q g) (Kt Q g (B9 + 1)) ?hR ?hK (Fin12 s.n g d mi x.e Q RL) (FinX12 g d mi x.e Q RL) ?hF ?hFX ?hit
        (fun pre W => Oi w Q g B9 w5.heap.size (.slice va vn vc) st pre W) (fun pre W => Ox w Q w5.heap.size pre W) ?hI ?hIa ?hIx ?hIf HO6.out
        (fun pre y a' W => a' = { tmps := (((A.tmps.setIfInBounds 27 y.v).setIfInBounds 28 (.int .i64 y.e)).setIfInBounds 10 y.v).setIfInBounds 11 (.int .i64 y.e), defers := [] } ∧ Px12 w5.heap.size pre y W) ?hAx ?assign ?body ?done ?stop
      case hR => exact fun b q => q.elim (fun k => by have := hlt.out b k; omega) (fun e => by omega)
      case hK => exact fun b q => by rcases q with k | k | k | k; (have := hlt.out b k; omega); all_goals omega
      case hF =>
        intro pre W l o' hf hl ho ha
        obtain ⟨nx', pl', h1, h2, h3⟩ := hf ha
        exact ⟨nx', pl', h1, h2, h3.kp (Bx := 0) (Kp12.put (fun q => by rcases q with k | k | k | k; (have := hlt.out l k; omega); all_goals omega))⟩
      case hFX =>
        intro pre W l o' hf hl ho ys y hy hne
        obtain ⟨h1, nx', pl', h3⟩ := hf ys y hy hne
        exact ⟨h1, nx', pl', h3.kp (Bx := 0) (Kp12.put (fun q => by rcases q with k | k | k | k; (have := hlt.out l k; omega); all_goals omega))⟩
      case hit =>
        intro l J Jx W1 hb hJ hY hJ0
        have := trans1_ 8 (by omega) l (B9 + 1) g d mi x.e x.s x.K w5.heap.size se Q J Jx hJ hY W1 (HQ6.out.below hb) (box12 HBX.out (hb.block _ HBX.out.lt)) (by omega) (fun b q => by have := hlt.out b q; omega) (by omega) hb.size (by omega) (fun q => by have := hlt.out _ q; omega) (by omega) mqe ⟨mqs.1, by have := mqs.2; omega⟩ (by rw [hse.1, Hsc.out.1]; exact hxK) (by omega) hsP hJ0
        rw [hse.1, Hsc.out.1, HRL.out] at this
        exact this
      case hI => exact fun pre W l o' h hl ho => h.non (by omega) (grownBy_putObj' W l o') (put_non (o' := o') hl ho)
      case hIa => exact fun pre W o h => h.non (by omega) (World.grownBy_alloc W o none) (fun r e => by cases e)
      case hIx => exact fun pre W l o' h hl ho => h.non (by omega) (grownBy_putObj' W l o') (put_non (o' := o') hl ho)
      case hIf => exact fun pre A' B' h hf => h.fr' hlt.out (by omega) (by omega) (by omega) hf
      case hAx => exact fun pre y a' W l o' h hl ho => ⟨h.1, h.2.non (grownBy_putObj' W l o') (put_non (o' := o') hl ho)⟩
      case assign =>
        subst hA
        rintro lp pre y W K hI hpx hK
        gi_wp2
        refine hK _ _ (KeepsFrom.refl _ _) (Kp12.refl _ _) hI ⟨?_, hpx⟩
        simp only [List.setIfInBounds_toArray, List.set_cons_zero, List.set_cons_succ]
      case body =>
        subst hA
        rintro lp pre ⟨yv, ye, ytx⟩ a' W hlp hI ⟨ha, hpx⟩
        simp only [List.setIfInBounds_toArray, List.set_cons_zero, List.set_cons_succ] at ha hpx
        subst ha
        have hWsz := hI.sz
        by_cases hE : ye = 0
        · subst hE
          obtain ⟨hyo, hyb, hyl, hyd⟩ := hpx.2.1 rfl
          have hcnt := hpx.1
          obtain ⟨vt, b9, ho⟩ := hI.out
          obtain ⟨av, cv, rfl, hvc, hvm, hva⟩ := own_slice ho
          obtain ⟨ya, yc, hyv, _, _, _⟩ := own_slice hyo
          simp only at hyv hyo hyb hyl hyd
          subst hyv
          obtain ⟨yn, Hyn⟩ : ∃ yn, Hid (ytx.length = yn) := ⟨_, rfl⟩
          rw [Hyn.out] at hyo hyd ⊢
          obtain ⟨m, Hm⟩ : ∃ m, Hid (pre.length = m) := ⟨_, rfl⟩
          rw [Hm.out] at ho hvc b9 hcnt
          obtain ⟨i, hi, hz0, hz1, hz2⟩ := info_parts infoR
          have ho2 : (W.alloc (.cells #[.slice ya yn yc] 27)).ownsRow w5.heap.size 27 1 (.slice av m cv) m (pre.map (·.v)) := own_at' ho (fun b e => Below.heap_alloc _ _ _ (ho.lt b e).2)
          have mn0 := Boxed.new W 27 (.slice ya yn yc)
          have hwsz : w5.heap.size ≤ (W.alloc (.cells #[.slice ya yn yc] 27)).heap.size := by rw [World.size_alloc]; omega
          have HMN := hid mn0
          have HO2 := hid ho2
          have HWS := hid hwsz
          have HIo := hid hI
          have Hho := hid ho
          have Hb9 := hid b9
          have Hyo := hid hyo
          have c9 := b9.cell
          have hEb : (((0 : Int)) != 0) = false := rfl
          clear mn0 ho2 hwsz hI ho b9 hyo hpx
          gi_wp2_with (gi_at_builtin; refine wpListIn_append_own _ rfl _ _ 37 rfl w5.heap.size 27 i _ 1 24 Tryz.underlying37 hi hz0 hz1 hz2 rfl (by decide) (.slice av m cv) m (pre.map (·.v)) rfl (by exact HO2.out) ⟨W.heap.size, 0, none⟩ 1 1 [.slice ya yn yc] rfl rfl ?c1 ?c2 (by unfold maxLen at *; omega) (by omega) (by exact HWS.out) ?_)
          case c2 => rfl
          intro v' w1 hown hg hv
          obtain ⟨a7, c7, rfl, _, _, _⟩ := own_slice hown
          clear hv
          have gal : W.grownBy (W.alloc (.cells #[.slice ya yn yc] 27)) none := World.grownBy_alloc W _ _
          have hnb : ∀ k, (Value.slice av m cv).ownBlock = some k → w5.heap.size ≤ k := fun k ek => (Hho.out.lt k ek).1
          have kp : ∀ k, k < w5.heap.size → w1.heap[k]? = W.heap[k]? := fun k hk => (hg.block k (by rw [World.size_alloc]; omega) (fun ek => by have := hnb k ek.symm; omega)).trans (Below.heap_alloc _ _ _ (by omega))
          have k5 : ∀ (k : Nat) (cur : Array Value), W.heap[k]? = some (Obj.cells cur 5 (0, 0)) → (w1.setCell ⟨B9, 0, none⟩ (.slice a7 (m + 1) c7)).heap[k]? = W.heap[k]? := fun k cur hk => by
            have hl := (Array.getElem?_eq_some_iff.1 hk).1
            refine (Below.heap_setCell _ _ _ _ (fun e => ?_)).trans ((hg.block k (by rw [World.size_alloc]; omega) (fun ek => ?_)).trans (Below.heap_alloc _ _ _ hl))
            · simp only at e
              rw [e, show W.heap[B9]? = _ from Hb9.out] at hk
              simp at hk
            · obtain ⟨cu, hc⟩ := own_ty Hho.out ek.symm
              rw [hc] at hk
              simp at hk
          have o5 : ∀ {C n : Nat} {u : Value} {xs : List Value}, W.ownsRow C 5 1 u n xs → (w1.setCell ⟨B9, 0, none⟩ (.slice a7 (m + 1) c7)).ownsRow C 5 1 u n xs := fun h => own_at' h (fun b e => by
            obtain ⟨cu, hc⟩ := own_ty h e
            exact k5 b cu hc)
          have x0 := box12 HIo.out.b0 (kp _ (by omega))
          have x1 := box12 HIo.out.b1 (kp _ (by omega))
          have x2 := box12 HIo.out.b2 (kp _ (by omega))
          have x3 := box12 HIo.out.b3 (kp _ (by omega))
          have x9 := box12 Hb9.out (kp _ (by omega))
          have y9 := x9.cell
          have f9 := x9.frozen
          have szw : W.heap.size ≤ w1.heap.size := by have := hg.size; rw [World.size_alloc] at this; omega
          have HKG : Hid (KeepsFrom w5.heap.size W (w1.setCell ⟨B9, 0, none⟩ (.slice a7 (m + 1) c7))) := by
            refine ((KeepsOthers.alloc W _).from _ |>.trans (KeepsOthers.of_grownBy hg (fun j o ej hj => ?_) |>.from _)).trans ((KeepsOthers.setCell w1 ⟨B9, 0, none⟩ (.slice a7 (m + 1) c7)).from _)
            obtain ⟨cur, hc⟩ := own_ty HO2.out ej
            have h2 : some o = some (Obj.cells cur 27 (0, 0)) := hj.symm.trans hc
            cases h2
            rfl
          have HKP : Hid (Kp12 (Kt Q g (B9 + 1)) W (w1.setCell ⟨B9, 0, none⟩ (.slice a7 (m + 1) c7))) := by
            refine ⟨by simpa using szw, fun b hb => ?_⟩
            have hbl : b < w5.heap.size ∧ b ≠ B9 := by
              rcases hb with k | k | k | k
              · have := hlt.out b k; omega
              all_goals omega
            exact (Below.heap_setCell _ _ _ _ (fun e => hbl.2 e)).trans (kp b hbl.1)
          have HFIN : Hid (Oi w Q g B9 w5.heap.size (.slice va vn vc) st (pre ++ [⟨.slice ya yn yc, 0, ytx⟩]) (w1.setCell ⟨B9, 0, none⟩ (.slice a7 (m + 1) c7))) := by
            refine ⟨x0.other (by omega) _, x1.other (by omega) _, x2.other (by omega) _, x3.other (by omega) _, o5 HIo.out.own, ?_, ⟨_, x9.set _, ?_⟩, ?_, ?_⟩
            · intro z hz
              rcases List.mem_append.1 hz with q | q
              · exact ⟨(HIo.out.el z q).1, o5 (HIo.out.el z q).2.1, (HIo.out.el z q).2.2⟩
              · rw [List.mem_singleton.1 q]
                exact ⟨rfl, by simp only; rw [Hyn.out]; exact o5 Hyo.out, hyb⟩
            · rw [List.length_append, List.map_append, Hm.out]
              refine own_at' hown (fun b eb => Below.heap_setCell _ _ _ _ (fun e2 => ?_))
              have h1 := (hown.lt b eb).1
              simp only at e2
              omega
            · have fr1 := HIo.out.fr
              refine ⟨hg.os.trans (gal.os.trans fr1.os), hg.tape.trans (gal.tape.trans fr1.tape), hg.output.trans (gal.output.trans fr1.output), by have := fr1.size; simp; omega, fun b hb hn => ?_⟩
              exact (Below.heap_setCell _ _ _ _ (fun e2 => by simp only at e2; omega)).trans ((kp b (by omega)).trans (fr1.same b hb hn))
            · simp
              omega
          clear hg hown kp k5 o5 x0 x1 x2 x3 x9 HIo Hho Hb9 Hyo HO2 HMN gal hnb
          gi_wp2
          exact ⟨HKG.out, HKP.out, HFIN.out⟩
        · have hEb : ((ye : Int) != 0) = true := by simp; exact hE
          obtain ⟨W7, HW7, q0, q1, q2, q3, BW, KO, oth, sz7⟩ := four12 hI.b0 hI.b1 hI.b2 hI.b3 (.pointer none) (.slice none 0 0) (.slice none 0 0) (.int .i64 ye)
          have f0 := hI.b0.frozen
          have f1 := hI.b1.frozen
          have f2 := hI.b2.frozen
          have f3 := hI.b3.frozen
          have z0 := hI.b0.cell
          have z1 := hI.b1.cell
          have z2 := hI.b2.cell
          have z3 := hI.b3.cell
          have HFR := hid hI.fr
          clear hI hpx
          gi_wp2
          rw [HW7.out]
          refine ⟨KO.from _, ⟨by omega, fun b hb => oth b ?_⟩, ⟨q0, q1, q2, ⟨_, _, rfl, hE, q3⟩, fr_belB HFR.out (Nat.le_refl _) BW⟩⟩
          rcases hb with k | k | k | k
          · have := hlt.out b k; omega
          all_goals omega
      case done =>
        subst hA
        rintro D xs W hD hI hF hK
        obtain ⟨nx', pl', hRL, hpl', Q7⟩ := hF (fun y hy => (hI.el y hy).1)
        obtain ⟨vt, b9, ho⟩ := hI.out
        obtain ⟨at', ct, rfl, _, _, _⟩ := own_slice ho
        have c9 := b9.cell
        have hWsz := hI.sz
        obtain ⟨W7, HW7, q0, q1, q2, q3, BW, KO, oth, sz7⟩ := four12 hI.b0 hI.b1 hI.b2 hI.b3 (.pointer (some ⟨g, 0, none⟩)) (.slice va vn vc) (.slice at' xs.length ct) (.int .i64 0)
        have f0 := hI.b0.frozen
        have f1 := hI.b1.frozen
        have f2 := hI.b2.frozen
        have f3 := hI.b3.frozen
        have z0 := hI.b0.cell
        have z1 := hI.b1.cell
        have z2 := hI.b2.cell
        have z3 := hI.b3.cell
        have HIo := hid hI
        have HQ7 := hid Q7
        have Hvt := hid ho
        have HRLE := hid hRL
        clear hI hF Q7 ho b9 hRL
        gi_wp2
        gi_region
        rw [HW7.out]
        clear z0 z1 z2 z3 f0 f1 f2 f3 c9
        gi_wp2
        have hK7 : W7.drew.heap[D]? = some (.deferred (some [])) := (oth D (.inr (by omega))).trans hK
        refine ⟨by simp, .inl ⟨_, _, rfl, run_takeDeferred hK7, ?_⟩⟩
        obtain ⟨W8, HW8⟩ : ∃ W8, Hid (W7.drew.putObj D (.deferred none) = W8) := ⟨_, rfl⟩
        have G8 : W7.drew.grownBy W8 (some D) := by rw [← HW8.out]; exact grownBy_putObj' _ D _
        rw [HW8.out]
        have nD : ∀ b, b < w5.heap.size → some b ≠ some D := fun b hb e => by have := Option.some.inj e; omega
        have hgb := g + 1
        have e0 : Boxed W8 _ _ _ := box12 (w := W7.drew) q0 (G8.block _ q0.lt (nD _ (by omega)))
        have e1 : Boxed W8 _ _ _ := box12 (w := W7.drew) q1 (G8.block _ q1.lt (nD _ (by omega)))
        have e2 : Boxed W8 _ _ _ := box12 (w := W7.drew) q2 (G8.block _ q2.lt (nD _ (by omega)))
        have e3 : Boxed W8 _ _ _ := box12 (w := W7.drew) q3 (G8.block _ q3.lt (nD _ (by omega)))
        have r0 := e0.cell
        have r1 := e1.cell
        have r2 := e2.cell
        have r3 := e3.cell
        have o8 : ∀ {C n sz : Nat} {t : TypeId} {u : Value} {zs : List Value}, W.ownsRow C t sz u n zs → g < C → W8.ownsRow w.heap.size t sz u n zs := fun {C n sz t u zs} h hC => own_mono (own_non (B := 0) (X := W7.drew) (own_at' h (fun b e => oth b (.inr (by have := (h.lt b e).1; omega)))) G8 (fun r er => by cases er; exact ⟨Nat.zero_le _, _, hK7, rfl⟩)) (by omega)
        refine ⟨.tuple #[.pointer (some ⟨g, 0, none⟩), .slice va vn vc, .slice at' xs.length ct, .int .i64 0], ?_, ?_⟩
        · simp [results, Tryz.f27, go_sem, r0, r1, r2, r3]
        · have hRO : RO = (.ok (some (st, xs.map (·.tx), x.e, nx', pl')), RL.2) := by
            rw [HRO.out]
            have h1 := HRLE.out
            obtain ⟨rl, sl⟩ := RL
            simp only at h1
            subst h1
            rfl
          rw [hRO, Hmi.out]
          have Q8 : Wq W8 g d mi x.e nx' pl' false false RL.2 Q := HQ7.out.kp (Bx := 0) ⟨by have := G8.size; have : W7.drew.heap.size = W7.heap.size := rfl; omega, fun b hb => by
            have hbl : b < w5.heap.size ∧ (b < w.heap.size ∨ w.heap.size + 1 + 1 + 1 < b) := by
              rcases hb with k | k | k | k
              · have := hlt.out b k; omega
              all_goals omega
            exact (G8.block b (by show b < W7.heap.size; omega) (nD b hbl.1)).trans (oth b hbl.2)⟩
          have F7 := fr_belB HIo.out.fr (Nat.le_refl _) BW
          have F7' : Fr Q w W7.drew := ⟨F7.os, F7.tape, F7.output, F7.size, F7.same⟩
          exact ⟨⟨g, _, _, xs, rfl, by omega, o8 HIo.out.own (by omega), Hby.out, o8 Hvt.out (by omega), rfl, fun z hz => ⟨o8 (HIo.out.el z hz).2.1 (by omega), (HIo.out.el z hz).2.2⟩, Q8, hpl', mqe⟩, Q8.dv, fr_own F7' G8 (fun r er => by cases er; omega)⟩
      case stop =>
        subst hA
        rintro D pre W hD hX hF hK
        obtain ⟨ys, y, rfl, hne, q3⟩ := hX.e
        obtain ⟨hRL, nx', pl', Q7⟩ := hF ys y rfl hne
        have HX := hid hX
        have HQ7 := hid Q7
        have HRLE := hid hRL
        clear hX hF Q7 hRL
        gi_wp2
        refine ⟨by simp, .inl ⟨_, _, rfl, run_takeDeferred hK, ?_⟩⟩
        obtain ⟨W8, HW8⟩ : ∃ W8, Hid (W.putObj D (.deferred none) = W8) := ⟨_, rfl⟩
        have G8 : W.grownBy W8 (some D) := by rw [← HW8.out]; exact grownBy_putObj' _ D _
        rw [HW8.out]
        have hpn : ∀ r, some D = some r → w5.heap.size ≤ r ∧ ∃ o : Obj, W.heap[r]? = some o ∧ o.isCells = false := fun r er => by cases er; exact ⟨hD, _, hK, rfl⟩
        have X8 := HX.out.non (by omega) G8 hpn
        have r0 := X8.b0.cell
        have r1 := X8.b1.cell
        have r2 := X8.b2.cell
        have r3 := (boxed_non q3 G8 hpn).cell
        refine ⟨.tuple #[.pointer none, .slice none 0 0, .slice none 0 0, .int .i64 y.e], ?_, ?_⟩
        · simp [results, Tryz.f27, go_sem, r0, r1, r2, r3]
        · have hRO : RO = (.error y.e, RL.2) := by
            rw [HRO.out]
            have h1 := HRLE.out
            obtain ⟨rl, sl⟩ := RL
            simp only at h1
            subst h1
            rfl
          rw [hRO]
          have Q8 : Wq W8 g d mi x.e nx' pl' false false RL.2 Q := HQ7.out.kp (Bx := 0) ⟨G8.size, fun b hb => by
            have hbl : b < w5.heap.size := by
              rcases hb with k | k | k | k
              · have := hlt.out b k; omega
              all_goals omega
            exact G8.block b (by have := (Array.getElem?_eq_some_iff.1 hK).1; omega) (fun e => by have := Option.some.inj e; omega)⟩
          exact ⟨rfl, Q8.dv, X8.fr⟩
end Go.Proofs.YtblcpdffiafgnaaGreatDoor
