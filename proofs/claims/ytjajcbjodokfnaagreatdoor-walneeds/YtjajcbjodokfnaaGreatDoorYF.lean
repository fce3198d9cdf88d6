import Derived.Test.YtjajcbjodokfnaaGreatDoorYC
namespace Go.Proofs.YtjajcbjodokfnaaGreatDoor
set_option maxRecDepth 100000
open Go.RowKit Go.Shelf
set_option linter.unusedVariables false
set_option linter.unusedSimpArgs false

/-! A device that refuses nothing. -/
def Calm (s : St) : Prop := s.on = true ∧ ∀ x, s.F x = 0
theorem Calm.E {s : St} (h : Calm s) : opE s = 0 := by unfold opE; rw [if_pos h.1, h.2]; rfl
theorem Calm.S {s : St} (h : Calm s) : Calm (opS s) := by
  unfold opS
  rw [if_pos h.1]
  exact ⟨by simp [h.2], h.2⟩
theorem Calm.run {α : Type} : ∀ (r : Rp α) (s : St), Calm s → (r.run s).1 = .ok (r.eval (dv (layA s.S s.P))) ∧ Calm (r.run s).2 := fun r => by
  have key : ∀ (r : Rp α) (s : St), Calm s → (∃ x, (r.run s).1 = .ok x) ∧ Calm (r.run s).2 := fun r => by
    induction r with
    | ret a => intro s h; exact ⟨⟨a, rfl⟩, h⟩
    | rd i k ih =>
      intro s h
      unfold Rp.run
      rw [if_pos h.E]
      exact ih _ _ h.S
  intro s h
  obtain ⟨⟨x, hx⟩, hc⟩ := key r s h
  exact ⟨by rw [hx, ← Rp.run_ok r s x hx], hc⟩
theorem calm_wrs : ∀ (ws : List (Nat × List Int)) (s : St), Calm s → (wrs s ws).1 = 0 ∧ Calm (wrs s ws).2
  | [], s, h => ⟨rfl, h⟩
  | (i, z) :: r, s, h => by
    unfold wrs
    rw [if_pos h.E]
    exact calm_wrs r _ h.S
theorem calm_wfl {s : St} (h : Calm s) (ws : List (Nat × List Int)) : (wfl s ws).1 = 0 ∧ Calm (wfl s ws).2 := by
  obtain ⟨h1, h2⟩ := calm_wrs ws s h
  unfold wfl
  rw [if_pos h1, if_pos h2.E]
  exact ⟨h2.E, h2.S⟩
theorem calm_two {s : St} (h : Calm s) (v w : List (Nat × List Int)) : (two s v w).1 = 0 ∧ Calm (two s v w).2 ∧ two s v w = wfl (wfl s v).2 w := by
  obtain ⟨h1, h2⟩ := calm_wfl h v
  unfold two
  rw [if_pos h1]
  exact ⟨(calm_wfl h2 w).1, (calm_wfl h2 w).2, rfl⟩
theorem Calm.fl {s : St} (h : Calm s) : Calm (flS s) := by
  unfold flS
  rw [if_pos h.E]
  exact h.S
/-! How many reads there are at most. -/
def Lim {α : Type} (r : Rp α) (n : Nat) : Prop := ∀ s : St, (r.run s).2.c ≤ s.c + n
theorem Lim.up {α : Type} {r : Rp α} {n m : Nat} (h : Lim r n) (hm : n ≤ m) : Lim r m := fun s => by have := h s; omega
theorem lim_ret {α : Type} (a : α) : Lim (.ret a : Rp α) 0 := fun s => Nat.le_refl _
theorem lim_rd {α : Type} {i : Nat} {k : Option Sec → Rp α} {n : Nat} (h : ∀ x, Lim (k x) n) : Lim (.rd i k) (n + 1) := fun s => by
  unfold Rp.run
  have o1 := opS_c s
  split
  · have := h (gs (layA s.S s.P i)) (opS s)
    omega
  · show (opS s).c ≤ _
    omega
theorem lim_bind {α β : Type} {r : Rp α} {f : α → Rp β} {m n : Nat} (h : Lim r m) (hf : ∀ a, Lim (f a) n) : Lim (r.bind f) (m + n) := fun s => by
  rw [Rp.run_bind]
  have h1 := h s
  generalize r.run s = x at *
  obtain ⟨x1, s'⟩ := x
  cases x1 with
  | error E => simp only at *; omega
  | ok a => have := hf a s'; simp only at *; omega
theorem lim_ck (N : Nat) (x : Sp) : ∀ (m i : Nat) (l : List Int), Lim (ckP N x m i l) m
  | 0, i, l => by unfold ckP; exact lim_ret _
  | m + 1, i, l => by
    unfold ckP
    refine lim_rd (fun y => ?_)
    split
    · split
      · exact lim_ck N x m _ _
      · exact (lim_ret _).up (Nat.zero_le _)
    · exact (lim_ret _).up (Nat.zero_le _)
theorem lim_tk (N : Nat) (x : Sp) : Lim (tkP N x) x.K := by
  unfold tkP
  refine (lim_bind (n := 0) (lim_ck N x _ _ _) (fun a => ?_)).up (by omega)
  split <;> exact lim_ret _
theorem lim_fs (N : Nat) : ∀ (l : List Sp) (n : Nat), (∀ x ∈ l, x.K ≤ n) → Lim (fsP N l) (l.length * n)
  | [], n, _ => by unfold fsP; exact (lim_ret _).up (Nat.zero_le _)
  | a :: l, n, h => by
    unfold fsP
    refine (lim_bind (m := n) (n := l.length * n) ((lim_tk N a).up (h a (by simp))) (fun r => ?_)).up (by rw [List.length_cons, Nat.succ_mul]; omega)
    split
    · exact (lim_ret _).up (Nat.zero_le _)
    · exact lim_fs N l n (fun x hx => h x (List.mem_cons_of_mem _ hx))
theorem lim_tx (N e q : Nat) : ∀ (f p k : Nat) (tx : List Int) (full : Bool), Lim (txP N e q f p k tx full) f
  | 0, _, _, _, _ => by unfold txP; exact lim_ret _
  | f + 1, p, k, tx, full => by
    unfold txP
    refine lim_rd (fun x => ?_)
    split
    · exact (lim_ret _).up (Nat.zero_le _)
    · split
      · exact (lim_ret _).up (Nat.zero_le _)
      · split
        · split
          · exact (lim_ret _).up (Nat.zero_le _)
          · exact lim_tx N e q f _ _ _ _
        · exact (lim_ret _).up (Nat.zero_le _)
theorem lim_lg (N e : Nat) : ∀ (f q p : Nat), Lim (lgP N e f q p) (f * roo N)
  | 0, q, p => by unfold lgP; exact (lim_ret _).up (Nat.zero_le _)
  | f + 1, q, p => by
    unfold lgP
    split
    · exact (lim_ret _).up (Nat.zero_le _)
    · refine (lim_bind (m := roo N) (n := f * roo N) ((lim_tx N e q _ _ _ _ _).up (by omega)) (fun r => ?_)).up (by rw [Nat.succ_mul]; omega)
      split
      · exact (lim_bind (n := 0) (lim_lg N e f _ _) (fun r => lim_ret _)).up (by omega)
      · exact (lim_ret _).up (Nat.zero_le _)
theorem cnX_K {x : Option Sec} {N pl : Nat} {y : Sp} (h : cnX x N pl = some y) : y.K ≤ roo N := by
  unfold cnX at h
  split at h
  · split at h
    · rename_i hh
      cases h
      simp only
      have := hh.2.2.2.2.2.2
      omega
    · cases h
  · cases h
theorem lim_fn (N : Nat) : Lim (fnP N) (2 * roo N + 2) := by
  unfold fnP
  refine lim_rd (n := 2 * roo N + 1) (fun x => lim_rd (n := 2 * roo N) (fun y => ?_))
  refine (lim_fs N _ (roo N) (fun z hz => ?_)).up ?_
  · rcases two12_mem hz with q | q
    · exact cnX_K q
    · exact cnX_K q
  · refine Nat.mul_le_mul_right _ ?_
    unfold two12
    split
    · split <;> simp
    · simp
    · simp
    · simp
theorem lim_on (N : Nat) : Lim (onP N) (2 * roo N + 2 + (roo N + 1) * roo N) := by
  unfold onP
  refine lim_bind (lim_fn N) (fun r => ?_)
  split
  · exact (lim_bind (n := 0) (lim_lg N _ _ _ _) (fun r => lim_ret _)).up (by omega)
  · exact (lim_ret _).up (Nat.zero_le _)
/-- A calm device of 32 sectors, a log's account on it. -/
structure Ok12 (s : St) (e q : Nat) (st : List Int) (l : List (List Int)) (k C : Nat) : Prop where
  n : s.n = 32
  P : s.P = []
  calm : Calm s
  k : s.k = k
  c : s.c ≤ C
  qt : Qt (dv s.S) 32 e q st l
theorem roo32 : roo 32 = 15 := rfl
theorem gs_zer : gs zer = none := by
  cases h : gs zer with
  | none => rfl
  | some x =>
    obtain ⟨_, h2, _, h4⟩ := gs_some h
    rw [h4] at h2
    exact absurd (show isT (bt (sl zer 0 4)) from h2.1) (by rw [show sl zer 0 4 = [0, 0, 0, 0] from rfl]; decide)
theorem fm_go : ∀ (f i : Nat) (s : St), s.n = 32 → s.S = (fun _ => zer) → s.P = [] → Calm s → s.k = 0 → ∃ s' : St, fmA f i s = wfl s' [(1, ps ⟨t1, 1, 1, 1, sup 32 []⟩)] ∧ s'.n = 32 ∧ s'.S = (fun _ => zer) ∧ s'.P = [] ∧ Calm s' ∧ s'.k = 0 ∧ s'.c ≤ s.c + f
  | 0, i, s, h1, h2, h3, h4, h5 => ⟨s, by unfold fmA; rw [h1], h1, h2, h3, h4, h5, by omega⟩
  | f + 1, i, s, h1, h2, h3, h4, h5 => by
    obtain ⟨s', a0, a1, a2, a3, a4, a5, a6⟩ := fm_go f (i + 1) (opS s) ((opS_n s).trans h1) ((opS_S' s).trans h2) ((opS_P' s).trans h3) h4.S ((opS_k s).trans h5)
    have o1 := opS_c s
    refine ⟨s', ?_, a1, a2, a3, a4, a5, by omega⟩
    rw [← a0]
    conv => lhs; unfold fmA
    rw [if_pos h4.E, if_pos (by rw [h2, h3]; rfl)]
theorem ok_format : (fmA 32 0 (st0 32)).1 = 0 ∧ Ok12 (fmA 32 0 (st0 32)).2 1 1 [] [] 0 34 := by
  obtain ⟨s', a0, a1, a2, a3, a4, a5, a6⟩ := fm_go 32 0 (st0 32) rfl rfl rfl ⟨rfl, fun _ => rfl⟩ rfl
  rw [a0]
  obtain ⟨h1, h2⟩ := calm_wfl a4 [(1, ps ⟨t1, 1, 1, 1, sup 32 []⟩)]
  obtain ⟨b1, b2, b3, b4⟩ := wfl_n s' [(1, ps ⟨t1, 1, 1, 1, sup 32 []⟩)]
  obtain ⟨c1, c2⟩ := (wfl_is s' [(1, ps ⟨t1, 1, 1, 1, sup 32 []⟩)] a3).1 h1
  have hc0 : (st0 32).c = 0 := rfl
  refine ⟨h1, b1.trans a1, c2, h2, b2.trans a5, by simp only [List.length_singleton] at b3; omega, ?_⟩
  rw [c1]
  show Qt (dv (lay1 s'.S (1, ps ⟨t1, 1, 1, 1, sup 32 []⟩))) 32 1 1 [] []
  have hm : May ⟨t1, 1, 1, 1, sup 32 []⟩ := may2 (e := 1) (n := 1) (p := 1) ⟨by omega, by omega⟩ ⟨by omega, by omega⟩ (by omega) (by rw [sup_length]; omega) (.inl rfl)
  rw [dv_lay1 _ _ hm (sup_by _ _)]
  exact Qt.first (fun i => by unfold dv; rw [a2]; exact gs_zer) (by omega) (by omega)
theorem ok_open {s : St} {e q k C : Nat} {st : List Int} {l : List (List Int)} (h : Ok12 s e q st l k C) : ∃ s', (onP s.n).run { s with k := s.k + 1 } = (.ok (some (st, l, e, q + l.length, ends l (pcN st.length))), s') ∧ Ok12 s' e q st l (k + 1) (C + 300) ∧ s'.S = s.S := by
  have hc : Calm { s with k := s.k + 1 } := h.calm
  obtain ⟨h1, h2⟩ := Calm.run (onP s.n) { s with k := s.k + 1 } hc
  have h3 := run_SP (onP s.n) { s with k := s.k + 1 }
  have h4 := run_nk (onP s.n) { s with k := s.k + 1 }
  have h5 := lim_on s.n { s with k := s.k + 1 }
  rw [onP_eval] at h1
  have hP := h.P
  have hq := h.qt.opn
  have hn := h.n
  refine ⟨_, Prod.ext (h1.trans ?_) rfl, ⟨h4.1.trans hn, h3.2.trans hP, h2, by rw [h4.2]; have := h.k; simp only; omega, ?_, by rw [h3.1]; exact h.qt⟩, h3.1⟩
  · show Except.ok (opn (dv (layA s.S s.P)) s.n) = _
    rw [hP, hn]
    exact congrArg Except.ok hq
  · have h6 : 2 * roo s.n + 2 + (roo s.n + 1) * roo s.n = 272 := by rw [hn]; rfl
    have h7 : ({ s with k := s.k + 1 } : St).c = s.c := rfl
    have := h.c
    exact Nat.le_trans h5 (by omega)
theorem ok_safe {s : St} {e q k C : Nat} {st : List Int} {l : List (List Int)} (h : Ok12 s e q st l k C) : opE s = 0 ∧ Ok12 (flS s) e q st l k (C + 1) ∧ (flS s).S = s.S := by
  have h0 := h.calm.E
  have o1 := opS_c s
  have hS : (flS s).S = s.S := by
    unfold flS
    rw [if_pos h0, h.P]
    rfl
  refine ⟨h0, ⟨?_, ?_, h.calm.fl, ?_, ?_, by rw [hS]; exact h.qt⟩, hS⟩
  · unfold flS; rw [if_pos h0]; exact (opS_n s).trans h.n
  · unfold flS; rw [if_pos h0]
  · unfold flS; rw [if_pos h0]; exact (opS_k s).trans h.k
  · unfold flS; rw [if_pos h0]; show (opS s).c ≤ _; have := h.c; omega
theorem two_n12 (s : St) (v w : List (Nat × List Int)) : (two s v w).2.n = s.n ∧ (two s v w).2.k = s.k ∧ (two s v w).2.c ≤ s.c + v.length + w.length + 2 := by
  obtain ⟨a1, a2, a3, a4⟩ := wfl_n s v
  obtain ⟨b1, b2, b3, b4⟩ := wfl_n (wfl s v).2 w
  unfold two
  split
  · exact ⟨b1.trans a1, b2.trans a2, by omega⟩
  · exact ⟨a1, a2, by omega⟩
theorem ok_app {s : St} {e q k C : Nat} {st tx : List Int} {l : List (List Int)} (h : Ok12 s e q st l k C) (he : mq e) (hn : mq (q + l.length)) (hb : By tx) (h0 : 0 < tx.length) (h1 : tx.length ≤ 4800) (hr : ends l (pcN st.length) + ned tx.length ≤ 15) :
    (apR s s.n e (q + l.length) (ends l (pcN st.length)) tx).1 = 0 ∧ Ok12 (apR s s.n e (q + l.length) (ends l (pcN st.length)) tx).2 e q st (l ++ [tx]) k (C + 20) := by
  have hsn := h.n
  rw [hsn]
  have key : (apR s 32 e (q + l.length) (ends l (pcN st.length)) tx).1 = 0 ∧ Calm (apR s 32 e (q + l.length) (ends l (pcN st.length)) tx).2 ∧ (apR s 32 e (q + l.length) (ends l (pcN st.length)) tx).2.n = s.n ∧ (apR s 32 e (q + l.length) (ends l (pcN st.length)) tx).2.k = s.k ∧ (apR s 32 e (q + l.length) (ends l (pcN st.length)) tx).2.c ≤ s.c + 20 := by
    unfold apR
    split
    · obtain ⟨a1, a2⟩ := calm_wfl h.calm [(sct 32 e (ends l (pcN st.length)), ps ⟨t4, e, (q + l.length : Nat), (ends l (pcN st.length) : Nat), tx⟩)]
      obtain ⟨b1, b2, b3, b4⟩ := wfl_n s [(sct 32 e (ends l (pcN st.length)), ps ⟨t4, e, (q + l.length : Nat), (ends l (pcN st.length) : Nat), tx⟩)]
      simp only [List.length_singleton] at b3
      exact ⟨a1, a2, b1, b2, by omega⟩
    · obtain ⟨a1, a2, _⟩ := calm_two h.calm (pw 32 e (q + l.length) (ends l (pcN st.length)) tx (pcN tx.length)) [(sct 32 e (ends l (pcN st.length) + pcN tx.length), ps ⟨t3, e, (q + l.length : Nat), (ends l (pcN st.length) + pcN tx.length : Nat), edb tx⟩)]
      obtain ⟨b1, b2, b3⟩ := two_n12 s (pw 32 e (q + l.length) (ends l (pcN st.length)) tx (pcN tx.length)) [(sct 32 e (ends l (pcN st.length) + pcN tx.length), ps ⟨t3, e, (q + l.length : Nat), (ends l (pcN st.length) + pcN tx.length : Nat), edb tx⟩)]
      have hlen : (pw 32 e (q + l.length) (ends l (pcN st.length)) tx (pcN tx.length)).length = pcN tx.length := by unfold pw; simp
      have : pcN tx.length ≤ 10 := by unfold pcN; omega
      simp only [List.length_singleton] at b3
      exact ⟨a1, a2, b1, b2, by omega⟩
  obtain ⟨k1, k2, k3, k4, k5⟩ := key
  have hw := (append_whole h.P h.qt he hn hb h0 h1 (by rw [roo32]; exact hr)).1 k1
  exact ⟨k1, k3.trans hsn, hw.1, k2, k4.trans h.k, by have := h.c; omega, hw.2⟩
theorem ok_ck {s : St} {e q k C : Nat} {st st' : List Int} {l : List (List Int)} (h : Ok12 s e q st l k C) (he : mq (e + 1)) (hn : mq (q + l.length)) (hb : By st') (hK : pcN st'.length + 11 ≤ 15) :
    (ckp s s.n e (q + l.length) st').1 = 0 ∧ Ok12 (ckp s s.n e (q + l.length) st').2 (e + 1) (q + l.length) st' [] k (C + 20) := by
  have hsn := h.n
  rw [hsn]
  obtain ⟨a1, a2, _⟩ := calm_two h.calm (pw 32 (e + 1) (q + l.length) 0 st' (pcN st'.length)) [((e + 1) % 2, ps ⟨t1, (e + 1 : Nat), (q + l.length : Nat), ((e + 1) % 2 : Nat), sup 32 st'⟩)]
  obtain ⟨b1, b2, b3⟩ := two_n12 s (pw 32 (e + 1) (q + l.length) 0 st' (pcN st'.length)) [((e + 1) % 2, ps ⟨t1, (e + 1 : Nat), (q + l.length : Nat), ((e + 1) % 2 : Nat), sup 32 st'⟩)]
  have hlen : (pw 32 (e + 1) (q + l.length) 0 st' (pcN st'.length)).length = pcN st'.length := by unfold pw; simp
  simp only [List.length_singleton] at b3
  have hw := (check_whole h.P h.qt he hn hb (by rw [roo32]; exact hK)).1 a1
  exact ⟨a1, b1.trans hsn, hw.1, a2, b2.trans h.k, by have := h.c; show (ckp s 32 e (q + l.length) st').2.c ≤ _; unfold ckp; omega, hw.2⟩
end Go.Proofs.YtjajcbjodokfnaaGreatDoor
namespace Go.Proofs.YtjajcbjodokfnaaGreatDoor
set_option maxRecDepth 100000
open Go.RowKit Go.Shelf
set_option linter.unusedVariables false
set_option linter.unusedSimpArgs false

theorem num12 (e : Int) (w : World) : Calls Tryz.prog 27 #[.int .i64 e] w fun en w' => en = .returned (.int .i64 e) ∧ w' = w := by
  go_enter Tryz.func27, Tryz.ntmps27
  go_wp2_with fail
  go_ret
  exact ⟨rfl, rfl⟩
/-- A log of the chapter's first lines: all of it lies behind w0. -/
structure Sf (w0 w : World) (g d mi ep nx pl : Nat) (se re : Bool) (s : St) : Prop where
  q : ∃ Q, Wq w g d mi ep nx pl se re s Q ∧ ∀ b, Q b → w0.heap.size ≤ b
  hg : w0.heap.size ≤ g
  bel : Below w0.heap.size w0 w
theorem Sf.below {w0 w w' : World} {g d mi ep nx pl : Nat} {se re : Bool} {s : St} (h : Sf w0 w g d mi ep nx pl se re s) (hb : Below w.heap.size w w') : Sf w0 w' g d mi ep nx pl se re s := by
  obtain ⟨Q, h1, h2⟩ := h.q
  exact ⟨⟨Q, h1.below hb, h2⟩, h.hg, bel_bel h.bel h.bel.size hb⟩
theorem Sf.wz {w0 w w' : World} {g d mi ep nx pl : Nat} {se re : Bool} {s : St} {Q : Nat → Prop} (hQ : ∀ b, Q b → w0.heap.size ≤ b) (hg : w0.heap.size ≤ g) (hb : Below w0.heap.size w0 w) (z : Wz w w' g d mi ep nx pl se re s Q) : Sf w0 w' g d mi ep nx pl se re s := by
  have hs := hb.size
  refine ⟨⟨_, z.q, fun b q => ?_⟩, hg, hb.trans (z.f.under hs (fun b q => ?_))⟩
  · rcases q with q | q
    · exact hQ b q
    · omega
  · rcases q with q | q
    · exact hQ b q
    · omega
set_option maxHeartbeats 4000000 in
theorem begun_ (w : World) (hT : Tab w) : Calls Tryz.prog 37 #[.int .i64 32] w fun en w' => ∃ d g s, en = .returned (.tuple #[.pointer (some ⟨d, 0, none⟩), .pointer (some ⟨g, 0, none⟩)]) ∧ Sf w w' g d 1 1 1 0 true false s ∧ Ok12 s 1 1 [] [] 1 400 := by
  have kn := new_ 32 w (by omega) (by omega)
  have HT := hid hT
  have h0 : 0 < w.heap.size := hT.1
  clear hT
  go_enter Tryz.func37, Tryz.ntmps37
  go_wp2_with fail
  refine kn.mono ?_
  rintro en w1 ⟨d, rfl, D1, B1⟩
  have kf := format_ d (st0 32) _ w1 D1 (HT.out.bel B1) (fun q => by omega) (by show 0 ≤ _; omega) (by show 0 ≤ _; omega)
  rw [show (st0 32).n = 32 from rfl, ok_format.1] at kf
  have ok1 := ok_format.2
  obtain ⟨s1, Hs1⟩ : ∃ s1, Hid ((fmA 32 0 (st0 32)).2 = s1) := ⟨_, rfl⟩
  rw [Hs1.out] at kf ok1
  have HOK1 := hid ok1
  have HD1 := hid D1
  have HB1 := hid B1
  have sz1 := B1.size
  clear kn D1 B1 ok1
  go_wp2_with fail
  refine kf.mono ?_
  rintro en w2 ⟨rfl, D2, F2⟩
  have sz2 := F2.size
  have T2 : Tab w2 := (HT.out.bel HB1.out).fr F2 (fun q => by omega)
  have ko := open_ d s1 _ w2 D2 T2 (fun q => by rcases q with q | q <;> omega) (by have := HOK1.out.c; omega) (by rw [HOK1.out.P]; simp) (by have := HOK1.out.k; omega)
  obtain ⟨s2, hs2, ok2, _⟩ := ok_open HOK1.out
  rw [hs2] at ko
  have BW2 : Below w.heap.size w w2 := HB1.out.trans (F2.under sz1 (fun b q => q.1))
  have HOK2 := hid ok2
  have HBW2 := hid BW2
  have hk1 := HOK1.out.k
  clear kf D2 F2 ok2 hs2 T2 BW2
  go_wp2_with fail
  refine ko.mono ?_
  rintro en w3 ⟨hen, D3, F3⟩
  simp only [opPost] at hen
  obtain ⟨g, v, vt, xs, rfl, hg, ov, byv, ovt, hxs, hel, Q3, hpl, hmq⟩ := hen
  have hx0 : xs = [] := by cases xs with | nil => rfl | cons a l => simp at hxs
  subst hx0
  obtain ⟨va, vc, rfl, _, _, _⟩ := own_slice ov
  obtain ⟨ta, tc, rfl, _, _, _⟩ := own_slice ovt
  have ks := wsafe_f g d _ _ _ _ _ s2 _ w3 Q3 (by unfold edd; rw [HOK2.out.k, hk1]; rfl) (by have := HOK2.out.c; omega) (by rw [HOK2.out.P]; simp)
  obtain ⟨e2, ok3, _⟩ := ok_safe HOK2.out
  rw [e2] at ks
  have BW3 : Below w.heap.size w w3 := HBW2.out.trans (F3.under HBW2.out.size (fun b q => by rcases q with q | q <;> omega))
  have HBW3 := hid BW3
  have HOK3 := hid ok3
  have hgw : w.heap.size ≤ g := by have := HBW2.out.size; omega
  clear ko F3 D3 ov ovt hel Q3 byv BW3 ok3
  simp only [List.length_nil]
  simp only [List.length_nil, Nat.add_zero, hk1, Nat.zero_add, show ends [] (pcN 0) = 0 from rfl, show ((0 : Int) == 0) = true from rfl, show (false || (0 : Int) != 0) = false from rfl] at ks
  clear hmq hpl
  go_wp2_with (go_at_call 27; refine (num12 _ _).mono ?_; rintro e w' ⟨rfl, hw⟩; obtain rfl := hw.symm; clear hw)
  refine ks.mono ?_
  rintro en w4 ⟨rfl, z4⟩
  have S4 := hid (Sf.wz (w0 := w) (fun b q => by rcases q with q | q <;> omega) hgw HBW3.out z4)
  clear ks z4
  go_wp2_with (go_at_call 27; refine (num12 _ _).mono ?_; rintro e w' ⟨rfl, hw⟩; obtain rfl := hw.symm; clear hw)
  go_ret2
  exact ⟨d, g, flS s2, rfl, S4.out, ⟨HOK3.out.n, HOK3.out.P, HOK3.out.calm, HOK3.out.k, by have := HOK3.out.c; omega, HOK3.out.qt⟩⟩
end Go.Proofs.YtjajcbjodokfnaaGreatDoor
