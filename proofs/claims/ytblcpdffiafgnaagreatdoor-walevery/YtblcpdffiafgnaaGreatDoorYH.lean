import Derived.Test.YtblcpdffiafgnaaGreatDoorYC
import Derived.Lib.SlBytesConst
namespace Go.Proofs.YtblcpdffiafgnaaGreatDoor
set_option linter.unusedSimpArgs false
set_option maxRecDepth 100000
open Go.RowKit Go.Shelf
set_option linter.unusedVariables false

/-! A device that refuses nothing. -/
def Calm (s : St) : Prop := s.on = true ∧ ∀ x, s.F x = 0
theorem Calm.E {s : St} (h : Calm s) : opE s = 0 := by unfold opE; rw [if_pos h.1, h.2]; rfl
theorem Calm.S {s : St} (h : Calm s) : Calm (opS s) := by
  unfold opS
  rw [if_pos h.1]
  exact ⟨by simp [h.2], h.2⟩
theorem Calm.run {α : Type} : ∀ (r : Rp α) (s : St), Calm s → (r.run s).1 = .ok (r.eval (dv (layA s.S s.P))) ∧ Calm (r.run s).2 := fun r => by
  have key : ∀ (r : Rp α) (s : St), Calm s → (∃ x, (r.run s).1 = .ok x) ∧ Calm (r.run s).2 := fun r => by
    induction r with
    | ret a => intro s h; exact ⟨⟨a, rfl⟩, h⟩
    | rd i k ih =>
      intro s h
      unfold Rp.run
      rw [if_pos h.E]
      exact ih _ _ h.S
  intro s h
  obtain ⟨⟨x, hx⟩, hc⟩ := key r s h
  exact ⟨by rw [hx, ← Rp.run_ok r s x hx], hc⟩
theorem calm_wrs : ∀ (ws : List (Nat × List Int)) (s : St), Calm s → (wrs s ws).1 = 0 ∧ Calm (wrs s ws).2
  | [], s, h => ⟨rfl, h⟩
  | (i, z) :: r, s, h => by
    unfold wrs
    rw [if_pos h.E]
    exact calm_wrs r _ h.S
theorem calm_wfl {s : St} (h : Calm s) (ws : List (Nat × List Int)) : (wfl s ws).1 = 0 ∧ Calm (wfl s ws).2 := by
  obtain ⟨h1, h2⟩ := calm_wrs ws s h
  unfold wfl
  rw [if_pos h1, if_pos h2.E]
  exact ⟨h2.E, h2.S⟩
theorem calm_two {s : St} (h : Calm s) (v w : List (Nat × List Int)) : (two s v w).1 = 0 ∧ Calm (two s v w).2 ∧ two s v w = wfl (wfl s v).2 w := by
  obtain ⟨h1, h2⟩ := calm_wfl h v
  unfold two
  rw [if_pos h1]
  exact ⟨(calm_wfl h2 w).1, (calm_wfl h2 w).2, rfl⟩
theorem Calm.fl {s : St} (h : Calm s) : Calm (flS s) := by
  unfold flS
  rw [if_pos h.E]
  exact h.S
/-! How many reads there are at most. -/
def Lim {α : Type} (r : Rp α) (n : Nat) : Prop := ∀ s : St, (r.run s).2.c ≤ s.c + n
theorem Lim.up {α : Type} {r : Rp α} {n m : Nat} (h : Lim r n) (hm : n ≤ m) : Lim r m := fun s => by have := h s; omega
theorem lim_ret {α : Type} (a : α) : Lim (.ret a : Rp α) 0 := fun s => Nat.le_refl _
theorem lim_rd {α : Type} {i : Nat} {k : Option Sec → Rp α} {n : Nat} (h : ∀ x, Lim (k x) n) : Lim (.rd i k) (n + 1) := fun s => by
  unfold Rp.run
  have o1 := opS_c s
  split
  · have := h (gs (layA s.S s.P i)) (opS s)
    omega
  · show (opS s).c ≤ _
    omega
theorem lim_bind {α β : Type} {r : Rp α} {f : α → Rp β} {m n : Nat} (h : Lim r m) (hf : ∀ a, Lim (f a) n) : Lim (r.bind f) (m + n) := fun s => by
  rw [Rp.run_bind]
  have h1 := h s
  generalize r.run s = x at *
  obtain ⟨x1, s'⟩ := x
  cases x1 with
  | error E => simp only at *; omega
  | ok a => have := hf a s'; simp only at *; omega
theorem lim_ck (N : Nat) (x : Sp) : ∀ (m i : Nat) (l : List Int), Lim (ckP N x m i l) m
  | 0, i, l => by unfold ckP; exact lim_ret _
  | m + 1, i, l => by
    unfold ckP
    refine lim_rd (fun y => ?_)
    split
    · split
      · exact lim_ck N x m _ _
      · exact (lim_ret _).up (Nat.zero_le _)
    · exact (lim_ret _).up (Nat.zero_le _)
theorem lim_tk (N : Nat) (x : Sp) : Lim (tkP N x) x.K := by
  unfold tkP
  refine (lim_bind (n := 0) (lim_ck N x _ _ _) (fun a => ?_)).up (by omega)
  split <;> exact lim_ret _
theorem lim_fs (N : Nat) : ∀ (l : List Sp) (n : Nat), (∀ x ∈ l, x.K ≤ n) → Lim (fsP N l) (l.length * n)
  | [], n, _ => by unfold fsP; exact (lim_ret _).up (Nat.zero_le _)
  | a :: l, n, h => by
    unfold fsP
    refine (lim_bind (m := n) (n := l.length * n) ((lim_tk N a).up (h a (by simp))) (fun r => ?_)).up (by rw [List.length_cons, Nat.succ_mul]; omega)
    split
    · exact (lim_ret _).up (Nat.zero_le _)
    · exact lim_fs N l n (fun x hx => h x (List.mem_cons_of_mem _ hx))
theorem lim_tx (N e q : Nat) : ∀ (f p k : Nat) (tx : List Int) (full : Bool), Lim (txP N e q f p k tx full) f
  | 0, _, _, _, _ => by unfold txP; exact lim_ret _
  | f + 1, p, k, tx, full => by
    unfold txP
    refine lim_rd (fun x => ?_)
    split
    · exact (lim_ret _).up (Nat.zero_le _)
    · split
      · exact (lim_ret _).up (Nat.zero_le _)
      · split
        · split
          · exact (lim_ret _).up (Nat.zero_le _)
          · exact lim_tx N e q f _ _ _ _
        · exact (lim_ret _).up (Nat.zero_le _)
theorem lim_lg (N e : Nat) : ∀ (f q p : Nat), Lim (lgP N e f q p) (f * roo N)
  | 0, q, p => by unfold lgP; exact (lim_ret _).up (Nat.zero_le _)
  | f + 1, q, p => by
    unfold lgP
    split
    · exact (lim_ret _).up (Nat.zero_le _)
    · refine (lim_bind (m := roo N) (n := f * roo N) ((lim_tx N e q _ _ _ _ _).up (by omega)) (fun r => ?_)).up (by rw [Nat.succ_mul]; omega)
      split
      · exact (lim_bind (n := 0) (lim_lg N e f _ _) (fun r => lim_ret _)).up (by omega)
      · exact (lim_ret _).up (Nat.zero_le _)
theorem cnX_K {x : Option Sec} {N pl : Nat} {y : Sp} (h : cnX x N pl = some y) : y.K ≤ roo N := by
  unfold cnX at h
  split at h
  · split at h
    · rename_i hh
      cases h
      simp only
      have := hh.2.2.2.2.2.2
      omega
    · cases h
  · cases h
theorem lim_fn (N : Nat) : Lim (fnP N) (2 * roo N + 2) := by
  unfold fnP
  refine lim_rd (n := 2 * roo N + 1) (fun x => lim_rd (n := 2 * roo N) (fun y => ?_))
  refine (lim_fs N _ (roo N) (fun z hz => ?_)).up ?_
  · rcases two12_mem hz with q | q
    · exact cnX_K q
    · exact cnX_K q
  · refine Nat.mul_le_mul_right _ ?_
    unfold two12
    split
    · split <;> simp
    · simp
    · simp
    · simp
theorem lim_on (N : Nat) : Lim (onP N) (2 * roo N + 2 + (roo N + 1) * roo N) := by
  unfold onP
  refine lim_bind (lim_fn N) (fun r => ?_)
  split
  · exact (lim_bind (n := 0) (lim_lg N _ _ _ _) (fun r => lim_ret _)).up (by omega)
  · exact (lim_ret _).up (Nat.zero_le _)
/-- A calm device of 32 sectors, a log's account on it. -/
structure Ok12 (s : St) (e q : Nat) (st : List Int) (l : List (List Int)) (k C : Nat) : Prop where
  n : s.n = 32
  P : s.P = []
  calm : Calm s
  k : s.k = k
  c : s.c ≤ C
  qt : Qt (dv s.S) 32 e q st l
theorem roo32 : roo 32 = 15 := rfl
theorem gs_zer : gs zer = none := by
  cases h : gs zer with
  | none => rfl
  | some x =>
    obtain ⟨_, h2, _, h4⟩ := gs_some h
    rw [h4] at h2
    exact absurd (show isT (bt (sl zer 0 4)) from h2.1) (by rw [show sl zer 0 4 = [0, 0, 0, 0] from rfl]; decide)
theorem fm_go : ∀ (f i : Nat) (s : St), s.n = 32 → s.S = (fun _ => zer) → s.P = [] → Calm s → s.k = 0 → ∃ s' : St, fmA f i s = wfl s' [(1, ps ⟨t1, 1, 1, 1, sup 32 []⟩)] ∧ s'.n = 32 ∧ s'.S = (fun _ => zer) ∧ s'.P = [] ∧ Calm s' ∧ s'.k = 0 ∧ s'.c ≤ s.c + f
  | 0, i, s, h1, h2, h3, h4, h5 => ⟨s, by unfold fmA; rw [h1], h1, h2, h3, h4, h5, by omega⟩
  | f + 1, i, s, h1, h2, h3, h4, h5 => by
    obtain ⟨s', a0, a1, a2, a3, a4, a5, a6⟩ := fm_go f (i + 1) (opS s) ((opS_n s).trans h1) ((opS_S' s).trans h2) ((opS_P' s).trans h3) h4.S ((opS_k s).trans h5)
    have o1 := opS_c s
    refine ⟨s', ?_, a1, a2, a3, a4, a5, by omega⟩
    rw [← a0]
    conv => lhs; unfold fmA
    rw [if_pos h4.E, if_pos (by rw [h2, h3]; rfl)]
theorem ok_format : (fmA 32 0 (st0 32)).1 = 0 ∧ Ok12 (fmA 32 0 (st0 32)).2 1 1 [] [] 0 34 := by
  obtain ⟨s', a0, a1, a2, a3, a4, a5, a6⟩ := fm_go 32 0 (st0 32) rfl rfl rfl ⟨rfl, fun _ => rfl⟩ rfl
  rw [a0]
  obtain ⟨h1, h2⟩ := calm_wfl a4 [(1, ps ⟨t1, 1, 1, 1, sup 32 []⟩)]
  obtain ⟨b1, b2, b3, b4⟩ := wfl_n s' [(1, ps ⟨t1, 1, 1, 1, sup 32 []⟩)]
  obtain ⟨c1, c2⟩ := (wfl_is s' [(1, ps ⟨t1, 1, 1, 1, sup 32 []⟩)] a3).1 h1
  have hc0 : (st0 32).c = 0 := rfl
  refine ⟨h1, b1.trans a1, c2, h2, b2.trans a5, by simp only [List.length_singleton] at b3; omega, ?_⟩
  rw [c1]
  show Qt (dv (lay1 s'.S (1, ps ⟨t1, 1, 1, 1, sup 32 []⟩))) 32 1 1 [] []
  have hm : May ⟨t1, 1, 1, 1, sup 32 []⟩ := may2 (e := 1) (n := 1) (p := 1) ⟨by omega, by omega⟩ ⟨by omega, by omega⟩ (by omega) (by rw [sup_length]; omega) (.inl rfl)
  rw [dv_lay1 _ _ hm (sup_by _ _)]
  exact Qt.first (fun i => by unfold dv; rw [a2]; exact gs_zer) (by omega) (by omega)
theorem ok_open {s : St} {e q k C : Nat} {st : List Int} {l : List (List Int)} (h : Ok12 s e q st l k C) : ∃ s', (onP s.n).run { s with k := s.k + 1 } = (.ok (some (st, l, e, q + l.length, ends l (pcN st.length))), s') ∧ Ok12 s' e q st l (k + 1) (C + 300) ∧ s'.S = s.S := by
  have hc : Calm { s with k := s.k + 1 } := h.calm
  obtain ⟨h1, h2⟩ := Calm.run (onP s.n) { s with k := s.k + 1 } hc
  have h3 := run_SP (onP s.n) { s with k := s.k + 1 }
  have h4 := run_nk (onP s.n) { s with k := s.k + 1 }
  have h5 := lim_on s.n { s with k := s.k + 1 }
  rw [onP_eval] at h1
  have hP := h.P
  have hq := h.qt.opn
  have hn := h.n
  refine ⟨_, Prod.ext (h1.trans ?_) rfl, ⟨h4.1.trans hn, h3.2.trans hP, h2, by rw [h4.2]; have := h.k; simp only; omega, ?_, by rw [h3.1]; exact h.qt⟩, h3.1⟩
  · show Except.ok (opn (dv (layA s.S s.P)) s.n) = _
    rw [hP, hn]
    exact congrArg Except.ok hq
  · have h6 : 2 * roo s.n + 2 + (roo s.n + 1) * roo s.n = 272 := by rw [hn]; rfl
    have h7 : ({ s with k := s.k + 1 } : St).c = s.c := rfl
    have := h.c
    exact Nat.le_trans h5 (by omega)
theorem ok_safe {s : St} {e q k C : Nat} {st : List Int} {l : List (List Int)} (h : Ok12 s e q st l k C) : opE s = 0 ∧ Ok12 (flS s) e q st l k (C + 1) ∧ (flS s).S = s.S := by
  have h0 := h.calm.E
  have o1 := opS_c s
  have hS : (flS s).S = s.S := by
    unfold flS
    rw [if_pos h0, h.P]
    rfl
  refine ⟨h0, ⟨?_, ?_, h.calm.fl, ?_, ?_, by rw [hS]; exact h.qt⟩, hS⟩
  · unfold flS; rw [if_pos h0]; exact (opS_n s).trans h.n
  · unfold flS; rw [if_pos h0]
  · unfold flS; rw [if_pos h0]; exact (opS_k s).trans h.k
  · unfold flS; rw [if_pos h0]; show (opS s).c ≤ _; have := h.c; omega
theorem two_n12 (s : St) (v w : List (Nat × List Int)) : (two s v w).2.n = s.n ∧ (two s v w).2.k = s.k ∧ (two s v w).2.c ≤ s.c + v.length + w.length + 2 := by
  obtain ⟨a1, a2, a3, a4⟩ := wfl_n s v
  obtain ⟨b1, b2, b3, b4⟩ := wfl_n (wfl s v).2 w
  unfold two
  split
  · exact ⟨b1.trans a1, b2.trans a2, by omega⟩
  · exact ⟨a1, a2, by omega⟩
theorem ok_app {s : St} {e q k C : Nat} {st tx : List Int} {l : List (List Int)} (h : Ok12 s e q st l k C) (he : mq e) (hn : mq (q + l.length)) (hb : By tx) (h0 : 0 < tx.length) (h1 : tx.length ≤ 4800) (hr : ends l (pcN st.length) + ned tx.length ≤ 15) :
    (apR s s.n e (q + l.length) (ends l (pcN st.length)) tx).1 = 0 ∧ Ok12 (apR s s.n e (q + l.length) (ends l (pcN st.length)) tx).2 e q st (l ++ [tx]) k (C + 20) := by
  have hsn := h.n
  rw [hsn]
  have key : (apR s 32 e (q + l.length) (ends l (pcN st.length)) tx).1 = 0 ∧ Calm (apR s 32 e (q + l.length) (ends l (pcN st.length)) tx).2 ∧ (apR s 32 e (q + l.length) (ends l (pcN st.length)) tx).2.n = s.n ∧ (apR s 32 e (q + l.length) (ends l (pcN st.length)) tx).2.k = s.k ∧ (apR s 32 e (q + l.length) (ends l (pcN st.length)) tx).2.c ≤ s.c + 20 := by
    unfold apR
    split
    · obtain ⟨a1, a2⟩ := calm_wfl h.calm [(sct 32 e (ends l (pcN st.length)), ps ⟨t4, e, (q + l.length : Nat), (ends l (pcN st.length) : Nat), tx⟩)]
      obtain ⟨b1, b2, b3, b4⟩ := wfl_n s [(sct 32 e (ends l (pcN st.length)), ps ⟨t4, e, (q + l.length : Nat), (ends l (pcN st.length) : Nat), tx⟩)]
      simp only [List.length_singleton] at b3
      exact ⟨a1, a2, b1, b2, by omega⟩
    · obtain ⟨a1, a2, _⟩ := calm_two h.calm (pw 32 e (q + l.length) (ends l (pcN st.length)) tx (pcN tx.length)) [(sct 32 e (ends l (pcN st.length) + pcN tx.length), ps ⟨t3, e, (q + l.length : Nat), (ends l (pcN st.length) + pcN tx.length : Nat), edb tx⟩)]
      obtain ⟨b1, b2, b3⟩ := two_n12 s (pw 32 e (q + l.length) (ends l (pcN st.length)) tx (pcN tx.length)) [(sct 32 e (ends l (pcN st.length) + pcN tx.length), ps ⟨t3, e, (q + l.length : Nat), (ends l (pcN st.length) + pcN tx.length : Nat), edb tx⟩)]
      have hlen : (pw 32 e (q + l.length) (ends l (pcN st.length)) tx (pcN tx.length)).length = pcN tx.length := by unfold pw; simp
      have : pcN tx.length ≤ 10 := by unfold pcN; omega
      simp only [List.length_singleton] at b3
      exact ⟨a1, a2, b1, b2, by omega⟩
  obtain ⟨k1, k2, k3, k4, k5⟩ := key
  have hw := (append_whole h.P h.qt he hn hb h0 h1 (by rw [roo32]; exact hr)).1 k1
  exact ⟨k1, k3.trans hsn, hw.1, k2, k4.trans h.k, by have := h.c; omega, hw.2⟩
theorem ok_ck {s : St} {e q k C : Nat} {st st' : List Int} {l : List (List Int)} (h : Ok12 s e q st l k C) (he : mq (e + 1)) (hn : mq (q + l.length)) (hb : By st') (hK : pcN st'.length + 11 ≤ 15) :
    (ckp s s.n e (q + l.length) st').1 = 0 ∧ Ok12 (ckp s s.n e (q + l.length) st').2 (e + 1) (q + l.length) st' [] k (C + 20) := by
  have hsn := h.n
  rw [hsn]
  obtain ⟨a1, a2, _⟩ := calm_two h.calm (pw 32 (e + 1) (q + l.length) 0 st' (pcN st'.length)) [((e + 1) % 2, ps ⟨t1, (e + 1 : Nat), (q + l.length : Nat), ((e + 1) % 2 : Nat), sup 32 st'⟩)]
  obtain ⟨b1, b2, b3⟩ := two_n12 s (pw 32 (e + 1) (q + l.length) 0 st' (pcN st'.length)) [((e + 1) % 2, ps ⟨t1, (e + 1 : Nat), (q + l.length : Nat), ((e + 1) % 2 : Nat), sup 32 st'⟩)]
  have hlen : (pw 32 (e + 1) (q + l.length) 0 st' (pcN st'.length)).length = pcN st'.length := by unfold pw; simp
  simp only [List.length_singleton] at b3
  have hw := (check_whole h.P h.qt he hn hb (by rw [roo32]; exact hK)).1 a1
  exact ⟨a1, b1.trans hsn, hw.1, a2, b2.trans h.k, by have := h.c; show (ckp s 32 e (q + l.length) st').2.c ≤ _; unfold ckp; omega, hw.2⟩
end Go.Proofs.YtblcpdffiafgnaaGreatDoor
namespace Go.Proofs.YtblcpdffiafgnaaGreatDoor
set_option linter.unusedSimpArgs false
set_option maxRecDepth 100000
open Go.RowKit Go.Shelf
set_option linter.unusedVariables false

theorem num12 (e : Int) (w : World) : Calls Tryz.prog 21 #[.int .i64 e] w fun en w' => en = .returned (.int .i64 e) ∧ w' = w := by
  go_enter Tryz.func21, Tryz.ntmps21
  go_wp2_with fail
  go_ret
  exact ⟨rfl, rfl⟩
/-- A log of the chapter's first lines: all of it lies behind w0. -/
structure Sf (w0 w : World) (g d mi ep nx pl : Nat) (se re : Bool) (s : St) : Prop where
  q : ∃ Q, Wq w g d mi ep nx pl se re s Q ∧ ∀ b, Q b → w0.heap.size ≤ b
  hg : w0.heap.size ≤ g
  bel : Below w0.heap.size w0 w
theorem Sf.below {w0 w w' : World} {g d mi ep nx pl : Nat} {se re : Bool} {s : St} (h : Sf w0 w g d mi ep nx pl se re s) (hb : Below w.heap.size w w') : Sf w0 w' g d mi ep nx pl se re s := by
  obtain ⟨Q, h1, h2⟩ := h.q
  exact ⟨⟨Q, h1.below hb, h2⟩, h.hg, bel_bel h.bel h.bel.size hb⟩
theorem Sf.wz {w0 w w' : World} {g d mi ep nx pl : Nat} {se re : Bool} {s : St} {Q : Nat → Prop} (hQ : ∀ b, Q b → w0.heap.size ≤ b) (hg : w0.heap.size ≤ g) (hb : Below w0.heap.size w0 w) (z : Wz w w' g d mi ep nx pl se re s Q) : Sf w0 w' g d mi ep nx pl se re s := by
  have hs := hb.size
  refine ⟨⟨_, z.q, fun b q => ?_⟩, hg, hb.trans (z.f.under hs (fun b q => ?_))⟩
  · rcases q with q | q
    · exact hQ b q
    · omega
  · rcases q with q | q
    · exact hQ b q
    · omega
set_option maxHeartbeats 4000000 in
theorem begun_ (w : World) (hT : Tab w) : Calls Tryz.prog 30 #[.int .i64 32] w fun en w' => ∃ d g s, en = .returned (.tuple #[.pointer (some ⟨d, 0, none⟩), .pointer (some ⟨g, 0, none⟩)]) ∧ Sf w w' g d 1 1 1 0 true false s ∧ Ok12 s 1 1 [] [] 1 400 := by
  have kn := new_ 32 w (by omega) (by omega)
  have HT := hid hT
  have h0 : 0 < w.heap.size := hT.1
  clear hT
  go_enter Tryz.func30, Tryz.ntmps30
  go_wp2_with fail
  refine kn.mono ?_
  rintro en w1 ⟨d, rfl, D1, B1⟩
  have kf := format_ d (st0 32) _ w1 D1 (HT.out.bel B1) (fun q => by omega) (by show 0 ≤ _; omega) (by show 0 ≤ _; omega)
  rw [show (st0 32).n = 32 from rfl, ok_format.1] at kf
  have ok1 := ok_format.2
  obtain ⟨s1, Hs1⟩ : ∃ s1, Hid ((fmA 32 0 (st0 32)).2 = s1) := ⟨_, rfl⟩
  rw [Hs1.out] at kf ok1
  have HOK1 := hid ok1
  have HD1 := hid D1
  have HB1 := hid B1
  have sz1 := B1.size
  clear kn D1 B1 ok1
  go_wp2_with fail
  refine kf.mono ?_
  rintro en w2 ⟨rfl, D2, F2⟩
  have sz2 := F2.size
  have T2 : Tab w2 := (HT.out.bel HB1.out).fr F2 (fun q => by omega)
  have ko := open_ d s1 _ w2 D2 T2 (fun q => by rcases q with q | q <;> omega) (by have := HOK1.out.c; omega) (by rw [HOK1.out.P]; simp) (by have := HOK1.out.k; omega)
  obtain ⟨s2, hs2, ok2, _⟩ := ok_open HOK1.out
  rw [hs2] at ko
  have BW2 : Below w.heap.size w w2 := HB1.out.trans (F2.under sz1 (fun b q => q.1))
  have HOK2 := hid ok2
  have HBW2 := hid BW2
  have hk1 := HOK1.out.k
  clear kf D2 F2 ok2 hs2 T2 BW2
  go_wp2_with fail
  refine ko.mono ?_
  rintro en w3 ⟨hen, D3, F3⟩
  simp only [opPost] at hen
  obtain ⟨g, v, vt, xs, rfl, hg, ov, byv, ovt, hxs, hel, Q3, hpl, hmq⟩ := hen
  have hx0 : xs = [] := by cases xs with | nil => rfl | cons a l => simp at hxs
  subst hx0
  obtain ⟨va, vc, rfl, _, _, _⟩ := own_slice ov
  obtain ⟨ta, tc, rfl, _, _, _⟩ := own_slice ovt
  have ks := wsafe_f g d _ _ _ _ _ s2 _ w3 Q3 (by unfold edd; rw [HOK2.out.k, hk1]; rfl) (by have := HOK2.out.c; omega) (by rw [HOK2.out.P]; simp)
  obtain ⟨e2, ok3, _⟩ := ok_safe HOK2.out
  rw [e2] at ks
  have BW3 : Below w.heap.size w w3 := HBW2.out.trans (F3.under HBW2.out.size (fun b q => by rcases q with q | q <;> omega))
  have HBW3 := hid BW3
  have HOK3 := hid ok3
  have hgw : w.heap.size ≤ g := by have := HBW2.out.size; omega
  clear ko F3 D3 ov ovt hel Q3 byv BW3 ok3
  simp only [List.length_nil]
  simp only [List.length_nil, Nat.add_zero, hk1, Nat.zero_add, show ends [] (pcN 0) = 0 from rfl, show ((0 : Int) == 0) = true from rfl, show (false || (0 : Int) != 0) = false from rfl] at ks
  clear hmq hpl
  go_wp2_with (go_at_call 21; refine (num12 _ _).mono ?_; rintro e w' ⟨rfl, hw⟩; obtain rfl := hw.symm; clear hw)
  refine ks.mono ?_
  rintro en w4 ⟨rfl, z4⟩
  have S4 := hid (Sf.wz (w0 := w) (fun b q => by rcases q with q | q <;> omega) hgw HBW3.out z4)
  clear ks z4
  go_wp2_with (go_at_call 21; refine (num12 _ _).mono ?_; rintro e w' ⟨rfl, hw⟩; obtain rfl := hw.symm; clear hw)
  go_ret2
  exact ⟨d, g, flS s2, rfl, S4.out, ⟨HOK3.out.n, HOK3.out.P, HOK3.out.calm, HOK3.out.k, by have := HOK3.out.c; omega, HOK3.out.qt⟩⟩
end Go.Proofs.YtblcpdffiafgnaaGreatDoor
namespace Go.Proofs.YtblcpdffiafgnaaGreatDoor
set_option linter.unusedSimpArgs false
set_option maxRecDepth 100000
open Go.RowKit Go.Shelf
set_option linter.unusedVariables false

theorem own_bs12 {w : World} {B g n cap : Nat} {zs : List Int} (o : w.ownsRow B 5 1 (.slice (some ⟨g, 0, none⟩) n cap) n (cells zs)) (hz : ∀ z ∈ zs, 0 ≤ z ∧ z ≤ 255) : Bs w (some ⟨g, 0, none⟩) n zs ∧ n ≤ cap ∧ cap ≤ maxLen := by
  obtain ⟨a, c, q, b, h1, h2, _⟩ := own_form (own_mono o (Nat.zero_le _)) hz
  obtain ⟨rfl, -, rfl⟩ : some (⟨g, 0, none⟩ : Addr) = a ∧ n = n ∧ cap = c := by simpa using q
  exact ⟨b, h1, h2⟩
section
variable {w0 w w' : World} {g d mi ep nx pl : Nat} {s : St}
theorem sf_app (h : Sf w0 w g d mi ep nx pl true false s) (hb : Below w.heap.size w w') (hk : mi = s.k) (b m c : Nat) (tx : List Int) (hbw : w.heap.size ≤ b) (hbs : Bs w' (some ⟨b, 0, none⟩) m tx) (hmc : m ≤ c) (hcm : c ≤ maxLen) (h0 : 0 < m) (h2 : m ≤ 4800) (he : mq ep) (hn : mq nx) (hp : pl + ned m ≤ roo s.n) (hsc : s.c ≤ 40000) (hP : s.P = []) (hE : (apR s s.n ep nx pl tx).1 = 0) :
    Calls Tryz.prog 20 #[.pointer (some ⟨g, 0, none⟩), .slice (some ⟨b, 0, none⟩) m c] w' fun en w2 => en = .returned (.int .i64 0) ∧ Sf w0 w2 g d mi ep (nx + 1) (pl + ned m) true false (apR s s.n ep nx pl tx).2 := by
  obtain ⟨Q, q1, q2⟩ := h.q
  have k := wapp_ (q1.below hb) hk (some ⟨b, 0, none⟩) m c tx hbs (fun ad e _ => by
    cases e
    exact ⟨fun q => by have := q1.dv.lt _ q; simp only at this; omega, fun e => by have := q1.lm.lt; simp only at e; omega⟩) hmc hcm h0 h2 he hn hp hsc (by rw [hP]; simp)
  rw [hE] at k
  refine k.mono ?_
  rintro en w2 ⟨rfl, z⟩
  exact ⟨rfl, Sf.wz q2 h.hg (bel_bel h.bel h.bel.size hb) z⟩
theorem sf_ck (h : Sf w0 w g d mi ep nx pl true false s) (hb : Below w.heap.size w w') (hk : mi = s.k) (b m c : Nat) (st : List Int) (hbw : w.heap.size ≤ b) (hbs : Bs w' (some ⟨b, 0, none⟩) m st) (hmc : m ≤ c) (hcm : c ≤ maxLen) (he : mq (ep + 1)) (hn : mq nx) (hr : pcN m + 11 ≤ roo s.n) (hsc : s.c ≤ 40000) (hP : s.P = []) (hE : (ckp s s.n ep nx st).1 = 0) :
    Calls Tryz.prog 25 #[.pointer (some ⟨g, 0, none⟩), .slice (some ⟨b, 0, none⟩) m c] w' fun en w2 => en = .returned (.int .i64 0) ∧ Sf w0 w2 g d mi (ep + 1) nx (pcN m) true false (ckp s s.n ep nx st).2 := by
  obtain ⟨Q, q1, q2⟩ := h.q
  have k := wchk_ (q1.below hb) hk (some ⟨b, 0, none⟩) m c st hbs (fun ad e _ => by
    cases e
    exact ⟨fun q => by have := q1.dv.lt _ q; simp only at this; omega, fun e => by have := q1.lm.lt; simp only at e; omega⟩) hmc hcm he hn hr hsc (by rw [hP]; simp)
  rw [hE] at k
  refine k.mono ?_
  rintro en w2 ⟨rfl, z⟩
  exact ⟨rfl, Sf.wz q2 h.hg (bel_bel h.bel h.bel.size hb) z⟩
end
theorem edd_no {s : St} {mi : Nat} (h : s.k = mi) : edd mi false s = false := by unfold edd; rw [h]; simp
def abc : List Int := [97, 98, 99]
def z481 : List Int := List.replicate 481 0
theorem by_abc : By abc := by intro z hz; simp [abc] at hz; rcases hz with rfl | rfl | rfl <;> decide
theorem by_z (n : Nat) : By (List.replicate n 0) := fun z hz => by rw [(List.mem_replicate.1 hz).2]; decide
/-- The log of the chapter's first lines, behind its two Appends. -/
theorem first_ok {s1 : St} (h : Ok12 s1 1 1 [] [] 1 400) : ∃ s2 s3, (apR s1 s1.n 1 1 0 abc).1 = 0 ∧ (apR s1 s1.n 1 1 0 abc).2 = s2 ∧ Ok12 s2 1 1 [] [abc] 1 420 ∧ (apR s2 s2.n 1 2 1 z481).1 = 0 ∧ (apR s2 s2.n 1 2 1 z481).2 = s3 ∧ Ok12 s3 1 1 [] [abc, z481] 1 440 := by
  have k1 := ok_app h (tx := abc) ⟨by omega, by omega⟩ ⟨by simp, by simp⟩ by_abc (by decide) (by decide) (by decide)
  have k2 := ok_app k1.2 (tx := z481) ⟨by omega, by omega⟩ ⟨by simp, by simp⟩ (by_z 481) (by unfold z481; rw [List.length_replicate]; omega) (by unfold z481; rw [List.length_replicate]; omega) (by unfold z481; rw [List.length_replicate]; decide)
  exact ⟨_, _, k1.1, rfl, k1.2, k2.1, rfl, k2.2⟩
theorem ned3 : ned 3 = 1 := rfl
theorem ned481 : ned 481 = 3 := by decide
theorem tag_at {S : Nat → List Int} (hS : ∀ i, i < 32 → Sc5 (S i)) {i : Nat} (hi : i < 32) {x : Sec} (h : gs (S i) = some x) : bt (sl (flat S 32) (512 * i) 4) = x.T := by
  obtain ⟨h1, _, _, h4⟩ := gs_some h
  have hc := flat_cut 32 (fun j hj => (hS j hj).1) i hi
  have : sl (flat S 32) (512 * i) 4 = sl (S i) 0 4 := by
    rw [← hc]
    unfold sl
    rw [List.drop_zero, List.take_take]
    rfl
  rw [this, h4]
  rfl
theorem first_tags {s : St} {C : Nat} (h : Ok12 s 1 1 [] [abc, z481] 1 C) : (∃ x, gs (s.S 17) = some x ∧ x.T = t4) ∧ (∃ x, gs (s.S 18) = some x ∧ x.T = t2) ∧ (∃ x, gs (s.S 20) = some x ∧ x.T = t3) := by
  obtain ⟨l1, l2, _⟩ := h.qt.ld
  have hz : z481.length = 481 := by unfold z481; exact List.length_replicate
  have ha : ned abc.length = 1 := rfl
  have hp : pcN ([] : List Int).length = 0 := rfl
  have hz2 : pcN z481.length = 2 := by rw [hz]; rfl
  rw [hp] at l1 l2
  rw [ha] at l2
  rcases l1 with ⟨_, _, a1⟩ | ⟨b1, _⟩
  · rcases l2 with ⟨_, c1, _⟩ | ⟨_, _, c2, c3⟩
    · omega
    · have d1 := c2 0 (by omega)
      rw [hz2] at c3
      exact ⟨⟨_, a1, rfl⟩, ⟨_, d1, rfl⟩, ⟨_, c3, rfl⟩⟩
  · exact absurd b1 (by decide)
theorem own_slice_c {w : World} {base n : Nat} {t : TypeId} {v : Value} {xs : List Value} (h : w.ownsRow base t 1 v n xs) (hn : 0 < n) : ∃ g c, v = .slice (some ⟨g, 0, none⟩) n c ∧ n ≤ c ∧ c ≤ maxLen ∧ ∀ i u, xs[i]? = some u → w.cell? ⟨g, i, none⟩ = some u := by
  rcases h.2 with ⟨_, h0⟩ | ⟨g, cap, cur, e, _, hg, h1, h2, _, _⟩
  · omega
  · refine ⟨g, cap, e, h1, h2, fun i u hu => ?_⟩
    have := h.cells (g := g) (by rw [e]; rfl) i u hu
    rwa [Addr.add_lit, Nat.zero_add] at this
theorem bs_lit (w : World) (zs : List Int) (fl : Nat × Nat) (hb : By zs) : Bs (w.alloc (.cells (cells zs).toArray 5 fl)) (some ⟨w.heap.size, 0, none⟩) zs.length zs := by
  refine ⟨rfl, hb, .inr ⟨w.heap.size, 0, rfl, fun i hi => ?_⟩⟩
  rw [Nat.zero_add, cell_of_row _ _ i _ 5 fl (heap_alloc_new w _)]
  simp [cells, List.getElem?_eq_getElem hi, List.getD]
set_option maxHeartbeats 8000000 in
theorem first_ (w : World) (hT : Tab w) : Calls Tryz.prog 8 #[] w fun en w' => en = .returned (.bool true) ∧ Below w.heap.size w w' := by
  obtain ⟨i, hi, hz0, hz1, hz2⟩ := info_parts info5
  have kb := begun_ w hT
  clear hT
  go_enter Tryz.func8, Tryz.ntmps8
  go_wp2_with fail
  refine kb.mono ?_
  rintro en w1 ⟨d, g, s1, rfl, S1, ok1⟩
  simp only
  obtain ⟨s2, s3, e1, hs2, ok2, e2, hs3, ok3⟩ := first_ok ok1
  have kc := fun (w : World) (C : Array Value) (n c : Nat) => Lib.run_convert_bytes_const (P := Tryz.prog) w 27 5 C n c Tryz.underlying27 Tryz.underlying5
  have B1 : Below w1.heap.size w1 (w1.alloc (.cells #[.int .u8 97, .int .u8 98, .int .u8 99] 5 (3, 4))) := (Below.refl _ _).alloc (Nat.le_refl _) _
  have r1 : Bs (w1.alloc (.cells #[.int .u8 97, .int .u8 98, .int .u8 99] 5 (3, 4))) (some ⟨w1.heap.size, 0, none⟩) 3 abc := bs_lit w1 abc (3, 4) by_abc
  have ka := sf_app S1 B1 ok1.k.symm w1.heap.size 3 3 abc (Nat.le_refl _) r1 (by omega) (by unfold maxLen; omega) (by omega) (by omega) ⟨by omega, by omega⟩ ⟨by omega, by omega⟩ (by rw [ok1.n, ned3]; decide) (by have := ok1.c; omega) ok1.P e1
  rw [hs2, ned3] at ka
  have HOK2 := hid ok2
  have HOK3 := hid ok3
  have HE2 := hid e2
  have HS3 := hid hs3
  clear kb S1 B1 r1 ok1 ok2 ok3 e1 e2 hs2 hs3
  go_wp2_with fail
  refine ka.mono ?_
  rintro en w2 ⟨rfl, S2⟩
  simp only
  have HS2 := hid S2
  clear ka S2
  go_wp2_with (at_make; refine wpList_make_full _ rfl _ _ 27 rfl w2.heap.size 5 i (.int .u8 0) 1 Tryz.underlying27 hi hz0 hz1 .i64 .i64 _ _ 481 rfl rfl rfl rfl (by rw [hz2]; omega) (by unfold maxLen; omega) (Nat.le_refl _) ?_; intro w3 hown hg1)
  rw [made_zerosD] at hown
  have b3 := (own_bs12 hown (by_z 481)).1
  have ka := sf_app (show Sf w w2 g d 1 1 2 1 true false s2 from HS2.out) (below_of_grown hg1) HOK2.out.k.symm w2.heap.size 481 481 z481 (Nat.le_refl _) b3 (by omega) (by unfold maxLen; omega) (by omega) (by omega) ⟨by omega, by omega⟩ ⟨by omega, by omega⟩ (by rw [HOK2.out.n, ned481]; decide) (by have := HOK2.out.c; omega) HOK2.out.P HE2.out
  rw [HS3.out, ned481] at ka
  refine ka.mono ?_
  rintro en w4 ⟨rfl, S4⟩
  simp only
  obtain ⟨Q, q4, hQ⟩ := (show Sf w w4 g d 1 1 3 4 true false s3 from S4).q
  have kst := wstate_o q4 (edd_no HOK3.out.k)
  have HS4 : Hid (Sf w w4 g d 1 1 3 4 true false s3) := S4
  have Hq4 := hid q4
  have HhQ := hid hQ
  clear ka S4 q4 hQ b3 hown hg1 HS2 HE2 HS3
  go_wp2_with fail
  refine kst.mono ?_
  rintro en w5 ⟨rfl, dr5⟩
  simp only
  have H5 := hid dr5.below
  clear kst dr5
  go_wp2_with (at_make; refine wpList_make_full _ rfl _ _ 27 rfl w5.heap.size 5 i (.int .u8 0) 1 Tryz.underlying27 hi hz0 hz1 .i64 .i64 _ _ 1921 rfl rfl rfl rfl (by rw [hz2]; omega) (by unfold maxLen; omega) (Nat.le_refl _) ?_; intro w6 hown hg1)
  have H6 := hid (below_of_grown hg1)
  have q6 := (Hq4.out.below H5.out).below H6.out
  have hke : kE (true && !edd 1 false s3) 1921 1 3 (roo s3.n) = 112 := by rw [edd_no HOK3.out.k, HOK3.out.n]; decide
  have kck := wchk_no q6 (some ⟨w5.heap.size, 0, none⟩) 1921 1921 (by omega) (by rw [hke]; decide)
  rw [hke] at kck
  clear hke hown hg1 q6
  refine kck.mono ?_
  rintro en w7 ⟨rfl, dr7⟩
  simp only
  have H7 := hid dr7.below
  have q7 := ((Hq4.out.below H5.out).below H6.out).below H7.out
  have kl := wleft_o q7 (edd_no HOK3.out.k) (by rw [HOK3.out.n]; decide)
  rw [show roo s3.n - 4 = 11 from by rw [HOK3.out.n]; rfl] at kl
  clear kck dr7 q7
  go_wp2_with (go_at_call 21; refine (num12 _ _).mono ?_; rintro e w' ⟨rfl, hw⟩; obtain rfl := hw.symm; clear hw)
  refine kl.mono ?_
  rintro en w8 ⟨rfl, dr8⟩
  simp only
  have H8 := hid dr8.below
  have q8 := (((Hq4.out.below H5.out).below H6.out).below H7.out).below H8.out
  have krm := wroomL_o q8 (edd_no HOK3.out.k)
  rw [show roo s3.n = 15 from by rw [HOK3.out.n]; rfl] at krm
  clear kl dr8 q8
  go_wp2_with fail
  refine krm.mono ?_
  rintro en w9 ⟨rfl, dr9⟩
  simp only
  have H9 := hid dr9.below
  have q9 := ((((Hq4.out.below H5.out).below H6.out).below H7.out).below H8.out).below H9.out
  have S9 := ((((HS4.out.below H5.out).below H6.out).below H7.out).below H8.out).below H9.out
  have kd := durable_ d s3 Q w9 q9.dv
  rw [HOK3.out.n] at kd
  have Hq9 := hid q9
  have HS9 := hid S9
  clear krm dr9 q9 S9 H5 H6 H7 H8 H9 Hq4 HS4
  go_wp2_with fail
  refine kd.mono ?_
  rintro en w10 ⟨v, rfl, hown, B10⟩
  simp only
  have hsec : ∀ i, i < 32 → Sc5 (s3.S i) := fun i hi => Hq9.out.dv.sec i (by rw [HOK3.out.n]; exact hi)
  obtain ⟨av, cv, rfl, bv, hc1, hc2, _⟩ := own_form (own_mono hown (Nat.zero_le _)) (flat_byte 32 hsec)
  obtain ⟨⟨x17, g17, t17⟩, ⟨x18, g18, t18⟩, ⟨x20, g20, t20⟩⟩ := first_tags HOK3.out
  obtain ⟨gv, ov, rfl, _⟩ : ∃ b off, av = some ⟨b, off, none⟩ ∧ True := by
    rcases bv.2.2 with h | ⟨b, off, e, _⟩
    · omega
    · exact ⟨b, off, e, trivial⟩
  have k17 : ∀ c, (convert 27 9 (.slice (some ⟨gv, ov + 8704, none⟩) 4 c)).run Tryz.prog w10 = .ok (.string ⟨#[67, 86, 79, 49]⟩) w10 := fun c => by
    have := run_txt c (bs_sl bv 8704 4 (by omega))
    rw [show bt (sl (flat s3.S 32) 8704 4) = t4 from (tag_at hsec (i := 17) (by omega) g17).trans t17] at this
    exact this
  have k18 : ∀ c, (convert 27 9 (.slice (some ⟨gv, ov + 9216, none⟩) 4 c)).run Tryz.prog w10 = .ok (.string ⟨#[67, 86, 68, 49]⟩) w10 := fun c => by
    have := run_txt c (bs_sl bv 9216 4 (by omega))
    rw [show bt (sl (flat s3.S 32) 9216 4) = t2 from (tag_at hsec (i := 18) (by omega) g18).trans t18] at this
    exact this
  have k20 : ∀ c, (convert 27 9 (.slice (some ⟨gv, ov + 10240, none⟩) 4 c)).run Tryz.prog w10 = .ok (.string ⟨#[67, 86, 67, 49]⟩) w10 := fun c => by
    have := run_txt c (bs_sl bv 10240 4 (by omega))
    rw [show bt (sl (flat s3.S 32) 10240 4) = t3 from (tag_at hsec (i := 20) (by omega) g20).trans t20] at this
    exact this
  have H10 := hid B10
  have hcv : 16384 ≤ cv := by omega
  clear kd hown bv hc1 t17 t18 t20 g17 g18 g20 B10 hsec
  have q10 := Hq9.out.below H10.out
  have hk3 := HOK3.out.k
  have ko := open_ d s3 Q w10 q10.dv q10.tb q10.n0 (by have := HOK3.out.c; omega) (by rw [HOK3.out.P]; simp) (by omega)
  obtain ⟨s4, hs4, ok4, _⟩ := ok_open HOK3.out
  rw [hs4] at ko
  have HOK4 := hid ok4
  have Hq10 := hid q10
  have HS10 := hid (HS9.out.below H10.out)
  clear q10 ok4 hs4
  go_wp2_with fail
  refine ko.mono ?_
  rintro en w11 ⟨hen, D11, F11⟩
  simp only [opPost] at hen
  obtain ⟨m, v2, vt, xs, rfl, hgm, ov2, byv, ovt, hxs, hel, Qm, hplm, hmq⟩ := hen
  obtain ⟨x1, x2, rfl⟩ : ∃ x1 x2, xs = [x1, x2] := by
    cases xs with
    | nil => simp at hxs
    | cons a l =>
      cases l with
      | nil => simp at hxs
      | cons b l =>
        cases l with
        | nil => exact ⟨a, b, rfl⟩
        | cons c l => simp at hxs
  have hx1 : x1.tx = abc := by simp at hxs; exact hxs.1
  obtain ⟨va2, vc2, rfl, _, _, _⟩ := own_slice ov2
  obtain ⟨gt, ct, rfl, hct, _, hcells⟩ := own_slice_c ovt (by simp)
  have ct0 := hcells 0 x1.v rfl
  have ox1 := (hel x1 (by simp)).1
  rw [hx1] at ox1
  obtain ⟨a1, c1, hv1, b1, _, _, _⟩ := own_form (own_mono ox1 (Nat.zero_le _)) by_abc
  rw [hv1] at ct0
  simp only [List.length_nil, List.length_cons, Nat.zero_add, Nat.reduceAdd]
  simp only [show abc.length = 3 from rfl] at b1 ct0
  have hq9b := Hq10.out.dev D11 F11 Hq10.out.ng Hq10.out.n0
  have hedd : edd 1 false s4 = true := by unfold edd; rw [HOK4.out.k]; rfl
  have kst := wstate_e hq9b hedd
  have HQl := hid hq9b
  have BW11 : Below w.heap.size w w11 := HS10.out.bel.trans (F11.under HS10.out.bel.size (fun b q => HhQ.out b q))
  have hmi : s3.k + 1 = 2 := by omega
  rw [hmi] at Qm
  have HQm := hid (show Wq w11 m d 2 1 3 4 false false s4 Q from Qm)
  have HB1 := hid b1
  have HBW := hid BW11
  have hgw : w.heap.size ≤ m := by have := HS10.out.bel.size; omega
  clear ko hel ov2 ovt hcells ox1 Qm hq9b D11 F11 b1 BW11 hplm hmq byv
  go_wp2_with fail
  refine kst.mono ?_
  rintro en w12 ⟨rfl, dr12⟩
  simp only
  have H12 := hid dr12.below
  have B13 : Below w12.heap.size w12 (w12.alloc (.cells #[.int .u8 120] 5 (1, 2))) := (Below.refl _ _).alloc (Nat.le_refl _) _
  have ql := (HQl.out.below H12.out).below B13
  have hae : aE (true && !edd 1 false s4) 1 3 4 (roo s4.n) = 115 := by rw [hedd]; rfl
  have kap := wapp_no ql (some ⟨w12.heap.size, 0, none⟩) 1 1 (by omega) (by rw [HOK4.out.n]; decide) (by rw [hae]; decide)
  rw [hae] at kap
  have H13 := hid B13
  clear kst dr12 ql B13
  go_wp2_with fail
  refine kap.mono ?_
  rintro en w14 ⟨rfl, dr14⟩
  simp only
  have H14 := hid dr14.below
  have ct1 : w14.cell? ⟨gt, 0, none⟩ = some (.slice a1 3 c1) := by
    have := World.block_lt_of_cell? _ _ ct0
    exact ((((H12.out.trans (H13.out.mono H12.out.size)).trans (H14.out.mono (Nat.le_trans H12.out.size H13.out.size))).cell (p := ⟨gt, 0, none⟩) this)).trans ct0
  have b14 := ((HB1.out.below H12.out).below H13.out).below H14.out
  have kx : (convert 27 9 (.slice a1 3 c1)).run Tryz.prog w14 = .ok (.string ⟨#[97, 98, 99]⟩) w14 := by
    have := run_txt c1 b14
    exact this
  clear kap dr14 ct0 b14
  go_wp2_with (go_at_call 21; refine (num12 _ _).mono ?_; rintro e w' ⟨rfl, hw⟩; obtain rfl := hw.symm; clear hw)
  have qm14 := ((HQm.out.below H12.out).below H13.out).below H14.out
  have B15 : Below w14.heap.size w14 (w14.alloc (.cells #[.int .u8 120] 5 (1, 2))) := (Below.refl _ _).alloc (Nat.le_refl _) _
  have hae2 : aE (false && !edd 2 false s4) 1 3 4 (roo s4.n) = 115 := rfl
  have kap := wapp_no (qm14.below B15) (some ⟨w14.heap.size, 0, none⟩) 1 1 (by omega) (by rw [HOK4.out.n]; decide) (by rw [hae2]; decide)
  rw [hae2] at kap
  have BW14 := hid (bel_bel (bel_bel (bel_bel (bel_bel HBW.out HBW.out.size H12.out) (bel_bel HBW.out HBW.out.size H12.out).size H13.out) (bel_bel (bel_bel HBW.out HBW.out.size H12.out) (bel_bel HBW.out HBW.out.size H12.out).size H13.out).size H14.out) (bel_bel (bel_bel (bel_bel HBW.out HBW.out.size H12.out) (bel_bel HBW.out HBW.out.size H12.out).size H13.out) (bel_bel (bel_bel HBW.out HBW.out.size H12.out) (bel_bel HBW.out HBW.out.size H12.out).size H13.out).size H14.out).size B15)
  have HQ15 := hid (qm14.below B15)
  clear qm14 B15 kx ct1 k17 k18 k20
  refine kap.mono ?_
  rintro en w16 ⟨rfl, dr16⟩
  simp only
  have q16 := HQ15.out.below dr16.below
  have BW16 := bel_bel BW14.out BW14.out.size dr16.below
  have ks := wsafe_f m d _ _ _ _ _ s4 _ w16 q16 (edd_no HOK4.out.k) (by have := HOK4.out.c; omega) (by rw [HOK4.out.P]; simp)
  obtain ⟨e5, ok5, _⟩ := ok_safe HOK4.out
  rw [e5] at ks
  have HOK5 := hid ok5
  have HBW16 := hid BW16
  clear kap dr16 q16 BW16 ok5
  go_wp2_with fail
  refine ks.mono ?_
  rintro en w17 ⟨rfl, z17⟩
  simp only
  have S17 := Sf.wz (w0 := w) HhQ.out hgw HBW16.out z17
  simp only [show ((0 : Int) == 0) = true from rfl, show (false || (0 : Int) != 0) = false from rfl] at S17
  have B18 : Below w17.heap.size w17 (w17.alloc (.cells #[.int .u8 115] 5 (1, 2))) := (Below.refl _ _).alloc (Nat.le_refl _) _
  have r18 : Bs (w17.alloc (.cells #[.int .u8 115] 5 (1, 2))) (some ⟨w17.heap.size, 0, none⟩) 1 [115] := bs_lit w17 [115] (1, 2) (by intro z hz; simp at hz; subst hz; decide)
  obtain ⟨e6, ok6⟩ := ok_ck HOK5.out (st' := [115]) ⟨by omega, by omega⟩ ⟨by simp, by simp⟩ (by intro z hz; simp at hz; subst hz; decide) (by decide)
  have kck := sf_ck S17 B18 HOK5.out.k.symm w17.heap.size 1 1 [115] (Nat.le_refl _) r18 (by omega) (by unfold maxLen; omega) ⟨by omega, by omega⟩ ⟨by omega, by omega⟩ (by rw [HOK5.out.n]; decide) (by have := HOK5.out.c; omega) HOK5.out.P e6
  have HOK6 := hid ok6
  clear ks z17 S17 B18 r18 ok6
  go_wp2_with fail
  refine kck.mono ?_
  rintro en w19 ⟨rfl, S19⟩
  simp only
  obtain ⟨Q19, q19, _⟩ := S19.q
  have kst := wstate_o q19 (edd_no HOK6.out.k)
  have HS19 := hid S19
  clear kck S19 q19
  go_wp2_with fail
  refine kst.mono ?_
  rintro en w20 ⟨rfl, dr20⟩
  simp only
  have HF := hid (HS19.out.below dr20.below).bel
  clear kst dr20
  go_wp2_with (go_at_call 21; refine (num12 _ _).mono ?_; rintro e w' ⟨rfl, hw⟩; obtain rfl := hw.symm; clear hw)
  go_ret
  exact ⟨rfl, HF.out⟩
end Go.Proofs.YtblcpdffiafgnaaGreatDoor
namespace Go.Proofs.YtblcpdffiafgnaaGreatDoor
set_option linter.unusedSimpArgs false
set_option maxRecDepth 100000
open Go.RowKit Go.Shelf
set_option linter.unusedVariables false

end Go.Proofs.YtblcpdffiafgnaaGreatDoor
