import Derived.Test.YtblcpdffiafgnaaGreatDoorZR
namespace Go.Proofs.YtblcpdffiafgnaaGreatDoor
set_option linter.unusedSimpArgs false
set_option maxRecDepth 100000
open Go.RowKit Go.Shelf
set_option linter.unusedVariables false
set_option linter.unusedSimpArgs false

/-! How many operations, just. -/
theorem calm_opc {s : St} (h : Calm s) : (opS s).c = s.c + 1 := by unfold opS; rw [if_pos h.1]
theorem calm_wrs_c : ∀ (ws : List (Nat × List Int)) (s : St), Calm s → (wrs s ws).2.c = s.c + ws.length
  | [], s, h => rfl
  | (i, z) :: r, s, h => by
    unfold wrs
    rw [if_pos h.E]
    have h1 := calm_wrs_c r { opS s with P := s.P ++ [(i, z)] } h.S
    refine h1.trans ?_
    show (opS s).c + _ = _
    rw [calm_opc h, List.length_cons]
    omega
theorem calm_wfl_c {s : St} (h : Calm s) (ws : List (Nat × List Int)) : (wfl s ws).2.c = s.c + ws.length + 1 := by
  obtain ⟨h1, h2⟩ := calm_wrs ws s h
  unfold wfl
  rw [if_pos h1, if_pos h2.E]
  show (opS (wrs s ws).2).c = _
  rw [calm_opc h2, calm_wrs_c ws s h]
theorem calm_two_c {s : St} (h : Calm s) (v w : List (Nat × List Int)) : (two s v w).2.c = s.c + v.length + w.length + 2 := by
  obtain ⟨h1, h2⟩ := calm_wfl h v
  rw [(calm_two h v w).2.2, calm_wfl_c h2, calm_wfl_c h]
  omega
theorem calm_apR_c {s : St} (h : Calm s) (N e n p : Nat) (tx : List Int) : (apR s N e n p tx).2.c = s.c + (if tx.length ≤ 480 then 2 else pcN tx.length + 3) := by
  unfold apR
  split
  · rw [calm_wfl_c h]; rfl
  · rw [calm_two_c h, pw_len, List.length_singleton]; omega
theorem calm_ckp_c {s : St} (h : Calm s) (N e n : Nat) (st : List Int) : (ckp s N e n st).2.c = s.c + (pcN st.length + 3) := by
  unfold ckp
  rw [calm_two_c h, pw_len, List.length_singleton]; omega
/-- The superblock that is taken first. -/
theorem qt_two {D : Dcd} {N e s : Nat} {st : List Int} {l : List (List Int)} (h : Qt D N e s st l) : ∃ a r, two12 (cnX (D 0) N 0) (cnX (D 1) N 1) = a :: r ∧ a.K = pcN st.length ∧ tak D N a = some st := by
  have hR : roo N ≤ 4095 := by unfold roo; have := h.hN; omega
  have hlen : st.length < 4294967296 := by have := h.hK; unfold pcN at this; omega
  obtain ⟨v0, v1, v2, v3, v4⟩ := sup_vals h.hN h.bst hlen
  have hc : cnt D N (e % 2) = some ⟨e, s, pcN st.length, st.length, updc 0 st⟩ := by
    unfold cnt
    rw [h.sp]
    dsimp only
    rw [if_pos ⟨rfl, rfl, by omega, v0, v1, by rw [v2, v3, Int.toNat_natCast], by rw [v2]; have := h.hK; omega⟩]
    simp [v2, v3, v4]
  have ho : ∀ x, cnt D N ((e + 1) % 2) = some x → x.e < e := by
    intro x hx
    obtain ⟨y, q1, q2, q3⟩ := cnt_is hx
    have := h.oth y q1 q2
    have := h.he
    omega
  have ht : tak D N ⟨e, s, pcN st.length, st.length, updc 0 st⟩ = some st := by
    unfold tak
    have := ckR_yes (x := ⟨e, s, pcN st.length, st.length, updc 0 st⟩) rfl h.ck (pcN st.length) 0 (by omega)
    simp only [Nat.mul_zero, List.take_zero] at this
    rw [this]
    simp
  rw [← cnt_cnX, ← cnt_cnX]
  by_cases he : e % 2 = 0
  · rw [he] at hc
    have e1 : (e + 1) % 2 = 1 := by omega
    rw [e1] at ho
    rw [hc]
    cases h1 : cnt D N 1 with
    | none => exact ⟨_, _, rfl, rfl, ht⟩
    | some b =>
      have := ho b h1
      simp only [two12]
      rw [if_neg (by omega)]
      exact ⟨_, _, rfl, rfl, ht⟩
  · have he1 : e % 2 = 1 := by omega
    rw [he1] at hc
    have e1 : (e + 1) % 2 = 0 := by omega
    rw [e1] at ho
    rw [hc]
    cases h1 : cnt D N 0 with
    | none => exact ⟨_, _, rfl, rfl, ht⟩
    | some b =>
      have := ho b h1
      simp only [two12]
      rw [if_pos (by omega)]
      exact ⟨_, _, rfl, rfl, ht⟩
/-- An Open reads both superblocks, the newest checkpoint, and the places behind it. -/
theorem on_cq {N e q : Nat} {st : List Int} {l : List (List Int)} {s : St} (hq : Qt (dv (layA s.S s.P)) N e q st l) (hc : Calm s) : ((onP N).run s).2.c ≤ s.c + (roo N + 2) := by
  obtain ⟨a, r, e1, e2, e3⟩ := qt_two hq
  have hK := hq.hK
  have hc1 := hc.S
  have hc2 := hc1.S
  have hS2 : (opS (opS s)).S = s.S := (opS_S' _).trans (opS_S' _)
  have hP2 : (opS (opS s)).P = s.P := (opS_P' _).trans (opS_P' _)
  have h2 : (opS (opS s)).c = s.c + 2 := by rw [calm_opc hc1, calm_opc hc]
  have hfn : (fnP N).run s = (fsP N (a :: r)).run (opS (opS s)) := by
    unfold fnP
    conv => lhs; unfold Rp.run
    rw [if_pos hc.E]
    conv => lhs; unfold Rp.run
    rw [if_pos hc1.E, opS_S', opS_P']
    rw [← e1]
    rfl
  have htk := lim_tk N a (opS (opS s))
  obtain ⟨k1, k2⟩ := Calm.run (tkP N a) _ hc2
  rw [tkP_eval, hS2, hP2, e3] at k1
  have hfs : (fsP N (a :: r)).run (opS (opS s)) = (.ok (some (a, st)), ((tkP N a).run (opS (opS s))).2) := by
    conv => lhs; unfold fsP
    rw [Rp.run_bind]
    generalize (tkP N a).run (opS (opS s)) = z at k1 ⊢
    obtain ⟨z1, z2⟩ := z
    simp only at k1
    subst k1
    rfl
  rw [onP_run, hfn, hfs]
  simp only
  have hlg := lg_c N a.e (roo N + 1) a.s a.K ((tkP N a).run (opS (opS s))).2 (by rw [e2]; omega)
  generalize (lgP N a.e (roo N + 1) a.s a.K).run ((tkP N a).run (opS (opS s))).2 = z at hlg ⊢
  obtain ⟨z1, z2⟩ := z
  have : z2.c ≤ s.c + (roo N + 2) := by simp only at hlg; rw [e2] at hlg htk; omega
  cases z1 with
  | error E => exact this
  | ok x => exact this
/-! A safe log, and its device, that refuses nothing. -/
structure Ks (s : St) (ep nx pl : Nat) (a : Ac) (C : Nat) : Prop where
  n1 : 32 ≤ s.n
  n2 : s.n ≤ 100
  k : s.k ≤ 60
  c : s.c = C
  P : s.P = []
  calm : Calm s
  q : Qn3 s.n 60 (dv s.S) a ep nx pl
theorem Ks.pl {s : St} {ep nx pl : Nat} {a : Ac} {C : Nat} (h : Ks s ep nx pl a C) : pl ≤ roo s.n ∧ 1 ≤ ep ∧ ep ≤ 60 ∧ 1 ≤ nx ∧ nx ≤ 60 := by
  obtain ⟨q, h1, h2, h3, h4, h5, h6⟩ := h.q
  exact ⟨by rw [h6]; exact h1.ld.room, h1.he, h2, by omega, h5⟩
theorem arS0 (s : St) (h : s.on = true) : arS s [] = { s with F := lookF [], c := 0 } := by
  unfold arS
  rw [if_pos ⟨⟨fun f hf => (by cases hf), List.Pairwise.nil⟩, h⟩]
theorem Ks.arm {s : St} {ep nx pl : Nat} {a : Ac} {C : Nat} (h : Ks s ep nx pl a C) : Ks (arS s []) ep nx pl a 0 := by
  rw [arS0 s h.calm.1]
  exact ⟨h.n1, h.n2, h.k, rfl, h.P, ⟨h.calm.1, fun _ => rfl⟩, h.q⟩
theorem Ks.app {s : St} {ep nx pl : Nat} {a : Ac} {C : Nat} (h : Ks s ep nx pl a C) (hx : nx ≤ 50) {tx : List Int} (hb : By tx) (h0 : 0 < tx.length) (h1 : tx.length ≤ 4800) (hr : pl + ned tx.length ≤ roo s.n) : (apR s s.n ep nx pl tx).1 = 0 ∧ Ks (apR s s.n ep nx pl tx).2 ep (nx + 1) (pl + ned tx.length) (a.1, a.2 ++ [tx]) (C + (if tx.length ≤ 480 then 2 else pcN tx.length + 3)) := by
  obtain ⟨q, q1, q2, q3, q4, q5, q6⟩ := h.q
  have q1e := q1.he
  obtain ⟨c1, c2, c3, c4, c5⟩ := apR_n s s.n ep nx pl tx h1
  obtain ⟨k1, k2⟩ := calm_apR h.calm s.n ep nx pl tx
  have hw := append_whole h.P q1 (⟨by omega, by omega⟩ : mq ep) (⟨by omega, by omega⟩ : mq (q + a.2.length)) hb h0 h1 (by rw [← q6]; exact hr)
  rw [← q4, ← q6] at hw
  obtain ⟨w1, w2⟩ := hw.1 k1
  have hn1 := h.n1
  have hn2 := h.n2
  have hk := h.k
  refine ⟨k1, by omega, by omega, by omega, by rw [calm_apR_c h.calm, h.c], w1, k2, ?_⟩
  rw [c1]
  exact ⟨q, w2, q2, q3, by simp; omega, by omega, by simp only; rw [ends_snoc, ← q6]⟩
theorem Ks.ck {s : St} {ep nx pl : Nat} {a : Ac} {C : Nat} (h : Ks s ep nx pl a C) (hx : ep ≤ 50) {st : List Int} (hb : By st) (hr : pcN st.length + 11 ≤ roo s.n) : (ckp s s.n ep nx st).1 = 0 ∧ Ks (ckp s s.n ep nx st).2 (ep + 1) nx (pcN st.length) (st, []) (C + (pcN st.length + 3)) := by
  obtain ⟨q, q1, q2, q3, q4, q5, q6⟩ := h.q
  have q1e := q1.he
  obtain ⟨c1, c2, c3, c4, c5⟩ := ckp_n s s.n ep nx st
  obtain ⟨k1, k2⟩ := calm_ckp h.calm s.n ep nx st
  have hw := check_whole h.P q1 (⟨by omega, by omega⟩ : mq (ep + 1)) (⟨by omega, by omega⟩ : mq (q + a.2.length)) hb hr
  rw [← q4] at hw
  obtain ⟨w1, w2⟩ := hw.1 k1
  have hn1 := h.n1
  have hn2 := h.n2
  have hk := h.k
  refine ⟨k1, by omega, by omega, by omega, by rw [calm_ckp_c h.calm, h.c], w1, k2, ?_⟩
  rw [c1]
  exact ⟨nx, w2, by omega, by omega, by simp, by omega, rfl⟩
/-- Behind a crash: an Open and a Safe. -/
theorem Ks.opens {s : St} {ep nx pl : Nat} {a : Ac} {C : Nat} (h : Ks s ep nx pl a C) : ∃ s' e' n' p', (onP s.n).run { (crS s []) with k := s.k + 1 } = (.ok (some (a.1, a.2, e', n', p')), s') ∧ s'.c ≤ roo s.n + 2 ∧ s'.k = s.k + 1 ∧ s'.P = [] ∧ Calm s' ∧ opE s' = 0 ∧ (flS s').c = s'.c + 1 ∧ a.2.length ≤ roo s.n := by
  obtain ⟨q, q1, q2, q3, q4, q5, q6⟩ := h.q
  have hc : Calm { (crS s []) with k := s.k + 1 } := ⟨rfl, fun _ => rfl⟩
  have hS : ({ (crS s []) with k := s.k + 1 } : St).S = s.S := by show layA s.S (keepL s.P []) = s.S; rw [h.P]; rfl
  have hP : ({ (crS s []) with k := s.k + 1 } : St).P = [] := rfl
  obtain ⟨h1, h2⟩ := Calm.run (onP s.n) _ hc
  have h3 := run_SP (onP s.n) { (crS s []) with k := s.k + 1 }
  have h4 := run_nk (onP s.n) { (crS s []) with k := s.k + 1 }
  rw [onP_eval, hS, hP] at h1
  have hq0 : Qt (dv (layA ({ (crS s []) with k := s.k + 1 } : St).S ({ (crS s []) with k := s.k + 1 } : St).P)) s.n ep q a.1 a.2 := by rw [hS, hP]; exact q1
  have h5 := on_cq hq0 hc
  have h6 : opn (dv (layA s.S [])) s.n = some (a.1, a.2, ep, q + a.2.length, ends a.2 (pcN a.1.length)) := q1.opn
  rw [h6] at h1
  have hle := ends_len q1.ld
  have hro := q1.ld.room
  have hc0 : ({ (crS s []) with k := s.k + 1 } : St).c = 0 := rfl
  rw [hc0] at h5
  refine ⟨_, _, _, _, Prod.ext h1 rfl, Nat.le_trans h5 (by omega), h4.2, h3.2.trans rfl, h2, h2.E, ?_, by omega⟩
  unfold flS
  rw [if_pos h2.E]
  show (opS _).c = _
  exact calm_opc h2
end Go.Proofs.YtblcpdffiafgnaaGreatDoor
