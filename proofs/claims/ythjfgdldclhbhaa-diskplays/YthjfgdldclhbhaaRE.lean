import Derived.Test.YthjfgdldclhbhaaRD
namespace Go.Proofs.Ythjfgdldclhbhaa
set_option maxRecDepth 100000
open Go.RowKit Go.Shelf
set_option linter.unusedVariables false

section
variable {w w' : World} {e : Nat} {s s' : St} {N R : Nat → Prop} {gl : Nat} {cur : Array Value} {pa pa' : Option Addr} {pc pc' : Nat} {I I' : List It} {fa fa' : Option Addr} {fc fc' : Nat} {fs fs' : List (Int × Int)}
theorem Rk.cellI (h : Rk w e s N gl cur pa pc I fa fc fs) {j : Nat} {x : It} (hx : I[j]? = some x) : ∃ gp, pa = some ⟨gp, 0, none⟩ ∧ I.length ≤ pc ∧ pc ≤ maxLen ∧ w.cell? ⟨gp, j * 2, none⟩ = some (.int .i64 x.S) ∧ w.cell? ⟨gp, j * 2 + 1, none⟩ = some (.slice (some ⟨x.g, 0, none⟩) 512 x.c) := by
  have hj : j < I.length := (List.getElem?_eq_some_iff.1 hx).1
  obtain ⟨g, cap, e, h1, h2, _, _, hc⟩ := own2_cell h.own (by omega)
  simp at e
  obtain ⟨rfl, rfl⟩ := e
  exact ⟨g, rfl, by omega, h2, hc _ _ (pcs_get I j x hx).1, hc _ _ (pcs_get I j x hx).2⟩
/-- Its own block has turned, and what pends or is armed with it. -/
theorem Rk.re (h : Rk w e s N gl cur pa pc I fa fc fs) (hb : w'.heap[e]? = some (.cells (rcs s' gl (.slice pa' I'.length pc') (.slice fa' fs'.length fc')) 87 (0, 0))) (ho : ∀ b, b < w.heap.size → b ≠ e → N b → (∀ c, w.heap[b]? ≠ some (.cells c 94 (0, 0))) → w'.heap[b]? = w.heap[b]?) (hn : s'.n = s.n) (hS : s'.S = s.S)
    (own : w'.ownsRow 0 94 2 (.slice pa' I'.length pc') I'.length (pcs I')) (it : ∀ x ∈ I', x.S < s.n ∧ Bs w' (some ⟨x.g, 0, none⟩) 512 x.Z ∧ (∃ cur, w'.heap[x.g]? = some (.cells cur 5 (0, 0))) ∧ N x.g ∧ 512 ≤ x.c ∧ x.c ≤ maxLen) (ip : s'.P = I'.map fun x => (x.S, x.Z))
    (ownF : w'.ownsRow 0 71 2 (.slice fa' fs'.length fc') fs'.length (fcs fs')) (fl : fs'.length ≤ 140737488355328) (fk : ∀ f ∈ fs', f.2 = 1 ∨ f.2 = 2) (fF : s'.F = lookF fs') (np : ∀ q, (Value.slice pa' I'.length pc').ownBlock = some q → N q) (nf : ∀ q, (Value.slice fa' fs'.length fc').ownBlock = some q → N q) : Rk w' e s' N gl cur pa' pc' I' fa' fc' fs' := by
  have ho' : ∀ {b : Nat} {c : Array Value} {t : TypeId}, w.heap[b]? = some (.cells c t (0, 0)) → t ≠ 87 → t ≠ 94 → N b → w'.heap[b]? = w.heap[b]? := fun hb ht ht2 hN => ho _ (Array.getElem?_eq_some_iff.1 hb).1 (h.neq hb ht) hN (fun c hc => by
    rw [hb] at hc
    simp at hc
    exact ht2 hc.2)
  refine ⟨hb, (ho' h.lb (by decide) (by decide) h.nl).trans h.lb, by rw [hn]; exact h.sz, fun i hi => ?_, own, fun x hx => by rw [hn]; exact it x hx, ip, ownF, fl, fk, fF, h.ne, h.nl, np, nf, by rw [hn]; exact h.n1, by rw [hn]; exact h.n2⟩
  obtain ⟨v, h1, h2⟩ := h.lasts i (by rw [← hn]; exact hi)
  refine ⟨v, h1, ?_⟩
  rw [hS]
  rcases h2 with hv | ⟨q, c, h1, h2, ⟨cu, h3⟩, h4⟩
  · exact .inl hv
  · have := ho' h3 (by decide) (by decide) h4.1
    exact .inr ⟨q, c, h1, h2.at this, ⟨cu, this.trans h3⟩, h4⟩
theorem Rk.oth (h : Rk w e s N gl cur pa pc I fa fc fs) (i : Nat) (u : Value) {b : Nat} {c : Array Value} {t : TypeId} (hb : w.heap[b]? = some (.cells c t (0, 0))) (ht : t ≠ 87) : (w.setCell ⟨e, i, none⟩ u).heap[b]? = w.heap[b]? := Below.heap_setCell _ _ _ _ (h.neq hb ht)
theorem Rk.clrP (h : Rk w e s N gl cur pa pc I fa fc fs) : Rk (w.setCell ⟨e, 2, none⟩ (.slice none 0 0)) e { s with P := [] } N gl cur none 0 [] fa fc fs :=
  h.re (s' := { s with P := [] }) (I' := []) (h.set 2 (.slice none 0 0)) (fun b _ hb _ _ => Below.heap_setCell _ _ _ _ hb) rfl rfl (World.ownsRow_nil _ _ _ _) (fun x hx => by simp at hx) rfl (own_at' h.ownF (fun q hq => by
    obtain ⟨c, hc⟩ := own_ty h.ownF hq
    exact h.oth 2 _ hc (by decide))) h.fl h.fk h.fF (fun q hq => by simp [Value.ownBlock] at hq) h.nf
theorem Rk.clrF (h : Rk w e s N gl cur pa pc I fa fc fs) : Rk (w.setCell ⟨e, 4, none⟩ (.slice none 0 0)) e { s with F := fun _ => 0 } N gl cur pa pc I none 0 [] :=
  h.re (s' := { s with F := fun _ => 0 }) (fs' := []) (h.set 4 (.slice none 0 0)) (fun b _ hb _ _ => Below.heap_setCell _ _ _ _ hb) rfl rfl (own_at' h.own (fun q hq => by
    obtain ⟨c, hc⟩ := own_ty h.own hq
    exact h.oth 4 _ hc (by decide))) (fun x hx => by
    obtain ⟨h0, h1, ⟨c, h2⟩, h3⟩ := h.it x hx
    have := h.oth 4 (.slice none 0 0) h2 (by decide)
    exact ⟨h0, h1.at this, ⟨c, this.trans h2⟩, h3⟩) h.ip (World.ownsRow_nil _ _ _ _) (by decide) (fun f hf => by simp at hf) rfl h.np (fun q hq => by simp [Value.ownBlock] at hq)
end
theorem layA_take {S : Nat → List Int} {P : List (Nat × List Int)} {j : Nat} {p : Nat × List Int} (h : P[j]? = some p) : layA S (P.take (j + 1)) = lay1 (layA S (P.take j)) p := by
  rw [List.take_add_one, h]
  show layA S (P.take j ++ [p]) = _
  rw [layA_app]
  rfl
set_option maxHeartbeats 4000000 in
theorem rflush_ (e : Nat) (s : St) (N : Nat → Prop) (gl : Nat) (cur : Array Value) (pa : Option Addr) (pc : Nat) (I : List It) (fa : Option Addr) (fc : Nat) (fs : List (Int × Int)) (w : World) (h : Rk w e s N gl cur pa pc I fa fc fs) (hc : s.c ≤ 1000000) (hp : s.P.length ≤ 1000000) :
    Calls Try.prog 39 #[.pointer (some ⟨e, 0, none⟩)] w fun en w' => en = .returned (.int .i64 (opE s)) ∧ Rd w' e (flS s) N ∧ Fr N w w' := by
  have km := rmeets_ e s N gl cur pa pc I fa fc fs w h hc
  have HNE := hid h.ne
  have HNL := hid h.nl
  have hIl : I.length ≤ 1000000 := by have := congrArg List.length h.ip; rw [List.length_map] at this; omega
  obtain ⟨s1, HS1⟩ : ∃ s1, Hid (opS s = s1) := ⟨_, rfl⟩
  have HSS : Hid (s1.S = s.S) := by show _ = _; rw [← HS1.out]; exact opS_S s
  have HPP : Hid (s1.P = s.P) := by show _ = _; rw [← HS1.out]; exact opS_P s
  obtain ⟨E, HE⟩ : ∃ E, Hid (opE s = E) := ⟨_, rfl⟩
  rw [HS1.out, HE.out] at km
  rw [HE.out]
  clear h
  go_enter Try.func39, Try.ntmps39
  go_wp2_with fail
  refine km.mono ?_
  rintro en w1 ⟨rfl, R1, g1⟩
  have F1 := hid (Fr.of g1 HNE.out)
  have HR1 := hid R1
  clear km R1 g1
  by_cases hE : E = 0
  · subst hE
    have HFL : Hid (flS s = { s1 with S := layA s1.S s1.P, P := [] }) := by
      show _ = _
      unfold flS
      rw [if_pos HE.out, HS1.out, HSS.out, HPP.out]
    go_wp2_with fail
    go_loopw [4] (fun i wr => ∃ (j : Nat) (cur' : Array Value), j ≤ I.length ∧ i = .int .i64 j ∧ Rk wr e { s1 with S := layA s1.S (s1.P.take j) } N gl cur' pa pc I fa fc fs ∧ Fr N w wr) (fun i _ => I.length - (intOf i).toNat)
    case atStart => exact ⟨0, cur, Nat.zero_le _, rfl, HR1.out, F1.out⟩
    case round =>
      clear HR1 F1
      obtain ⟨j, cur', hj, rfl, hr, hf⟩ := hrel
      have c2 := hr.c2
      by_cases hlt : j < I.length
      · have hjI : (j : Int) < (I.length : Int) := by omega
        obtain ⟨x, HX⟩ : ∃ x, Hid (I[j]? = some x) := ⟨I[j]'hlt, by show _ = _; simp [hlt]⟩
        obtain ⟨gp, rfl, hpp, hpm, d0, d1⟩ := hr.cellI HX.out
        have HPj : Hid (s1.P[j]? = some (x.S, x.Z)) := by
          have ip : s1.P = I.map fun x => (x.S, x.Z) := hr.ip
          show _ = _
          rw [ip, List.getElem?_map, HX.out]
          rfl
        have kl := rlay_ e _ N gl cur' _ pc I fa fc fs x wr hr (List.mem_of_getElem? HX.out)
        have HF := hid hf
        clear hr hf hlt
        obtain ⟨xS, xg, xc, xZ⟩ := x
        simp only at *
        go_wp2_with fail
        refine kl.mono ?_
        rintro en w3 ⟨rfl, ⟨cur3, R3⟩, G3⟩
        have F3 := hid (HF.out.trans (Fr.of G3 HNL.out))
        have HR3 := hid R3
        clear kl R3 G3 HF d0 d1 c2
        go_wp2_with fail
        go_roundw
        case rel => exact ⟨j + 1, cur3, by omega, by go_num, by rw [layA_take HPj.out]; exact HR3.out, F3.out⟩
        case measure => simp [intOf]; omega
      · have hjI : ¬ (j : Int) < (I.length : Int) := by omega
        have hjl : s1.P.take j = s1.P := List.take_of_length_le (by have ip : s1.P = I.map fun x => (x.S, x.Z) := hr.ip; rw [ip, List.length_map]; omega)
        rw [hjl] at hr
        have f2 := hr.fz 2
        have RF := hid hr.clrP
        have FF := hid (hf.trans (Fr.of (grown_set (grown_refl wr (some e)) 2 (.slice none 0 0)) HNE.out))
        clear hr hf hlt hjl
        go_wp2_with fail
        go_ret
        exact ⟨rfl, by rw [HFL.out]; exact ⟨_, _, _, _, _, _, _, _, RF.out⟩, FF.out⟩
  · have tE : (E != 0) = true := by simpa using hE
    have HFL : Hid (flS s = s1) := by
      show _ = _
      unfold flS
      rw [HE.out, if_neg hE, HS1.out]
    go_wp2_with fail
    go_ret
    exact ⟨rfl, by rw [HFL.out]; exact ⟨_, _, _, _, _, _, _, _, HR1.out⟩, F1.out⟩
end Go.Proofs.Ythjfgdldclhbhaa
