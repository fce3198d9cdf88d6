import Derived.Test.YtblcpdffiafgnaaGreatDoorV0
import Derived.Test.YtblcpdffiafgnaaGreatDoorSMath
import Derived.Test.YtblcpdffiafgnaaGreatDoorS7
namespace Go.Proofs.YtblcpdffiafgnaaGreatDoor
set_option maxRecDepth 100000
open Go.RowKit Go.Shelf
set_option linter.unusedVariables false

/-! The landed log: its small functions. -/
/-- Where a region begins. -/
def rg (N e : Nat) : Nat := 2 + e % 2 * roo N
theorem rg_le (N e : Nat) (h : N ≤ 8192) : rg N e ≤ 4097 := by
  have hr : roo N ≤ 4095 := by unfold roo; omega
  unfold rg
  rcases (show e % 2 = 0 ∨ e % 2 = 1 by omega) with q | q
  · rw [q]; omega
  · rw [q]; omega
theorem sct_rg' (N e p : Nat) : sct N e p = rg N e + p := rfl
section
variable {w : World} {d : Nat} {s : St} {Q : Nat → Prop}
theorem wroom_ (h : Dev w d s Q) : Calls Tryz.prog 46 #[.pointer (some ⟨d, 0, none⟩)] w fun en w' => en = .returned (.int .i64 (roo s.n)) ∧ w' = w := by
  obtain ⟨h1, h2⟩ := h.n
  have ks := sectorsD h
  have e0 : ((roo s.n : Nat) : Int) = ((s.n : Int) - 2) / 2 := by unfold roo; omega
  obtain ⟨n, HN⟩ : ∃ n, Hid (s.n = n) := ⟨_, rfl⟩
  rw [HN.out] at ks h1 h2 e0 ⊢
  have e1 : ((n : Int) - 2).tdiv 2 = ((n : Int) - 2) / 2 := Int.tdiv_eq_ediv_of_nonneg (by omega)
  rw [e0]
  clear h
  go_enter Tryz.func46, Tryz.ntmps46
  go_wp2_with fail
  refine ks.mono ?_
  rintro en w' ⟨rfl, hw⟩
  obtain rfl := hw.symm
  go_wp2_with fail
  go_ret
  exact ⟨rfl, rfl⟩
theorem wregion_ (h : Dev w d s Q) (ep : Nat) (hep : ep ≤ 4611686018427387905) : Calls Tryz.prog 78 #[.pointer (some ⟨d, 0, none⟩), .int .i64 ep] w fun en w' => en = .returned (.int .i64 (rg s.n ep)) ∧ w' = w := by
  obtain ⟨h1, h2⟩ := h.n
  have kr := wroom_ h
  have hR : roo s.n ≤ 4095 := by unfold roo; omega
  obtain ⟨q, hq⟩ : ∃ q : Nat, q = ep % 2 := ⟨_, rfl⟩
  have hq2 : q < 2 := by omega
  have e1 : (ep : Int) % 2 = (q : Int) := by omega
  have e0 : ((rg s.n ep : Nat) : Int) = 2 + (q : Int) * (roo s.n : Nat) := by unfold rg; rw [← hq]; push_cast; rfl
  obtain ⟨R, HR⟩ : ∃ R : Nat, Hid (roo s.n = R) := ⟨_, rfl⟩
  rw [HR.out] at kr hR e0
  obtain ⟨M, HM⟩ : ∃ M : Nat, Hid ((q : Int) * (R : Int) = (M : Int)) := ⟨q * R, by show _ = _; push_cast; rfl⟩
  have e2 := HM.out
  have hM : M ≤ 4095 := by
    rcases (show q = 0 ∨ q = 1 by omega) with rfl | rfl
    · omega
    · omega
  rw [e0, e2]
  clear h hq
  go_enter Tryz.func78, Tryz.ntmps78
  go_wp2_with fail
  refine kr.mono ?_
  rintro en w' ⟨rfl, hw⟩
  obtain rfl := hw.symm
  go_wp2_with fail
  go_ret
  exact ⟨rfl, rfl⟩
theorem whasRoom_ (h : Dev w d s Q) (n : Nat) (hn : n ≤ 9223372036854775807) : Calls Tryz.prog 49 #[.pointer (some ⟨d, 0, none⟩), .int .i64 n] w fun en w' => en = .returned (.bool (decide (pcN n + 11 ≤ roo s.n))) ∧ w' = w := by
  obtain ⟨h1, h2⟩ := h.n
  have kr := wroom_ h
  have kp := pieces0_ (n : Int) w (by omega)
  have kn := need0_ 4800 w (by omega)
  rw [Int.toNat_natCast] at kp
  have e11 : ((ned ((4800 : Int)).toNat : Nat) : Int) = 11 := by decide
  rw [e11] at kn
  have hR : roo s.n ≤ 4095 := by unfold roo; omega
  have hK : pcN n ≤ 19215358410114117 := by unfold pcN; omega
  obtain ⟨R, HR⟩ : ∃ R : Nat, Hid (roo s.n = R) := ⟨_, rfl⟩
  obtain ⟨K, HK⟩ : ∃ K : Nat, Hid (pcN n = K) := ⟨_, rfl⟩
  rw [HR.out] at kr hR ⊢
  rw [HK.out] at kp hK ⊢
  clear h e11
  by_cases hle : K + 11 ≤ R
  · have t1 : (K : Int) + 11 ≤ (R : Int) := by omega
    rw [decide_eq_true hle]
    go_enter Tryz.func49, Tryz.ntmps49
    go_wp2_with fail
    refine kp.mono ?_
    rintro en w' ⟨rfl, hw⟩
    obtain rfl := hw.symm
    go_wp2_with fail
    refine kn.mono ?_
    rintro en w' ⟨rfl, hw⟩
    obtain rfl := hw.symm
    go_wp2_with fail
    refine kr.mono ?_
    rintro en w' ⟨rfl, hw⟩
    obtain rfl := hw.symm
    go_wp2_with fail
    go_ret
    exact ⟨rfl, rfl⟩
  · have t1 : ¬ (K : Int) + 11 ≤ (R : Int) := by omega
    have t2 : decide ((K : Int) + 11 ≤ (R : Int)) = false := decide_eq_false t1
    rw [decide_eq_false hle]
    go_enter Tryz.func49, Tryz.ntmps49
    go_wp2_with fail
    refine kp.mono ?_
    rintro en w' ⟨rfl, hw⟩
    obtain rfl := hw.symm
    go_wp2_with fail
    refine kn.mono ?_
    rintro en w' ⟨rfl, hw⟩
    obtain rfl := hw.symm
    go_wp2_with fail
    refine kr.mono ?_
    rintro en w' ⟨rfl, hw⟩
    obtain rfl := hw.symm
    go_wp2_with fail
    go_ret
    exact ⟨rfl, rfl⟩
end
/-- Where a sector stands. -/
def hom (N : Nat) (x : Sec) : Nat := if x.T = t1 then x.p.toNat else sct N x.e.toNat x.p.toNat
section
variable {w : World} {d : Nat} {s : St} {Q : Nat → Prop}
theorem whome_s (h : Dev w d s Q) (e q : Int) (p : Nat) (v : Value) : Calls Tryz.prog 86 #[.pointer (some ⟨d, 0, none⟩), .agg #[.string t1, .int .i64 e, .int .i64 q, .int .i64 p, v]] w fun en w' => en = .returned (.int .i64 p) ∧ Below w.heap.size w w' := by
  have m0 := Sm.new w t1 e q p v
  have B0 := snew w t1 e q p v
  have d0 := m0.c0
  have d1 := m0.c1
  have d3 := m0.c3
  have h0 : ((t1).toList == [67, 86, 83, 49]) = true := tl_yes rfl
  generalize t1 = T at *
  have HB := hid B0
  clear m0 h B0
  go_enter Tryz.func86, Tryz.ntmps86
  go_wp2_with fail
  go_ret
  exact ⟨rfl, HB.out⟩
theorem whome_r (h : Dev w d s Q) (T : ByteArray) (hT : T ≠ t1) (e : Nat) (q : Int) (p : Nat) (v : Value) (he : e ≤ 4611686018427387905) (hp : p ≤ 8191) : Calls Tryz.prog 86 #[.pointer (some ⟨d, 0, none⟩), .agg #[.string T, .int .i64 e, .int .i64 q, .int .i64 p, v]] w fun en w' => en = .returned (.int .i64 (sct s.n e p)) ∧ Below w.heap.size w w' := by
  obtain ⟨h1, h2⟩ := h.n
  have m0 := Sm.new w T e q p v
  have B0 := snew w T e q p v
  have d0 := m0.c0
  have d1 := m0.c1
  have d3 := m0.c3
  have h0 : (T.toList == [67, 86, 83, 49]) = false := tl_no (t := t1) rfl hT
  have HB := hid B0
  have hg := rg_le s.n e h2
  have kr := fun wx (hx : Drawn (w.alloc (.cells #[.string T, .int .i64 e, .int .i64 q, .int .i64 p, v] 31)) wx) => wregion_ ((h.below B0).below hx.below) e he
  obtain ⟨G, HG⟩ : ∃ G, Hid (rg s.n e = G) := ⟨_, rfl⟩
  rw [sct_rg']
  simp only [HG.out] at kr
  rw [HG.out] at hg ⊢
  have e0 : ((G + p : Nat) : Int) = (G : Int) + (p : Int) := by omega
  have e5 : IntKind.i64.wrap ((G : Int) + (p : Int)) = (G : Int) + (p : Int) := by rw [IntKind.wrap_i64]; omega
  rw [e0]
  clear m0 h B0 hT
  go_enter Tryz.func86, Tryz.ntmps86
  go_wp2_with fail
  generalize w.alloc (.cells #[.string T, .int .i64 e, .int .i64 q, .int .i64 p, v] 31) = W at *
  go_quiet ((go_at_call 78; exact Calls.quiet_of_same (kr _ (drawnN W _))))
  go_wp2_with fail
  go_ret
  exact ⟨rfl, bel_draw HB.out (drawnN W _)⟩
end
end Go.Proofs.YtblcpdffiafgnaaGreatDoor
namespace Go.Proofs.YtblcpdffiafgnaaGreatDoor
set_option maxRecDepth 100000
open Go.RowKit Go.Shelf
set_option linter.unusedVariables false

/-- The landed log in memory. -/
def Wm (w : World) (g d mi ep nx pl : Nat) (se re : Bool) : Prop := w.heap[g]? = some (.cells #[.pointer (some ⟨d, 0, none⟩), .int .i64 mi, .int .i64 ep, .int .i64 nx, .int .i64 pl, .bool se, .bool re] 83 (0, 0))
section
variable {w w' : World} {g d mi ep nx pl : Nat} {se re : Bool}
theorem Wm.lt (h : Wm w g d mi ep nx pl se re) : g < w.heap.size := (Array.getElem?_eq_some_iff.1 h).1
theorem Wm.c0 (h : Wm w g d mi ep nx pl se re) : w.cell? ⟨g, 0, none⟩ = some (.pointer (some ⟨d, 0, none⟩)) := (cell_of_row _ _ 0 _ _ (0, 0) h).trans rfl
theorem Wm.c1 (h : Wm w g d mi ep nx pl se re) : w.cell? ⟨g, 1, none⟩ = some (.int .i64 mi) := (cell_of_row _ _ 1 _ _ (0, 0) h).trans rfl
theorem Wm.c2 (h : Wm w g d mi ep nx pl se re) : w.cell? ⟨g, 2, none⟩ = some (.int .i64 ep) := (cell_of_row _ _ 2 _ _ (0, 0) h).trans rfl
theorem Wm.c3 (h : Wm w g d mi ep nx pl se re) : w.cell? ⟨g, 3, none⟩ = some (.int .i64 nx) := (cell_of_row _ _ 3 _ _ (0, 0) h).trans rfl
theorem Wm.c4 (h : Wm w g d mi ep nx pl se re) : w.cell? ⟨g, 4, none⟩ = some (.int .i64 pl) := (cell_of_row _ _ 4 _ _ (0, 0) h).trans rfl
theorem Wm.c5 (h : Wm w g d mi ep nx pl se re) : w.cell? ⟨g, 5, none⟩ = some (.bool se) := (cell_of_row _ _ 5 _ _ (0, 0) h).trans rfl
theorem Wm.c6 (h : Wm w g d mi ep nx pl se re) : w.cell? ⟨g, 6, none⟩ = some (.bool re) := (cell_of_row _ _ 6 _ _ (0, 0) h).trans rfl
theorem Wm.fz (h : Wm w g d mi ep nx pl se re) (i : Nat) : w.frozen? ⟨g, i, none⟩ = false := by unfold Wm at h; simp [World.frozen?, h]
theorem Wm.at (h : Wm w g d mi ep nx pl se re) (k : w'.heap[g]? = w.heap[g]?) : Wm w' g d mi ep nx pl se re := k.trans h
theorem Wm.below (h : Wm w g d mi ep nx pl se re) (hb : Below w.heap.size w w') : Wm w' g d mi ep nx pl se re := h.at (hb.block g h.lt)
theorem Wm.s2 (h : Wm w g d mi ep nx pl se re) (x : Nat) : Wm (w.setCell ⟨g, 2, none⟩ (.int .i64 x)) g d mi x nx pl se re := by
  unfold Wm at *
  simp [World.setCell, Array.getElem?_modify, h]
theorem Wm.s3 (h : Wm w g d mi ep nx pl se re) (x : Nat) : Wm (w.setCell ⟨g, 3, none⟩ (.int .i64 x)) g d mi ep x pl se re := by
  unfold Wm at *
  simp [World.setCell, Array.getElem?_modify, h]
theorem Wm.s4 (h : Wm w g d mi ep nx pl se re) (x : Nat) : Wm (w.setCell ⟨g, 4, none⟩ (.int .i64 x)) g d mi ep nx x se re := by
  unfold Wm at *
  simp [World.setCell, Array.getElem?_modify, h]
theorem Wm.s5 (h : Wm w g d mi ep nx pl se re) (b : Bool) : Wm (w.setCell ⟨g, 5, none⟩ (.bool b)) g d mi ep nx pl b re := by
  unfold Wm at *
  simp [World.setCell, Array.getElem?_modify, h]
theorem Wm.s6 (h : Wm w g d mi ep nx pl se re) (b : Bool) : Wm (w.setCell ⟨g, 6, none⟩ (.bool b)) g d mi ep nx pl se b := by
  unfold Wm at *
  simp [World.setCell, Array.getElem?_modify, h]
end
/-- A device may have more blocks of its own. -/
theorem Dev.weak {w : World} {d : Nat} {s : St} {Q R : Nat → Prop} (h : Dev w d s Q) (hq : ∀ b, Q b → R b) (hl : ∀ b, R b → b < w.heap.size) : Dev w d s R := by
  obtain ⟨gl, pa, pn, pc, go, a, m, cp, fs, I, h⟩ := h
  exact ⟨gl, pa, pn, pc, go, a, m, cp, fs, I, ⟨h.dm, h.ls, h.own, h.hpn, fun x hx => (h.it x hx).weak hq, h.ip, h.ft, hq _ h.qd, hq _ h.ql, fun g e => hq _ (h.qp g e), hq _ h.qo, fun ad e => hq _ (h.qf ad e), hl, h.n0⟩⟩
/-- What came to a device's blocks since w. -/
abbrev Qn (Q : Nat → Prop) (w w' : World) : Nat → Prop := fun b => Q b ∨ (w.heap.size ≤ b ∧ b < w'.heap.size)
/-- The landed log over its device. -/
structure Wq (w : World) (g d mi ep nx pl : Nat) (se re : Bool) (s : St) (Q : Nat → Prop) : Prop where
  lm : Wm w g d mi ep nx pl se re
  dv : Dev w d s Q
  ng : ¬ Q g
  tb : Tab w
  n0 : ¬ Q 0
  g0 : 0 < g
theorem Tab.fr {w w' : World} {R : Nat → Prop} (h : Tab w) (hf : Fr R w w') (h0 : ¬ R 0) : Tab w' :=
  ⟨Nat.lt_of_lt_of_le h.1 hf.size, fun i hi => (World.cell?_of_block (w := w) (a := ⟨0, i, none⟩) (hf.same 0 h.1 h0)).trans (h.2 i hi)⟩
section
variable {w w' : World} {g d mi ep nx pl : Nat} {se re : Bool} {s s' : St} {Q Q' : Nat → Prop}
theorem Wq.below (h : Wq w g d mi ep nx pl se re s Q) (hb : Below w.heap.size w w') : Wq w' g d mi ep nx pl se re s Q :=
  ⟨h.lm.below hb, h.dv.below hb, h.ng, h.tb.bel hb, h.n0, h.g0⟩
/-- The device has made a step. -/
theorem Wq.dev (h : Wq w g d mi ep nx pl se re s Q) (hd : Dev w' d s' Q') (hf : Fr Q w w') (hg : ¬ Q' g) (h0 : ¬ Q' 0) : Wq w' g d mi ep nx pl se re s' Q' :=
  ⟨h.lm.at (hf.same g h.lm.lt h.ng), hd, hg, h.tb.fr hf h.n0, h0, h.g0⟩
theorem Wq.devn (h : Wq w g d mi ep nx pl se re s Q) (hd : Dev w' d s' (Qn Q w w')) (hf : Fr Q w w') : Wq w' g d mi ep nx pl se re s' (Qn Q w w') :=
  h.dev hd hf (fun q => by
    rcases q with q | q
    · exact h.ng q
    · have := h.lm.lt; omega) (fun q => by
    rcases q with q | q
    · exact h.n0 q
    · have := h.tb.1; omega)
/-- The log's own block has turned. -/
theorem Wq.turn {mi' ep' nx' pl' : Nat} {se' re' : Bool} (h : Wq w g d mi ep nx pl se re s Q) (hl : Wm w' g d mi' ep' nx' pl' se' re') (hg : w.grownBy w' (some g)) : Wq w' g d mi' ep' nx' pl' se' re' s Q :=
  ⟨hl, h.dv.fr (R := fun b => b = g) ⟨hg.os, hg.tape, hg.output, hg.size, fun b hb hn => hg.block b hb (fun q => hn (Option.some.inj q))⟩ (fun b hb q => h.ng (q ▸ hb)), h.ng, tab_grown h.tb hg h.g0, h.n0, h.g0⟩
theorem Wq.weak (h : Wq w g d mi ep nx pl se re s Q) (hq : ∀ b, Q b → Q' b) (hl : ∀ b, Q' b → b < w.heap.size) (hg : ¬ Q' g) (h0 : ¬ Q' 0) : Wq w g d mi ep nx pl se re s Q' :=
  ⟨h.lm, h.dv.weak hq hl, hg, h.tb, h0, h.g0⟩
end
/-- Blocks of the device and the log's own may turn. -/
abbrev Qg (Q : Nat → Prop) (g : Nat) : Nat → Prop := fun b => Q b ∨ b = g
/-- A step of a log: what it leaves. -/
structure Wz (w w' : World) (g d mi ep nx pl : Nat) (se re : Bool) (s : St) (Q : Nat → Prop) : Prop where
  q : Wq w' g d mi ep nx pl se re s (Qn Q w w')
  f : Fr (Qg Q g) w w'
section
variable {w w1 w2 : World} {g d mi ep nx pl mi' ep' nx' pl' : Nat} {se re se' re' : Bool} {s s' : St} {Q : Nat → Prop}
theorem Wz.refl (h : Wq w g d mi ep nx pl se re s Q) : Wz w w g d mi ep nx pl se re s Q :=
  ⟨h.weak (fun b q => .inl q) (fun b q => by
    rcases q with q | q
    · exact h.dv.lt b q
    · exact q.2) (fun q => by
    rcases q with q | q
    · exact h.ng q
    · omega) (fun q => by
    rcases q with q | q
    · exact h.n0 q
    · omega), .refl _ _⟩
theorem Wz.trans (h : Wz w w1 g d mi ep nx pl se re s Q) (hq : ∀ b, Q b → b < w.heap.size) (hg : g < w.heap.size) (h0 : 0 < w.heap.size) (k : Wz w1 w2 g d mi' ep' nx' pl' se' re' s' (Qn Q w w1)) : Wz w w2 g d mi' ep' nx' pl' se' re' s' Q := by
  have s1 := h.f.size
  have s2 := k.f.size
  refine ⟨k.q.weak (fun b q => ?_) (fun b q => ?_) (fun q => ?_) (fun q => ?_), ⟨k.f.os.trans h.f.os, k.f.tape.trans h.f.tape, k.f.output.trans h.f.output, Nat.le_trans s1 s2, fun b hb hn => (k.f.same b (by omega) (fun q => ?_)).trans (h.f.same b hb hn)⟩⟩
  · rcases q with (q | q) | q
    · exact .inl q
    · exact .inr ⟨q.1, by omega⟩
    · exact .inr ⟨by omega, q.2⟩
  · rcases q with q | q
    · have := hq b q; omega
    · exact q.2
  · rcases q with q | q
    · exact h.q.ng (.inl q)
    · omega
  · rcases q with q | q
    · exact h.q.n0 (.inl q)
    · omega
  · rcases q with (q | q) | q
    · exact hn (.inl q)
    · omega
    · exact hn (.inr q)
theorem Wz.below (h : Wz w w1 g d mi ep nx pl se re s Q) (hq : ∀ b, Q b → b < w.heap.size) (hg : g < w.heap.size) (h0 : 0 < w.heap.size) (hb : Below w1.heap.size w1 w2) : Wz w w2 g d mi ep nx pl se re s Q :=
  h.trans hq hg h0 ⟨(Wz.refl (h.q.below hb)).q.weak (fun b q => by
    rcases q with q | q
    · exact .inl q
    · omega) (fun b q => by
    rcases q with q | q
    · exact Nat.lt_of_lt_of_le (h.q.dv.lt b q) hb.size
    · exact q.2) (fun q => by
    rcases q with q | q
    · exact h.q.ng q
    · have := h.q.lm.lt; omega) (fun q => by
    rcases q with q | q
    · exact h.q.n0 q
    · have := h.q.tb.1; omega), Fr.ofB hb⟩
theorem Wz.first (h : Wq w g d mi ep nx pl se re s Q) (hb : Below w.heap.size w w1) (k : Wz w1 w2 g d mi' ep' nx' pl' se' re' s' Q) : Wz w w2 g d mi' ep' nx' pl' se' re' s' Q := by
  have s1 := hb.size
  have s2 := k.f.size
  have hl := h.dv.lt
  have hg := h.lm.lt
  have h0 := h.tb.1
  refine ⟨k.q.weak (fun b q => ?_) (fun b q => ?_) (fun q => ?_) (fun q => ?_), ⟨k.f.os.trans hb.os, k.f.tape.trans hb.tape, k.f.output.trans hb.output, Nat.le_trans s1 s2, fun b hb' hn => (k.f.same b (by omega) hn).trans (hb.block b hb')⟩⟩
  · rcases q with q | q
    · exact .inl q
    · exact .inr ⟨by omega, q.2⟩
  · rcases q with q | q
    · have := hl b q; omega
    · exact q.2
  · rcases q with q | q
    · exact h.ng q
    · omega
  · rcases q with q | q
    · exact h.n0 q
    · omega
/-- The log's own block turns at the end. -/
theorem Wz.turn (h : Wz w w1 g d mi ep nx pl se re s Q) (hl : Wm w2 g d mi' ep' nx' pl' se' re') (hg : w1.grownBy w2 (some g)) : Wz w w2 g d mi' ep' nx' pl' se' re' s Q := by
  have s2 := hg.size
  have s1 := h.f.size
  have q2 := h.q.turn hl hg
  refine ⟨q2.weak (fun b q => ?_) (fun b q => ?_) (fun q => ?_) (fun q => ?_), ⟨hg.os.trans h.f.os, hg.tape.trans h.f.tape, hg.output.trans h.f.output, Nat.le_trans s1 s2, fun b hb hn => (hg.block b (by omega) (fun q => hn (.inr (Option.some.inj q)))).trans (h.f.same b hb hn)⟩⟩
  · rcases q with q | q
    · exact .inl q
    · exact .inr ⟨q.1, by omega⟩
  · rcases q with q | q
    · have := h.q.dv.lt b (.inl q); omega
    · exact q.2
  · rcases q with q | q
    · exact h.q.ng (.inl q)
    · have := h.q.lm.lt
      exact h.q.ng (.inr ⟨q.1, this⟩)
  · rcases q with q | q
    · exact h.q.n0 (.inl q)
    · exact h.q.n0 (.inr ⟨q.1, h.q.tb.1⟩)
end
section
variable {w : World} {g d mi ep nx pl : Nat} {se re : Bool} {s : St} {Q : Nat → Prop}
/-- Has it ended? -/
def edd (mi : Nat) (re : Bool) (s : St) : Bool := re || decide (mi ≠ s.k)
theorem wended_ (h : Wq w g d mi ep nx pl se re s Q) :
    Calls Tryz.prog 45 #[.pointer (some ⟨g, 0, none⟩)] w fun en w' => en = .returned (.bool (edd mi re s)) ∧ Drawn w w' := by
  have c0 := h.lm.c0
  have c1 := h.lm.c1
  have c6 := h.lm.c6
  have kc := fun n => claimedD (h.dv.below (drawnN w n).below)
  unfold edd
  obtain ⟨k, HK⟩ : ∃ k, Hid (s.k = k) := ⟨_, rfl⟩
  simp only [HK.out] at kc
  rw [HK.out]
  clear h
  cases re with
  | true =>
    go_enter Tryz.func45, Tryz.ntmps45
    go_wp2_with fail
    go_quiet ((go_at_call 69; exact Calls.quiet_of_same (kc _)))
    go_wp2_with fail
    go_ret
    exact ⟨rfl, drawnN w _⟩
  | false =>
    by_cases hk : mi = k
    · subst hk
      have e1 : decide (mi ≠ mi) = false := by simp
      have e2 : ((mi : Int) != (mi : Int)) = false := by simp
      rw [e1]
      go_enter Tryz.func45, Tryz.ntmps45
      go_wp2_with fail
      go_quiet ((go_at_call 69; exact Calls.quiet_of_same (kc _)))
      go_wp2_with fail
      go_ret
      exact ⟨rfl, drawnN w _⟩
    · have e1 : decide (mi ≠ k) = true := by simp [hk]
      have e2 : ((k : Int) != (mi : Int)) = true := by rw [bne_iff_ne]; omega
      rw [e1]
      go_enter Tryz.func45, Tryz.ntmps45
      go_wp2_with fail
      go_quiet ((go_at_call 69; exact Calls.quiet_of_same (kc _)))
      go_wp2_with fail
      go_ret
      exact ⟨rfl, drawnN w _⟩
theorem wwrit_ (h : Wq w g d mi ep nx pl se re s Q) :
    Calls Tryz.prog 47 #[.pointer (some ⟨g, 0, none⟩)] w fun en w' => en = .returned (.bool (se && !edd mi re s)) ∧ Drawn w w' := by
  have c5 := h.lm.c5
  have ke := wended_ h
  obtain ⟨E, HE⟩ : ∃ E, Hid (edd mi re s = E) := ⟨_, rfl⟩
  rw [HE.out] at ke ⊢
  clear h
  cases se with
  | false =>
    go_enter Tryz.func47, Tryz.ntmps47
    go_wp2_with fail
    go_ret
    exact ⟨rfl, ⟨rfl, rfl, rfl, rfl⟩⟩
  | true =>
    go_enter Tryz.func47, Tryz.ntmps47
    go_wp2_with fail
    refine ke.mono ?_
    rintro en w1 ⟨rfl, d1⟩
    have HD := hid d1
    clear d1 ke
    go_wp2_with fail
    go_ret
    exact ⟨by simp, HD.out⟩
end
end Go.Proofs.YtblcpdffiafgnaaGreatDoor
namespace Go.Proofs.YtblcpdffiafgnaaGreatDoor
set_option maxRecDepth 100000
open Go.RowKit Go.Shelf
set_option linter.unusedVariables false

/-- A sector in a list: what it is, where its body lies. -/
structure Sx where
  x : Sec
  a : Option Addr
  n : Nat
  c : Nat
def scs : List Sx → List Value
  | [] => []
  | y :: l => .string y.x.T :: .int .i64 y.x.e :: .int .i64 y.x.q :: .int .i64 y.x.p :: .slice y.a y.n y.c :: scs l
theorem scs_length : ∀ l : List Sx, (scs l).length = l.length * 5
  | [] => rfl
  | y :: l => by simp [scs, scs_length l]; omega
theorem scs_app : ∀ (a b : List Sx), scs (a ++ b) = scs a ++ scs b
  | [], b => rfl
  | y :: a, b => by simp [scs, scs_app a b]
theorem scs_get : ∀ (l : List Sx) (j : Nat) (y : Sx), l[j]? = some y → (scs l)[j * 5]? = some (.string y.x.T) ∧ (scs l)[j * 5 + 1]? = some (.int .i64 y.x.e) ∧ (scs l)[j * 5 + 2]? = some (.int .i64 y.x.q) ∧ (scs l)[j * 5 + 3]? = some (.int .i64 y.x.p) ∧ (scs l)[j * 5 + 4]? = some (.slice y.a y.n y.c)
  | [], j, y, h => by simp at h
  | z :: l, 0, y, h => by simp at h; subst h; simp [scs]
  | z :: l, j + 1, y, h => by
    have := scs_get l j y (by simpa using h)
    rw [show (j + 1) * 5 = j * 5 + 5 from by omega, show j * 5 + 5 + 1 = j * 5 + 1 + 5 from by omega, show j * 5 + 5 + 2 = j * 5 + 2 + 5 from by omega, show j * 5 + 5 + 3 = j * 5 + 3 + 5 from by omega, show j * 5 + 5 + 4 = j * 5 + 4 + 5 from by omega]
    simpa [scs] using this
theorem scs_one : ∀ (l : List Sx), ∀ v ∈ scs l, v.oneCell' = true
  | [], v, h => by simp [scs] at h
  | y :: l, v, h => by
    simp only [scs, List.mem_cons] at h
    rcases h with rfl | rfl | rfl | rfl | rfl | h
    · rfl
    · rfl
    · rfl
    · rfl
    · rfl
    · exact scs_one l v h
/-- The list in memory. -/
def Sl (w : World) (b : Option Addr) (m : Nat) (xs : List Sx) : Prop := xs.length = m ∧ (m = 0 ∨ ∃ g off, b = some ⟨g, off, none⟩ ∧ ∀ i u, (scs xs)[i]? = some u → w.cell? ⟨g, off + i, none⟩ = some u)
/-- Its bodies in memory; each sector may be. -/
def Sb (w : World) (xs : List Sx) : Prop := ∀ y ∈ xs, Bs w y.a y.n y.x.l ∧ MayN y.x.T y.x.e y.x.q y.x.p y.n
theorem Sl.fr {R : Nat → Prop} {w w' : World} {b : Option Addr} {m : Nat} {xs : List Sx} (h : Sl w b m xs) (hf : Fr R w w') (hq : ∀ ad, b = some ad → 0 < m → ¬ R ad.block) : Sl w' b m xs := by
  refine ⟨h.1, ?_⟩
  rcases h.2 with h0 | ⟨g, off, rfl, hc⟩
  · exact .inl h0
  · by_cases hm : m = 0
    · exact .inl hm
    · refine .inr ⟨g, off, rfl, fun i u hu => ?_⟩
      have hlt := World.block_lt_of_cell? w _ (hc i u hu)
      exact (World.cell?_of_block (w := w) (a := ⟨g, off + i, none⟩) (hf.same g hlt (hq _ rfl (by omega)))).trans (hc i u hu)
theorem Sb.fr {R : Nat → Prop} {w w' : World} {xs : List Sx} (h : Sb w xs) (hf : Fr R w w') (hq : ∀ y ∈ xs, ∀ ad, y.a = some ad → 0 < y.n → ¬ R ad.block) : Sb w' xs := fun y hy => ⟨(h y hy).1.fr hf (hq y hy), (h y hy).2⟩
/-- The writes of a list. -/
def wrl (N : Nat) (xs : List Sx) : List (Nat × List Int) := xs.map fun y => (hom N y.x, ps y.x)
theorem wrl_take (N : Nat) (xs : List Sx) (j : Nat) {y : Sx} (h : xs[j]? = some y) : wrl N (xs.take (j + 1)) = wrl N (xs.take j) ++ [(hom N y.x, ps y.x)] := by
  unfold wrl
  rw [List.take_add_one, h, List.map_append]
  rfl
theorem wrs_app' : ∀ (a b : List (Nat × List Int)) (s : St), wrs s (a ++ b) = if (wrs s a).1 = 0 then wrs (wrs s a).2 b else wrs s a
  | [], b, s => by simp [wrs]
  | (i, z) :: r, b, s => by
    simp only [List.cons_append, wrs]
    split
    · exact wrs_app' r b _
    · rfl
theorem wrs_n' : ∀ (ws : List (Nat × List Int)) (s : St), (wrs s ws).2.n = s.n ∧ (wrs s ws).2.k = s.k ∧ (wrs s ws).2.c ≤ s.c + ws.length ∧ (wrs s ws).2.P.length ≤ s.P.length + ws.length
  | [], s => ⟨rfl, rfl, Nat.le_refl _, Nat.le_refl _⟩
  | (i, z) :: r, s => by
    unfold wrs
    have o1 := opS_c s
    have o2 := opS_n s
    have o3 := opS_k s
    have o4 := opS_P s
    split
    · obtain ⟨h1, h2, h3, h4⟩ := wrs_n' r { opS s with P := s.P ++ [(i, z)] }
      simp only [List.length_append, List.length_cons, List.length_nil] at h1 h2 h3 h4 ⊢
      exact ⟨h1.trans o2, h2.trans o3, by omega, by omega⟩
    · simp only [List.length_cons]
      exact ⟨o2, o3, by omega, by rw [o4]; omega⟩
theorem wr_in' {s : St} {i : Nat} {z : List Int} (hi : i < s.n) (hz : z.length = 512) : wrE s (i : Int) 512 = opE s ∧ wrS s (i : Int) z = if opE s = 0 then { opS s with P := s.P ++ [(i, z)] } else opS s := by
  unfold wrE wrS
  rw [if_pos ⟨by omega, by omega⟩, if_pos rfl, if_pos ⟨by omega, by omega, hz⟩, Int.toNat_natCast]
  exact ⟨rfl, rfl⟩
/-- The home of a sector, whatever it is. -/
theorem whome_ {w : World} {d : Nat} {s : St} {Q : Nat → Prop} (h : Dev w d s Q) (x : Sec) (n : Nat) (v : Value) (hM : MayN x.T x.e x.q x.p n) : Calls Tryz.prog 86 #[.pointer (some ⟨d, 0, none⟩), .agg #[.string x.T, .int .i64 x.e, .int .i64 x.q, .int .i64 x.p, v]] w fun en w' => en = .returned (.int .i64 (hom s.n x)) ∧ Below w.heap.size w w' := by
  obtain ⟨hT, ⟨e1, e2⟩, ⟨q1, q2⟩, ⟨p1, p2⟩, hn⟩ := hM
  obtain ⟨T, e, q, p, l⟩ := x
  simp only at *
  obtain ⟨e', rfl⟩ : ∃ k : Nat, (k : Int) = e := ⟨e.toNat, by omega⟩
  obtain ⟨p', rfl⟩ : ∃ k : Nat, (k : Int) = p := ⟨p.toNat, by omega⟩
  unfold hom
  simp only [Int.toNat_natCast]
  by_cases h1 : T = t1
  · subst h1
    rw [if_pos rfl]
    exact whome_s h e' q p' v
  · rw [if_neg h1]
    exact whome_r h T h1 e' q p' v (by omega) (by omega)
end Go.Proofs.YtblcpdffiafgnaaGreatDoor
namespace Go.Proofs.YtblcpdffiafgnaaGreatDoor
set_option maxRecDepth 100000
open Go.RowKit Go.Shelf
set_option linter.unusedVariables false

theorem Row.bs12 {w : World} {g n : Nat} {zs : List Int} (h : Row w g zs) (hl : zs.length = n) (hy : By zs) : Bs w (some ⟨g, 0, none⟩) n zs := by
  refine ⟨hl, hy, .inr ⟨g, 0, rfl, fun i hi => ?_⟩⟩
  rw [Nat.zero_add]
  exact h.cell i (by omega)
set_option maxHeartbeats 8000000 in
/-- Sectors are written, each at its home, and a flush. -/
theorem wlay_ (d : Nat) (s : St) (Q : Nat → Prop) (b : Option Addr) (m c : Nat) (xs : List Sx) (w : World) (h : Dev w d s Q) (hT : Tab w) (h0 : ¬ Q 0) (hs : Sl w b m xs) (hx : Sb w xs) (hqb : ∀ ad, b = some ad → 0 < m → ¬ Q ad.block) (hqx : ∀ y ∈ xs, ∀ ad, y.a = some ad → 0 < y.n → ¬ Q ad.block) (hh : ∀ y ∈ xs, hom s.n y.x < s.n) (hm : m ≤ c) (hcm : c ≤ maxLen) (hm5 : m ≤ 5000) (hsc : s.c ≤ 50000) (hP : s.P.length ≤ 50000) :
    Calls Tryz.prog 62 #[.pointer (some ⟨d, 0, none⟩), .slice b m c] w fun en w' => en = .returned (.int .i64 (wfl s (wrl s.n xs)).1) ∧ Dev w' d (wfl s (wrl s.n xs)).2 (Qn Q w w') ∧ Fr Q w w' := by
  have HD := hid h
  have HT := hid hT
  have H0 := hid h0
  have HS := hid hs
  have HX := hid hx
  have HQB := hid hqb
  have HQX := hid hqx
  have HH := hid hh
  have hl := hs.1
  have hlw := h.lt
  unfold maxLen at hcm
  have HLW := hid hlw
  clear h hT h0 hs hx hqb hqx hh hlw
  go_enter Tryz.func62, Tryz.ntmps62
  go_wp2_with fail
  go_loopw [6, 7, 8, 9, 12] (fun _ _ _ _ i wr => ∃ j : Nat, j ≤ m ∧ i = .int .i64 j ∧ Hid ((wrs s (wrl s.n (xs.take j))).1 = 0) ∧ Dev wr d (wrs s (wrl s.n (xs.take j))).2 (Qn Q w wr) ∧ Fr Q w wr) (fun _ _ _ _ i _ => m - (intOf i).toNat)
  case atStart => exact ⟨0, Nat.zero_le _, rfl, rfl, HD.out.weak (fun b q => .inl q) (fun b q => by
    rcases q with q | q
    · exact HLW.out b q
    · exact q.2), .refl _ _⟩
  case round =>
    obtain ⟨j, hj, rfl, HW, D1, F1⟩ := hrel
    obtain ⟨sn1, sk1, sc1, sp1⟩ := wrs_n' (wrl s.n (xs.take j)) s
    have hlen : (wrl s.n (xs.take j)).length = j := by unfold wrl; simp; omega
    rw [hlen] at sc1 sp1
    have T1 := HT.out.fr F1 H0.out
    by_cases hlt : j < m
    · have hjI : (j : Int) < (m : Int) := by omega
      obtain ⟨y, HY⟩ : ∃ y, Hid (xs[j]? = some y) := ⟨xs[j]'(by omega), by show _ = _; simp [show j < xs.length by omega]⟩
      have hym : y ∈ xs := List.mem_of_getElem? HY.out
      have S1 := HS.out.fr F1 HQB.out
      have X1 := HX.out.fr F1 HQX.out
      obtain ⟨gb, off, rfl, hcell⟩ : ∃ gb off, b = some ⟨gb, off, none⟩ ∧ ∀ i u, (scs xs)[i]? = some u → wr.cell? ⟨gb, off + i, none⟩ = some u := by
        rcases S1.2 with q | q
        · omega
        · exact q
      obtain ⟨k0, k1, k2, k3, k4⟩ := scs_get xs j y HY.out
      have c0 := hcell _ _ k0
      have c1 := hcell _ _ k1
      have c2 := hcell _ _ k2
      have c3 := hcell _ _ k3
      have c4 := hcell _ _ k4
      obtain ⟨yb, yM⟩ := X1 y hym
      have hhy := HH.out y hym
      have HWS : Hid (wrs s (wrl s.n (xs.take (j + 1))) = if opE (wrs s (wrl s.n (xs.take j))).2 = 0 then (0, { opS (wrs s (wrl s.n (xs.take j))).2 with P := (wrs s (wrl s.n (xs.take j))).2.P ++ [(hom s.n y.x, ps y.x)] }) else (opE (wrs s (wrl s.n (xs.take j))).2, opS (wrs s (wrl s.n (xs.take j))).2)) := by
        show _ = _
        rw [wrl_take _ _ _ HY.out, wrs_app', if_pos HW.out]
        simp only [wrs]
      have HNE : Hid ((wrs s (wrl s.n (xs.take (j + 1)))).1 ≠ 0 → wfl s (wrl s.n xs) = wrs s (wrl s.n (xs.take (j + 1)))) := fun hne => by
        have hr : wrl s.n xs = wrl s.n (xs.take (j + 1)) ++ wrl s.n (xs.drop (j + 1)) := by unfold wrl; rw [← List.map_append, List.take_append_drop]
        have h1 : wrs s (wrl s.n xs) = wrs s (wrl s.n (xs.take (j + 1))) := by rw [hr, wrs_app', if_neg hne]
        unfold wfl
        rw [h1, if_neg hne]
      have HD1 := hid D1
      have HF1 := hid F1
      have HT1 := hid T1
      have HYB := hid yb
      have HYM := hid yM
      generalize (wrs s (wrl s.n (xs.take j))).2 = sj at *
      have hyl := yb.1
      clear D1 F1 T1 S1 X1 yb k0 k1 k2 k3 k4 hcell hym hlt
      obtain ⟨⟨yT, ye, yq, yp, yl⟩, ya, yn, yc⟩ := y
      simp only at *
      rw [show off + (j * 5 + 1) = off + j * 5 + 1 from by omega] at c1
      rw [show off + (j * 5 + 2) = off + j * 5 + 2 from by omega] at c2
      rw [show off + (j * 5 + 3) = off + j * 5 + 3 from by omega] at c3
      rw [show off + (j * 5 + 4) = off + j * 5 + 4 from by omega] at c4
      go_wp2_with fail
      have m0 := Sm.new wr yT ye yq yp (.slice ya yn yc)
      have BA := snew wr yT ye yq yp (.slice ya yn yc)
      have D2 := HD1.out.below BA
      have T2 := HT1.out.bel BA
      have B2 := HYB.out.below BA
      generalize wr.alloc (.cells #[.string yT, .int .i64 ye, .int .i64 yq, .int .i64 yp, .slice ya yn yc] 31) = W at *
      refine (put_y yT ye yq yp ya yn yc yl W T2 B2 HYM.out).mono ?_
      rintro en w2 ⟨gz, rfl, hgz, rz, g2⟩
      have D3 := D2.below g2
      have m2 := m0.kept g2
      have d0 := m2.c0
      have d1 := m2.c1
      have d2 := m2.c2
      have d3 := m2.c3
      have d4 := m2.c4
      have HB2 := hid (bel_bel BA BA.size g2)
      have HRZ := hid rz
      have hw := BA.size
      have kh := whome_ D3 ⟨yT, ye, yq, yp, yl⟩ yn (.slice ya yn yc) HYM.out
      rw [sn1] at kh
      obtain ⟨H, HHm⟩ : ∃ H, Hid (hom s.n ⟨yT, ye, yq, yp, yl⟩ = H) := ⟨_, rfl⟩
      rw [HHm.out] at kh hhy HWS
      have HD3 := hid D3
      clear m0 m2 BA D2 T2 B2 g2 rz D3 c0 c1 c2 c3 c4
      go_wp2_with fail
      refine kh.mono ?_
      rintro en w3 ⟨rfl, g3⟩
      have D4 := HD3.out.below g3
      have rz3 : Row w3 gz (ps ⟨yT, ye, yq, yp, yl⟩) := (g3.block gz HRZ.out.lt).trans HRZ.out
      have B3 := bel_bel HB2.out HB2.out.size g3
      have HPM : May ⟨yT, ye, yq, yp, yl⟩ := (may_n (s := ⟨yT, ye, yq, yp, yl⟩) hyl).2 HYM.out
      have hpl := ps_length HPM
      have hpb : By (ps ⟨yT, ye, yq, yp, yl⟩) := ps_by HYB.out.2.1
      have bz := rz3.bs12 hpl hpb
      obtain ⟨z, HZ⟩ : ∃ z, Hid (ps ⟨yT, ye, yq, yp, yl⟩ = z) := ⟨_, rfl⟩
      rw [HZ.out] at bz hpl HWS
      obtain ⟨wr1, wr2⟩ := wr_in' (s := sj) (i := H) (z := z) (by rw [sn1]; exact hhy) hpl
      have kw := write_ d sj (Qn Q w wr) (H : Int) (some ⟨gz, 0, none⟩) 512 512 z w3 D4 (by omega) (by omega) bz (fun ad ha _ q => by
        obtain rfl := Option.some.inj ha
        have h1 : gz < wr.heap.size := HD1.out.lt _ q
        omega)
      obtain ⟨E, HE⟩ : ∃ E, Hid (opE sj = E) := ⟨_, rfl⟩
      rw [wr1, wr2] at kw
      rw [HE.out] at kw HWS
      have HB3 := hid B3
      clear D4 rz3 B3 HPM hpl hpb bz wr1 wr2 g3 kh d0 d1 d2 d3 d4
      go_wp2_with fail
      refine kw.mono ?_
      rintro en w4 ⟨rfl, D5, F5⟩
      have F6 : Fr (Qn Q w wr) wr w4 := (Fr.ofB HB3.out).trans F5
      have HF7 : Hid (Fr Q w w4) := ⟨F6.os.trans HF1.out.os, F6.tape.trans HF1.out.tape, F6.output.trans HF1.out.output, Nat.le_trans HF1.out.size F6.size, fun b hb hn => (F6.same b (Nat.lt_of_lt_of_le hb HF1.out.size) (fun q => by
        rcases q with q | q
        · exact hn q
        · omega)).trans (HF1.out.same b hb hn)⟩
      have s1 := HF1.out.size
      have s3 := HB3.out.size
      have s5 := F5.size
      have D6 := D5.weak (R := Qn Q w w4) (fun b q => by
        rcases q with (q | q) | q
        · exact .inl q
        · exact .inr ⟨q.1, by omega⟩
        · exact .inr ⟨by omega, q.2⟩) (fun b q => by
        rcases q with q | q
        · have := HLW.out b q; omega
        · exact q.2)
      have HD6 := hid D6
      clear kw D5 F5 F6 D6 HB3 HB2 HD3 HRZ
      by_cases hE : E = 0
      · subst hE
        rw [if_pos rfl] at HWS
        rw [if_pos rfl] at HD6
        go_wp2_with fail
        go_roundw
        case rel => exact ⟨j + 1, by omega, by go_num, by show _ = _; rw [HWS.out], by rw [HWS.out]; exact HD6.out, HF7.out⟩
        case measure => simp [intOf]; omega
      · have hEb : (E != 0) = true := by rw [bne_iff_ne]; exact hE
        rw [if_neg hE] at HWS
        rw [if_neg hE] at HD6
        have hfin := HNE.out (by rw [HWS.out]; exact hE)
        rw [HWS.out] at hfin
        have HFIN := hid hfin
        clear hfin hE
        go_wp2_with fail
        go_ret
        rw [HFIN.out]
        exact ⟨rfl, HD6.out, HF7.out⟩
    · obtain rfl : j = m := by omega
      have hjI : ¬ (j : Int) < (j : Int) := by omega
      have HTK : Hid (xs.take j = xs) := List.take_of_length_le (by omega)
      rw [HTK.out] at HW D1 sn1 sc1 sp1
      have HFL : Hid (wfl s (wrl s.n xs) = (opE (wrs s (wrl s.n xs)).2, flS (wrs s (wrl s.n xs)).2)) := by
        show _ = _
        unfold wfl
        rw [if_pos HW.out]
        rfl
      have kf := flush_ d (wrs s (wrl s.n xs)).2 (Qn Q w wr) wr D1 (by omega) (by omega)
      generalize (wrs s (wrl s.n xs)).2 = sj at *
      obtain ⟨E, HE⟩ : ∃ E, Hid (opE sj = E) := ⟨_, rfl⟩
      rw [HE.out] at kf HFL
      have HF1 := hid F1
      clear D1 F1 T1
      go_wp2_with fail
      refine kf.mono ?_
      rintro en w2 ⟨rfl, D2, F2⟩
      have HF7 : Hid (Fr Q w w2) := ⟨F2.os.trans HF1.out.os, F2.tape.trans HF1.out.tape, F2.output.trans HF1.out.output, Nat.le_trans HF1.out.size F2.size, fun b hb hn => (F2.same b (Nat.lt_of_lt_of_le hb HF1.out.size) (fun q => by
        rcases q with q | q
        · exact hn q
        · omega)).trans (HF1.out.same b hb hn)⟩
      have s1 := HF1.out.size
      have s2 := F2.size
      have HD6 := hid (D2.weak (R := Qn Q w w2) (fun b q => by
        rcases q with q | q
        · exact .inl q
        · exact .inr ⟨q.1, by omega⟩) (fun b q => by
        rcases q with q | q
        · have := HLW.out b q; omega
        · exact q.2))
      clear kf D2 F2
      go_wp2_with fail
      go_ret
      rw [HFL.out]
      exact ⟨rfl, HD6.out, HF7.out⟩
end Go.Proofs.YtblcpdffiafgnaaGreatDoor
