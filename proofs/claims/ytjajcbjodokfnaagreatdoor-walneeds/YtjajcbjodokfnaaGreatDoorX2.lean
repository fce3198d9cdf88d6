import Derived.Test.YtjajcbjodokfnaaGreatDoorV0
import Derived.Test.YtjajcbjodokfnaaGreatDoorLA0
import Derived.Test.YtjajcbjodokfnaaGreatDoorS7
namespace Go.Proofs.YtjajcbjodokfnaaGreatDoor
set_option maxRecDepth 100000
open Go.RowKit Go.Shelf
set_option linter.unusedVariables false
set_option linter.unusedSimpArgs false

/-! The landed log: its small functions. -/
/-- Where a region begins. -/
def rg (N e : Nat) : Nat := 2 + e % 2 * roo N
theorem rg_le (N e : Nat) (h : N ≤ 8192) : rg N e ≤ 4097 := by
  have hr : roo N ≤ 4095 := by unfold roo; omega
  unfold rg
  rcases (show e % 2 = 0 ∨ e % 2 = 1 by omega) with q | q
  · rw [q]; omega
  · rw [q]; omega
theorem sct_rg' (N e p : Nat) : sct N e p = rg N e + p := rfl
section
variable {w : World} {d : Nat} {s : St} {Q : Nat → Prop}
theorem wroom_ (h : Dev w d s Q) : Calls Tryz.prog 90 #[.pointer (some ⟨d, 0, none⟩)] w fun en w' => en = .returned (.int .i64 (roo s.n)) ∧ w' = w := by
  obtain ⟨h1, h2⟩ := h.n
  have ks := sectorsD h
  have e0 : ((roo s.n : Nat) : Int) = ((s.n : Int) - 2) / 2 := by unfold roo; omega
  obtain ⟨n, HN⟩ : ∃ n, Hid (s.n = n) := ⟨_, rfl⟩
  rw [HN.out] at ks h1 h2 e0 ⊢
  have e1 : ((n : Int) - 2).tdiv 2 = ((n : Int) - 2) / 2 := Int.tdiv_eq_ediv_of_nonneg (by omega)
  rw [e0]
  clear h
  go_enter Tryz.func90, Tryz.ntmps90
  go_wp2_with fail
  refine ks.mono ?_
  rintro en w' ⟨rfl, hw⟩
  obtain rfl := hw.symm
  go_wp2_with fail
  go_ret
  exact ⟨rfl, rfl⟩
theorem wregion_ (h : Dev w d s Q) (ep : Nat) (hep : ep ≤ 4611686018427387905) : Calls Tryz.prog 129 #[.pointer (some ⟨d, 0, none⟩), .int .i64 ep] w fun en w' => en = .returned (.int .i64 (rg s.n ep)) ∧ w' = w := by
  obtain ⟨h1, h2⟩ := h.n
  have kr := wroom_ h
  have hR : roo s.n ≤ 4095 := by unfold roo; omega
  obtain ⟨q, hq⟩ : ∃ q : Nat, q = ep % 2 := ⟨_, rfl⟩
  have hq2 : q < 2 := by omega
  have e1 : (ep : Int) % 2 = (q : Int) := by omega
  have e0 : ((rg s.n ep : Nat) : Int) = 2 + (q : Int) * (roo s.n : Nat) := by unfold rg; rw [← hq]; push_cast; rfl
  obtain ⟨R, HR⟩ : ∃ R : Nat, Hid (roo s.n = R) := ⟨_, rfl⟩
  rw [HR.out] at kr hR e0
  obtain ⟨M, HM⟩ : ∃ M : Nat, Hid ((q : Int) * (R : Int) = (M : Int)) := ⟨q * R, by show _ = _; push_cast; rfl⟩
  have e2 := HM.out
  have hM : M ≤ 4095 := by
    rcases (show q = 0 ∨ q = 1 by omega) with rfl | rfl
    · omega
    · omega
  rw [e0, e2]
  clear h hq
  go_enter Tryz.func129, Tryz.ntmps129
  go_wp2_with fail
  refine kr.mono ?_
  rintro en w' ⟨rfl, hw⟩
  obtain rfl := hw.symm
  go_wp2_with fail
  go_ret
  exact ⟨rfl, rfl⟩
theorem whasRoom_ (h : Dev w d s Q) (n : Nat) (hn : n ≤ 9223372036854775807) : Calls Tryz.prog 85 #[.pointer (some ⟨d, 0, none⟩), .int .i64 n] w fun en w' => en = .returned (.bool (decide (pcN n + 11 ≤ roo s.n))) ∧ w' = w := by
  obtain ⟨h1, h2⟩ := h.n
  have kr := wroom_ h
  have kp := pieces0_ (n : Int) w (by omega)
  have kn := need0_ 4800 w (by omega)
  rw [Int.toNat_natCast] at kp
  have e11 : ((ned ((4800 : Int)).toNat : Nat) : Int) = 11 := by decide
  rw [e11] at kn
  have hR : roo s.n ≤ 4095 := by unfold roo; omega
  have hK : pcN n ≤ 19215358410114117 := by unfold pcN; omega
  obtain ⟨R, HR⟩ : ∃ R : Nat, Hid (roo s.n = R) := ⟨_, rfl⟩
  obtain ⟨K, HK⟩ : ∃ K : Nat, Hid (pcN n = K) := ⟨_, rfl⟩
  rw [HR.out] at kr hR ⊢
  rw [HK.out] at kp hK ⊢
  clear h e11
  by_cases hle : K + 11 ≤ R
  · have t1 : (K : Int) + 11 ≤ (R : Int) := by omega
    rw [decide_eq_true hle]
    go_enter Tryz.func85, Tryz.ntmps85
    go_wp2_with fail
    refine kp.mono ?_
    rintro en w' ⟨rfl, hw⟩
    obtain rfl := hw.symm
    go_wp2_with fail
    refine kn.mono ?_
    rintro en w' ⟨rfl, hw⟩
    obtain rfl := hw.symm
    go_wp2_with fail
    refine kr.mono ?_
    rintro en w' ⟨rfl, hw⟩
    obtain rfl := hw.symm
    go_wp2_with fail
    go_ret
    exact ⟨rfl, rfl⟩
  · have t1 : ¬ (K : Int) + 11 ≤ (R : Int) := by omega
    have t2 : decide ((K : Int) + 11 ≤ (R : Int)) = false := decide_eq_false t1
    rw [decide_eq_false hle]
    go_enter Tryz.func85, Tryz.ntmps85
    go_wp2_with fail
    refine kp.mono ?_
    rintro en w' ⟨rfl, hw⟩
    obtain rfl := hw.symm
    go_wp2_with fail
    refine kn.mono ?_
    rintro en w' ⟨rfl, hw⟩
    obtain rfl := hw.symm
    go_wp2_with fail
    refine kr.mono ?_
    rintro en w' ⟨rfl, hw⟩
    obtain rfl := hw.symm
    go_wp2_with fail
    go_ret
    exact ⟨rfl, rfl⟩
end
/-- Where a sector stands. -/
def hom (N : Nat) (x : Sec) : Nat := if x.T = t1 then x.p.toNat else sct N x.e.toNat x.p.toNat
section
variable {w : World} {d : Nat} {s : St} {Q : Nat → Prop}
theorem whome_s (h : Dev w d s Q) (e q : Int) (p : Nat) (v : Value) : Calls Tryz.prog 139 #[.pointer (some ⟨d, 0, none⟩), .agg #[.string t1, .int .i64 e, .int .i64 q, .int .i64 p, v]] w fun en w' => en = .returned (.int .i64 p) ∧ Below w.heap.size w w' := by
  have m0 := Sm.new w t1 e q p v
  have B0 := snew w t1 e q p v
  have d0 := m0.c0
  have d1 := m0.c1
  have d3 := m0.c3
  have h0 : ((t1).toList == [67, 86, 83, 49]) = true := tl_yes rfl
  generalize t1 = T at *
  have HB := hid B0
  clear m0 h B0
  go_enter Tryz.func139, Tryz.ntmps139
  go_wp2_with fail
  go_ret
  exact ⟨rfl, HB.out⟩
theorem whome_r (h : Dev w d s Q) (T : ByteArray) (hT : T ≠ t1) (e : Nat) (q : Int) (p : Nat) (v : Value) (he : e ≤ 4611686018427387905) (hp : p ≤ 8191) : Calls Tryz.prog 139 #[.pointer (some ⟨d, 0, none⟩), .agg #[.string T, .int .i64 e, .int .i64 q, .int .i64 p, v]] w fun en w' => en = .returned (.int .i64 (sct s.n e p)) ∧ Below w.heap.size w w' := by
  obtain ⟨h1, h2⟩ := h.n
  have m0 := Sm.new w T e q p v
  have B0 := snew w T e q p v
  have d0 := m0.c0
  have d1 := m0.c1
  have d3 := m0.c3
  have h0 : (T.toList == [67, 86, 83, 49]) = false := tl_no (t := t1) rfl hT
  have HB := hid B0
  have hg := rg_le s.n e h2
  have kr := fun wx (hx : Drawn (w.alloc (.cells #[.string T, .int .i64 e, .int .i64 q, .int .i64 p, v] 40)) wx) => wregion_ ((h.below B0).below hx.below) e he
  obtain ⟨G, HG⟩ : ∃ G, Hid (rg s.n e = G) := ⟨_, rfl⟩
  rw [sct_rg']
  simp only [HG.out] at kr
  rw [HG.out] at hg ⊢
  have e0 : ((G + p : Nat) : Int) = (G : Int) + (p : Int) := by omega
  have e5 : IntKind.i64.wrap ((G : Int) + (p : Int)) = (G : Int) + (p : Int) := by rw [IntKind.wrap_i64]; omega
  rw [e0]
  clear m0 h B0 hT
  go_enter Tryz.func139, Tryz.ntmps139
  go_wp2_with fail
  generalize w.alloc (.cells #[.string T, .int .i64 e, .int .i64 q, .int .i64 p, v] 40) = W at *
  go_quiet ((go_at_call 129; exact Calls.quiet_of_same (kr _ (drawnN W _))))
  go_wp2_with fail
  go_ret
  exact ⟨rfl, bel_draw HB.out (drawnN W _)⟩
end
end Go.Proofs.YtjajcbjodokfnaaGreatDoor
namespace Go.Proofs.YtjajcbjodokfnaaGreatDoor
set_option maxRecDepth 100000
open Go.RowKit Go.Shelf
set_option linter.unusedVariables false
set_option linter.unusedSimpArgs false

/-- The landed log in memory. -/
def Wm (w : World) (g d mi ep nx pl : Nat) (se re : Bool) : Prop := w.heap[g]? = some (.cells #[.pointer (some ⟨d, 0, none⟩), .int .i64 mi, .int .i64 ep, .int .i64 nx, .int .i64 pl, .bool se, .bool re] 115 (0, 0))
section
variable {w w' : World} {g d mi ep nx pl : Nat} {se re : Bool}
theorem Wm.lt (h : Wm w g d mi ep nx pl se re) : g < w.heap.size := (Array.getElem?_eq_some_iff.1 h).1
theorem Wm.c0 (h : Wm w g d mi ep nx pl se re) : w.cell? ⟨g, 0, none⟩ = some (.pointer (some ⟨d, 0, none⟩)) := (cell_of_row _ _ 0 _ _ (0, 0) h).trans rfl
theorem Wm.c1 (h : Wm w g d mi ep nx pl se re) : w.cell? ⟨g, 1, none⟩ = some (.int .i64 mi) := (cell_of_row _ _ 1 _ _ (0, 0) h).trans rfl
theorem Wm.c2 (h : Wm w g d mi ep nx pl se re) : w.cell? ⟨g, 2, none⟩ = some (.int .i64 ep) := (cell_of_row _ _ 2 _ _ (0, 0) h).trans rfl
theorem Wm.c3 (h : Wm w g d mi ep nx pl se re) : w.cell? ⟨g, 3, none⟩ = some (.int .i64 nx) := (cell_of_row _ _ 3 _ _ (0, 0) h).trans rfl
theorem Wm.c4 (h : Wm w g d mi ep nx pl se re) : w.cell? ⟨g, 4, none⟩ = some (.int .i64 pl) := (cell_of_row _ _ 4 _ _ (0, 0) h).trans rfl
theorem Wm.c5 (h : Wm w g d mi ep nx pl se re) : w.cell? ⟨g, 5, none⟩ = some (.bool se) := (cell_of_row _ _ 5 _ _ (0, 0) h).trans rfl
theorem Wm.c6 (h : Wm w g d mi ep nx pl se re) : w.cell? ⟨g, 6, none⟩ = some (.bool re) := (cell_of_row _ _ 6 _ _ (0, 0) h).trans rfl
theorem Wm.fz (h : Wm w g d mi ep nx pl se re) (i : Nat) : w.frozen? ⟨g, i, none⟩ = false := by unfold Wm at h; simp [World.frozen?, h]
theorem Wm.at (h : Wm w g d mi ep nx pl se re) (k : w'.heap[g]? = w.heap[g]?) : Wm w' g d mi ep nx pl se re := k.trans h
theorem Wm.below (h : Wm w g d mi ep nx pl se re) (hb : Below w.heap.size w w') : Wm w' g d mi ep nx pl se re := h.at (hb.block g h.lt)
theorem Wm.s2 (h : Wm w g d mi ep nx pl se re) (x : Nat) : Wm (w.setCell ⟨g, 2, none⟩ (.int .i64 x)) g d mi x nx pl se re := by
  unfold Wm at *
  simp [World.setCell, Array.getElem?_modify, h]
theorem Wm.s3 (h : Wm w g d mi ep nx pl se re) (x : Nat) : Wm (w.setCell ⟨g, 3, none⟩ (.int .i64 x)) g d mi ep x pl se re := by
  unfold Wm at *
  simp [World.setCell, Array.getElem?_modify, h]
theorem Wm.s4 (h : Wm w g d mi ep nx pl se re) (x : Nat) : Wm (w.setCell ⟨g, 4, none⟩ (.int .i64 x)) g d mi ep nx x se re := by
  unfold Wm at *
  simp [World.setCell, Array.getElem?_modify, h]
theorem Wm.s5 (h : Wm w g d mi ep nx pl se re) (b : Bool) : Wm (w.setCell ⟨g, 5, none⟩ (.bool b)) g d mi ep nx pl b re := by
  unfold Wm at *
  simp [World.setCell, Array.getElem?_modify, h]
theorem Wm.s6 (h : Wm w g d mi ep nx pl se re) (b : Bool) : Wm (w.setCell ⟨g, 6, none⟩ (.bool b)) g d mi ep nx pl se b := by
  unfold Wm at *
  simp [World.setCell, Array.getElem?_modify, h]
end
/-- A device may have more blocks of its own. -/
theorem Dev.weak {w : World} {d : Nat} {s : St} {Q R : Nat → Prop} (h : Dev w d s Q) (hq : ∀ b, Q b → R b) (hl : ∀ b, R b → b < w.heap.size) : Dev w d s R := by
  obtain ⟨gl, pa, pn, pc, go, a, m, cp, fs, I, h⟩ := h
  exact ⟨gl, pa, pn, pc, go, a, m, cp, fs, I, ⟨h.dm, h.ls, h.own, h.hpn, fun x hx => (h.it x hx).weak hq, h.ip, h.ft, hq _ h.qd, hq _ h.ql, fun g e => hq _ (h.qp g e), hq _ h.qo, fun ad e => hq _ (h.qf ad e), hl, h.n0⟩⟩
/-- What came to a device's blocks since w. -/
abbrev Qn (Q : Nat → Prop) (w w' : World) : Nat → Prop := fun b => Q b ∨ (w.heap.size ≤ b ∧ b < w'.heap.size)
/-- The landed log over its device. -/
structure Wq (w : World) (g d mi ep nx pl : Nat) (se re : Bool) (s : St) (Q : Nat → Prop) : Prop where
  lm : Wm w g d mi ep nx pl se re
  dv : Dev w d s Q
  ng : ¬ Q g
  tb : Tab w
  n0 : ¬ Q 0
  g0 : 0 < g
theorem Tab.fr {w w' : World} {R : Nat → Prop} (h : Tab w) (hf : Fr R w w') (h0 : ¬ R 0) : Tab w' :=
  ⟨Nat.lt_of_lt_of_le h.1 hf.size, fun i hi => (World.cell?_of_block (w := w) (a := ⟨0, i, none⟩) (hf.same 0 h.1 h0)).trans (h.2 i hi)⟩
section
variable {w w' : World} {g d mi ep nx pl : Nat} {se re : Bool} {s s' : St} {Q Q' : Nat → Prop}
theorem Wq.below (h : Wq w g d mi ep nx pl se re s Q) (hb : Below w.heap.size w w') : Wq w' g d mi ep nx pl se re s Q :=
  ⟨h.lm.below hb, h.dv.below hb, h.ng, h.tb.bel hb, h.n0, h.g0⟩
/-- The device has made a step. -/
theorem Wq.dev (h : Wq w g d mi ep nx pl se re s Q) (hd : Dev w' d s' Q') (hf : Fr Q w w') (hg : ¬ Q' g) (h0 : ¬ Q' 0) : Wq w' g d mi ep nx pl se re s' Q' :=
  ⟨h.lm.at (hf.same g h.lm.lt h.ng), hd, hg, h.tb.fr hf h.n0, h0, h.g0⟩
theorem Wq.devn (h : Wq w g d mi ep nx pl se re s Q) (hd : Dev w' d s' (Qn Q w w')) (hf : Fr Q w w') : Wq w' g d mi ep nx pl se re s' (Qn Q w w') :=
  h.dev hd hf (fun q => by
    rcases q with q | q
    · exact h.ng q
    · have := h.lm.lt; omega) (fun q => by
    rcases q with q | q
    · exact h.n0 q
    · have := h.tb.1; omega)
/-- The log's own block has turned. -/
theorem Wq.turn {mi' ep' nx' pl' : Nat} {se' re' : Bool} (h : Wq w g d mi ep nx pl se re s Q) (hl : Wm w' g d mi' ep' nx' pl' se' re') (hg : w.grownBy w' (some g)) : Wq w' g d mi' ep' nx' pl' se' re' s Q :=
  ⟨hl, h.dv.fr (R := fun b => b = g) ⟨hg.os, hg.tape, hg.output, hg.size, fun b hb hn => hg.block b hb (fun q => hn (Option.some.inj q))⟩ (fun b hb q => h.ng (q ▸ hb)), h.ng, tab_grown h.tb hg h.g0, h.n0, h.g0⟩
theorem Wq.weak (h : Wq w g d mi ep nx pl se re s Q) (hq : ∀ b, Q b → Q' b) (hl : ∀ b, Q' b → b < w.heap.size) (hg : ¬ Q' g) (h0 : ¬ Q' 0) : Wq w g d mi ep nx pl se re s Q' :=
  ⟨h.lm, h.dv.weak hq hl, hg, h.tb, h0, h.g0⟩
end
/-- Blocks of the device and the log's own may turn. -/
abbrev Qg (Q : Nat → Prop) (g : Nat) : Nat → Prop := fun b => Q b ∨ b = g
/-- A step of a log: what it leaves. -/
structure Wz (w w' : World) (g d mi ep nx pl : Nat) (se re : Bool) (s : St) (Q : Nat → Prop) : Prop where
  q : Wq w' g d mi ep nx pl se re s (Qn Q w w')
  f : Fr (Qg Q g) w w'
section
variable {w w1 w2 : World} {g d mi ep nx pl mi' ep' nx' pl' : Nat} {se re se' re' : Bool} {s s' : St} {Q : Nat → Prop}
theorem Wz.refl (h : Wq w g d mi ep nx pl se re s Q) : Wz w w g d mi ep nx pl se re s Q :=
  ⟨h.weak (fun b q => .inl q) (fun b q => by
    rcases q with q | q
    · exact h.dv.lt b q
    · exact q.2) (fun q => by
    rcases q with q | q
    · exact h.ng q
    · omega) (fun q => by
    rcases q with q | q
    · exact h.n0 q
    · omega), .refl _ _⟩
theorem Wz.trans (h : Wz w w1 g d mi ep nx pl se re s Q) (hq : ∀ b, Q b → b < w.heap.size) (hg : g < w.heap.size) (h0 : 0 < w.heap.size) (k : Wz w1 w2 g d mi' ep' nx' pl' se' re' s' (Qn Q w w1)) : Wz w w2 g d mi' ep' nx' pl' se' re' s' Q := by
  have s1 := h.f.size
  have s2 := k.f.size
  refine ⟨k.q.weak (fun b q => ?_) (fun b q => ?_) (fun q => ?_) (fun q => ?_), ⟨k.f.os.trans h.f.os, k.f.tape.trans h.f.tape, k.f.output.trans h.f.output, Nat.le_trans s1 s2, fun b hb hn => (k.f.same b (by omega) (fun q => ?_)).trans (h.f.same b hb hn)⟩⟩
  · rcases q with (q | q) | q
    · exact .inl q
    · exact .inr ⟨q.1, by omega⟩
    · exact .inr ⟨by omega, q.2⟩
  · rcases q with q | q
    · have := hq b q; omega
    · exact q.2
  · rcases q with q | q
    · exact h.q.ng (.inl q)
    · omega
  · rcases q with q | q
    · exact h.q.n0 (.inl q)
    · omega
  · rcases q with (q | q) | q
    · exact hn (.inl q)
    · omega
    · exact hn (.inr q)
theorem Wz.below (h : Wz w w1 g d mi ep nx pl se re s Q) (hq : ∀ b, Q b → b < w.heap.size) (hg : g < w.heap.size) (h0 : 0 < w.heap.size) (hb : Below w1.heap.size w1 w2) : Wz w w2 g d mi ep nx pl se re s Q :=
  h.trans hq hg h0 ⟨(Wz.refl (h.q.below hb)).q.weak (fun b q => by
    rcases q with q | q
    · exact .inl q
    · omega) (fun b q => by
    rcases q with q | q
    · exact Nat.lt_of_lt_of_le (h.q.dv.lt b q) hb.size
    · exact q.2) (fun q => by
    rcases q with q | q
    · exact h.q.ng q
    · have := h.q.lm.lt; omega) (fun q => by
    rcases q with q | q
    · exact h.q.n0 q
    · have := h.q.tb.1; omega), Fr.ofB hb⟩
theorem Wz.first (h : Wq w g d mi ep nx pl se re s Q) (hb : Below w.heap.size w w1) (k : Wz w1 w2 g d mi' ep' nx' pl' se' re' s' Q) : Wz w w2 g d mi' ep' nx' pl' se' re' s' Q := by
  have s1 := hb.size
  have s2 := k.f.size
  have hl := h.dv.lt
  have hg := h.lm.lt
  have h0 := h.tb.1
  refine ⟨k.q.weak (fun b q => ?_) (fun b q => ?_) (fun q => ?_) (fun q => ?_), ⟨k.f.os.trans hb.os, k.f.tape.trans hb.tape, k.f.output.trans hb.output, Nat.le_trans s1 s2, fun b hb' hn => (k.f.same b (by omega) hn).trans (hb.block b hb')⟩⟩
  · rcases q with q | q
    · exact .inl q
    · exact .inr ⟨by omega, q.2⟩
  · rcases q with q | q
    · have := hl b q; omega
    · exact q.2
  · rcases q with q | q
    · exact h.ng q
    · omega
  · rcases q with q | q
    · exact h.n0 q
    · omega
/-- The log's own block turns at the end. -/
theorem Wz.turn (h : Wz w w1 g d mi ep nx pl se re s Q) (hl : Wm w2 g d mi' ep' nx' pl' se' re') (hg : w1.grownBy w2 (some g)) : Wz w w2 g d mi' ep' nx' pl' se' re' s Q := by
  have s2 := hg.size
  have s1 := h.f.size
  have q2 := h.q.turn hl hg
  refine ⟨q2.weak (fun b q => ?_) (fun b q => ?_) (fun q => ?_) (fun q => ?_), ⟨hg.os.trans h.f.os, hg.tape.trans h.f.tape, hg.output.trans h.f.output, Nat.le_trans s1 s2, fun b hb hn => (hg.block b (by omega) (fun q => hn (.inr (Option.some.inj q)))).trans (h.f.same b hb hn)⟩⟩
  · rcases q with q | q
    · exact .inl q
    · exact .inr ⟨q.1, by omega⟩
  · rcases q with q | q
    · have := h.q.dv.lt b (.inl q); omega
    · exact q.2
  · rcases q with q | q
    · exact h.q.ng (.inl q)
    · have := h.q.lm.lt
      exact h.q.ng (.inr ⟨q.1, this⟩)
  · rcases q with q | q
    · exact h.q.n0 (.inl q)
    · exact h.q.n0 (.inr ⟨q.1, h.q.tb.1⟩)
end
section
variable {w : World} {g d mi ep nx pl : Nat} {se re : Bool} {s : St} {Q : Nat → Prop}
/-- Has it ended? -/
def edd (mi : Nat) (re : Bool) (s : St) : Bool := re || decide (mi ≠ s.k)
theorem wended_ (h : Wq w g d mi ep nx pl se re s Q) :
    Calls Tryz.prog 84 #[.pointer (some ⟨g, 0, none⟩)] w fun en w' => en = .returned (.bool (edd mi re s)) ∧ Drawn w w' := by
  have c0 := h.lm.c0
  have c1 := h.lm.c1
  have c6 := h.lm.c6
  have kc := fun n => claimedD (h.dv.below (drawnN w n).below)
  unfold edd
  obtain ⟨k, HK⟩ : ∃ k, Hid (s.k = k) := ⟨_, rfl⟩
  simp only [HK.out] at kc
  rw [HK.out]
  clear h
  cases re with
  | true =>
    go_enter Tryz.func84, Tryz.ntmps84
    go_wp2_with fail
    go_quiet ((go_at_call 58; exact Calls.quiet_of_same (kc _)))
    go_wp2_with fail
    go_ret
    exact ⟨rfl, drawnN w _⟩
  | false =>
    by_cases hk : mi = k
    · subst hk
      have e1 : decide (mi ≠ mi) = false := by simp
      have e2 : ((mi : Int) != (mi : Int)) = false := by simp
      rw [e1]
      go_enter Tryz.func84, Tryz.ntmps84
      go_wp2_with fail
      go_quiet ((go_at_call 58; exact Calls.quiet_of_same (kc _)))
      go_wp2_with fail
      go_ret
      exact ⟨rfl, drawnN w _⟩
    · have e1 : decide (mi ≠ k) = true := by simp [hk]
      have e2 : ((k : Int) != (mi : Int)) = true := by rw [bne_iff_ne]; omega
      rw [e1]
      go_enter Tryz.func84, Tryz.ntmps84
      go_wp2_with fail
      go_quiet ((go_at_call 58; exact Calls.quiet_of_same (kc _)))
      go_wp2_with fail
      go_ret
      exact ⟨rfl, drawnN w _⟩
theorem wwrit_ (h : Wq w g d mi ep nx pl se re s Q) :
    Calls Tryz.prog 82 #[.pointer (some ⟨g, 0, none⟩)] w fun en w' => en = .returned (.bool (se && !edd mi re s)) ∧ Drawn w w' := by
  have c5 := h.lm.c5
  have ke := wended_ h
  obtain ⟨E, HE⟩ : ∃ E, Hid (edd mi re s = E) := ⟨_, rfl⟩
  rw [HE.out] at ke ⊢
  clear h
  cases se with
  | false =>
    go_enter Tryz.func82, Tryz.ntmps82
    go_wp2_with fail
    go_ret
    exact ⟨rfl, ⟨rfl, rfl, rfl, rfl⟩⟩
  | true =>
    go_enter Tryz.func82, Tryz.ntmps82
    go_wp2_with fail
    refine ke.mono ?_
    rintro en w1 ⟨rfl, d1⟩
    have HD := hid d1
    clear d1 ke
    go_wp2_with fail
    go_ret
    exact ⟨by simp, HD.out⟩
end
end Go.Proofs.YtjajcbjodokfnaaGreatDoor
