import Derived.Test.YtblcpdffiafgnaaGreatDoorD5
namespace Go.Proofs.YtblcpdffiafgnaaGreatDoor
open Go.RowKit Go.Shelf
set_option linter.unusedVariables false
set_option maxRecDepth 100000

/-- A write that pends: its sector, the block of its bytes, their capacity, the bytes. -/
structure It where
  S : Nat
  g : Nat
  c : Nat
  Z : List Int
def pcs : List It → List Value
  | [] => []
  | x :: I => .int .i64 x.S :: .slice (some ⟨x.g, 0, none⟩) 512 x.c :: pcs I
theorem pcs_app (I J : List It) : pcs (I ++ J) = pcs I ++ pcs J := by induction I with
  | nil => rfl
  | cons x I ih => simp [pcs, ih]
theorem pcs_length (I : List It) : (pcs I).length = I.length * 2 := by induction I with
  | nil => rfl
  | cons x I ih => simp [pcs, ih]; omega
theorem pcs_get (I : List It) : ∀ (j : Nat) (x : It), I[j]? = some x → (pcs I)[j * 2]? = some (.int .i64 x.S) ∧ (pcs I)[j * 2 + 1]? = some (.slice (some ⟨x.g, 0, none⟩) 512 x.c) := by
  induction I with
  | nil => intro j x h; simp at h
  | cons y I ih =>
    intro j x h
    cases j with
    | zero => simp at h; subst h; simp [pcs]
    | succ j =>
      have := ih j x (by simpa using h)
      rw [show (j + 1) * 2 = j * 2 + 2 from by omega]
      simpa [pcs] using this
theorem pcs_one (I : List It) : ∀ v ∈ pcs I, v.oneCell' = true := by
  induction I with
  | nil => intro v hv; simp [pcs] at hv
  | cons x I ih =>
    intro v hv
    rcases List.mem_cons.1 hv with rfl | hv
    · rfl
    rcases List.mem_cons.1 hv with rfl | hv
    · rfl
    exact ih v hv
theorem own2_cell {w : World} {B n : Nat} {t : TypeId} {v : Value} {xs : List Value} (h : w.ownsRow B t 2 v n xs) (hn : 0 < n) : ∃ g cap, v = .slice (some ⟨g, 0, none⟩) n cap ∧ n ≤ cap ∧ cap ≤ maxLen ∧ B ≤ g ∧ (∃ cur, w.heap[g]? = some (.cells cur t (0, 0))) ∧ ∀ i u, xs[i]? = some u → w.cell? ⟨g, i, none⟩ = some u := by
  obtain ⟨h1, h2⟩ := h
  rcases h2 with ⟨_, h⟩ | ⟨g, cap, cur, rfl, hb, hg, hnc, hcm, hs, ht⟩
  · omega
  · refine ⟨g, cap, rfl, hnc, hcm, hb, ⟨cur, hg⟩, fun i u hu => ?_⟩
    rw [cell_of_row w g i cur t (0, 0) hg]
    have hi : i < xs.length := (List.getElem?_eq_some_iff.1 hu).1
    rw [← ht, List.getElem?_take, if_pos (by omega)] at hu
    simpa using hu
theorem own_at' {w w' : World} {B n sz : Nat} {t : TypeId} {v : Value} {xs : List Value} (h : w.ownsRow B t sz v n xs) (e : ∀ g, v.ownBlock = some g → w'.heap[g]? = w.heap[g]?) : w'.ownsRow B t sz v n xs := by
  obtain ⟨h1, h2⟩ := h
  refine ⟨h1, ?_⟩
  rcases h2 with h2 | ⟨g, cap, cur, rfl, hb, hg, r⟩
  · exact .inl h2
  · exact .inr ⟨g, cap, cur, rfl, hb, (e g rfl).trans hg, r⟩
theorem own_ty {w : World} {B n sz : Nat} {t : TypeId} {v : Value} {xs : List Value} (h : w.ownsRow B t sz v n xs) {g : Nat} (e : v.ownBlock = some g) : ∃ cur, w.heap[g]? = some (.cells cur t (0, 0)) := by
  obtain ⟨h1, h2⟩ := h
  rcases h2 with ⟨rfl, _⟩ | ⟨g', cap, cur, rfl, hb, hg, r⟩
  · simp [Value.ownBlock] at e
  · obtain rfl : g' = g := by simpa [Value.ownBlock] using e
    exact ⟨cur, hg⟩
/-- Of the blocks that lay just those of Q have turned. -/
structure Fr (Q : Nat → Prop) (w w' : World) : Prop where
  os : w'.os = w.os
  tape : w'.tape = w.tape
  output : w'.output = w.output
  size : w.heap.size ≤ w'.heap.size
  same : ∀ b, b < w.heap.size → ¬ Q b → w'.heap[b]? = w.heap[b]?
theorem Fr.refl (Q : Nat → Prop) (w : World) : Fr Q w w := ⟨rfl, rfl, rfl, Nat.le_refl _, fun _ _ _ => rfl⟩
theorem Fr.trans {Q : Nat → Prop} {w w' w'' : World} (h : Fr Q w w') (g : Fr Q w' w'') : Fr Q w w'' :=
  ⟨g.os.trans h.os, g.tape.trans h.tape, g.output.trans h.output, Nat.le_trans h.size g.size, fun b hb hn => (g.same b (Nat.lt_of_lt_of_le hb h.size) hn).trans (h.same b hb hn)⟩
theorem Fr.below {Q : Nat → Prop} {w w' w'' : World} (h : Fr Q w w') (g : Below w'.heap.size w' w'') : Fr Q w w'' :=
  ⟨g.os.trans h.os, g.tape.trans h.tape, g.output.trans h.output, Nat.le_trans h.size g.size, fun b hb hn => (g.block b (Nat.lt_of_lt_of_le hb h.size)).trans (h.same b hb hn)⟩
theorem Fr.of {Q : Nat → Prop} {w w' : World} {g : Nat} (h : w.grownBy w' (some g)) (hq : Q g) : Fr Q w w' :=
  ⟨h.os, h.tape, h.output, h.size, fun b hb hn => h.block b hb (fun e => hn (by rw [Option.some.inj e]; exact hq))⟩
theorem Fr.ofN {Q : Nat → Prop} {w w' : World} {r : Option Nat} (h : w.grownBy w' r) (hq : ∀ g, r = some g → Q g) : Fr Q w w' :=
  ⟨h.os, h.tape, h.output, h.size, fun b hb hn => h.block b hb (fun e => hn (hq b e.symm))⟩
theorem Fr.ofB {Q : Nat → Prop} {w w' : World} (h : Below w.heap.size w w') : Fr Q w w' := ⟨h.os, h.tape, h.output, h.size, fun b hb _ => h.block b hb⟩
theorem Fr.weak {Q R : Nat → Prop} {w w' : World} (h : Fr Q w w') (hq : ∀ b, b < w.heap.size → Q b → R b) : Fr R w w' := ⟨h.os, h.tape, h.output, h.size, fun b hb hn => h.same b hb (fun e => hn (hq b hb e))⟩
theorem Fr.under {Q : Nat → Prop} {B : Nat} {w w' : World} (h : Fr Q w w') (hB : B ≤ w.heap.size) (hq : ∀ b, Q b → B ≤ b) : Below B w w' := ⟨h.os, h.tape, h.output, h.size, fun b hb => h.same b (by omega) (fun e => by have := hq b e; omega)⟩
/-- A write in memory. -/
structure Itm (w : World) (n gl : Nat) (Q : Nat → Prop) (x : It) : Prop where
  s : x.S < n
  bs : Bs w (some ⟨x.g, 0, none⟩) 512 x.Z
  ty : ∃ cur, w.heap[x.g]? = some (.cells cur 5 (0, 0))
  ne : x.g ≠ gl
  c1 : 512 ≤ x.c
  c2 : x.c ≤ maxLen
  q : Q x.g
theorem Itm.at {w w' : World} {n gl : Nat} {Q : Nat → Prop} {x : It} (h : Itm w n gl Q x) (e : w'.heap[x.g]? = w.heap[x.g]?) : Itm w' n gl Q x :=
  ⟨h.s, h.bs.at e, by obtain ⟨cur, hc⟩ := h.ty; exact ⟨cur, e.trans hc⟩, h.ne, h.c1, h.c2, h.q⟩
theorem Itm.weak {w : World} {n gl : Nat} {Q R : Nat → Prop} {x : It} (h : Itm w n gl Q x) (hq : ∀ b, Q b → R b) : Itm w n gl R x := ⟨h.s, h.bs, h.ty, h.ne, h.c1, h.c2, hq _ h.q⟩
theorem Itm.lt {w : World} {n gl : Nat} {Q : Nat → Prop} {x : It} (h : Itm w n gl Q x) : x.g < w.heap.size := by
  obtain ⟨cur, hc⟩ := h.ty
  exact (Array.getElem?_eq_some_iff.1 hc).1
/-- A device. -/
structure Dk (w : World) (d : Nat) (s : St) (Q : Nat → Prop) (gl : Nat) (pa : Option Addr) (pn pc go : Nat) (a : Option Addr) (m cp : Nat) (fs : List (Int × Int)) (I : List It) : Prop where
  dm : Dm w d (.slice (some ⟨gl, 0, none⟩) (512 * s.n) (512 * s.n)) (.slice pa pn pc) (fnv go) s.c s.on s.k
  ls : Ls w gl s.n s.S
  own : w.ownsRow 0 95 2 (.slice pa pn pc) I.length (pcs I)
  hpn : pn = I.length
  it : ∀ x ∈ I, Itm w s.n gl Q x
  ip : s.P = I.map fun x => (x.S, x.Z)
  ft : Ft w go s.F a m cp fs
  qd : Q d
  ql : Q gl
  qp : ∀ g, (Value.slice pa pn pc).ownBlock = some g → Q g
  qo : Q go
  qf : ∀ ad, a = some ad → Q ad.block
  lt : ∀ b, Q b → b < w.heap.size
  n0 : 32 ≤ s.n ∧ s.n ≤ 8192
def Dev (w : World) (d : Nat) (s : St) (Q : Nat → Prop) : Prop := ∃ gl pa pn pc go a m cp fs I, Dk w d s Q gl pa pn pc go a m cp fs I
section
variable {w w' : World} {d : Nat} {s : St} {Q : Nat → Prop} {gl : Nat} {pa : Option Addr} {pn pc go : Nat} {a : Option Addr} {m cp : Nat} {fs : List (Int × Int)} {I : List It}
theorem Dk.keep (h : Dk w d s Q gl pa pn pc go a m cp fs I) (hs : w.heap.size ≤ w'.heap.size) (e : ∀ b, Q b → w'.heap[b]? = w.heap[b]?) : Dk w' d s Q gl pa pn pc go a m cp fs I :=
  ⟨h.dm.at (e d h.qd), h.ls.at (e gl h.ql), own_at' h.own (fun g hg => e g (h.qp g hg)), h.hpn, fun x hx => (h.it x hx).at (e x.g (h.it x hx).q), h.ip, h.ft.at (e go h.qo) (fun ad ha => e _ (h.qf ad ha)), h.qd, h.ql, h.qp, h.qo, h.qf, fun b hb => Nat.lt_of_lt_of_le (h.lt b hb) hs, h.n0⟩
theorem Dk.below (h : Dk w d s Q gl pa pn pc go a m cp fs I) (hb : Below w.heap.size w w') : Dk w' d s Q gl pa pn pc go a m cp fs I := h.keep hb.size (fun b hq => hb.block b (h.lt b hq))
theorem Dk.ne5 (h : Dk w d s Q gl pa pn pc go a m cp fs I) {g : Nat} {cur : Array Value} {t : TypeId} (hg : w.heap[g]? = some (.cells cur t (0, 0))) (ht : t ≠ 5) : g ≠ gl := fun e => by
  have := h.ls.1
  rw [← e, hg] at this
  simp at this
  exact ht this.2
/-- What lasts has turned. -/
theorem Dk.laid (h : Dk w d s Q gl pa pn pc go a m cp fs I) {S' : Nat → List Int} (hL : Ls w' gl s.n S') (hg : w.grownBy w' (some gl)) : Dk w' d { s with S := S' } Q gl pa pn pc go a m cp fs I := by
  have hne : ∀ {g : Nat} {cur : Array Value} {t : TypeId}, w.heap[g]? = some (.cells cur t (0, 0)) → t ≠ 5 → w'.heap[g]? = w.heap[g]? := fun h1 h2 => hg.block _ (Array.getElem?_eq_some_iff.1 h1).1 (fun e => h.ne5 h1 h2 (Option.some.inj e))
  refine ⟨h.dm.at (hne h.dm (by decide)), hL, own_at' h.own (fun g e => ?_), h.hpn, fun x hx => (h.it x hx).at (hg.block _ (h.it x hx).lt (fun e => (h.it x hx).ne (Option.some.inj e))), h.ip, h.ft.at (hne h.ft.bx (by decide)) (fun ad ha => ?_), h.qd, h.ql, h.qp, h.qo, h.qf, fun b hb => Nat.lt_of_lt_of_le (h.lt b hb) hg.size, h.n0⟩
  · obtain ⟨cur, hc⟩ := own_ty h.own e
    exact hne hc (by decide)
  · obtain ⟨cur, hc⟩ := h.ft.rw ad ha
    exact hne hc (by decide)
/-- Its own block has turned. -/
theorem Dk.nd (h : Dk w d s Q gl pa pn pc go a m cp fs I) {g : Nat} {cur : Array Value} {t : TypeId} (hg : w.heap[g]? = some (.cells cur t (0, 0))) (ht : t ≠ 80) : g ≠ d := fun e => by
  have := h.dm
  unfold Dm at this
  rw [← e, hg] at this
  simp at this
  exact ht this.2
theorem Dk.turn (h : Dk w d s Q gl pa pn pc go a m cp fs I) {c' k' : Nat} {on' : Bool} (hM : Dm w' d (.slice (some ⟨gl, 0, none⟩) (512 * s.n) (512 * s.n)) (.slice pa pn pc) (fnv go) c' on' k') (hg : w.grownBy w' (some d)) : Dk w' d { s with c := c', on := on', k := k' } Q gl pa pn pc go a m cp fs I := by
  have hne : ∀ {g : Nat} {cur : Array Value} {t : TypeId}, w.heap[g]? = some (.cells cur t (0, 0)) → t ≠ 80 → w'.heap[g]? = w.heap[g]? := fun h1 h2 => hg.block _ (Array.getElem?_eq_some_iff.1 h1).1 (fun e => h.nd h1 h2 (Option.some.inj e))
  refine ⟨hM, h.ls.at (hne h.ls.1 (by decide)), own_at' h.own (fun g e => ?_), h.hpn, fun x hx => (h.it x hx).at ?_, h.ip, h.ft.at (hne h.ft.bx (by decide)) (fun ad ha => ?_), h.qd, h.ql, h.qp, h.qo, h.qf, fun b hb => Nat.lt_of_lt_of_le (h.lt b hb) hg.size, h.n0⟩
  · obtain ⟨cur, hc⟩ := own_ty h.own e
    exact hne hc (by decide)
  · obtain ⟨cur, hc⟩ := (h.it x hx).ty
    exact hne hc (by decide)
  · obtain ⟨cur, hc⟩ := h.ft.rw ad ha
    exact hne hc (by decide)
/-- The writes that pend are gone. -/
theorem Dk.clr (h : Dk w d s Q gl pa pn pc go a m cp fs I) (hM : Dm w' d (.slice (some ⟨gl, 0, none⟩) (512 * s.n) (512 * s.n)) (.slice none 0 0) (fnv go) s.c s.on s.k) (hg : w.grownBy w' (some d)) : Dk w' d { s with P := [] } Q gl none 0 0 go a m cp fs [] := by
  have hne : ∀ {g : Nat} {cur : Array Value} {t : TypeId}, w.heap[g]? = some (.cells cur t (0, 0)) → t ≠ 80 → w'.heap[g]? = w.heap[g]? := fun h1 h2 => hg.block _ (Array.getElem?_eq_some_iff.1 h1).1 (fun e => h.nd h1 h2 (Option.some.inj e))
  refine ⟨hM, h.ls.at (hne h.ls.1 (by decide)), World.ownsRow_nil _ _ _ _, rfl, fun x hx => by simp at hx, rfl, h.ft.at (hne h.ft.bx (by decide)) (fun ad ha => ?_), h.qd, h.ql, fun g e => by simp [Value.ownBlock] at e, h.qo, h.qf, fun b hb => Nat.lt_of_lt_of_le (h.lt b hb) hg.size, h.n0⟩
  obtain ⟨cur, hc⟩ := h.ft.rw ad ha
  exact hne hc (by decide)
/-- Other faults are armed. -/
theorem Dk.arm (h : Dk w d s Q gl pa pn pc go a m cp fs I) {go' : Nat} {F' : Int → Int} {a' : Option Addr} {m' cp' : Nat} {fs' : List (Int × Int)} {Q' : Nat → Prop} (hM : Dm w' d (.slice (some ⟨gl, 0, none⟩) (512 * s.n) (512 * s.n)) (.slice pa pn pc) (fnv go') 0 s.on s.k) (hg : w.grownBy w' (some d)) (hf : Ft w' go' F' a' m' cp' fs')
    (hq : ∀ b, Q b → Q' b) (hl : ∀ b, Q' b → b < w'.heap.size) (qo : Q' go') (qf : ∀ ad, a' = some ad → Q' ad.block) : Dk w' d { s with F := F', c := 0 } Q' gl pa pn pc go' a' m' cp' fs' I := by
  have hne : ∀ {g : Nat} {cur : Array Value} {t : TypeId}, w.heap[g]? = some (.cells cur t (0, 0)) → t ≠ 80 → w'.heap[g]? = w.heap[g]? := fun h1 h2 => hg.block _ (Array.getElem?_eq_some_iff.1 h1).1 (fun e => h.nd h1 h2 (Option.some.inj e))
  refine ⟨hM, h.ls.at (hne h.ls.1 (by decide)), own_at' h.own (fun g e => ?_), h.hpn, fun x hx => ((h.it x hx).at ?_).weak hq, h.ip, hf, hq _ h.qd, hq _ h.ql, fun g e => hq _ (h.qp g e), qo, qf, hl, h.n0⟩
  · obtain ⟨cur, hc⟩ := own_ty h.own e
    exact hne hc (by decide)
  · obtain ⟨cur, hc⟩ := (h.it x hx).ty
    exact hne hc (by decide)
theorem Dk.op (h : Dk w d s Q gl pa pn pc go a m cp fs I) (hM : Dm w' d (.slice (some ⟨gl, 0, none⟩) (512 * s.n) (512 * s.n)) (.slice pa pn pc) (fnv go) (if s.on then (s.c : Int) + 1 else s.c) (s.on && decide (s.F ((s.c : Int) + 1) ≠ 1)) s.k) (hg : w.grownBy w' (some d)) : Dk w' d (opS s) Q gl pa pn pc go a m cp fs I := by
  unfold opS
  cases hon : s.on with
  | false =>
    rw [hon] at hM
    have := h.turn (c' := s.c) (k' := s.k) (on' := false) (by simpa using hM) hg
    rw [← hon] at this
    simpa using this
  | true =>
    rw [hon] at hM
    have := h.turn (c' := s.c + 1) (k' := s.k) (on' := decide (s.F ((s.c : Int) + 1) ≠ 1)) (by simpa using hM) hg
    simpa using this
end
theorem opE_eq (s : St) : (if s.on then (if s.F ((s.c : Int) + 1) = 1 then 104 else if s.F ((s.c : Int) + 1) = 2 then 103 else 0) else (104 : Int)) = opE s := by unfold opE; rfl
theorem opr_ (d : Nat) (s : St) (Q : Nat → Prop) (gl : Nat) (pa : Option Addr) (pn pc go : Nat) (a : Option Addr) (m cp : Nat) (fs : List (Int × Int)) (I : List It) (w : World) (h : Dk w d s Q gl pa pn pc go a m cp fs I) (hc : s.c ≤ 1000000) :
    Calls Tryz.prog 82 #[.pointer (some ⟨d, 0, none⟩)] w fun e w' => e = .returned (.int .i64 (opE s)) ∧ Dk w' d (opS s) Q gl pa pn pc go a m cp fs I ∧ w.grownBy w' (some d) := by
  refine (operate_ d _ _ go s.c s.on s.k s.F a m cp fs w h.dm h.ft hc).mono ?_
  rintro e w' ⟨rfl, h1, h2⟩
  exact ⟨by rw [← opE_eq], h.op h1 h2, h2⟩
end Go.Proofs.YtblcpdffiafgnaaGreatDoor
namespace Go.Proofs.YtblcpdffiafgnaaGreatDoor
open Go.RowKit Go.Shelf
set_option linter.unusedVariables false
set_option maxRecDepth 100000

/-- How a device stands behind a Flush. -/
def flS (s : St) : St := if opE s = 0 then { opS s with S := layA s.S s.P, P := [] } else opS s
theorem opS_S (s : St) : (opS s).S = s.S := by unfold opS; split <;> rfl
theorem opS_P (s : St) : (opS s).P = s.P := by unfold opS; split <;> rfl
theorem opS_n (s : St) : (opS s).n = s.n := by unfold opS; split <;> rfl
theorem opS_k (s : St) : (opS s).k = s.k := by unfold opS; split <;> rfl
theorem opS_F (s : St) : (opS s).F = s.F := by unfold opS; split <;> rfl
theorem opS_c (s : St) : (opS s).c ≤ s.c + 1 := by unfold opS; split <;> simp
section
variable {w : World} {d : Nat} {s : St} {Q : Nat → Prop} {gl : Nat} {pa : Option Addr} {pn pc go : Nat} {a : Option Addr} {m cp : Nat} {fs : List (Int × Int)} {I : List It}
theorem Dk.cellI (h : Dk w d s Q gl pa pn pc go a m cp fs I) {j : Nat} {x : It} (hx : I[j]? = some x) : ∃ gp, pa = some ⟨gp, 0, none⟩ ∧ pn ≤ pc ∧ pc ≤ maxLen ∧ w.cell? ⟨gp, j * 2, none⟩ = some (.int .i64 x.S) ∧ w.cell? ⟨gp, j * 2 + 1, none⟩ = some (.slice (some ⟨x.g, 0, none⟩) 512 x.c) := by
  have hj : j < I.length := (List.getElem?_eq_some_iff.1 hx).1
  obtain ⟨g, cap, e, h1, h2, _, _, hc⟩ := own2_cell h.own (by omega)
  simp at e
  obtain ⟨rfl, rfl, rfl⟩ := e
  exact ⟨g, rfl, by omega, h2, hc _ _ (pcs_get I j x hx).1, hc _ _ (pcs_get I j x hx).2⟩
end
set_option maxHeartbeats 2000000 in
theorem flush_ (d : Nat) (s : St) (Q : Nat → Prop) (w : World) (h : Dev w d s Q) (hc : s.c ≤ 1000000) (hp : s.P.length ≤ 1000000) :
    Calls Tryz.prog 87 #[.pointer (some ⟨d, 0, none⟩)] w fun e w' => e = .returned (.int .i64 (opE s)) ∧ Dev w' d (flS s) Q ∧ Fr Q w w' := by
  obtain ⟨gl, pa, pn, pc, go, a, m, cp, fs, I, h⟩ := h
  have HD := hid h
  obtain ⟨E, HE⟩ : ∃ E, Hid (opE s = E) := ⟨_, rfl⟩
  have ko := opr_ d s Q gl pa pn pc go a m cp fs I w h hc
  rw [HE.out] at ko ⊢
  have HI : Hid (I.length ≤ 1000000) := by have := hp; rw [h.ip, List.length_map] at this; exact this
  have hI := HI.out
  have hpn : pn = I.length := h.hpn
  subst hpn
  clear h
  by_cases hE : E = 0
  case neg =>
    have e1 : (E != 0) = true := by rw [bne_iff_ne]; exact hE
    have HF : Hid (flS s = opS s) := by show _ = _; unfold flS; rw [HE.out, if_neg hE]
    clear hE
    go_enter Tryz.func87, Tryz.ntmps87
    go_wp2_with fail
    refine ko.mono ?_
    rintro e w1 ⟨rfl, h1, g1⟩
    clear ko
    go_wp2_with fail
    go_ret
    exact ⟨rfl, by rw [HF.out]; exact ⟨gl, pa, _, pc, go, a, m, cp, fs, I, h1⟩, .of g1 h1.qd⟩
  case pos =>
    subst hE
    have HF : Hid (flS s = { opS s with S := layA s.S s.P, P := [] }) := by show _ = _; unfold flS; rw [HE.out, if_pos rfl]
    go_enter Tryz.func87, Tryz.ntmps87
    go_wp2_with fail
    refine ko.mono ?_
    rintro e w1 ⟨rfl, h1, g1⟩
    have H1 := hid h1
    have HFR := hid (Fr.of g1 h1.qd)
    have m1 := h1.dm.c1
    clear ko HD h1 g1
    go_wp2_with fail
    go_loopw [5, 16] (fun _ i wr => ∃ j : Nat, j ≤ I.length ∧ i = .int .i64 j ∧ Dk wr d { opS s with S := layA s.S (s.P.take j) } Q gl pa I.length pc go a m cp fs I ∧ Fr Q w wr) (fun _ i _ => I.length - (intOf i).toNat)
    case atStart =>
      refine ⟨0, Nat.zero_le _, rfl, ?_, HFR.out⟩
      have := H1.out
      rw [List.take_zero, layA_nil, ← opS_S s]
      exact this
    case round =>
      clear H1 HFR m1
      obtain ⟨j, hj, rfl, hk, hfr⟩ := hrel
      by_cases hlt : j < I.length
      · have hjI : (j : Int) < (I.length : Int) := by omega
        obtain ⟨x, HX⟩ : ∃ x, Hid (I[j]? = some x) := ⟨I[j], by show _ = _; simp [hlt]⟩
        have hxm : x ∈ I := List.mem_of_getElem? HX.out
        obtain ⟨gp, rfl, hpp, hpm, c0, c1⟩ := hk.cellI HX.out
        have hit := hk.it x hxm
        have HS : Hid (layA s.S (s.P.take (j + 1)) = lay1 (layA s.S (s.P.take j)) (x.S, x.Z)) := by
          show _ = _
          rw [← layA_snoc]
          congr 1
          have hq : s.P[j]? = some (x.S, x.Z) := by
            have := hk.ip
            rw [show ({ opS s with S := layA s.S (s.P.take j) } : St).P = s.P from opS_P s] at this
            rw [this, List.getElem?_map, HX.out]
            rfl
          rw [List.take_add_one, hq]
          rfl
        have HK := hid hk
        have HFR := hid hfr
        have kl := fun wx hD hL hz => lay_ d gl (opS s).n x.S x.g x.c (layA s.S (s.P.take j)) x.Z (.slice (some ⟨gp, 0, none⟩) I.length pc) (fnv go) (opS s).c (opS s).on (opS s).k wx hD hk.n0.2 hit.s hL hz
        clear hk hfr hit hlt hxm
        obtain ⟨xS, xg, xc, xZ⟩ := x
        simp only at *
        go_wp2_with fail
        have BA : Below wr.heap.size wr (wr.alloc (.cells #[.int .i64 xS, .slice (some ⟨xg, 0, none⟩) 512 xc] 95)) := (Below.refl _ _).alloc (Nat.le_refl _) _
        have K2 := HK.out.below BA
        have F2 := HFR.out.below BA
        refine (kl _ K2.dm K2.ls (K2.it _ (List.mem_of_getElem? HX.out)).bs).mono ?_
        rintro e w3 ⟨rfl, hL, hG⟩
        have K3 := hid (K2.laid hL hG)
        have F3 := hid (F2.trans (.of hG K2.ql))
        clear kl K2 F2 BA hL hG HK HFR c0 c1
        go_wp2_with fail
        go_roundw
        case rel => exact ⟨j + 1, by omega, by go_num, by rw [HS.out]; exact K3.out, F3.out⟩
        case measure => simp [intOf]; omega
      · have hjI : ¬ (j : Int) < (I.length : Int) := by omega
        obtain rfl : j = I.length := by omega
        have m1 := hk.dm.c1
        have f1 := hk.dm.fz 1
        have KN := hid (hk.clr (hk.dm.s1 (.slice none 0 0)) (grown_set (grown_refl wr (some d)) 1 (.slice none 0 0)))
        have FN := hid (hfr.trans (.of (grown_set (grown_refl wr (some d)) 1 (.slice none 0 0)) hk.qd))
        have HL : Hid (s.P.take I.length = s.P) := by
          show _ = _
          have := hk.ip
          rw [show ({ opS s with S := layA s.S (s.P.take I.length) } : St).P = s.P from opS_P s] at this
          exact List.take_of_length_le (by rw [this, List.length_map]; exact Nat.le_refl _)
        clear hk hfr hlt
        go_wp2_with fail
        go_ret
        refine ⟨rfl, ?_, FN.out⟩
        rw [HF.out]
        have := KN.out
        rw [HL.out] at this
        exact ⟨_, _, _, _, _, _, _, _, _, _, this⟩
/-- How a device stands behind a Crash. -/
def crS (s : St) (ks : List Bool) : St := { s with S := layA s.S (keepL s.P ks), P := [], F := fun _ => 0, c := 0, on := true }
/-- A slice of bools. -/
def Bl (w : World) (a : Option Addr) (n : Nat) (ks : List Bool) : Prop := ks.length = n ∧ (n = 0 ∨ ∃ b off, a = some ⟨b, off, none⟩ ∧ ∀ i, i < n → w.cell? ⟨b, off + i, none⟩ = some (.bool (ks.getD i false)))
theorem Bl.kept {w w' : World} {a : Option Addr} {n : Nat} {ks : List Bool} (h : Bl w a n ks) (e : ∀ ad, a = some ad → w'.heap[ad.block]? = w.heap[ad.block]?) : Bl w' a n ks := by
  refine ⟨h.1, ?_⟩
  rcases h.2 with h0 | ⟨b, off, rfl, hc⟩
  · exact .inl h0
  · exact .inr ⟨b, off, rfl, fun i hi => (World.cell?_of_block (w := w) (a := ⟨b, off + i, none⟩) (e ⟨b, off, none⟩ rfl)).trans (hc i hi)⟩
theorem Bl.fr {Q : Nat → Prop} {w w' : World} {a : Option Addr} {n : Nat} {ks : List Bool} (h : Bl w a n ks) (hf : Fr Q w w') (hq : ∀ ad, a = some ad → 0 < n → ¬ Q ad.block) : Bl w' a n ks := by
  refine ⟨h.1, ?_⟩
  rcases h.2 with h0 | ⟨b, off, rfl, hc⟩
  · exact .inl h0
  · by_cases hn : n = 0
    · exact .inl hn
    · refine .inr ⟨b, off, rfl, fun i hi => ?_⟩
      have hlt := World.block_lt_of_cell? w _ (hc i hi)
      exact (World.cell?_of_block (w := w) (a := ⟨b, off + i, none⟩) (hf.same b hlt (hq _ rfl (by omega)))).trans (hc i hi)
set_option maxHeartbeats 2000000 in
theorem crash_ (d : Nat) (s : St) (Q : Nat → Prop) (a1 : Option Addr) (n1 c1 : Nat) (ks : List Bool) (w : World) (h : Dev w d s Q) (hp : s.P.length ≤ 1000000) (hb : Bl w a1 n1 ks) (hq : ∀ ad, a1 = some ad → 0 < n1 → ¬ Q ad.block) (hn1 : n1 ≤ 140737488355328) :
    Calls Tryz.prog 26 #[.pointer (some ⟨d, 0, none⟩), .slice a1 n1 c1] w fun e w' => e = .returned (.tuple #[]) ∧ Dev w' d (crS s ks) (fun b => Q b ∨ (w.heap.size ≤ b ∧ b < w'.heap.size)) ∧ Fr Q w w' := by
  obtain ⟨gl, pa, pn, pc, go, a, m, cp, fs, I, h⟩ := h
  have hI : I.length ≤ 1000000 := by have := hp; rw [h.ip, List.length_map] at this; exact this
  have hpn : pn = I.length := h.hpn
  subst hpn
  have HD := hid h
  have HB := hid hb
  have HQ := hid hq
  have m1 := h.dm.c1
  have hlen := hb.1
  clear h hb hq
  go_enter Tryz.func26, Tryz.ntmps26
  go_wp2_with fail
  go_loopw [4, 5, 11] (fun _ _ i wr => ∃ j : Nat, j ≤ I.length ∧ i = .int .i64 j ∧ Dk wr d { s with S := layA s.S (keepL (s.P.take j) ks) } Q gl pa I.length pc go a m cp fs I ∧ Fr Q w wr) (fun _ _ i _ => I.length - (intOf i).toNat)
  case atStart =>
    refine ⟨0, Nat.zero_le _, rfl, ?_, .refl _ _⟩
    rw [List.take_zero, keepL_nil', layA_nil]
    exact HD.out
  case round =>
    clear HD m1
    obtain ⟨j, hj, rfl, hk, hfr⟩ := hrel
    by_cases hlt : j < I.length
    · have hjI : (j : Int) < (I.length : Int) := by omega
      obtain ⟨x, HX⟩ : ∃ x, Hid (I[j]? = some x) := ⟨I[j], by show _ = _; simp [hlt]⟩
      have hxm : x ∈ I := List.mem_of_getElem? HX.out
      obtain ⟨gp, rfl, hpp, hpm, c0, c1⟩ := hk.cellI HX.out
      have hit := hk.it x hxm
      have HPj : Hid (s.P[j]? = some (x.S, x.Z)) := by
        show _ = _
        have := hk.ip
        rw [show ({ s with S := layA s.S (keepL (s.P.take j) ks) } : St).P = s.P from rfl] at this
        rw [this, List.getElem?_map, HX.out]
        rfl
      have HS : Hid (layA s.S (keepL (s.P.take (j + 1)) ks) = layA (layA s.S (keepL (s.P.take j) ks)) (if ks[j]? = some true then [(x.S, x.Z)] else [])) := by
        show _ = _
        have hjl : (s.P.take j).length = j := by
          rw [List.length_take]
          have := (List.getElem?_eq_some_iff.1 HPj.out).1
          omega
        rw [← layA_app, List.take_add_one, HPj.out]
        show layA s.S (keepL (s.P.take j ++ [(x.S, x.Z)]) ks) = _
        rw [keepL_snoc, hjl]
      have HK := hid hk
      have HFR := hid hfr
      have kl := fun wx hD hL hz => lay_ d gl s.n x.S x.g x.c (layA s.S (keepL (s.P.take j) ks)) x.Z (.slice (some ⟨gp, 0, none⟩) I.length pc) (fnv go) s.c s.on s.k wx hD hk.n0.2 hit.s hL hz
      have HB2 := hid (HB.out.fr hfr HQ.out)
      clear hk hfr hit hlt hxm
      obtain ⟨xS, xg, xc, xZ⟩ := x
      simp only at *
      have BA : Below wr.heap.size wr (wr.alloc (.cells #[.int .i64 xS, .slice (some ⟨xg, 0, none⟩) 512 xc] 95)) := (Below.refl _ _).alloc (Nat.le_refl _) _
      have K2 := hid (HK.out.below BA)
      have F2 := hid (HFR.out.below BA)
      by_cases hjn : j < n1
      · have hjn' : (j : Int) < (n1 : Int) := by omega
        obtain ⟨b, off, rfl, hc⟩ : ∃ b off, a1 = some ⟨b, off, none⟩ ∧ ∀ i, i < n1 → wr.cell? ⟨b, off + i, none⟩ = some (.bool (ks.getD i false)) := by
          rcases HB2.out.2 with h0 | h
          · omega
          · exact h
        have e1 := (BA.cell (p := ⟨b, off + j, none⟩) (World.block_lt_of_cell? wr _ (hc j hjn))).trans (hc j hjn)
        have HKS : Hid (ks[j]? = some (ks.getD j false)) := by show _ = _; simp [List.getD, show j < ks.length from by omega]
        obtain ⟨r, HR⟩ : ∃ r, Hid (ks.getD j false = r) := ⟨_, rfl⟩
        rw [HR.out] at e1 HKS
        clear hc BA
        cases r with
        | true =>
          go_wp2_with fail
          refine (kl _ K2.out.dm K2.out.ls (K2.out.it _ (List.mem_of_getElem? HX.out)).bs).mono ?_
          rintro e w3 ⟨rfl, hL, hG⟩
          have K3 := hid (K2.out.laid hL hG)
          have F3 := hid (F2.out.trans (.of hG K2.out.ql))
          clear kl K2 F2 hL hG HK HFR c0 c1 e1
          go_wp2_with fail
          go_roundw
          case rel => exact ⟨j + 1, by omega, by go_num, by rw [HS.out, HKS.out, if_pos rfl]; exact K3.out, F3.out⟩
          case measure => simp [intOf]; omega
        | false =>
          clear kl
          go_wp2_with fail
          go_roundw
          case rel => exact ⟨j + 1, by omega, by go_num, by rw [HS.out, HKS.out, if_neg (by simp)]; exact K2.out, F2.out⟩
          case measure => simp [intOf]; omega
      · have hjn' : ¬ (j : Int) < (n1 : Int) := by omega
        have HKS : Hid (ks[j]? = none) := by show _ = _; rw [List.getElem?_eq_none]; omega
        clear kl BA
        go_wp2_with fail
        go_roundw
        case rel => exact ⟨j + 1, by omega, by go_num, by rw [HS.out, HKS.out, if_neg (by simp)]; exact K2.out, F2.out⟩
        case measure => simp [intOf]; omega
    · have hjI : ¬ (j : Int) < (I.length : Int) := by omega
      obtain rfl : j = I.length := by omega
      have HL : Hid (s.P.take I.length = s.P) := by
        show _ = _
        have := hk.ip
        rw [show ({ s with S := layA s.S (keepL (s.P.take I.length) ks) } : St).P = s.P from rfl] at this
        exact List.take_of_length_le (by rw [this, List.length_map]; exact Nat.le_refl _)
      have ks_ := start_ d _ _ _ _ _ _ wr hk.dm
      have HK := hid hk
      have HFR := hid hfr
      clear hk hfr hlt
      go_wp2_with fail
      refine ks_.mono ?_
      rintro e w3 ⟨rfl, hM, hN, hG⟩
      have hk := HK.out
      rw [HL.out] at hk
      have hsz := HFR.out.size
      have hlt3 := (Array.getElem?_eq_some_iff.1 hN).1
      have F3 := hid (HFR.out.trans (.of hG hk.qd))
      have hft : Ft w3 wr.heap.size (fun _ => 0) none 0 0 [] := ⟨hN, fun ad ha => (by cases ha), ⟨rfl, .inl rfl⟩, List.Pairwise.nil, by omega, rfl⟩
      have K4 : Dk w3 d (crS s ks) (fun b => Q b ∨ (w.heap.size ≤ b ∧ b < w3.heap.size)) gl none 0 0 wr.heap.size none 0 0 [] [] := by
        have hne : ∀ {g : Nat} {cur : Array Value} {t : TypeId}, wr.heap[g]? = some (.cells cur t (0, 0)) → t ≠ 80 → w3.heap[g]? = wr.heap[g]? := fun h1 h2 => hG.block _ (Array.getElem?_eq_some_iff.1 h1).1 (fun e => hk.nd h1 h2 (Option.some.inj e))
        exact ⟨hM, hk.ls.at (hne hk.ls.1 (by decide)), World.ownsRow_nil _ _ _ _, rfl, fun x hx => by simp at hx, rfl, hft, .inl hk.qd, .inl hk.ql, fun g e => by simp [Value.ownBlock] at e, .inr ⟨hsz, hlt3⟩, fun ad e => (by cases e), fun b hb => by
          rcases hb with hb | hb
          · exact Nat.lt_of_lt_of_le (hk.lt b hb) hG.size
          · exact hb.2, hk.n0⟩
      have HK4 := hid K4
      clear hM hN hG hk hft K4 HK HFR ks_
      go_wp2_with fail
      go_end0
      exact ⟨rfl, ⟨_, _, _, _, _, _, _, _, _, _, HK4.out⟩, F3.out⟩
end Go.Proofs.YtblcpdffiafgnaaGreatDoor
