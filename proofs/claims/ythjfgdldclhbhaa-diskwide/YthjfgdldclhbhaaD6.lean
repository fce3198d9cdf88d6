import Derived.Test.YthjfgdldclhbhaaD5
namespace Go.Proofs.Ythjfgdldclhbhaa
open Go.RowKit Go.Shelf
set_option linter.unusedVariables false
set_option maxRecDepth 100000

/-- A write that pends: its sector, the block of its bytes, their capacity, the bytes. -/
structure It where
  S : Nat
  g : Nat
  c : Nat
  Z : List Int
def pcs : List It → List Value
  | [] => []
  | x :: I => .int .i64 x.S :: .slice (some ⟨x.g, 0, none⟩) 512 x.c :: pcs I
theorem pcs_app (I J : List It) : pcs (I ++ J) = pcs I ++ pcs J := by induction I with
  | nil => rfl
  | cons x I ih => simp [pcs, ih]
theorem pcs_length (I : List It) : (pcs I).length = I.length * 2 := by induction I with
  | nil => rfl
  | cons x I ih => simp [pcs, ih]; omega
theorem pcs_get (I : List It) : ∀ (j : Nat) (x : It), I[j]? = some x → (pcs I)[j * 2]? = some (.int .i64 x.S) ∧ (pcs I)[j * 2 + 1]? = some (.slice (some ⟨x.g, 0, none⟩) 512 x.c) := by
  induction I with
  | nil => intro j x h; simp at h
  | cons y I ih =>
    intro j x h
    cases j with
    | zero => simp at h; subst h; simp [pcs]
    | succ j =>
      have := ih j x (by simpa using h)
      rw [show (j + 1) * 2 = j * 2 + 2 from by omega]
      simpa [pcs] using this
theorem pcs_one (I : List It) : ∀ v ∈ pcs I, v.oneCell' = true := by
  induction I with
  | nil => intro v hv; simp [pcs] at hv
  | cons x I ih =>
    intro v hv
    rcases List.mem_cons.1 hv with rfl | hv
    · rfl
    rcases List.mem_cons.1 hv with rfl | hv
    · rfl
    exact ih v hv
theorem own2_cell {w : World} {B n : Nat} {t : TypeId} {v : Value} {xs : List Value} (h : w.ownsRow B t 2 v n xs) (hn : 0 < n) : ∃ g cap, v = .slice (some ⟨g, 0, none⟩) n cap ∧ n ≤ cap ∧ cap ≤ maxLen ∧ B ≤ g ∧ (∃ cur, w.heap[g]? = some (.cells cur t (0, 0))) ∧ ∀ i u, xs[i]? = some u → w.cell? ⟨g, i, none⟩ = some u := by
  obtain ⟨h1, h2⟩ := h
  rcases h2 with ⟨_, h⟩ | ⟨g, cap, cur, rfl, hb, hg, hnc, hcm, hs, ht⟩
  · omega
  · refine ⟨g, cap, rfl, hnc, hcm, hb, ⟨cur, hg⟩, fun i u hu => ?_⟩
    rw [cell_of_row w g i cur t (0, 0) hg]
    have hi : i < xs.length := (List.getElem?_eq_some_iff.1 hu).1
    rw [← ht, List.getElem?_take, if_pos (by omega)] at hu
    simpa using hu
theorem own_at' {w w' : World} {B n sz : Nat} {t : TypeId} {v : Value} {xs : List Value} (h : w.ownsRow B t sz v n xs) (e : ∀ g, v.ownBlock = some g → w'.heap[g]? = w.heap[g]?) : w'.ownsRow B t sz v n xs := by
  obtain ⟨h1, h2⟩ := h
  refine ⟨h1, ?_⟩
  rcases h2 with h2 | ⟨g, cap, cur, rfl, hb, hg, r⟩
  · exact .inl h2
  · exact .inr ⟨g, cap, cur, rfl, hb, (e g rfl).trans hg, r⟩
theorem own_ty {w : World} {B n sz : Nat} {t : TypeId} {v : Value} {xs : List Value} (h : w.ownsRow B t sz v n xs) {g : Nat} (e : v.ownBlock = some g) : ∃ cur, w.heap[g]? = some (.cells cur t (0, 0)) := by
  obtain ⟨h1, h2⟩ := h
  rcases h2 with ⟨rfl, _⟩ | ⟨g', cap, cur, rfl, hb, hg, r⟩
  · simp [Value.ownBlock] at e
  · obtain rfl : g' = g := by simpa [Value.ownBlock] using e
    exact ⟨cur, hg⟩
/-- Of the blocks that lay just those of Q have turned. -/
structure Fr (Q : Nat → Prop) (w w' : World) : Prop where
  os : w'.os = w.os
  tape : w'.tape = w.tape
  output : w'.output = w.output
  size : w.heap.size ≤ w'.heap.size
  same : ∀ b, b < w.heap.size → ¬ Q b → w'.heap[b]? = w.heap[b]?
theorem Fr.refl (Q : Nat → Prop) (w : World) : Fr Q w w := ⟨rfl, rfl, rfl, Nat.le_refl _, fun _ _ _ => rfl⟩
theorem Fr.trans {Q : Nat → Prop} {w w' w'' : World} (h : Fr Q w w') (g : Fr Q w' w'') : Fr Q w w'' :=
  ⟨g.os.trans h.os, g.tape.trans h.tape, g.output.trans h.output, Nat.le_trans h.size g.size, fun b hb hn => (g.same b (Nat.lt_of_lt_of_le hb h.size) hn).trans (h.same b hb hn)⟩
theorem Fr.below {Q : Nat → Prop} {w w' w'' : World} (h : Fr Q w w') (g : Below w'.heap.size w' w'') : Fr Q w w'' :=
  ⟨g.os.trans h.os, g.tape.trans h.tape, g.output.trans h.output, Nat.le_trans h.size g.size, fun b hb hn => (g.block b (Nat.lt_of_lt_of_le hb h.size)).trans (h.same b hb hn)⟩
theorem Fr.of {Q : Nat → Prop} {w w' : World} {g : Nat} (h : w.grownBy w' (some g)) (hq : Q g) : Fr Q w w' :=
  ⟨h.os, h.tape, h.output, h.size, fun b hb hn => h.block b hb (fun e => hn (by rw [Option.some.inj e]; exact hq))⟩
theorem Fr.ofN {Q : Nat → Prop} {w w' : World} {r : Option Nat} (h : w.grownBy w' r) (hq : ∀ g, r = some g → Q g) : Fr Q w w' :=
  ⟨h.os, h.tape, h.output, h.size, fun b hb hn => h.block b hb (fun e => hn (hq b e.symm))⟩
theorem Fr.ofB {Q : Nat → Prop} {w w' : World} (h : Below w.heap.size w w') : Fr Q w w' := ⟨h.os, h.tape, h.output, h.size, fun b hb _ => h.block b hb⟩
theorem Fr.weak {Q R : Nat → Prop} {w w' : World} (h : Fr Q w w') (hq : ∀ b, b < w.heap.size → Q b → R b) : Fr R w w' := ⟨h.os, h.tape, h.output, h.size, fun b hb hn => h.same b hb (fun e => hn (hq b hb e))⟩
theorem Fr.under {Q : Nat → Prop} {B : Nat} {w w' : World} (h : Fr Q w w') (hB : B ≤ w.heap.size) (hq : ∀ b, Q b → B ≤ b) : Below B w w' := ⟨h.os, h.tape, h.output, h.size, fun b hb => h.same b (by omega) (fun e => by have := hq b e; omega)⟩
/-- A write in memory. -/
structure Itm (w : World) (n gl : Nat) (Q : Nat → Prop) (x : It) : Prop where
  s : x.S < n
  bs : Bs w (some ⟨x.g, 0, none⟩) 512 x.Z
  ty : ∃ cur, w.heap[x.g]? = some (.cells cur 5 (0, 0))
  ne : x.g ≠ gl
  c1 : 512 ≤ x.c
  c2 : x.c ≤ maxLen
  q : Q x.g
theorem Itm.at {w w' : World} {n gl : Nat} {Q : Nat → Prop} {x : It} (h : Itm w n gl Q x) (e : w'.heap[x.g]? = w.heap[x.g]?) : Itm w' n gl Q x :=
  ⟨h.s, h.bs.at e, by obtain ⟨cur, hc⟩ := h.ty; exact ⟨cur, e.trans hc⟩, h.ne, h.c1, h.c2, h.q⟩
theorem Itm.weak {w : World} {n gl : Nat} {Q R : Nat → Prop} {x : It} (h : Itm w n gl Q x) (hq : ∀ b, Q b → R b) : Itm w n gl R x := ⟨h.s, h.bs, h.ty, h.ne, h.c1, h.c2, hq _ h.q⟩
theorem Itm.lt {w : World} {n gl : Nat} {Q : Nat → Prop} {x : It} (h : Itm w n gl Q x) : x.g < w.heap.size := by
  obtain ⟨cur, hc⟩ := h.ty
  exact (Array.getElem?_eq_some_iff.1 hc).1
/-- A device. -/
structure Dk (w : World) (d : Nat) (s : St) (Q : Nat → Prop) (gl : Nat) (pa : Option Addr) (pn pc go : Nat) (a : Option Addr) (m cp : Nat) (fs : List (Int × Int)) (I : List It) : Prop where
  dm : Dm w d (.slice (some ⟨gl, 0, none⟩) (512 * s.n) (512 * s.n)) (.slice pa pn pc) (fnv go) s.c s.on s.k
  ls : Ls w gl s.n s.S
  own : w.ownsRow 0 94 2 (.slice pa pn pc) I.length (pcs I)
  hpn : pn = I.length
  it : ∀ x ∈ I, Itm w s.n gl Q x
  ip : s.P = I.map fun x => (x.S, x.Z)
  ft : Ft w go s.F a m cp fs
  qd : Q d
  ql : Q gl
  qp : ∀ g, (Value.slice pa pn pc).ownBlock = some g → Q g
  qo : Q go
  qf : ∀ ad, a = some ad → Q ad.block
  lt : ∀ b, Q b → b < w.heap.size
  n0 : 32 ≤ s.n ∧ s.n ≤ 8192
def Dev (w : World) (d : Nat) (s : St) (Q : Nat → Prop) : Prop := ∃ gl pa pn pc go a m cp fs I, Dk w d s Q gl pa pn pc go a m cp fs I
section
variable {w w' : World} {d : Nat} {s : St} {Q : Nat → Prop} {gl : Nat} {pa : Option Addr} {pn pc go : Nat} {a : Option Addr} {m cp : Nat} {fs : List (Int × Int)} {I : List It}
theorem Dk.keep (h : Dk w d s Q gl pa pn pc go a m cp fs I) (hs : w.heap.size ≤ w'.heap.size) (e : ∀ b, Q b → w'.heap[b]? = w.heap[b]?) : Dk w' d s Q gl pa pn pc go a m cp fs I :=
  ⟨h.dm.at (e d h.qd), h.ls.at (e gl h.ql), own_at' h.own (fun g hg => e g (h.qp g hg)), h.hpn, fun x hx => (h.it x hx).at (e x.g (h.it x hx).q), h.ip, h.ft.at (e go h.qo) (fun ad ha => e _ (h.qf ad ha)), h.qd, h.ql, h.qp, h.qo, h.qf, fun b hb => Nat.lt_of_lt_of_le (h.lt b hb) hs, h.n0⟩
theorem Dk.below (h : Dk w d s Q gl pa pn pc go a m cp fs I) (hb : Below w.heap.size w w') : Dk w' d s Q gl pa pn pc go a m cp fs I := h.keep hb.size (fun b hq => hb.block b (h.lt b hq))
theorem Dk.ne5 (h : Dk w d s Q gl pa pn pc go a m cp fs I) {g : Nat} {cur : Array Value} {t : TypeId} (hg : w.heap[g]? = some (.cells cur t (0, 0))) (ht : t ≠ 5) : g ≠ gl := fun e => by
  have := h.ls.1
  rw [← e, hg] at this
  simp at this
  exact ht this.2
/-- What lasts has turned. -/
theorem Dk.laid (h : Dk w d s Q gl pa pn pc go a m cp fs I) {S' : Nat → List Int} (hL : Ls w' gl s.n S') (hg : w.grownBy w' (some gl)) : Dk w' d { s with S := S' } Q gl pa pn pc go a m cp fs I := by
  have hne : ∀ {g : Nat} {cur : Array Value} {t : TypeId}, w.heap[g]? = some (.cells cur t (0, 0)) → t ≠ 5 → w'.heap[g]? = w.heap[g]? := fun h1 h2 => hg.block _ (Array.getElem?_eq_some_iff.1 h1).1 (fun e => h.ne5 h1 h2 (Option.some.inj e))
  refine ⟨h.dm.at (hne h.dm (by decide)), hL, own_at' h.own (fun g e => ?_), h.hpn, fun x hx => (h.it x hx).at (hg.block _ (h.it x hx).lt (fun e => (h.it x hx).ne (Option.some.inj e))), h.ip, h.ft.at (hne h.ft.bx (by decide)) (fun ad ha => ?_), h.qd, h.ql, h.qp, h.qo, h.qf, fun b hb => Nat.lt_of_lt_of_le (h.lt b hb) hg.size, h.n0⟩
  · obtain ⟨cur, hc⟩ := own_ty h.own e
    exact hne hc (by decide)
  · obtain ⟨cur, hc⟩ := h.ft.rw ad ha
    exact hne hc (by decide)
/-- Its own block has turned. -/
theorem Dk.nd (h : Dk w d s Q gl pa pn pc go a m cp fs I) {g : Nat} {cur : Array Value} {t : TypeId} (hg : w.heap[g]? = some (.cells cur t (0, 0))) (ht : t ≠ 90) : g ≠ d := fun e => by
  have := h.dm
  unfold Dm at this
  rw [← e, hg] at this
  simp at this
  exact ht this.2
theorem Dk.turn (h : Dk w d s Q gl pa pn pc go a m cp fs I) {c' k' : Nat} {on' : Bool} (hM : Dm w' d (.slice (some ⟨gl, 0, none⟩) (512 * s.n) (512 * s.n)) (.slice pa pn pc) (fnv go) c' on' k') (hg : w.grownBy w' (some d)) : Dk w' d { s with c := c', on := on', k := k' } Q gl pa pn pc go a m cp fs I := by
  have hne : ∀ {g : Nat} {cur : Array Value} {t : TypeId}, w.heap[g]? = some (.cells cur t (0, 0)) → t ≠ 90 → w'.heap[g]? = w.heap[g]? := fun h1 h2 => hg.block _ (Array.getElem?_eq_some_iff.1 h1).1 (fun e => h.nd h1 h2 (Option.some.inj e))
  refine ⟨hM, h.ls.at (hne h.ls.1 (by decide)), own_at' h.own (fun g e => ?_), h.hpn, fun x hx => (h.it x hx).at ?_, h.ip, h.ft.at (hne h.ft.bx (by decide)) (fun ad ha => ?_), h.qd, h.ql, h.qp, h.qo, h.qf, fun b hb => Nat.lt_of_lt_of_le (h.lt b hb) hg.size, h.n0⟩
  · obtain ⟨cur, hc⟩ := own_ty h.own e
    exact hne hc (by decide)
  · obtain ⟨cur, hc⟩ := (h.it x hx).ty
    exact hne hc (by decide)
  · obtain ⟨cur, hc⟩ := h.ft.rw ad ha
    exact hne hc (by decide)
/-- The writes that pend are gone. -/
theorem Dk.clr (h : Dk w d s Q gl pa pn pc go a m cp fs I) (hM : Dm w' d (.slice (some ⟨gl, 0, none⟩) (512 * s.n) (512 * s.n)) (.slice none 0 0) (fnv go) s.c s.on s.k) (hg : w.grownBy w' (some d)) : Dk w' d { s with P := [] } Q gl none 0 0 go a m cp fs [] := by
  have hne : ∀ {g : Nat} {cur : Array Value} {t : TypeId}, w.heap[g]? = some (.cells cur t (0, 0)) → t ≠ 90 → w'.heap[g]? = w.heap[g]? := fun h1 h2 => hg.block _ (Array.getElem?_eq_some_iff.1 h1).1 (fun e => h.nd h1 h2 (Option.some.inj e))
  refine ⟨hM, h.ls.at (hne h.ls.1 (by decide)), World.ownsRow_nil _ _ _ _, rfl, fun x hx => by simp at hx, rfl, h.ft.at (hne h.ft.bx (by decide)) (fun ad ha => ?_), h.qd, h.ql, fun g e => by simp [Value.ownBlock] at e, h.qo, h.qf, fun b hb => Nat.lt_of_lt_of_le (h.lt b hb) hg.size, h.n0⟩
  obtain ⟨cur, hc⟩ := h.ft.rw ad ha
  exact hne hc (by decide)
/-- Other faults are armed. -/
theorem Dk.arm (h : Dk w d s Q gl pa pn pc go a m cp fs I) {go' : Nat} {F' : Int → Int} {a' : Option Addr} {m' cp' : Nat} {fs' : List (Int × Int)} {Q' : Nat → Prop} (hM : Dm w' d (.slice (some ⟨gl, 0, none⟩) (512 * s.n) (512 * s.n)) (.slice pa pn pc) (fnv go') 0 s.on s.k) (hg : w.grownBy w' (some d)) (hf : Ft w' go' F' a' m' cp' fs')
    (hq : ∀ b, Q b → Q' b) (hl : ∀ b, Q' b → b < w'.heap.size) (qo : Q' go') (qf : ∀ ad, a' = some ad → Q' ad.block) : Dk w' d { s with F := F', c := 0 } Q' gl pa pn pc go' a' m' cp' fs' I := by
  have hne : ∀ {g : Nat} {cur : Array Value} {t : TypeId}, w.heap[g]? = some (.cells cur t (0, 0)) → t ≠ 90 → w'.heap[g]? = w.heap[g]? := fun h1 h2 => hg.block _ (Array.getElem?_eq_some_iff.1 h1).1 (fun e => h.nd h1 h2 (Option.some.inj e))
  refine ⟨hM, h.ls.at (hne h.ls.1 (by decide)), own_at' h.own (fun g e => ?_), h.hpn, fun x hx => ((h.it x hx).at ?_).weak hq, h.ip, hf, hq _ h.qd, hq _ h.ql, fun g e => hq _ (h.qp g e), qo, qf, hl, h.n0⟩
  · obtain ⟨cur, hc⟩ := own_ty h.own e
    exact hne hc (by decide)
  · obtain ⟨cur, hc⟩ := (h.it x hx).ty
    exact hne hc (by decide)
theorem Dk.op (h : Dk w d s Q gl pa pn pc go a m cp fs I) (hM : Dm w' d (.slice (some ⟨gl, 0, none⟩) (512 * s.n) (512 * s.n)) (.slice pa pn pc) (fnv go) (if s.on then (s.c : Int) + 1 else s.c) (s.on && decide (s.F ((s.c : Int) + 1) ≠ 1)) s.k) (hg : w.grownBy w' (some d)) : Dk w' d (opS s) Q gl pa pn pc go a m cp fs I := by
  unfold opS
  cases hon : s.on with
  | false =>
    rw [hon] at hM
    have := h.turn (c' := s.c) (k' := s.k) (on' := false) (by simpa using hM) hg
    rw [← hon] at this
    simpa using this
  | true =>
    rw [hon] at hM
    have := h.turn (c' := s.c + 1) (k' := s.k) (on' := decide (s.F ((s.c : Int) + 1) ≠ 1)) (by simpa using hM) hg
    simpa using this
end
theorem opE_eq (s : St) : (if s.on then (if s.F ((s.c : Int) + 1) = 1 then 104 else if s.F ((s.c : Int) + 1) = 2 then 103 else 0) else (104 : Int)) = opE s := by unfold opE; rfl
theorem opr_ (d : Nat) (s : St) (Q : Nat → Prop) (gl : Nat) (pa : Option Addr) (pn pc go : Nat) (a : Option Addr) (m cp : Nat) (fs : List (Int × Int)) (I : List It) (w : World) (h : Dk w d s Q gl pa pn pc go a m cp fs I) (hc : s.c ≤ 1000000) :
    Calls Try.prog 50 #[.pointer (some ⟨d, 0, none⟩)] w fun e w' => e = .returned (.int .i64 (opE s)) ∧ Dk w' d (opS s) Q gl pa pn pc go a m cp fs I ∧ w.grownBy w' (some d) := by
  refine (operate_ d _ _ go s.c s.on s.k s.F a m cp fs w h.dm h.ft hc).mono ?_
  rintro e w' ⟨rfl, h1, h2⟩
  exact ⟨by rw [← opE_eq], h.op h1 h2, h2⟩
end Go.Proofs.Ythjfgdldclhbhaa
