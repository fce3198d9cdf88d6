import Derived.Test.YthjfgdldclhbhaaMC
namespace Go.Proofs.Ythjfgdldclhbhaa
set_option maxRecDepth 100000
open Go.RowKit Go.Shelf
set_option linter.unusedVariables false

theorem layA_sec : ∀ (P : List (Nat × List Int)) (S : Nat → List Int), (∀ i, i < 32 → Sec (S i)) → (∀ q ∈ P, Sec q.2) → ∀ i, i < 32 → Sec (layA S P i) := by
  intro P
  induction P with
  | nil => intro S h1 _ i hi; exact h1 i hi
  | cons q P ih =>
    intro S h1 h2 i hi
    refine ih (lay1 S q) (fun j hj => ?_) (fun q' hq' => h2 q' (List.mem_cons_of_mem _ hq')) i hi
    unfold lay1
    split
    · exact h2 q List.mem_cons_self
    · exact h1 j hj
/-- A device and its model, in memory that was made since w0. -/
structure Sy (w0 w : World) (d : Nat) (s : St) (Q : Nat → Prop) (g : Nat) : Prop where
  dev : Dev w d s Q
  md : Md w g s.S s.P (fun b => w0.heap.size ≤ b ∧ ¬ Q b)
  lo : ∀ b, Q b → w0.heap.size ≤ b
  bel : Below w0.heap.size w0 w
  n : s.n = 32
section
variable {w0 w w' : World} {d g : Nat} {s s' : St} {Q : Nat → Prop}
theorem Sy.below (h : Sy w0 w d s Q g) (hb : Below w.heap.size w w') : Sy w0 w' d s Q g := by
  obtain ⟨cur, pa, pc, I, m⟩ := h.md
  exact ⟨h.dev.below hb, ⟨cur, pa, pc, I, m.below hb⟩, h.lo, bel_bel h.bel h.bel.size hb, h.n⟩
/-- The device has been asked, and has made memory of its own. -/
theorem Sy.step (h : Sy w0 w d s Q g) (hD : Dev w' d s' (fun b => Q b ∨ (w.heap.size ≤ b ∧ b < w'.heap.size))) (hF : Fr Q w w') (hS : s'.S = s.S) (hP : s'.P = s.P) (hn : s'.n = s.n) : Sy w0 w' d s' (fun b => Q b ∨ (w.heap.size ≤ b ∧ b < w'.heap.size)) g := by
  obtain ⟨cur, pa, pc, I, m⟩ := h.md
  have := h.bel.size
  refine ⟨hD, ⟨cur, pa, pc, I, ?_⟩, fun b hb => ?_, h.bel.trans (hF.under h.bel.size h.lo), hn.trans h.n⟩
  · rw [hS, hP]
    exact m.keep (fun b hb hl => hF.same b hl hb.2) (fun b hb hl => ⟨hb.1, fun hq => by
      rcases hq with hq | hq
      · exact hb.2 hq
      · omega⟩)
  · rcases hb with hb | hb
    · exact h.lo b hb
    · omega
theorem Sy.step0 (h : Sy w0 w d s Q g) (hD : Dev w' d s' Q) (hF : Fr Q w w') (hS : s'.S = s.S) (hP : s'.P = s.P) (hn : s'.n = s.n) : Sy w0 w' d s' Q g := by
  obtain ⟨cur, pa, pc, I, m⟩ := h.md
  refine ⟨hD, ⟨cur, pa, pc, I, ?_⟩, h.lo, h.bel.trans (hF.under h.bel.size h.lo), hn.trans h.n⟩
  rw [hS, hP]
  exact m.keep (fun b hb hl => hF.same b hl hb.2) (fun b hb _ => hb)
end
/-- How the device stands behind one call. -/
def folS (s : St) (K I : Int) (D : List Int) (fs : List (Int × Int)) (ks : List Bool) : St :=
  if K = 1 then rdS s (plc I) else if K = 2 ∨ K = 3 then wrS s (plc I) (pad D) else if K = 4 then flS s else if K = 5 then arS s fs else if K = 6 then crS s ks else if K = 11 then { s with k := s.k + 1 } else s
/-- The call's own lists, outside. -/
structure OpIn (w0 : World) (Da : Option Addr) (Dn Dc : Nat) (D : List Int) (Fa : Option Addr) (Fn Fc : Nat) (fs : List (Int × Int)) (Ka : Option Addr) (Kn Kc : Nat) (ks : List Bool) : Prop where
  d : Bs w0 Da Dn D
  dn : Dn ≤ 140737488355328
  f : Fs w0 Fa Fn fs
  fn : Fn * 16 ≤ 140737488355328
  k : Bl w0 Ka Kn ks
  kn : Kn ≤ 140737488355328
theorem Bl.below {w w' : World} {a : Option Addr} {n : Nat} {ks : List Bool} (h : Bl w a n ks) (hb : Below w.heap.size w w') : Bl w' a n ks := by
  refine ⟨h.1, ?_⟩
  rcases h.2 with h0 | ⟨b, off, rfl, hc⟩
  · exact .inl h0
  · exact .inr ⟨b, off, rfl, fun i hi => (hb.cell (p := ⟨b, off + i, none⟩) (World.block_lt_of_cell? w _ (hc i hi))).trans (hc i hi)⟩
theorem Bl.lt {w : World} {ad : Addr} {n : Nat} {ks : List Bool} (h : Bl w (some ad) n ks) (hn : 0 < n) : ad.block < w.heap.size := by
  rcases h.2 with h0 | ⟨b, off, e, hc⟩
  · omega
  · obtain rfl := Option.some.inj e
    exact World.block_lt_of_cell? w _ (hc 0 hn)
/-- An Op in a variable. -/
def Om (w : World) (o : Nat) (K I : Int) (sc : Bool) (dv fv kv : Value) : Prop := w.heap[o]? = some (.cells #[.int .i64 K, .int .i64 I, .bool sc, dv, fv, kv] 34 (0, 0))
section
variable {w w' : World} {o : Nat} {K I : Int} {sc : Bool} {dv fv kv : Value}
theorem Om.c0 (h : Om w o K I sc dv fv kv) : w.cell? ⟨o, 0, none⟩ = some (.int .i64 K) := (cell_of_row _ _ 0 _ _ (0, 0) h).trans rfl
theorem Om.c1 (h : Om w o K I sc dv fv kv) : w.cell? ⟨o, 1, none⟩ = some (.int .i64 I) := (cell_of_row _ _ 1 _ _ (0, 0) h).trans rfl
theorem Om.c3 (h : Om w o K I sc dv fv kv) : w.cell? ⟨o, 3, none⟩ = some dv := (cell_of_row _ _ 3 _ _ (0, 0) h).trans rfl
theorem Om.c4 (h : Om w o K I sc dv fv kv) : w.cell? ⟨o, 4, none⟩ = some fv := (cell_of_row _ _ 4 _ _ (0, 0) h).trans rfl
theorem Om.c5 (h : Om w o K I sc dv fv kv) : w.cell? ⟨o, 5, none⟩ = some kv := (cell_of_row _ _ 5 _ _ (0, 0) h).trans rfl
theorem Om.lt (h : Om w o K I sc dv fv kv) : o < w.heap.size := (Array.getElem?_eq_some_iff.1 h).1
theorem Om.at (h : Om w o K I sc dv fv kv) (e : w'.heap[o]? = w.heap[o]?) : Om w' o K I sc dv fv kv := e.trans h
theorem Om.below (h : Om w o K I sc dv fv kv) (hb : Below w.heap.size w w') : Om w' o K I sc dv fv kv := h.at (hb.block o h.lt)
end
theorem keepL_take : ∀ (P : List (Nat × List Int)) (ks : List Bool), keepL (P.take ks.length) ks = keepL P ks
  | P, [] => by simp [keepL_nil]
  | [], k :: ks => by simp
  | p :: P, true :: ks => by simp [keepL, keepL_take P ks]
  | p :: P, false :: ks => by simp [keepL, keepL_take P ks]
theorem Dev.turned {w w' : World} {d g : Nat} {s : St} {Q : Nat → Prop} (h : Dev w d s Q) (hg : w.grownBy w' (some g)) (hq : ¬ Q g) : Dev w' d s Q :=
  h.fr (R := fun b => b = g) (.of hg rfl) (fun b hb e => hq (by rw [← e]; exact hb))
theorem bel_turned {w0 w w' : World} {g : Nat} (h : Below w0.heap.size w0 w) (hg : w.grownBy w' (some g)) (hl : w0.heap.size ≤ g) : Below w0.heap.size w0 w' :=
  h.trans ((Fr.of (Q := fun b => b = g) hg rfl).under h.size (fun b hb => by rw [hb]; exact hl))
/-- One write more pends in the model. -/
theorem mk_end {w0 w1 w2 w3 : World} {d g : Nat} {s : St} {Q : Nat → Prop} {S : Nat → List Int} {P : List (Nat × List Int)} {cur : Array Value} {pa : Option Addr} {pc : Nat} {I : List It} {i gz cz g3 cap3 : Nat} {zs : List Int}
    (h1 : Mk w1 g S P (fun b => w0.heap.size ≤ b ∧ ¬ Q b) cur pa pc I) (D1 : Dev w1 d s Q) (B1 : Below w0.heap.size w0 w1) (g2 : Below w1.heap.size w1 w2) (o2 : w2.ownsRow w1.heap.size 5 1 (.slice (some ⟨gz, 0, none⟩) 512 cz) 512 (cells zs)) (hz : ∀ z ∈ zs, 0 ≤ z ∧ z ≤ 255) (hi : i < 32)
    (G3 : (w2.alloc (.cells #[.int .i64 i, .slice (some ⟨gz, 0, none⟩) 512 cz] 94)).grownBy w3 (Value.slice pa I.length pc).ownBlock) (o3 : w3.ownsRow 0 94 2 (.slice (some ⟨g3, 0, none⟩) (I.length + 1) cap3) (I ++ [(⟨i, gz, cz, zs⟩ : It)]).length (pcs (I ++ [(⟨i, gz, cz, zs⟩ : It)])))
    (L3 : (Value.slice pa I.length pc).ownBlock = some g3 ∨ g3 = (w2.alloc (.cells #[.int .i64 i, .slice (some ⟨gz, 0, none⟩) 512 cz] 94)).heap.size) (T3 : g3 < w3.heap.size) :
    (Md (w3.setCell ⟨g, 32, none⟩ (.slice (some ⟨g3, 0, none⟩) (I.length + 1) cap3)) g S (P ++ [(i, zs)]) (fun b => w0.heap.size ≤ b ∧ ¬ Q b) ∧ Dev (w3.setCell ⟨g, 32, none⟩ (.slice (some ⟨g3, 0, none⟩) (I.length + 1) cap3)) d s Q) ∧ Below w0.heap.size w0 (w3.setCell ⟨g, 32, none⟩ (.slice (some ⟨g3, 0, none⟩) (I.length + 1) cap3)) := by
  have BA : Below w2.heap.size w2 (w2.alloc (.cells #[.int .i64 i, .slice (some ⟨gz, 0, none⟩) 512 cz] 94)) := (Below.refl _ _).alloc (Nat.le_refl _) _
  have K2 := (h1.below g2).below BA
  have D2 := (D1.below g2).below BA
  have B2 := bel_bel (bel_bel B1 B1.size g2) (Nat.le_trans B1.size g2.size) BA
  obtain ⟨a', c', e', zb, zc1, zc2, _⟩ := own_form o2 hz
  obtain ⟨rfl, -, rfl⟩ : some (⟨gz, 0, none⟩ : Addr) = a' ∧ 512 = 512 ∧ cz = c' := by simpa using e'
  obtain ⟨curz, hgz⟩ := own_ty o2 (g := gz) rfl
  have hgz1 : w1.heap.size ≤ gz := (o2.lt gz rfl).1
  replace zb := zb.below BA
  have hgz2 := (BA.block gz (Array.getElem?_eq_some_iff.1 hgz).1).trans hgz
  have hlt1 := D1.lt
  have sw := B1.size
  have s12 := g2.size
  have sA : (w2.alloc (.cells #[.int .i64 i, .slice (some ⟨gz, 0, none⟩) 512 cz] 94)).heap.size = w2.heap.size + 1 := World.size_alloc _ _
  generalize w2.alloc (.cells #[.int .i64 i, .slice (some ⟨gz, 0, none⟩) 512 cz] 94) = W at *
  have ne94 : ∀ {b : Nat} {c : Array Value} {t : TypeId}, W.heap[b]? = some (.cells c t (0, 0)) → t ≠ 94 → w3.heap[b]? = W.heap[b]? := fun hb ht => G3.block _ (Array.getElem?_eq_some_iff.1 hb).1 (fun e => by
    obtain ⟨c, hc⟩ := own_ty K2.own e.symm
    rw [hb] at hc
    simp at hc
    exact ht hc.2)
  have K3b := (ne94 K2.blk (by decide)).trans K2.blk
  have both : ∀ {b : Nat} {c : Array Value} {t : TypeId}, W.heap[b]? = some (.cells c t (0, 0)) → t ≠ 94 → t ≠ 63 → (w3.setCell ⟨g, 32, none⟩ (.slice (some ⟨g3, 0, none⟩) (I.length + 1) cap3)).heap[b]? = W.heap[b]? := fun hb h1 h2 => (Below.heap_setCell _ _ _ _ (fun e => K2.ne hb h2 e)).trans (ne94 hb h1)
  have hg3g : g3 ≠ g := fun e => by
    obtain ⟨c, hc⟩ := own_ty o3 (g := g3) rfl
    rw [e, K3b] at hc
    simp at hc
  have FR : Fr (fun b => (Value.slice pa I.length pc).ownBlock = some b ∨ b = g) W (w3.setCell ⟨g, 32, none⟩ (.slice (some ⟨g3, 0, none⟩) (I.length + 1) cap3)) := (Fr.ofN G3 (fun q e => .inl e)).trans (.of (grown_set (grown_refl w3 (some g)) 32 _) (.inr rfl))
  refine ⟨⟨⟨cur.setIfInBounds 32 (.slice (some ⟨g3, 0, none⟩) (I.length + 1) cap3), some ⟨g3, 0, none⟩, cap3, I ++ [⟨i, gz, cz, zs⟩], ?_⟩, ?_⟩, ?_⟩
  · refine ⟨by simp [World.setCell, Array.getElem?_modify, K3b], by simpa using K2.sz, fun j hj => ?_, by rw [Array.getElem?_setIfInBounds_self_of_lt (by rw [K2.sz]; omega)]; simp, ?_, fun x hx => ?_, ?_, K2.ng, fun q hq => ?_⟩
    · obtain ⟨v, q1, q2⟩ := K2.lasts j hj
      refine ⟨v, by rw [Array.getElem?_setIfInBounds_ne (by omega)]; exact q1, ?_⟩
      rcases q2 with hv | ⟨q, c, r1, r2, ⟨cu, r3⟩, r4⟩
      · exact .inl hv
      · have := both r3 (by decide) (by decide)
        exact .inr ⟨q, c, r1, r2.at this, ⟨cu, this.trans r3⟩, r4⟩
    · have := own_at' o3 (w' := w3.setCell ⟨g, 32, none⟩ (.slice (some ⟨g3, 0, none⟩) (I.length + 1) cap3)) (fun q e => Below.heap_setCell _ _ _ _ (fun e2 => hg3g (by
        have : g3 = q := by simpa [Value.ownBlock] using e
        rw [this]
        exact e2)))
      simpa using this
    · rcases List.mem_append.1 hx with hx | hx
      · obtain ⟨r0, r1, ⟨c, r2⟩, r3⟩ := K2.it x hx
        have := both r2 (by decide) (by decide)
        exact ⟨r0, r1.at this, ⟨c, this.trans r2⟩, r3⟩
      · obtain rfl : x = ⟨i, gz, cz, zs⟩ := by simpa using hx
        have := both hgz2 (by decide) (by decide)
        refine ⟨hi, zb.at this, ⟨curz, this.trans hgz2⟩, ⟨by show w0.heap.size ≤ gz; omega, fun hq => ?_⟩, zc1, zc2⟩
        have := hlt1 _ hq
        simp only at this
        omega
    · rw [K2.ip, List.map_append]
      rfl
    · have hq' : g3 = q := by simpa [Value.ownBlock] using hq
      subst hq'
      rcases L3 with L3 | L3
      · exact K2.np _ L3
      · refine ⟨by omega, fun hq => ?_⟩
        have := hlt1 _ hq
        omega
  · refine D2.fr FR (fun b hb e => ?_)
    rcases e with e | e
    · exact (K2.np b e).2 hb
    · rw [e] at hb
      exact K2.ng.2 hb
  · refine B2.trans (FR.under (by omega) (fun b hb => ?_))
    rcases hb with e | e
    · exact (K2.np b e).1
    · rw [e]
      exact K2.ng.1
theorem Mk.past {W w3 : World} {g : Nat} {S : Nat → List Int} {P : List (Nat × List Int)} {N : Nat → Prop} {cur : Array Value} {pa : Option Addr} {pc : Nat} {I : List It} (K : Mk W g S P N cur pa pc I) (G : W.grownBy w3 (Value.slice pa I.length pc).ownBlock) : w3.cell? ⟨g, 32, Option.none⟩ = some (.slice pa I.length pc) ∧ w3.frozen? ⟨g, 32, Option.none⟩ = false := by
  have hb : w3.heap[g]? = some (.cells cur 63 (0, 0)) := (G.block g K.lt (fun e => by
    obtain ⟨c, hc⟩ := own_ty K.own e.symm
    rw [K.blk] at hc
    simp at hc)).trans K.blk
  exact ⟨(cell_of_row _ _ 32 _ _ (0, 0) hb).trans K.pends, by simp [World.frozen?, hb]⟩
set_option maxHeartbeats 4000000 in
theorem folX_ (w0 w : World) (d g : Nat) (s : St) (Q : Nat → Prop) (K : Int) (I : Int) (sc : Bool) (Da : Option Addr) (Dn Dc : Nat) (D : List Int) (Fa : Option Addr) (Fn Fc : Nat) (fs : List (Int × Int)) (Ka : Option Addr) (Kn Kc : Nat) (ks : List Bool)
    (h : Sy w0 w d s Q g) (ho : OpIn w0 Da Dn Dc D Fa Fn Fc fs Ka Kn Kc ks) (hI : -9223372036854775808 ≤ I ∧ I ≤ 9223372036854775807) (hc : s.c ≤ 100000) (hp : s.P.length ≤ 100000) (hk : s.k ≤ 100000) (k1 : (K == 1) = false) (k2 : (K == 2) = false) (k3 : (K == 3) = false) (k4 : (K == 4) = false) (k5 : (K == 5) = false) (k6 : (K == 6) = false) (k11 : (K == 11) = false) :
    Calls Try.prog 25 #[.pointer (some ⟨g, 0, none⟩), .pointer (some ⟨d, 0, none⟩), .agg #[.int .i64 K, .int .i64 I, .bool sc, .slice Da Dn Dc, .slice Fa Fn Fc, .slice Ka Kn Kc]] w fun e w' => e = .returned (.bool true) ∧ ∃ Q', Sy w0 w' d (s) Q' g := by
  have BA : Below w.heap.size w (w.alloc (.cells #[.int .i64 K, .int .i64 I, .bool sc, .slice Da Dn Dc, .slice Fa Fn Fc, .slice Ka Kn Kc] 34)) := (Below.refl _ _).alloc (Nat.le_refl _) _
  have om : Om (w.alloc (.cells #[.int .i64 K, .int .i64 I, .bool sc, .slice Da Dn Dc, .slice Fa Fn Fc, .slice Ka Kn Kc] 34)) w.heap.size K I sc (.slice Da Dn Dc) (.slice Fa Fn Fc) (.slice Ka Kn Kc) := heap_alloc_new w _
  have h1 := h.below BA
  have nqo : ¬ Q w.heap.size := fun hq => by have := h.dev.lt _ hq; omega
  have kp := fun w => place_ I w hI
  have HOP := hid ho
  have hpl := plc_lt I
  have hs0 : w0.heap.size ≤ w.heap.size := h.bel.size
  have HS := hid h1
  have b0 := om.c0
  have b1 := om.c1
  have HOM := hid om
  have HBA := hid BA
  obtain ⟨p, HPP⟩ : ∃ p, Hid (plc I = p) := ⟨_, rfl⟩
  rw [HPP.out] at hpl
  simp only [HPP.out] at kp
  clear h h1 om BA ho
  go_enter Try.func25, Try.ntmps25
  go_wp2_with fail
  refine (kp _).mono ?_
  rintro e w' ⟨rfl, hw⟩
  obtain rfl := hw.symm
  clear hw kp
  go_wp2_with fail
  go_ret
  exact ⟨rfl, Q, HS.out⟩
set_option maxHeartbeats 4000000 in
theorem fol11_ (w0 w : World) (d g : Nat) (s : St) (Q : Nat → Prop) (I : Int) (sc : Bool) (Da : Option Addr) (Dn Dc : Nat) (D : List Int) (Fa : Option Addr) (Fn Fc : Nat) (fs : List (Int × Int)) (Ka : Option Addr) (Kn Kc : Nat) (ks : List Bool)
    (h : Sy w0 w d s Q g) (ho : OpIn w0 Da Dn Dc D Fa Fn Fc fs Ka Kn Kc ks) (hI : -9223372036854775808 ≤ I ∧ I ≤ 9223372036854775807) (hc : s.c ≤ 100000) (hp : s.P.length ≤ 100000) (hk : s.k ≤ 100000) :
    Calls Try.prog 25 #[.pointer (some ⟨g, 0, none⟩), .pointer (some ⟨d, 0, none⟩), .agg #[.int .i64 11, .int .i64 I, .bool sc, .slice Da Dn Dc, .slice Fa Fn Fc, .slice Ka Kn Kc]] w fun e w' => e = .returned (.bool true) ∧ ∃ Q', Sy w0 w' d ({ s with k := s.k + 1 }) Q' g := by
  have BA : Below w.heap.size w (w.alloc (.cells #[.int .i64 11, .int .i64 I, .bool sc, .slice Da Dn Dc, .slice Fa Fn Fc, .slice Ka Kn Kc] 34)) := (Below.refl _ _).alloc (Nat.le_refl _) _
  have om : Om (w.alloc (.cells #[.int .i64 11, .int .i64 I, .bool sc, .slice Da Dn Dc, .slice Fa Fn Fc, .slice Ka Kn Kc] 34)) w.heap.size 11 I sc (.slice Da Dn Dc) (.slice Fa Fn Fc) (.slice Ka Kn Kc) := heap_alloc_new w _
  have h1 := h.below BA
  have nqo : ¬ Q w.heap.size := fun hq => by have := h.dev.lt _ hq; omega
  have kp := fun w => place_ I w hI
  have HOP := hid ho
  have hpl := plc_lt I
  have hs0 : w0.heap.size ≤ w.heap.size := h.bel.size
  have HS := hid h1
  have b0 := om.c0
  have b1 := om.c1
  have HOM := hid om
  have HBA := hid BA
  obtain ⟨p, HPP⟩ : ∃ p, Hid (plc I = p) := ⟨_, rfl⟩
  rw [HPP.out] at hpl
  simp only [HPP.out] at kp
  clear h h1 om BA ho
  have kc := claimD HS.out.dev (by omega)
  go_enter Try.func25, Try.ntmps25
  go_wp2_with fail
  refine (kp _).mono ?_
  rintro e w' ⟨rfl, hw⟩
  obtain rfl := hw.symm
  clear hw kp
  go_wp2_with fail
  refine kc.mono ?_
  rintro e w2 ⟨rfl, D2, F2⟩
  have S2 := hid (HS.out.step0 D2 F2 rfl rfl rfl)
  clear kc D2 F2
  go_wp2_with fail
  go_ret
  exact ⟨rfl, Q, S2.out⟩
set_option maxHeartbeats 4000000 in
theorem fol5_ (w0 w : World) (d g : Nat) (s : St) (Q : Nat → Prop) (I : Int) (sc : Bool) (Da : Option Addr) (Dn Dc : Nat) (D : List Int) (Fa : Option Addr) (Fn Fc : Nat) (fs : List (Int × Int)) (Ka : Option Addr) (Kn Kc : Nat) (ks : List Bool)
    (h : Sy w0 w d s Q g) (ho : OpIn w0 Da Dn Dc D Fa Fn Fc fs Ka Kn Kc ks) (hI : -9223372036854775808 ≤ I ∧ I ≤ 9223372036854775807) (hc : s.c ≤ 100000) (hp : s.P.length ≤ 100000) (hk : s.k ≤ 100000) :
    Calls Try.prog 25 #[.pointer (some ⟨g, 0, none⟩), .pointer (some ⟨d, 0, none⟩), .agg #[.int .i64 5, .int .i64 I, .bool sc, .slice Da Dn Dc, .slice Fa Fn Fc, .slice Ka Kn Kc]] w fun e w' => e = .returned (.bool true) ∧ ∃ Q', Sy w0 w' d (arS s fs) Q' g := by
  have BA : Below w.heap.size w (w.alloc (.cells #[.int .i64 5, .int .i64 I, .bool sc, .slice Da Dn Dc, .slice Fa Fn Fc, .slice Ka Kn Kc] 34)) := (Below.refl _ _).alloc (Nat.le_refl _) _
  have om : Om (w.alloc (.cells #[.int .i64 5, .int .i64 I, .bool sc, .slice Da Dn Dc, .slice Fa Fn Fc, .slice Ka Kn Kc] 34)) w.heap.size 5 I sc (.slice Da Dn Dc) (.slice Fa Fn Fc) (.slice Ka Kn Kc) := heap_alloc_new w _
  have h1 := h.below BA
  have nqo : ¬ Q w.heap.size := fun hq => by have := h.dev.lt _ hq; omega
  have kp := fun w => place_ I w hI
  have HOP := hid ho
  have hpl := plc_lt I
  have hs0 : w0.heap.size ≤ w.heap.size := h.bel.size
  have HS := hid h1
  have b0 := om.c0
  have b1 := om.c1
  have HOM := hid om
  have HBA := hid BA
  obtain ⟨p, HPP⟩ : ∃ p, Hid (plc I = p) := ⟨_, rfl⟩
  rw [HPP.out] at hpl
  simp only [HPP.out] at kp
  clear h h1 om BA ho
  have b4 := HOM.out.c4
  have ka := arm_ d s Q Fa Fn Fc fs _ HS.out.dev ((HOP.out.f.below HS.out.bel)) HOP.out.fn
  go_enter Try.func25, Try.ntmps25
  go_wp2_with fail
  refine (kp _).mono ?_
  rintro e w' ⟨rfl, hw⟩
  obtain rfl := hw.symm
  clear hw kp
  go_wp2_with fail
  refine ka.mono ?_
  rintro e w2 ⟨rfl, D2, F2⟩
  have S2 := hid (HS.out.step D2 F2 (by unfold arS; split <;> rfl) (by unfold arS; split <;> rfl) (by unfold arS; split <;> rfl))
  clear ka D2 F2
  go_wp2_with fail
  go_ret
  exact ⟨rfl, _, S2.out⟩
set_option maxHeartbeats 4000000 in
theorem fol1_ (w0 w : World) (d g : Nat) (s : St) (Q : Nat → Prop) (I : Int) (sc : Bool) (Da : Option Addr) (Dn Dc : Nat) (D : List Int) (Fa : Option Addr) (Fn Fc : Nat) (fs : List (Int × Int)) (Ka : Option Addr) (Kn Kc : Nat) (ks : List Bool)
    (h : Sy w0 w d s Q g) (ho : OpIn w0 Da Dn Dc D Fa Fn Fc fs Ka Kn Kc ks) (hI : -9223372036854775808 ≤ I ∧ I ≤ 9223372036854775807) (hc : s.c ≤ 100000) (hp : s.P.length ≤ 100000) (hk : s.k ≤ 100000) :
    Calls Try.prog 25 #[.pointer (some ⟨g, 0, none⟩), .pointer (some ⟨d, 0, none⟩), .agg #[.int .i64 1, .int .i64 I, .bool sc, .slice Da Dn Dc, .slice Fa Fn Fc, .slice Ka Kn Kc]] w fun e w' => e = .returned (.bool true) ∧ ∃ Q', Sy w0 w' d (rdS s (plc I)) Q' g := by
  have BA : Below w.heap.size w (w.alloc (.cells #[.int .i64 1, .int .i64 I, .bool sc, .slice Da Dn Dc, .slice Fa Fn Fc, .slice Ka Kn Kc] 34)) := (Below.refl _ _).alloc (Nat.le_refl _) _
  have om : Om (w.alloc (.cells #[.int .i64 1, .int .i64 I, .bool sc, .slice Da Dn Dc, .slice Fa Fn Fc, .slice Ka Kn Kc] 34)) w.heap.size 1 I sc (.slice Da Dn Dc) (.slice Fa Fn Fc) (.slice Ka Kn Kc) := heap_alloc_new w _
  have h1 := h.below BA
  have nqo : ¬ Q w.heap.size := fun hq => by have := h.dev.lt _ hq; omega
  have kp := fun w => place_ I w hI
  have HOP := hid ho
  have hpl := plc_lt I
  have hs0 : w0.heap.size ≤ w.heap.size := h.bel.size
  have HS := hid h1
  have b0 := om.c0
  have b1 := om.c1
  have HOM := hid om
  have HBA := hid BA
  obtain ⟨p, HPP⟩ : ∃ p, Hid (plc I = p) := ⟨_, rfl⟩
  rw [HPP.out] at hpl
  simp only [HPP.out] at kp
  clear h h1 om BA ho
  rw [HPP.out]
  have hn := HS.out.n
  have kr := read_ d (p : Int) s Q _ HS.out.dev (by omega) (by omega)
  have hin : 0 ≤ (p : Int) ∧ (p : Int) < (s.n : Int) := by omega
  obtain ⟨E, HE⟩ : ∃ E, Hid (rdE s (p : Int) = E) := ⟨_, rfl⟩
  obtain ⟨Z, HZ⟩ : ∃ Z, Hid (rdB s (p : Int) = Z) := ⟨_, rfl⟩
  obtain ⟨S', HS'⟩ : ∃ S', Hid (rdS s (p : Int) = S') := ⟨_, rfl⟩
  have HSS : Hid (S'.S = s.S ∧ S'.P = s.P ∧ S'.n = s.n) := by
    show _ ∧ _
    rw [← HS'.out]
    unfold rdS
    rw [if_pos hin]
    exact ⟨opS_S s, opS_P s, opS_n s⟩
  rw [HE.out, HZ.out, HS'.out] at kr
  rw [HS'.out]
  have HSEC : Hid (Sec (layA s.S s.P p)) := layA_sec s.P s.S (fun i hi => HS.out.dev.sec i (by omega)) (fun q hq => (HS.out.dev.pen q hq).2) p hpl
  have HZC : Hid ((E = 0 ∧ Z = layA s.S s.P p) ∨ (E ≠ 0 ∧ Z = [])) := by
    show _ ∨ _
    rw [← HZ.out]
    unfold rdB
    rw [HE.out]
    by_cases hE : E = 0
    · rw [if_pos hE, Int.toNat_natCast]
      exact .inl ⟨hE, rfl⟩
    · rw [if_neg hE]
      exact .inr ⟨hE, rfl⟩
  have HZS : Hid (∀ z ∈ Z, 0 ≤ z ∧ z ≤ 255) := by
    rcases HZC.out with ⟨_, h⟩ | ⟨_, h⟩
    · rw [h]; exact HSEC.out.2
    · rw [h]; intro z hz; simp at hz
  have hZL : Z.length ≤ 512 := by
    rcases HZC.out with ⟨_, h⟩ | ⟨_, h⟩
    · rw [h, HSEC.out.1]; exact Nat.le_refl _
    · rw [h]; simp
  go_enter Try.func25, Try.ntmps25
  go_wp2_with fail
  refine (kp _).mono ?_
  rintro e w' ⟨rfl, hw⟩
  obtain rfl := hw.symm
  clear hw kp
  go_wp2_with fail
  refine kr.mono ?_
  rintro e w2 ⟨v2, rfl, o2, D2, F2⟩
  obtain ⟨a2, c2, rfl, R2, _, _⟩ := Ro.new (Q := Q) o2 HZS.out HS.out.dev.lt
  have S2 := HS.out.step0 D2 F2 HSS.out.1 HSS.out.2.1 HSS.out.2.2
  obtain ⟨cur, pa, pc, Il, M2⟩ := S2.md
  have hIl : Il.length ≤ 1000000 := by have := M2.ip; have := congrArg List.length this; rw [List.length_map, HSS.out.2.1] at this; omega
  have km := mlatest_ g p _ _ _ cur pa pc Il w2 M2 hpl hIl
  rw [HSS.out.1, HSS.out.2.1] at km
  have HS2 := hid S2
  clear kr D2 F2 o2 M2 S2
  go_wp2_with fail
  refine km.mono ?_
  rintro e w3 ⟨a3, c3, rfl, b3, g3⟩
  have S3 := HS2.out.below g3
  have R3 := R2.below g3
  have ks_ := same_d a2 a3 Z.length c2 512 c3 Z (layA s.S s.P p) w3 R3.bs b3 (by unfold maxLen; omega) (by unfold maxLen; omega)
  obtain ⟨T, HT⟩ : ∃ T, Hid (sameB Z (layA s.S s.P p) = T) := ⟨_, rfl⟩
  rw [HT.out] at ks_
  have HS3 := hid S3
  clear km b3 g3 R2 R3 S3
  go_wp2_with fail
  refine ks_.mono ?_
  rintro e w4 ⟨rfl, g4⟩
  have S4 := hid (HS3.out.below g4.below)
  clear ks_ g4
  rcases HZC.out with ⟨rfl, hZ⟩ | ⟨hE, _⟩
  · have HTT : Hid (T = true) := by show _ = _; rw [← HT.out, hZ]; exact sameB_self _
    obtain rfl : true = T := HTT.out.symm
    clear hZ
    go_wp2_with (go_at_call 19; refine (num_ _ _).mono ?_; rintro e w' ⟨rfl, hw⟩; obtain rfl := hw.symm; clear hw)
    go_ret
    exact ⟨rfl, Q, S4.out⟩
  · have e1 : (E != 0) = true := by rw [bne_iff_ne]; exact hE
    clear hE
    go_wp2_with (go_at_call 19; refine (num_ _ _).mono ?_; rintro e w' ⟨rfl, hw⟩; obtain rfl := hw.symm; clear hw)
    go_ret
    exact ⟨rfl, Q, S4.out⟩
set_option maxHeartbeats 4000000 in
theorem fol4_ (w0 w : World) (d g : Nat) (s : St) (Q : Nat → Prop) (I : Int) (sc : Bool) (Da : Option Addr) (Dn Dc : Nat) (D : List Int) (Fa : Option Addr) (Fn Fc : Nat) (fs : List (Int × Int)) (Ka : Option Addr) (Kn Kc : Nat) (ks : List Bool)
    (h : Sy w0 w d s Q g) (ho : OpIn w0 Da Dn Dc D Fa Fn Fc fs Ka Kn Kc ks) (hI : -9223372036854775808 ≤ I ∧ I ≤ 9223372036854775807) (hc : s.c ≤ 100000) (hp : s.P.length ≤ 100000) (hk : s.k ≤ 100000) :
    Calls Try.prog 25 #[.pointer (some ⟨g, 0, none⟩), .pointer (some ⟨d, 0, none⟩), .agg #[.int .i64 4, .int .i64 I, .bool sc, .slice Da Dn Dc, .slice Fa Fn Fc, .slice Ka Kn Kc]] w fun e w' => e = .returned (.bool true) ∧ ∃ Q', Sy w0 w' d (flS s) Q' g := by
  have BA : Below w.heap.size w (w.alloc (.cells #[.int .i64 4, .int .i64 I, .bool sc, .slice Da Dn Dc, .slice Fa Fn Fc, .slice Ka Kn Kc] 34)) := (Below.refl _ _).alloc (Nat.le_refl _) _
  have om : Om (w.alloc (.cells #[.int .i64 4, .int .i64 I, .bool sc, .slice Da Dn Dc, .slice Fa Fn Fc, .slice Ka Kn Kc] 34)) w.heap.size 4 I sc (.slice Da Dn Dc) (.slice Fa Fn Fc) (.slice Ka Kn Kc) := heap_alloc_new w _
  have h1 := h.below BA
  have nqo : ¬ Q w.heap.size := fun hq => by have := h.dev.lt _ hq; omega
  have kp := fun w => place_ I w hI
  have HOP := hid ho
  have hpl := plc_lt I
  have hs0 : w0.heap.size ≤ w.heap.size := h.bel.size
  have HS := hid h1
  have b0 := om.c0
  have b1 := om.c1
  have HOM := hid om
  have HBA := hid BA
  obtain ⟨p, HPP⟩ : ∃ p, Hid (plc I = p) := ⟨_, rfl⟩
  rw [HPP.out] at hpl
  simp only [HPP.out] at kp
  clear h h1 om BA ho
  have hn := HS.out.n
  have kf := flush_ d s Q _ HS.out.dev (by omega) (by omega)
  obtain ⟨E, HE⟩ : ∃ E, Hid (opE s = E) := ⟨_, rfl⟩
  rw [HE.out] at kf
  by_cases hE : E = 0
  case neg =>
    have e1 : (E == 0) = false := by simpa using hE
    have HF : Hid (flS s = opS s) := by show _ = _; unfold flS; rw [HE.out, if_neg hE]
    rw [HF.out] at kf ⊢
    clear hE
    go_enter Try.func25, Try.ntmps25
    go_wp2_with fail
    refine (kp _).mono ?_
    rintro e w' ⟨rfl, hw⟩
    obtain rfl := hw.symm
    clear hw kp
    go_wp2_with fail
    refine kf.mono ?_
    rintro e w2 ⟨rfl, D2, F2⟩
    have S2 := hid (HS.out.step0 D2 F2 (opS_S s) (opS_P s) (opS_n s))
    clear kf D2 F2
    go_wp2_with (go_at_call 19; refine (num_ _ _).mono ?_; rintro e w' ⟨rfl, hw⟩; obtain rfl := hw.symm; clear hw)
    go_ret
    exact ⟨rfl, Q, S2.out⟩
  case pos =>
    subst hE
    have HF : Hid (flS s = { opS s with S := layA s.S s.P, P := [] }) := by show _ = _; unfold flS; rw [HE.out, if_pos rfl]
    go_enter Try.func25, Try.ntmps25
    go_wp2_with fail
    refine (kp _).mono ?_
    rintro e w' ⟨rfl, hw⟩
    obtain rfl := hw.symm
    clear hw kp
    go_wp2_with fail
    refine kf.mono ?_
    rintro e w2 ⟨rfl, D2, F2⟩
    obtain ⟨cur0, pa, pc, Il, M0⟩ := HS.out.md
    have M2 := hid (M0.keep (w' := w2) (R := fun b => w0.heap.size ≤ b ∧ ¬ Q b) (fun b hb hl => F2.same b hl hb.2) (fun b hb _ => hb))
    have B2 := hid (HS.out.bel.trans (F2.under HS.out.bel.size HS.out.lo))
    have HD2 := hid D2
    have hIl : Il.length ≤ 100000 := by have := congrArg List.length M0.ip; rw [List.length_map] at this; omega
    clear kf D2 F2 M0
    go_wp2_with (go_at_call 19; refine (num_ _ _).mono ?_; rintro e w' ⟨rfl, hw⟩; obtain rfl := hw.symm; clear hw)
    go_loopw [14] (fun i wr => ∃ (j : Nat) (cur : Array Value), j ≤ Il.length ∧ i = .int .i64 j ∧ Mk wr g (layA s.S (s.P.take j)) s.P (fun b => w0.heap.size ≤ b ∧ ¬ Q b) cur pa pc Il ∧ Dev wr d (flS s) Q ∧ Below w0.heap.size w0 wr) (fun i _ => Il.length - (intOf i).toNat)
    case atStart => exact ⟨0, cur0, Nat.zero_le _, rfl, by rw [List.take_zero, layA_nil]; exact M2.out, HD2.out, B2.out⟩
    case round =>
      clear M2 B2 HD2
      obtain ⟨j, cur, hj, rfl, hm, hd, hbl⟩ := hrel
      have c32 := hm.c32
      by_cases hlt : j < Il.length
      · have hjI : (j : Int) < (Il.length : Int) := by omega
        obtain ⟨x, HX⟩ : ∃ x, Hid (Il[j]? = some x) := ⟨Il[j], by show _ = _; simp [hlt]⟩
        obtain ⟨gp, rfl, hpp, hpm, c0, c1⟩ := hm.cellI HX.out
        have HSS : Hid (layA s.S (s.P.take (j + 1)) = lay1 (layA s.S (s.P.take j)) (x.S, x.Z)) := by
          show _ = _
          rw [← layA_snoc]
          congr 1
          have hq : s.P[j]? = some (x.S, x.Z) := by rw [hm.ip, List.getElem?_map, HX.out]; rfl
          rw [List.take_add_one, hq]
          rfl
        have kl := mlay_ g _ _ _ cur _ pc Il x wr hm (List.mem_of_getElem? HX.out)
        have HD := hid hd
        have HB := hid hbl
        have HNG := hid hm.ng
        clear hm hd hbl hlt
        obtain ⟨xS, xg, xc, xZ⟩ := x
        simp only at *
        go_wp2_with fail
        refine kl.mono ?_
        rintro e w3 ⟨rfl, ⟨cur3, M3⟩, G3⟩
        have D3 := hid (HD.out.turned G3 HNG.out.2)
        have B3 := hid (bel_turned HB.out G3 HNG.out.1)
        have HM3 := hid M3
        clear kl M3 G3 HD HB c0 c1 c32
        go_wp2_with fail
        go_roundw
        case rel => exact ⟨j + 1, cur3, by omega, by go_num, by rw [HSS.out]; exact HM3.out, D3.out, B3.out⟩
        case measure => simp [intOf]; omega
      · have hjI : ¬ (j : Int) < (Il.length : Int) := by omega
        obtain rfl : j = Il.length := by omega
        have f32 := hm.fz 32
        have HL : Hid (s.P.take Il.length = s.P) := by
          show _ = _
          exact List.take_of_length_le (by rw [hm.ip, List.length_map]; exact Nat.le_refl _)
        have MN := hm.clr
        rw [HL.out] at MN
        have G3 := grown_set (grown_refl wr (some g)) 32 (.slice none 0 0)
        have DN := hd.turned G3 hm.ng.2
        have BN := bel_turned hbl G3 hm.ng.1
        have SF : Hid (Sy w0 (wr.setCell ⟨g, 32, none⟩ (.slice none 0 0)) d (flS s) Q g) := by
          refine ⟨DN, ?_, HS.out.lo, BN, ?_⟩
          · rw [HF.out]
            exact ⟨_, _, _, _, MN⟩
          · rw [HF.out]
            exact (opS_n s).trans hn
        clear hm hd hbl hlt MN G3 DN BN
        go_wp2_with fail
        go_ret
        exact ⟨rfl, Q, SF.out⟩
set_option maxHeartbeats 4000000 in
theorem fol6_ (w0 w : World) (d g : Nat) (s : St) (Q : Nat → Prop) (I : Int) (sc : Bool) (Da : Option Addr) (Dn Dc : Nat) (D : List Int) (Fa : Option Addr) (Fn Fc : Nat) (fs : List (Int × Int)) (Ka : Option Addr) (Kn Kc : Nat) (ks : List Bool)
    (h : Sy w0 w d s Q g) (ho : OpIn w0 Da Dn Dc D Fa Fn Fc fs Ka Kn Kc ks) (hI : -9223372036854775808 ≤ I ∧ I ≤ 9223372036854775807) (hc : s.c ≤ 100000) (hp : s.P.length ≤ 100000) (hk : s.k ≤ 100000) :
    Calls Try.prog 25 #[.pointer (some ⟨g, 0, none⟩), .pointer (some ⟨d, 0, none⟩), .agg #[.int .i64 6, .int .i64 I, .bool sc, .slice Da Dn Dc, .slice Fa Fn Fc, .slice Ka Kn Kc]] w fun e w' => e = .returned (.bool true) ∧ ∃ Q', Sy w0 w' d (crS s ks) Q' g := by
  have BA : Below w.heap.size w (w.alloc (.cells #[.int .i64 6, .int .i64 I, .bool sc, .slice Da Dn Dc, .slice Fa Fn Fc, .slice Ka Kn Kc] 34)) := (Below.refl _ _).alloc (Nat.le_refl _) _
  have om : Om (w.alloc (.cells #[.int .i64 6, .int .i64 I, .bool sc, .slice Da Dn Dc, .slice Fa Fn Fc, .slice Ka Kn Kc] 34)) w.heap.size 6 I sc (.slice Da Dn Dc) (.slice Fa Fn Fc) (.slice Ka Kn Kc) := heap_alloc_new w _
  have h1 := h.below BA
  have nqo : ¬ Q w.heap.size := fun hq => by have := h.dev.lt _ hq; omega
  have kp := fun w => place_ I w hI
  have HOP := hid ho
  have hpl := plc_lt I
  have hs0 : w0.heap.size ≤ w.heap.size := h.bel.size
  have HS := hid h1
  have b0 := om.c0
  have b1 := om.c1
  have HOM := hid om
  have HBA := hid BA
  obtain ⟨p, HPP⟩ : ∃ p, Hid (plc I = p) := ⟨_, rfl⟩
  rw [HPP.out] at hpl
  simp only [HPP.out] at kp
  clear h h1 om BA ho
  have hn := HS.out.n
  have b5 := HOM.out.c5
  have hkq : ∀ ad, Ka = some ad → 0 < Kn → ¬ Q ad.block := fun ad ha hk hq => by
    have h1 := HS.out.lo _ hq
    have h2 := HOP.out.k
    rw [ha] at h2
    have := h2.lt hk
    omega
  have kc := crash_ d s Q Ka Kn Kc ks _ HS.out.dev (by omega) (HOP.out.k.below HS.out.bel) hkq HOP.out.kn
  have hkl := HOP.out.k.1
  have hkm := HOP.out.kn
  go_enter Try.func25, Try.ntmps25
  go_wp2_with fail
  refine (kp _).mono ?_
  rintro e w' ⟨rfl, hw⟩
  obtain rfl := hw.symm
  clear hw kp
  go_wp2_with fail
  refine kc.mono ?_
  rintro e w2 ⟨rfl, D2, F2⟩
  obtain ⟨cur0, pa, pc, Il, M0⟩ := HS.out.md
  have hlo : ∀ b, (fun b => Q b ∨ ((w.alloc (.cells #[.int .i64 6, .int .i64 I, .bool sc, .slice Da Dn Dc, .slice Fa Fn Fc, .slice Ka Kn Kc] 34)).heap.size ≤ b ∧ b < w2.heap.size)) b → w0.heap.size ≤ b := fun b hb => by
    rcases hb with hb | hb
    · exact HS.out.lo b hb
    · have := HS.out.bel.size
      omega
  have M2 := M0.keep (w' := w2) (R := fun b => w0.heap.size ≤ b ∧ ¬ (fun b => Q b ∨ ((w.alloc (.cells #[.int .i64 6, .int .i64 I, .bool sc, .slice Da Dn Dc, .slice Fa Fn Fc, .slice Ka Kn Kc] 34)).heap.size ≤ b ∧ b < w2.heap.size)) b) (fun b hb hl => F2.same b hl hb.2) (fun b hb hl => ⟨hb.1, fun hq => by
    rcases hq with hq | hq
    · exact hb.2 hq
    · omega⟩)
  have B2 := hid (HS.out.bel.trans (F2.under HS.out.bel.size HS.out.lo))
  have O2 := HOM.out.at (F2.same _ HOM.out.lt nqo)
  have nqo2 : ¬ (fun b => Q b ∨ ((w.alloc (.cells #[.int .i64 6, .int .i64 I, .bool sc, .slice Da Dn Dc, .slice Fa Fn Fc, .slice Ka Kn Kc] 34)).heap.size ≤ b ∧ b < w2.heap.size)) w.heap.size := fun hq => by
    rcases hq with hq | hq
    · exact nqo hq
    · have := HOM.out.lt
      omega
  generalize (fun b => Q b ∨ ((w.alloc (.cells #[.int .i64 6, .int .i64 I, .bool sc, .slice Da Dn Dc, .slice Fa Fn Fc, .slice Ka Kn Kc] 34)).heap.size ≤ b ∧ b < w2.heap.size)) = Q2 at *
  have HM2 := hid M2
  have HD2 := hid D2
  have HO2 := hid O2
  have hIl : Il.length ≤ 100000 := by have := congrArg List.length M0.ip; rw [List.length_map] at this; omega
  clear kc D2 F2 M0 M2 O2 HOM b5 b0 b1 HBA
  go_wp2_with fail
  go_loopw [15] (fun i wr => ∃ (j : Nat) (cur : Array Value), j ≤ Il.length ∧ j ≤ Kn ∧ i = .int .i64 j ∧ Mk wr g (layA s.S (keepL (s.P.take j) ks)) s.P (fun b => w0.heap.size ≤ b ∧ ¬ Q2 b) cur pa pc Il ∧ Dev wr d (crS s ks) Q2 ∧ Om wr w.heap.size 6 I sc (.slice Da Dn Dc) (.slice Fa Fn Fc) (.slice Ka Kn Kc) ∧ Below w0.heap.size w0 wr) (fun i _ => Il.length - (intOf i).toNat)
  case atStart => exact ⟨0, cur0, Nat.zero_le _, Nat.zero_le _, rfl, by rw [List.take_zero, keepL_nil', layA_nil]; exact HM2.out, HD2.out, HO2.out, B2.out⟩
  case round =>
    clear HM2 B2 HD2 HO2
    obtain ⟨j, cur, hj, hjk, rfl, hm, hd, ho, hbl⟩ := hrel
    have c32 := hm.c32
    have b5 := ho.c5
    by_cases hlt : j < Il.length ∧ j < Kn
    · have hjI : (j : Int) < (Il.length : Int) := by omega
      have hjK : (j : Int) < (Kn : Int) := by omega
      obtain ⟨x, HX⟩ : ∃ x, Hid (Il[j]? = some x) := ⟨Il[j]'hlt.1, by show _ = _; simp [hlt.1]⟩
      obtain ⟨gp, rfl, hpp, hpm, c0, c1⟩ := hm.cellI HX.out
      have HPj : Hid (s.P[j]? = some (x.S, x.Z)) := by show _ = _; rw [hm.ip, List.getElem?_map, HX.out]; rfl
      have HSS : Hid (layA s.S (keepL (s.P.take (j + 1)) ks) = layA (layA s.S (keepL (s.P.take j) ks)) (if ks[j]? = some true then [(x.S, x.Z)] else [])) := by
        show _ = _
        have hjl : (s.P.take j).length = j := by
          rw [List.length_take]
          have := (List.getElem?_eq_some_iff.1 HPj.out).1
          omega
        rw [← layA_app, List.take_add_one, HPj.out]
        show layA s.S (keepL (s.P.take j ++ [(x.S, x.Z)]) ks) = _
        rw [keepL_snoc, hjl]
      have kl := mlay_ g _ _ _ cur _ pc Il x wr hm (List.mem_of_getElem? HX.out)
      have HD := hid hd
      have HB := hid hbl
      have HNG := hid hm.ng
      have HM := hid hm
      have HO := hid ho
      have hog : w.heap.size ≠ g := hm.ne ho (by decide)
      obtain ⟨b, off, rfl, hcb⟩ : ∃ b off, Ka = some ⟨b, off, none⟩ ∧ ∀ i, i < Kn → wr.cell? ⟨b, off + i, none⟩ = some (.bool (ks.getD i false)) := by
        rcases (HOP.out.k.below hbl).2 with h0 | h
        · omega
        · exact h
      have e1 := hcb j hlt.2
      have HKS : Hid (ks[j]? = some (ks.getD j false)) := by show _ = _; simp [List.getD, show j < ks.length from by omega]
      obtain ⟨r, HR⟩ : ∃ r, Hid (ks.getD j false = r) := ⟨_, rfl⟩
      rw [HR.out] at e1 HKS
      clear hm hd hbl hlt ho hcb
      obtain ⟨xS, xg, xc, xZ⟩ := x
      simp only at *
      cases r with
      | true =>
        go_wp2_with fail
        refine kl.mono ?_
        rintro e w3 ⟨rfl, ⟨cur3, M3⟩, G3⟩
        have D3 := hid (HD.out.turned G3 HNG.out.2)
        have B3 := hid (bel_turned HB.out G3 HNG.out.1)
        have HM3 := hid M3
        have HO3 := hid (HO.out.at (G3.block _ HO.out.lt (fun e => hog (Option.some.inj e))))
        clear kl M3 G3 HD HB HO HM c0 c1 c32 b5 e1
        go_wp2_with fail
        go_roundw
        case rel => exact ⟨j + 1, cur3, by omega, by omega, by go_num, by rw [HSS.out, HKS.out, if_pos rfl]; exact HM3.out, D3.out, HO3.out, B3.out⟩
        case measure => simp [intOf]; omega
      | false =>
        clear kl
        go_wp2_with fail
        go_roundw
        case rel => exact ⟨j + 1, cur, by omega, by omega, by go_num, by rw [HSS.out, HKS.out, if_neg (by simp)]; exact HM.out, HD.out, HO.out, HB.out⟩
        case measure => simp [intOf]; omega
    · have f32 := hm.fz 32
      have HL : Hid (keepL (s.P.take j) ks = keepL s.P ks) := by
        show _ = _
        by_cases hjl : j < Il.length
        · have : j = ks.length := by omega
          rw [this, keepL_take]
        · rw [List.take_of_length_le (by rw [hm.ip, List.length_map]; omega)]
      have MN := hm.clr
      rw [HL.out] at MN
      have G3 := grown_set (grown_refl wr (some g)) 32 (.slice none 0 0)
      have DN := hd.turned G3 hm.ng.2
      have BN := bel_turned hbl G3 hm.ng.1
      have SF : Hid (Sy w0 (wr.setCell ⟨g, 32, none⟩ (.slice none 0 0)) d (crS s ks) Q2 g) := ⟨DN, ⟨_, _, _, _, MN⟩, hlo, BN, hn⟩
      clear hm hd hbl ho MN G3 DN BN
      by_cases hjl : j < Il.length
      · have hjI : (j : Int) < (Il.length : Int) := by omega
        have hjK : ¬ (j : Int) < (Kn : Int) := by omega
        clear hlt hjl
        go_wp2_with fail
        go_ret
        exact ⟨rfl, Q2, SF.out⟩
      · have hjI : ¬ (j : Int) < (Il.length : Int) := by omega
        clear hlt hjl
        go_wp2_with fail
        go_ret
        exact ⟨rfl, Q2, SF.out⟩
set_option maxHeartbeats 4000000 in
theorem fol2_ (w0 w : World) (d g : Nat) (s : St) (Q : Nat → Prop) (I : Int) (sc : Bool) (Da : Option Addr) (Dn Dc : Nat) (D : List Int) (Fa : Option Addr) (Fn Fc : Nat) (fs : List (Int × Int)) (Ka : Option Addr) (Kn Kc : Nat) (ks : List Bool)
    (h : Sy w0 w d s Q g) (ho : OpIn w0 Da Dn Dc D Fa Fn Fc fs Ka Kn Kc ks) (hI : -9223372036854775808 ≤ I ∧ I ≤ 9223372036854775807) (hc : s.c ≤ 100000) (hp : s.P.length ≤ 100000) (hk : s.k ≤ 100000) :
    Calls Try.prog 25 #[.pointer (some ⟨g, 0, none⟩), .pointer (some ⟨d, 0, none⟩), .agg #[.int .i64 2, .int .i64 I, .bool sc, .slice Da Dn Dc, .slice Fa Fn Fc, .slice Ka Kn Kc]] w fun e w' => e = .returned (.bool true) ∧ ∃ Q', Sy w0 w' d (wrS s (plc I) (pad D)) Q' g := by
  have BA : Below w.heap.size w (w.alloc (.cells #[.int .i64 2, .int .i64 I, .bool sc, .slice Da Dn Dc, .slice Fa Fn Fc, .slice Ka Kn Kc] 34)) := (Below.refl _ _).alloc (Nat.le_refl _) _
  have om : Om (w.alloc (.cells #[.int .i64 2, .int .i64 I, .bool sc, .slice Da Dn Dc, .slice Fa Fn Fc, .slice Ka Kn Kc] 34)) w.heap.size 2 I sc (.slice Da Dn Dc) (.slice Fa Fn Fc) (.slice Ka Kn Kc) := heap_alloc_new w _
  have h1 := h.below BA
  have nqo : ¬ Q w.heap.size := fun hq => by have := h.dev.lt _ hq; omega
  have kp := fun w => place_ I w hI
  have HOP := hid ho
  have hpl := plc_lt I
  have hs0 : w0.heap.size ≤ w.heap.size := h.bel.size
  have HS := hid h1
  have b0 := om.c0
  have b1 := om.c1
  have HOM := hid om
  have HBA := hid BA
  obtain ⟨p, HPP⟩ : ∃ p, Hid (plc I = p) := ⟨_, rfl⟩
  rw [HPP.out] at hpl
  simp only [HPP.out] at kp
  clear h h1 om BA ho
  rw [HPP.out]
  have hn := HS.out.n
  have b3 := HOM.out.c3
  have kd := padded_ Da Dn Dc D _ (HOP.out.d.below HS.out.bel) HOP.out.dn
  have hpad := pad_sec HOP.out.d.2.1
  obtain ⟨E, HE⟩ : ∃ E, Hid (opE s = E) := ⟨_, rfl⟩
  have hin : 0 ≤ (p : Int) ∧ (p : Int) < (s.n : Int) := by omega
  have HWE : Hid (wrE s (p : Int) 512 = E) := by show _ = _; unfold wrE; rw [if_pos hin, if_pos rfl]; exact HE.out
  have HPD := hid hpad
  obtain ⟨Z, HZ⟩ : ∃ Z, Hid (pad D = Z) := ⟨_, rfl⟩
  rw [HZ.out] at kd HPD ⊢
  have HWS : Hid (wrS s (p : Int) Z = if E = 0 then { opS s with P := s.P ++ [(p, Z)] } else opS s) := by
    show _ = _
    unfold wrS
    rw [if_pos ⟨hin.1, hin.2, HPD.out.1⟩, HE.out, Int.toNat_natCast]
  clear hpad
  go_enter Try.func25, Try.ntmps25
  go_wp2_with fail
  refine (kp _).mono ?_
  rintro e w' ⟨rfl, hw⟩
  obtain rfl := hw.symm
  clear hw kp
  go_wp2_with fail
  refine kd.mono ?_
  rintro e w2 ⟨v2, rfl, o2, g2⟩
  have S2 := HS.out.below g2
  obtain ⟨a2, c2, rfl, R2, _, _⟩ := Ro.new (Q := Q) o2 HPD.out.2 HS.out.dev.lt
  have kw := write_ d s Q (p : Int) a2 512 c2 Z w2 S2.dev (by omega) (by omega) R2.bs R2.nq
  rw [HWE.out] at kw
  have HS2 := hid S2
  have HR2 := hid R2
  clear kd o2 g2 S2 R2
  go_wp2_with fail
  refine kw.mono ?_
  rintro e w3 ⟨rfl, D3, F3⟩
  have hlo : ∀ b, (fun b => Q b ∨ (w2.heap.size ≤ b ∧ b < w3.heap.size)) b → w0.heap.size ≤ b := fun b hb => by
    rcases hb with hb | hb
    · exact HS2.out.lo b hb
    · have := HS2.out.bel.size
      omega
  by_cases hE : E = 0
  case neg =>
    have e1 : (E == 0) = false := by simpa using hE
    rw [if_neg hE] at HWS
    have S3 := hid (HS2.out.step D3 F3 (by rw [HWS.out]; exact opS_S s) (by rw [HWS.out]; exact opS_P s) (by rw [HWS.out]; exact opS_n s))
    clear kw D3 F3 hE hlo
    go_wp2_with (go_at_call 19; refine (num_ _ _).mono ?_; rintro e w' ⟨rfl, hw⟩; obtain rfl := hw.symm; clear hw)
    go_ret
    exact ⟨rfl, _, S3.out⟩
  case pos =>
    subst hE
    rw [if_pos rfl] at HWS
    obtain ⟨cur0, pa, pc, Il, M0⟩ := HS2.out.md
    have M3 := M0.keep (w' := w3) (R := fun b => w0.heap.size ≤ b ∧ ¬ (fun b => Q b ∨ (w2.heap.size ≤ b ∧ b < w3.heap.size)) b) (fun b hb hl => F3.same b hl hb.2) (fun b hb hl => ⟨hb.1, fun hq => by
      rcases hq with hq | hq
      · exact hb.2 hq
      · omega⟩)
    have B3 := HS2.out.bel.trans (F3.under HS2.out.bel.size HS2.out.lo)
    have R3 := HR2.out.dev F3
    generalize (fun b => Q b ∨ (w2.heap.size ≤ b ∧ b < w3.heap.size)) = Q3 at *
    have hIl : Il.length ≤ 100000 := by have := congrArg List.length M0.ip; rw [List.length_map] at this; omega
    have m32 := M3.c32
    have hltg := M3.lt
    have kb : ∀ wx : World, wx.heap = w3.heap → Calls Try.prog 20 #[.slice a2 512 c2] wx fun en w' => ∃ v, en = .returned v ∧ w'.ownsRow wx.heap.size 5 1 v 512 (cells Z) ∧ Below wx.heap.size wx w' := fun wx hw => refBytes a2 512 c2 Z wx (R3.bs.heap hw) (by omega)
    have HM3 := hid M3
    have HD3 := hid D3
    have HB3 := hid B3
    have HL3 := hid hlo
    clear kw D3 F3 M0 M3 B3 R3 HR2 hlo
    go_wp2_with (go_at_call 19; refine (num_ _ _).mono ?_; rintro e w' ⟨rfl, hw⟩; obtain rfl := hw.symm; clear hw)
    go_region_law (first
      | (go_simp; go_at_call 20; refine (kb _ (by rfl)).mono ?_; rintro e w4 ⟨v4, rfl, o4, g4⟩; obtain ⟨gz, cz, rfl, _, _, _, _, _⟩ := own_head o4 (by decide); have O4 := hid o4; have u1 := (g4.cell (p := ⟨g, 32, none⟩) hltg).trans m32; have G4 : Hid (Below w3.heap.size w3 w4) := (⟨g4.os, g4.tape, g4.output, g4.size, g4.block⟩ : Below w3.heap.size w3 w4); have K4 := hid ((HM3.out.below G4.out).below ((Below.refl w4.heap.size w4).alloc (Nat.le_refl _) (.cells #[.int .i64 p, .slice (some ⟨gz, 0, none⟩) 512 cz] 94))); have u2 := K4.out.c32; clear o4 g4)
      | (refine step_app10 rfl (.tmp 57) (.tmp 62) rfl (.slice pa Il.length pc) Il ⟨p, gz, cz, Z⟩ w4.heap.size rfl (by exact K4.out.own) rfl (by exact (cells2_new w4 _ _ _).1) (by exact (cells2_new w4 _ _ _).2) (by omega) ?_; intro g5 cap5 w5 o5 G5 L5 T5; have D5 := hid (K4.out.past G5.out); have y1 := D5.out.1; have yf := D5.out.2))
    all_goals
      have EN := mk_end HM3.out HD3.out HB3.out G4.out O4.out HPD.out.2 hpl G5.out o5.out L5.out T5.out
      have SF : Hid (Sy w0 (w5.setCell ⟨g, 32, none⟩ (.slice (some ⟨g5, 0, none⟩) (Il.length + 1) cap5)) d (wrS s (p : Int) Z) Q3 g) := by
        refine ⟨EN.1.2, ?_, HL3.out, EN.2, ?_⟩
        · rw [HWS.out]
          show Md _ _ (opS s).S _ _
          rw [opS_S]
          exact EN.1.1
        · rw [HWS.out]
          exact (opS_n s).trans hn
      clear EN D5 y1 yf u1 u2 m32 K4 kb
      go_wp2_with fail
      go_ret
      exact ⟨rfl, Q3, SF.out⟩
set_option maxHeartbeats 4000000 in
theorem fol3_ (w0 w : World) (d g : Nat) (s : St) (Q : Nat → Prop) (I : Int) (sc : Bool) (Da : Option Addr) (Dn Dc : Nat) (D : List Int) (Fa : Option Addr) (Fn Fc : Nat) (fs : List (Int × Int)) (Ka : Option Addr) (Kn Kc : Nat) (ks : List Bool)
    (h : Sy w0 w d s Q g) (ho : OpIn w0 Da Dn Dc D Fa Fn Fc fs Ka Kn Kc ks) (hI : -9223372036854775808 ≤ I ∧ I ≤ 9223372036854775807) (hc : s.c ≤ 100000) (hp : s.P.length ≤ 100000) (hk : s.k ≤ 100000) :
    Calls Try.prog 25 #[.pointer (some ⟨g, 0, none⟩), .pointer (some ⟨d, 0, none⟩), .agg #[.int .i64 3, .int .i64 I, .bool sc, .slice Da Dn Dc, .slice Fa Fn Fc, .slice Ka Kn Kc]] w fun e w' => e = .returned (.bool true) ∧ ∃ Q', Sy w0 w' d (wrS s (plc I) (pad D)) Q' g := by
  have BA : Below w.heap.size w (w.alloc (.cells #[.int .i64 3, .int .i64 I, .bool sc, .slice Da Dn Dc, .slice Fa Fn Fc, .slice Ka Kn Kc] 34)) := (Below.refl _ _).alloc (Nat.le_refl _) _
  have om : Om (w.alloc (.cells #[.int .i64 3, .int .i64 I, .bool sc, .slice Da Dn Dc, .slice Fa Fn Fc, .slice Ka Kn Kc] 34)) w.heap.size 3 I sc (.slice Da Dn Dc) (.slice Fa Fn Fc) (.slice Ka Kn Kc) := heap_alloc_new w _
  have h1 := h.below BA
  have nqo : ¬ Q w.heap.size := fun hq => by have := h.dev.lt _ hq; omega
  have kp := fun w => place_ I w hI
  have HOP := hid ho
  have hpl := plc_lt I
  have hs0 : w0.heap.size ≤ w.heap.size := h.bel.size
  have HS := hid h1
  have b0 := om.c0
  have b1 := om.c1
  have HOM := hid om
  have HBA := hid BA
  obtain ⟨p, HPP⟩ : ∃ p, Hid (plc I = p) := ⟨_, rfl⟩
  rw [HPP.out] at hpl
  simp only [HPP.out] at kp
  clear h h1 om BA ho
  rw [HPP.out]
  have hn := HS.out.n
  have b3 := HOM.out.c3
  have kd := padded_ Da Dn Dc D _ (HOP.out.d.below HS.out.bel) HOP.out.dn
  have hpad := pad_sec HOP.out.d.2.1
  obtain ⟨E, HE⟩ : ∃ E, Hid (opE s = E) := ⟨_, rfl⟩
  have hin : 0 ≤ (p : Int) ∧ (p : Int) < (s.n : Int) := by omega
  have HWE : Hid (wrE s (p : Int) 512 = E) := by show _ = _; unfold wrE; rw [if_pos hin, if_pos rfl]; exact HE.out
  have HPD := hid hpad
  obtain ⟨Z, HZ⟩ : ∃ Z, Hid (pad D = Z) := ⟨_, rfl⟩
  rw [HZ.out] at kd HPD ⊢
  have HWS : Hid (wrS s (p : Int) Z = if E = 0 then { opS s with P := s.P ++ [(p, Z)] } else opS s) := by
    show _ = _
    unfold wrS
    rw [if_pos ⟨hin.1, hin.2, HPD.out.1⟩, HE.out, Int.toNat_natCast]
  clear hpad
  go_enter Try.func25, Try.ntmps25
  go_wp2_with fail
  refine (kp _).mono ?_
  rintro e w' ⟨rfl, hw⟩
  obtain rfl := hw.symm
  clear hw kp
  go_wp2_with fail
  refine kd.mono ?_
  rintro e w2 ⟨v2, rfl, o2, g2⟩
  have S2 := HS.out.below g2
  obtain ⟨a2, c2, rfl, R2, _, _⟩ := Ro.new (Q := Q) o2 HPD.out.2 HS.out.dev.lt
  have kw := write_ d s Q (p : Int) a2 512 c2 Z w2 S2.dev (by omega) (by omega) R2.bs R2.nq
  rw [HWE.out] at kw
  have HS2 := hid S2
  have HR2 := hid R2
  clear kd o2 g2 S2 R2
  go_wp2_with fail
  refine kw.mono ?_
  rintro e w3 ⟨rfl, D3, F3⟩
  have hlo : ∀ b, (fun b => Q b ∨ (w2.heap.size ≤ b ∧ b < w3.heap.size)) b → w0.heap.size ≤ b := fun b hb => by
    rcases hb with hb | hb
    · exact HS2.out.lo b hb
    · have := HS2.out.bel.size
      omega
  by_cases hE : E = 0
  case neg =>
    have e1 : (E == 0) = false := by simpa using hE
    rw [if_neg hE] at HWS
    have S3 := hid (HS2.out.step D3 F3 (by rw [HWS.out]; exact opS_S s) (by rw [HWS.out]; exact opS_P s) (by rw [HWS.out]; exact opS_n s))
    clear kw D3 F3 hE hlo
    go_wp2_with (go_at_call 19; refine (num_ _ _).mono ?_; rintro e w' ⟨rfl, hw⟩; obtain rfl := hw.symm; clear hw)
    go_ret
    exact ⟨rfl, _, S3.out⟩
  case pos =>
    subst hE
    rw [if_pos rfl] at HWS
    obtain ⟨cur0, pa, pc, Il, M0⟩ := HS2.out.md
    have M3 := M0.keep (w' := w3) (R := fun b => w0.heap.size ≤ b ∧ ¬ (fun b => Q b ∨ (w2.heap.size ≤ b ∧ b < w3.heap.size)) b) (fun b hb hl => F3.same b hl hb.2) (fun b hb hl => ⟨hb.1, fun hq => by
      rcases hq with hq | hq
      · exact hb.2 hq
      · omega⟩)
    have B3 := HS2.out.bel.trans (F3.under HS2.out.bel.size HS2.out.lo)
    have R3 := HR2.out.dev F3
    generalize (fun b => Q b ∨ (w2.heap.size ≤ b ∧ b < w3.heap.size)) = Q3 at *
    have hIl : Il.length ≤ 100000 := by have := congrArg List.length M0.ip; rw [List.length_map] at this; omega
    have m32 := M3.c32
    have hltg := M3.lt
    have kb : ∀ wx : World, wx.heap = w3.heap → Calls Try.prog 20 #[.slice a2 512 c2] wx fun en w' => ∃ v, en = .returned v ∧ w'.ownsRow wx.heap.size 5 1 v 512 (cells Z) ∧ Below wx.heap.size wx w' := fun wx hw => refBytes a2 512 c2 Z wx (R3.bs.heap hw) (by omega)
    have HM3 := hid M3
    have HD3 := hid D3
    have HB3 := hid B3
    have HL3 := hid hlo
    clear kw D3 F3 M0 M3 B3 R3 HR2 hlo
    go_wp2_with (go_at_call 19; refine (num_ _ _).mono ?_; rintro e w' ⟨rfl, hw⟩; obtain rfl := hw.symm; clear hw)
    go_region_law (first
      | (go_simp; go_at_call 20; refine (kb _ (by rfl)).mono ?_; rintro e w4 ⟨v4, rfl, o4, g4⟩; obtain ⟨gz, cz, rfl, _, _, _, _, _⟩ := own_head o4 (by decide); have O4 := hid o4; have u1 := (g4.cell (p := ⟨g, 32, none⟩) hltg).trans m32; have G4 : Hid (Below w3.heap.size w3 w4) := (⟨g4.os, g4.tape, g4.output, g4.size, g4.block⟩ : Below w3.heap.size w3 w4); have K4 := hid ((HM3.out.below G4.out).below ((Below.refl w4.heap.size w4).alloc (Nat.le_refl _) (.cells #[.int .i64 p, .slice (some ⟨gz, 0, none⟩) 512 cz] 94))); have u2 := K4.out.c32; clear o4 g4)
      | (refine step_app10 rfl (.tmp 57) (.tmp 62) rfl (.slice pa Il.length pc) Il ⟨p, gz, cz, Z⟩ w4.heap.size rfl (by exact K4.out.own) rfl (by exact (cells2_new w4 _ _ _).1) (by exact (cells2_new w4 _ _ _).2) (by omega) ?_; intro g5 cap5 w5 o5 G5 L5 T5; have D5 := hid (K4.out.past G5.out); have y1 := D5.out.1; have yf := D5.out.2))
    all_goals
      have EN := mk_end HM3.out HD3.out HB3.out G4.out O4.out HPD.out.2 hpl G5.out o5.out L5.out T5.out
      have SF : Hid (Sy w0 (w5.setCell ⟨g, 32, none⟩ (.slice (some ⟨g5, 0, none⟩) (Il.length + 1) cap5)) d (wrS s (p : Int) Z) Q3 g) := by
        refine ⟨EN.1.2, ?_, HL3.out, EN.2, ?_⟩
        · rw [HWS.out]
          show Md _ _ (opS s).S _ _
          rw [opS_S]
          exact EN.1.1
        · rw [HWS.out]
          exact (opS_n s).trans hn
      clear EN D5 y1 yf u1 u2 m32 K4 kb
      go_wp2_with fail
      go_ret
      exact ⟨rfl, Q3, SF.out⟩
end Go.Proofs.Ythjfgdldclhbhaa
