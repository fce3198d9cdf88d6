import Derived.Test.YthjfgdldclhbhaaRC
namespace Go.Proofs.Ythjfgdldclhbhaa
set_option maxRecDepth 100000
open Go.RowKit Go.Shelf
set_option linter.unusedVariables false

theorem rzeros_ (w : World) : Calls Try.prog 83 #[] w fun en w' => ∃ v, en = .returned v ∧ w'.ownsRow w.heap.size 5 1 v 512 (cells zer) ∧ Below w.heap.size w w' := by
  obtain ⟨i, hi, hz0, hz1, hz2⟩ := info_parts info5
  go_enter Try.func83, Try.ntmps83
  go_wp2_with (at_make; refine wpList_make_full _ rfl _ _ 25 rfl w.heap.size 5 i (.int .u8 0) 1 Try.underlying25 hi hz0 hz1 .i64 .i64 _ _ 512 rfl rfl (by first | rfl | omega) (by first | rfl | omega) (by rw [hz2]; omega) (by unfold maxLen; omega) (Nat.le_refl _) ?_; intro w1 hown hg1; have HR := hid hown; have HG1 := hid (below_of_grown hg1); clear hown hg1)
  go_ret
  have e : (madeCells (Value.int .u8 0).cells (512 * 1)).toList = cells zer := by
    unfold zer
    simp [madeCells, cells, Value.cells, Nat.mod_one, List.map_const']
  have h := HR.out
  rw [e] at h
  exact ⟨_, rfl, h, HG1.out⟩
section
variable {w w' : World} {e : Nat} {s s' : St} {N R : Nat → Prop} {gl : Nat} {cur : Array Value} {pa : Option Addr} {pc : Nat} {I : List It} {fa : Option Addr} {fc : Nat} {fs : List (Int × Int)}
theorem Rk.lcell (h : Rk w e s N gl cur pa pc I fa fc fs) {i : Nat} {v : Value} (hc : cur[i]? = some v) : w.cell? ⟨gl, i, none⟩ = some v := (cell_of_row _ _ i _ _ (0, 0) h.lb).trans hc
theorem Rk.lfz (h : Rk w e s N gl cur pa pc I fa fc fs) (i : Nat) : w.frozen? ⟨gl, i, none⟩ = false := by have := h.lb; simp [World.frozen?, this]
theorem Rk.lneq (h : Rk w e s N gl cur pa pc I fa fc fs) {b : Nat} {c : Array Value} {t : TypeId} (hb : w.heap[b]? = some (.cells c t (0, 0))) (ht : t ≠ 25) : b ≠ gl := fun q => by
  have := h.lb
  rw [← q, hb] at this
  simp at this
  exact ht this.2
/-- One sector's place has turned. -/
theorem Rk.setL (h : Rk w e s N gl cur pa pc I fa fc fs) {i : Nat} (hi : i < s.n) {u : Value} {z : List Int} (hu : Slt w N u z) : Rk (w.setCell ⟨gl, i, none⟩ u) e { s with S := lay1 s.S (i, z) } N gl (cur.setIfInBounds i u) pa pc I fa fc fs := by
  have ho : ∀ {b : Nat} {c : Array Value} {t : TypeId}, w.heap[b]? = some (.cells c t (0, 0)) → t ≠ 25 → (w.setCell ⟨gl, i, none⟩ u).heap[b]? = w.heap[b]? := fun hb ht => Below.heap_setCell _ _ _ _ (h.lneq hb ht)
  have hst : ∀ {v : Value} {y : List Int}, Slt w N v y → Slt (w.setCell ⟨gl, i, none⟩ u) N v y := fun hv => by
    rcases hv with hv | ⟨q, c, h1, h2, ⟨cu, h3⟩, h4⟩
    · exact .inl hv
    · have := ho h3 (by decide)
      exact .inr ⟨q, c, h1, h2.at this, ⟨cu, this.trans h3⟩, h4⟩
  refine ⟨(ho h.blk (by decide)).trans h.blk, by have := h.lb; simp [World.setCell, Array.getElem?_modify, this], by simpa using h.sz, fun j hj => ?_, own_at' h.own (fun q hq => ?_), fun x hx => ?_, h.ip, own_at' h.ownF (fun q hq => ?_), h.fl, h.fk, h.fF, h.ne, h.nl, h.np, h.nf, h.n1, h.n2⟩
  · by_cases q : j = i
    · subst q
      refine ⟨u, by rw [Array.getElem?_setIfInBounds_self_of_lt (by rw [h.sz]; exact hi)], ?_⟩
      show Slt _ N u (lay1 s.S (j, z) j)
      unfold lay1
      rw [if_pos rfl]
      exact hst hu
    · obtain ⟨v, h1, h2⟩ := h.lasts j hj
      refine ⟨v, by rw [Array.getElem?_setIfInBounds_ne (Ne.symm q)]; exact h1, ?_⟩
      show Slt _ N v (lay1 s.S (i, z) j)
      unfold lay1
      rw [if_neg (by exact q)]
      exact hst h2
  · obtain ⟨c, hc⟩ := own_ty h.own hq
    exact ho hc (by decide)
  · obtain ⟨h0, h1, ⟨c, h2⟩, h3⟩ := h.it x hx
    have := ho h2 (by decide)
    exact ⟨h0, h1.at this, ⟨c, this.trans h2⟩, h3⟩
  · obtain ⟨c, hc⟩ := own_ty h.ownF hq
    exact ho hc (by decide)
end
/-- What lasts in a sector. -/
theorem rlasting_ (e : Nat) (s : St) (N : Nat → Prop) (gl : Nat) (cur : Array Value) (pa : Option Addr) (pc : Nat) (I : List It) (fa : Option Addr) (fc : Nat) (fs : List (Int × Int)) (i : Nat) (w : World) (h : Rk w e s N gl cur pa pc I fa fc fs) (hi : i < s.n) :
    Calls Try.prog 65 #[.pointer (some ⟨e, 0, none⟩), .int .i64 i] w fun en w' => ∃ v, en = .returned v ∧ w'.ownsRow w.heap.size 5 1 v 512 (cells (s.S i)) ∧ Below w.heap.size w w' := by
  have hn2 := h.n2
  have c1 := h.c1
  obtain ⟨v, hv, hs⟩ := h.lasts i hi
  have cl := h.lcell hv
  have hiI : (i : Int) < (s.n : Int) := by omega
  have hn2I : (s.n : Int) ≤ 8192 := by omega
  obtain ⟨n, HN⟩ : ∃ n, Hid (s.n = n) := ⟨_, rfl⟩
  rw [HN.out] at *
  clear h hv
  rcases hs with ⟨rfl, hz⟩ | ⟨g, c, rfl, hb, _, _, hc1, hc2⟩
  · rw [hz]
    have kz := rzeros_ w
    go_enter Try.func65, Try.ntmps65
    go_wp2_with fail
    refine kz.mono ?_
    rintro en w1 ⟨v, rfl, o1, g1⟩
    have HO := hid o1
    have HG := hid g1
    clear kz o1 g1
    go_wp2_with fail
    go_ret
    exact ⟨_, rfl, HO.out, HG.out⟩
  · have kb := refBytes (some ⟨g, 0, none⟩) 512 c (s.S i) w hb (by omega)
    clear hb
    go_enter Try.func65, Try.ntmps65
    go_wp2_with fail
    refine kb.mono ?_
    rintro en w1 ⟨v, rfl, o1, g1⟩
    have HO := hid o1
    have HG := hid g1
    clear kb o1 g1
    go_wp2_with fail
    go_ret
    exact ⟨_, rfl, HO.out, HG.out⟩
set_option maxHeartbeats 1000000 in
/-- A write that pends is laid down. -/
theorem rlay_ (e : Nat) (s : St) (N : Nat → Prop) (gl : Nat) (cur : Array Value) (pa : Option Addr) (pc : Nat) (I : List It) (fa : Option Addr) (fc : Nat) (fs : List (Int × Int)) (x : It) (w : World) (h : Rk w e s N gl cur pa pc I fa fc fs) (hx : x ∈ I) :
    Calls Try.prog 68 #[.pointer (some ⟨e, 0, none⟩), .agg #[.int .i64 x.S, .slice (some ⟨x.g, 0, none⟩) 512 x.c]] w fun en w' => en = .returned (.tuple #[]) ∧ (∃ cur', Rk w' e { s with S := lay1 s.S (x.S, x.Z) } N gl cur' pa pc I fa fc fs) ∧ w.grownBy w' (some gl) := by
  obtain ⟨h0, h1, h2, h3, h4, h5⟩ := h.it x hx
  have BA : Below w.heap.size w (w.alloc (.cells #[.int .i64 x.S, .slice (some ⟨x.g, 0, none⟩) 512 x.c] 94)) := (Below.refl _ _).alloc (Nat.le_refl _) _
  have M1 := h.below BA
  obtain ⟨v0, hv0, _⟩ := M1.lasts x.S h0
  have c0 := M1.lcell hv0
  have c1 := M1.c1
  have f0 := M1.lfz x.S
  have hn2 := h.n2
  have hHU : Rk ((w.alloc (.cells #[.int .i64 x.S, .slice (some ⟨x.g, 0, none⟩) 512 x.c] 94)).setCell ⟨gl, x.S, none⟩ (.slice (some ⟨x.g, 0, none⟩) 512 x.c)) e { s with S := lay1 s.S (x.S, x.Z) } N gl (cur.setIfInBounds x.S (.slice (some ⟨x.g, 0, none⟩) 512 x.c)) pa pc I fa fc fs := by
    obtain ⟨_, q1, q2, _⟩ := M1.it x hx
    exact M1.setL h0 (.inr ⟨x.g, x.c, rfl, q1, q2, h3, h4, h5⟩)
  have HU := hid hHU
  have HG : Hid (w.grownBy ((w.alloc (.cells #[.int .i64 x.S, .slice (some ⟨x.g, 0, none⟩) 512 x.c] 94)).setCell ⟨gl, x.S, none⟩ (.slice (some ⟨x.g, 0, none⟩) 512 x.c)) (some gl)) := grown_set (grown_alloc (grown_refl w _) _) _ _
  have hS : (x.S : Int) < (s.n : Int) := by omega
  have hn2I : (s.n : Int) ≤ 8192 := by omega
  obtain ⟨n, HN⟩ : ∃ n, Hid (s.n = n) := ⟨_, rfl⟩
  rw [HN.out] at c1 hS hn2I
  clear h h1 h2 h3 M1 BA hv0 hHU h0 hn2
  obtain ⟨xS, xg, xc, xZ⟩ := x
  simp only at *
  go_enter Try.func68, Try.ntmps68
  go_wp2_with fail
  go_region
  all_goals
    have HU2 := HU.out
    have HG2 := HG.out
    clear HU HG
    go_wp2_with fail
    go_end0
    exact ⟨rfl, ⟨_, HU2.keep (fun _ _ _ => rfl) (fun _ h _ => h)⟩, ⟨HG2.os, HG2.tape, HG2.output, HG2.size, HG2.block⟩⟩
end Go.Proofs.Ythjfgdldclhbhaa
