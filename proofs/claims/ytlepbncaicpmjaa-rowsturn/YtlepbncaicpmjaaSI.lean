import Derived.Test.YtlepbncaicpmjaaP8
import Derived.Deep.RegionHeldLaw
namespace Go.Proofs.Ytlepbncaicpmjaa
set_option maxRecDepth 100000
open Go.RowKit
set_option linter.unusedVariables false

/-- A prefix as four numbers; many of them in memory. -/
structure Px where
  F : Int
  H : Int
  L : Int
  B : Int
def px0 : Px := ⟨0, 0, 0, 0⟩
structure Px.ok (x : Px) : Prop where
  F : InI x.F
  H : InU x.H
  L : InU x.L
  B : InI x.B
structure Pc (w : World) (b o : Nat) (x : Px) : Prop where
  c0 : w.cell? ⟨b, o, none⟩ = some (.int .i64 x.F)
  c1 : w.cell? ⟨b, o + 1, none⟩ = some (.int .u64 x.H)
  c2 : w.cell? ⟨b, o + 2, none⟩ = some (.int .u64 x.L)
  c3 : w.cell? ⟨b, o + 3, none⟩ = some (.int .i64 x.B)
structure Ps (w : World) (a : Option Addr) (n : Nat) (ps : List Px) : Prop where
  len : ps.length = n
  ok : ∀ x ∈ ps, x.ok
  at' : n = 0 ∨ ∃ b off, a = some ⟨b, off, none⟩ ∧ ∀ i, i < n → Pc w b (off + i * 4) (ps.getD i px0)
theorem Pc.on {w w' : World} {b o : Nat} {x : Px} (h : Pc w b o x) (hb : Below w.heap.size w w') : Pc w' b o x :=
  ⟨(hb.cell (World.block_lt_of_cell? w _ h.c0)).trans h.c0, (hb.cell (World.block_lt_of_cell? w _ h.c1)).trans h.c1, (hb.cell (World.block_lt_of_cell? w _ h.c2)).trans h.c2, (hb.cell (World.block_lt_of_cell? w _ h.c3)).trans h.c3⟩
theorem Ps.on {w w' : World} {a : Option Addr} {n : Nat} {ps : List Px} (h : Ps w a n ps) (hb : Below w.heap.size w w') : Ps w' a n ps := by
  refine ⟨h.len, h.ok, ?_⟩
  rcases h.at' with h0 | ⟨b, off, e, hc⟩
  · exact .inl h0
  · exact .inr ⟨b, off, e, fun i hi => (hc i hi).on hb⟩
/-- The prefixes stand in order, and each may be: the first j of them. -/
def Pg (ps : List Px) (j : Nat) : Prop := ∀ i, i < j → vp (ps.getD i px0).F (ps.getD i px0).H (ps.getD i px0).L (ps.getD i px0).B = true ∧ (0 < i → cp (ps.getD (i - 1) px0).F (ps.getD (i - 1) px0).H (ps.getD (i - 1) px0).L (ps.getD (i - 1) px0).B (ps.getD i px0).F (ps.getD i px0).H (ps.getD i px0).L (ps.getD i px0).B < 0)
/-- May the peer be? -/
def Pk (K : Int) (m : Nat) (ps : List Px) : Prop := 1 ≤ K ∧ K ≤ 4294967295 ∧ m = 32 ∧ ps.length ≤ 16 ∧ Pg ps ps.length
end Go.Proofs.Ytlepbncaicpmjaa
namespace Go.Proofs.Ytlepbncaicpmjaa
set_option maxRecDepth 100000
open Go.RowKit
set_option linter.unusedVariables false

/-- A peer's row. -/
def peB (ps : List Px) : List Int := (ps.map fun x => pp x.F x.H x.L x.B).flatten
def peK (K : Int) : List Int := [80] ++ be 4 K
def peV (k : List Int) (ps : List Px) : List Int := (k ++ [(ps.length : Int)]) ++ peB ps
theorem peB_succ (ps : List Px) (j : Nat) (h : j < ps.length) : peB (ps.take (j + 1)) = peB (ps.take j) ++ pp (ps.getD j px0).F (ps.getD j px0).H (ps.getD j px0).L (ps.getD j px0).B := by
  have e : ps.getD j px0 = ps[j] := by simp [List.getD, h]
  unfold peB
  rw [List.take_succ_eq_append_getElem h, List.map_append, List.flatten_append, e]
  simp
theorem peB_byte (ps : List Px) : Okb (peB ps) := by
  intro z hz
  unfold peB at hz
  obtain ⟨l, hl, hz⟩ := List.mem_flatten.1 hz
  obtain ⟨x, _, rfl⟩ := List.mem_map.1 hl
  exact pp_byte _ _ _ _ z hz
theorem step_appS {W w : World} {ops : Array Oper} {o : Oper} {a : Act} {K : Act → World → Prop} {Q : Exit → Act → World → Prop} {E : Prop} (hgd : o.guard = none) (s x : Operand)
    (ho : o.op = .call { callee := .builtin .append, args := #[s, x], argTypes := #[36, 36] })
    (v : Value) (X : List Int) (hs : a.eval s = v) (hst : St W w v X) (ad : Addr) (c : Nat) (z : Int) (hx : a.eval x = .slice (some ad) 1 c) (hz : w.cell? ad = some (.int .u8 z)) (hnm : X.length + 1 ≤ 140737488355328)
    (h : ∀ v' w', St W w' v' (X ++ [z]) → K (a.put o.dst v') w') : if Region.wanted o (yielded ops a.tmps) = true then Oper.wp Try.prog o a w K Q else E := by
  obtain ⟨i5, hi, hz0, hz1, hz2⟩ := info_parts info5
  refine step_append_lies w hgd s x 36 ho W.heap.size 5 i5 (.int .u8 0) 1 1 Try.underlying36 hi hz0 hz1 hz2 rfl (by decide) v X.length (cells X) hs hst.own ad 1 c [.int .u8 z] hx rfl (fun j u hj => ?_) (fun u hu => ?_) (by omega) (by unfold maxLen; omega) (by omega) hst.bel.size w.heap.size rfl fun g cap w' o' g' _ _ => h _ w' ⟨?_, hst.bel.grown g' hst.bel.size (fun p hp => (hst.own.lt p hp).1)⟩
  · match j, hj with
    | 0, hj => simp at hj; subst hj; exact hz
  · simp at hu; subst hu; rfl
  · rw [List.length_append, cells_append]
    exact o'
theorem pp_len (F H L B : Int) : (pp F H L B).length ≤ 18 := by
  unfold pp pa nb
  split
  · simp only [List.length_cons]
    split
    · rw [be_length]
      split
      · omega
      · split <;> omega
    · simp
  · simp
theorem peB_len (ps : List Px) : (peB ps).length ≤ 18 * ps.length := by
  unfold peB
  induction ps with
  | nil => simp
  | cons x l ih =>
    simp only [List.map_cons, List.flatten_cons, List.length_append, List.length_cons]
    have := pp_len x.F x.H x.L x.B
    omega
end Go.Proofs.Ytlepbncaicpmjaa
namespace Go.Proofs.Ytlepbncaicpmjaa
set_option maxRecDepth 100000
open Go.RowKit
set_option linter.unusedVariables false

theorem infoP : (Try.prog.info? 86).map (fun i => (i.zero, i.size, i.bytes)) = some (some (.agg #[.int .i64 0, .int .u64 0, .int .u64 0, .int .i64 0]), 4, 32) := by kernel_rfl
def pxc (x : Px) : List Value := [.int .i64 x.F, .int .u64 x.H, .int .u64 x.L, .int .i64 x.B]
def pxcs (l : List Px) : List Value := l.flatMap pxc
theorem pxcs_append (l k : List Px) : pxcs (l ++ k) = pxcs l ++ pxcs k := by simp [pxcs]
theorem pxcs_length (l : List Px) : (pxcs l).length = l.length * 4 := by
  induction l with
  | nil => rfl
  | cons x l ih =>
    have e : pxcs (x :: l) = pxc x ++ pxcs l := by simp [pxcs]
    rw [e, List.length_append, ih, List.length_cons]
    simp [pxc]
    omega
theorem pxcs_at (l : List Px) : ∀ (i j : Nat), i < l.length → j < 4 → (pxcs l)[i * 4 + j]? = (pxc (l.getD i px0))[j]? := by
  induction l with
  | nil => intro i j h; simp at h
  | cons x l ih =>
    intro i j hi hj
    have e : pxcs (x :: l) = pxc x ++ pxcs l := by simp [pxcs]
    have e4 : (pxc x).length = 4 := rfl
    rw [e]
    cases i with
    | zero =>
      rw [List.getElem?_append_left (by rw [e4]; omega), Nat.zero_mul, Nat.zero_add]
      rfl
    | succ i =>
      rw [List.getElem?_append_right (by rw [e4]; omega), e4, show (i + 1) * 4 + j - 4 = i * 4 + j from by omega]
      have := ih i j (by simpa using hi) hj
      rw [this]
      simp [List.getD]
/-- Prefixes in a row of one's own. -/
structure Po (w : World) (base : Nat) (v : Value) (l : List Px) : Prop where
  own : w.ownsRow base 86 4 v l.length (pxcs l)
  ok : ∀ x ∈ l, x.ok
theorem Po.nil (w : World) (base : Nat) : Po w base (.slice none 0 0) [] := ⟨World.ownsRow_nil _ _ _ _, by simp⟩
theorem wpList_px {w : World} {ops : Array Oper} {rest : List Oper} {o : Oper} {act : Act} {Q : Exit → Act → World → Prop} (hgd : o.guard = none) (s x : Operand)
    (ho : o.op = .call { callee := .builtin .append, args := #[s, x], argTypes := #[53, 53] })
    (base : Nat) (v : Value) (l : List Px) (hs : act.eval s = v) (hown : Po w base v l) (g : Nat) (y : Px) (hx : act.eval x = .slice (some ⟨g, 0, none⟩) 1 1)
    (hg : w.heap[g]? = some (.cells #[.int .i64 y.F, .int .u64 y.H, .int .u64 y.L, .int .i64 y.B] 86 (0, 0))) (hy : y.ok) (hlen : l.length ≤ 1000000) (hbase : base ≤ w.heap.size)
    (h : ∀ v' w', Po w' base v' (l ++ [y]) → w.grownBy w' v.ownBlock → wpList Try.prog ops Q rest (act.put o.dst v') w') : wpList Try.prog ops Q (o :: rest) act w := by
  obtain ⟨i, hi, hz0, hz1, hz2⟩ := info_parts infoP
  refine wpList_append_own _ hgd s x 53 ho base 86 i _ 4 32 Try.underlying53 hi hz0 hz1 hz2 rfl (by decide) v l.length (pxcs l) hs hown.own ⟨g, 0, none⟩ 1 1 (pxc y) hx rfl ?c1 ?c2 (by unfold maxLen; omega) (by omega) hbase ?_
  case c1 =>
    intro j u hj
    rw [Addr.add_lit, Nat.zero_add, cell_of_row w g j _ _ (0, 0) hg]
    exact (List.getElem?_toArray (xs := pxc y) (i := j)).trans hj
  case c2 =>
    intro u hu
    simp [pxc] at hu
    rcases hu with rfl | rfl | rfl | rfl <;> rfl
  intro v' w' h1 h2 _
  refine h v' w' ⟨?_, fun z hz => ?_⟩ h2
  · rw [List.length_append, List.length_singleton, pxcs_append]
    simpa [pxcs] using h1
  · rcases List.mem_append.1 hz with hz | hz
    · exact hown.ok z hz
    · rw [List.mem_singleton] at hz
      subst hz
      exact hy
theorem Po.ps {w : World} {base : Nat} {v : Value} {l : List Px} (h : Po w base v l) : ∃ a c, v = .slice a l.length c ∧ Ps w a l.length l ∧ l.length ≤ c ∧ c ≤ maxLen ∧ (a = none → c = 0) := by
  obtain ⟨h1, h2⟩ := h.own
  rcases h2 with ⟨rfl, h0⟩ | ⟨g, cap, cur, rfl, hb, hg, hnc, hcm, hcs, ht⟩
  · refine ⟨none, 0, by rw [h0], ⟨rfl, h.ok, .inl h0⟩, by omega, by unfold maxLen; omega, fun _ => rfl⟩
  · refine ⟨_, cap, rfl, ⟨rfl, h.ok, .inr ⟨g, 0, rfl, fun i hi => ?_⟩⟩, hnc, hcm, fun e => by cases e⟩
    have key : ∀ j, j < 4 → w.cell? ⟨g, 0 + i * 4 + j, none⟩ = (pxc (l.getD i px0))[j]? := fun j hj => by
      rw [cell_of_row w g _ _ _ (0, 0) hg, ← pxcs_at l i j hi hj, ← ht, List.getElem?_take, if_pos (by omega)]
      simp
    exact ⟨key 0 (by omega), key 1 (by omega), key 2 (by omega), key 3 (by omega)⟩
theorem Po.bel {w w' : World} {base : Nat} {v : Value} {l : List Px} (h : Po w base v l) (hb : Below w.heap.size w w') : Po w' base v l := ⟨own_bel h.own hb, h.ok⟩
/-- A peer in a variable. -/
def Pe (w : World) (g : Nat) (K : Int) (ka : Option Addr) (m c : Nat) (pa : Option Addr) (n d : Nat) : Prop := w.heap[g]? = some (.cells #[.int .i64 K, .slice ka m c, .slice pa n d] 55 (0, 0))
section
variable {w w' : World} {g : Nat} {K : Int} {ka pa : Option Addr} {m c n d : Nat}
theorem Pe.c0 (h : Pe w g K ka m c pa n d) : w.cell? ⟨g, 0, none⟩ = some (.int .i64 K) := (cell_of_row w g 0 _ _ (0, 0) h).trans rfl
theorem Pe.c1 (h : Pe w g K ka m c pa n d) : w.cell? ⟨g, 1, none⟩ = some (.slice ka m c) := (cell_of_row w g 1 _ _ (0, 0) h).trans rfl
theorem Pe.c2 (h : Pe w g K ka m c pa n d) : w.cell? ⟨g, 2, none⟩ = some (.slice pa n d) := (cell_of_row w g 2 _ _ (0, 0) h).trans rfl
theorem Pe.lt (h : Pe w g K ka m c pa n d) : g < w.heap.size := (Array.getElem?_eq_some_iff.1 h).1
theorem Pe.at (h : Pe w g K ka m c pa n d) (e : w'.heap[g]? = w.heap[g]?) : Pe w' g K ka m c pa n d := by unfold Pe at *; rw [e]; exact h
theorem Pe.kept (h : Pe w g K ka m c pa n d) (hb : Below w.heap.size w w') : Pe w' g K ka m c pa n d := h.at (hb.block g h.lt)
theorem Pe.fz (h : Pe w g K ka m c pa n d) (i : Nat) : w.frozen? ⟨g, i, none⟩ = false := by unfold Pe at h; simp [World.frozen?, h]
theorem Pe.new (w : World) (K : Int) (ka : Option Addr) (m c : Nat) (pa : Option Addr) (n d : Nat) : Pe (w.alloc (.cells #[.int .i64 K, .slice ka m c, .slice pa n d] 55)) w.heap.size K ka m c pa n d := heap_alloc_new w _
theorem Pe.s0 (h : Pe w g K ka m c pa n d) (K' : Int) : Pe (w.setCell ⟨g, 0, none⟩ (.int .i64 K')) g K' ka m c pa n d := by unfold Pe at *; simp [World.setCell, Array.getElem?_modify, h]
theorem Pe.s1 (h : Pe w g K ka m c pa n d) (a : Option Addr) (m' c' : Nat) : Pe (w.setCell ⟨g, 1, none⟩ (.slice a m' c')) g K a m' c' pa n d := by unfold Pe at *; simp [World.setCell, Array.getElem?_modify, h]
theorem Pe.s2 (h : Pe w g K ka m c pa n d) (a : Option Addr) (n' d' : Nat) : Pe (w.setCell ⟨g, 2, none⟩ (.slice a n' d')) g K ka m c a n' d' := by unfold Pe at *; simp [World.setCell, Array.getElem?_modify, h]
end
theorem sizepe : (Try.prog.info? 55).map (·.size) = some 3 := by kernel_rfl
theorem wpList_spe {ops : Array Oper} {rest : List Oper} {o : Oper} {act : Act} {w : World} {Q : Exit → Act → World → Prop} (hgd : o.guard = none) (hdst : o.dst = none) (x y : Operand) (ho : o.op = .store 55 x y)
    (g : Nat) (K : Int) (ka : Option Addr) (m c : Nat) (pa : Option Addr) (n d : Nat) (hx : act.eval x = .pointer (some ⟨g, 0, none⟩)) (hy : act.eval y = .agg #[.int .i64 K, .slice ka m c, .slice pa n d])
    {K0 : Int} {ka0 pa0 : Option Addr} {m0 c0 n0 d0 : Nat} (hg : Pe w g K0 ka0 m0 c0 pa0 n0 d0)
    (h : wpList Try.prog ops Q rest act (w.setRow g #[.int .i64 K, .slice ka m c, .slice pa n d])) : wpList Try.prog ops Q (o :: rest) act w := by
  refine wpList_store_row hgd _ x y ho g #[.int .i64 K, .slice ka m c, .slice pa n d] hx hy _ _ hg sizepe rfl (by simp [Value.oneCell']) ?_
  rw [hdst]
  exact h
theorem Pe.row {w : World} {g : Nat} {K0 : Int} {ka0 pa0 : Option Addr} {m0 c0 n0 d0 : Nat} (h : Pe w g K0 ka0 m0 c0 pa0 n0 d0) (K : Int) (ka : Option Addr) (m c : Nat) (pa : Option Addr) (n d : Nat) : Pe (w.setRow g #[.int .i64 K, .slice ka m c, .slice pa n d]) g K ka m c pa n d := setRow_heap w g _ _ _ _ h
theorem results_pe {fn : Func} {p u : Tmp} (h : fn.results = #[.cell p 55, .tmp u]) (tmps : Array Value) (w : World) (g : Nat) (K : Int) (ka : Option Addr) (m c : Nat) (pa : Option Addr) (n d : Nat) (v : Value)
    (hp : tmps.getD p undef = .pointer (some ⟨g, 0, none⟩)) (hv : tmps.getD u undef = v) (hm : Pe w g K ka m c pa n d) :
    (results fn tmps).run Try.prog w = .ok (.tuple #[.agg #[.int .i64 K, .slice ka m c, .slice pa n d], v]) w := by
  rw [results_cell_tmp h, hp, hv]
  have c0 := hm.c0
  have c1 := hm.c1
  have c2 := hm.c2
  go_simp
end Go.Proofs.Ytlepbncaicpmjaa
namespace Go.Proofs.Ytlepbncaicpmjaa
set_option maxRecDepth 100000
open Go.RowKit
set_option linter.unusedVariables false

theorem three_set {w : World} {q : Nat} {x0 x1 x2 a b c : Value} {T : TypeId} (h : w.heap[q]? = some (.cells #[x0, x1, x2] T (0, 0))) : (((w.setCell ⟨q, 0, none⟩ a).setCell ⟨q, 1, none⟩ b).setCell ⟨q, 2, none⟩ c).heap[q]? = some (.cells #[a, b, c] T (0, 0)) := by
  simp [World.setCell, Array.getElem?_modify, h]
theorem three_other {w : World} {q j : Nat} {a b c : Value} (h : j ≠ q) : (((w.setCell ⟨q, 0, none⟩ a).setCell ⟨q, 1, none⟩ b).setCell ⟨q, 2, none⟩ c).heap[j]? = w.heap[j]? := by
  simp [World.setCell, Array.getElem?_modify, Ne.symm h]
theorem Ps.same {w w' : World} {a : Option Addr} {n : Nat} {ps : List Px} (h : Ps w a n ps) (hk : ∀ b off, a = some ⟨b, off, none⟩ → 0 < n → w'.heap[b]? = w.heap[b]?) : Ps w' a n ps := by
  refine ⟨h.len, h.ok, ?_⟩
  rcases h.at' with h0 | ⟨b, off, e, hc⟩
  · exact .inl h0
  · by_cases h0 : n = 0
    · exact .inl h0
    · have hb := hk b off e (by omega)
      have key : ∀ o, w'.cell? ⟨b, o, none⟩ = w.cell? ⟨b, o, none⟩ := fun o => World.cell?_of_block (w := w) (a := ⟨b, o, none⟩) hb
      exact .inr ⟨b, off, e, fun i hi => ⟨(key _).trans (hc i hi).c0, (key _).trans (hc i hi).c1, (key _).trans (hc i hi).c2, (key _).trans (hc i hi).c3⟩⟩
/-- Prefixes that can be read, in blocks of V. -/
structure Pv (w : World) (V : Nat → Prop) (a : Option Addr) (n c : Nat) (ps : List Px) : Prop where
  ps : Ps w a n ps
  nc : n ≤ c
  cm : c ≤ maxLen
  nil : a = none → c = 0
  lies : ∀ ad, a = some ad → 0 < n → V ad.block ∧ ad.block < w.heap.size
theorem Pv.step {w w' : World} {V : Nat → Prop} {a : Option Addr} {n c : Nat} {ps : List Px} (h : Pv w V a n c ps) (hk : ∀ x, x < w.heap.size → V x → w'.heap[x]? = w.heap[x]?) (hs : w.heap.size ≤ w'.heap.size) : Pv w' V a n c ps :=
  ⟨h.ps.same fun b off e hn => hk b (h.lies _ e hn).2 (h.lies _ e hn).1, h.nc, h.cm, h.nil, fun ad e hn => ⟨(h.lies ad e hn).1, Nat.lt_of_lt_of_le (h.lies ad e hn).2 hs⟩⟩
theorem Pv.wide {w : World} {V V' : Nat → Prop} {a : Option Addr} {n c : Nat} {ps : List Px} (h : Pv w V a n c ps) (hV : ∀ x, x < w.heap.size → V x → V' x) : Pv w V' a n c ps :=
  ⟨h.ps, h.nc, h.cm, h.nil, fun ad e hn => ⟨hV _ (h.lies ad e hn).2 (h.lies ad e hn).1, (h.lies ad e hn).2⟩⟩
theorem Pv.on {w w' : World} {V : Nat → Prop} {a : Option Addr} {n c : Nat} {ps : List Px} (h : Pv w V a n c ps) (hb : Below w.heap.size w w') : Pv w' V a n c ps := h.step (fun x hx _ => hb.block x hx) hb.size
theorem pv_none (w : World) (V : Nat → Prop) : Pv w V none 0 0 [] := ⟨⟨rfl, by simp, .inl rfl⟩, Nat.le_refl _, by unfold maxLen; omega, fun _ => rfl, fun ad e => by cases e⟩
theorem Po.pv {w : World} {base : Nat} {v : Value} {l : List Px} (h : Po w base v l) : ∃ a c, v = .slice a l.length c ∧ Pv w (fun x => base ≤ x) a l.length c l := by
  obtain ⟨a, c, rfl, hp, h1, h2, h3⟩ := h.ps
  refine ⟨a, c, rfl, hp, h1, h2, h3, fun ad e hn => ?_⟩
  subst e
  have := h.own.lt ad.block rfl
  exact this
end Go.Proofs.Ytlepbncaicpmjaa
