import Derived.Test.YthflghjmpellpaaNB
namespace Go.Proofs.Ythflghjmpellpaa
open Go.RowKit Go.Maps
set_option linter.unusedVariables false
set_option maxRecDepth 100000

/-! A net in memory. -/
def i64r (x : Int) : Prop := -9223372036854775808 ≤ x ∧ x ≤ 9223372036854775807
def fnd (L : List Fl) (k : Int) : Option Fl := L.find? fun x => decide (x.no = k)
def outL (L : List Fl) (k : Int) : List Fl := L.filter fun x => decide (x.no ≠ k)
def flipF (f : Fl) (i : Nat) (v : Int) : Fl := { f with d := f.d.set i (bits .xor .u8 (f.d.getD i 0) v) }
def flipL (L : List Fl) (k : Int) (i : Nat) (v : Int) : List Fl := L.map fun x => if x.no = k then flipF x i v else x
structure NOk (L : List Fl) (g : Int) : Prop where
  ord : L.Pairwise fun x y => x.no < y.no
  rng : ∀ x ∈ L, 1 ≤ x.no ∧ x.no ≤ g
  byt : ∀ x ∈ L, Okb x.d ∧ x.d.length ≤ 65536 ∧ i64r x.to
  cnt : L.length ≤ 1024
  g0 : 0 ≤ g
theorem nok_nil : NOk [] 0 := ⟨List.Pairwise.nil, fun x hx => by simp at hx, fun x hx => by simp at hx, by simp, by omega⟩
theorem NOk.send {L : List Fl} {g to : Int} {d : List Int} (h : NOk L g) (hl : L.length < 1024) (hd : Okb d) (hn : d.length ≤ 65536) (ht : i64r to) : NOk (L ++ [⟨g + 1, to, d⟩]) (g + 1) := by
  refine ⟨?_, ?_, ?_, by simp; omega, by have := h.g0; omega⟩
  · rw [List.pairwise_append]
    refine ⟨h.ord, by simp, fun x hx y hy => ?_⟩
    rw [List.mem_singleton] at hy
    subst hy
    have := (h.rng x hx).2
    show x.no < g + 1
    omega
  · intro x hx
    rcases List.mem_append.1 hx with hx | hx
    · have := h.rng x hx; omega
    · rw [List.mem_singleton] at hx
      subst hx
      have := h.g0
      show 1 ≤ g + 1 ∧ g + 1 ≤ g + 1
      omega
  · intro x hx
    rcases List.mem_append.1 hx with hx | hx
    · exact h.byt x hx
    · rw [List.mem_singleton] at hx
      subst hx
      exact ⟨hd, hn, ht⟩
theorem NOk.out {L : List Fl} {g k : Int} (h : NOk L g) : NOk (outL L k) g :=
  ⟨h.ord.filter _, fun x hx => h.rng x (List.mem_filter.1 hx).1, fun x hx => h.byt x (List.mem_filter.1 hx).1, Nat.le_trans (List.length_filter_le _ _) h.cnt, h.g0⟩
theorem okb_set {ys : List Int} (hb : Okb ys) (i : Nat) (x : Int) (hx : 0 ≤ x ∧ x ≤ 255) : Okb (ys.set i x) := fun z hz => by
  rcases List.mem_or_eq_of_mem_set hz with h | h
  · exact hb z h
  · rw [h]; exact hx
theorem NOk.flip {L : List Fl} {g k v : Int} {i : Nat} (h : NOk L g) : NOk (flipL L k i v) g := by
  have hn : ∀ x : Fl, (if x.no = k then flipF x i v else x).no = x.no := fun x => by split <;> rfl
  refine ⟨?_, ?_, ?_, by simp [flipL]; exact h.cnt, h.g0⟩
  · unfold flipL
    rw [List.pairwise_map]
    exact h.ord.imp fun {x y} e => by rw [hn, hn]; exact e
  · intro x hx
    obtain ⟨y, hy, rfl⟩ := List.mem_map.1 hx
    rw [hn]
    exact h.rng y hy
  · intro x hx
    obtain ⟨y, hy, rfl⟩ := List.mem_map.1 hx
    have hb := h.byt y hy
    split
    · refine ⟨okb_set hb.1 _ _ (xor_byte _ _), ?_, hb.2.2⟩
      show (y.d.set i _).length ≤ _
      rw [List.length_set]
      exact hb.2.1
    · exact hb
def isI (v : Value) : Option Int := match v with
  | .int k n => if k = .i64 then some n else none
  | _ => none
def isS (v : Value) : Option (Option Addr × Nat × Nat) := match v with
  | .slice a n c => some (a, n, c)
  | _ => none
theorem isI_inv {v : Value} {n : Int} (h : isI v = some n) : v = .int .i64 n := by
  unfold isI at h
  split at h
  · split at h
    · rename_i e; subst e; rw [Option.some.inj h]
    · cases h
  · cases h
theorem isS_inv {v : Value} {q : Option Addr × Nat × Nat} (h : isS v = some q) : v = .slice q.1 q.2.1 q.2.2 := by
  unfold isS at h
  split at h
  · rw [← Option.some.inj h]
  · cases h
def RL (l : List Value) (v : Value) : Option (DataW Value × List MemPlace) := match l with
  | [x, y, z] => if (isI x).isSome && (isI y).isSome && (isS z).isSome then some (.held v, []) else none
  | _ => none
def RV (v : Value) : Option (DataW Value × List MemPlace) := match v with
  | .agg cs => RL cs.toList v
  | _ => none
theorem RV_mk (n t : Int) (a : Option Addr) (m c : Nat) : RV (.agg #[.int .i64 n, .int .i64 t, .slice a m c]) = some (.held (.agg #[.int .i64 n, .int .i64 t, .slice a m c]), []) := rfl
theorem RV_inv {v : Value} {y : DataW Value × List MemPlace} (h : RV v = some y) : ∃ n t a m c, v = .agg #[.int .i64 n, .int .i64 t, .slice a m c] ∧ y = (.held (.agg #[.int .i64 n, .int .i64 t, .slice a m c]), []) := by
  unfold RV at h
  split at h
  · rename_i cs
    unfold RL at h
    split at h
    · rename_i x1 x2 x3 e
      split at h
      · rename_i hq
        simp only [Bool.and_eq_true] at hq
        obtain ⟨n, h1⟩ := Option.isSome_iff_exists.1 hq.1.1
        obtain ⟨t, h2⟩ := Option.isSome_iff_exists.1 hq.1.2
        obtain ⟨q, h3⟩ := Option.isSome_iff_exists.1 hq.2
        have e2 : cs = #[.int .i64 n, .int .i64 t, .slice q.1 q.2.1 q.2.2] := by
          rw [← isI_inv h1, ← isI_inv h2, ← isS_inv h3]
          cases cs
          simpa using e
        refine ⟨n, t, q.1, q.2.1, q.2.2, by rw [e2], ?_⟩
        rw [← Option.some.inj h, e2]
      · cases h
    · cases h
  · cases h
theorem lawI : Keyed Try.prog 3 := int_keyed Try.underlying3
theorem lit_wf {k : Int} (h : i64r k) : (Lit.int .i64 k).wf = true := by
  unfold i64r at h
  simp only [Lit.wf, Bool.and_eq_true, decide_eq_true_eq]
  exact h
theorem key_int {k : Int} (h : i64r k) : keyOf Try.prog 3 (.int .i64 k) = some (.int .i64 k) := keyOf_int_mk Try.underlying3 (lit_wf h)
def ff (ds : List FD) (k : Int) : Option FD := ds.find? fun x => decide (x.f.no = k)
theorem ff_fnd (ds : List FD) (k : Int) : fnd (ds.map (·.f)) k = (ff ds k).map (·.f) := by
  unfold fnd ff
  rw [List.find?_map]
  rfl
theorem ff_mem {ds : List FD} {k : Int} {x : FD} (h : ff ds k = some x) : x ∈ ds ∧ x.f.no = k := by
  refine ⟨List.mem_of_find?_eq_some h, ?_⟩
  have := List.find?_some h
  simpa using this
theorem ff_none {ds : List FD} {k : Int} (h : ff ds k = none) : ∀ x ∈ ds, x.f.no ≠ k := by
  intro x hx
  have := List.find?_eq_none.1 h x hx
  simpa using this
theorem ff_of_mem {ds : List FD} (ho : (ds.map (·.f)).Pairwise fun x y => x.no < y.no) {x : FD} (hx : x ∈ ds) : ff ds x.f.no = some x := by
  induction ds with
  | nil => simp at hx
  | cons y l ih =>
    rw [List.map_cons, List.pairwise_cons] at ho
    unfold ff
    rw [List.find?_cons]
    rcases List.mem_cons.1 hx with rfl | hx
    · simp
    · have := ho.1 x.f (List.mem_map_of_mem hx)
      rw [decide_eq_false (by omega)]
      exact ih ho.2 hx
structure Dm (D : DataW Value) (ds : List FD) : Prop where
  size : Maps.size D = ds.length
  has : ∀ k : Int, Maps.has D (.int .i64 k) = (ff ds k).isSome
  val : ∀ k x, ff ds k = some x → ∀ z, D.atKey (.int .i64 k) z = .held (fag x)
theorem lit_ne {k k' : Int} (h : k ≠ k') : Lit.int .i64 k ≠ Lit.int .i64 k' := fun e => h (by injection e)
theorem isKey (k : Int) : WideAt.IsKeyLit (.int .i64 k) := trivial
theorem Dm.nil : Dm (.map []) [] := ⟨rfl, fun k => rfl, fun k x h => by cases h⟩
theorem ff_app (ds : List FD) (x : FD) (k : Int) (hn : ff ds x.f.no = none) : ff (ds ++ [x]) k = if k = x.f.no then some x else ff ds k := by
  unfold ff at *
  rw [List.find?_append]
  by_cases e : k = x.f.no
  · subst e
    rw [if_pos rfl, hn]
    simp
  · rw [if_neg e]
    have : (List.find? (fun y => decide (y.f.no = k)) [x]) = none := by simp [Ne.symm e]
    rw [this]
    simp
theorem Dm.put {D : DataW Value} {ds : List FD} {x : FD} (h : Dm D ds) (hT : Maps.Tidy D) (hn : ff ds x.f.no = none) : Dm (D.put (.int .i64 x.f.no) (.held (fag x))) (ds ++ [x]) := by
  refine ⟨?_, fun k => ?_, fun k y hy z => ?_⟩
  · rw [size_put hT, h.has, hn, h.size]
    simp
  · rw [ff_app ds x k hn]
    by_cases e : k = x.f.no
    · subst e
      rw [has_put_same hT.isMap (isKey _), if_pos rfl]
      rfl
    · rw [has_put_other (lit_ne e), if_neg e, h.has]
  · rw [ff_app ds x k hn] at hy
    by_cases e : k = x.f.no
    · subst e
      rw [if_pos rfl] at hy
      obtain rfl := Option.some.inj hy
      exact atKey_put_same hT.isMap (isKey _) _ _
    · rw [if_neg e] at hy
      rw [atKey_put_other (lit_ne e)]
      exact h.val k y hy z
def outD (ds : List FD) (k : Int) : List FD := ds.filter fun x => decide (x.f.no ≠ k)
theorem outD_map (ds : List FD) (k : Int) : (outD ds k).map (·.f) = outL (ds.map (·.f)) k := by
  unfold outD outL
  rw [List.filter_map]
  rfl
theorem ff_out (ds : List FD) (k k' : Int) : ff (outD ds k) k' = if k' = k then none else ff ds k' := by
  unfold ff outD
  rw [List.find?_filter]
  by_cases e : k' = k
  · subst e
    rw [if_pos rfl, List.find?_eq_none]
    intro x _
    by_cases h : x.f.no = k' <;> simp [h]
  · rw [if_neg e]
    congr 1
    funext x
    by_cases h : x.f.no = k'
    · simp [h, e]
    · simp [h]
theorem len_out {ds : List FD} (ho : (ds.map (·.f)).Pairwise fun x y => x.no < y.no) {k : Int} {x : FD} (h : ff ds k = some x) : (outD ds k).length + 1 = ds.length := by
  induction ds with
  | nil => cases h
  | cons y l ih =>
    rw [List.map_cons, List.pairwise_cons] at ho
    unfold ff at h
    rw [List.find?_cons] at h
    unfold outD
    rw [List.filter_cons]
    by_cases e : y.f.no = k
    · rw [if_neg (by simp [e])]
      have : l.filter (fun x => decide (x.f.no ≠ k)) = l := by
        rw [List.filter_eq_self]
        intro z hz
        have := ho.1 z.f (List.mem_map_of_mem hz)
        simp
        omega
      rw [this]
      rfl
    · rw [if_pos (by simpa using e)]
      rw [decide_eq_false e] at h
      have := ih ho.2 h
      show (outD l k).length + 1 + 1 = l.length + 1
      omega
theorem Dm.drop {D : DataW Value} {ds : List FD} {k : Int} {x : FD} (h : Dm D ds) (hT : Maps.Tidy D) (ho : (ds.map (·.f)).Pairwise fun x y => x.no < y.no) (hf : ff ds k = some x) : Dm (D.del (.int .i64 k)) (outD ds k) := by
  refine ⟨?_, fun k' => ?_, fun k' y hy z => ?_⟩
  · have h1 := size_del (k := Lit.int .i64 k) hT
    have h2 := len_out ho hf
    rw [h.has k, hf, h.size] at h1
    simp at h1
    omega
  · rw [ff_out]
    by_cases e : k' = k
    · subst e
      rw [has_del_same, if_pos rfl]
      rfl
    · rw [has_del_other (lit_ne e), if_neg e, h.has]
  · rw [ff_out] at hy
    by_cases e : k' = k
    · rw [if_pos e] at hy; cases hy
    · rw [if_neg e] at hy
      rw [atKey_del_other (lit_ne e)]
      exact h.val k' y hy z
theorem tight {w : World} {b n : Nat} {D : DataW Value} (h : w.ownsMap Try.prog 3 RV b n D) : w.ownsMap Try.prog 3 RV b (Maps.size D) D := by
  obtain ⟨es, clock, hb, F, hs, hD⟩ := h
  refine ⟨es, clock, hb, F, ?_, hD⟩
  rw [hD]
  simp [Maps.size, length_sorted]
theorem own_same {w w' : World} {b n : Nat} {D : DataW Value} (h : w.ownsMap Try.prog 3 RV b n D) (hk : w'.heap[b]? = w.heap[b]?) : w'.ownsMap Try.prog 3 RV b n D := by
  obtain ⟨es, clock, hb, F, hs, hD⟩ := h
  exact ⟨es, clock, hk.trans hb, F, hs, hD⟩
theorem row_same {w w' : World} {B e sz n : Nat} {v : Value} {xs : List Value} (h : w.ownsRow B e sz v n xs) (hk : ∀ k, v.ownBlock = some k → w'.heap[k]? = w.heap[k]?) : w'.ownsRow B e sz v n xs := by
  refine ⟨h.1, ?_⟩
  rcases h.2 with hn | ⟨g, cap, cur, rfl, hg, hc, h1⟩
  · exact .inl hn
  · exact .inr ⟨g, cap, cur, rfl, hg, (hk g rfl).trans hc, h1⟩
theorem row_type {w : World} {B e sz n : Nat} {v : Value} {xs : List Value} (h : w.ownsRow B e sz v n xs) {k : Nat} (hk : v.ownBlock = some k) : ∃ cur, w.heap[k]? = some (.cells cur e (0, 0)) := by
  rcases h.2 with ⟨rfl, _⟩ | ⟨g, cap, cur, rfl, hg, hc, h1⟩
  · simp [Value.ownBlock] at hk
  · obtain rfl : g = k := by simpa [Value.ownBlock] using hk
    exact ⟨cur, hc⟩
def Nb (w : World) (p b : Nat) (g : Int) : Prop := w.heap[p]? = some (.cells #[.map (some b), .int .i64 g] 50 (0, 0))
theorem Nb.c0 {w : World} {p b : Nat} {g : Int} (k : Nb w p b g) : w.cell? ⟨p, 0, none⟩ = some (.map (some b)) := (cell_of_row _ _ 0 _ _ (0, 0) k).trans rfl
theorem Nb.c1 {w : World} {p b : Nat} {g : Int} (k : Nb w p b g) : w.cell? ⟨p, 1, none⟩ = some (.int .i64 g) := (cell_of_row _ _ 1 _ _ (0, 0) k).trans rfl
theorem Nb.fz {w : World} {p b : Nat} {g : Int} (k : Nb w p b g) (i : Nat) : w.frozen? ⟨p, i, none⟩ = false := by unfold Nb at k; simp [World.frozen?, k]
theorem Nb.lt {w : World} {p b : Nat} {g : Int} (k : Nb w p b g) : p < w.heap.size := (Array.getElem?_eq_some_iff.1 k).1
theorem Nb.s1 {w : World} {p b : Nat} {g : Int} (k : Nb w p b g) (x : Int) : Nb (w.setCell ⟨p, 1, none⟩ (.int .i64 x)) p b x := by unfold Nb at *; simp [World.setCell, Array.getElem?_modify, k]
def Apart (ds : List FD) : Prop := ds.Pairwise fun x y => ∀ k, (fv x).ownBlock = some k → (fv y).ownBlock ≠ some k
/-- A net: what it reaches lies in F. -/
structure Nt (w : World) (F : Nat → Prop) (p b : Nat) (ds : List FD) (g : Int) : Prop where
  blk : Nb w p b g
  map : ∃ D, w.ownsMap Try.prog 3 RV b (Maps.size D) D ∧ Dm D ds
  own : ∀ x ∈ ds, w.ownsRow 0 5 1 (fv x) x.f.d.length (cells x.f.d)
  apart : Apart ds
  fp : F p
  fb : F b
  fd : ∀ x ∈ ds, ∀ k, (fv x).ownBlock = some k → F k
  lt : ∀ k, F k → k < w.heap.size
  ok : NOk (ds.map (·.f)) g
section
variable {w w' : World} {F Y : Nat → Prop} {p b : Nat} {ds : List FD} {g : Int}
theorem Nt.same (h : Nt w F p b ds g) (hk : ∀ k, F k → w'.heap[k]? = w.heap[k]?) (hs : w.heap.size ≤ w'.heap.size) : Nt w' F p b ds g := by
  obtain ⟨D, h1, h2⟩ := h.map
  exact ⟨(hk p h.fp).trans h.blk, ⟨D, own_same h1 (hk b h.fb), h2⟩, fun x hx => row_same (h.own x hx) fun k e => hk k (h.fd x hx k e), h.apart, h.fp, h.fb, h.fd, fun k e => Nat.lt_of_lt_of_le (h.lt k e) hs, h.ok⟩
theorem Nt.fx (h : Nt w F p b ds g) (hf : Fx Y w w') (hd : ∀ k, F k → ¬ Y k) : Nt w' F p b ds g := h.same (fun k e => hf.block k (h.lt k e) (hd k e)) hf.size
theorem Nt.on (h : Nt w F p b ds g) (hb : Below w.heap.size w w') : Nt w' F p b ds g := h.same (fun k e => hb.block k (h.lt k e)) hb.size
theorem Nt.wide (h : Nt w F p b ds g) (hF : ∀ k, F k → Y k) (hl : ∀ k, Y k → k < w.heap.size) : Nt w Y p b ds g := ⟨h.blk, h.map, h.own, h.apart, hF _ h.fp, hF _ h.fb, fun x hx k e => hF k (h.fd x hx k e), hl, h.ok⟩
theorem Nt.vs (h : Nt w F p b ds g) {x : FD} (hx : x ∈ ds) : Vs w F x.a x.f.d.length x.c x.f.d := by
  have ho := h.own x hx
  obtain ⟨a, c, e, h1, h2, h3, h4⟩ := own_addr ho
  obtain ⟨rfl, rfl⟩ : x.a = a ∧ x.c = c := by simpa [fv] using e
  obtain ⟨a, c, e2, hv⟩ := Vs.own ho (h.ok.byt _ (List.mem_map_of_mem hx)).1
  obtain ⟨rfl, rfl⟩ : x.a = a ∧ x.c = c := by simpa [fv] using e2
  exact hv.wide fun k _ e => h.fd x hx k e
end
/-- The footprint behind a step. -/
def Gr (F : Nat → Prop) (w w' : World) : Nat → Prop := fun k => (F k ∨ w.heap.size ≤ k) ∧ k < w'.heap.size
/-- v, ok := m[k]. -/
theorem zeroF (w : World) : (zeroValue 34).run Try.prog w = .ok (.agg #[.int .i64 0, .int .i64 0, .slice none 0 0]) w := by kernel_rfl
theorem wp_look_yes {w : World} {ops : Array Oper} {rest : List Oper} {o : Oper} {a : Act} {Q : Exit → Act → World → Prop} (hg : o.guard = none) (m x : Operand) (hop : o.op = Op.lookup 48 m x true)
    (b n : Nat) (D : DataW Value) (ds : List FD) (hm : a.eval m = .map (some b)) (h1 : w.ownsMap Try.prog 3 RV b n D) (h2 : Dm D ds) (k : Int) (hk : i64r k) (hx : a.eval x = .int .i64 k) (y : FD) (hf : ff ds k = some y)
    (hK : wpList Try.prog ops Q rest (a.put o.dst (.tuple #[.agg #[.int .i64 y.f.no, .int .i64 y.f.to, .slice y.a y.f.d.length y.c], .bool true])) w) :
    wpList Try.prog ops Q (o :: rest) a w := by
  refine wpList_lookup_own_ok w hg m x 48 hop 3 34 lawI Try.underlying48 RV (zeroF w) _ _ (RV_mk 0 0 none 0 0) b n D hm h1 _ (.int .i64 k) hx (key_int hk) ?_
  intro v ps hv
  rw [h2.has k, hf]
  rw [h2.val k y hf] at hv
  obtain ⟨n, t, a, m, c, rfl, e⟩ := RV_inv hv
  have e1 : DataW.held (fag y) = .held (.agg #[.int .i64 n, .int .i64 t, .slice a m c]) := congrArg Prod.fst e
  injection e1 with e1
  rw [← e1]
  exact hK
theorem wp_look_no {w : World} {ops : Array Oper} {rest : List Oper} {o : Oper} {a : Act} {Q : Exit → Act → World → Prop} (hg : o.guard = none) (m x : Operand) (hop : o.op = Op.lookup 48 m x true)
    (b n : Nat) (D : DataW Value) (ds : List FD) (hm : a.eval m = .map (some b)) (h1 : w.ownsMap Try.prog 3 RV b n D) (h2 : Dm D ds) (k : Int) (hk : i64r k) (hx : a.eval x = .int .i64 k) (hf : ff ds k = none)
    (hK : wpList Try.prog ops Q rest (a.put o.dst (.tuple #[.agg #[.int .i64 0, .int .i64 0, .slice none 0 0], .bool false])) w) :
    wpList Try.prog ops Q (o :: rest) a w := by
  refine wpList_lookup_own_ok w hg m x 48 hop 3 34 lawI Try.underlying48 RV (zeroF w) _ _ (RV_mk 0 0 none 0 0) b n D hm h1 _ (.int .i64 k) hx (key_int hk) ?_
  intro v ps hv
  have hn : Maps.has D (.int .i64 k) = false := by rw [h2.has k, hf]; rfl
  rw [hn]
  rw [atKey_of_not_has hn] at hv
  obtain ⟨n, t, a, m, c, rfl, e⟩ := RV_inv hv
  have e1 := congrArg Prod.fst e
  injection e1 with e1
  rw [← e1]
  exact hK
end Go.Proofs.Ythflghjmpellpaa
