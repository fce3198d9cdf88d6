import Derived.Test.YthflghjmpellpaaNA
namespace Go.Proofs.Ythflghjmpellpaa
open Go.RowKit Go.Maps
set_option linter.unusedVariables false
set_option maxRecDepth 100000

/-! Flights. -/
structure Fl where
  no : Int
  to : Int
  d : List Int
deriving DecidableEq
def fl0 : Fl := ⟨0, 0, []⟩
instance : Inhabited Fl := ⟨fl0⟩
structure FD where
  f : Fl
  a : Option Addr
  c : Nat
instance : Inhabited FD := ⟨⟨fl0, none, 0⟩⟩
def fv (x : FD) : Value := .slice x.a x.f.d.length x.c
def fag (x : FD) : Value := .agg #[.int .i64 x.f.no, .int .i64 x.f.to, fv x]
def fdc (x : FD) : List Value := [.int .i64 x.f.no, .int .i64 x.f.to, fv x]
def fds (ds : List FD) : List Value := ds.flatMap fdc
theorem fds_length : ∀ ds : List FD, (fds ds).length = ds.length * 3
  | [] => rfl
  | x :: l => by
    have ih := fds_length l
    show (fdc x ++ fds l).length = _
    rw [List.length_append, ih]
    simp [fdc]
    omega
theorem fds_app (a b : List FD) : fds (a ++ b) = fds a ++ fds b := by simp [fds]
theorem fds_one (ds : List FD) : ∀ v ∈ fds ds, v.oneCell' = true := by
  intro v hv
  obtain ⟨x, _, hx⟩ := List.mem_flatMap.1 hv
  simp [fdc, fv] at hx
  rcases hx with rfl | rfl | rfl <;> rfl
theorem fds_get : ∀ (ds : List FD) (i : Nat) (hi : i < ds.length) (j : Nat), j < 3 → (fds ds)[i * 3 + j]? = (fdc ds[i])[j]?
  | x :: l, 0, _, j, hj => by
    show (fdc x ++ fds l)[0 * 3 + j]? = _
    rw [Nat.zero_mul, Nat.zero_add, List.getElem?_append_left (by simp [fdc]; omega)]
    rfl
  | x :: l, i + 1, hi, j, hj => by
    show (fdc x ++ fds l)[(i + 1) * 3 + j]? = _
    rw [List.getElem?_append_right (by simp [fdc]; omega)]
    have := fds_get l i (by simpa using hi) j hj
    rw [show (i + 1) * 3 + j - (fdc x).length = i * 3 + j from by simp [fdc]; omega, this]
    rfl
theorem fds_take (ds : List FD) (k : Nat) : (fds ds).take (k * 3) = fds (ds.take k) := by
  induction ds generalizing k with
  | nil => simp [fds]
  | cons x l ih =>
    cases k with
    | zero => simp [fds]
    | succ k =>
      show (fdc x ++ fds l).take ((k + 1) * 3) = fdc x ++ fds (l.take k)
      rw [List.take_append, show (k + 1) * 3 - (fdc x).length = k * 3 from by simp [fdc]; omega, ih, List.take_of_length_le (by simp [fdc]; omega)]
theorem fds_drop (ds : List FD) (k : Nat) : (fds ds).drop (k * 3) = fds (ds.drop k) := by
  induction ds generalizing k with
  | nil => simp [fds]
  | cons x l ih =>
    cases k with
    | zero => simp [fds]
    | succ k =>
      show (fdc x ++ fds l).drop ((k + 1) * 3) = fds (l.drop k)
      rw [List.drop_append, show (k + 1) * 3 - (fdc x).length = k * 3 from by simp [fdc]; omega, ih, List.drop_of_length_le (by simp [fdc]; omega)]
      rfl
theorem infoF : (Try.prog.info? 34).map (fun i => (i.zero, i.size, i.bytes)) = some (some (.agg #[.int .i64 0, .int .i64 0, .slice none 0 0]), 3, 40) := by kernel_rfl
/-- Flights that can be read. -/
def FlAt (w : World) (V : Nat → Prop) (b o : Nat) (f : Fl) : Prop := ∃ da dc, w.cell? ⟨b, o, none⟩ = some (.int .i64 f.no) ∧ w.cell? ⟨b, o + 1, none⟩ = some (.int .i64 f.to) ∧ w.cell? ⟨b, o + 2, none⟩ = some (.slice da f.d.length dc) ∧ Vs w V da f.d.length dc f.d
structure Fls (w : World) (V : Nat → Prop) (a : Option Addr) (n : Nat) (l : List Fl) : Prop where
  len : l.length = n
  cells : n = 0 ∨ ∃ b off, a = some ⟨b, off, none⟩ ∧ V b ∧ ∀ i, i < n → FlAt w V b (off + i * 3) (l.getD i fl0)
theorem cell_not_map {w : World} {b o : Nat} {v : Value} (h : w.cell? ⟨b, o, none⟩ = some v) (es : Array MapEntry) (cl : Nat) : w.heap[b]? ≠ some (.map es cl) := by
  intro e
  simp [World.cell?, e] at h
theorem FlAt.step {w w' : World} {V : Nat → Prop} {b o : Nat} {f : Fl} (h : FlAt w V b o f) (hb : V b) (hk : ∀ x, x < w.heap.size → V x → (∀ es cl, w.heap[x]? ≠ some (.map es cl)) → w'.heap[x]? = w.heap[x]?) : FlAt w' V b o f := by
  obtain ⟨da, dc, h1, h2, h3, h4⟩ := h
  have e := hk b (World.block_lt_of_cell? w _ h1) hb (cell_not_map h1)
  exact ⟨da, dc, (World.cell?_of_block (w := w) (a := ⟨b, o, none⟩) e).trans h1, (World.cell?_of_block (w := w) (a := ⟨b, o + 1, none⟩) e).trans h2, (World.cell?_of_block (w := w) (a := ⟨b, o + 2, none⟩) e).trans h3, h4.step hk⟩
theorem Fls.step {w w' : World} {V : Nat → Prop} {a : Option Addr} {n : Nat} {l : List Fl} (h : Fls w V a n l) (hk : ∀ x, x < w.heap.size → V x → (∀ es cl, w.heap[x]? ≠ some (.map es cl)) → w'.heap[x]? = w.heap[x]?) : Fls w' V a n l := by
  refine ⟨h.len, ?_⟩
  rcases h.cells with h0 | ⟨b, off, e, hb, hc⟩
  · exact .inl h0
  · exact .inr ⟨b, off, e, hb, fun i hi => (hc i hi).step hb hk⟩
theorem Fls.below {w w' : World} {V : Nat → Prop} {a : Option Addr} {n : Nat} {l : List Fl} (h : Fls w V a n l) (hg : Below w.heap.size w w') : Fls w' V a n l := h.step fun x hx _ _ => hg.block x hx
theorem FlAt.wide {w : World} {V V' : Nat → Prop} {b o : Nat} {f : Fl} (h : FlAt w V b o f) (hV : ∀ x, x < w.heap.size → V x → V' x) : FlAt w V' b o f := by
  obtain ⟨da, dc, h1, h2, h3, h4⟩ := h
  exact ⟨da, dc, h1, h2, h3, h4.wide hV⟩
theorem Fls.wide {w : World} {V V' : Nat → Prop} {a : Option Addr} {n : Nat} {l : List Fl} (h : Fls w V a n l) (hV : ∀ x, x < w.heap.size → V x → V' x) : Fls w V' a n l := by
  refine ⟨h.len, ?_⟩
  rcases h.cells with h0 | ⟨b, off, e, hb, hc⟩
  · exact .inl h0
  · by_cases h0 : n = 0
    · exact .inl h0
    · refine .inr ⟨b, off, e, hV b ?_ hb, fun i hi => (hc i hi).wide hV⟩
      obtain ⟨_, _, h1, _⟩ := hc 0 (by omega)
      exact World.block_lt_of_cell? w _ h1
theorem Fls.at {w : World} {V : Nat → Prop} {a : Option Addr} {n k : Nat} {l : List Fl} (h : Fls w V a n l) (hk : k < n) : ∃ b off da dc dn, a = some ⟨b, off, none⟩ ∧ dn = (l.getD k fl0).d.length ∧ w.cell? ⟨b, off + k * 3, none⟩ = some (.int .i64 (l.getD k fl0).no) ∧ w.cell? ⟨b, off + k * 3 + 1, none⟩ = some (.int .i64 (l.getD k fl0).to) ∧ w.cell? ⟨b, off + k * 3 + 2, none⟩ = some (.slice da dn dc) ∧ Vs w V da dn dc (l.getD k fl0).d := by
  rcases h.cells with h0 | ⟨b, off, e, hb, hc⟩
  · omega
  · obtain ⟨da, dc, h1, h2, h3, h4⟩ := hc k hk
    exact ⟨b, off, da, dc, _, e, rfl, h1, h2, h3, h4⟩
def Fv (w : World) (V : Nat → Prop) (x : FD) : Prop := Vs w V x.a x.f.d.length x.c x.f.d
theorem Fls.ofOwn {w : World} {B : Nat} {V : Nat → Prop} {v : Value} {ds : List FD} (h : w.ownsRow B 34 3 v ds.length (fds ds)) (hV : ∀ d ∈ ds, Fv w V d) (hB : ∀ x, B ≤ x → x < w.heap.size → v.ownBlock = some x → V x) : ∃ a c, v = .slice a ds.length c ∧ Fls w V a ds.length (ds.map (·.f)) ∧ ds.length ≤ c ∧ c ≤ maxLen ∧ (a = none → c = 0) := by
  obtain ⟨a, c, rfl, h1, h2, h3, h4⟩ := own_addr h
  refine ⟨a, c, rfl, ⟨by simp, ?_⟩, h1, h2, h3⟩
  rcases h4 with ⟨_, h0⟩ | ⟨g, rfl, hg, hgl, hc⟩
  · exact .inl h0
  · refine .inr ⟨g, 0, rfl, hB g hg hgl rfl, fun i hi => ?_⟩
    have e : (ds.map (·.f)).getD i fl0 = ds[i].f := by simp [List.getD, hi]
    have hd := hV ds[i] (List.getElem_mem hi)
    rw [e, Nat.zero_add]
    refine ⟨ds[i].a, ds[i].c, hc _ _ ?_, hc _ _ ?_, hc _ _ ?_, hd⟩
    · exact fds_get ds i hi 0 (by decide)
    · exact fds_get ds i hi 1 (by decide)
    · exact fds_get ds i hi 2 (by decide)
/-- One more behind a row of one's own. -/
theorem wpList_appF {w : World} {ops : Array Oper} {rest : List Oper} {o : Oper} {act : Act} {Q : Exit → Act → World → Prop} (hgd : o.guard = none) (s x : Operand)
    (ho : o.op = .call { callee := .builtin .append, args := #[s, x], argTypes := #[26, 26] })
    (base : Nat) (v : Value) (ds : List FD) (hs : act.eval s = v) (hown : w.ownsRow base 34 3 v ds.length (fds ds)) (g : Nat) (d : FD) (hx : act.eval x = .slice (some ⟨g, 0, none⟩) 1 1)
    (hg : ∀ j u, (fdc d)[j]? = some u → w.cell? ⟨g, j, none⟩ = some u) (hlen : ds.length ≤ 1000000000) (hbase : base ≤ w.heap.size)
    (h : ∀ v' w', w'.ownsRow base 34 3 v' (ds ++ [d]).length (fds (ds ++ [d])) → w.grownBy w' v.ownBlock → (v'.ownBlock = v.ownBlock ∨ v'.ownBlock = some w.heap.size) → wpList Try.prog ops Q rest (act.put o.dst v') w') : wpList Try.prog ops Q (o :: rest) act w := by
  obtain ⟨i, hi, hz0, hz1, hz2⟩ := info_parts infoF
  refine wpList_append_own_at _ hgd s x 26 ho base 34 i _ 3 40 Try.underlying26 hi hz0 hz1 hz2 rfl (by decide) v ds.length (fds ds) hs hown ⟨g, 0, none⟩ 1 1 (fdc d) hx rfl ?c1 ?c2 (by unfold maxLen; omega) (by omega) hbase ?_
  case c1 =>
    intro j u hj
    rw [Addr.add_lit, Nat.zero_add]
    exact hg j u hj
  case c2 =>
    intro u hu
    exact fds_one [d] u (by simpa [fds] using hu)
  intro v' w' h1 h2 _ h4
  refine h v' w' ?_ h2 h4
  rw [List.length_append, List.length_singleton, fds_app]
  simpa [fds] using h1
end Go.Proofs.Ythflghjmpellpaa
