import Derived.Test.YtkeogggeefnoeaaGreatDoorE1
import Derived.Test.YtkeogggeefnoeaaGreatDoorN26
import Derived.Test.YtkeogggeefnoeaaGreatDoorN22
namespace Go.Proofs.YtkeogggeefnoeaaGreatDoor
set_option linter.unusedSimpArgs false
open Go.RowKit Go.Shelf Go.Maps
set_option linter.unusedVariables false
set_option maxRecDepth 100000

/-! The document's copies. -/
theorem mem_getDE {α : Type} {l : List α} {j : Nat} (d : α) (h : j < l.length) : l.getD j d ∈ l := by
  rw [show l.getD j d = l[j] from by simp [List.getD, h]]
  exact List.getElem_mem h
theorem take_getDE {α : Type} {l : List α} {j : Nat} (d : α) (h : j < l.length) : l.take (j + 1) = l.take j ++ [l.getD j d] := by
  rw [List.take_add_one, List.getElem?_eq_getElem h]
  simp [List.getD, h]
theorem bel_ownE {w0 w w' : World} {t : TypeId} {n sz : Nat} {v : Value} {xs : List Value} (B : Below w0.heap.size w0 w) (o : w.ownsRow w0.heap.size t sz v n xs) (G : w.grownBy w' v.ownBlock) : Below w0.heap.size w0 w' :=
  ⟨G.os.trans B.os, G.tape.trans B.tape, G.output.trans B.output, Nat.le_trans B.size G.size, fun b hb => (G.block b (Nat.lt_of_lt_of_le hb B.size) (fun q => by
    have := (o.lt b q.symm).1
    omega)).trans (B.block b hb)⟩
theorem cell1_newE (w : World) (u : Value) (t : TypeId) : (w.alloc (.cells #[u] t)).cell? ⟨w.heap.size, 0, none⟩ = some u := by
  have h : (w.alloc (.cells #[u] t)).heap[w.heap.size]? = some (.cells #[u] t (0, 0)) := heap_alloc_new w _
  exact (cell_of_row _ _ 0 _ t (0, 0) h).trans rfl
theorem cells2_newE (w : World) (u v : Value) (t : TypeId) : (w.alloc (.cells #[u, v] t)).cell? ⟨w.heap.size, 0, none⟩ = some u ∧ (w.alloc (.cells #[u, v] t)).cell? ⟨w.heap.size, 1, none⟩ = some v := by
  have h : (w.alloc (.cells #[u, v] t)).heap[w.heap.size]? = some (.cells #[u, v] t (0, 0)) := heap_alloc_new w _
  exact ⟨(cell_of_row _ _ 0 _ t (0, 0) h).trans rfl, (cell_of_row _ _ 1 _ t (0, 0) h).trans rfl⟩
theorem kps_own {w : World} {S n c : Nat} {a : Option Addr} {l : List Bool} (h : w.ownsRow S 4 1 (.slice a n c) n (l.map Value.bool)) (hn : l.length = n) : Kps w (fun x => S ≤ x) a n l := by
  refine ⟨hn, ls_own h _ (fun i hi j u hu => ?_)⟩
  match j, hu with
  | 0, hu => simp at hu; subst hu; simp [List.getD, show i < l.length by omega]
  | j + 1, hu => simp at hu
theorem map_takeE {ks : List Bool} {j : Nat} (h : j < ks.length) : (ks.take (j + 1)).map Value.bool = (ks.take j).map Value.bool ++ [.bool (ks.getD j false)] := by
  rw [take_getDE false h, List.map_append]; rfl
theorem frow_takeE {fs : List (Int × Int)} {j : Nat} (h : j < fs.length) : frow (fs.take (j + 1)) = frow (fs.take j) ++ [.int .i64 (fs.getD j (0, 0)).1, .int .i64 (fs.getD j (0, 0)).2] := by
  rw [take_getDE (0, 0) h]
  simp [frow]
theorem wpList_appK {ops : Array Oper} {rest : List Oper} {o : Oper} {a : Act} {w : World} {Q : Exit → Act → World → Prop} (hgd : o.guard = none) (s x : Operand)
    (ho : o.op = .call { callee := .builtin .append, args := #[s, x], argTypes := #[51, 51] }) (B : Nat) (v : Value) (n : Nat) (xs : List Value) (b : Bool) (gb : Nat)
    (hs : a.eval s = v) (hown : w.ownsRow B 4 1 v n xs) (hx : a.eval x = .slice (some ⟨gb, 0, none⟩) 1 1) (hc0 : w.cell? ⟨gb, 0, none⟩ = some (.bool b)) (hn : n + 1 ≤ 140737488355328) (hB : B ≤ w.heap.size)
    (h : ∀ v' w', Hid (w'.ownsRow B 4 1 v' (n + 1) (xs ++ [.bool b])) → Hid (w.grownBy w' v.ownBlock) → wpList Tryz.prog ops Q rest (a.put o.dst v') w') : wpList Tryz.prog ops Q (o :: rest) a w := by
  obtain ⟨i, hi, hz0, hz1, hz2⟩ := info_parts infoB
  refine wpList_append_own _ hgd s x 51 ho B 4 i _ 1 1 Tryz.underlying51 hi hz0 hz1 hz2 rfl (by decide) v n xs hs hown ⟨gb, 0, none⟩ 1 1 [.bool b] hx rfl ?_ ?_ (by unfold maxLen; omega) (by omega) hB ?_
  · intro j u hj
    match j, hj with
    | 0, hj => simp at hj; subst hj; exact hc0
  · intro u hu
    simp at hu
    subst hu
    rfl
  · intro v' w' h1 h2 _
    exact h v' w' h1 h2
theorem wpList_appF {ops : Array Oper} {rest : List Oper} {o : Oper} {a : Act} {w : World} {Q : Exit → Act → World → Prop} (hgd : o.guard = none) (s x : Operand)
    (ho : o.op = .call { callee := .builtin .append, args := #[s, x], argTypes := #[50, 50] }) (B : Nat) (v : Value) (n : Nat) (xs : List Value) (A K : Int) (gb : Nat)
    (hs : a.eval s = v) (hown : w.ownsRow B 72 2 v n xs) (hx : a.eval x = .slice (some ⟨gb, 0, none⟩) 1 1) (hc0 : w.cell? ⟨gb, 0, none⟩ = some (.int .i64 A)) (hc1 : w.cell? ⟨gb, 1, none⟩ = some (.int .i64 K)) (hn : (n + 1) * 16 ≤ 140737488355328) (hB : B ≤ w.heap.size)
    (h : ∀ v' w', Hid (w'.ownsRow B 72 2 v' (n + 1) (xs ++ [.int .i64 A, .int .i64 K])) → Hid (w.grownBy w' v.ownBlock) → wpList Tryz.prog ops Q rest (a.put o.dst v') w') : wpList Tryz.prog ops Q (o :: rest) a w := by
  obtain ⟨i, hi, hz0, hz1, hz2⟩ := info_parts infoFt
  refine wpList_append_own _ hgd s x 50 ho B 72 i _ 2 16 Tryz.underlying50 hi hz0 hz1 hz2 rfl (by decide) v n xs hs hown ⟨gb, 0, none⟩ 1 1 [.int .i64 A, .int .i64 K] hx rfl ?_ ?_ (by unfold maxLen; omega) hn hB ?_
  · intro j u hj
    match j, hj with
    | 0, hj => simp at hj; subst hj; exact hc0
    | 1, hj => simp at hj; subst hj; exact hc1
  · intro u hu
    simp at hu
    rcases hu with rfl | rfl <;> rfl
  · intro v' w' h1 h2 _
    exact h v' w' h1 h2
set_option maxHeartbeats 1000000 in
theorem rbools_ {V : Nat → Prop} (a : Option Addr) (m c : Nat) (ks : List Bool) (w : World) (h : Kps w V a m ks) (hm : m ≤ 140737488355327) :
    Calls Tryz.prog 48 #[.slice a m c] w fun en w' => ∃ a' p', en = .returned (.slice a' m p') ∧ Kps w' (fun x => w.heap.size ≤ x) a' m ks ∧ m ≤ p' ∧ Below w.heap.size w w' := by
  have hl := h.1
  have HF := hid h
  clear h
  go_enter Tryz.func48, Tryz.ntmps48
  go_wp2_with fail
  go_loopw [3, 4] (fun u i wr => ∃ j : Nat, j ≤ m ∧ i = .int .i64 j ∧ wr.ownsRow w.heap.size 4 1 u j (List.map Value.bool (ks.take j)) ∧ Below w.heap.size w wr) (fun _ i _ => m - (intOf i).toNat)
  case atStart => exact ⟨0, Nat.zero_le _, rfl, World.ownsRow_nil _ _ _ _, Below.refl _ _⟩
  case round =>
    obtain ⟨j, hj, rfl, ho, hb⟩ := hrel
    by_cases hlt : j < m
    · have hjI : (j : Int) < (m : Int) := by omega
      obtain ⟨b, off, rfl, hcs⟩ : ∃ b off, a = some ⟨b, off, none⟩ ∧ _ := (HF.out.2.cells hb).resolve_left (by omega)
      have x0 := hcs j hlt 0 _ rfl
      rw [Nat.mul_one, Nat.add_zero] at x0
      have HT := hid (map_takeE (show j < ks.length by omega))
      generalize ks.getD j false = f at *
      have BA : Below wr.heap.size wr (wr.alloc (.cells #[.bool f] 4)) := (Below.refl _ _).alloc (Nat.le_refl _) _
      have OA := hid (ho.alloc (.cells #[.bool f] 4))
      have HB := hid (bel_bel hb hb.size BA)
      have hsz : w.heap.size ≤ (wr.alloc (.cells #[.bool f] 4)).heap.size := HB.out.size
      clear ho hb hcs BA
      go_wp2_with (at_builtin; refine wpList_appK rfl _ _ rfl w.heap.size _ j (List.map Value.bool (ks.take j)) f wr.heap.size rfl (by exact OA.out) rfl (by exact cell1_newE wr _ _) (by omega) hsz ?_; intro v' w' o' G'; have HB2 := hid (bel_ownE HB.out OA.out G'.out))
      go_roundw
      case rel => exact ⟨j + 1, by omega, by go_num, by rw [HT.out]; exact o'.out, HB2.out⟩
      case measure => simp [intOf]; omega
    · have hjI : ¬ (j : Int) < (m : Int) := by omega
      have hjm : j = m := by omega
      subst hjm
      rw [List.take_of_length_le (by omega)] at ho
      have HO := hid ho
      have HB := hid hb
      clear ho hb
      go_wp2_with fail
      go_ret
      obtain ⟨a', p', rfl, h1, _⟩ := own_slice HO.out
      exact ⟨a', p', rfl, kps_own HO.out hl, h1, HB.out⟩
set_option maxHeartbeats 1000000 in
theorem rfaults_ {V : Nat → Prop} (a : Option Addr) (m c : Nat) (ks : List (Int × Int)) (w : World) (h : Fts w V a m ks) (hm : m * 16 ≤ 140737488351232) :
    Calls Tryz.prog 47 #[.slice a m c] w fun en w' => ∃ a' p', en = .returned (.slice a' m p') ∧ Fts w' (fun x => w.heap.size ≤ x) a' m ks ∧ m ≤ p' ∧ Below w.heap.size w w' := by
  have hl := h.1
  have HF := hid h
  clear h
  go_enter Tryz.func47, Tryz.ntmps47
  go_wp2_with fail
  go_loopw [3, 4] (fun u i wr => ∃ j : Nat, j ≤ m ∧ i = .int .i64 j ∧ wr.ownsRow w.heap.size 72 2 u j (frow (ks.take j)) ∧ Below w.heap.size w wr) (fun _ i _ => m - (intOf i).toNat)
  case atStart => exact ⟨0, Nat.zero_le _, rfl, World.ownsRow_nil _ _ _ _, Below.refl _ _⟩
  case round =>
    obtain ⟨j, hj, rfl, ho, hb⟩ := hrel
    by_cases hlt : j < m
    · have hjI : (j : Int) < (m : Int) := by omega
      obtain ⟨b, off, rfl, hcs⟩ : ∃ b off, a = some ⟨b, off, none⟩ ∧ _ := (HF.out.2.cells hb).resolve_left (by omega)
      have x0 := hcs j hlt 0 _ rfl
      have x1 := hcs j hlt 1 _ rfl
      rw [Nat.add_zero] at x0
      have HT := hid (frow_takeE (show j < ks.length by omega))
      generalize ks.getD j (0, 0) = f at *
      obtain ⟨A, K⟩ := f
      simp only at *
      have BA : Below wr.heap.size wr (wr.alloc (.cells #[.int .i64 A, .int .i64 K] 72)) := (Below.refl _ _).alloc (Nat.le_refl _) _
      have OA := hid (ho.alloc (.cells #[.int .i64 A, .int .i64 K] 72))
      have HB := hid (bel_bel hb hb.size BA)
      have hsz : w.heap.size ≤ (wr.alloc (.cells #[.int .i64 A, .int .i64 K] 72)).heap.size := HB.out.size
      clear ho hb hcs BA
      go_wp2_with (at_builtin; refine wpList_appF rfl _ _ rfl w.heap.size _ j (frow (ks.take j)) A K wr.heap.size rfl (by exact OA.out) rfl (by exact (cells2_newE wr _ _ _).1) (by exact (cells2_newE wr _ _ _).2) (by omega) hsz ?_; intro v' w' o' G'; have HB2 := hid (bel_ownE HB.out OA.out G'.out))
      go_roundw
      case rel => exact ⟨j + 1, by omega, by go_num, by rw [HT.out]; exact o'.out, HB2.out⟩
      case measure => simp [intOf]; omega
    · have hjI : ¬ (j : Int) < (m : Int) := by omega
      have hjm : j = m := by omega
      subst hjm
      rw [List.take_of_length_le (by omega)] at ho
      have HO := hid ho
      have HB := hid hb
      clear ho hb
      go_wp2_with fail
      go_ret
      obtain ⟨a', p', rfl, h1, _⟩ := own_slice HO.out
      exact ⟨a', p', rfl, fts_own HO.out hl, h1, HB.out⟩
theorem Ls.andLt {w : World} {V : Nat → Prop} {a : Option Addr} {n sz : Nat} {f : Nat → List Value} (h : Ls w V a n sz f) : Ls w (fun x => V x ∧ x < w.heap.size) a n sz f := by
  rcases h with h0 | ⟨b, off, e, hV, hb, hc⟩
  · exact .inl h0
  · exact .inr ⟨b, off, e, ⟨hV, hb⟩, hb, hc⟩
theorem Vs.andLtE {w : World} {V : Nat → Prop} {a : Option Addr} {n c : Nat} {l : List Int} (h : Vs w V a n c l) : Vs w (fun x => V x ∧ x < w.heap.size) a n c l := ⟨h.bs, h.nc, h.cm, h.nil, fun ad e hn => ⟨h.lies ad e hn, (h.bs.at_block e hn).1⟩⟩
theorem Vc.andLt {w : World} {V : Nat → Prop} {d : CD} (h : Vc w V d) : Vc w (fun x => V x ∧ x < w.heap.size) d := Vs.andLtE h
theorem Cs.andLt {w : World} {V : Nat → Prop} {a : Option Addr} {n : Nat} {l : List Chg} (h : Cs w V a n l) : Cs w (fun x => V x ∧ x < w.heap.size) a n l := by
  obtain ⟨cs, h1, h2, h3, h4⟩ := h
  exact ⟨cs, h1, h2, h3.andLt, fun x hx => (h4 x hx).andLt⟩
theorem Vo.andLt {w : World} {V : Nat → Prop} {d : OD} (h : Vo w V d) : Vo w (fun x => V x ∧ x < w.heap.size) d := ⟨h.d.andLtE, h.c.andLt, ⟨h.f.1, h.f.2.andLt⟩, ⟨h.k.1, h.k.2.andLt⟩, h.kc⟩
theorem Vc.stepE {w w' : World} {V : Nat → Prop} {x : CD} (h : Vc w V x) (hk : ∀ x, x < w.heap.size → V x → w'.heap[x]? = w.heap[x]?) (hs : w.heap.size ≤ w'.heap.size) : Vc w' V x := h.step hk
theorem Vo.stepE {w w' : World} {V : Nat → Prop} {x : OD} (h : Vo w V x) (hk : ∀ x, x < w.heap.size → V x → w'.heap[x]? = w.heap[x]?) (hs : w.heap.size ≤ w'.heap.size) : Vo w' V x := h.step hk hs
theorem crow_one (ds : List CD) : ∀ v ∈ crow ds, v.oneCell' = true := by
  intro v hv
  obtain ⟨d, _, hv⟩ := List.mem_flatMap.1 hv
  simp [cdc] at hv
  rcases hv with rfl | rfl | rfl | rfl | rfl | rfl | rfl | rfl <;> rfl
theorem orow_one (ds : List OD) : ∀ v ∈ orow ds, v.oneCell' = true := by
  intro v hv
  obtain ⟨d, _, hv⟩ := List.mem_flatMap.1 hv
  simp [odc] at hv
  rcases hv with rfl | rfl | rfl | rfl | rfl | rfl | rfl | rfl | rfl | rfl | rfl | rfl | rfl | rfl <;> rfl
/-- One more behind a list of one's own. -/
theorem wpList_appChange {w : World} {ops : Array Oper} {rest : List Oper} {o : Oper} {act : Act} {Q : Exit → Act → World → Prop} (hgd : o.guard = none) (s x : Operand)
    (ho : o.op = .call { callee := .builtin .append, args := #[s, x], argTypes := #[49, 49] })
    (base : Nat) (v : Value) (ds : List CD) (hs : act.eval s = v) (hown : w.ownsRow base 70 8 v ds.length (crow ds)) (g : Nat) (d : CD) (hx : act.eval x = .slice (some ⟨g, 0, none⟩) 1 1)
    (hg : ∀ j u, (cdc d)[j]? = some u → w.cell? ⟨g, j, none⟩ = some u) (hlen : (ds.length + 1) * 80 ≤ 140737488355328) (hbase : base ≤ w.heap.size)
    (h : ∀ v' w', w'.ownsRow base 70 8 v' (ds ++ [d]).length (crow (ds ++ [d])) → w.grownBy w' v.ownBlock → (v'.ownBlock = v.ownBlock ∨ v'.ownBlock = some w.heap.size) → wpList Tryz.prog ops Q rest (act.put o.dst v') w') : wpList Tryz.prog ops Q (o :: rest) act w := by
  obtain ⟨i, hi, hz0, hz1, hz2⟩ := info_parts infoCh
  refine wpList_append_own_at _ hgd s x 49 ho base 70 i _ 8 80 Tryz.underlying49 hi hz0 hz1 hz2 rfl (by decide) v ds.length (crow ds) hs hown ⟨g, 0, none⟩ 1 1 (cdc d) hx rfl ?c1 ?c2 (by unfold maxLen; omega) (by omega) hbase ?_
  case c1 =>
    intro j u hj
    rw [Addr.add_lit, Nat.zero_add]
    exact hg j u hj
  case c2 =>
    intro u hu
    exact crow_one [d] u (by simpa [crow] using hu)
  intro v' w' h1 h2 _ h4
  refine h v' w' ?_ h2 h4
  rw [List.length_append, List.length_singleton, show crow (ds ++ [d]) = crow ds ++ cdc d by simp [crow]]
  simpa [crow] using h1
/-- What is gathered since w. -/
structure Cw (w wr : World) (v : Value) (ds : List CD) : Prop where
  own : wr.ownsRow w.heap.size 70 8 v ds.length (crow ds)
  sv : ∀ d ∈ ds, Vc wr (fun x => w.heap.size ≤ x ∧ v.ownBlock ≠ some x) d
  bel : Below w.heap.size w wr
theorem Cw.nil (w : World) : Cw w w (.slice none 0 0) [] := ⟨World.ownsRow_nil _ _ _ _, fun d hd => by simp at hd, Below.refl _ _⟩
theorem Cw.below {w wr w2 : World} {v : Value} {ds : List CD} (h : Cw w wr v ds) (hb : Below wr.heap.size wr w2) : Cw w w2 v ds := ⟨own_bel h.own hb, fun d hd => (h.sv d hd).stepE (fun x hx _ => hb.block x hx) hb.size, bel_bel h.bel h.bel.size hb⟩
theorem Cw.app {w w3 w5 : World} {v v5 : Value} {ds : List CD} {d : CD} {o : Obj} (h : Cw w w3 v ds) (hd : Vc w3 (fun x => w.heap.size ≤ x ∧ v.ownBlock ≠ some x) d) (ho : w5.ownsRow w.heap.size 70 8 v5 (ds ++ [d]).length (crow (ds ++ [d]))) (hg : (w3.alloc o).grownBy w5 v.ownBlock) (hl : v5.ownBlock = v.ownBlock ∨ v5.ownBlock = some (w3.alloc o).heap.size) : Cw w w5 v5 (ds ++ [d]) := by
  have hB := (Below.refl w3.heap.size w3).alloc (Nat.le_refl _) o
  have hown : ∀ q, v.ownBlock = some q → w.heap.size ≤ q := fun q e => (h.own.lt q e).1
  have hsa : (w3.alloc o).heap.size = w3.heap.size + 1 := by simp
  refine ⟨ho, ?_, (h.bel.alloc h.bel.size o).grown hg (by rw [hsa]; have := h.bel.size; omega) (fun q e => hown q e)⟩
  have hst : ∀ {d : CD}, Vc w3 (fun x => w.heap.size ≤ x ∧ v.ownBlock ≠ some x) d → Vc w5 (fun x => w.heap.size ≤ x ∧ v5.ownBlock ≠ some x) d := fun {d} h => by
    have ha : Vc w5 _ d := h.andLt.stepE (w' := w5) (fun x hx hx' => (hg.block x (by rw [hsa]; omega) (fun e => hx'.1.2 e.symm)).trans (hB.block x hx)) (by have := hg.size; rw [hsa] at this; omega)
    refine ha.wide fun x _ hx => ⟨hx.1.1, fun e => ?_⟩
    rcases hl with h | h
    · exact hx.1.2 (by rw [← h]; exact e)
    · rw [h, hsa] at e
      have := Option.some.inj e
      omega
  intro d' hd'
  rcases List.mem_append.1 hd' with hd' | hd'
  · exact hst (h.sv d' hd')
  · rw [List.mem_singleton] at hd'
    subst hd'
    exact hst hd
/-- One more behind a list of one's own. -/
theorem wpList_appOp {w : World} {ops : Array Oper} {rest : List Oper} {o : Oper} {act : Act} {Q : Exit → Act → World → Prop} (hgd : o.guard = none) (s x : Operand)
    (ho : o.op = .call { callee := .builtin .append, args := #[s, x], argTypes := #[22, 22] })
    (base : Nat) (v : Value) (ds : List OD) (hs : act.eval s = v) (hown : w.ownsRow base 53 14 v ds.length (orow ds)) (g : Nat) (d : OD) (hx : act.eval x = .slice (some ⟨g, 0, none⟩) 1 1)
    (hg : ∀ j u, (odc d)[j]? = some u → w.cell? ⟨g, j, none⟩ = some u) (hlen : (ds.length + 1) * 176 ≤ 140737488355328) (hbase : base ≤ w.heap.size)
    (h : ∀ v' w', w'.ownsRow base 53 14 v' (ds ++ [d]).length (orow (ds ++ [d])) → w.grownBy w' v.ownBlock → (v'.ownBlock = v.ownBlock ∨ v'.ownBlock = some w.heap.size) → wpList Tryz.prog ops Q rest (act.put o.dst v') w') : wpList Tryz.prog ops Q (o :: rest) act w := by
  obtain ⟨i, hi, hz0, hz1, hz2⟩ := info_parts infoOp
  refine wpList_append_own_at _ hgd s x 22 ho base 53 i _ 14 176 Tryz.underlying22 hi hz0 hz1 hz2 rfl (by decide) v ds.length (orow ds) hs hown ⟨g, 0, none⟩ 1 1 (odc d) hx rfl ?c1 ?c2 (by unfold maxLen; omega) (by omega) hbase ?_
  case c1 =>
    intro j u hj
    rw [Addr.add_lit, Nat.zero_add]
    exact hg j u hj
  case c2 =>
    intro u hu
    exact orow_one [d] u (by simpa [orow] using hu)
  intro v' w' h1 h2 _ h4
  refine h v' w' ?_ h2 h4
  rw [List.length_append, List.length_singleton, show orow (ds ++ [d]) = orow ds ++ odc d by simp [orow]]
  simpa [orow] using h1
/-- What is gathered since w. -/
structure Ow (w wr : World) (v : Value) (ds : List OD) : Prop where
  own : wr.ownsRow w.heap.size 53 14 v ds.length (orow ds)
  sv : ∀ d ∈ ds, Vo wr (fun x => w.heap.size ≤ x ∧ v.ownBlock ≠ some x) d
  bel : Below w.heap.size w wr
theorem Ow.nil (w : World) : Ow w w (.slice none 0 0) [] := ⟨World.ownsRow_nil _ _ _ _, fun d hd => by simp at hd, Below.refl _ _⟩
theorem Ow.below {w wr w2 : World} {v : Value} {ds : List OD} (h : Ow w wr v ds) (hb : Below wr.heap.size wr w2) : Ow w w2 v ds := ⟨own_bel h.own hb, fun d hd => (h.sv d hd).stepE (fun x hx _ => hb.block x hx) hb.size, bel_bel h.bel h.bel.size hb⟩
theorem Ow.app {w w3 w5 : World} {v v5 : Value} {ds : List OD} {d : OD} {o : Obj} (h : Ow w w3 v ds) (hd : Vo w3 (fun x => w.heap.size ≤ x ∧ v.ownBlock ≠ some x) d) (ho : w5.ownsRow w.heap.size 53 14 v5 (ds ++ [d]).length (orow (ds ++ [d]))) (hg : (w3.alloc o).grownBy w5 v.ownBlock) (hl : v5.ownBlock = v.ownBlock ∨ v5.ownBlock = some (w3.alloc o).heap.size) : Ow w w5 v5 (ds ++ [d]) := by
  have hB := (Below.refl w3.heap.size w3).alloc (Nat.le_refl _) o
  have hown : ∀ q, v.ownBlock = some q → w.heap.size ≤ q := fun q e => (h.own.lt q e).1
  have hsa : (w3.alloc o).heap.size = w3.heap.size + 1 := by simp
  refine ⟨ho, ?_, (h.bel.alloc h.bel.size o).grown hg (by rw [hsa]; have := h.bel.size; omega) (fun q e => hown q e)⟩
  have hst : ∀ {d : OD}, Vo w3 (fun x => w.heap.size ≤ x ∧ v.ownBlock ≠ some x) d → Vo w5 (fun x => w.heap.size ≤ x ∧ v5.ownBlock ≠ some x) d := fun {d} h => by
    have ha : Vo w5 _ d := h.andLt.stepE (w' := w5) (fun x hx hx' => (hg.block x (by rw [hsa]; omega) (fun e => hx'.1.2 e.symm)).trans (hB.block x hx)) (by have := hg.size; rw [hsa] at this; omega)
    refine ha.wide fun x _ hx => ⟨hx.1.1, fun e => ?_⟩
    rcases hl with h | h
    · exact hx.1.2 (by rw [← h]; exact e)
    · rw [h, hsa] at e
      have := Option.some.inj e
      omega
  intro d' hd'
  rcases List.mem_append.1 hd' with hd' | hd'
  · exact hst (h.sv d' hd')
  · rw [List.mem_singleton] at hd'
    subst hd'
    exact hst hd
set_option maxHeartbeats 4000000 in
/-- The document's Changes: the same ones in new memory. -/
theorem rchanges_ {V : Nat → Prop} (a : Option Addr) (n c : Nat) (l : List Chg) (w : World) (hl : Cs w V a n l) (hn : n * 80 ≤ 140737488351232) (hb : ∀ x ∈ l, x.key.length ≤ 140737488351232) :
    Calls Tryz.prog 46 #[.slice a n c] w fun e w' => ∃ a' p', e = .returned (.slice a' n p') ∧ Cs w' (fun x => w.heap.size ≤ x) a' n l ∧ n ≤ p' ∧ Below w.heap.size w w' := by
  obtain ⟨xs, h1, h2, h3, h4⟩ := hl
  have HXL := hid h1
  have HN := hid h2
  have HL := hid h3
  have HV := hid h4
  have HB : Hid (∀ x ∈ xs, x.c.key.length ≤ 140737488351232) := fun x hx => hb _ (by rw [← h1]; exact List.mem_map_of_mem hx)
  have HI : Hid (∀ x ∈ xs, ∀ z ∈ ic x.c.key, 0 ≤ z ∧ z ≤ 255) := fun x hx => (h4 x hx).bs.2.1
  clear h1 h2 h3 h4 hb
  go_enter Tryz.func46, Tryz.ntmps46
  go_wp2_with fail
  go_loopw [3, 4] (fun v i wr => ∃ (j : Nat) (ds : List CD), j ≤ n ∧ i = .int .i64 j ∧ Hid (Cw w wr v ds) ∧ Hid (ds.map (·.c) = (xs.take j).map (·.c))) (fun _ i _ => n - (intOf i).toNat)
  case atStart => exact ⟨0, [], by omega, rfl, Cw.nil w, rfl⟩
  case round =>
    obtain ⟨j, ds, hj, rfl, HR, HD⟩ := hrel
    by_cases hlt : j < n
    · have hjI : (j : Int) < n := by omega
      have hxl : j < xs.length := by have := HN.out; omega
      obtain ⟨bb, off, rfl, q1⟩ : ∃ b off, a = some ⟨b, off, none⟩ ∧ _ := (HL.out.cells HR.out.bel).resolve_left (by omega)
      have c0 := q1 j hlt 0 _ rfl
      have c1 := q1 j hlt 1 _ rfl
      have c2 := q1 j hlt 2 _ rfl
      have c3 := q1 j hlt 3 _ rfl
      have c4 := q1 j hlt 4 _ rfl
      have c5 := q1 j hlt 5 _ rfl
      have c6 := q1 j hlt 6 _ rfl
      have c7 := q1 j hlt 7 _ rfl
      rw [Nat.add_zero] at c0
      have HT := hid (take_getDE (l := xs) (j := j) cd0 hxl)
      have HDL : Hid ((ds.length + 1) * 80 ≤ 140737488355328) := by
        have h1 := congrArg List.length HD.out
        rw [List.length_map, List.length_map, List.length_take] at h1
        show _ ≤ _
        omega
      have hm := mem_getDE (l := xs) (j := j) cd0 hxl
      have hbx := HB.out _ hm
      have hix := HI.out _ hm
      have vk := (HV.out _ hm).on2 HR.out.bel
      obtain ⟨x, HX⟩ : ∃ x, Hid (xs.getD j cd0 = x) := ⟨_, rfl⟩
      rw [HX.out] at HT hbx hix vk c0 c1 c2 c3 c4 c5 c6 c7
      clear q1 hm
      obtain ⟨⟨kd, lk, sd, key, f, hh, ll, b⟩, ka, kc⟩ := x
      have vk : Vs wr V ka key.length kc (ic key) := vk
      simp only at hbx hix c0 c1 c2 c3 c4 c5 c6 c7
      have HKI := hid hix
      obtain ⟨m, Hm⟩ : ∃ z : Nat, Hid (key.length = z) := ⟨_, rfl⟩
      rw [Hm.out] at hbx c3 vk
      have BA : Below wr.heap.size wr (wr.alloc (.cells #[.int .i64 kd, .int .i64 lk, .int .i64 sd, .slice ka m kc, .int .i64 f, .int .u64 hh, .int .u64 ll, .int .i64 b] 70)) := (Below.refl _ _).alloc (Nat.le_refl _) _
      have kp := refBytes ka m kc (ic key) _ (vk.bs.below BA) hbx
      have y0 := Yx.new wr 70 [.int .i64 kd, .int .i64 lk, .int .i64 sd, .slice ka m kc, .int .i64 f, .int .u64 hh, .int .u64 ll, .int .i64 b]
      have HY0 := hid y0
      have HBA := hid BA
      have z3 := y0.cell 3
      have zf := y0.fz 3
      simp only [List.getElem?_cons_succ, List.getElem?_cons_zero] at z3
      clear vk hbx hix BA y0
      go_upto_region 6 with fail
      go_wp2_with fail
      clear c0 c1 c2 c3 c4 c5 c6 c7 z3
      refine kp.mono ?_
      rintro e y1 ⟨v1, rfl, o1, g1⟩
      obtain ⟨kb, kc1, rfl, vs⟩ := Vs.ofOwn o1 HKI.out
      have y1x : Yx y1 wr.heap.size 70 [.int .i64 kd, .int .i64 lk, .int .i64 sd, .slice ka m kc, .int .i64 f, .int .u64 hh, .int .u64 ll, .int .i64 b] := HY0.out.on g1
      have y2 := y1x.set 3 (.slice kb m kc1)
      simp only [List.set_cons_zero, List.set_cons_succ] at y2
      have zf := y1x.fz 3
      have z3 := y1x.cell 3
      simp only [List.getElem?_cons_succ, List.getElem?_cons_zero] at z3
      have HBY : Hid (Below wr.heap.size wr (y1.setCell ⟨wr.heap.size, 3, none⟩ (.slice kb m kc1))) := (bel_bel HBA.out (by simp) g1).setCell (p := ⟨wr.heap.size, 3, none⟩) (Nat.le_refl _) _
      have HR1 := hid (HR.out.below HBY.out)
      have HOW := hid HR.out.own.lt
      have HSZ : Hid (w.heap.size ≤ wr.heap.size) := HR.out.bel.size
      have HRD : Hid (Vc (y1.setCell ⟨wr.heap.size, 3, none⟩ (.slice kb m kc1)) (fun x => w.heap.size ≤ x ∧ u3.ownBlock ≠ some x) ⟨⟨kd, lk, sd, key, f, hh, ll, b⟩, kb, kc1⟩) := by
        show Vs _ _ kb key.length kc1 (ic key)
        rw [Hm.out]
        have hsa : (wr.alloc (.cells #[.int .i64 kd, .int .i64 lk, .int .i64 sd, .slice ka m kc, .int .i64 f, .int .u64 hh, .int .u64 ll, .int .i64 b] 70)).heap.size = wr.heap.size + 1 := by simp
        refine (vs.wide (V' := fun x => w.heap.size ≤ x ∧ u3.ownBlock ≠ some x ∧ x ≠ wr.heap.size) fun x _ hx => ?_).step (fun x hx hV _ => Below.heap_setCell _ _ _ _ hV.2.2) |>.wide fun x _ hx => ⟨hx.1, hx.2.1⟩
        rw [hsa] at hx
        have := HSZ.out
        exact ⟨by omega, fun f => by have := (HOW.out x f).2; omega, by omega⟩
      have d0 := y2.cell 0
      have d1 := y2.cell 1
      have d2 := y2.cell 2
      have d3 := y2.cell 3
      have d4 := y2.cell 4
      have d5 := y2.cell 5
      have d6 := y2.cell 6
      have d7 := y2.cell 7
      simp only [List.getElem?_cons_succ, List.getElem?_cons_zero] at d0 d1 d2 d3 d4 d5 d6 d7
      clear o1 vs g1 y1x y2 kp HY0 HBA HBY HR HOW
      have HNW : Hid (∀ i u, (cdc ⟨⟨kd, lk, sd, key, f, hh, ll, b⟩, kb, kc1⟩)[i]? = some u → ((y1.setCell ⟨wr.heap.size, 3, none⟩ (.slice kb m kc1)).alloc (.cells #[.int .i64 kd, .int .i64 lk, .int .i64 sd, .slice kb m kc1, .int .i64 f, .int .u64 hh, .int .u64 ll, .int .i64 b] 70)).cell? ⟨y1.heap.size, i, none⟩ = some u) := fun i u hi => by
        rw [show y1.heap.size = (y1.setCell ⟨wr.heap.size, 3, none⟩ (.slice kb m kc1)).heap.size by simp [World.setCell]]
        rw [cell_of_row _ (y1.setCell ⟨wr.heap.size, 3, none⟩ (.slice kb m kc1)).heap.size i _ 70 (0, 0) (heap_alloc_new (y1.setCell ⟨wr.heap.size, 3, none⟩ (.slice kb m kc1)) _)]
        simp only [cdc, Hm.out] at hi
        simpa using hi
      have HO6 := hid (HR1.out.own.alloc (.cells #[.int .i64 kd, .int .i64 lk, .int .i64 sd, .slice kb m kc1, .int .i64 f, .int .u64 hh, .int .u64 ll, .int .i64 b] 70))
      have HBZ : Hid (w.heap.size ≤ ((y1.setCell ⟨wr.heap.size, 3, none⟩ (.slice kb m kc1)).alloc (.cells #[.int .i64 kd, .int .i64 lk, .int .i64 sd, .slice kb m kc1, .int .i64 f, .int .u64 hh, .int .u64 ll, .int .i64 b] 70)).heap.size) := by show _ ≤ _; rw [World.size_alloc]; exact Nat.le_succ_of_le HR1.out.bel.size
      go_wp2_with (first | (at_builtin; refine wpList_appChange rfl _ _ rfl w.heap.size u3 ds rfl (by exact HO6.out) y1.heap.size ⟨⟨kd, lk, sd, key, f, hh, ll, b⟩, kb, kc1⟩ rfl (by exact HNW.out) HDL.out HBZ.out ?_; intro v7 w7 o7 g7 l7; have HO7 := hid (HR1.out.app HRD.out o7 g7 l7); clear o7 g7 l7 HNW) | fail)
      go_roundw
      case rel => exact ⟨j + 1, ds ++ [⟨⟨kd, lk, sd, key, f, hh, ll, b⟩, kb, kc1⟩], by omega, by go_num, HO7, by show _ = _; rw [HT.out, List.map_append, List.map_append, HD.out]; rfl⟩
      case measure => simp [intOf]; omega
    · have hjI : ¬ (j : Int) < n := by omega
      obtain rfl : j = n := by omega
      rw [List.take_of_length_le (by have := HN.out; omega)] at HD
      go_wp2_with fail
      go_ret
      have ho := HR.out.own
      have hln : ds.length = j := by have h1 := congrArg List.length HD.out; rw [List.length_map, List.length_map] at h1; have := HN.out; omega
      rw [hln] at ho
      obtain ⟨a', p', rfl, h1, _⟩ := own_slice ho
      refine ⟨a', p', rfl, ?_, h1, HR.out.bel⟩
      rw [← HXL.out, ← HD.out]
      exact cs_own ho hln (Nat.le_refl _) HR.out.sv (fun k hk => hk.1)
end Go.Proofs.YtkeogggeefnoeaaGreatDoor
namespace Go.Proofs.YtkeogggeefnoeaaGreatDoor
set_option linter.unusedSimpArgs false
open Go.RowKit Go.Shelf Go.Maps
set_option linter.unusedVariables false
set_option maxRecDepth 100000

/-! The document's copy of a step, the law's of steps. -/
theorem sizeOpE : (Tryz.prog.info? 53).map (·.size) = some 14 := by kernel_rfl
/-- A step with lists that a machine holds. -/
structure OpB (x : Opp) : Prop where
  d : x.d.length ≤ 140737488351232
  c : x.ch.length * 80 ≤ 140737488351232
  k : ∀ y ∈ x.ch, y.key.length ≤ 140737488351232
  f : x.fl.length * 16 ≤ 140737488351232
  b : x.kp.length ≤ 140737488351232
theorem Vs.keep {w w' : World} {S S' : Nat} {a : Option Addr} {n c : Nat} {l : List Int} (h : Vs w (fun x => S ≤ x) a n c l) (hS : S' ≤ S) (hk : ∀ k, k < w.heap.size → S ≤ k → w'.heap[k]? = w.heap[k]?) : Vs w' (fun x => S' ≤ x) a n c l := (h.step fun x hx hV _ => hk x hx hV).wide fun x _ hx => Nat.le_trans hS hx
theorem Cs.keep {w w' : World} {S S' : Nat} {a : Option Addr} {n : Nat} {l : List Chg} (h : Cs w (fun x => S ≤ x) a n l) (hS : S' ≤ S) (hk : ∀ k, k < w.heap.size → S ≤ k → w'.heap[k]? = w.heap[k]?) (hs : w.heap.size ≤ w'.heap.size) : Cs w' (fun x => S' ≤ x) a n l := (h.step hk hs).wide fun x _ hx => Nat.le_trans hS hx
theorem Fts.keep {w w' : World} {S S' : Nat} {a : Option Addr} {n : Nat} {l : List (Int × Int)} (h : Fts w (fun x => S ≤ x) a n l) (hS : S' ≤ S) (hk : ∀ k, k < w.heap.size → S ≤ k → w'.heap[k]? = w.heap[k]?) (hs : w.heap.size ≤ w'.heap.size) : Fts w' (fun x => S' ≤ x) a n l := ⟨h.1, (h.2.step hk hs).wide fun x _ hx => Nat.le_trans hS hx⟩
theorem Kps.keep {w w' : World} {S S' : Nat} {a : Option Addr} {n : Nat} {l : List Bool} (h : Kps w (fun x => S ≤ x) a n l) (hS : S' ≤ S) (hk : ∀ k, k < w.heap.size → S ≤ k → w'.heap[k]? = w.heap[k]?) (hs : w.heap.size ≤ w'.heap.size) : Kps w' (fun x => S' ≤ x) a n l := ⟨h.1, (h.2.step hk hs).wide fun x _ hx => Nat.le_trans hS hx⟩
/-- What stands in a copy's lists: behind S. -/
structure Cq (w : World) (S : Nat) (da : Option Addr) (dn dp : Nat) (d : List Int) (ca : Option Addr) (cn : Nat) (ch : List Chg) (fa : Option Addr) (fn : Nat) (fl : List (Int × Int)) (ka : Option Addr) (kn : Nat) (ks : List Bool) : Prop where
  d : Vs w (fun x => S ≤ x) da dn dp d
  c : Cs w (fun x => S ≤ x) ca cn ch
  f : Fts w (fun x => S ≤ x) fa fn fl
  k : Kps w (fun x => S ≤ x) ka kn ks
theorem wpList_sop {ops : Array Oper} {rest : List Oper} {o : Oper} {act : Act} {w : World} {Q : Exit → Act → World → Prop} (hgd : o.guard = none) (hdst : o.dst = none) (x y : Operand) (ho : o.op = .store 53 x y)
    (g : Nat) (kd ea ek et ex lk sec nano bl wi : Int) (da ca fa ka : Option Addr) (dn dp cn cp fn fp kn kp : Nat) (vs : List Value) (hx : act.eval x = .pointer (some ⟨g, 0, none⟩)) (hy : act.eval y = .agg #[.int .i64 kd, .int .i64 ea, .int .i64 ek, .int .i64 et, .int .i64 ex, .int .i64 lk, .slice da dn dp, .int .i64 sec, .int .i64 nano, .int .i64 bl, .int .i64 wi, .slice ca cn cp, .slice fa fn fp, .slice ka kn kp]) (hg : Yx w g 53 vs) (hv : vs.length = 14)
    (h : wpList Tryz.prog ops Q rest act (w.setRow g #[.int .i64 kd, .int .i64 ea, .int .i64 ek, .int .i64 et, .int .i64 ex, .int .i64 lk, .slice da dn dp, .int .i64 sec, .int .i64 nano, .int .i64 bl, .int .i64 wi, .slice ca cn cp, .slice fa fn fp, .slice ka kn kp])) : wpList Tryz.prog ops Q (o :: rest) act w := by
  refine wpList_store_row hgd _ x y ho g #[.int .i64 kd, .int .i64 ea, .int .i64 ek, .int .i64 et, .int .i64 ex, .int .i64 lk, .slice da dn dp, .int .i64 sec, .int .i64 nano, .int .i64 bl, .int .i64 wi, .slice ca cn cp, .slice fa fn fp, .slice ka kn kp] hx hy _ _ hg sizeOpE (by simpa using hv) (by simp [Value.oneCell']) ?_
  rw [hdst]
  exact h
set_option maxHeartbeats 8000000 in
theorem ropL_ {V : Nat → Prop} (kd ea ek et ex lk sec nano bl wi : Int) (da ca fa ka : Option Addr) (dn dp cn cp fn fp kn kp : Nat) (d : List Int) (ch : List Chg) (fl : List (Int × Int)) (ks : List Bool) (w : World)
    (hd : Vs w V da dn dp d) (hdm : dn ≤ 140737488351232) (hc : Cs w V ca cn ch) (hcn : cn * 80 ≤ 140737488351232) (hck : ∀ x ∈ ch, x.key.length ≤ 140737488351232) (hf : Fts w V fa fn fl) (hfn : fn * 16 ≤ 140737488351232) (hk : Kps w V ka kn ks) (hkn : kn ≤ 140737488351232) :
    Calls Tryz.prog 29 #[.agg #[.int .i64 kd, .int .i64 ea, .int .i64 ek, .int .i64 et, .int .i64 ex, .int .i64 lk, .slice da dn dp, .int .i64 sec, .int .i64 nano, .int .i64 bl, .int .i64 wi, .slice ca cn cp, .slice fa fn fp, .slice ka kn kp]] w fun e w' => ∃ da1 dp1 ca1 cp1 fa1 fp1 ka1 kp1, e = .returned (.agg #[.int .i64 kd, .int .i64 ea, .int .i64 ek, .int .i64 et, .int .i64 ex, .int .i64 lk, .slice da1 dn dp1, .int .i64 sec, .int .i64 nano, .int .i64 bl, .int .i64 wi, .slice ca1 cn cp1, .slice fa1 fn fp1, .slice ka1 kn kp1]) ∧ Cq w' w.heap.size da1 dn dp1 d ca1 cn ch fa1 fn fl ka1 kn ks ∧ kn ≤ kp1 ∧ Below w.heap.size w w' := by
  have BB : Below w.heap.size w ((w.alloc (.cells #[.int .i64 kd, .int .i64 ea, .int .i64 ek, .int .i64 et, .int .i64 ex, .int .i64 lk, .slice da dn dp, .int .i64 sec, .int .i64 nano, .int .i64 bl, .int .i64 wi, .slice ca cn cp, .slice fa fn fp, .slice ka kn kp] 53)).alloc (.cells #[.int .i64 0, .int .i64 0, .int .i64 0, .int .i64 0, .int .i64 0, .int .i64 0, .slice none 0 0, .int .i64 0, .int .i64 0, .int .i64 0, .int .i64 0, .slice none 0 0, .slice none 0 0, .slice none 0 0] 53)) := ((Below.refl _ _).alloc (Nat.le_refl _) _).alloc (by simp) _
  have q0 : Yx ((w.alloc (.cells #[.int .i64 kd, .int .i64 ea, .int .i64 ek, .int .i64 et, .int .i64 ex, .int .i64 lk, .slice da dn dp, .int .i64 sec, .int .i64 nano, .int .i64 bl, .int .i64 wi, .slice ca cn cp, .slice fa fn fp, .slice ka kn kp] 53)).alloc (.cells #[.int .i64 0, .int .i64 0, .int .i64 0, .int .i64 0, .int .i64 0, .int .i64 0, .slice none 0 0, .int .i64 0, .int .i64 0, .int .i64 0, .int .i64 0, .slice none 0 0, .slice none 0 0, .slice none 0 0] 53)) w.heap.size 53 [.int .i64 kd, .int .i64 ea, .int .i64 ek, .int .i64 et, .int .i64 ex, .int .i64 lk, .slice da dn dp, .int .i64 sec, .int .i64 nano, .int .i64 bl, .int .i64 wi, .slice ca cn cp, .slice fa fn fp, .slice ka kn kp] := (Yx.new w 53 [.int .i64 kd, .int .i64 ea, .int .i64 ek, .int .i64 et, .int .i64 ex, .int .i64 lk, .slice da dn dp, .int .i64 sec, .int .i64 nano, .int .i64 bl, .int .i64 wi, .slice ca cn cp, .slice fa fn fp, .slice ka kn kp]).on ((Below.refl _ _).alloc (Nat.le_refl _) _)
  have q1 := Yx.new (w.alloc (.cells #[.int .i64 kd, .int .i64 ea, .int .i64 ek, .int .i64 et, .int .i64 ex, .int .i64 lk, .slice da dn dp, .int .i64 sec, .int .i64 nano, .int .i64 bl, .int .i64 wi, .slice ca cn cp, .slice fa fn fp, .slice ka kn kp] 53)) 53 [.int .i64 0, .int .i64 0, .int .i64 0, .int .i64 0, .int .i64 0, .int .i64 0, .slice none 0 0, .int .i64 0, .int .i64 0, .int .i64 0, .int .i64 0, .slice none 0 0, .slice none 0 0, .slice none 0 0]
  rw [World.size_alloc] at q1
  have hsz : ((w.alloc (.cells #[.int .i64 kd, .int .i64 ea, .int .i64 ek, .int .i64 et, .int .i64 ex, .int .i64 lk, .slice da dn dp, .int .i64 sec, .int .i64 nano, .int .i64 bl, .int .i64 wi, .slice ca cn cp, .slice fa fn fp, .slice ka kn kp] 53)).alloc (.cells #[.int .i64 0, .int .i64 0, .int .i64 0, .int .i64 0, .int .i64 0, .int .i64 0, .slice none 0 0, .int .i64 0, .int .i64 0, .int .i64 0, .int .i64 0, .slice none 0 0, .slice none 0 0, .slice none 0 0] 53)).heap.size = w.heap.size + 1 + 1 := by simp
  go_enter Tryz.func29, Tryz.ntmps29
  go_upto_region 1 with fail
  generalize hw1 : (w.alloc (.cells #[.int .i64 kd, .int .i64 ea, .int .i64 ek, .int .i64 et, .int .i64 ex, .int .i64 lk, .slice da dn dp, .int .i64 sec, .int .i64 nano, .int .i64 bl, .int .i64 wi, .slice ca cn cp, .slice fa fn fp, .slice ka kn kp] 53)).alloc (.cells #[.int .i64 0, .int .i64 0, .int .i64 0, .int .i64 0, .int .i64 0, .int .i64 0, .slice none 0 0, .int .i64 0, .int .i64 0, .int .i64 0, .int .i64 0, .slice none 0 0, .slice none 0 0, .slice none 0 0] 53) = x0 at *
  clear hw1
  obtain ⟨B1, HB1'⟩ : ∃ z, Hid (w.heap.size + 1 = z) := ⟨_, rfl⟩
  obtain ⟨B0, HB0'⟩ : ∃ z, Hid (w.heap.size = z) := ⟨_, rfl⟩
  obtain ⟨Z0, HZ0⟩ : ∃ z, Hid (x0.heap.size = z) := ⟨_, rfl⟩
  have hB : w.heap.size ≤ B0 ∧ B0 < B1 ∧ B1 < Z0 ∧ B0 ≤ w.heap.size := by have := HB1'.out; have := HB0'.out; have := HZ0.out; omega
  have HB := hid hB
  have kct := refBytes da dn dp d x0 (hd.bs.below BB) hdm
  have HID := hid hd.bs.2.1
  have HX := hid BB
  have HC := hid hc
  have HF := hid hf
  have HK := hid hk
  rw [HB1'.out] at q1 ⊢
  rw [HB0'.out] at q0 ⊢
  have HP0 := hid q0
  have HP1 := hid q1
  have cnx := q0.cell 6
  simp only [List.getElem?_cons_succ, List.getElem?_cons_zero] at cnx
  have HS0 : Hid (Z0 ≤ x0.heap.size) := by show _ ≤ _; rw [HZ0.out]; exact Nat.le_refl _
  clear q0 q1 hd hc hf hk BB hsz hB
  go_wp2_with fail
  clear cnx
  refine kct.mono ?_
  rintro e w1 ⟨v1, rfl, o1, g⟩
  obtain ⟨da1, dp1, rfl, vs⟩ := Vs.ofOwn o1 HID.out
  clear o1
  have HGG := hid g
  have q0 : Yx w1 B0 53 [.int .i64 kd, .int .i64 ea, .int .i64 ek, .int .i64 et, .int .i64 ex, .int .i64 lk, .slice da dn dp, .int .i64 sec, .int .i64 nano, .int .i64 bl, .int .i64 wi, .slice ca cn cp, .slice fa fn fp, .slice ka kn kp] := HP0.out.on g
  have q1 : Yx w1 B1 53 [.int .i64 0, .int .i64 0, .int .i64 0, .int .i64 0, .int .i64 0, .int .i64 0, .slice none 0 0, .int .i64 0, .int .i64 0, .int .i64 0, .int .i64 0, .slice none 0 0, .slice none 0 0, .slice none 0 0] := HP1.out.on g
  have r0 := q0.set 6 (.slice da1 dn dp1)
  simp only [List.set_cons_zero, List.set_cons_succ] at r0
  have r1 : Yx (w1.setCell ⟨B0, 6, none⟩ (.slice da1 dn dp1)) B1 53 [.int .i64 0, .int .i64 0, .int .i64 0, .int .i64 0, .int .i64 0, .int .i64 0, .slice none 0 0, .int .i64 0, .int .i64 0, .int .i64 0, .int .i64 0, .slice none 0 0, .slice none 0 0, .slice none 0 0] := q1.other (by have := HB.out; omega)
  have zf := q0.fz 6
  have co := q0.cell 6
  simp only [List.getElem?_cons_succ, List.getElem?_cons_zero] at co
  have HX2 := hid ((bel_bel HX.out HX.out.size g).setCell (p := ⟨B0, 6, none⟩) (by have := HB.out; show w.heap.size ≤ B0; omega) (.slice da1 dn dp1))
  obtain ⟨x1, HW⟩ : ∃ z, Hid (w1.setCell ⟨B0, 6, none⟩ (.slice da1 dn dp1) = z) := ⟨_, rfl⟩
  have hsx : w1.heap.size ≤ x1.heap.size ∧ ∀ k, Z0 ≤ k → x1.heap[k]? = w1.heap[k]? := by
    have := HB.out
    rw [← HW.out]; exact ⟨by simp [World.setCell], fun k hk => Below.heap_setCell _ _ _ _ (by show k ≠ B0; omega)⟩
  have HVD : Hid (Vs x1 (fun x => Z0 ≤ x) da1 dn dp1 d) := (vs.keep (Nat.le_refl _) (fun k hk hk2 => hsx.2 k (Nat.le_trans (Nat.le_of_eq HZ0.out.symm) hk2))).wide (fun x _ hx => Nat.le_trans (Nat.le_of_eq HZ0.out.symm) hx)
  clear vs
  have cnx := r0.cell 11
  simp only [List.getElem?_cons_succ, List.getElem?_cons_zero] at cnx
  rw [HW.out] at HX2 r1
  have HP1 := hid r1
  have HP0 : Hid (Yx x1 B0 53 [.int .i64 kd, .int .i64 ea, .int .i64 ek, .int .i64 et, .int .i64 ex, .int .i64 lk, .slice da1 dn dp1, .int .i64 sec, .int .i64 nano, .int .i64 bl, .int .i64 wi, .slice ca cn cp, .slice fa fn fp, .slice ka kn kp]) := by show Yx _ _ _ _; rw [← HW.out]; exact r0
  have HSN : Hid (Z0 ≤ x1.heap.size) := Nat.le_trans HS0.out (Nat.le_trans HGG.out.size hsx.1)
  clear q0 q1 r0 r1 g HX HGG kct HS0 hsx
  have HX := HX2
  have HS0 := HSN
  clear HX2 HSN
  have kct := rchanges_ ca cn cp ch x1 (HC.out.on3 HX.out) hcn hck
  go_wp2_with fail
  rw [HW.out]
  clear cnx zf co HW
  refine kct.mono ?_
  rintro e w2 ⟨ca1, cp1, rfl, vs, _, g⟩
  have HGG := hid g
  have q0 : Yx w2 B0 53 [.int .i64 kd, .int .i64 ea, .int .i64 ek, .int .i64 et, .int .i64 ex, .int .i64 lk, .slice da1 dn dp1, .int .i64 sec, .int .i64 nano, .int .i64 bl, .int .i64 wi, .slice ca cn cp, .slice fa fn fp, .slice ka kn kp] := HP0.out.on g
  have q1 : Yx w2 B1 53 [.int .i64 0, .int .i64 0, .int .i64 0, .int .i64 0, .int .i64 0, .int .i64 0, .slice none 0 0, .int .i64 0, .int .i64 0, .int .i64 0, .int .i64 0, .slice none 0 0, .slice none 0 0, .slice none 0 0] := HP1.out.on g
  have r0 := q0.set 11 (.slice ca1 cn cp1)
  simp only [List.set_cons_zero, List.set_cons_succ] at r0
  have r1 : Yx (w2.setCell ⟨B0, 11, none⟩ (.slice ca1 cn cp1)) B1 53 [.int .i64 0, .int .i64 0, .int .i64 0, .int .i64 0, .int .i64 0, .int .i64 0, .slice none 0 0, .int .i64 0, .int .i64 0, .int .i64 0, .int .i64 0, .slice none 0 0, .slice none 0 0, .slice none 0 0] := q1.other (by have := HB.out; omega)
  have zf := q0.fz 11
  have co := q0.cell 11
  simp only [List.getElem?_cons_succ, List.getElem?_cons_zero] at co
  have HX2 := hid ((bel_bel HX.out HX.out.size g).setCell (p := ⟨B0, 11, none⟩) (by have := HB.out; show w.heap.size ≤ B0; omega) (.slice ca1 cn cp1))
  obtain ⟨x2, HW⟩ : ∃ z, Hid (w2.setCell ⟨B0, 11, none⟩ (.slice ca1 cn cp1) = z) := ⟨_, rfl⟩
  have hsx : w2.heap.size ≤ x2.heap.size ∧ ∀ k, Z0 ≤ k → x2.heap[k]? = w2.heap[k]? := by
    have := HB.out
    rw [← HW.out]; exact ⟨by simp [World.setCell], fun k hk => Below.heap_setCell _ _ _ _ (by show k ≠ B0; omega)⟩
  have HVD : Hid (Vs x2 (fun x => Z0 ≤ x) da1 dn dp1 d) := HVD.out.keep (Nat.le_refl _) (fun k hk hk2 => (hsx.2 k hk2).trans (HGG.out.block k hk))
  have HVC : Hid (Cs x2 (fun x => Z0 ≤ x) ca1 cn ch) := (vs.keep (S' := Z0) HS0.out (fun k hk hk2 => hsx.2 k (Nat.le_trans HS0.out hk2)) hsx.1)
  clear vs
  have cnx := r0.cell 12
  simp only [List.getElem?_cons_succ, List.getElem?_cons_zero] at cnx
  rw [HW.out] at HX2 r1
  have HP1 := hid r1
  have HP0 : Hid (Yx x2 B0 53 [.int .i64 kd, .int .i64 ea, .int .i64 ek, .int .i64 et, .int .i64 ex, .int .i64 lk, .slice da1 dn dp1, .int .i64 sec, .int .i64 nano, .int .i64 bl, .int .i64 wi, .slice ca1 cn cp1, .slice fa fn fp, .slice ka kn kp]) := by show Yx _ _ _ _; rw [← HW.out]; exact r0
  have HSN : Hid (Z0 ≤ x2.heap.size) := Nat.le_trans HS0.out (Nat.le_trans HGG.out.size hsx.1)
  clear q0 q1 r0 r1 g HX HGG kct HS0 hsx
  have HX := HX2
  have HS0 := HSN
  clear HX2 HSN
  have kct := rfaults_ fa fn fp fl x2 (HF.out.on3 HX.out) hfn
  go_wp2_with fail
  rw [HW.out]
  clear cnx zf co HW
  refine kct.mono ?_
  rintro e w3 ⟨fa1, fp1, rfl, vs, _, g⟩
  have HGG := hid g
  have q0 : Yx w3 B0 53 [.int .i64 kd, .int .i64 ea, .int .i64 ek, .int .i64 et, .int .i64 ex, .int .i64 lk, .slice da1 dn dp1, .int .i64 sec, .int .i64 nano, .int .i64 bl, .int .i64 wi, .slice ca1 cn cp1, .slice fa fn fp, .slice ka kn kp] := HP0.out.on g
  have q1 : Yx w3 B1 53 [.int .i64 0, .int .i64 0, .int .i64 0, .int .i64 0, .int .i64 0, .int .i64 0, .slice none 0 0, .int .i64 0, .int .i64 0, .int .i64 0, .int .i64 0, .slice none 0 0, .slice none 0 0, .slice none 0 0] := HP1.out.on g
  have r0 := q0.set 12 (.slice fa1 fn fp1)
  simp only [List.set_cons_zero, List.set_cons_succ] at r0
  have r1 : Yx (w3.setCell ⟨B0, 12, none⟩ (.slice fa1 fn fp1)) B1 53 [.int .i64 0, .int .i64 0, .int .i64 0, .int .i64 0, .int .i64 0, .int .i64 0, .slice none 0 0, .int .i64 0, .int .i64 0, .int .i64 0, .int .i64 0, .slice none 0 0, .slice none 0 0, .slice none 0 0] := q1.other (by have := HB.out; omega)
  have zf := q0.fz 12
  have co := q0.cell 12
  simp only [List.getElem?_cons_succ, List.getElem?_cons_zero] at co
  have HX2 := hid ((bel_bel HX.out HX.out.size g).setCell (p := ⟨B0, 12, none⟩) (by have := HB.out; show w.heap.size ≤ B0; omega) (.slice fa1 fn fp1))
  obtain ⟨x3, HW⟩ : ∃ z, Hid (w3.setCell ⟨B0, 12, none⟩ (.slice fa1 fn fp1) = z) := ⟨_, rfl⟩
  have hsx : w3.heap.size ≤ x3.heap.size ∧ ∀ k, Z0 ≤ k → x3.heap[k]? = w3.heap[k]? := by
    have := HB.out
    rw [← HW.out]; exact ⟨by simp [World.setCell], fun k hk => Below.heap_setCell _ _ _ _ (by show k ≠ B0; omega)⟩
  have HVD : Hid (Vs x3 (fun x => Z0 ≤ x) da1 dn dp1 d) := HVD.out.keep (Nat.le_refl _) (fun k hk hk2 => (hsx.2 k hk2).trans (HGG.out.block k hk))
  have HVC : Hid (Cs x3 (fun x => Z0 ≤ x) ca1 cn ch) := HVC.out.keep (Nat.le_refl _) (fun k hk hk2 => (hsx.2 k hk2).trans (HGG.out.block k hk)) (Nat.le_trans HGG.out.size hsx.1)
  have HVF : Hid (Fts x3 (fun x => Z0 ≤ x) fa1 fn fl) := (vs.keep (S' := Z0) HS0.out (fun k hk hk2 => hsx.2 k (Nat.le_trans HS0.out hk2)) hsx.1)
  clear vs
  have cnx := r0.cell 13
  simp only [List.getElem?_cons_succ, List.getElem?_cons_zero] at cnx
  rw [HW.out] at HX2 r1
  have HP1 := hid r1
  have HP0 : Hid (Yx x3 B0 53 [.int .i64 kd, .int .i64 ea, .int .i64 ek, .int .i64 et, .int .i64 ex, .int .i64 lk, .slice da1 dn dp1, .int .i64 sec, .int .i64 nano, .int .i64 bl, .int .i64 wi, .slice ca1 cn cp1, .slice fa1 fn fp1, .slice ka kn kp]) := by show Yx _ _ _ _; rw [← HW.out]; exact r0
  have HSN : Hid (Z0 ≤ x3.heap.size) := Nat.le_trans HS0.out (Nat.le_trans HGG.out.size hsx.1)
  clear q0 q1 r0 r1 g HX HGG kct HS0 hsx
  have HX := HX2
  have HS0 := HSN
  clear HX2 HSN
  have kct := rbools_ ka kn kp ks x3 (HK.out.on3 HX.out) (by omega)
  go_wp2_with fail
  rw [HW.out]
  clear cnx zf co HW
  refine kct.mono ?_
  rintro e w4 ⟨ka1, kp1, rfl, vs, hkc, g⟩
  have HGG := hid g
  have q0 : Yx w4 B0 53 [.int .i64 kd, .int .i64 ea, .int .i64 ek, .int .i64 et, .int .i64 ex, .int .i64 lk, .slice da1 dn dp1, .int .i64 sec, .int .i64 nano, .int .i64 bl, .int .i64 wi, .slice ca1 cn cp1, .slice fa1 fn fp1, .slice ka kn kp] := HP0.out.on g
  have q1 : Yx w4 B1 53 [.int .i64 0, .int .i64 0, .int .i64 0, .int .i64 0, .int .i64 0, .int .i64 0, .slice none 0 0, .int .i64 0, .int .i64 0, .int .i64 0, .int .i64 0, .slice none 0 0, .slice none 0 0, .slice none 0 0] := HP1.out.on g
  have r0 := q0.set 13 (.slice ka1 kn kp1)
  simp only [List.set_cons_zero, List.set_cons_succ] at r0
  have r1 : Yx (w4.setCell ⟨B0, 13, none⟩ (.slice ka1 kn kp1)) B1 53 [.int .i64 0, .int .i64 0, .int .i64 0, .int .i64 0, .int .i64 0, .int .i64 0, .slice none 0 0, .int .i64 0, .int .i64 0, .int .i64 0, .int .i64 0, .slice none 0 0, .slice none 0 0, .slice none 0 0] := q1.other (by have := HB.out; omega)
  have zf := q0.fz 13
  have co := q0.cell 13
  simp only [List.getElem?_cons_succ, List.getElem?_cons_zero] at co
  have HX2 := hid ((bel_bel HX.out HX.out.size g).setCell (p := ⟨B0, 13, none⟩) (by have := HB.out; show w.heap.size ≤ B0; omega) (.slice ka1 kn kp1))
  obtain ⟨x4, HW⟩ : ∃ z, Hid (w4.setCell ⟨B0, 13, none⟩ (.slice ka1 kn kp1) = z) := ⟨_, rfl⟩
  have hsx : w4.heap.size ≤ x4.heap.size ∧ ∀ k, Z0 ≤ k → x4.heap[k]? = w4.heap[k]? := by
    have := HB.out
    rw [← HW.out]; exact ⟨by simp [World.setCell], fun k hk => Below.heap_setCell _ _ _ _ (by show k ≠ B0; omega)⟩
  have HVD : Hid (Vs x4 (fun x => Z0 ≤ x) da1 dn dp1 d) := HVD.out.keep (Nat.le_refl _) (fun k hk hk2 => (hsx.2 k hk2).trans (HGG.out.block k hk))
  have HVC : Hid (Cs x4 (fun x => Z0 ≤ x) ca1 cn ch) := HVC.out.keep (Nat.le_refl _) (fun k hk hk2 => (hsx.2 k hk2).trans (HGG.out.block k hk)) (Nat.le_trans HGG.out.size hsx.1)
  have HVF : Hid (Fts x4 (fun x => Z0 ≤ x) fa1 fn fl) := HVF.out.keep (Nat.le_refl _) (fun k hk hk2 => (hsx.2 k hk2).trans (HGG.out.block k hk)) (Nat.le_trans HGG.out.size hsx.1)
  have HVK : Hid (Kps x4 (fun x => Z0 ≤ x) ka1 kn ks) := (vs.keep (S' := Z0) HS0.out (fun k hk hk2 => hsx.2 k (Nat.le_trans HS0.out hk2)) hsx.1)
  clear vs
  have d0 := r0.cell 0
  have d1 := r0.cell 1
  have d2 := r0.cell 2
  have d3 := r0.cell 3
  have d4 := r0.cell 4
  have d5 := r0.cell 5
  have d6 := r0.cell 6
  have d7 := r0.cell 7
  have d8 := r0.cell 8
  have d9 := r0.cell 9
  have d10 := r0.cell 10
  have d11 := r0.cell 11
  have d12 := r0.cell 12
  have d13 := r0.cell 13
  simp only [List.getElem?_cons_succ, List.getElem?_cons_zero] at d0 d1 d2 d3 d4 d5 d6 d7 d8 d9 d10 d11 d12 d13
  have HR1 := hid r1
  have HKC := hid hkc
  clear q0 q1 r0 r1 g HX HGG kct HS0 hsx hkc
  go_wp2_with (refine wpList_sop rfl rfl _ _ rfl B1 kd ea ek et ex lk sec nano bl wi da1 ca1 fa1 ka1 dn dp1 cn cp1 fn fp1 kn kp1 [.int .i64 0, .int .i64 0, .int .i64 0, .int .i64 0, .int .i64 0, .int .i64 0, .slice none 0 0, .int .i64 0, .int .i64 0, .int .i64 0, .int .i64 0, .slice none 0 0, .slice none 0 0, .slice none 0 0] rfl rfl (by with_reducible exact HR1.out) rfl ?_)
  clear d0 d1 d2 d3 d4 d5 d6 d7 d8 d9 d10 d11 d12 d13 zf co
  have hr1 := HR1.out
  rw [HW.out] at hr1 ⊢
  have hx2 := HX2.out
  rw [HW.out] at hx2
  refine bodyPost_ret (v := .agg #[.int .i64 kd, .int .i64 ea, .int .i64 ek, .int .i64 et, .int .i64 ex, .int .i64 lk, .slice da1 dn dp1, .int .i64 sec, .int .i64 nano, .int .i64 bl, .int .i64 wi, .slice ca1 cn cp1, .slice fa1 fn fp1, .slice ka1 kn kp1]) ?_ rfl ⟨da1, dp1, ca1, cp1, fa1, fp1, ka1, kp1, rfl, ?_, HKC.out, bel_row hx2 (by have := HB.out; omega) _⟩
  · exact results_cell_row rfl _ _ B1 _ _ _ _ rfl (setRow_heap x4 B1 _ _ _ _ hr1) Tryz.underlying53 rfl sizeOpE
  · have hb := HB.out
    have hso : ∀ k, k < x4.heap.size → Z0 ≤ k → (x4.setRow B1 #[.int .i64 kd, .int .i64 ea, .int .i64 ek, .int .i64 et, .int .i64 ex, .int .i64 lk, .slice da1 dn dp1, .int .i64 sec, .int .i64 nano, .int .i64 bl, .int .i64 wi, .slice ca1 cn cp1, .slice fa1 fn fp1, .slice ka1 kn kp1]).heap[k]? = x4.heap[k]? := fun k _ hk => setRow_other _ _ _ _ (by omega)
    have hss : x4.heap.size ≤ (x4.setRow B1 #[.int .i64 kd, .int .i64 ea, .int .i64 ek, .int .i64 et, .int .i64 ex, .int .i64 lk, .slice da1 dn dp1, .int .i64 sec, .int .i64 nano, .int .i64 bl, .int .i64 wi, .slice ca1 cn cp1, .slice fa1 fn fp1, .slice ka1 kn kp1]).heap.size := (bel_row (Below.refl 0 x4) (Nat.zero_le _) _).size
    exact ⟨HVD.out.keep (by omega) hso, HVC.out.keep (by omega) hso hss, HVF.out.keep (by omega) hso hss, HVK.out.keep (by omega) hso hss⟩
end Go.Proofs.YtkeogggeefnoeaaGreatDoor
