import Derived.Test.YthjfgdldclhbhaaRK
namespace Go.Proofs.Ythjfgdldclhbhaa
set_option maxRecDepth 100000
open Go.RowKit Go.Shelf
set_option linter.unusedVariables false

def bcs (ks : List Bool) : List Value := ks.map Value.bool
theorem info4 : (Try.prog.info? 4).map (fun i => (i.zero, i.size, i.bytes)) = some (some (.bool false), 1, 1) := by kernel_rfl
theorem bcs_take {ks : List Bool} {j : Nat} (h : j < ks.length) : bcs (ks.take (j + 1)) = bcs (ks.take j) ++ [.bool (ks.getD j false)] := by
  unfold bcs
  rw [List.take_add_one, List.getElem?_eq_getElem h, List.map_append]
  simp [List.getD, h]
theorem cell1_new (w : World) (u : Value) (t : TypeId) : (w.alloc (.cells #[u] t)).cell? ⟨w.heap.size, 0, none⟩ = some u := by
  have h : (w.alloc (.cells #[u] t)).heap[w.heap.size]? = some (.cells #[u] t (0, 0)) := heap_alloc_new w _
  exact (cell_of_row _ _ 0 _ t (0, 0) h).trans rfl
theorem wpList_appK {ops : Array Oper} {rest : List Oper} {o : Oper} {a : Act} {w : World} {Q : Exit → Act → World → Prop} (hgd : o.guard = none) (s x : Operand)
    (ho : o.op = .call { callee := .builtin .append, args := #[s, x], argTypes := #[32, 32] }) (B : Nat) (v : Value) (n : Nat) (xs : List Value) (b : Bool) (gb : Nat)
    (hs : a.eval s = v) (hown : w.ownsRow B 4 1 v n xs) (hx : a.eval x = .slice (some ⟨gb, 0, none⟩) 1 1) (hc0 : w.cell? ⟨gb, 0, none⟩ = some (.bool b)) (hn : n + 1 ≤ 140737488355328) (hB : B ≤ w.heap.size)
    (h : ∀ v' w', Hid (w'.ownsRow B 4 1 v' (n + 1) (xs ++ [.bool b])) → Hid (w.grownBy w' v.ownBlock) → wpList Try.prog ops Q rest (a.put o.dst v') w') : wpList Try.prog ops Q (o :: rest) a w := by
  obtain ⟨i, hi, hz0, hz1, hz2⟩ := info_parts info4
  refine wpList_append_own _ hgd s x 32 ho B 4 i _ 1 1 Try.underlying32 hi hz0 hz1 hz2 rfl (by decide) v n xs hs hown ⟨gb, 0, none⟩ 1 1 [.bool b] hx rfl ?_ ?_ (by unfold maxLen; omega) (by omega) hB ?_
  · intro j u hj
    match j, hj with
    | 0, hj => simp at hj; subst hj; exact hc0
  · intro u hu
    simp at hu
    subst hu
    rfl
  · intro v' w' h1 h2 _
    exact h v' w' h1 h2
theorem Bl.cells {w wx : World} {a : Option Addr} {n j : Nat} {ks : List Bool} (h : Bl w a n ks) (hj : j < n) (hb : Below w.heap.size w wx) : ∃ b off, a = some ⟨b, off, none⟩ ∧ ∀ i, i < n → wx.cell? ⟨b, off + i, none⟩ = some (.bool (ks.getD i false)) := by
  rcases (h.below hb).2 with h0 | h
  · omega
  · exact h
set_option maxHeartbeats 1000000 in
/-- The same flags in new memory. -/
theorem rbools_ (a : Option Addr) (m c : Nat) (ks : List Bool) (w : World) (h : Bl w a m ks) (hm : m ≤ 140737488355327) :
    Calls Try.prog 72 #[.slice a m c] w fun en w' => ∃ v, en = .returned v ∧ w'.ownsRow w.heap.size 4 1 v m (bcs ks) ∧ Below w.heap.size w w' := by
  have hl := h.1
  have HF := hid h
  clear h
  go_enter Try.func72, Try.ntmps72
  go_wp2_with fail
  go_loopw [3, 4] (fun u i wr => ∃ j : Nat, j ≤ m ∧ i = .int .i64 j ∧ wr.ownsRow w.heap.size 4 1 u j (bcs (ks.take j)) ∧ Below w.heap.size w wr) (fun _ i _ => m - (intOf i).toNat)
  case atStart => exact ⟨0, Nat.zero_le _, rfl, World.ownsRow_nil _ _ _ _, Below.refl _ _⟩
  case round =>
    obtain ⟨j, hj, rfl, ho, hb⟩ := hrel
    by_cases hlt : j < m
    · have hjI : (j : Int) < (m : Int) := by omega
      obtain ⟨b, off, rfl, hcs⟩ := HF.out.cells hlt hb
      have x0 := hcs j hlt
      have HT := hid (bcs_take (show j < ks.length by omega))
      generalize ks.getD j false = f at *
      have BA : Below wr.heap.size wr (wr.alloc (.cells #[.bool f] 4)) := (Below.refl _ _).alloc (Nat.le_refl _) _
      have OA := hid (ho.alloc (.cells #[.bool f] 4))
      have HB := hid (bel_bel hb hb.size BA)
      have hsz : w.heap.size ≤ (wr.alloc (.cells #[.bool f] 4)).heap.size := HB.out.size
      clear ho hb hcs BA
      go_wp2_with (at_builtin; refine wpList_appK rfl _ _ rfl w.heap.size _ j (bcs (ks.take j)) f wr.heap.size rfl (by exact OA.out) rfl (by exact cell1_new wr _ _) (by omega) hsz ?_; intro v' w' o' G'; have HB2 := hid (bel_own HB.out OA.out G'.out))
      go_roundw
      case rel => exact ⟨j + 1, by omega, by go_num, by rw [HT.out]; exact o'.out, HB2.out⟩
      case measure => simp [intOf]; omega
    · have hjI : ¬ (j : Int) < (m : Int) := by omega
      have hjm : j = m := by omega
      subst hjm
      rw [List.take_of_length_le (by omega)] at ho
      have HO := hid ho
      have HB := hid hb
      clear ho hb
      go_wp2_with fail
      go_ret
      exact ⟨_, rfl, HO.out, HB.out⟩
set_option maxHeartbeats 1000000 in
/-- The same flags? -/
theorem rsameBools_ (a b : Option Addr) (m c c' : Nat) (ks : List Bool) (w : World) (h : Bl w a m ks) (h' : Bl w b m ks) (hm : m ≤ 140737488355328) :
    Calls Try.prog 73 #[.slice a m c, .slice b m c'] w fun en w' => en = .returned (.bool true) ∧ Drawn w w' := by
  have H1 := hid h
  have H2 := hid h'
  have hmm : ((m : Int) != (m : Int)) = false := by simp
  clear h h'
  go_enter Try.func73, Try.ntmps73
  go_wp2_with fail
  go_loopw [5] (fun i wr => ∃ j : Nat, j ≤ m ∧ i = .int .i64 j ∧ Drawn w wr) (fun i _ => m - (intOf i).toNat)
  case atStart => exact ⟨0, Nat.zero_le _, rfl, ⟨rfl, rfl, rfl, rfl⟩⟩
  case round =>
    obtain ⟨j, hj, rfl, hd⟩ := hrel
    have HD := hid hd
    by_cases hlt : j < m
    · have hjI : (j : Int) < (m : Int) := by omega
      obtain ⟨b1, o1, rfl, q1⟩ := H1.out.cells hlt hd.below
      obtain ⟨b2, o2, rfl, q2⟩ := H2.out.cells hlt hd.below
      have x1 := q1 j hlt
      have x2 := q2 j hlt
      generalize ks.getD j false = f at *
      have tf : (f != f) = false := by simp
      clear hd q1 q2
      go_wp2_with fail
      go_quiet (fail)
      go_wp2_with fail
      go_roundw
      case rel => exact ⟨j + 1, by omega, by go_num, ⟨HD.out.os, HD.out.tape, HD.out.output, HD.out.heap⟩⟩
      case measure => simp [intOf]; omega
    · have hjI : ¬ (j : Int) < (m : Int) := by omega
      clear hd
      go_wp2_with fail
      go_ret
      exact ⟨rfl, HD.out⟩
set_option maxHeartbeats 1000000 in
/-- The same faults? -/
theorem rsameFaults_ (a b : Option Addr) (m c c' : Nat) (fs : List (Int × Int)) (w : World) (h : Fs w a m fs) (h' : Fs w b m fs) (hm : m ≤ 140737488355328) :
    Calls Try.prog 70 #[.slice a m c, .slice b m c'] w fun en w' => en = .returned (.bool true) ∧ Drawn w w' := by
  have H1 := hid h
  have H2 := hid h'
  have hmm : ((m : Int) != (m : Int)) = false := by simp
  clear h h'
  go_enter Try.func70, Try.ntmps70
  go_wp2_with fail
  go_loopw [5] (fun i wr => ∃ j : Nat, j ≤ m ∧ i = .int .i64 j ∧ Drawn w wr) (fun i _ => m - (intOf i).toNat)
  case atStart => exact ⟨0, Nat.zero_le _, rfl, ⟨rfl, rfl, rfl, rfl⟩⟩
  case round =>
    obtain ⟨j, hj, rfl, hd⟩ := hrel
    have HD := hid hd
    by_cases hlt : j < m
    · have hjI : (j : Int) < (m : Int) := by omega
      obtain ⟨b1, o1, rfl, q1⟩ := H1.out.cells hlt hd.below
      obtain ⟨b2, o2, rfl, q2⟩ := H2.out.cells hlt hd.below
      obtain ⟨x1, y1⟩ := q1 j hlt
      obtain ⟨x2, y2⟩ := q2 j hlt
      generalize fs.getD j (0, 0) = f at *
      obtain ⟨A, K⟩ := f
      simp only at *
      have tf : (A != A) = false := by simp
      have tk : (K != K) = false := by simp
      clear hd q1 q2
      go_wp2_with fail
      go_quiet (fail)
      go_wp2_with fail
      go_roundw
      case rel => exact ⟨j + 1, by omega, by go_num, ⟨HD.out.os, HD.out.tape, HD.out.output, HD.out.heap⟩⟩
      case measure => simp [intOf]; omega
    · have hjI : ¬ (j : Int) < (m : Int) := by omega
      clear hd
      go_wp2_with fail
      go_ret
      exact ⟨rfl, HD.out⟩
end Go.Proofs.Ythjfgdldclhbhaa
