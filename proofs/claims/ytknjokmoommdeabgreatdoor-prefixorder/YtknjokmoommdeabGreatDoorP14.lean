import Derived.Test.YtknjokmoommdeabGreatDoorP13
namespace Go.Proofs.YtknjokmoommdeabGreatDoor
set_option maxRecDepth 100000
open Go.RowKit
set_option linter.unusedVariables false

/-! A text cut at a sign. -/
def cq (c : Nat) (cur : List Nat) : List Nat → List (List Nat)
  | [] => [cur]
  | x :: l => if x = c then cur :: cq c [] l else cq c (cur ++ [x]) l
def cu (c : Nat) (l : List Nat) : List (List Nat) := cq c [] l
def tv (l : List (List Nat)) : List Value := l.map fun x => Value.string (sb x)
theorem tv_length (l : List (List Nat)) : (tv l).length = l.length := by simp [tv]
theorem sb_cut (l : List Nat) (a b : Nat) : (sb l).extract a b = sb ((l.take b).drop a) := by
  apply ByteArray.ext
  unfold sb
  rw [ByteArray.data_extract]
  simp only [List.extract_toArray, List.extract_eq_take_drop, List.map_drop, List.map_take, List.drop_take]
theorem cq_len (c : Nat) (l : List Nat) : ∀ cur, (cq c cur l).length ≤ l.length + 1 := by
  induction l with
  | nil => intro cur; simp [cq]
  | cons x l ih =>
    intro cur
    unfold cq
    split
    · have := ih []
      simp only [List.length_cons]
      omega
    · have := ih (cur ++ [x])
      simp only [List.length_cons]
      omega
theorem cq_sign (c : Nat) (l : List Nat) (P : Nat → Prop) (hl : ∀ x ∈ l, P x) : ∀ cur, (∀ x ∈ cur, P x) → ∀ y ∈ cq c cur l, ∀ x ∈ y, P x := by
  induction l with
  | nil =>
    intro cur hc y hy
    simp [cq] at hy
    subst hy
    exact hc
  | cons a l ih =>
    intro cur hc y hy
    unfold cq at hy
    have hl' : ∀ x ∈ l, P x := fun x hx => hl x (List.mem_cons_of_mem _ hx)
    split at hy
    · rcases List.mem_cons.1 hy with rfl | hy
      · exact hc
      · exact ih hl' [] (fun x hx => by cases hx) y hy
    · refine ih hl' (cur ++ [a]) (fun x hx => ?_) y hy
      rcases List.mem_append.1 hx with h | h
      · exact hc x h
      · rw [List.mem_singleton.1 h]
        exact hl a (List.mem_cons_self ..)
theorem cq_short (c : Nat) (l : List Nat) : ∀ cur, ∀ y ∈ cq c cur l, y.length ≤ cur.length + l.length := by
  induction l with
  | nil =>
    intro cur y hy
    simp [cq] at hy
    subst hy
    simp
  | cons a l ih =>
    intro cur y hy
    unfold cq at hy
    split at hy
    · rcases List.mem_cons.1 hy with rfl | hy
      · simp
      · have := ih [] y hy
        simp only [List.length_cons, List.length_nil] at *
        omega
    · have := ih _ y hy
      simp only [List.length_cons, List.length_append, List.length_nil] at *
      omega
theorem drop_cons7 (l : List Nat) (j : Nat) (h : j < l.length) : l.drop j = l.getD j 0 :: l.drop (j + 1) := by
  rw [List.drop_eq_getElem_cons h]
  simp [List.getD, h]
theorem cq_hit (c : Nat) (l : List Nat) (j : Nat) (cur : List Nat) (h : j < l.length) (e : l.getD j 0 = c) : cq c cur (l.drop j) = cur :: cq c ((l.take (j + 1)).drop (j + 1)) (l.drop (j + 1)) := by
  have e0 : (l.take (j + 1)).drop (j + 1) = [] := List.drop_eq_nil_of_le (by rw [List.length_take]; omega)
  rw [drop_cons7 l j h, e0, cq, if_pos e]
theorem cq_miss (c : Nat) (l : List Nat) (j p : Nat) (hp : p ≤ j) (h : j < l.length) (e : l.getD j 0 ≠ c) : cq c ((l.take j).drop p) (l.drop j) = cq c ((l.take (j + 1)).drop p) (l.drop (j + 1)) := by
  rw [drop_cons7 l j h]
  rw [cq, if_neg e]
  rw [take_snoc7 l j h, List.drop_append_of_le_length (by rw [List.length_take]; omega)]
theorem one_src (w : World) (X : Value) (t : TypeId) : ∀ (j : Nat) (u : Value), [X][j]? = some u → (w.alloc (.cells #[X] t)).cell? ((⟨w.heap.size, 0, none⟩ : Addr).add j) = some u := by
  intro j u hu
  have hj : j = 0 := by
    have := (List.getElem?_eq_some_iff.1 hu).1
    simp at this
    exact this
  subst hj
  rw [Addr.add_lit, Nat.zero_add, cell_of_row _ w.heap.size 0 _ _ (0, 0) (heap_alloc_new w _)]
  exact hu
theorem info_s : (Tryz.prog.info? 9).map (fun i => (i.zero, i.size, i.bytes)) = some (some (.string ⟨#[]⟩), 1, 16) := by kernel_rfl
set_option maxHeartbeats 2000000 in
theorem refParts_ (l : List Nat) (c : Nat) (w : World) (hy : ∀ x ∈ l, x < 256) (hlen : l.length ≤ 64) (hc : c < 256) :
    Calls Tryz.prog 27 #[.string (sb l), .int .u8 c] w fun e w' => ∃ v, e = .returned v ∧ w'.ownsRow w.heap.size 9 1 v (cu c l).length (tv (cu c l)) ∧ Below w.heap.size w w' := by
  obtain ⟨i5, hi, hz0, hz1, hz2⟩ := info_parts info_s
  have hs := sb_size l
  have q := fun i hi w => run_at l hy i hi w
  have HY := hid hy
  have HX := hid (fun a b => sb_cut l a b)
  clear hy
  obtain ⟨S, HS⟩ : ∃ S, Hid (sb l = S) := ⟨_, rfl⟩
  rw [HS.out] at hs ⊢
  simp only [HS.out] at q HX
  obtain ⟨n, HL⟩ : ∃ n, Hid (l.length = n) := ⟨_, rfl⟩
  rw [HL.out] at hs hlen
  simp only [HL.out] at q
  go_enter Tryz.func27, Tryz.ntmps27
  go_wp2_with fail
  go_loopw [5, 6, 7] (fun v a i wr => ∃ (ls : List (List Nat)) (p j : Nat), a = .int .i64 p ∧ i = .int .i64 j ∧ j ≤ n + 1 ∧ ls.length ≤ j ∧ wr.ownsRow w.heap.size 9 1 v ls.length (tv ls) ∧ Below w.heap.size w wr ∧ Hid ((j ≤ n → p ≤ j ∧ ls ++ cq c ((l.take j).drop p) (l.drop j) = cu c l) ∧ (j = n + 1 → ls = cu c l))) (fun _ _ i _ => n + 1 - (intOf i).toNat)
  case atStart => exact ⟨[], 0, 0, rfl, rfl, by omega, Nat.le_refl _, World.ownsRow_nil _ _ _ _, Below.refl _ _, ⟨fun _ => ⟨Nat.le_refl _, rfl⟩, fun h => by omega⟩⟩
  case round =>
    obtain ⟨ls, p, j, rfl, rfl, hj, hll, hown, B0, HI⟩ := hrel
    by_cases hle : j ≤ n
    · have hI : (j : Int) ≤ (n : Int) := by omega
      obtain ⟨hp, hE⟩ := HI.out.1 hle
      replace hE := hid hE
      clear HI
      by_cases hjn : j = n
      · subst hjn
        have hss : ∀ w, (Instr.slice 9 (.string S) (some (.int .i64 (p : Int))) (some (.int .i64 (j : Int))) none).run Tryz.prog w = .ok (.string (sb ((l.take j).drop p))) w := fun w => by
          have := run_slice_string (P := Tryz.prog) (w := w) 9 S .i64 .i64 p j Tryz.underlying9 (by omega) (by omega) (by omega)
          rw [Int.toNat_natCast, Int.toNat_natCast, HX.out] at this
          exact this
        have HEE : Hid (ls ++ [(l.take j).drop p] = cu c l) := by
          show _ = _
          have e0 : l.drop j = [] := List.drop_eq_nil_of_le (by rw [HL.out]; exact Nat.le_refl _)
          rw [← hE.out, e0]
          rfl
        have HSS : Hid (tv ls ++ [.string (sb ((l.take j).drop p))] = tv (cu c l)) := by
          show _ = _
          rw [← HEE.out]
          simp [tv]
        have HLL : Hid ((cu c l).length = ls.length + 1) := by show _ = _; rw [← HEE.out]; simp
        generalize sb ((l.take j).drop p) = X at *
        have HO := hid hown
        have hs2 := B0.size
        clear q hE HX HY
        go_wp2_with (at_builtin; refine wpList_append_own _ rfl _ _ 60 rfl w.heap.size 9 i5 (.string ⟨#[]⟩) 1 16 Tryz.underlying60 hi hz0 hz1 hz2 rfl (by decide) _ _ _ rfl (hown.alloc _) ⟨wr.heap.size, 0, none⟩ 1 1 [.string X] rfl rfl ?c1 ?c2 ?c3 ?c4 ?c5 ?_)
        case c1 => exact one_src _ _ _
        case c2 => intro u hu; rw [List.mem_singleton.1 hu]; rfl
        case c3 => unfold maxLen; omega
        case c4 => omega
        case c5 => simp <;> omega
        intro v' w6 hown' hgrow _
        have hown2 : w6.ownsRow w.heap.size 9 1 v' (cu c l).length (tv (cu c l)) := by rw [← HSS.out, HLL.out]; exact hown'
        have B3 : Below w.heap.size w w6 := (B0.alloc (by omega) _).grown hgrow (by simp; omega) fun p hp => by have := (HO.out.lt p hp).1; omega
        clear hown' hgrow HO HSS hown B0
        go_wp2_with fail
        go_roundw
        case rel => exact ⟨cu c l, j + 1, j + 1, by go_num, by go_num, by omega, by rw [HLL.out]; omega, hown2, B3, ⟨fun h => by omega, fun _ => rfl⟩⟩
        case measure => simp [intOf] <;> omega
      · have hlt : j < n := by omega
        have hne : ¬ (j : Int) = (n : Int) := by omega
        have q1 := fun w => q j hlt w
        have hx : l.getD j 0 < 256 := getD_lt6 HY.out j
        have HH := hid (fun e => cq_hit c l j ((l.take j).drop p) (by rw [HL.out]; exact hlt) e)
        have HM := hid (fun e => cq_miss c l j p hp (by rw [HL.out]; exact hlt) e)
        clear q HY
        generalize l.getD j 0 = x at *
        by_cases hxc : x = c
        · subst hxc
          have HSS : Hid (tv ls ++ [.string (S.extract p j)] = tv (ls ++ [(l.take j).drop p])) := by show _ = _; rw [HX.out]; simp [tv]
          have HEE : Hid ((ls ++ [(l.take j).drop p]) ++ cq x ((l.take (j + 1)).drop (j + 1)) (l.drop (j + 1)) = cu x l) := by
            show _ = _
            rw [← hE.out, HH.out rfl, List.append_assoc]
            rfl
          generalize (l.take j).drop p = Y at *
          have HLL : Hid ((ls ++ [Y]).length = ls.length + 1) := by show _ = _; simp
          have HO := hid hown
          have hs2 := B0.size
          clear hE HX HH HM
          go_wp2_with (at_builtin; go_loud (refine wpList_append_own _ rfl _ _ 60 rfl w.heap.size 9 i5 (.string ⟨#[]⟩) 1 16 Tryz.underlying60 hi hz0 hz1 hz2 rfl (by decide) _ _ _ rfl (hown.alloc _) ⟨wr.heap.size, 0, none⟩ 1 1 [.string (S.extract p j)] rfl rfl ?c1 ?c2 ?c3 ?c4 ?c5 ?_))
          case c1 => exact one_src _ _ _
          case c2 => intro u hu; rw [List.mem_singleton.1 hu]; rfl
          case c3 => unfold maxLen; omega
          case c4 => omega
          case c5 => simp <;> omega
          intro v' w6 hown' hgrow _
          have hown2 : w6.ownsRow w.heap.size 9 1 v' (ls ++ [Y]).length (tv (ls ++ [Y])) := by rw [← HSS.out, HLL.out]; exact hown'
          have B3 : Below w.heap.size w w6 := (B0.alloc (by omega) _).grown hgrow (by simp; omega) fun p hp => by have := (HO.out.lt p hp).1; omega
          clear hown' hgrow HO HSS hown B0
          go_wp2_with fail
          go_roundw
          case rel => exact ⟨ls ++ [Y], j + 1, j + 1, by go_num, by go_num, by omega, by rw [HLL.out]; omega, hown2, B3, ⟨fun h => ⟨Nat.le_refl _, HEE.out⟩, fun h => by omega⟩⟩
          case measure => simp [intOf] <;> omega
        · have d1 : ((j : Int) == (n : Int)) = false := by simp; omega
          have d2 : ((x : Int) == (c : Int)) = false := by simp; omega
          clear hne
          have HEE : Hid (ls ++ cq c ((l.take (j + 1)).drop p) (l.drop (j + 1)) = cu c l) := by show _ = _; rw [← hE.out, HM.out hxc]
          clear hE HX HH HM
          go_wp2_with fail
          go_roundw
          case rel => exact ⟨ls, p, j + 1, rfl, by go_num, by omega, by omega, hown, B0, ⟨fun h => ⟨by omega, HEE.out⟩, fun h => by omega⟩⟩
          case measure => simp [intOf] <;> omega
    · have hI : ¬ (j : Int) ≤ (n : Int) := by omega
      obtain rfl : ls = cu c l := HI.out.2 (by omega)
      clear HI q HX HY
      go_wp2_with fail
      go_ret
      exact ⟨_, rfl, hown, B0⟩
end Go.Proofs.YtknjokmoommdeabGreatDoor
