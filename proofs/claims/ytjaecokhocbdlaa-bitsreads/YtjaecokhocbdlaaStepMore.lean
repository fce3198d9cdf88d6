import Derived.Test.YtjaecokhocbdlaaStepGet
namespace Go.Proofs.Ytjaecokhocbdlaa
open Go.RowKit
set_option linter.unusedVariables false

theorem Rf.cc {w : World} {d : Nat} {P : Nat → Prop} {bs : List Int} {p e : Int} (h : Rf w d P bs p e) : w.cell? ⟨d, 1, none⟩ = some (.int .i64 p) ∧ w.cell? ⟨d, 2, none⟩ = some (.int .i64 e) := by
  obtain ⟨a, n, c, h1, _⟩ := h; exact ⟨h1.c1, h1.c2⟩
theorem Pair.drawn {w w' : World} {r g d : Nat} {P : Nat → Prop} {bs : List Int} (h : Pair w r g d P bs) (hd : Fr (fun _ => False) w w') : Pair w' r g d P bs := by
  rcases h with ⟨p, hp, hRd, hRf⟩ | ⟨p, e, hRb, hRf⟩
  · exact .inl ⟨p, hp, hRd.fr hd (fun h => h) (fun h => h), hRf.fr hd (fun _ h => h.elim) (fun h => h)⟩
  · exact .inr ⟨p, e, hRb.fr hd (fun h => h), hRf.fr hd (fun _ h => h.elim) (fun h => h)⟩

/-- Any other kind does nothing. -/
def Other (k : Int) : Prop := k ≠ 1 ∧ k ≠ 2 ∧ k ≠ 3 ∧ k ≠ 4 ∧ k ≠ 5 ∧ k ≠ 6 ∧ k ≠ 7 ∧ k ≠ 8 ∧ k ≠ 9

set_option maxHeartbeats 1000000 in
theorem stepOther (r g d : Nat) (P : Nat → Prop) (hA : Apart r g d P) (k N : Int) (hk : Other k) (s : Bool) (bs : List Int) (w : World) (h : Pair w r g d P bs) (hl : bs.length ≤ 1000000) :
    Calls Try.prog 14 #[.agg #[.int .i64 k, .int .i64 N, .bool s], .pointer (some ⟨r, 0, none⟩), .pointer (some ⟨d, 0, none⟩)] w fun en w' => en = .returned (.bool true) ∧ Pair w' r g d P bs ∧ Fr (Blk r g d) w w' := by
  have F0 : Fr (Blk r g d) w (w.alloc (.cells #[.int .i64 k, .int .i64 N, .bool s] 34)) := Fr.alloc _ _ _
  have H := hid (h.drawn (Fr.alloc _ _ (.cells #[.int .i64 k, .int .i64 N, .bool s] 34)))
  obtain ⟨k1, k2, k3, k4, k5, k6, k7, k8, k9⟩ := hk
  have e1 : (k == 1) = false := by rw [beq_eq_false_iff_ne]; exact k1
  have e2 : (k == 2) = false := by rw [beq_eq_false_iff_ne]; exact k2
  have e3 : (k == 3) = false := by rw [beq_eq_false_iff_ne]; exact k3
  have e4 : (k == 4) = false := by rw [beq_eq_false_iff_ne]; exact k4
  have e5 : (k == 5) = false := by rw [beq_eq_false_iff_ne]; exact k5
  have e6 : (k == 6) = false := by rw [beq_eq_false_iff_ne]; exact k6
  have e7 : (k == 7) = false := by rw [beq_eq_false_iff_ne]; exact k7
  have e8 : (k == 8) = false := by rw [beq_eq_false_iff_ne]; exact k8
  have e9 : (k == 9) = false := by rw [beq_eq_false_iff_ne]; exact k9
  clear k1 k2 k3 k4 k5 k6 k7 k8 k9 h
  go_enter Try.func14, Try.ntmps14
  go_wp2_with fail
  go_ret
  exact ⟨rfl, H.out, F0⟩

set_option maxHeartbeats 1000000 in
theorem stepLeft (r g d : Nat) (P : Nat → Prop) (hA : Apart r g d P) (N : Int) (s : Bool) (bs : List Int) (w : World) (h : Pair w r g d P bs) (hl : bs.length ≤ 1000000) :
    Calls Try.prog 14 #[.agg #[.int .i64 7, .int .i64 N, .bool s], .pointer (some ⟨r, 0, none⟩), .pointer (some ⟨d, 0, none⟩)] w fun en w' => en = .returned (.bool true) ∧ Pair w' r g d P bs ∧ Fr (Blk r g d) w w' := by
  have F0 : Fr (Blk r g d) w (w.alloc (.cells #[.int .i64 7, .int .i64 N, .bool s] 34)) := Fr.alloc _ _ _
  replace h := h.drawn (Fr.alloc _ _ (.cells #[.int .i64 7, .int .i64 N, .bool s] 34))
  have H := hid h
  rcases h with ⟨p, hp, hRd, hRf⟩ | ⟨p, e, hRb, hRf⟩
  · obtain ⟨L, hL⟩ : ∃ L : Nat, p + L = bs.length := ⟨bs.length - p, by omega⟩
    have HL := hid hL
    clear hL
    go_enter Try.func14, Try.ntmps14
    go_wp2_with fail
    refine (left_len r g L (bs.drop p) p _ hRd (by have := HL.out; simp; omega)).mono ?_
    rintro en w1 ⟨rfl, hw⟩
    subst hw
    go_wp2_with fail
    refine (rleft_w d P hA.pd bs _ p L hRf hl HL.out).mono ?_
    rintro en w2 ⟨rfl, hd⟩
    have HP := hid (H.out.drawn (.ofDrawn hd))
    have F2 := F0.trans (.ofDrawn hd)
    clear hd hRd hRf F0
    go_wp2_with fail
    go_ret
    exact ⟨rfl, HP.out, F2⟩
  · go_enter Try.func14, Try.ntmps14
    go_wp2_with fail
    refine (left_broken r p e _ hRb).mono ?_
    rintro en w1 ⟨rfl, hw⟩
    subst hw
    go_wp2_with fail
    refine (rleft_b d P hA.pd bs _ p e hRf hRb.2).mono ?_
    rintro en w2 ⟨rfl, hw⟩
    subst hw
    go_wp2_with fail
    go_ret
    exact ⟨rfl, H.out, F0⟩

theorem err_pair (r g d : Nat) (P : Nat → Prop) (bs : List Int) (w : World) (h : Pair w r g d P bs) :
    ∃ p e : Int, w.cell? ⟨d, 1, none⟩ = some (.int .i64 p) ∧ w.cell? ⟨d, 2, none⟩ = some (.int .i64 e) ∧
      Calls Try.prog 18 #[.pointer (some ⟨r, 0, none⟩)] w fun en w' => en = .returned (.tuple #[.int .i64 e, .int .i64 p]) ∧ Drawn w w' := by
  rcases h with ⟨p, hp, hRd, hRf⟩ | ⟨p, e, hRb, hRf⟩
  · exact ⟨p, 0, hRf.cc.1, hRf.cc.2, err_whole_d r g _ _ w hRd⟩
  · exact ⟨p, e, hRf.cc.1, hRf.cc.2, err_broken_d r _ _ w hRb⟩

set_option maxHeartbeats 1000000 in
theorem stepErr (r g d : Nat) (P : Nat → Prop) (hA : Apart r g d P) (N : Int) (s : Bool) (bs : List Int) (w : World) (h : Pair w r g d P bs) (hl : bs.length ≤ 1000000) :
    Calls Try.prog 14 #[.agg #[.int .i64 8, .int .i64 N, .bool s], .pointer (some ⟨r, 0, none⟩), .pointer (some ⟨d, 0, none⟩)] w fun en w' => en = .returned (.bool true) ∧ Pair w' r g d P bs ∧ Fr (Blk r g d) w w' := by
  have F0 : Fr (Blk r g d) w (w.alloc (.cells #[.int .i64 8, .int .i64 N, .bool s] 34)) := Fr.alloc _ _ _
  replace h := h.drawn (Fr.alloc _ _ (.cells #[.int .i64 8, .int .i64 N, .bool s] 34))
  obtain ⟨p, e, c1, c2, hE⟩ := err_pair r g d P bs _ h
  have H := hid h
  have HE := hid hE
  clear h hE
  have b1 : (e == e) = true := by simp
  have b2 : (p == p) = true := by simp
  go_enter Try.func14, Try.ntmps14
  go_wp2_with fail
  refine HE.out.mono ?_
  rintro en w1 ⟨rfl, hd⟩
  have d1 := (hd.cell ⟨d, 1, none⟩).trans c1
  have d2 := (hd.cell ⟨d, 2, none⟩).trans c2
  have HP := hid (H.out.drawn (.ofDrawn hd))
  have F1 := F0.trans (.ofDrawn hd)
  clear c1 c2 hd HE H F0
  go_wp2_with fail
  go_quiet ((go_at_call 19; exact Calls.quiet_of_same (num_ _ _)))
  go_wp2_with fail
  go_ret
  exact ⟨rfl, HP.out.drawn (.ofDrawn (drawnN w1 _)), F1.trans (.ofDrawn (drawnN w1 _))⟩

theorem first_bad (l : List Int) (m : Nat) : Zs l m ∨ ∃ k, k < m ∧ Zs l k ∧ l.getD k 0 ≠ 0 := by
  induction m with
  | zero => exact .inl fun j hj => by omega
  | succ m ih =>
    rcases ih with ih | ⟨k, h1, h2, h3⟩
    · by_cases h : l.getD m 0 = 0
      · exact .inl fun j hj => by
          by_cases e : j = m
          · rw [e]; exact h
          · exact ih j (by omega)
      · exact .inr ⟨m, by omega, ih, h⟩
    · exact .inr ⟨k, by omega, h2, h3⟩
theorem brk_or (N : Int) (len : Nat) : (∃ q, Brk N len q) ∨ ∃ m : Nat, N = m ∧ m ≤ len := by
  by_cases h : N < 0
  · exact .inl ⟨11, .inl ⟨h, rfl⟩⟩
  · by_cases h2 : (len : Int) < N
    · exact .inl ⟨10, .inr ⟨by omega, h2, rfl⟩⟩
    · exact .inr ⟨N.toNat, by omega, by omega⟩

theorem Pair.lt {w : World} {r g d : Nat} {P : Nat → Prop} {bs : List Int} (h : Pair w r g d P bs) : r < w.heap.size ∧ d < w.heap.size := by
  rcases h with ⟨p, hp, hRd, a, n, c, h1, _⟩ | ⟨p, e, hRb, a, n, c, h1, _⟩
  · exact ⟨hRd.lt, h1.lt⟩
  · exact ⟨hRb.lt, h1.lt⟩
theorem o_cell {w w1 : World} {r : Nat} {v0 v1 v2 : Value} (hr : r < w.heap.size) (o : Only r (w.alloc (.cells #[v0, v1, v2] 34)) w1) : w1.cell? ⟨w.heap.size, 1, none⟩ = some v1 := by
  rw [World.cell?_of_block (w := w.alloc (.cells #[v0, v1, v2] 34)) (a := ⟨w.heap.size, 1, none⟩) (o.block w.heap.size (by omega))]
  rw [cell_of_row _ w.heap.size 1 _ 34 (0, 0) (heap_alloc_new w _)]; rfl
theorem RdF.fr {p : Nat → Prop} {w w' : World} {r g lo : Nat} {zs : List Int} {q : Int} (h : RdF w r g lo zs q) (hf : Fr p w w') (hr : ¬ p r) (hg : ¬ p g) : RdF w' r g lo zs q := by
  obtain ⟨h1, a, n, c, h2, h3, h4⟩ := h
  exact ⟨h1, a, n, c, by unfold Rdr; rw [hf.block r h2.lt hr]; exact h2, h3.kept (fun hl => hf.block g hl hg), h4⟩
theorem rdF_fr {w w' : World} {r g lo : Nat} {zs : List Int} {q : Int} (h : RdF w r g lo zs q) (hd : Drawn w w') : RdF w' r g lo zs q := h.fr (p := fun _ => False) (.ofDrawn hd) (fun h => h) (fun h => h)

set_option maxHeartbeats 1000000 in
theorem stepZeros (r g d : Nat) (P : Nat → Prop) (hA : Apart r g d P) (N : Int) (s : Bool) (bs : List Int) (w : World) (h : Pair w r g d P bs) (hl : bs.length ≤ 1000000) :
    Calls Try.prog 14 #[.agg #[.int .i64 6, .int .i64 N, .bool s], .pointer (some ⟨r, 0, none⟩), .pointer (some ⟨d, 0, none⟩)] w fun en w' => en = .returned (.bool true) ∧ Pair w' r g d P bs ∧ Fr (Blk r g d) w w' := by
  have F0 : Fr (Blk r g d) w (w.alloc (.cells #[.int .i64 6, .int .i64 N, .bool s] 34)) := Fr.alloc _ _ _
  obtain ⟨lr, ld⟩ := h.lt
  replace h := h.drawn (Fr.alloc _ _ (.cells #[.int .i64 6, .int .i64 N, .bool s] 34))
  rcases h with ⟨p, hp, hRd, hRf⟩ | ⟨p, e, hRb, hRf⟩
  · rcases brk_or N (bs.length - p) with ⟨q, hq⟩ | ⟨m, rfl, hm⟩
    · have HQ := hid hq
      clear hq
      go_enter Try.func14, Try.ntmps14
      go_wp2_with fail
      refine (zeros_breaks r g N q (bs.drop p) p _ hRd (by rw [List.length_drop]; exact HQ.out)).mono ?_
      rintro en w1 ⟨rfl, R1, o1⟩
      have hRf1 := hRf.fr (p := fun x => x = r) (.ofOnly o1 rfl) (fun k hk => hk ▸ hA.pr) (fun e => hA.rd e.symm)
      have F1 := F0.trans (.ofOnly o1 (.inl rfl))
      have c1 := o_cell lr o1
      clear hRf F0 o1
      go_wp2_with fail
      refine (rzeros_n d P hA.pd bs w1 p N q hRf1 hl hp HQ.out).mono ?_
      rintro en w2 ⟨rfl, R2, o2⟩
      have R12 := R1.fr (p := fun x => x = d) (.ofOnly o2 rfl) hA.rd
      have F2 := F1.trans (.ofOnly o2 (.inr (.inr rfl)))
      have HP : Hid (Pair w2 r g d P bs) := .inr ⟨p, q, R12, R2⟩
      clear R12 R2 o2 F1 hRf1 R1
      go_wp2_with fail
      go_ret
      exact ⟨rfl, HP.out, F2⟩
    · rcases first_bad (bs.drop p) m with hz | ⟨k, hk, hz, hne⟩
      · have HZ := hid hz
        clear hz
        go_enter Try.func14, Try.ntmps14
        go_wp2_with fail
        refine (zeros_whole r g m (bs.drop p) p _ hRd (by simp; omega) (by simp; omega) (by omega) (by omega) HZ.out).mono ?_
        rintro en w1 ⟨rfl, R1, o1⟩
        have hRf1 := hRf.fr (p := fun x => x = r) (.ofOnly o1 rfl) (fun k hk => hk ▸ hA.pr) (fun e => hA.rd e.symm)
        have F1 := F0.trans (.ofOnly o1 (.inl rfl))
        have c1 := o_cell lr o1
        clear hRf F0 o1
        go_wp2_with fail
        refine (rzeros_w d P hA.pd bs w1 p m hRf1 hl (by omega) HZ.out).mono ?_
        rintro en w2 ⟨rfl, R2, o2⟩
        have R12 := R1.fr (p := fun x => x = d) (.ofOnly o2 rfl) hA.rd hA.gd
        have F2 := F1.trans (.ofOnly o2 (.inr (.inr rfl)))
        have HP : Hid (Pair w2 r g d P bs) := .inl ⟨p + m, by omega, by rw [Int.natCast_add, ← List.drop_drop]; exact R12, by rw [Int.natCast_add]; exact R2⟩
        clear R12 R2 o2 F1 hRf1 R1
        go_wp2_with fail
        go_ret
        exact ⟨rfl, HP.out, F2⟩
      · have HZ := hid hz
        have HN := hid hne
        clear hz hne
        go_enter Try.func14, Try.ntmps14
        go_wp2_with fail
        refine (zeros_bad r g m k (bs.drop p) p _ hRd (by simp; omega) (by simp; omega) (by omega) (by omega) HZ.out hk HN.out).mono ?_
        rintro en w1 ⟨rfl, R1, o1⟩
        have hRf1 := hRf.fr (p := fun x => x = r) (.ofOnly o1 rfl) (fun k hk => hk ▸ hA.pr) (fun e => hA.rd e.symm)
        have F1 := F0.trans (.ofOnly o1 (.inl rfl))
        have c1 := o_cell lr o1
        clear hRf F0 o1
        go_wp2_with fail
        refine (rzeros_x d P hA.pd bs w1 p m k hRf1 hl (by omega) HZ.out hk HN.out).mono ?_
        rintro en w2 ⟨rfl, R2, o2⟩
        have R12 := R1.fr (p := fun x => x = d) (.ofOnly o2 rfl) hA.rd
        have F2 := F1.trans (.ofOnly o2 (.inr (.inr rfl)))
        have HP : Hid (Pair w2 r g d P bs) := .inr ⟨p + k, 11, R12, R2⟩
        clear R12 R2 o2 F1 hRf1 R1
        go_wp2_with fail
        go_ret
        exact ⟨rfl, HP.out, F2⟩
  · have H : Hid (Pair _ r g d P bs) := .inr ⟨p, e, hRb, hRf⟩
    go_enter Try.func14, Try.ntmps14
    go_wp2_with fail
    refine (zeros_broken r N p e _ hRb).mono ?_
    rintro en w1 ⟨rfl, hw⟩
    subst hw
    go_wp2_with fail
    refine (rzeros_b d P hA.pd bs _ p e N hRf hRb.2).mono ?_
    rintro en w1 ⟨rfl, hw⟩
    subst hw
    go_wp2_with fail
    go_ret
    exact ⟨rfl, H.out, F0⟩

set_option maxHeartbeats 1000000 in
theorem stepBytes (r g d : Nat) (P : Nat → Prop) (hA : Apart r g d P) (N : Int) (s : Bool) (bs : List Int) (w : World) (h : Pair w r g d P bs) (hl : bs.length ≤ 1000000) :
    Calls Try.prog 14 #[.agg #[.int .i64 5, .int .i64 N, .bool s], .pointer (some ⟨r, 0, none⟩), .pointer (some ⟨d, 0, none⟩)] w fun en w' => en = .returned (.bool true) ∧ Pair w' r g d P bs ∧ Fr (Blk r g d) w w' := by
  have F0 : Fr (Blk r g d) w (w.alloc (.cells #[.int .i64 5, .int .i64 N, .bool s] 34)) := Fr.alloc _ _ _
  obtain ⟨lr, ld⟩ := h.lt
  replace h := h.drawn (Fr.alloc _ _ (.cells #[.int .i64 5, .int .i64 N, .bool s] 34))
  rcases h with ⟨p, hp, hRd, hRf⟩ | ⟨p, e, hRb, hRf⟩
  · rcases brk_or N (bs.length - p) with ⟨q, hq⟩ | ⟨m, rfl, hm⟩
    · have HQ := hid hq
      clear hq
      go_enter Try.func14, Try.ntmps14
      go_wp2_with fail
      refine (bytes_breaks r g N (bs.drop p) p _ hRd q (by rw [List.length_drop]; exact HQ.out)).mono ?_
      rintro en w1 ⟨rfl, R1, o1⟩
      have hRf1 := hRf.fr (p := fun x => x = r) (.ofOnly o1 rfl) (fun k hk => hk ▸ hA.pr) (fun e => hA.rd e.symm)
      have F1 := F0.trans (.ofOnly o1 (.inl rfl))
      have c1 := o_cell lr o1
      clear hRf F0 o1
      go_wp2_with fail
      refine (rbytes_n d P hA.pd bs w1 p N q hRf1 hl hp HQ.out).mono ?_
      rintro en w2 ⟨rfl, R2, o2⟩
      have R12 := R1.fr (p := fun x => x = d) (.ofOnly o2 rfl) hA.rd
      have F2 := F1.trans (.ofOnly o2 (.inr (.inr rfl)))
      have HP : Hid (Pair w2 r g d P bs) := .inr ⟨p, q, R12, R2⟩
      clear R12 R2 o2 F1 hRf1 R1 c1
      go_wp2_with fail
      refine (same_yes none none 0 0 0 0 [] _ ⟨rfl, by simp, .inl rfl⟩ ⟨rfl, by simp, .inl rfl⟩ (by omega) (by omega)).mono ?_
      rintro en w3 ⟨rfl, hd⟩
      have HP3 := hid (HP.out.drawn (.ofDrawn hd))
      have F3 := F2.trans (.ofDrawn hd)
      clear hd HP F2
      go_wp2_with fail
      go_loop [14] (fun i => i = .int .i64 0) (fun i => 0)
      case atStart => exact rfl
      case round =>
        obtain rfl := hrel
        go_wp2_with fail
        go_ret
        exact ⟨rfl, HP3.out, F3⟩
    · go_enter Try.func14, Try.ntmps14
      go_wp2_with fail
      refine (bytes_f r g m (bs.drop p) p _ hRd (by simp; omega) (by simp; omega) (by omega) (by omega)).mono ?_
      rintro en w1 ⟨a1, rfl, L1, f1, R1, o1⟩
      have hRf1 := hRf.fr (p := fun x => x = r) (.ofOnly o1 rfl) (fun k hk => hk ▸ hA.pr) (fun e => hA.rd e.symm)
      have F1 := F0.trans (.ofOnly o1 (.inl rfl))
      have c1 := o_cell lr o1
      clear hRf F0 o1
      go_wp2_with fail
      refine (rbytes_w d P hA.pd bs w1 p m hRf1 hl (by omega)).mono ?_
      rintro en w2 ⟨a2, c2, rfl, b2, R2, G2⟩
      have F2 := F1.trans (.ofGrown G2 (.inr (.inr rfl)))
      have fd : Fr (fun x => x = d) w1 w2 := .ofGrown G2 rfl
      have L2 : Lies w2 g a1 m m ((bs.drop p).take m) := L1.kept fun hg => fd.block g hg hA.gd
      have R12 := R1.fr fd hA.rd hA.gd
      have b1 := L2.bs
      clear F1 hRf1 c1 L1
      go_wp2_with fail
      refine (same_yes a1 a2 m m m c2 _ w2 b1 b2 (by omega) (by omega)).mono ?_
      rintro en w3 ⟨rfl, hd⟩
      have F3 := F2.trans (.ofDrawn hd)
      have R3 : Rf w3 d P bs ((p : Int) + m) 0 := R2.fr (p := fun _ => False) (.ofDrawn hd) (fun _ h => h.elim) (fun h => h)
      have R13 := R12.drawn hd
      have L3 := L2.kept (w' := w3) fun _ => hd.at g
      rcases f1 with rfl | ⟨off, rfl, hf⟩
      · have HP3 : Hid (Pair w3 r g d P bs) := .inl ⟨p, hp, by simpa using R13, by simpa using R3⟩
        clear b1 b2 R2 R12 L2 hd F2 G2 fd R1 R13 R3 L3
        go_wp2_with fail
        go_loop [14] (fun i => i = .int .i64 0) (fun i => 0)
        case atStart => exact rfl
        case round =>
          obtain rfl := hrel
          go_wp2_with fail
          go_ret
          exact ⟨rfl, HP3.out, F3⟩
      · have hf3 : RdF w3 r g (off + m) ((bs.drop p).drop m) (p + m) := rdF_fr (hf.fr fd hA.rd hA.gd) hd
        obtain ⟨cur, hcur, hsz⟩ : ∃ cur, w3.heap[g]? = some (.cells cur 5 (0, 0)) ∧ off + m ≤ cur.size := by
          rcases L3.2.2.2.2 with ⟨e, _⟩ | ⟨o', cur, e, hg, hs, _⟩
          · cases e
          · simp at e; subst e; exact ⟨cur, hg, hs⟩
        clear b1 b2 R2 R12 L2 hd F2 G2 fd R1 R13 L3 hf
        go_wp2_with fail
        go_loopw [14] (fun i wr => ∃ k : Nat, ∃ cur : Array Value, k ≤ m ∧ i = .int .i64 k ∧ wr.heap[g]? = some (.cells cur 5 (0, 0)) ∧ Hid (off + m ≤ cur.size) ∧ RdF wr r g (off + m) ((bs.drop p).drop m) (p + m) ∧ Rf wr d P bs ((p : Int) + m) 0 ∧ Fr (Blk r g d) w wr) (fun i _ => m - (intOf i).toNat)
        case atStart => exact ⟨0, cur, by omega, rfl, hcur, hsz, hf3, R3, F3⟩
        case round =>
          obtain ⟨k, cu, hk, rfl, hcu, hcs, hF, hRr, hFr⟩ := hrel
          clear hcur hsz hf3 R3 F3
          by_cases hlt : k < m
          · obtain ⟨zz, q1⟩ : ∃ zz, wr.cell? ⟨g, off + k, none⟩ = some zz := by
              have hlen : off + k < cu.size := by have := hcs.out; omega
              exact ⟨cu[off + k], by rw [cell_of_row wr g _ cu 5 (0, 0) hcu]; simp⟩
            have q2 : wr.frozen? ⟨g, off + k, none⟩ = false := by simp [World.frozen?, hcu]
            have H1 : Hid ((wr.setCell ⟨g, off + k, none⟩ (.int .u8 35)).heap[g]? = some (.cells (cu.setIfInBounds (off + k) (.int .u8 35)) 5 (0, 0))) := by show _ = _; simp [World.setCell, Array.getElem?_modify, hcu]
            have H2 : Hid (off + m ≤ (cu.setIfInBounds (off + k) (Value.int .u8 35)).size) := by show _ ≤ _; rw [Array.size_setIfInBounds]; exact hcs.out
            have H3 := hid (hF.poke (off + k) (by omega) (.int .u8 35))
            have H4 : Hid (Rf (wr.setCell ⟨g, off + k, none⟩ (.int .u8 35)) d P bs ((p : Int) + m) 0) := hRr.fr (p := fun x => x = g) (.ofOnly ((Only.refl g wr).set _ _) rfl) (fun k hk => hk ▸ hA.pg) (fun e => hA.gd e.symm)
            have H5 : Hid (Fr (Blk r g d) w (wr.setCell ⟨g, off + k, none⟩ (.int .u8 35))) := hFr.set (.inr (.inl rfl)) _
            clear hcu hcs hF hRr hFr
            go_wp2_with fail
            go_roundw
            case rel => exact ⟨k + 1, _, by omega, by go_num, H1.out, H2, H3.out, H4.out, H5.out⟩
            case measure => simp [intOf]; omega
          · have HP3 : Hid (Pair wr r g d P bs) := .inl ⟨p + m, by omega, by rw [Int.natCast_add, ← List.drop_drop]; exact hF.rd, by rw [Int.natCast_add]; exact hRr⟩
            clear hcu hF hRr
            go_wp2_with fail
            go_ret
            exact ⟨rfl, HP3.out, hFr⟩
  · have H : Hid (Pair _ r g d P bs) := .inr ⟨p, e, hRb, hRf⟩
    go_enter Try.func14, Try.ntmps14
    go_wp2_with fail
    refine (bytes_broken r N p e _ hRb).mono ?_
    rintro en w1 ⟨rfl, hw⟩
    subst hw
    go_wp2_with fail
    refine (rbytes_b d P hA.pd bs _ p e N hRf hRb.2).mono ?_
    rintro en w1 ⟨rfl, hw⟩
    subst hw
    go_wp2_with fail
    refine (same_yes none none 0 0 0 0 [] _ ⟨rfl, by simp, .inl rfl⟩ ⟨rfl, by simp, .inl rfl⟩ (by omega) (by omega)).mono ?_
    rintro en w3 ⟨rfl, hd⟩
    have HP3 := hid (H.out.drawn (.ofDrawn hd))
    have F3 := F0.trans (.ofDrawn hd)
    clear hd H F0 hRb hRf
    go_wp2_with fail
    go_loop [14] (fun i => i = .int .i64 0) (fun i => 0)
    case atStart => exact rfl
    case round =>
      obtain rfl := hrel
      go_wp2_with fail
      go_ret
      exact ⟨rfl, HP3.out, F3⟩
end Go.Proofs.Ytjaecokhocbdlaa
