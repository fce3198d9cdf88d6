import Derived.Test.YtjaecokhocbdlaaPair
namespace Go.Proofs.Ytjaecokhocbdlaa
open Go.RowKit
set_option linter.unusedVariables false

/-- Both readers stand alike. -/
def Pair (w : World) (r g d : Nat) (P : Nat → Prop) (bs : List Int) : Prop :=
  (∃ p : Nat, p ≤ bs.length ∧ Rd w r g (bs.drop p) p ∧ Rf w d P bs p 0) ∨ (∃ p e : Int, Rb w r p e ∧ Rf w d P bs p e)
/-- Their blocks. -/
structure Apart (r g d : Nat) (P : Nat → Prop) : Prop where
  rd : r ≠ d
  gd : g ≠ d
  gr : g ≠ r
  pr : P r
  pg : P g
  pd : P d
def Blk (r g d : Nat) : Nat → Prop := fun x => x = r ∨ x = g ∨ x = d
theorem Rd.byte {w : World} {r g : Nat} {zs : List Int} {p : Int} (h : Rd w r g zs p) : ∀ z ∈ zs, 0 ≤ z ∧ z ≤ 255 := by
  obtain ⟨_, a, n, c, _, hl⟩ := h; exact hl.2.2.2.1
theorem rnum_wi (d : Nat) (P : Nat → Prop) (hd : P d) (bs : List Int) (w : World) (p W : Nat) (m : Int) (hm : m = (W : Int)) (h : Rf w d P bs p 0) (hl : bs.length ≤ 1000000) (hW : W ≤ 8) (hs : p + W ≤ bs.length) :
    Calls Try.prog 34 #[.pointer (some ⟨d, 0, none⟩), .int .i64 m] w fun en w' => en = .returned (.int .u64 (val ((bs.drop p).take W))) ∧ Rf w' d P bs (p + W) 0 ∧ Only d w w' := by
  subst hm; exact rnum_w d P hd bs w p W h hl hW hs
theorem rnum_si (d : Nat) (P : Nat → Prop) (hd : P d) (bs : List Int) (w : World) (p W : Nat) (m : Int) (hm : m = (W : Int)) (h : Rf w d P bs p 0) (hl : bs.length ≤ 1000000) (hW : W ≤ 8) (hp : p ≤ bs.length) (hs : bs.length < p + W) :
    Calls Try.prog 34 #[.pointer (some ⟨d, 0, none⟩), .int .i64 m] w fun en w' => en = .returned (.int .u64 0) ∧ Rf w' d P bs p 10 ∧ Only d w w' := by
  subst hm; exact rnum_s d P hd bs w p W h hl hW hp hs

set_option maxHeartbeats 1000000 in
theorem step8 (r g d : Nat) (P : Nat → Prop) (hA : Apart r g d P) (N : Int) (s : Bool) (bs : List Int) (w : World) (h : Pair w r g d P bs) (hl : bs.length ≤ 1000000) :
    Calls Try.prog 14 #[.agg #[.int .i64 1, .int .i64 N, .bool s], .pointer (some ⟨r, 0, none⟩), .pointer (some ⟨d, 0, none⟩)] w fun en w' => en = .returned (.bool true) ∧ Pair w' r g d P bs ∧ Fr (Blk r g d) w w' := by
  have F0 : Fr (Blk r g d) w (w.alloc (.cells #[.int .i64 1, .int .i64 N, .bool s] 34)) := Fr.alloc _ _ _
  have Z0 : Fr (fun _ => False) w (w.alloc (.cells #[.int .i64 1, .int .i64 N, .bool s] 34)) := Fr.alloc _ _ _
  rcases h with ⟨p, hp, hRd, hRf⟩ | ⟨p, e, hRb, hRf⟩
  · replace hRd := hRd.fr Z0 (fun h => h) (fun h => h)
    replace hRf := hRf.fr Z0 (fun _ h => h.elim) (fun h => h)
    clear Z0
    by_cases hfit : p + 1 ≤ bs.length
    · go_enter Try.func14, Try.ntmps14
      go_wp2_with fail
      refine (get8_whole r g (bs.drop p) p _ hRd (by simp; omega) (by simp; omega) (by omega) (by omega)).mono ?_
      rintro en w1 ⟨rfl, R1, o1⟩
      have hRf1 := hRf.fr (p := fun x => x = r) (.ofOnly o1 rfl) (fun k hk => hk ▸ hA.pr) (fun e => hA.rd e.symm)
      have F1 := F0.trans (.ofOnly o1 (.inl rfl))
      have hv := valLt8 (zs := bs.drop p) (by simp; omega) (fun z hz => hRd.byte z (List.mem_of_mem_take hz))
      have HR1 := hid R1
      clear hRd hRf F0 o1 R1
      generalize hgv : val ((bs.drop p).take 1) = v at *
      have HV := hid hgv
      clear hgv
      obtain ⟨v0, v1⟩ := hv
      go_wp2_with fail
      refine (rnum_wi d P hA.pd bs w1 p 1 _ rfl hRf1 hl (by omega) hfit).mono ?_
      rintro en w2 ⟨rfl, R2, o2⟩
      have R12 := HR1.out.fr (p := fun x => x = d) (.ofOnly o2 rfl) hA.rd hA.gd
      have F2 := F1.trans (.ofOnly o2 (.inr (.inr rfl)))
      have HP : Hid (Pair w2 r g d P bs) := .inl ⟨p + 1, hfit, by rw [Int.natCast_add, ← List.drop_drop]; exact R12, by rw [Int.natCast_add]; exact R2⟩
      rw [HV.out]
      clear R12 R2 o2 F1 hRf1
      go_wp2_with fail
      go_ret
      exact ⟨rfl, HP.out, F2⟩
    · go_enter Try.func14, Try.ntmps14
      go_wp2_with fail
      refine (get8_short r g (bs.drop p) p _ hRd (by simp; omega)).mono ?_
      rintro en w1 ⟨rfl, R1, o1⟩
      have hRf1 := hRf.fr (p := fun x => x = r) (.ofOnly o1 rfl) (fun k hk => hk ▸ hA.pr) (fun e => hA.rd e.symm)
      have F1 := F0.trans (.ofOnly o1 (.inl rfl))
      clear hRd hRf F0 o1
      go_wp2_with fail
      refine (rnum_si d P hA.pd bs w1 p 1 _ rfl hRf1 hl (by omega) hp (by omega)).mono ?_
      rintro en w2 ⟨rfl, R2, o2⟩
      have R12 := R1.fr (p := fun x => x = d) (.ofOnly o2 rfl) hA.rd
      have F2 := F1.trans (.ofOnly o2 (.inr (.inr rfl)))
      have HP : Hid (Pair w2 r g d P bs) := .inr ⟨p, 10, R12, R2⟩
      clear R12 R2 o2 F1 hRf1 R1
      go_wp2_with fail
      go_ret
      exact ⟨rfl, HP.out, F2⟩
  · replace hRb := hRb.fr Z0 (fun h => h)
    replace hRf := hRf.fr Z0 (fun _ h => h.elim) (fun h => h)
    clear Z0
    go_enter Try.func14, Try.ntmps14
    go_wp2_with fail
    refine (get8_broken r p e _ hRb).mono ?_
    rintro en w1 ⟨rfl, hw⟩
    subst hw
    go_wp2_with fail
    refine (rnum_b d P hA.pd bs _ p e _ hRf hRb.2).mono ?_
    rintro en w1 ⟨rfl, hw⟩
    subst hw
    go_wp2_with fail
    go_ret
    exact ⟨rfl, .inr ⟨p, e, hRb, hRf⟩, F0⟩

set_option maxHeartbeats 1000000 in
theorem step16 (r g d : Nat) (P : Nat → Prop) (hA : Apart r g d P) (N : Int) (s : Bool) (bs : List Int) (w : World) (h : Pair w r g d P bs) (hl : bs.length ≤ 1000000) :
    Calls Try.prog 14 #[.agg #[.int .i64 2, .int .i64 N, .bool s], .pointer (some ⟨r, 0, none⟩), .pointer (some ⟨d, 0, none⟩)] w fun en w' => en = .returned (.bool true) ∧ Pair w' r g d P bs ∧ Fr (Blk r g d) w w' := by
  have F0 : Fr (Blk r g d) w (w.alloc (.cells #[.int .i64 2, .int .i64 N, .bool s] 34)) := Fr.alloc _ _ _
  have Z0 : Fr (fun _ => False) w (w.alloc (.cells #[.int .i64 2, .int .i64 N, .bool s] 34)) := Fr.alloc _ _ _
  rcases h with ⟨p, hp, hRd, hRf⟩ | ⟨p, e, hRb, hRf⟩
  · replace hRd := hRd.fr Z0 (fun h => h) (fun h => h)
    replace hRf := hRf.fr Z0 (fun _ h => h.elim) (fun h => h)
    clear Z0
    by_cases hfit : p + 2 ≤ bs.length
    · go_enter Try.func14, Try.ntmps14
      go_wp2_with fail
      refine (get16_whole r g (bs.drop p) p _ hRd (by simp; omega) (by simp; omega) (by omega) (by omega)).mono ?_
      rintro en w1 ⟨rfl, R1, o1⟩
      have hRf1 := hRf.fr (p := fun x => x = r) (.ofOnly o1 rfl) (fun k hk => hk ▸ hA.pr) (fun e => hA.rd e.symm)
      have F1 := F0.trans (.ofOnly o1 (.inl rfl))
      have hv := valLt16 (zs := bs.drop p) (by simp; omega) (fun z hz => hRd.byte z (List.mem_of_mem_take hz))
      have HR1 := hid R1
      clear hRd hRf F0 o1 R1
      generalize hgv : val ((bs.drop p).take 2) = v at *
      have HV := hid hgv
      clear hgv
      obtain ⟨v0, v1⟩ := hv
      go_wp2_with fail
      refine (rnum_wi d P hA.pd bs w1 p 2 _ rfl hRf1 hl (by omega) hfit).mono ?_
      rintro en w2 ⟨rfl, R2, o2⟩
      have R12 := HR1.out.fr (p := fun x => x = d) (.ofOnly o2 rfl) hA.rd hA.gd
      have F2 := F1.trans (.ofOnly o2 (.inr (.inr rfl)))
      have HP : Hid (Pair w2 r g d P bs) := .inl ⟨p + 2, hfit, by rw [Int.natCast_add, ← List.drop_drop]; exact R12, by rw [Int.natCast_add]; exact R2⟩
      rw [HV.out]
      clear R12 R2 o2 F1 hRf1
      go_wp2_with fail
      go_ret
      exact ⟨rfl, HP.out, F2⟩
    · go_enter Try.func14, Try.ntmps14
      go_wp2_with fail
      refine (get16_short r g (bs.drop p) p _ hRd (by simp; omega)).mono ?_
      rintro en w1 ⟨rfl, R1, o1⟩
      have hRf1 := hRf.fr (p := fun x => x = r) (.ofOnly o1 rfl) (fun k hk => hk ▸ hA.pr) (fun e => hA.rd e.symm)
      have F1 := F0.trans (.ofOnly o1 (.inl rfl))
      clear hRd hRf F0 o1
      go_wp2_with fail
      refine (rnum_si d P hA.pd bs w1 p 2 _ rfl hRf1 hl (by omega) hp (by omega)).mono ?_
      rintro en w2 ⟨rfl, R2, o2⟩
      have R12 := R1.fr (p := fun x => x = d) (.ofOnly o2 rfl) hA.rd
      have F2 := F1.trans (.ofOnly o2 (.inr (.inr rfl)))
      have HP : Hid (Pair w2 r g d P bs) := .inr ⟨p, 10, R12, R2⟩
      clear R12 R2 o2 F1 hRf1 R1
      go_wp2_with fail
      go_ret
      exact ⟨rfl, HP.out, F2⟩
  · replace hRb := hRb.fr Z0 (fun h => h)
    replace hRf := hRf.fr Z0 (fun _ h => h.elim) (fun h => h)
    clear Z0
    go_enter Try.func14, Try.ntmps14
    go_wp2_with fail
    refine (get16_broken r p e _ hRb).mono ?_
    rintro en w1 ⟨rfl, hw⟩
    subst hw
    go_wp2_with fail
    refine (rnum_b d P hA.pd bs _ p e _ hRf hRb.2).mono ?_
    rintro en w1 ⟨rfl, hw⟩
    subst hw
    go_wp2_with fail
    go_ret
    exact ⟨rfl, .inr ⟨p, e, hRb, hRf⟩, F0⟩

set_option maxHeartbeats 1000000 in
theorem step32 (r g d : Nat) (P : Nat → Prop) (hA : Apart r g d P) (N : Int) (s : Bool) (bs : List Int) (w : World) (h : Pair w r g d P bs) (hl : bs.length ≤ 1000000) :
    Calls Try.prog 14 #[.agg #[.int .i64 3, .int .i64 N, .bool s], .pointer (some ⟨r, 0, none⟩), .pointer (some ⟨d, 0, none⟩)] w fun en w' => en = .returned (.bool true) ∧ Pair w' r g d P bs ∧ Fr (Blk r g d) w w' := by
  have F0 : Fr (Blk r g d) w (w.alloc (.cells #[.int .i64 3, .int .i64 N, .bool s] 34)) := Fr.alloc _ _ _
  have Z0 : Fr (fun _ => False) w (w.alloc (.cells #[.int .i64 3, .int .i64 N, .bool s] 34)) := Fr.alloc _ _ _
  rcases h with ⟨p, hp, hRd, hRf⟩ | ⟨p, e, hRb, hRf⟩
  · replace hRd := hRd.fr Z0 (fun h => h) (fun h => h)
    replace hRf := hRf.fr Z0 (fun _ h => h.elim) (fun h => h)
    clear Z0
    by_cases hfit : p + 4 ≤ bs.length
    · go_enter Try.func14, Try.ntmps14
      go_wp2_with fail
      refine (get32_whole r g (bs.drop p) p _ hRd (by simp; omega) (by simp; omega) (by omega) (by omega)).mono ?_
      rintro en w1 ⟨rfl, R1, o1⟩
      have hRf1 := hRf.fr (p := fun x => x = r) (.ofOnly o1 rfl) (fun k hk => hk ▸ hA.pr) (fun e => hA.rd e.symm)
      have F1 := F0.trans (.ofOnly o1 (.inl rfl))
      have hv := valLt32 (zs := bs.drop p) (by simp; omega) (fun z hz => hRd.byte z (List.mem_of_mem_take hz))
      have HR1 := hid R1
      clear hRd hRf F0 o1 R1
      generalize hgv : val ((bs.drop p).take 4) = v at *
      have HV := hid hgv
      clear hgv
      obtain ⟨v0, v1⟩ := hv
      go_wp2_with fail
      refine (rnum_wi d P hA.pd bs w1 p 4 _ rfl hRf1 hl (by omega) hfit).mono ?_
      rintro en w2 ⟨rfl, R2, o2⟩
      have R12 := HR1.out.fr (p := fun x => x = d) (.ofOnly o2 rfl) hA.rd hA.gd
      have F2 := F1.trans (.ofOnly o2 (.inr (.inr rfl)))
      have HP : Hid (Pair w2 r g d P bs) := .inl ⟨p + 4, hfit, by rw [Int.natCast_add, ← List.drop_drop]; exact R12, by rw [Int.natCast_add]; exact R2⟩
      rw [HV.out]
      clear R12 R2 o2 F1 hRf1
      go_wp2_with fail
      go_ret
      exact ⟨rfl, HP.out, F2⟩
    · go_enter Try.func14, Try.ntmps14
      go_wp2_with fail
      refine (get32_short r g (bs.drop p) p _ hRd (by simp; omega)).mono ?_
      rintro en w1 ⟨rfl, R1, o1⟩
      have hRf1 := hRf.fr (p := fun x => x = r) (.ofOnly o1 rfl) (fun k hk => hk ▸ hA.pr) (fun e => hA.rd e.symm)
      have F1 := F0.trans (.ofOnly o1 (.inl rfl))
      clear hRd hRf F0 o1
      go_wp2_with fail
      refine (rnum_si d P hA.pd bs w1 p 4 _ rfl hRf1 hl (by omega) hp (by omega)).mono ?_
      rintro en w2 ⟨rfl, R2, o2⟩
      have R12 := R1.fr (p := fun x => x = d) (.ofOnly o2 rfl) hA.rd
      have F2 := F1.trans (.ofOnly o2 (.inr (.inr rfl)))
      have HP : Hid (Pair w2 r g d P bs) := .inr ⟨p, 10, R12, R2⟩
      clear R12 R2 o2 F1 hRf1 R1
      go_wp2_with fail
      go_ret
      exact ⟨rfl, HP.out, F2⟩
  · replace hRb := hRb.fr Z0 (fun h => h)
    replace hRf := hRf.fr Z0 (fun _ h => h.elim) (fun h => h)
    clear Z0
    go_enter Try.func14, Try.ntmps14
    go_wp2_with fail
    refine (get32_broken r p e _ hRb).mono ?_
    rintro en w1 ⟨rfl, hw⟩
    subst hw
    go_wp2_with fail
    refine (rnum_b d P hA.pd bs _ p e _ hRf hRb.2).mono ?_
    rintro en w1 ⟨rfl, hw⟩
    subst hw
    go_wp2_with fail
    go_ret
    exact ⟨rfl, .inr ⟨p, e, hRb, hRf⟩, F0⟩

set_option maxHeartbeats 1000000 in
theorem step64 (r g d : Nat) (P : Nat → Prop) (hA : Apart r g d P) (N : Int) (s : Bool) (bs : List Int) (w : World) (h : Pair w r g d P bs) (hl : bs.length ≤ 1000000) :
    Calls Try.prog 14 #[.agg #[.int .i64 4, .int .i64 N, .bool s], .pointer (some ⟨r, 0, none⟩), .pointer (some ⟨d, 0, none⟩)] w fun en w' => en = .returned (.bool true) ∧ Pair w' r g d P bs ∧ Fr (Blk r g d) w w' := by
  have F0 : Fr (Blk r g d) w (w.alloc (.cells #[.int .i64 4, .int .i64 N, .bool s] 34)) := Fr.alloc _ _ _
  have Z0 : Fr (fun _ => False) w (w.alloc (.cells #[.int .i64 4, .int .i64 N, .bool s] 34)) := Fr.alloc _ _ _
  rcases h with ⟨p, hp, hRd, hRf⟩ | ⟨p, e, hRb, hRf⟩
  · replace hRd := hRd.fr Z0 (fun h => h) (fun h => h)
    replace hRf := hRf.fr Z0 (fun _ h => h.elim) (fun h => h)
    clear Z0
    by_cases hfit : p + 8 ≤ bs.length
    · go_enter Try.func14, Try.ntmps14
      go_wp2_with fail
      refine (get64_whole r g (bs.drop p) p _ hRd (by simp; omega) (by simp; omega) (by omega) (by omega)).mono ?_
      rintro en w1 ⟨rfl, R1, o1⟩
      have hRf1 := hRf.fr (p := fun x => x = r) (.ofOnly o1 rfl) (fun k hk => hk ▸ hA.pr) (fun e => hA.rd e.symm)
      have F1 := F0.trans (.ofOnly o1 (.inl rfl))
      have hv := valLt64 (zs := bs.drop p) (by simp; omega) (fun z hz => hRd.byte z (List.mem_of_mem_take hz))
      have HR1 := hid R1
      clear hRd hRf F0 o1 R1
      generalize hgv : val ((bs.drop p).take 8) = v at *
      have HV := hid hgv
      clear hgv
      obtain ⟨v0, v1⟩ := hv
      go_wp2_with fail
      refine (rnum_wi d P hA.pd bs w1 p 8 _ rfl hRf1 hl (by omega) hfit).mono ?_
      rintro en w2 ⟨rfl, R2, o2⟩
      have R12 := HR1.out.fr (p := fun x => x = d) (.ofOnly o2 rfl) hA.rd hA.gd
      have F2 := F1.trans (.ofOnly o2 (.inr (.inr rfl)))
      have HP : Hid (Pair w2 r g d P bs) := .inl ⟨p + 8, hfit, by rw [Int.natCast_add, ← List.drop_drop]; exact R12, by rw [Int.natCast_add]; exact R2⟩
      rw [HV.out]
      clear R12 R2 o2 F1 hRf1
      go_wp2_with fail
      go_ret
      exact ⟨rfl, HP.out, F2⟩
    · go_enter Try.func14, Try.ntmps14
      go_wp2_with fail
      refine (get64_short r g (bs.drop p) p _ hRd (by simp; omega)).mono ?_
      rintro en w1 ⟨rfl, R1, o1⟩
      have hRf1 := hRf.fr (p := fun x => x = r) (.ofOnly o1 rfl) (fun k hk => hk ▸ hA.pr) (fun e => hA.rd e.symm)
      have F1 := F0.trans (.ofOnly o1 (.inl rfl))
      clear hRd hRf F0 o1
      go_wp2_with fail
      refine (rnum_si d P hA.pd bs w1 p 8 _ rfl hRf1 hl (by omega) hp (by omega)).mono ?_
      rintro en w2 ⟨rfl, R2, o2⟩
      have R12 := R1.fr (p := fun x => x = d) (.ofOnly o2 rfl) hA.rd
      have F2 := F1.trans (.ofOnly o2 (.inr (.inr rfl)))
      have HP : Hid (Pair w2 r g d P bs) := .inr ⟨p, 10, R12, R2⟩
      clear R12 R2 o2 F1 hRf1 R1
      go_wp2_with fail
      go_ret
      exact ⟨rfl, HP.out, F2⟩
  · replace hRb := hRb.fr Z0 (fun h => h)
    replace hRf := hRf.fr Z0 (fun _ h => h.elim) (fun h => h)
    clear Z0
    go_enter Try.func14, Try.ntmps14
    go_wp2_with fail
    refine (get64_broken r p e _ hRb).mono ?_
    rintro en w1 ⟨rfl, hw⟩
    subst hw
    go_wp2_with fail
    refine (rnum_b d P hA.pd bs _ p e _ hRf hRb.2).mono ?_
    rintro en w1 ⟨rfl, hw⟩
    subst hw
    go_wp2_with fail
    go_ret
    exact ⟨rfl, .inr ⟨p, e, hRb, hRf⟩, F0⟩

set_option maxHeartbeats 1000000 in
theorem stepWord (r g d : Nat) (P : Nat → Prop) (hA : Apart r g d P) (N : Int) (s : Bool) (bs : List Int) (w : World) (h : Pair w r g d P bs) (hl : bs.length ≤ 1000000) :
    Calls Try.prog 14 #[.agg #[.int .i64 9, .int .i64 N, .bool s], .pointer (some ⟨r, 0, none⟩), .pointer (some ⟨d, 0, none⟩)] w fun en w' => en = .returned (.bool true) ∧ Pair w' r g d P bs ∧ Fr (Blk r g d) w w' := by
  have F0 : Fr (Blk r g d) w (w.alloc (.cells #[.int .i64 9, .int .i64 N, .bool s] 34)) := Fr.alloc _ _ _
  have Z0 : Fr (fun _ => False) w (w.alloc (.cells #[.int .i64 9, .int .i64 N, .bool s] 34)) := Fr.alloc _ _ _
  rcases h with ⟨p, hp, hRd, hRf⟩ | ⟨p, e, hRb, hRf⟩
  · replace hRd := hRd.fr Z0 (fun h => h) (fun h => h)
    replace hRf := hRf.fr Z0 (fun _ h => h.elim) (fun h => h)
    clear Z0
    by_cases hfit : p + 2 ≤ bs.length
    · go_enter Try.func14, Try.ntmps14
      go_wp2_with fail
      refine (getWord_whole r g (bs.drop p) p _ hRd (by simp; omega) (by simp; omega) (by omega) (by omega)).mono ?_
      rintro en w1 ⟨rfl, R1, o1⟩
      have hRf1 := hRf.fr (p := fun x => x = r) (.ofOnly o1 rfl) (fun k hk => hk ▸ hA.pr) (fun e => hA.rd e.symm)
      have F1 := F0.trans (.ofOnly o1 (.inl rfl))
      have hv := valLtWord (zs := bs.drop p) (by simp; omega) (fun z hz => hRd.byte z (List.mem_of_mem_take hz))
      have HR1 := hid R1
      clear hRd hRf F0 o1 R1
      generalize hgv : val ((bs.drop p).take 2) = v at *
      have HV := hid hgv
      clear hgv
      obtain ⟨v0, v1⟩ := hv
      go_wp2_with fail
      refine (rnum_wi d P hA.pd bs w1 p 2 _ rfl hRf1 hl (by omega) hfit).mono ?_
      rintro en w2 ⟨rfl, R2, o2⟩
      have R12 := HR1.out.fr (p := fun x => x = d) (.ofOnly o2 rfl) hA.rd hA.gd
      have F2 := F1.trans (.ofOnly o2 (.inr (.inr rfl)))
      have HP : Hid (Pair w2 r g d P bs) := .inl ⟨p + 2, hfit, by rw [Int.natCast_add, ← List.drop_drop]; exact R12, by rw [Int.natCast_add]; exact R2⟩
      rw [HV.out]
      clear R12 R2 o2 F1 hRf1
      go_wp2_with fail
      go_ret
      exact ⟨rfl, HP.out, F2⟩
    · go_enter Try.func14, Try.ntmps14
      go_wp2_with fail
      refine (getWord_short r g (bs.drop p) p _ hRd (by simp; omega)).mono ?_
      rintro en w1 ⟨rfl, R1, o1⟩
      have hRf1 := hRf.fr (p := fun x => x = r) (.ofOnly o1 rfl) (fun k hk => hk ▸ hA.pr) (fun e => hA.rd e.symm)
      have F1 := F0.trans (.ofOnly o1 (.inl rfl))
      clear hRd hRf F0 o1
      go_wp2_with fail
      refine (rnum_si d P hA.pd bs w1 p 2 _ rfl hRf1 hl (by omega) hp (by omega)).mono ?_
      rintro en w2 ⟨rfl, R2, o2⟩
      have R12 := R1.fr (p := fun x => x = d) (.ofOnly o2 rfl) hA.rd
      have F2 := F1.trans (.ofOnly o2 (.inr (.inr rfl)))
      have HP : Hid (Pair w2 r g d P bs) := .inr ⟨p, 10, R12, R2⟩
      clear R12 R2 o2 F1 hRf1 R1
      go_wp2_with fail
      go_ret
      exact ⟨rfl, HP.out, F2⟩
  · replace hRb := hRb.fr Z0 (fun h => h)
    replace hRf := hRf.fr Z0 (fun _ h => h.elim) (fun h => h)
    clear Z0
    go_enter Try.func14, Try.ntmps14
    go_wp2_with fail
    refine (getWord_broken r p e _ hRb).mono ?_
    rintro en w1 ⟨rfl, hw⟩
    subst hw
    go_wp2_with fail
    refine (rnum_b d P hA.pd bs _ p e _ hRf hRb.2).mono ?_
    rintro en w1 ⟨rfl, hw⟩
    subst hw
    go_wp2_with fail
    go_ret
    exact ⟨rfl, .inr ⟨p, e, hRb, hRf⟩, F0⟩

end Go.Proofs.Ytjaecokhocbdlaa
