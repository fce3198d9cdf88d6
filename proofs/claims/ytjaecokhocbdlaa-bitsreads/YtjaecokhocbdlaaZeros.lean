import Derived.Test.YtjaecokhocbdlaaGet
namespace Go.Proofs.Ytjaecokhocbdlaa
open Go.RowKit
set_option linter.unusedVariables false

theorem rd_c1 {w : World} {r g : Nat} {zs : List Int} {p : Int} (h : Rd w r g zs p) : w.cell? ⟨r, 1, none⟩ = some (.int .i64 p) := by
  obtain ⟨_, a, n, c, h1, _⟩ := h; exact h1.c1
theorem rb_c1 {w : World} {r : Nat} {p e : Int} (h : Rb w r p e) : w.cell? ⟨r, 1, none⟩ = some (.int .i64 p) := h.1.c1

/-- The first k of these bytes are zeros. -/
def Zs (zs : List Int) (k : Nat) : Prop := ∀ j, j < k → zs.getD j 0 = 0

set_option maxHeartbeats 400000 in
theorem zeros_broken (r : Nat) (m p e : Int) (w : World) (h : Rb w r p e) :
    Calls Try.prog 21 #[.pointer (some ⟨r, 0, none⟩), .int .i64 m] w fun en w' => en = .returned (.tuple #[]) ∧ w' = w := by
  have c1 := rb_c1 h
  go_enter Try.func21, Try.ntmps21
  go_wp2_with (go_at_call 41; refine (take_broken r 0 0 none p e m _ h.1 h.2).mono ?_; rintro e w1 ⟨rfl, hw⟩; obtain rfl := hw.symm; clear hw)
  go_loop [5, 6, 15] (fun _ _ i => i = .int .i64 0) (fun _ _ i => 0)
  case atStart => exact rfl
  case round =>
    obtain rfl := hrel
    go_wp2
    go_end0
    exact ⟨rfl, rfl⟩

set_option maxHeartbeats 400000 in
theorem zeros_breaks (r g : Nat) (m q : Int) (zs : List Int) (p : Int) (w : World) (h : Rd w r g zs p) (hm : Brk m zs.length q) :
    Calls Try.prog 21 #[.pointer (some ⟨r, 0, none⟩), .int .i64 m] w fun en w' => en = .returned (.tuple #[]) ∧ Rb w' r p q ∧ Only r w w' := by
  have c1 := rd_c1 h
  go_enter Try.func21, Try.ntmps21
  go_wp2_with (go_at_call 41; refine (take_breaks r g m q zs p _ h hm).mono ?_; rintro e w1 ⟨rfl, h1, h2⟩)
  go_loop [5, 6, 15] (fun _ _ i => i = .int .i64 0) (fun _ _ i => 0)
  case atStart => exact rfl
  case round =>
    obtain rfl := hrel
    go_wp2
    go_end0
    exact ⟨rfl, h1, h2⟩

set_option maxHeartbeats 400000 in
theorem zeros_whole (r g m : Nat) (zs : List Int) (p : Int) (w : World) (h : Rd w r g zs p) (hm : m ≤ zs.length) (hn : zs.length ≤ 1000000000) (hp : 0 ≤ p) (hp1 : p ≤ 1000000000) (hz : Zs zs m) :
    Calls Try.prog 21 #[.pointer (some ⟨r, 0, none⟩), .int .i64 m] w fun en w' => en = .returned (.tuple #[]) ∧ Rd w' r g (zs.drop m) (p + m) ∧ Only r w w' := by
  have c1 := rd_c1 h
  go_enter Try.func21, Try.ntmps21
  go_wp2_with (go_at_call 41; refine (take_whole r g m zs p _ h hm hn hp hp1).mono ?_; rintro e w1 ⟨a, rfl, h1, h2, h3⟩)
  have H2 := hid h2
  clear h2
  obtain ⟨e1, e2, e3⟩ := h1.bs
  clear h1 e2
  go_loop [5, 6, 15] (fun _ _ i => ∃ k : Nat, k ≤ m ∧ i = .int .i64 k) (fun _ _ i => m - (intOf i).toNat)
  case atStart => exact ⟨0, by omega, rfl⟩
  case round =>
    obtain ⟨k, hk, rfl⟩ := hrel
    by_cases hlt : k < m
    · rcases e3 with e3 | ⟨b, off, rfl, hc⟩
      · omega
      have hck := hc k hlt
      rw [show (zs.take m).getD k 0 = 0 from by have := hz k hlt; simp only [List.getD, List.getElem?_take, if_pos hlt] at this ⊢; exact this] at hck
      clear hc e1
      go_wp2
      go_round
      case rel => exact ⟨k + 1, by omega, by go_num⟩
      case measure => simp [intOf]; omega
    · go_wp2
      go_end0
      exact ⟨rfl, H2.out, h3⟩

set_option maxHeartbeats 400000 in
theorem zeros_bad (r g m k : Nat) (zs : List Int) (p : Int) (w : World) (h : Rd w r g zs p) (hm : m ≤ zs.length) (hn : zs.length ≤ 1000000000) (hp : 0 ≤ p) (hp1 : p ≤ 1000000000) (hz : Zs zs k) (hk : k < m) (hne : zs.getD k 0 ≠ 0) :
    Calls Try.prog 21 #[.pointer (some ⟨r, 0, none⟩), .int .i64 m] w fun en w' => en = .returned (.tuple #[]) ∧ Rb w' r (p + k) 11 ∧ Only r w w' := by
  have c1 := rd_c1 h
  have hgd : ∀ j, j < m → (zs.take m).getD j 0 = zs.getD j 0 := fun j hj => by simp only [List.getD, List.getElem?_take, if_pos hj]
  go_enter Try.func21, Try.ntmps21
  go_wp2_with (go_at_call 41; refine (take_whole r g m zs p _ h hm hn hp hp1).mono ?_; rintro e w1 ⟨a, rfl, h1, h2, h3⟩)
  obtain ⟨_, a2, n2, c2, h2, _⟩ := h2
  have c11 := h2.c1
  have f1 := h2.fz 1
  obtain ⟨e1, e2, e3⟩ := h1.bs
  clear h1 e2 c1
  go_loop [5, 6, 15] (fun _ _ i => ∃ j : Nat, j ≤ k ∧ i = .int .i64 j) (fun _ _ i => m - (intOf i).toNat)
  case atStart => exact ⟨0, by omega, rfl⟩
  case round =>
    obtain ⟨j, hj, rfl⟩ := hrel
    rcases e3 with e3 | ⟨b, off, rfl, hc⟩
    · omega
    have hck := hc j (by omega)
    rw [hgd j (by omega)] at hck
    by_cases hlt : j < k
    · rw [hz j hlt] at hck
      have hj1 : (j : Int) < (m : Int) := by omega
      clear hc e1 hgd
      go_wp2
      go_round
      case rel => exact ⟨j + 1, by omega, by go_num⟩
      case measure => simp [intOf]; omega
    · obtain rfl : j = k := by omega
      have hj1 : (j : Int) < (m : Int) := by omega
      have hb : (zs.getD j 0 != 0) = true := by rw [bne_iff_ne]; exact hne
      have HF : Hid (Rdr (w1.setCell ⟨r, 1, none⟩ (.int .i64 (p + j))) r a2 n2 c2 (p + j) 0) := h2.set1 _
      have HO : Hid (Only r w (w1.setCell ⟨r, 1, none⟩ (.int .i64 (p + j)))) := h3.set 1 _
      clear hc e1 hgd hne h2
      generalize zs.getD j 0 = z at *
      go_wp2_with (go_at_call 42; refine (fail_ r n2 c2 a2 (p + j) 0 11 _ HF.out).mono ?_; rintro en w2 ⟨rfl, hr, ho⟩)
      try simp only [Exit.inBlock, Exit.then]
      refine bodyPost_ret (results_none rfl _ _ _) rfl ?_
      exact ⟨rfl, ⟨hr, rfl⟩, HO.out.trans ho⟩
end Go.Proofs.Ytjaecokhocbdlaa
