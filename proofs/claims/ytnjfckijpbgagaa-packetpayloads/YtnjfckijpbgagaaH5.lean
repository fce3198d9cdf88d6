import Derived.Test.YtnjfckijpbgagaaQ3
import Derived.Test.YtnjfckijpbgagaaNA
import Derived.Test.YtnjfckijpbgagaaQ6
namespace Go.Proofs.Ytnjfckijpbgagaa
set_option maxRecDepth 100000
open Go.RowKit
set_option linter.unusedVariables false

theorem be_one {T : Int} (h : 1 ≤ T ∧ T ≤ 3) : be 1 T = [T] := by
  have : T = 1 ∨ T = 2 ∨ T = 3 := by omega
  rcases this with rfl | rfl | rfl <;> rfl
theorem putOwn8 (a : Option Addr) (n c : Nat) (zs : List Int) (x : Int) (w : World) (hb : Bs w a n zs) (hn : n ≤ 1000000) (h0 : 0 ≤ x) (h1 : x ≤ 255) :
    Calls Try.prog 51 #[.slice a n c, .int .u8 x] w fun e w' => e = .returned (.slice (some ⟨w.heap.size, 0, none⟩) (n + 1) (n + 1)) ∧ w'.ownsRow w.heap.size 5 1 (.slice (some ⟨w.heap.size, 0, none⟩) (n + 1) (n + 1)) (n + 1) (cells (zs ++ be 1 x)) ∧ Below w.heap.size w w' := by
  refine (putW8 a n c zs x w hb hn h0 h1).mono ?_
  rintro e w' ⟨rfl, r, g⟩
  have hl : (zs ++ be 1 x).length = n + 1 := by rw [List.length_append, be_length, hb.1]
  have o := r.own (b := w.heap.size) (Nat.le_refl _) (by rw [hl]; unfold maxLen; omega)
  rw [hl] at o
  exact ⟨rfl, o, below_of_grown g⟩
theorem putOwn32 (a : Option Addr) (n c : Nat) (zs : List Int) (x : Int) (w : World) (hb : Bs w a n zs) (hn : n ≤ 1000000) (h0 : 0 ≤ x) (h1 : x ≤ 4294967295) :
    Calls Try.prog 49 #[.slice a n c, .int .u32 x] w fun e w' => e = .returned (.slice (some ⟨w.heap.size, 0, none⟩) (n + 4) (n + 4)) ∧ w'.ownsRow w.heap.size 5 1 (.slice (some ⟨w.heap.size, 0, none⟩) (n + 4) (n + 4)) (n + 4) (cells (zs ++ be 4 x)) ∧ Below w.heap.size w w' := by
  refine (putW32 a n c zs x w hb hn h0 h1).mono ?_
  rintro e w' ⟨rfl, r, g⟩
  have hl : (zs ++ be 4 x).length = n + 4 := by rw [List.length_append, be_length, hb.1]
  have o := r.own (b := w.heap.size) (Nat.le_refl _) (by rw [hl]; unfold maxLen; omega)
  rw [hl] at o
  exact ⟨rfl, o, below_of_grown g⟩
theorem putOwn64 (a : Option Addr) (n c : Nat) (zs : List Int) (x : Int) (w : World) (hb : Bs w a n zs) (hn : n ≤ 1000000) (h0 : 0 ≤ x) (h1 : x ≤ 18446744073709551615) :
    Calls Try.prog 48 #[.slice a n c, .int .u64 x] w fun e w' => e = .returned (.slice (some ⟨w.heap.size, 0, none⟩) (n + 8) (n + 8)) ∧ w'.ownsRow w.heap.size 5 1 (.slice (some ⟨w.heap.size, 0, none⟩) (n + 8) (n + 8)) (n + 8) (cells (zs ++ be 8 x)) ∧ Below w.heap.size w w' := by
  refine (putW64 a n c zs x w hb hn h0 h1).mono ?_
  rintro e w' ⟨rfl, r, g⟩
  have hl : (zs ++ be 8 x).length = n + 8 := by rw [List.length_append, be_length, hb.1]
  have o := r.own (b := w.heap.size) (Nat.le_refl _) (by rw [hl]; unfold maxLen; omega)
  rw [hl] at o
  exact ⟨rfl, o, below_of_grown g⟩
set_option maxHeartbeats 2000000 in
theorem putHead_ (T K G C : Int) (w : World) (hC : InU C) :
    Calls Try.prog 24 #[.agg #[.int .i64 T, .int .i64 K, .int .i64 G, .int .u64 C]] w fun e w' => ∃ v, e = .returned (.tuple #[v, .int .i64 (hE T K G C)]) ∧ w'.ownsRow w.heap.size 5 1 v (hB T K G C).length (cells (hB T K G C)) ∧ Below w.heap.size w w' := by
  obtain ⟨i5, hi, hz0, hz1, hz2⟩ := info_parts info5
  have B0 := hnew w T K G C
  have m0 := Hm.new w T K G C
  have k0 := fun w => validHead_ T K G C w
  cases hh : hOk T K G C with
  | false =>
    have e1 : hE T K G C = 90 := by unfold hE; rw [hh]; rfl
    have e2 : hB T K G C = [] := by unfold hB; rw [hh]; rfl
    rw [hh] at k0
    rw [e1, e2]
    clear e1 e2 hh m0
    go_enter Try.func24, Try.ntmps24
    go_wp2_with fail
    refine (k0 _).mono ?_
    rintro e w1 ⟨rfl, g2⟩
    replace B0 := bel_bel B0 B0.size g2
    clear g2
    go_wp2_with fail
    go_ret2
    exact ⟨_, rfl, World.ownsRow_nil _ _ _ _, B0⟩
  | true =>
    have e1 : hE T K G C = 0 := by unfold hE; rw [hh]; rfl
    have e2 : hB T K G C = hRow T K G C := by unfold hB; rw [hh]; rfl
    obtain ⟨h1, h2, h3, h4, h5, h6, h7⟩ := hOk_in hh
    have HROW : Hid (hRow T K G C = [] ++ be 1 T ++ [0, 0, 0] ++ be 4 K ++ be 4 G ++ be 8 C) := by
      show _ = _
      rw [be_one ⟨h1, h2⟩]
      simp [hRow]
    rw [hh] at k0
    rw [e1, e2, hRow_length]
    clear e1 e2 hh
    unfold InU at hC
    have HT1 := hid (be_one ⟨h1, h2⟩)
    have kT := fun w => putOwn8 none 0 0 [] T w (Bs.none0 _ _) (by decide) (by omega) (by omega)
    go_enter Try.func24, Try.ntmps24
    go_wp2_with fail
    refine (k0 _).mono ?_
    rintro e w1 ⟨rfl, g2⟩
    replace m0 := m0.kept g2
    replace B0 := bel_bel B0 B0.size g2
    clear g2 k0
    have c0 := m0.c0
    go_wp2_with fail
    refine (kT _).mono ?_
    rintro e w2 ⟨rfl, o2, g2⟩
    have B0w := B0
    have hlt1 := m0.lt
    replace m0 := m0.kept g2
    replace B0 := bel_bel B0 B0.size g2
    have s1 := g2.size
    rw [List.nil_append, HT1.out] at o2
    replace o2 : w2.ownsRow w1.heap.size 5 1 (.slice (some ⟨w1.heap.size, 0, none⟩) 1 1) 1 (cells [T]) := o2
    clear g2 kT c0
    go_wp2_with (at_builtin; refine wpList_append_own _ rfl _ _ 22 rfl w1.heap.size 5 i5 (.int .u8 0) 1 1 Try.underlying22 hi hz0 hz1 hz2 rfl (by decide) _ _ _ rfl (o2.alloc _) ⟨w2.heap.size, 0, none⟩ 3 3 [.int .u8 0, .int .u8 0, .int .u8 0] rfl rfl ?c1 ?c2 ?c3 ?c4 ?c5 ?_)
    case c1 =>
      intro j u hj
      match j, hj with
      | 0, hj => simp at hj; subst hj; simp [Addr.add]
      | 1, hj => simp at hj; subst hj; simp [Addr.add]
      | 2, hj => simp at hj; subst hj; simp [Addr.add]
    case c2 => intro u hu; simp at hu; subst hu; rfl
    case c3 => unfold maxLen; omega
    case c4 => omega
    case c5 => simp; omega
    intro v3 w3 o3 j3 _
    replace o3 : w3.ownsRow w1.heap.size 5 1 v3 4 (cells [T, 0, 0, 0]) := o3
    have hlt := m0.lt
    have f3 : Below w.heap.size w w3 := (B0.alloc B0.size _).grown j3 (by have := B0.size; simp; omega) fun p hp => by have := (o2.lt p hp).1; have := B0w.size; omega
    have m3 := (m0.alloc (.cells #[.int .u8 0, .int .u8 0, .int .u8 0] 5)).at (j3.block _ (by simp; omega) (fun e => by have := (o2.lt w.heap.size e.symm).1; omega))
    obtain ⟨a3, d3, rfl, y3, _⟩ := own_form o3 (by intro z hz; simp at hz; omega)
    have kK := putOwn32 a3 4 d3 [T, 0, 0, 0] K w3 y3 (by decide) (by omega) (by omega)
    have i1 := m3.c1
    clear o2 o3 j3 m0 B0
    go_wp2_with fail
    refine kK.mono ?_
    rintro e w4 ⟨rfl, o4, g4⟩
    have m4 := m3.kept g4
    have f4 := bel_bel f3 f3.size g4
    obtain ⟨a4, d4, e4, y4, _⟩ := own_form o4 (by intro z hz; rcases List.mem_append.1 hz with hz | hz; (simp at hz; omega); exact be_byte _ _ z hz)
    obtain ⟨rfl, -, rfl⟩ : some (⟨w3.heap.size, 0, none⟩ : Addr) = a4 ∧ 4 + 4 = 4 + 4 ∧ 4 + 4 = d4 := by simpa using e4
    have kG := putOwn32 (some ⟨w3.heap.size, 0, none⟩) (4 + 4) (4 + 4) ([T, 0, 0, 0] ++ be 4 K) G w4 y4 (by decide) (by omega) (by omega)
    have i2 := m4.c2
    clear o4 g4 m3 f3 kK y3 i1 e4
    go_wp2_with fail
    refine kG.mono ?_
    rintro e w5 ⟨rfl, o5, g5⟩
    have m5 := m4.kept g5
    have f5 := bel_bel f4 f4.size g5
    obtain ⟨a5, d5, e5, y5, _⟩ := own_form o5 (by intro z hz; rcases List.mem_append.1 hz with hz | hz; (rcases List.mem_append.1 hz with hz | hz; (simp at hz; omega); exact be_byte _ _ z hz); exact be_byte _ _ z hz)
    obtain ⟨rfl, -, rfl⟩ : some (⟨w4.heap.size, 0, none⟩ : Addr) = a5 ∧ 4 + 4 + 4 = 4 + 4 + 4 ∧ 4 + 4 + 4 = d5 := by simpa using e5
    have kC := putOwn64 (some ⟨w4.heap.size, 0, none⟩) (4 + 4 + 4) (4 + 4 + 4) ([T, 0, 0, 0] ++ be 4 K ++ be 4 G) C w5 y5 (by decide) (by omega) (by omega)
    have i3 := m5.c3
    clear o5 g5 m4 f4 kG y4 i2 e5
    go_wp2_with fail
    refine kC.mono ?_
    rintro e w6 ⟨rfl, o6, g6⟩
    have f6 := bel_bel f5 f5.size g6
    clear kC
    go_wp2_with fail
    go_ret2
    refine ⟨_, rfl, ?_, f6⟩
    rw [HROW.out]
    have o7 := own_le7 o6 f5.size
    rw [HT1.out]
    exact o7
theorem or32 (b : Int) (h0 : 0 ≤ b) (h1 : b < 2147483648) : bits .or .u32 2147483648 b = b + 2147483648 ∧ bits .or .u32 0 b = b := by
  obtain ⟨n, rfl⟩ := Int.eq_ofNat_of_zero_le h0
  have e2 : (BitVec.ofInt 32 (n : Int)).toNat = n := by
    rw [BitVec.ofInt_natCast, BitVec.toNat_ofNat]; exact Nat.mod_eq_of_lt (by omega)
  have e : 2147483648 ||| n = 2147483648 + n := by
    have := Nat.shiftLeft_add_eq_or_of_lt (a := 1) (b := n) (i := 31) (by omega)
    rw [Nat.shiftLeft_eq] at this
    exact this.symm
  constructor
  · show IntKind.u32.wrap ((BitVec.ofInt 32 (2147483648 : Int) ||| BitVec.ofInt 32 (n : Int)).toNat : Int) = _
    rw [BitVec.toNat_or, e2, show (BitVec.ofInt 32 (2147483648 : Int)).toNat = 2147483648 from rfl, e, IntKind.wrap_u32]
    omega
  · show IntKind.u32.wrap ((BitVec.ofInt 32 (0 : Int) ||| BitVec.ofInt 32 (n : Int)).toNat : Int) = _
    rw [BitVec.toNat_or, e2, show (BitVec.ofInt 32 (0 : Int)).toNat = 0 from rfl, Nat.zero_or, IntKind.wrap_u32]
    omega
theorem nOk_t (S G C : Int) : nOk S G C = (decide (S = 0 ∨ S = 1) && tOk G C) := by
  unfold nOk tOk
  rw [← Bool.decide_and]
set_option maxHeartbeats 2000000 in
theorem nonce_ (S G C : Int) (w : World) (hC : InU C) :
    Calls Try.prog 23 #[.int .i64 S, .int .i64 G, .int .u64 C] w fun e w' => ∃ v, e = .returned v ∧ w'.ownsRow w.heap.size 5 1 v (nB S G C).length (cells (nB S G C)) ∧ Below w.heap.size w w' := by
  have k1 := fun w => validSide_ S w
  have k2 := fun w => validTurn_ G C w
  have HN := hid (nOk_t S G C)
  by_cases hS : S = 0 ∨ S = 1
  · rw [decide_eq_true hS] at k1 HN
    rw [Bool.true_and] at HN
    cases ht : tOk G C with
    | false =>
      have e2 : nB S G C = [] := by unfold nB; rw [HN.out, ht]; rfl
      rw [ht] at k2
      rw [e2]
      clear e2 ht HN hS
      go_enter Try.func23, Try.ntmps23
      go_wp2_with fail
      refine (k1 _).mono ?_
      rintro e w1 ⟨rfl, hw⟩
      obtain rfl := hw.symm
      clear hw
      go_wp2_with fail
      refine (k2 _).mono ?_
      rintro e w1 ⟨rfl, hw⟩
      obtain rfl := hw.symm
      clear hw
      go_wp2_with fail
      go_ret
      exact ⟨_, rfl, World.ownsRow_nil _ _ _ _, Below.refl _ _⟩
    | true =>
      have e2 : nB S G C = nRow S G C := by unfold nB; rw [HN.out, ht]; rfl
      obtain ⟨h3, h4, h5⟩ := of_decide_eq_true (show decide _ = true from ht)
      rw [ht] at k2
      rw [e2, nRow_length]
      clear e2 ht HN
      have HK : ∀ x : Int, x = S * 2147483648 + G → Hid (be 4 x ++ be 8 C = nRow S G C) := fun x e => by rw [e]; exact hid rfl
      rcases hS with rfl | rfl
      · have HR := HK G (by omega)
        have ho := (or32 G (by omega) (by omega)).2
        have kx := fun w => putOwn32 none 0 0 [] G w (Bs.none0 _ _) (by decide) (by omega) (by omega)
        clear HK
        go_enter Try.func23, Try.ntmps23
        go_wp2_with fail
        refine (k1 _).mono ?_
        rintro e w1 ⟨rfl, hw⟩
        obtain rfl := hw.symm
        clear hw
        go_wp2_with fail
        refine (k2 _).mono ?_
        rintro e w1 ⟨rfl, hw⟩
        obtain rfl := hw.symm
        clear hw
        go_wp2_with fail
        refine (kx _).mono ?_
        rintro e w1 ⟨rfl, o1, g1⟩
        obtain ⟨a1, d1, e1, y1, _⟩ := own_form o1 (by rw [List.nil_append]; exact be_byte _ _)
        obtain ⟨rfl, -, rfl⟩ : some (⟨w.heap.size, 0, none⟩ : Addr) = a1 ∧ 0 + 4 = 0 + 4 ∧ 0 + 4 = d1 := by simpa using e1
        unfold InU at hC
        have kC := putOwn64 (some ⟨w.heap.size, 0, none⟩) (0 + 4) (0 + 4) ([] ++ be 4 G) C w1 y1 (by decide) (by omega) (by omega)
        clear o1 e1
        go_wp2_with fail
        refine kC.mono ?_
        rintro e w2 ⟨rfl, o2, g2⟩
        go_wp2_with fail
        go_ret
        refine ⟨_, rfl, ?_, bel_bel g1 g1.size g2⟩
        have o3 := own_le7 o2 g1.size
        rw [List.nil_append, HR.out] at o3
        exact o3
      · have HR := HK (G + 2147483648) (by omega)
        have ho := (or32 G (by omega) (by omega)).1
        have kx := fun w => putOwn32 none 0 0 [] (G + 2147483648) w (Bs.none0 _ _) (by decide) (by omega) (by omega)
        clear HK
        go_enter Try.func23, Try.ntmps23
        go_wp2_with fail
        refine (k1 _).mono ?_
        rintro e w1 ⟨rfl, hw⟩
        obtain rfl := hw.symm
        clear hw
        go_wp2_with fail
        refine (k2 _).mono ?_
        rintro e w1 ⟨rfl, hw⟩
        obtain rfl := hw.symm
        clear hw
        go_wp2_with fail
        refine (kx _).mono ?_
        rintro e w1 ⟨rfl, o1, g1⟩
        obtain ⟨a1, d1, e1, y1, _⟩ := own_form o1 (by rw [List.nil_append]; exact be_byte _ _)
        obtain ⟨rfl, -, rfl⟩ : some (⟨w.heap.size, 0, none⟩ : Addr) = a1 ∧ 0 + 4 = 0 + 4 ∧ 0 + 4 = d1 := by simpa using e1
        unfold InU at hC
        have kC := putOwn64 (some ⟨w.heap.size, 0, none⟩) (0 + 4) (0 + 4) ([] ++ be 4 (G + 2147483648)) C w1 y1 (by decide) (by omega) (by omega)
        clear o1 e1
        go_wp2_with fail
        refine kC.mono ?_
        rintro e w2 ⟨rfl, o2, g2⟩
        go_wp2_with fail
        go_ret
        refine ⟨_, rfl, ?_, bel_bel g1 g1.size g2⟩
        have o3 := own_le7 o2 g1.size
        rw [List.nil_append, HR.out] at o3
        exact o3
  · have e2 : nB S G C = [] := by unfold nB; rw [HN.out, decide_eq_false hS]; rfl
    rw [decide_eq_false hS] at k1
    rw [e2]
    clear e2 HN hS
    go_enter Try.func23, Try.ntmps23
    go_wp2_with fail
    refine (k1 _).mono ?_
    rintro e w1 ⟨rfl, hw⟩
    obtain rfl := hw.symm
    clear hw
    go_wp2_with fail
    go_ret
    exact ⟨_, rfl, World.ownsRow_nil _ _ _ _, Below.refl _ _⟩
end Go.Proofs.Ytnjfckijpbgagaa
