import Derived.Test.YthjfgdldclhbhaaYE
namespace Go.Proofs.Ythjfgdldclhbhaa
set_option maxRecDepth 100000
open Go.RowKit Go.Shelf
set_option linter.unusedVariables false

theorem plays_two {w w1 w3 w4 : World} {pa da ea pb db eb : Nat} {s s' : St} {Q N Q' N' : Nat → Prop} (B1 : Below w.heap.size w w1)
    (A : Pa w3 pa da ea w1.heap.size s Q N) (lA : ∀ b, Q b ∨ N b → (w1.alloc (.cells #[.slice none 0 0] 27)).heap.size ≤ b) (pA : (w1.alloc (.cells #[.slice none 0 0] 27)).heap.size ≤ pa) (B3 : Below (w1.alloc (.cells #[.slice none 0 0] 27)).heap.size (w1.alloc (.cells #[.slice none 0 0] 27)) w3)
    (C : Pa w4 pb db eb w1.heap.size s' Q' N') (lC : ∀ b, Q' b ∨ N' b → w3.heap.size ≤ b) (pC : w3.heap.size ≤ pb) (B4 : Below w3.heap.size w3 w4) : Two w w4 pa da ea pb db eb w1.heap.size s s' := by
  have A2 : Below w1.heap.size w1 (w1.alloc (.cells #[.slice none 0 0] 27)) := (Below.refl _ _).alloc (Nat.le_refl _) _
  have hz2 : (w1.alloc (.cells #[.slice none 0 0] 27)).heap.size = w1.heap.size + 1 := by simp
  have hk2 : (w1.alloc (.cells #[.slice none 0 0] 27)).heap[w1.heap.size]? = some (.cells #[.slice none 0 0] 27 (0, 0)) := heap_alloc_new w1 _
  have F2 := bel_bel B1 B1.size A2
  generalize w1.alloc (.cells #[.slice none 0 0] 27) = w2 at *
  have s1 := B1.size
  have s3 := B3.size
  have s4 := B4.size
  have hk4 := (B4.block w1.heap.size (by omega)).trans ((B3.block w1.heap.size (by omega)).trans hk2)
  have F3 := bel_bel F2 F2.size B3
  have F4 := bel_bel F3 F3.size B4
  have hpl := A.lt
  have hql := A.dev.lt
  have hnl := A.nl
  refine ⟨Q, N, Q', N', fun b => b = w1.heap.size, ⟨⟨A.below B4, ⟨.slice none 0 0, 0, [], ⟨hk4, ⟨rfl, .inl ⟨rfl, rfl⟩⟩, rfl, fun q hq => by simp [Value.ownBlock] at hq, by omega⟩⟩, fun b hb => ?_, fun b hb => ?_, F4⟩, C, fun b hb => ?_, fun b hb => ?_, ⟨fun x => by have := lC _ (.inl x); omega, fun x => by have := lC _ (.inr x); omega⟩, fun b hb => ?_⟩⟩
  · subst hb
    exact ⟨by omega, fun x => by have := lA _ (.inl x); omega, fun x => by have := lA _ (.inr x); omega, by omega⟩
  · rcases hb with x | x | x
    · have := lA b (.inl x); omega
    · have := lA b (.inr x); omega
    · subst x; exact s1
  · subst hb
    exact ⟨fun x => by have := lC _ (.inl x); omega, fun x => by have := lC _ (.inr x); omega, by omega⟩
  · have hb3 : b < w3.heap.size := by
      rcases hb with x | x
      · exact hql b x
      · exact hnl b x
    exact ⟨fun x => by have := lC _ (.inl x); omega, fun x => by have := lC _ (.inr x); omega, by omega⟩
  · have := lC b hb
    omega
set_option maxHeartbeats 16000000 in
theorem plays_m (n : Int) (m : Int) (m' : Nat) (a : Option Addr) (q c : Nat) (O : Nat → Ov) (w : World) (hO : IsOps w a q O) (hq : q ≤ 140737488355328) (hm : (m = m' ∧ 32 ≤ m ∧ m ≤ 64) ∨ (m' = 32 ∧ m < 32) ∨ (m' = 32 ∧ 64 < m)) :
    Calls Try.prog 3 #[.int .i64 n, .int .i64 m, .slice a q c] w fun en w' => en = .returned (.bool true) ∧ Below w.heap.size w w' := by
  have k1 := first_ w
  have HO := hid hO
  have hm1 : 32 ≤ m' := by omega
  have hm2 : m' ≤ 64 := by omega
  clear hO
  go_enter Try.func3, Try.ntmps3
  go_wp2_with fail
  refine k1.mono ?_
  rintro en w1 ⟨rfl, B1⟩
  have HB1 := hid B1
  clear k1 B1
  go_wp2_with fail
  refine (made_ n w1.heap.size _).mono ?_
  rintro en w3 ⟨pa, da, ea, m1, Qa, Na, rfl, A3, lA, pA, B3⟩
  have HA3 := hid A3
  have HLA := hid lA
  have HPA := hid pA
  have HB3 := hid B3
  clear A3 lA pA B3
  have ki := imaged_ m' w1.heap.size w3 hm1 hm2
  rcases hm with ⟨rfl, x1, x2⟩ | ⟨rfl, x1⟩ | ⟨rfl, x1⟩
  · go_wp2_with fail
    refine ki.mono ?_
    rintro en w4 ⟨pb, db, eb, Sx, Qb, Nb, rfl, C4, lC, pC, B4⟩
    have TW := hid (plays_two HB1.out HA3.out HLA.out HPA.out HB3.out C4 lC pC B4)
    clear ki C4 lC pC B4 HA3 HLA HPA HB3 HB1
    generalize w1.heap.size = k at *
    obtain ⟨sa0, Ha0⟩ : ∃ x, Hid (st0 m1 = x) := ⟨_, rfl⟩
    obtain ⟨sb0, Hb0⟩ : ∃ x : St, Hid (({ st0 m' with S := Sx } : St) = x) := ⟨_, rfl⟩
    have a1 : sa0.c ≤ 0 ∧ sa0.P.length ≤ 0 ∧ sa0.k ≤ 0 := by rw [← Ha0.out]; exact ⟨Nat.le_refl _, Nat.le_refl _, Nat.le_refl _⟩
    have b1 : sb0.c ≤ 0 ∧ sb0.P.length ≤ 0 ∧ sb0.k ≤ 0 := by rw [← Hb0.out]; exact ⟨Nat.le_refl _, Nat.le_refl _, Nat.le_refl _⟩
    rw [Ha0.out, Hb0.out] at TW
    clear Ha0 Hb0
    go_wp2_with fail
    go_loopw [7, 13] (fun ok i wr => ∃ (j : Nat) (s s' : St), j ≤ q ∧ j ≤ 300 ∧ ok = .bool true ∧ i = .int .i64 j ∧ Two w wr pa da ea pb db eb k s s' ∧ (s.c ≤ j ∧ s.P.length ≤ j ∧ s.k ≤ j) ∧ s'.c ≤ j ∧ s'.P.length ≤ j ∧ s'.k ≤ j) (fun _ i _ => q - (intOf i).toNat)
    case atStart => exact ⟨0, sa0, sb0, Nat.zero_le _, Nat.zero_le _, rfl, rfl, TW.out, a1, b1⟩
    case round =>
      clear TW a1 b1
      obtain ⟨j, s, s', hj, hj3, rfl, rfl, tw, ⟨hc, hp, hk⟩, hc', hp', hk'⟩ := hrel
      by_cases hlt : j < q ∧ j < 300
      · have hjI : (j : Int) < (q : Int) := by omega
        have hjI3 : (j : Int) < 300 := by omega
        obtain ⟨b, off, rfl, c0, c1, c2, c3, c4, c5⟩ := HO.out.cells hlt.1 tw.bl
        have hok := (HO.out.ok hlt.1).o
        generalize O j = ov at *
        obtain ⟨oK, oI, osc, oDa, oDn, oDc, oD, oFa, oFn, oFc, ofs, oKa, oKn, oKc, oks⟩ := ov
        replace c0 : wr.cell? ⟨b, off + j * 6, none⟩ = some (.int .i64 oK) := c0
        replace c1 : wr.cell? ⟨b, off + j * 6 + 1, none⟩ = some (.int .i64 oI) := c1
        replace c2 : wr.cell? ⟨b, off + j * 6 + 2, none⟩ = some (.bool osc) := c2
        replace c3 : wr.cell? ⟨b, off + j * 6 + 3, none⟩ = some (.slice oDa oDn oDc) := c3
        replace c4 : wr.cell? ⟨b, off + j * 6 + 4, none⟩ = some (.slice oFa oFn oFc) := c4
        replace c5 : wr.cell? ⟨b, off + j * 6 + 5, none⟩ = some (.slice oKa oKn oKc) := c5
        replace hok : OpIn w oDa oDn oDc oD oFa oFn oFc ofs oKa oKn oKc oks := hok
        cases osc with
        | false =>
          have ks := two_step w wr pa da ea pb db eb k s s' oK oI false oDa oDn oDc oD oFa oFn oFc ofs oKa oKn oKc oks tw hok (by omega) (by omega) (by omega)
          clear tw hok hlt
          go_wp2_with fail
          refine ks.mono ?_
          rintro en w5 ⟨rfl, s1, tw1, l1, l2, l3⟩
          have TW1 := hid tw1
          clear ks tw1 c0 c1 c2 c3 c4 c5
          go_wp2_with fail
          go_roundw
          case rel => exact ⟨j + 1, s1, s', by omega, by omega, rfl, by go_num, TW1.out, ⟨by omega, by omega, by omega⟩, by omega, by omega, by omega⟩
          case measure => simp [intOf]; omega
        | true =>
          have ks := two_step w wr pb db eb pa da ea k s' s oK oI true oDa oDn oDc oD oFa oFn oFc ofs oKa oKn oKc oks tw.swap hok (by omega) (by omega) (by omega)
          clear tw hok hlt
          go_wp2_with fail
          refine ks.mono ?_
          rintro en w5 ⟨rfl, s1, tw1, l1, l2, l3⟩
          have TW1 := hid tw1.swap
          clear ks tw1 c0 c1 c2 c3 c4 c5
          go_wp2_with fail
          go_roundw
          case rel => exact ⟨j + 1, s, s1, by omega, by omega, rfl, by go_num, TW1.out, ⟨by omega, by omega, by omega⟩, by omega, by omega, by omega⟩
          case measure => simp [intOf]; omega
      · have TW0 := hid tw
        have hjj : ¬ (j : Int) < (q : Int) ∨ ((j : Int) < (q : Int) ∧ ¬ (j : Int) < 300) := by omega
        clear tw hlt
        rcases hjj with hjI | ⟨hjI, hjI3⟩
        all_goals
          obtain ⟨wq, rfl⟩ : ∃ wq, wq = wr := ⟨_, rfl⟩
          go_wp2_with fail
          go_loopw [10, 12, 14] (fun x y i wr => ∃ (r : Nat) (s s' : St), 7 ≤ r ∧ r ≤ 14 ∧ x = .bool true ∧ y = .bool true ∧ i = .int .i64 r ∧ Two w wr pa da ea pb db eb k s s' ∧ (s.c ≤ 300 + r ∧ s.P.length ≤ 300 + r ∧ s.k ≤ 300 + r) ∧ s'.c ≤ 300 + r ∧ s'.P.length ≤ 300 + r ∧ s'.k ≤ 300 + r) (fun _ _ i _ => 14 - (intOf i).toNat)
          case atStart => exact ⟨7, s, s', by omega, by omega, rfl, rfl, rfl, TW0.out, ⟨by omega, by omega, by omega⟩, by omega, by omega, by omega⟩
          case round =>
            clear TW0 hc hp hk hc' hp' hk'
            obtain ⟨r, s, s', hr7, hr, rfl, rfl, rfl, tw, ⟨hc, hp, hk⟩, hc', hp', hk'⟩ := hrel
            by_cases hlr : r < 14
            · have hrI : (r : Int) < 14 := by omega
              have ks := two_step w wr pa da ea pb db eb k s s' (r : Int) 0 false none 0 0 [] none 0 0 [] none 0 0 [] tw (opIn_nil w) (by omega) (by omega) (by omega)
              clear tw
              go_wp2_with fail
              refine ks.mono ?_
              rintro en w5 ⟨rfl, s1, tw1, l1, l2, l3⟩
              have ks2 := two_step w w5 pb db eb pa da ea k s' s1 (r : Int) 0 false none 0 0 [] none 0 0 [] none 0 0 [] tw1.swap (opIn_nil w) (by omega) (by omega) (by omega)
              clear ks tw1
              go_wp2_with fail
              refine ks2.mono ?_
              rintro en w6 ⟨rfl, s2, tw2, l4, l5, l6⟩
              have TW2 := hid tw2.swap
              clear ks2 tw2
              go_wp2_with fail
              go_roundw
              case rel => exact ⟨r + 1, s1, s2, by omega, by omega, rfl, rfl, by go_num, TW2.out, ⟨by omega, by omega, by omega⟩, by omega, by omega, by omega⟩
              case measure => simp [intOf]; omega
            · have hrI : ¬ (r : Int) < 14 := by omega
              have HB := hid tw.bl
              clear tw
              go_wp2_with fail
              go_ret
              exact ⟨rfl, HB.out⟩
  · go_wp2_with fail
    refine ki.mono ?_
    rintro en w4 ⟨pb, db, eb, Sx, Qb, Nb, rfl, C4, lC, pC, B4⟩
    have TW := hid (plays_two HB1.out HA3.out HLA.out HPA.out HB3.out C4 lC pC B4)
    clear ki C4 lC pC B4 HA3 HLA HPA HB3 HB1
    generalize w1.heap.size = k at *
    obtain ⟨sa0, Ha0⟩ : ∃ x, Hid (st0 m1 = x) := ⟨_, rfl⟩
    obtain ⟨sb0, Hb0⟩ : ∃ x : St, Hid (({ st0 32 with S := Sx } : St) = x) := ⟨_, rfl⟩
    have a1 : sa0.c ≤ 0 ∧ sa0.P.length ≤ 0 ∧ sa0.k ≤ 0 := by rw [← Ha0.out]; exact ⟨Nat.le_refl _, Nat.le_refl _, Nat.le_refl _⟩
    have b1 : sb0.c ≤ 0 ∧ sb0.P.length ≤ 0 ∧ sb0.k ≤ 0 := by rw [← Hb0.out]; exact ⟨Nat.le_refl _, Nat.le_refl _, Nat.le_refl _⟩
    rw [Ha0.out, Hb0.out] at TW
    clear Ha0 Hb0
    go_wp2_with fail
    go_loopw [7, 13] (fun ok i wr => ∃ (j : Nat) (s s' : St), j ≤ q ∧ j ≤ 300 ∧ ok = .bool true ∧ i = .int .i64 j ∧ Two w wr pa da ea pb db eb k s s' ∧ (s.c ≤ j ∧ s.P.length ≤ j ∧ s.k ≤ j) ∧ s'.c ≤ j ∧ s'.P.length ≤ j ∧ s'.k ≤ j) (fun _ i _ => q - (intOf i).toNat)
    case atStart => exact ⟨0, sa0, sb0, Nat.zero_le _, Nat.zero_le _, rfl, rfl, TW.out, a1, b1⟩
    case round =>
      clear TW a1 b1
      obtain ⟨j, s, s', hj, hj3, rfl, rfl, tw, ⟨hc, hp, hk⟩, hc', hp', hk'⟩ := hrel
      by_cases hlt : j < q ∧ j < 300
      · have hjI : (j : Int) < (q : Int) := by omega
        have hjI3 : (j : Int) < 300 := by omega
        obtain ⟨b, off, rfl, c0, c1, c2, c3, c4, c5⟩ := HO.out.cells hlt.1 tw.bl
        have hok := (HO.out.ok hlt.1).o
        generalize O j = ov at *
        obtain ⟨oK, oI, osc, oDa, oDn, oDc, oD, oFa, oFn, oFc, ofs, oKa, oKn, oKc, oks⟩ := ov
        replace c0 : wr.cell? ⟨b, off + j * 6, none⟩ = some (.int .i64 oK) := c0
        replace c1 : wr.cell? ⟨b, off + j * 6 + 1, none⟩ = some (.int .i64 oI) := c1
        replace c2 : wr.cell? ⟨b, off + j * 6 + 2, none⟩ = some (.bool osc) := c2
        replace c3 : wr.cell? ⟨b, off + j * 6 + 3, none⟩ = some (.slice oDa oDn oDc) := c3
        replace c4 : wr.cell? ⟨b, off + j * 6 + 4, none⟩ = some (.slice oFa oFn oFc) := c4
        replace c5 : wr.cell? ⟨b, off + j * 6 + 5, none⟩ = some (.slice oKa oKn oKc) := c5
        replace hok : OpIn w oDa oDn oDc oD oFa oFn oFc ofs oKa oKn oKc oks := hok
        cases osc with
        | false =>
          have ks := two_step w wr pa da ea pb db eb k s s' oK oI false oDa oDn oDc oD oFa oFn oFc ofs oKa oKn oKc oks tw hok (by omega) (by omega) (by omega)
          clear tw hok hlt
          go_wp2_with fail
          refine ks.mono ?_
          rintro en w5 ⟨rfl, s1, tw1, l1, l2, l3⟩
          have TW1 := hid tw1
          clear ks tw1 c0 c1 c2 c3 c4 c5
          go_wp2_with fail
          go_roundw
          case rel => exact ⟨j + 1, s1, s', by omega, by omega, rfl, by go_num, TW1.out, ⟨by omega, by omega, by omega⟩, by omega, by omega, by omega⟩
          case measure => simp [intOf]; omega
        | true =>
          have ks := two_step w wr pb db eb pa da ea k s' s oK oI true oDa oDn oDc oD oFa oFn oFc ofs oKa oKn oKc oks tw.swap hok (by omega) (by omega) (by omega)
          clear tw hok hlt
          go_wp2_with fail
          refine ks.mono ?_
          rintro en w5 ⟨rfl, s1, tw1, l1, l2, l3⟩
          have TW1 := hid tw1.swap
          clear ks tw1 c0 c1 c2 c3 c4 c5
          go_wp2_with fail
          go_roundw
          case rel => exact ⟨j + 1, s, s1, by omega, by omega, rfl, by go_num, TW1.out, ⟨by omega, by omega, by omega⟩, by omega, by omega, by omega⟩
          case measure => simp [intOf]; omega
      · have TW0 := hid tw
        have hjj : ¬ (j : Int) < (q : Int) ∨ ((j : Int) < (q : Int) ∧ ¬ (j : Int) < 300) := by omega
        clear tw hlt
        rcases hjj with hjI | ⟨hjI, hjI3⟩
        all_goals
          obtain ⟨wq, rfl⟩ : ∃ wq, wq = wr := ⟨_, rfl⟩
          go_wp2_with fail
          go_loopw [10, 12, 14] (fun x y i wr => ∃ (r : Nat) (s s' : St), 7 ≤ r ∧ r ≤ 14 ∧ x = .bool true ∧ y = .bool true ∧ i = .int .i64 r ∧ Two w wr pa da ea pb db eb k s s' ∧ (s.c ≤ 300 + r ∧ s.P.length ≤ 300 + r ∧ s.k ≤ 300 + r) ∧ s'.c ≤ 300 + r ∧ s'.P.length ≤ 300 + r ∧ s'.k ≤ 300 + r) (fun _ _ i _ => 14 - (intOf i).toNat)
          case atStart => exact ⟨7, s, s', by omega, by omega, rfl, rfl, rfl, TW0.out, ⟨by omega, by omega, by omega⟩, by omega, by omega, by omega⟩
          case round =>
            clear TW0 hc hp hk hc' hp' hk'
            obtain ⟨r, s, s', hr7, hr, rfl, rfl, rfl, tw, ⟨hc, hp, hk⟩, hc', hp', hk'⟩ := hrel
            by_cases hlr : r < 14
            · have hrI : (r : Int) < 14 := by omega
              have ks := two_step w wr pa da ea pb db eb k s s' (r : Int) 0 false none 0 0 [] none 0 0 [] none 0 0 [] tw (opIn_nil w) (by omega) (by omega) (by omega)
              clear tw
              go_wp2_with fail
              refine ks.mono ?_
              rintro en w5 ⟨rfl, s1, tw1, l1, l2, l3⟩
              have ks2 := two_step w w5 pb db eb pa da ea k s' s1 (r : Int) 0 false none 0 0 [] none 0 0 [] none 0 0 [] tw1.swap (opIn_nil w) (by omega) (by omega) (by omega)
              clear ks tw1
              go_wp2_with fail
              refine ks2.mono ?_
              rintro en w6 ⟨rfl, s2, tw2, l4, l5, l6⟩
              have TW2 := hid tw2.swap
              clear ks2 tw2
              go_wp2_with fail
              go_roundw
              case rel => exact ⟨r + 1, s1, s2, by omega, by omega, rfl, rfl, by go_num, TW2.out, ⟨by omega, by omega, by omega⟩, by omega, by omega, by omega⟩
              case measure => simp [intOf]; omega
            · have hrI : ¬ (r : Int) < 14 := by omega
              have HB := hid tw.bl
              clear tw
              go_wp2_with fail
              go_ret
              exact ⟨rfl, HB.out⟩
  · go_wp2_with fail
    refine ki.mono ?_
    rintro en w4 ⟨pb, db, eb, Sx, Qb, Nb, rfl, C4, lC, pC, B4⟩
    have TW := hid (plays_two HB1.out HA3.out HLA.out HPA.out HB3.out C4 lC pC B4)
    clear ki C4 lC pC B4 HA3 HLA HPA HB3 HB1
    generalize w1.heap.size = k at *
    obtain ⟨sa0, Ha0⟩ : ∃ x, Hid (st0 m1 = x) := ⟨_, rfl⟩
    obtain ⟨sb0, Hb0⟩ : ∃ x : St, Hid (({ st0 32 with S := Sx } : St) = x) := ⟨_, rfl⟩
    have a1 : sa0.c ≤ 0 ∧ sa0.P.length ≤ 0 ∧ sa0.k ≤ 0 := by rw [← Ha0.out]; exact ⟨Nat.le_refl _, Nat.le_refl _, Nat.le_refl _⟩
    have b1 : sb0.c ≤ 0 ∧ sb0.P.length ≤ 0 ∧ sb0.k ≤ 0 := by rw [← Hb0.out]; exact ⟨Nat.le_refl _, Nat.le_refl _, Nat.le_refl _⟩
    rw [Ha0.out, Hb0.out] at TW
    clear Ha0 Hb0
    go_wp2_with fail
    go_loopw [7, 13] (fun ok i wr => ∃ (j : Nat) (s s' : St), j ≤ q ∧ j ≤ 300 ∧ ok = .bool true ∧ i = .int .i64 j ∧ Two w wr pa da ea pb db eb k s s' ∧ (s.c ≤ j ∧ s.P.length ≤ j ∧ s.k ≤ j) ∧ s'.c ≤ j ∧ s'.P.length ≤ j ∧ s'.k ≤ j) (fun _ i _ => q - (intOf i).toNat)
    case atStart => exact ⟨0, sa0, sb0, Nat.zero_le _, Nat.zero_le _, rfl, rfl, TW.out, a1, b1⟩
    case round =>
      clear TW a1 b1
      obtain ⟨j, s, s', hj, hj3, rfl, rfl, tw, ⟨hc, hp, hk⟩, hc', hp', hk'⟩ := hrel
      by_cases hlt : j < q ∧ j < 300
      · have hjI : (j : Int) < (q : Int) := by omega
        have hjI3 : (j : Int) < 300 := by omega
        obtain ⟨b, off, rfl, c0, c1, c2, c3, c4, c5⟩ := HO.out.cells hlt.1 tw.bl
        have hok := (HO.out.ok hlt.1).o
        generalize O j = ov at *
        obtain ⟨oK, oI, osc, oDa, oDn, oDc, oD, oFa, oFn, oFc, ofs, oKa, oKn, oKc, oks⟩ := ov
        replace c0 : wr.cell? ⟨b, off + j * 6, none⟩ = some (.int .i64 oK) := c0
        replace c1 : wr.cell? ⟨b, off + j * 6 + 1, none⟩ = some (.int .i64 oI) := c1
        replace c2 : wr.cell? ⟨b, off + j * 6 + 2, none⟩ = some (.bool osc) := c2
        replace c3 : wr.cell? ⟨b, off + j * 6 + 3, none⟩ = some (.slice oDa oDn oDc) := c3
        replace c4 : wr.cell? ⟨b, off + j * 6 + 4, none⟩ = some (.slice oFa oFn oFc) := c4
        replace c5 : wr.cell? ⟨b, off + j * 6 + 5, none⟩ = some (.slice oKa oKn oKc) := c5
        replace hok : OpIn w oDa oDn oDc oD oFa oFn oFc ofs oKa oKn oKc oks := hok
        cases osc with
        | false =>
          have ks := two_step w wr pa da ea pb db eb k s s' oK oI false oDa oDn oDc oD oFa oFn oFc ofs oKa oKn oKc oks tw hok (by omega) (by omega) (by omega)
          clear tw hok hlt
          go_wp2_with fail
          refine ks.mono ?_
          rintro en w5 ⟨rfl, s1, tw1, l1, l2, l3⟩
          have TW1 := hid tw1
          clear ks tw1 c0 c1 c2 c3 c4 c5
          go_wp2_with fail
          go_roundw
          case rel => exact ⟨j + 1, s1, s', by omega, by omega, rfl, by go_num, TW1.out, ⟨by omega, by omega, by omega⟩, by omega, by omega, by omega⟩
          case measure => simp [intOf]; omega
        | true =>
          have ks := two_step w wr pb db eb pa da ea k s' s oK oI true oDa oDn oDc oD oFa oFn oFc ofs oKa oKn oKc oks tw.swap hok (by omega) (by omega) (by omega)
          clear tw hok hlt
          go_wp2_with fail
          refine ks.mono ?_
          rintro en w5 ⟨rfl, s1, tw1, l1, l2, l3⟩
          have TW1 := hid tw1.swap
          clear ks tw1 c0 c1 c2 c3 c4 c5
          go_wp2_with fail
          go_roundw
          case rel => exact ⟨j + 1, s, s1, by omega, by omega, rfl, by go_num, TW1.out, ⟨by omega, by omega, by omega⟩, by omega, by omega, by omega⟩
          case measure => simp [intOf]; omega
      · have TW0 := hid tw
        have hjj : ¬ (j : Int) < (q : Int) ∨ ((j : Int) < (q : Int) ∧ ¬ (j : Int) < 300) := by omega
        clear tw hlt
        rcases hjj with hjI | ⟨hjI, hjI3⟩
        all_goals
          obtain ⟨wq, rfl⟩ : ∃ wq, wq = wr := ⟨_, rfl⟩
          go_wp2_with fail
          go_loopw [10, 12, 14] (fun x y i wr => ∃ (r : Nat) (s s' : St), 7 ≤ r ∧ r ≤ 14 ∧ x = .bool true ∧ y = .bool true ∧ i = .int .i64 r ∧ Two w wr pa da ea pb db eb k s s' ∧ (s.c ≤ 300 + r ∧ s.P.length ≤ 300 + r ∧ s.k ≤ 300 + r) ∧ s'.c ≤ 300 + r ∧ s'.P.length ≤ 300 + r ∧ s'.k ≤ 300 + r) (fun _ _ i _ => 14 - (intOf i).toNat)
          case atStart => exact ⟨7, s, s', by omega, by omega, rfl, rfl, rfl, TW0.out, ⟨by omega, by omega, by omega⟩, by omega, by omega, by omega⟩
          case round =>
            clear TW0 hc hp hk hc' hp' hk'
            obtain ⟨r, s, s', hr7, hr, rfl, rfl, rfl, tw, ⟨hc, hp, hk⟩, hc', hp', hk'⟩ := hrel
            by_cases hlr : r < 14
            · have hrI : (r : Int) < 14 := by omega
              have ks := two_step w wr pa da ea pb db eb k s s' (r : Int) 0 false none 0 0 [] none 0 0 [] none 0 0 [] tw (opIn_nil w) (by omega) (by omega) (by omega)
              clear tw
              go_wp2_with fail
              refine ks.mono ?_
              rintro en w5 ⟨rfl, s1, tw1, l1, l2, l3⟩
              have ks2 := two_step w w5 pb db eb pa da ea k s' s1 (r : Int) 0 false none 0 0 [] none 0 0 [] none 0 0 [] tw1.swap (opIn_nil w) (by omega) (by omega) (by omega)
              clear ks tw1
              go_wp2_with fail
              refine ks2.mono ?_
              rintro en w6 ⟨rfl, s2, tw2, l4, l5, l6⟩
              have TW2 := hid tw2.swap
              clear ks2 tw2
              go_wp2_with fail
              go_roundw
              case rel => exact ⟨r + 1, s1, s2, by omega, by omega, rfl, rfl, by go_num, TW2.out, ⟨by omega, by omega, by omega⟩, by omega, by omega, by omega⟩
              case measure => simp [intOf]; omega
            · have hrI : ¬ (r : Int) < 14 := by omega
              have HB := hid tw.bl
              clear tw
              go_wp2_with fail
              go_ret
              exact ⟨rfl, HB.out⟩
theorem diskPlays_ (n m : Int) (a : Option Addr) (q c : Nat) (O : Nat → Ov) (w : World) (hO : IsOps w a q O) (hq : q ≤ 140737488355328) :
    Calls Try.prog 3 #[.int .i64 n, .int .i64 m, .slice a q c] w fun en w' => en = .returned (.bool true) ∧ Below w.heap.size w w' := by
  by_cases h1 : m < 32
  · exact plays_m n m 32 a q c O w hO hq (.inr (.inl ⟨rfl, h1⟩))
  by_cases h2 : 64 < m
  · exact plays_m n m 32 a q c O w hO hq (.inr (.inr ⟨rfl, h2⟩))
  obtain ⟨m', rfl⟩ : ∃ m' : Nat, m = m' := ⟨m.toNat, by omega⟩
  exact plays_m n m' m' a q c O w hO hq (.inl ⟨rfl, by omega, by omega⟩)
end Go.Proofs.Ythjfgdldclhbhaa
