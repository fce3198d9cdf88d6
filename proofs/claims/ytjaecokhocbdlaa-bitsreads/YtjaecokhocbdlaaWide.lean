import Derived.Test.YtjaecokhocbdlaaPuts
namespace Go.Proofs.Ytjaecokhocbdlaa
open Go.RowKit
set_option linter.unusedVariables false

/-- The width that a number stands for. -/
def wd (n : Int) : Nat := 2 ^ ((n.tmod 4 + 4) % 4).toNat
def IsW (W : Nat) : Prop := W = 1 ∨ W = 2 ∨ W = 4 ∨ W = 8
theorem tmod4 (s : Int) : -3 ≤ s.tmod 4 ∧ s.tmod 4 ≤ 3 := by
  have h1 := Int.lt_tmod_of_pos s (show (0 : Int) < 4 by omega)
  have h2 := Int.tmod_lt_of_pos s (show (0 : Int) < 4 by omega)
  omega
theorem four (n : Int) : (n.tmod 4 + 4) % 4 = 0 ∨ (n.tmod 4 + 4) % 4 = 1 ∨ (n.tmod 4 + 4) % 4 = 2 ∨ (n.tmod 4 + 4) % 4 = 3 := by omega
theorem wd_is (n : Int) : IsW (wd n) := by
  unfold wd
  rcases four n with h | h | h | h <;> rw [h]
  · exact .inl rfl
  · exact .inr (.inl rfl)
  · exact .inr (.inr (.inl rfl))
  · exact .inr (.inr (.inr rfl))

set_option maxHeartbeats 400000 in
theorem wide_ (n : Int) (w : World) : Calls Try.prog 16 #[.int .i64 n] w fun en w' => en = .returned (.int .i64 (wd n)) ∧ w' = w := by
  obtain ⟨t1, t2⟩ := tmod4 n
  have he : wd n = 2 ^ ((n.tmod 4 + 4) % 4).toNat := rfl
  generalize wd n = W at *
  rcases four n with h | h | h | h
  all_goals
    rw [h] at he
    have HE := hid he
    clear he
    go_enter Try.func16, Try.ntmps16
    go_wp2
    go_ret
    exact ⟨by rw [HE.out]; rfl, rfl⟩

set_option maxHeartbeats 400000 in
theorem lget8_broken (r : Nat) (p e : Int) (w : World) (h : Rb w r p e) :
    Calls Try.prog 17 #[.pointer (some ⟨r, 0, none⟩), .int .i64 1] w fun en w' => en = .returned (.int .u64 0) ∧ w' = w := by
  go_enter Try.func17, Try.ntmps17
  go_wp2_with fail
  refine (get8_broken r p e w h).mono ?_
  rintro en w' ⟨rfl, hw⟩
  obtain rfl := hw.symm
  go_wp2_with fail
  go_ret
  exact ⟨rfl, rfl⟩

set_option maxHeartbeats 400000 in
theorem lget8_short (r g : Nat) (zs : List Int) (p : Int) (w : World) (h : Rd w r g zs p) (hm : zs.length < 1) :
    Calls Try.prog 17 #[.pointer (some ⟨r, 0, none⟩), .int .i64 1] w fun en w' => en = .returned (.int .u64 0) ∧ Rb w' r p 10 ∧ Only r w w' := by
  go_enter Try.func17, Try.ntmps17
  go_wp2_with fail
  refine (get8_short r g zs p w h hm).mono ?_
  rintro en w1 ⟨rfl, h1, h2⟩
  go_wp2_with fail
  go_ret
  exact ⟨rfl, h1, h2⟩

set_option maxHeartbeats 400000 in
theorem lget8_whole (r g : Nat) (zs : List Int) (p : Int) (w : World) (h : Rd w r g zs p) (hm : 1 ≤ zs.length) (hn : zs.length ≤ 1000000000) (hp : 0 ≤ p) (hp1 : p ≤ 1000000000) :
    Calls Try.prog 17 #[.pointer (some ⟨r, 0, none⟩), .int .i64 1] w fun en w' => en = .returned (.int .u64 (val (zs.take 1))) ∧ Rd w' r g (zs.drop 1) (p + 1) ∧ Only r w w' := by
  have hval := valLt8 (zs := zs) hm (by obtain ⟨_, a, n, c, _, hl⟩ := h; exact fun z hz => hl.2.2.2.1 z (List.mem_of_mem_take hz))
  obtain ⟨v0, v1⟩ := hval
  go_enter Try.func17, Try.ntmps17
  go_wp2_with fail
  refine (get8_whole r g zs p w h hm hn hp hp1).mono ?_
  rintro en w1 ⟨rfl, h1, h2⟩
  generalize hgv : val (zs.take 1) = v at *
  have HV := hid hgv
  have H1 := hid h1
  clear hgv h1
  go_wp2_with fail
  go_ret
  exact ⟨congrArg (fun q => Ending.returned (.int .u64 q)) HV.out.symm, (by first | exact H1.out | simpa using H1.out), h2⟩

set_option maxHeartbeats 400000 in
theorem lget16_broken (r : Nat) (p e : Int) (w : World) (h : Rb w r p e) :
    Calls Try.prog 17 #[.pointer (some ⟨r, 0, none⟩), .int .i64 2] w fun en w' => en = .returned (.int .u64 0) ∧ w' = w := by
  go_enter Try.func17, Try.ntmps17
  go_wp2_with fail
  refine (get16_broken r p e w h).mono ?_
  rintro en w' ⟨rfl, hw⟩
  obtain rfl := hw.symm
  go_wp2_with fail
  go_ret
  exact ⟨rfl, rfl⟩

set_option maxHeartbeats 400000 in
theorem lget16_short (r g : Nat) (zs : List Int) (p : Int) (w : World) (h : Rd w r g zs p) (hm : zs.length < 2) :
    Calls Try.prog 17 #[.pointer (some ⟨r, 0, none⟩), .int .i64 2] w fun en w' => en = .returned (.int .u64 0) ∧ Rb w' r p 10 ∧ Only r w w' := by
  go_enter Try.func17, Try.ntmps17
  go_wp2_with fail
  refine (get16_short r g zs p w h hm).mono ?_
  rintro en w1 ⟨rfl, h1, h2⟩
  go_wp2_with fail
  go_ret
  exact ⟨rfl, h1, h2⟩

set_option maxHeartbeats 400000 in
theorem lget16_whole (r g : Nat) (zs : List Int) (p : Int) (w : World) (h : Rd w r g zs p) (hm : 2 ≤ zs.length) (hn : zs.length ≤ 1000000000) (hp : 0 ≤ p) (hp1 : p ≤ 1000000000) :
    Calls Try.prog 17 #[.pointer (some ⟨r, 0, none⟩), .int .i64 2] w fun en w' => en = .returned (.int .u64 (val (zs.take 2))) ∧ Rd w' r g (zs.drop 2) (p + 2) ∧ Only r w w' := by
  have hval := valLt16 (zs := zs) hm (by obtain ⟨_, a, n, c, _, hl⟩ := h; exact fun z hz => hl.2.2.2.1 z (List.mem_of_mem_take hz))
  obtain ⟨v0, v1⟩ := hval
  go_enter Try.func17, Try.ntmps17
  go_wp2_with fail
  refine (get16_whole r g zs p w h hm hn hp hp1).mono ?_
  rintro en w1 ⟨rfl, h1, h2⟩
  generalize hgv : val (zs.take 2) = v at *
  have HV := hid hgv
  have H1 := hid h1
  clear hgv h1
  go_wp2_with fail
  go_ret
  exact ⟨congrArg (fun q => Ending.returned (.int .u64 q)) HV.out.symm, (by first | exact H1.out | simpa using H1.out), h2⟩

set_option maxHeartbeats 400000 in
theorem lget32_broken (r : Nat) (p e : Int) (w : World) (h : Rb w r p e) :
    Calls Try.prog 17 #[.pointer (some ⟨r, 0, none⟩), .int .i64 4] w fun en w' => en = .returned (.int .u64 0) ∧ w' = w := by
  go_enter Try.func17, Try.ntmps17
  go_wp2_with fail
  refine (get32_broken r p e w h).mono ?_
  rintro en w' ⟨rfl, hw⟩
  obtain rfl := hw.symm
  go_wp2_with fail
  go_ret
  exact ⟨rfl, rfl⟩

set_option maxHeartbeats 400000 in
theorem lget32_short (r g : Nat) (zs : List Int) (p : Int) (w : World) (h : Rd w r g zs p) (hm : zs.length < 4) :
    Calls Try.prog 17 #[.pointer (some ⟨r, 0, none⟩), .int .i64 4] w fun en w' => en = .returned (.int .u64 0) ∧ Rb w' r p 10 ∧ Only r w w' := by
  go_enter Try.func17, Try.ntmps17
  go_wp2_with fail
  refine (get32_short r g zs p w h hm).mono ?_
  rintro en w1 ⟨rfl, h1, h2⟩
  go_wp2_with fail
  go_ret
  exact ⟨rfl, h1, h2⟩

set_option maxHeartbeats 400000 in
theorem lget32_whole (r g : Nat) (zs : List Int) (p : Int) (w : World) (h : Rd w r g zs p) (hm : 4 ≤ zs.length) (hn : zs.length ≤ 1000000000) (hp : 0 ≤ p) (hp1 : p ≤ 1000000000) :
    Calls Try.prog 17 #[.pointer (some ⟨r, 0, none⟩), .int .i64 4] w fun en w' => en = .returned (.int .u64 (val (zs.take 4))) ∧ Rd w' r g (zs.drop 4) (p + 4) ∧ Only r w w' := by
  have hval := valLt32 (zs := zs) hm (by obtain ⟨_, a, n, c, _, hl⟩ := h; exact fun z hz => hl.2.2.2.1 z (List.mem_of_mem_take hz))
  obtain ⟨v0, v1⟩ := hval
  go_enter Try.func17, Try.ntmps17
  go_wp2_with fail
  refine (get32_whole r g zs p w h hm hn hp hp1).mono ?_
  rintro en w1 ⟨rfl, h1, h2⟩
  generalize hgv : val (zs.take 4) = v at *
  have HV := hid hgv
  have H1 := hid h1
  clear hgv h1
  go_wp2_with fail
  go_ret
  exact ⟨congrArg (fun q => Ending.returned (.int .u64 q)) HV.out.symm, (by first | exact H1.out | simpa using H1.out), h2⟩

set_option maxHeartbeats 400000 in
theorem lget64_broken (r : Nat) (p e : Int) (w : World) (h : Rb w r p e) :
    Calls Try.prog 17 #[.pointer (some ⟨r, 0, none⟩), .int .i64 8] w fun en w' => en = .returned (.int .u64 0) ∧ w' = w := by
  go_enter Try.func17, Try.ntmps17
  go_wp2_with fail
  refine (get64_broken r p e w h).mono ?_
  rintro en w' ⟨rfl, hw⟩
  obtain rfl := hw.symm
  go_wp2_with fail
  go_ret
  exact ⟨rfl, rfl⟩

set_option maxHeartbeats 400000 in
theorem lget64_short (r g : Nat) (zs : List Int) (p : Int) (w : World) (h : Rd w r g zs p) (hm : zs.length < 8) :
    Calls Try.prog 17 #[.pointer (some ⟨r, 0, none⟩), .int .i64 8] w fun en w' => en = .returned (.int .u64 0) ∧ Rb w' r p 10 ∧ Only r w w' := by
  go_enter Try.func17, Try.ntmps17
  go_wp2_with fail
  refine (get64_short r g zs p w h hm).mono ?_
  rintro en w1 ⟨rfl, h1, h2⟩
  go_wp2_with fail
  go_ret
  exact ⟨rfl, h1, h2⟩

set_option maxHeartbeats 400000 in
theorem lget64_whole (r g : Nat) (zs : List Int) (p : Int) (w : World) (h : Rd w r g zs p) (hm : 8 ≤ zs.length) (hn : zs.length ≤ 1000000000) (hp : 0 ≤ p) (hp1 : p ≤ 1000000000) :
    Calls Try.prog 17 #[.pointer (some ⟨r, 0, none⟩), .int .i64 8] w fun en w' => en = .returned (.int .u64 (val (zs.take 8))) ∧ Rd w' r g (zs.drop 8) (p + 8) ∧ Only r w w' := by
  have hval := valLt64 (zs := zs) hm (by obtain ⟨_, a, n, c, _, hl⟩ := h; exact fun z hz => hl.2.2.2.1 z (List.mem_of_mem_take hz))
  obtain ⟨v0, v1⟩ := hval
  go_enter Try.func17, Try.ntmps17
  go_wp2_with fail
  refine (get64_whole r g zs p w h hm hn hp hp1).mono ?_
  rintro en w1 ⟨rfl, h1, h2⟩
  generalize hgv : val (zs.take 8) = v at *
  have HV := hid hgv
  have H1 := hid h1
  clear hgv h1
  go_wp2_with fail
  go_ret
  exact ⟨congrArg (fun q => Ending.returned (.int .u64 q)) HV.out.symm, (by first | exact H1.out | simpa using H1.out), h2⟩

theorem lget_broken (W r : Nat) (hW : IsW W) (p e : Int) (w : World) (h : Rb w r p e) :
    Calls Try.prog 17 #[.pointer (some ⟨r, 0, none⟩), .int .i64 W] w fun en w' => en = .returned (.int .u64 0) ∧ w' = w := by
  rcases hW with rfl | rfl | rfl | rfl
  · exact lget8_broken r p e w h
  · exact lget16_broken r p e w h
  · exact lget32_broken r p e w h
  · exact lget64_broken r p e w h
theorem lget_short (W r g : Nat) (hW : IsW W) (zs : List Int) (p : Int) (w : World) (h : Rd w r g zs p) (hm : zs.length < W) :
    Calls Try.prog 17 #[.pointer (some ⟨r, 0, none⟩), .int .i64 W] w fun en w' => en = .returned (.int .u64 0) ∧ Rb w' r p 10 ∧ Only r w w' := by
  rcases hW with rfl | rfl | rfl | rfl
  · exact lget8_short r g zs p w h hm
  · exact lget16_short r g zs p w h hm
  · exact lget32_short r g zs p w h hm
  · exact lget64_short r g zs p w h hm
theorem lget_whole (W r g : Nat) (hW : IsW W) (zs : List Int) (p : Int) (w : World) (h : Rd w r g zs p) (hm : W ≤ zs.length) (hn : zs.length ≤ 1000000000) (hp : 0 ≤ p) (hp1 : p ≤ 1000000000) :
    Calls Try.prog 17 #[.pointer (some ⟨r, 0, none⟩), .int .i64 W] w fun en w' => en = .returned (.int .u64 (val (zs.take W))) ∧ Rd w' r g (zs.drop W) (p + W) ∧ Only r w w' := by
  rcases hW with rfl | rfl | rfl | rfl
  · exact lget8_whole r g zs p w h hm hn hp hp1
  · exact lget16_whole r g zs p w h hm hn hp hp1
  · exact lget32_whole r g zs p w h hm hn hp hp1
  · exact lget64_whole r g zs p w h hm hn hp hp1

set_option maxHeartbeats 400000 in
theorem lput8 (a : Option Addr) (n c : Nat) (zs : List Int) (x : Int) (w : World) (hb : Bs w a n zs) (hn : n ≤ 1000000) (h0 : 0 ≤ x) (h1 : x ≤ 18446744073709551615) :
    Calls Try.prog 15 #[.slice a n c, .int .u64 x, .int .i64 1] w fun e w' => e = .returned (.slice (some ⟨w.heap.size, 0, none⟩) (n + 1) (n + 1)) ∧ Row w' w.heap.size (zs ++ be 1 x) ∧ w.grownBy w' none := by
  have L : Hid (0 ≤ x % 256 ∧ x % 256 ≤ 256 - 1) := by show _ ∧ _; omega
  have M := hid (be1_mod x)
  go_enter Try.func15, Try.ntmps15
  go_wp2_with fail
  refine (put8 a n c zs (x % 256) w hb hn L.out.1 L.out.2).mono ?_
  rintro en w1 ⟨rfl, hr, hg⟩
  rw [M.out] at hr
  go_wp2_with fail
  go_ret
  exact ⟨rfl, hr, hg⟩

set_option maxHeartbeats 400000 in
theorem lput16 (a : Option Addr) (n c : Nat) (zs : List Int) (x : Int) (w : World) (hb : Bs w a n zs) (hn : n ≤ 1000000) (h0 : 0 ≤ x) (h1 : x ≤ 18446744073709551615) :
    Calls Try.prog 15 #[.slice a n c, .int .u64 x, .int .i64 2] w fun e w' => e = .returned (.slice (some ⟨w.heap.size, 0, none⟩) (n + 2) (n + 2)) ∧ Row w' w.heap.size (zs ++ be 2 x) ∧ w.grownBy w' none := by
  have L : Hid (0 ≤ x % 65536 ∧ x % 65536 ≤ 65536 - 1) := by show _ ∧ _; omega
  have M := hid (be2_mod x)
  go_enter Try.func15, Try.ntmps15
  go_wp2_with fail
  refine (put16 a n c zs (x % 65536) w hb hn L.out.1 L.out.2).mono ?_
  rintro en w1 ⟨rfl, hr, hg⟩
  rw [M.out] at hr
  go_wp2_with fail
  go_ret
  exact ⟨rfl, hr, hg⟩

set_option maxHeartbeats 400000 in
theorem lput32 (a : Option Addr) (n c : Nat) (zs : List Int) (x : Int) (w : World) (hb : Bs w a n zs) (hn : n ≤ 1000000) (h0 : 0 ≤ x) (h1 : x ≤ 18446744073709551615) :
    Calls Try.prog 15 #[.slice a n c, .int .u64 x, .int .i64 4] w fun e w' => e = .returned (.slice (some ⟨w.heap.size, 0, none⟩) (n + 4) (n + 4)) ∧ Row w' w.heap.size (zs ++ be 4 x) ∧ w.grownBy w' none := by
  have L : Hid (0 ≤ x % 4294967296 ∧ x % 4294967296 ≤ 4294967296 - 1) := by show _ ∧ _; omega
  have M := hid (be4_mod x)
  go_enter Try.func15, Try.ntmps15
  go_wp2_with fail
  refine (put32 a n c zs (x % 4294967296) w hb hn L.out.1 L.out.2).mono ?_
  rintro en w1 ⟨rfl, hr, hg⟩
  rw [M.out] at hr
  go_wp2_with fail
  go_ret
  exact ⟨rfl, hr, hg⟩

set_option maxHeartbeats 400000 in
theorem lput64 (a : Option Addr) (n c : Nat) (zs : List Int) (x : Int) (w : World) (hb : Bs w a n zs) (hn : n ≤ 1000000) (h0 : 0 ≤ x) (h1 : x ≤ 18446744073709551615) :
    Calls Try.prog 15 #[.slice a n c, .int .u64 x, .int .i64 8] w fun e w' => e = .returned (.slice (some ⟨w.heap.size, 0, none⟩) (n + 8) (n + 8)) ∧ Row w' w.heap.size (zs ++ be 8 x) ∧ w.grownBy w' none := by
  go_enter Try.func15, Try.ntmps15
  go_wp2_with fail
  refine (put64 a n c zs x w hb hn h0 h1).mono ?_
  rintro en w1 ⟨rfl, hr, hg⟩
  go_wp2_with fail
  go_ret
  exact ⟨rfl, hr, hg⟩
theorem lput (W : Nat) (hW : IsW W) (a : Option Addr) (n c : Nat) (zs : List Int) (x : Int) (w : World) (hb : Bs w a n zs) (hn : n ≤ 1000000) (h0 : 0 ≤ x) (h1 : x ≤ 18446744073709551615) :
    Calls Try.prog 15 #[.slice a n c, .int .u64 x, .int .i64 W] w fun e w' => e = .returned (.slice (some ⟨w.heap.size, 0, none⟩) (n + W) (n + W)) ∧ Row w' w.heap.size (zs ++ be W x) ∧ w.grownBy w' none := by
  rcases hW with rfl | rfl | rfl | rfl
  · exact lput8 a n c zs x w hb hn h0 h1
  · exact lput16 a n c zs x w hb hn h0 h1
  · exact lput32 a n c zs x w hb hn h0 h1
  · exact lput64 a n c zs x w hb hn h0 h1
end Go.Proofs.Ytjaecokhocbdlaa
