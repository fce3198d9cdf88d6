import Derived.Test.YtjaecokhocbdlaaRef
namespace Go.Proofs.Ytjaecokhocbdlaa
open Go.RowKit
set_option linter.unusedVariables false

theorem be1_mod (x : Int) : be 1 (x % 256) = be 1 x := by simp [be]
theorem be2_mod (x : Int) : be 2 (x % 65536) = be 2 x := by
  simp only [be]; rw [show x % 65536 / 256 ^ 1 % 256 = x / 256 ^ 1 % 256 from by omega, show x % 65536 / 256 ^ 0 % 256 = x / 256 ^ 0 % 256 from by omega]
theorem be4_mod (x : Int) : be 4 (x % 4294967296) = be 4 x := by
  simp only [be]
  rw [show x % 4294967296 / 256 ^ 3 % 256 = x / 256 ^ 3 % 256 from by omega, show x % 4294967296 / 256 ^ 2 % 256 = x / 256 ^ 2 % 256 from by omega, show x % 4294967296 / 256 ^ 1 % 256 = x / 256 ^ 1 % 256 from by omega, show x % 4294967296 / 256 ^ 0 % 256 = x / 256 ^ 0 % 256 from by omega]

theorem Bs.below {w w' : World} {a : Option Addr} {n : Nat} {zs : List Int} (h : Bs w a n zs) (hb : Below w.heap.size w w') : Bs w' a n zs := h.kept (grown_of_below hb) (Off.none _ _)
theorem put_bs {w : World} {g n W : Nat} {zs : List Int} {x : Int} (h : Row w g (zs ++ be W x)) (hz : zs.length = n) (hb : ∀ z ∈ zs, 0 ≤ z ∧ z ≤ 255) : Bs w (some ⟨g, 0, none⟩) (n + W) (zs ++ be W x) :=
  (h.bs (by intro z hz'; rcases List.mem_append.1 hz' with h | h; exact hb z h; exact be_byte W x z h)).len (by simp [be_length, hz])
theorem put_byte {W : Nat} {zs : List Int} {x : Int} (hb : ∀ z ∈ zs, 0 ≤ z ∧ z ≤ 255) : ∀ z ∈ zs ++ be W x, 0 ≤ z ∧ z ≤ 255 := by
  intro z hz'; rcases List.mem_append.1 hz' with h | h; exact hb z h; exact be_byte W x z h
/-- Two worlds with one memory. -/
structure Drawn (w w' : World) : Prop where
  os : w'.os = w.os
  tape : w'.tape = w.tape
  output : w'.output = w.output
  heap : w'.heap = w.heap
theorem Drawn.below {w w' : World} (h : Drawn w w') : Below w.heap.size w w' := ⟨h.os, h.tape, h.output, by rw [h.heap]; exact Nat.le_refl _, fun k _ => by rw [h.heap]⟩
theorem drawnN (w : World) (n : Nat) : Drawn w (w.drewN n) := ⟨rfl, rfl, rfl, rfl⟩
theorem bel_bel {B : Nat} {a b c : World} (h : Below B a b) (hB : B ≤ b.heap.size) (hg : Below b.heap.size b c) : Below B a c := bel_grow h hB (grown_of_below hg)

theorem same_d (a b : Option Addr) (n c m d : Nat) (xs ys : List Int) (w : World) (hx : Bs w a n xs) (hy : Bs w b m ys) (hn : n ≤ maxLen) (hm : m ≤ maxLen) :
    Calls Try.prog 11 #[.slice a n c, .slice b m d] w fun e w' => e = .returned (.bool (sameB xs ys)) ∧ Drawn w w' := by
  refine (same a b n c m d xs ys w hx hy hn hm).mono ?_
  rintro e w' ⟨rfl, nq, rfl⟩
  exact ⟨rfl, drawnN w nq⟩
theorem Bs.drawn {w w' : World} {a : Option Addr} {n : Nat} {zs : List Int} (h : Bs w a n zs) (hd : Drawn w w') : Bs w' a n zs := h.kept (grown_of_below hd.below) (Off.none _ _)
theorem Drawn.at {w w' : World} (h : Drawn w w') (k : Nat) : w'.heap[k]? = w.heap[k]? := by rw [h.heap]
theorem err_whole_d (r g : Nat) (zs : List Int) (p : Int) (w : World) (h : Rd w r g zs p) :
    Calls Try.prog 18 #[.pointer (some ⟨r, 0, none⟩)] w fun en w' => en = .returned (.tuple #[.int .i64 0, .int .i64 p]) ∧ Drawn w w' := by
  refine (err_whole r g zs p w h).mono ?_
  rintro e w' ⟨rfl, nq, rfl⟩
  exact ⟨rfl, drawnN w nq⟩
theorem err_broken_d (r : Nat) (p e : Int) (w : World) (h : Rb w r p e) :
    Calls Try.prog 18 #[.pointer (some ⟨r, 0, none⟩)] w fun en w' => en = .returned (.tuple #[.int .i64 e, .int .i64 p]) ∧ Drawn w w' := by
  refine (err_broken r p e w h).mono ?_
  rintro e w' ⟨rfl, nq, rfl⟩
  exact ⟨rfl, drawnN w nq⟩
theorem left_len (r g L : Nat) (zs : List Int) (p : Int) (w : World) (h : Rd w r g zs p) (hL : zs.length = L) :
    Calls Try.prog 20 #[.pointer (some ⟨r, 0, none⟩)] w fun en w' => en = .returned (.int .i64 L) ∧ w' = w := by
  subst hL; exact left_whole r g zs p w h
theorem Rd.drawn {w w' : World} {r g : Nat} {zs : List Int} {p : Int} (h : Rd w r g zs p) (hd : Drawn w w') : Rd w' r g zs p := h.kept (hd.at r) (fun _ => hd.at g)
theorem Rb.drawn {w w' : World} {r : Nat} {p e : Int} (h : Rb w r p e) (hd : Drawn w w') : Rb w' r p e := h.kept (hd.at r)
/-- SameBytes of two lists that are one. -/
theorem same_yes (a b : Option Addr) (n c m d : Nat) (xs : List Int) (w : World) (hx : Bs w a n xs) (hy : Bs w b m xs) (hn : n ≤ 2000000) (hm : m ≤ 2000000) :
    Calls Try.prog 11 #[.slice a n c, .slice b m d] w fun e w' => e = .returned (.bool true) ∧ Drawn w w' := by
  refine (same a b n c m d xs xs w hx hy (by unfold maxLen; omega) (by unfold maxLen; omega)).mono ?_
  rintro e w' ⟨rfl, nq, rfl⟩
  exact ⟨by rw [sameB_self], drawnN w nq⟩

set_option maxHeartbeats 2000000 in
theorem puts_ (a : Option Addr) (n c : Nat) (zs : List Int) (x : Int) (w : World) (hb : Bs w a n zs) (hn : n ≤ 1000000) (h0 : 0 ≤ x) (h1 : x ≤ 18446744073709551615) :
    Calls Try.prog 10 #[.slice a n c, .int .u64 x] w fun en w' => en = .returned (.bool true) ∧ Below w.heap.size w w' := by
  have hzl := hb.1
  have hzb := hb.2.1
  have m8 := hid (be1_mod x)
  have m16 := hid (be2_mod x)
  have m32 := hid (be4_mod x)
  have l8 : 0 ≤ x % 256 ∧ x % 256 ≤ 255 := by omega
  have l16 : 0 ≤ x % 65536 ∧ x % 65536 ≤ 65535 := by omega
  have l32 : 0 ≤ x % 4294967296 ∧ x % 4294967296 ≤ 4294967295 := by omega
  have HL := hid hzl
  have HB := hid hzb
  have L8 := hid l8
  have L16 := hid l16
  have L32 := hid l32
  clear hzl hzb l8 l16 l32
  go_enter Try.func10, Try.ntmps10
  go_wp2_with fail
  refine (put8 a n c zs (x % 256) w hb hn (L8.out.1) (L8.out.2)).mono ?_
  rintro en w1 ⟨rfl, hr, hg⟩
  rw [m8.out] at hr
  have p1 := put_bs hr HL.out HB.out
  replace hb := hb.kept hg (Off.none _ _)
  have B1 : Below w.heap.size w w1 := below_of_grown hg
  have S1 := B1.size
  clear hr hg
  go_wp2_with fail
  refine (put16 a n c zs (x % 65536) w1 hb hn (L16.out.1) (L16.out.2)).mono ?_
  rintro en w2 ⟨rfl, hr, hg⟩
  rw [m16.out] at hr
  have p2 := put_bs hr HL.out HB.out
  replace hb := hb.kept hg (Off.none _ _)
  replace p1 := p1.kept hg (Off.none _ _)
  have B2 := bel_grow B1 S1 hg
  have S2 := B2.size
  clear hr hg B1 S1
  go_wp2_with fail
  refine (put32 a n c zs (x % 4294967296) w2 hb hn (L32.out.1) (L32.out.2)).mono ?_
  rintro en w3 ⟨rfl, hr, hg⟩
  rw [m32.out] at hr
  have p3 := put_bs hr HL.out HB.out
  replace hb := hb.kept hg (Off.none _ _)
  replace p1 := p1.kept hg (Off.none _ _)
  replace p2 := p2.kept hg (Off.none _ _)
  have B3 := bel_grow B2 S2 hg
  have S3 := B3.size
  clear hr hg B2 S2
  go_wp2_with fail
  refine (put64 a n c zs (x) w3 hb hn (h0) (h1)).mono ?_
  rintro en w4 ⟨rfl, hr, hg⟩
  have p4 := put_bs hr HL.out HB.out
  replace hb := hb.kept hg (Off.none _ _)
  replace p1 := p1.kept hg (Off.none _ _)
  replace p2 := p2.kept hg (Off.none _ _)
  replace p3 := p3.kept hg (Off.none _ _)
  have B4 := bel_grow B3 S3 hg
  have S4 := B4.size
  clear hr hg B3 S3
  go_wp2_with fail
  refine (putWord a n c zs (x % 65536) w4 hb hn (L16.out.1) (L16.out.2)).mono ?_
  rintro en w5 ⟨rfl, hr, hg⟩
  rw [m16.out] at hr
  have p5 := put_bs hr HL.out HB.out
  replace hb := hb.kept hg (Off.none _ _)
  replace p1 := p1.kept hg (Off.none _ _)
  replace p2 := p2.kept hg (Off.none _ _)
  replace p3 := p3.kept hg (Off.none _ _)
  replace p4 := p4.kept hg (Off.none _ _)
  have B5 := bel_grow B4 S4 hg
  have S5 := B5.size
  clear hr hg B4 S4
  go_wp2_with fail
  refine (putLong a n c zs (x) w5 hb hn (h0) (h1)).mono ?_
  rintro en w6 ⟨rfl, hr, hg⟩
  have p6 := put_bs hr HL.out HB.out
  replace hb := hb.kept hg (Off.none _ _)
  replace p1 := p1.kept hg (Off.none _ _)
  replace p2 := p2.kept hg (Off.none _ _)
  replace p3 := p3.kept hg (Off.none _ _)
  replace p4 := p4.kept hg (Off.none _ _)
  replace p5 := p5.kept hg (Off.none _ _)
  have B6 := bel_grow B5 S5 hg
  have S6 := B6.size
  clear hr hg B5 S5
  go_wp2_with fail
  refine (refPut 1 a n c zs x w6 hb hn (by omega) h0 h1).mono ?_
  rintro en w7 ⟨v7, rfl, ho, hg⟩
  obtain ⟨a7, c7, rfl, q7, _, _, _⟩ := own_form ho (put_byte HB.out)
  replace hb := hb.below hg
  replace p1 := p1.below hg
  replace p2 := p2.below hg
  replace p3 := p3.below hg
  replace p4 := p4.below hg
  replace p5 := p5.below hg
  replace p6 := p6.below hg
  have B7 := bel_bel B6 S6 hg
  have S7 := B7.size
  clear ho hg B6 S6
  go_wp2_with fail
  refine (same_yes (some ⟨w.heap.size, 0, none⟩) a7 (n + 1) (n + 1) (n + 1) c7 (zs ++ be 1 x) w7 p1 q7 (by omega) (by omega)).mono ?_
  rintro en w8 ⟨rfl, hd⟩
  replace hb := hb.below hd.below
  replace p2 := p2.below hd.below
  replace p3 := p3.below hd.below
  replace p4 := p4.below hd.below
  replace p5 := p5.below hd.below
  replace p6 := p6.below hd.below
  have B8 := bel_bel B7 S7 hd.below
  have S8 := B8.size
  clear hd B7 S7 p1 q7
  go_wp2_with fail
  refine (refPut 2 a n c zs x w8 hb hn (by omega) h0 h1).mono ?_
  rintro en w9 ⟨v9, rfl, ho, hg⟩
  obtain ⟨a9, c9, rfl, q9, _, _, _⟩ := own_form ho (put_byte HB.out)
  replace hb := hb.below hg
  replace p2 := p2.below hg
  replace p3 := p3.below hg
  replace p4 := p4.below hg
  replace p5 := p5.below hg
  replace p6 := p6.below hg
  have B9 := bel_bel B8 S8 hg
  have S9 := B9.size
  clear ho hg B8 S8
  go_wp2_with fail
  refine (same_yes (some ⟨w1.heap.size, 0, none⟩) a9 (n + 2) (n + 2) (n + 2) c9 (zs ++ be 2 x) w9 p2 q9 (by omega) (by omega)).mono ?_
  rintro en w10 ⟨rfl, hd⟩
  replace hb := hb.below hd.below
  replace p2 := p2.below hd.below
  replace p3 := p3.below hd.below
  replace p4 := p4.below hd.below
  replace p5 := p5.below hd.below
  replace p6 := p6.below hd.below
  have B10 := bel_bel B9 S9 hd.below
  have S10 := B10.size
  clear hd B9 S9 q9
  go_wp2_with fail
  refine (same_yes (some ⟨w4.heap.size, 0, none⟩) (some ⟨w1.heap.size, 0, none⟩) (n + 2) (n + 2) (n + 2) (n + 2) (zs ++ be 2 x) w10 p5 p2 (by omega) (by omega)).mono ?_
  rintro en w11 ⟨rfl, hd⟩
  replace hb := hb.below hd.below
  replace p3 := p3.below hd.below
  replace p4 := p4.below hd.below
  replace p6 := p6.below hd.below
  have B11 := bel_bel B10 S10 hd.below
  have S11 := B11.size
  clear hd B10 S10 p5 p2
  go_wp2_with fail
  refine (refPut 4 a n c zs x w11 hb hn (by omega) h0 h1).mono ?_
  rintro en w12 ⟨v12, rfl, ho, hg⟩
  obtain ⟨a12, c12, rfl, q12, _, _, _⟩ := own_form ho (put_byte HB.out)
  replace hb := hb.below hg
  replace p3 := p3.below hg
  replace p4 := p4.below hg
  replace p6 := p6.below hg
  have B12 := bel_bel B11 S11 hg
  have S12 := B12.size
  clear ho hg B11 S11
  go_wp2_with fail
  refine (same_yes (some ⟨w2.heap.size, 0, none⟩) a12 (n + 4) (n + 4) (n + 4) c12 (zs ++ be 4 x) w12 p3 q12 (by omega) (by omega)).mono ?_
  rintro en w13 ⟨rfl, hd⟩
  replace hb := hb.below hd.below
  replace p4 := p4.below hd.below
  replace p6 := p6.below hd.below
  have B13 := bel_bel B12 S12 hd.below
  have S13 := B13.size
  clear hd B12 S12 p3 q12
  go_wp2_with fail
  refine (refPut 8 a n c zs x w13 hb hn (by omega) h0 h1).mono ?_
  rintro en w14 ⟨v14, rfl, ho, hg⟩
  obtain ⟨a14, c14, rfl, q14, _, _, _⟩ := own_form ho (put_byte HB.out)
  replace hb := hb.below hg
  replace p4 := p4.below hg
  replace p6 := p6.below hg
  have B14 := bel_bel B13 S13 hg
  have S14 := B14.size
  clear ho hg B13 S13
  go_wp2_with fail
  refine (same_yes (some ⟨w3.heap.size, 0, none⟩) a14 (n + 8) (n + 8) (n + 8) c14 (zs ++ be 8 x) w14 p4 q14 (by omega) (by omega)).mono ?_
  rintro en w15 ⟨rfl, hd⟩
  replace hb := hb.below hd.below
  replace p4 := p4.below hd.below
  replace p6 := p6.below hd.below
  have B15 := bel_bel B14 S14 hd.below
  have S15 := B15.size
  clear hd B14 S14 q14
  go_wp2_with fail
  refine (same_yes (some ⟨w5.heap.size, 0, none⟩) (some ⟨w3.heap.size, 0, none⟩) (n + 8) (n + 8) (n + 8) (n + 8) (zs ++ be 8 x) w15 p6 p4 (by omega) (by omega)).mono ?_
  rintro en w16 ⟨rfl, hd⟩
  replace hb := hb.below hd.below
  have B16 := bel_bel B15 S15 hd.below
  have S16 := B16.size
  clear hd B15 S15 p6 p4
  go_wp2_with fail
  go_ret
  exact ⟨rfl, B16⟩
end Go.Proofs.Ytjaecokhocbdlaa
