import Derived.Test.YtblcpdffiafgnaaGreatDoorXK
namespace Go.Proofs.YtblcpdffiafgnaaGreatDoor
set_option linter.unusedSimpArgs false
set_option maxRecDepth 100000
open Go.RowKit Go.Shelf
set_option linter.unusedVariables false

theorem results_u2 {fn : Func} {p r : Tmp} (h : fn.results = #[.cell p 88, .tmp r]) (tmps : Array Value) (w : World) (g : Nat) (e q l m : Int) (x : Value)
    (hp : tmps.getD p undef = .pointer (some ⟨g, 0, none⟩)) (hr : tmps.getD r undef = x) (hg : Um w g e q l m) :
    (results fn tmps).run Tryz.prog w = .ok (.tuple #[.agg #[.int .i64 e, .int .i64 q, .int .i64 l, .int .u32 m], x]) w := by
  have hl := run_loadVar_row (P := Tryz.prog) w g 88 88 #[.int .i64 e, .int .i64 q, .int .i64 l, .int .u32 m] (0, 0) _ hg Tryz.underlying88 rfl sizeU
  have hp' : tmps[p]?.getD undef = .pointer (some ⟨g, 0, none⟩) := by simpa using hp
  have hr' : tmps[r]?.getD undef = x := by simpa using hr
  simp [results, h, hp', hr', asAddr, hl]
/-- The answer of a superblock that does not count. -/
def noSup (w w' : World) (en : Ending) : Prop := ∃ e q l m : Int, en = .returned (.tuple #[.agg #[.int .i64 e, .int .i64 q, .int .i64 l, .int .u32 m], .bool false]) ∧ Below w.heap.size w w'
section
variable {w : World} {d : Nat} {s : St} {Q : Nat → Prop} {a : Option Addr} {n c : Nat} {zs : List Int}
set_option maxHeartbeats 4000000 in
theorem gsup_0 (i : Nat) (hT : Tab w) (hb : Bs w a n zs) (hc : n ≤ c) (hm : c ≤ maxLen) (hs : gs zs = none) :
    Calls Tryz.prog 102 #[.pointer (some ⟨d, 0, none⟩), .int .i64 i, .slice a n c] w fun en w' => noSup w w' en := by
  have B0 := unew w 0 0 0 0
  have m0 := Um.new w 0 0 0 0
  have kg := get_n a n c zs _ (hT.bel B0) (hb.below B0) hc hm hs
  have HB0 := hid B0
  have HM0 := hid m0
  clear B0 m0 hb hs
  go_enter Tryz.func102, Tryz.ntmps102
  go_wp2_with fail
  refine kg.mono ?_
  rintro x1 w1 ⟨rfl, g1⟩
  have m1 := HM0.out.below g1
  have B1 := bel_bel HB0.out HB0.out.size g1
  have B2 := B1.alloc B1.size (.cells #[.string ⟨#[]⟩, .int .i64 0, .int .i64 0, .int .i64 0, .slice none 0 0] 31)
  have m2 := m1.at (Below.heap_alloc w1 (.cells #[.string ⟨#[]⟩, .int .i64 0, .int .i64 0, .int .i64 0, .slice none 0 0] 31) _ m1.lt)
  have s1 := Sm.new w1 ⟨#[]⟩ 0 0 0 (.slice none 0 0)
  have d0 := s1.c0
  have d1 := s1.c1
  have d3 := s1.c3
  have HM := hid m2
  have HB := hid B2
  clear kg g1 m1 B1 B2 m2 s1 HM0 HB0
  go_wp2_with (with_reducible show wpList _ _ _ (_ :: _) _ _; refine wpList_su rfl rfl _ _ rfl w.heap.size 0 0 0 0 rfl rfl 0 0 0 0 (by with_reducible exact HM.out) ?_)
  refine bodyPost_ret (results_u2 rfl _ _ w.heap.size 0 0 0 0 (.bool false) rfl rfl (HM.out.row 0 0 0 0)) rfl ⟨0, 0, 0, 0, rfl, bel_row HB.out (Nat.le_refl _) _⟩
set_option maxHeartbeats 4000000 in
theorem gsup_1 (i : Nat) (hT : Tab w) (hb : Bs w a n zs) (hc : n ≤ c) (hm : c ≤ maxLen) (T : ByteArray) (e : Nat) (q p : Int) (l : List Int) (hs : gs zs = some ⟨T, e, q, p, l⟩) (hx : T ≠ t1) :
    Calls Tryz.prog 102 #[.pointer (some ⟨d, 0, none⟩), .int .i64 i, .slice a n c] w fun en w' => noSup w w' en := by
  have B0 := unew w 0 0 0 0
  have m0 := Um.new w 0 0 0 0
  have kg := get_y a n c zs _ (hT.bel B0) (hb.below B0) hc hm ⟨T, e, q, p, l⟩ hs
  obtain ⟨m, Hm⟩ : ∃ m, Hid (l.length = m) := ⟨_, rfl⟩
  simp only [Hm.out] at kg
  have HB0 := hid B0
  have HM0 := hid m0
  have z0 : (T.toList == [67, 86, 83, 49]) = false := tl_no (t := t1) rfl hx
  have z1 : (T.toList != [67, 86, 83, 49]) = true := by rw [bne, z0]; rfl
  clear B0 m0 hb hs
  go_enter Tryz.func102, Tryz.ntmps102
  go_wp2_with fail
  refine kg.mono ?_
  rintro x1 w1 ⟨g5, rfl, hg5, r1, g1⟩
  simp only
  have m1 := HM0.out.below g1
  have B1 := bel_bel HB0.out HB0.out.size g1
  have B2 := B1.alloc B1.size (.cells #[.string T, .int .i64 e, .int .i64 q, .int .i64 p, .slice (some ⟨g5, 0, none⟩) m m] 31)
  have m2 := m1.at (Below.heap_alloc w1 (.cells #[.string T, .int .i64 e, .int .i64 q, .int .i64 p, .slice (some ⟨g5, 0, none⟩) m m] 31) _ m1.lt)
  have s1 := Sm.new w1 T e q p (.slice (some ⟨g5, 0, none⟩) m m)
  have d0 := s1.c0
  have d1 := s1.c1
  have d3 := s1.c3
  have HM := hid m2
  have HB := hid B2
  clear kg g1 m1 B1 B2 m2 s1 HM0 HB0 r1
  go_wp2_with (with_reducible show wpList _ _ _ (_ :: _) _ _; refine wpList_su rfl rfl _ _ rfl w.heap.size 0 0 0 0 rfl rfl 0 0 0 0 (by with_reducible exact HM.out) ?_)
  refine bodyPost_ret (results_u2 rfl _ _ w.heap.size 0 0 0 0 (.bool false) rfl rfl (HM.out.row 0 0 0 0)) rfl ⟨0, 0, 0, 0, rfl, bel_row HB.out (Nat.le_refl _) _⟩
set_option maxHeartbeats 4000000 in
theorem gsup_2 (i : Nat) (hT : Tab w) (hb : Bs w a n zs) (hc : n ≤ c) (hm : c ≤ maxLen) (e : Nat) (q p : Int) (l : List Int) (hs : gs zs = some ⟨t1, e, q, p, l⟩) (hx : e % 2 ≠ i) :
    Calls Tryz.prog 102 #[.pointer (some ⟨d, 0, none⟩), .int .i64 i, .slice a n c] w fun en w' => noSup w w' en := by
  have B0 := unew w 0 0 0 0
  have m0 := Um.new w 0 0 0 0
  have kg := get_y a n c zs _ (hT.bel B0) (hb.below B0) hc hm ⟨t1, e, q, p, l⟩ hs
  obtain ⟨m, Hm⟩ : ∃ m, Hid (l.length = m) := ⟨_, rfl⟩
  simp only [Hm.out] at kg
  have HB0 := hid B0
  have HM0 := hid m0
  have z0 : ((t1).toList == [67, 86, 83, 49]) = true := tl_yes rfl
  have z1 : ((t1).toList != [67, 86, 83, 49]) = false := by rw [bne, z0]; rfl
  obtain ⟨r2, Hr2⟩ : ∃ r2 : Nat, Hid (e % 2 = r2) := ⟨_, rfl⟩
  have z2 : (e : Int) % 2 = (r2 : Int) := by have := Hr2.out; omega
  have z3 : ((r2 : Int) != (i : Int)) = true := by rw [bne_iff_ne]; have := Hr2.out; omega
  clear B0 m0 hb hs
  go_enter Tryz.func102, Tryz.ntmps102
  go_wp2_with fail
  refine kg.mono ?_
  rintro x1 w1 ⟨g5, rfl, hg5, r1, g1⟩
  simp only
  have m1 := HM0.out.below g1
  have B1 := bel_bel HB0.out HB0.out.size g1
  have B2 := B1.alloc B1.size (.cells #[.string t1, .int .i64 e, .int .i64 q, .int .i64 p, .slice (some ⟨g5, 0, none⟩) m m] 31)
  have m2 := m1.at (Below.heap_alloc w1 (.cells #[.string t1, .int .i64 e, .int .i64 q, .int .i64 p, .slice (some ⟨g5, 0, none⟩) m m] 31) _ m1.lt)
  have s1 := Sm.new w1 t1 e q p (.slice (some ⟨g5, 0, none⟩) m m)
  have d0 := s1.c0
  have d1 := s1.c1
  have d3 := s1.c3
  have HM := hid m2
  have HB := hid B2
  clear kg g1 m1 B1 B2 m2 s1 HM0 HB0 r1
  go_wp2_with (with_reducible show wpList _ _ _ (_ :: _) _ _; refine wpList_su rfl rfl _ _ rfl w.heap.size 0 0 0 0 rfl rfl 0 0 0 0 (by with_reducible exact HM.out) ?_)
  refine bodyPost_ret (results_u2 rfl _ _ w.heap.size 0 0 0 0 (.bool false) rfl rfl (HM.out.row 0 0 0 0)) rfl ⟨0, 0, 0, 0, rfl, bel_row HB.out (Nat.le_refl _) _⟩
set_option maxHeartbeats 4000000 in
theorem gsup_3 (i : Nat) (hT : Tab w) (hb : Bs w a n zs) (hc : n ≤ c) (hm : c ≤ maxLen) (e : Nat) (q p : Int) (l : List Int) (hs : gs zs = some ⟨t1, e, q, p, l⟩) (hx0 : e % 2 = i) (hx : p ≠ i) :
    Calls Tryz.prog 102 #[.pointer (some ⟨d, 0, none⟩), .int .i64 i, .slice a n c] w fun en w' => noSup w w' en := by
  have B0 := unew w 0 0 0 0
  have m0 := Um.new w 0 0 0 0
  have kg := get_y a n c zs _ (hT.bel B0) (hb.below B0) hc hm ⟨t1, e, q, p, l⟩ hs
  obtain ⟨m, Hm⟩ : ∃ m, Hid (l.length = m) := ⟨_, rfl⟩
  simp only [Hm.out] at kg
  have HB0 := hid B0
  have HM0 := hid m0
  have z0 : ((t1).toList == [67, 86, 83, 49]) = true := tl_yes rfl
  have z1 : ((t1).toList != [67, 86, 83, 49]) = false := by rw [bne, z0]; rfl
  have z2 : (e : Int) % 2 = (i : Int) := by omega
  have z3 : ((i : Int) != (i : Int)) = false := by simp
  have z4 : (p != (i : Int)) = true := by rw [bne_iff_ne]; exact hx
  clear hx0
  clear B0 m0 hb hs
  go_enter Tryz.func102, Tryz.ntmps102
  go_wp2_with fail
  refine kg.mono ?_
  rintro x1 w1 ⟨g5, rfl, hg5, r1, g1⟩
  simp only
  have m1 := HM0.out.below g1
  have B1 := bel_bel HB0.out HB0.out.size g1
  have B2 := B1.alloc B1.size (.cells #[.string t1, .int .i64 e, .int .i64 q, .int .i64 p, .slice (some ⟨g5, 0, none⟩) m m] 31)
  have m2 := m1.at (Below.heap_alloc w1 (.cells #[.string t1, .int .i64 e, .int .i64 q, .int .i64 p, .slice (some ⟨g5, 0, none⟩) m m] 31) _ m1.lt)
  have s1 := Sm.new w1 t1 e q p (.slice (some ⟨g5, 0, none⟩) m m)
  have d0 := s1.c0
  have d1 := s1.c1
  have d3 := s1.c3
  have HM := hid m2
  have HB := hid B2
  clear kg g1 m1 B1 B2 m2 s1 HM0 HB0 r1
  go_wp2_with (with_reducible show wpList _ _ _ (_ :: _) _ _; refine wpList_su rfl rfl _ _ rfl w.heap.size 0 0 0 0 rfl rfl 0 0 0 0 (by with_reducible exact HM.out) ?_)
  refine bodyPost_ret (results_u2 rfl _ _ w.heap.size 0 0 0 0 (.bool false) rfl rfl (HM.out.row 0 0 0 0)) rfl ⟨0, 0, 0, 0, rfl, bel_row HB.out (Nat.le_refl _) _⟩
end
end Go.Proofs.YtblcpdffiafgnaaGreatDoor
