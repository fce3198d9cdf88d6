import Derived.Test.YtjajcbjodokfnaaGreatDoorXJ
import Derived.Test.YtjajcbjodokfnaaGreatDoorBGet
namespace Go.Proofs.YtjajcbjodokfnaaGreatDoor
set_option maxRecDepth 100000
open Go.RowKit Go.Shelf
set_option linter.unusedVariables false
set_option linter.unusedSimpArgs false

/-- A reader: what is left, or broken. -/
def Rs (w : World) (r g k : Nat) (z : Option (List Int)) : Prop :=
  match z with
  | some zs => ∃ p : Int, 0 ≤ p ∧ p ≤ k ∧ zs.length ≤ 1000 ∧ RdB w r g zs p
  | none => ∃ p e, Rb w r p e
def vz (z : Option (List Int)) : Int :=
  match z with
  | some zs => if 4 ≤ zs.length then val (zs.take 4) else 0
  | none => 0
def nz (z : Option (List Int)) : Option (List Int) :=
  match z with
  | some zs => if 4 ≤ zs.length then some (zs.drop 4) else none
  | none => none
theorem vz_bd {z : Option (List Int)} (h : ∀ zs, z = some zs → By zs) : 0 ≤ vz z ∧ vz z < 4294967296 := by
  unfold vz
  cases z with
  | none => exact ⟨by simp, by simp⟩
  | some zs =>
    simp only
    split
    · rename_i h4
      have := val_w (zs := zs) (W := 4) h4 (fun z hz => h zs rfl z (List.mem_of_mem_take hz))
      exact ⟨this.1, by have := this.2; omega⟩
    · exact ⟨by omega, by omega⟩
theorem nz_by {z : Option (List Int)} (h : ∀ zs, z = some zs → By zs) : ∀ zs, nz z = some zs → By zs := fun zs hz => by
  unfold nz at hz
  cases z with
  | none => cases hz
  | some ys =>
    simp only at hz
    split at hz
    · obtain rfl := Option.some.inj hz
      exact (h ys rfl).drop 4
    · cases hz
/-- The next number, whatever the reader is. -/
theorem getR_ (r g k : Nat) (z : Option (List Int)) (w : World) (h : Rs w r g k z) (hk : k ≤ 1000) :
    Calls Tryz.prog 180 #[.pointer (some ⟨r, 0, none⟩)] w fun en w' => en = .returned (.int .u32 (vz z)) ∧ Rs w' r g (k + 4) (nz z) ∧ Only r w w' := by
  cases z with
  | none =>
    obtain ⟨p, e, hb⟩ := h
    refine (get32_broken r p e w hb).mono ?_
    rintro en w' ⟨rfl, rfl⟩
    exact ⟨rfl, ⟨p, e, hb⟩, Only.refl _ _⟩
  | some zs =>
    obtain ⟨p, p0, p1, hl, hb⟩ := h
    by_cases h4 : 4 ≤ zs.length
    · refine (get32_whole r g zs p w hb h4 (by omega) p0 (by omega)).mono ?_
      rintro en w' ⟨rfl, h1, h2⟩
      refine ⟨by unfold vz; simp only; rw [if_pos h4], ?_, h2⟩
      unfold nz
      simp only
      rw [if_pos h4]
      exact ⟨p + 4, by omega, by omega, by simp; omega, h1⟩
    · refine (get32_short r g zs p w hb (by omega)).mono ?_
      rintro en w' ⟨rfl, h1, h2⟩
      refine ⟨by unfold vz; simp only; rw [if_neg h4], ?_, h2⟩
      unfold nz
      simp only
      rw [if_neg h4]
      exact ⟨p, 10, h1⟩
theorem Only.bel {r : Nat} {x y : World} {B : Nat} (h : Only r x y) (hB : B ≤ r) : Below B x y := h.below hB
theorem leftR_ (r g k : Nat) (z : Option (List Int)) (w : World) (h : Rs w r g k z) :
    Calls Tryz.prog 182 #[.pointer (some ⟨r, 0, none⟩)] w fun en w' => en = .returned (.int .i64 ((match z with | some zs => zs.length | none => 0 : Nat) : Int)) ∧ w' = w := by
  have key : ∀ a n c p e, Rdr w r a n c p e → Calls Tryz.prog 182 #[.pointer (some ⟨r, 0, none⟩)] w fun en w' => en = .returned (.int .i64 n) ∧ w' = w := fun a n c p e h => by
    have h0 := h.c0
    clear h
    go_enter Tryz.func182, Tryz.ntmps182
    go_wp2
    go_ret
    exact ⟨rfl, rfl⟩
  cases z with
  | none =>
    obtain ⟨p, e, hb⟩ := h
    exact key none 0 0 p e hb.1
  | some zs =>
    obtain ⟨p, _, _, _, hb⟩ := h
    obtain ⟨_, a, n, c, h1, h2⟩ := hb
    have := key a n c p 0 h1
    rw [show n = zs.length from h2.1.symm] at this
    exact this
theorem errR_ (r g k : Nat) (z : Option (List Int)) (w : World) (h : Rs w r g k z) :
    Calls Tryz.prog 181 #[.pointer (some ⟨r, 0, none⟩)] w fun en w' => ∃ e p, en = .returned (.tuple #[.int .i64 e, .int .i64 p]) ∧ (e != 0) = z.isNone ∧ Drawn w w' := by
  cases z with
  | none =>
    obtain ⟨p, e, hb⟩ := h
    refine (err_broken r p e w hb).mono ?_
    rintro en w' ⟨rfl, n, rfl⟩
    exact ⟨e, p, rfl, hb.2, drawnN w n⟩
  | some zs =>
    obtain ⟨p, _, _, _, hb⟩ := h
    refine (err_whole r g zs p w hb).mono ?_
    rintro en w' ⟨rfl, n, rfl⟩
    exact ⟨0, p, rfl, rfl, drawnN w n⟩
theorem Rs.at {w w' : World} {r g k : Nat} {z : Option (List Int)} (h : Rs w r g k z) (hr : w'.heap[r]? = w.heap[r]?) (hg : g < w.heap.size → w'.heap[g]? = w.heap[g]?) : Rs w' r g k z := by
  cases z with
  | none =>
    obtain ⟨p, e, hb⟩ := h
    exact ⟨p, e, hb.kept hr⟩
  | some zs =>
    obtain ⟨p, h1, h2, h3, hb⟩ := h
    exact ⟨p, h1, h2, h3, hb.kept hr hg⟩
theorem Rs.lt {w : World} {r g k : Nat} {z : Option (List Int)} (h : Rs w r g k z) : r < w.heap.size := by
  cases z with
  | none => obtain ⟨p, e, hb⟩ := h; exact hb.lt
  | some zs => obtain ⟨p, h1, h2, h3, hb⟩ := h; exact hb.lt
theorem Rs.below {w w' : World} {r g k : Nat} {z : Option (List Int)} (h : Rs w r g k z) (hb : Below w.heap.size w w') : Rs w' r g k z := h.at (hb.block r h.lt) (fun q => hb.block g q)
/-- What four numbers of a body are. -/
theorem nz4 (l : List Int) : nz (nz (nz (nz (some l)))) = if 16 ≤ l.length then some (l.drop 16) else none := by
  unfold nz
  by_cases h1 : 4 ≤ l.length
  · simp only [if_pos h1, List.length_drop]
    by_cases h2 : 4 ≤ l.length - 4
    · simp only [if_pos h2, List.length_drop]
      by_cases h3 : 4 ≤ l.length - 4 - 4
      · simp only [if_pos h3, List.length_drop]
        by_cases h4 : 4 ≤ l.length - 4 - 4 - 4
        · simp only [if_pos h4]
          rw [if_pos (by omega)]
          simp
        · simp only [if_neg h4]
          rw [if_neg (by omega)]
      · simp only [if_neg h3]
        rw [if_neg (by omega)]
    · simp only [if_neg h2]
      rw [if_neg (by omega)]
  · simp only [if_neg h1]
    rw [if_neg (by omega)]
theorem vz4 {l : List Int} (h : l.length = 16) : vz (some l) = val (sl l 0 4) ∧ vz (nz (some l)) = val (sl l 4 4) ∧ vz (nz (nz (some l))) = val (sl l 8 4) ∧ vz (nz (nz (nz (some l)))) = val (sl l 12 4) := by
  have e1 : nz (some l) = some (l.drop 4) := by unfold nz; simp only; rw [if_pos (by omega)]
  have e2 : nz (some (l.drop 4)) = some ((l.drop 4).drop 4) := by unfold nz; simp only; rw [if_pos (by simp; omega)]
  have e3 : nz (some ((l.drop 4).drop 4)) = some (((l.drop 4).drop 4).drop 4) := by unfold nz; simp only; rw [if_pos (by simp; omega)]
  rw [e1, e2, e3]
  unfold vz sl
  simp only [List.drop_drop, List.length_drop]
  refine ⟨?_, ?_, ?_, ?_⟩
  · rw [if_pos (by omega)]; rfl
  · rw [if_pos (by omega)]
  · rw [if_pos (by omega)]
  · rw [if_pos (by omega)]
end Go.Proofs.YtjajcbjodokfnaaGreatDoor
namespace Go.Proofs.YtjajcbjodokfnaaGreatDoor
set_option maxRecDepth 100000
open Go.RowKit Go.Shelf
set_option linter.unusedVariables false
set_option linter.unusedSimpArgs false

theorem results_u2 {fn : Func} {p r : Tmp} (h : fn.results = #[.cell p 118, .tmp r]) (tmps : Array Value) (w : World) (g : Nat) (e q l m : Int) (x : Value)
    (hp : tmps.getD p undef = .pointer (some ⟨g, 0, none⟩)) (hr : tmps.getD r undef = x) (hg : Um w g e q l m) :
    (results fn tmps).run Tryz.prog w = .ok (.tuple #[.agg #[.int .i64 e, .int .i64 q, .int .i64 l, .int .u32 m], x]) w := by
  have hl := run_loadVar_row (P := Tryz.prog) w g 118 118 #[.int .i64 e, .int .i64 q, .int .i64 l, .int .u32 m] (0, 0) _ hg Tryz.underlying118 rfl sizeU
  have hp' : tmps[p]?.getD undef = .pointer (some ⟨g, 0, none⟩) := by simpa using hp
  have hr' : tmps[r]?.getD undef = x := by simpa using hr
  simp [results, h, hp', hr', asAddr, hl]
/-- The answer of a superblock that does not count. -/
def noSup (w w' : World) (en : Ending) : Prop := ∃ e q l m : Int, en = .returned (.tuple #[.agg #[.int .i64 e, .int .i64 q, .int .i64 l, .int .u32 m], .bool false]) ∧ Below w.heap.size w w'
section
variable {w : World} {d : Nat} {s : St} {Q : Nat → Prop} {a : Option Addr} {n c : Nat} {zs : List Int}
set_option maxHeartbeats 4000000 in
theorem gsup_0 (i : Nat) (hT : Tab w) (hb : Bs w a n zs) (hc : n ≤ c) (hm : c ≤ maxLen) (hs : gs zs = none) :
    Calls Tryz.prog 153 #[.pointer (some ⟨d, 0, none⟩), .int .i64 i, .slice a n c] w fun en w' => noSup w w' en := by
  have B0 := unew w 0 0 0 0
  have m0 := Um.new w 0 0 0 0
  have kg := get_n a n c zs _ (hT.bel B0) (hb.below B0) hc hm hs
  have HB0 := hid B0
  have HM0 := hid m0
  clear B0 m0 hb hs
  go_enter Tryz.func153, Tryz.ntmps153
  go_wp2_with fail
  refine kg.mono ?_
  rintro x1 w1 ⟨rfl, g1⟩
  have m1 := HM0.out.below g1
  have B1 := bel_bel HB0.out HB0.out.size g1
  have B2 := B1.alloc B1.size (.cells #[.string ⟨#[]⟩, .int .i64 0, .int .i64 0, .int .i64 0, .slice none 0 0] 40)
  have m2 := m1.at (Below.heap_alloc w1 (.cells #[.string ⟨#[]⟩, .int .i64 0, .int .i64 0, .int .i64 0, .slice none 0 0] 40) _ m1.lt)
  have s1 := Sm.new w1 ⟨#[]⟩ 0 0 0 (.slice none 0 0)
  have d0 := s1.c0
  have d1 := s1.c1
  have d3 := s1.c3
  have HM := hid m2
  have HB := hid B2
  clear kg g1 m1 B1 B2 m2 s1 HM0 HB0
  go_wp2_with (with_reducible show wpList _ _ _ (_ :: _) _ _; refine wpList_su rfl rfl _ _ rfl w.heap.size 0 0 0 0 rfl rfl 0 0 0 0 (by with_reducible exact HM.out) ?_)
  refine bodyPost_ret (results_u2 rfl _ _ w.heap.size 0 0 0 0 (.bool false) rfl rfl (HM.out.row 0 0 0 0)) rfl ⟨0, 0, 0, 0, rfl, bel_row HB.out (Nat.le_refl _) _⟩
set_option maxHeartbeats 4000000 in
theorem gsup_1 (i : Nat) (hT : Tab w) (hb : Bs w a n zs) (hc : n ≤ c) (hm : c ≤ maxLen) (T : ByteArray) (e : Nat) (q p : Int) (l : List Int) (hs : gs zs = some ⟨T, e, q, p, l⟩) (hx : T ≠ t1) :
    Calls Tryz.prog 153 #[.pointer (some ⟨d, 0, none⟩), .int .i64 i, .slice a n c] w fun en w' => noSup w w' en := by
  have B0 := unew w 0 0 0 0
  have m0 := Um.new w 0 0 0 0
  have kg := get_y a n c zs _ (hT.bel B0) (hb.below B0) hc hm ⟨T, e, q, p, l⟩ hs
  obtain ⟨m, Hm⟩ : ∃ m, Hid (l.length = m) := ⟨_, rfl⟩
  simp only [Hm.out] at kg
  have HB0 := hid B0
  have HM0 := hid m0
  have z0 : (T.toList == [67, 86, 83, 49]) = false := tl_no (t := t1) rfl hx
  have z1 : (T.toList != [67, 86, 83, 49]) = true := by rw [bne, z0]; rfl
  clear B0 m0 hb hs
  go_enter Tryz.func153, Tryz.ntmps153
  go_wp2_with fail
  refine kg.mono ?_
  rintro x1 w1 ⟨g5, rfl, hg5, r1, g1⟩
  simp only
  have m1 := HM0.out.below g1
  have B1 := bel_bel HB0.out HB0.out.size g1
  have B2 := B1.alloc B1.size (.cells #[.string T, .int .i64 e, .int .i64 q, .int .i64 p, .slice (some ⟨g5, 0, none⟩) m m] 40)
  have m2 := m1.at (Below.heap_alloc w1 (.cells #[.string T, .int .i64 e, .int .i64 q, .int .i64 p, .slice (some ⟨g5, 0, none⟩) m m] 40) _ m1.lt)
  have s1 := Sm.new w1 T e q p (.slice (some ⟨g5, 0, none⟩) m m)
  have d0 := s1.c0
  have d1 := s1.c1
  have d3 := s1.c3
  have HM := hid m2
  have HB := hid B2
  clear kg g1 m1 B1 B2 m2 s1 HM0 HB0 r1
  go_wp2_with (with_reducible show wpList _ _ _ (_ :: _) _ _; refine wpList_su rfl rfl _ _ rfl w.heap.size 0 0 0 0 rfl rfl 0 0 0 0 (by with_reducible exact HM.out) ?_)
  refine bodyPost_ret (results_u2 rfl _ _ w.heap.size 0 0 0 0 (.bool false) rfl rfl (HM.out.row 0 0 0 0)) rfl ⟨0, 0, 0, 0, rfl, bel_row HB.out (Nat.le_refl _) _⟩
set_option maxHeartbeats 4000000 in
theorem gsup_2 (i : Nat) (hT : Tab w) (hb : Bs w a n zs) (hc : n ≤ c) (hm : c ≤ maxLen) (e : Nat) (q p : Int) (l : List Int) (hs : gs zs = some ⟨t1, e, q, p, l⟩) (hx : e % 2 ≠ i) :
    Calls Tryz.prog 153 #[.pointer (some ⟨d, 0, none⟩), .int .i64 i, .slice a n c] w fun en w' => noSup w w' en := by
  have B0 := unew w 0 0 0 0
  have m0 := Um.new w 0 0 0 0
  have kg := get_y a n c zs _ (hT.bel B0) (hb.below B0) hc hm ⟨t1, e, q, p, l⟩ hs
  obtain ⟨m, Hm⟩ : ∃ m, Hid (l.length = m) := ⟨_, rfl⟩
  simp only [Hm.out] at kg
  have HB0 := hid B0
  have HM0 := hid m0
  have z0 : ((t1).toList == [67, 86, 83, 49]) = true := tl_yes rfl
  have z1 : ((t1).toList != [67, 86, 83, 49]) = false := by rw [bne, z0]; rfl
  obtain ⟨r2, Hr2⟩ : ∃ r2 : Nat, Hid (e % 2 = r2) := ⟨_, rfl⟩
  have z2 : (e : Int) % 2 = (r2 : Int) := by have := Hr2.out; omega
  have z3 : ((r2 : Int) != (i : Int)) = true := by rw [bne_iff_ne]; have := Hr2.out; omega
  clear B0 m0 hb hs
  go_enter Tryz.func153, Tryz.ntmps153
  go_wp2_with fail
  refine kg.mono ?_
  rintro x1 w1 ⟨g5, rfl, hg5, r1, g1⟩
  simp only
  have m1 := HM0.out.below g1
  have B1 := bel_bel HB0.out HB0.out.size g1
  have B2 := B1.alloc B1.size (.cells #[.string t1, .int .i64 e, .int .i64 q, .int .i64 p, .slice (some ⟨g5, 0, none⟩) m m] 40)
  have m2 := m1.at (Below.heap_alloc w1 (.cells #[.string t1, .int .i64 e, .int .i64 q, .int .i64 p, .slice (some ⟨g5, 0, none⟩) m m] 40) _ m1.lt)
  have s1 := Sm.new w1 t1 e q p (.slice (some ⟨g5, 0, none⟩) m m)
  have d0 := s1.c0
  have d1 := s1.c1
  have d3 := s1.c3
  have HM := hid m2
  have HB := hid B2
  clear kg g1 m1 B1 B2 m2 s1 HM0 HB0 r1
  go_wp2_with (with_reducible show wpList _ _ _ (_ :: _) _ _; refine wpList_su rfl rfl _ _ rfl w.heap.size 0 0 0 0 rfl rfl 0 0 0 0 (by with_reducible exact HM.out) ?_)
  refine bodyPost_ret (results_u2 rfl _ _ w.heap.size 0 0 0 0 (.bool false) rfl rfl (HM.out.row 0 0 0 0)) rfl ⟨0, 0, 0, 0, rfl, bel_row HB.out (Nat.le_refl _) _⟩
set_option maxHeartbeats 4000000 in
theorem gsup_3 (i : Nat) (hT : Tab w) (hb : Bs w a n zs) (hc : n ≤ c) (hm : c ≤ maxLen) (e : Nat) (q p : Int) (l : List Int) (hs : gs zs = some ⟨t1, e, q, p, l⟩) (hx0 : e % 2 = i) (hx : p ≠ i) :
    Calls Tryz.prog 153 #[.pointer (some ⟨d, 0, none⟩), .int .i64 i, .slice a n c] w fun en w' => noSup w w' en := by
  have B0 := unew w 0 0 0 0
  have m0 := Um.new w 0 0 0 0
  have kg := get_y a n c zs _ (hT.bel B0) (hb.below B0) hc hm ⟨t1, e, q, p, l⟩ hs
  obtain ⟨m, Hm⟩ : ∃ m, Hid (l.length = m) := ⟨_, rfl⟩
  simp only [Hm.out] at kg
  have HB0 := hid B0
  have HM0 := hid m0
  have z0 : ((t1).toList == [67, 86, 83, 49]) = true := tl_yes rfl
  have z1 : ((t1).toList != [67, 86, 83, 49]) = false := by rw [bne, z0]; rfl
  have z2 : (e : Int) % 2 = (i : Int) := by omega
  have z3 : ((i : Int) != (i : Int)) = false := by simp
  have z4 : (p != (i : Int)) = true := by rw [bne_iff_ne]; exact hx
  clear hx0
  clear B0 m0 hb hs
  go_enter Tryz.func153, Tryz.ntmps153
  go_wp2_with fail
  refine kg.mono ?_
  rintro x1 w1 ⟨g5, rfl, hg5, r1, g1⟩
  simp only
  have m1 := HM0.out.below g1
  have B1 := bel_bel HB0.out HB0.out.size g1
  have B2 := B1.alloc B1.size (.cells #[.string t1, .int .i64 e, .int .i64 q, .int .i64 p, .slice (some ⟨g5, 0, none⟩) m m] 40)
  have m2 := m1.at (Below.heap_alloc w1 (.cells #[.string t1, .int .i64 e, .int .i64 q, .int .i64 p, .slice (some ⟨g5, 0, none⟩) m m] 40) _ m1.lt)
  have s1 := Sm.new w1 t1 e q p (.slice (some ⟨g5, 0, none⟩) m m)
  have d0 := s1.c0
  have d1 := s1.c1
  have d3 := s1.c3
  have HM := hid m2
  have HB := hid B2
  clear kg g1 m1 B1 B2 m2 s1 HM0 HB0 r1
  go_wp2_with (with_reducible show wpList _ _ _ (_ :: _) _ _; refine wpList_su rfl rfl _ _ rfl w.heap.size 0 0 0 0 rfl rfl 0 0 0 0 (by with_reducible exact HM.out) ?_)
  refine bodyPost_ret (results_u2 rfl _ _ w.heap.size 0 0 0 0 (.bool false) rfl rfl (HM.out.row 0 0 0 0)) rfl ⟨0, 0, 0, 0, rfl, bel_row HB.out (Nat.le_refl _) _⟩
end
end Go.Proofs.YtjajcbjodokfnaaGreatDoor
