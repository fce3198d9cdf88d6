import Derived.Test.YtkeogggeefnoeaaGreatDoorF1
import Derived.Test.YtkeogggeefnoeaaGreatDoorPH
import Derived.Test.YtkeogggeefnoeaaGreatDoorN26
import Derived.Lib.SlBytesConst
namespace Go.Proofs.YtkeogggeefnoeaaGreatDoor
set_option linter.unusedSimpArgs false
open Go.RowKit Go.Shelf
set_option linter.unusedVariables false
set_option maxRecDepth 100000

/-! ScriptCanon. -/
/-- Print, its answer in letters. -/
theorem scr_printL {w : World} {V : Nat → Prop} (hq : Tq w) {sec : Int} (hs : InI sec) {a : Option Addr} {n p : Nat} {l : List Opp} (hl : Ops w V a n l) (hin : ∀ x ∈ l, OpL x) (hn : n ≤ 140737488355328) (T : List Nat) (hT : scrW ⟨sec, l⟩ = .ok T) :
    Calls Tryz.prog 8 #[.agg #[.int .i64 sec, .slice a n p]] w fun e w' => e = .returned (.tuple #[.string (sb T), .int .i64 0]) ∧ Below w.heap.size w w' := by
  refine (scrPrint_ hq hs hl (fun x hx => (hin x hx).bo) hn).mono ?_
  rintro e w' ⟨rfl, g, _⟩
  rw [hT]
  exact ⟨rfl, g⟩
theorem scr_printE {w : World} {V : Nat → Prop} (hq : Tq w) {sec : Int} (hs : InI sec) {a : Option Addr} {n p : Nat} {l : List Opp} (hl : Ops w V a n l) (hin : ∀ x ∈ l, InO x ∧ Bo x) (hn : n ≤ 140737488355328) (er : Nat) (E : Int) (hE : (er : Int) = E) (hT : scrW ⟨sec, l⟩ = .error er) :
    Calls Tryz.prog 8 #[.agg #[.int .i64 sec, .slice a n p]] w fun e w' => e = .returned (.tuple #[.string ⟨#[]⟩, .int .i64 E]) ∧ Below w.heap.size w w' := by
  refine (scrPrint_ hq hs hl hin hn).mono ?_
  rintro e w' ⟨rfl, g, _⟩
  subst hE
  rw [hT]
  exact ⟨rfl, g⟩
set_option maxHeartbeats 8000000 in
theorem scriptCanon_ (t : List Nat) (hy : ∀ x ∈ t, x < 256) (hl : t.length ≤ 140737488355328) (w : World) (hq : Tq w) : Calls Tryz.prog 4 #[.string (sb t)] w fun e w' => e = .returned (.bool true) ∧ Below w.heap.size w w' := by
  have HQ := hid hq
  obtain ⟨X, HX⟩ : ∃ z, Hid (sb t = z) := ⟨_, rfl⟩
  rw [HX.out]
  have k1 := scr_first w hq
  have hL := scrv_L t
  have hC := scr_canon t
  clear hq
  obtain ⟨⟨⟨sec, ops⟩, ln, er⟩, HR⟩ : ∃ r : Scr × Nat × Nat, Hid (scrv t = r) := ⟨_, rfl⟩
  rw [HR.out] at hL hC
  obtain ⟨hs1, hs2, hs3⟩ := hL
  simp only at hs1 hs2 hs3 hC
  by_cases he : er = 0
  · obtain ⟨n, HN⟩ : ∃ z, Hid (ops.length = z) := ⟨_, rfl⟩
    have hn : n ≤ 2000 := by have := HN.out; omega
    have HSO := hid (hC.1 he).1
    have hW := (hC.1 he).2
    have HI := hid hs1
    have H3 := hid hs3
    have K2 := hid fun wx (h : Tq wx) => scr_parseL t hy sec ops ln er n HR.out HN.out (ln : Int) 0 rfl (by omega) wx h
    rw [HX.out] at K2
    clear hC hs1 hs2 hs3 he
    rcases hW with ⟨T, hT⟩ | hT
    · have hrd := scr_round HSO.out hT
      have HT := hid hT
      have hTy : ∀ x ∈ T, x < 256 := scr_byte HSO.out hT
      obtain ⟨Y, HY⟩ : ∃ z, Hid (sb T = z) := ⟨_, rfl⟩
      have KP : Hid (∀ (wx : World) (V : Nat → Prop) (a : Option Addr) (p : Nat), Tq wx → Ops wx V a n ops → Calls Tryz.prog 8 #[.agg #[.int .i64 sec, .slice a n p]] wx fun e w' => e = .returned (.tuple #[.string Y, .int .i64 0]) ∧ Below wx.heap.size wx w') := fun wx V a p hq ho => by
        rw [← HY.out]
        exact scr_printL hq HI.out ho H3.out (by omega) T hT
      have KR := hid fun wx (h : Tq wx) => scr_parseL T hTy sec ops 0 0 n hrd.1 HN.out 0 0 rfl rfl wx h
      rw [HY.out] at KR
      clear hT hrd hTy
      go_enter Tryz.func4, Tryz.ntmps4
      go_wp2_with fail
      refine k1.mono ?_
      rintro e w1 ⟨rfl, g1⟩
      have HB := hid g1
      have k2 := K2.out w1 (HQ.out.kept g1)
      clear g1 k1 K2
      go_wp2_with fail
      refine k2.mono ?_
      rintro e w2 ⟨⟨a, p, rfl, ho⟩, g2⟩
      have HB2 := hid (bel_bel HB.out HB.out.size g2)
      have b3 : Below w2.heap.size w2 (w2.alloc (.cells #[.int .i64 sec, .slice a n p] 24)) := (Below.refl _ _).alloc (Nat.le_refl _) _
      have HB3 := hid (bel_bel HB2.out HB2.out.size b3)
      have HO3 := hid (ho.on b3)
      have y3 := Yx.new w2 24 [.int .i64 sec, .slice a n p]
      have k3 := KP.out _ _ a p (HQ.out.kept HB3.out) HO3.out
      have c0 := y3.cell 0
      have c1 := y3.cell 1
      simp only [List.getElem?_cons_succ, List.getElem?_cons_zero] at c0 c1
      have HY3 := hid y3
      clear k2 g2 ho HB b3 y3 HB2
      go_wp2_with fail
      refine (scr_num _ _).mono ?_
      rintro e _ ⟨rfl, rfl⟩
      go_wp2_with fail
      clear c0 c1
      refine k3.mono ?_
      rintro e w4 ⟨rfl, g4⟩
      have HB4 := hid (bel_bel HB3.out HB3.out.size g4)
      have HO4 := hid (HO3.out.on g4)
      have HY4 : Hid (Yx w4 w2.heap.size 24 [.int .i64 sec, .slice a n p]) := HY3.out.on g4
      have k4 := KR.out w4 (HQ.out.kept HB4.out)
      clear k3 g4 HB3 HO3 HY3 KR
      go_wp2_with fail
      refine (scr_num _ _).mono ?_
      rintro e _ ⟨rfl, rfl⟩
      go_wp2_with fail
      refine k4.mono ?_
      rintro e w5 ⟨⟨a', p', rfl, ho⟩, g5⟩
      have b6 : Below w5.heap.size w5 (w5.alloc (.cells #[.int .i64 sec, .slice a' n p'] 24)) := (Below.refl _ _).alloc (Nat.le_refl _) _
      have g6 := bel_bel g5 g5.size b6
      have HB6 := hid (bel_bel HB4.out HB4.out.size g6)
      have HO6 := hid (ho.on b6)
      have k6 := scr_same sec a' a n p' p ops _ HO6.out (HO4.out.on g6) (fun x hx => (H3.out x hx).opn) (by omega)
      have y0 := Yx.new w5 24 [.int .i64 sec, .slice a' n p']
      have y1 : Yx (w5.alloc (.cells #[.int .i64 sec, .slice a' n p'] 24)) w2.heap.size 24 [.int .i64 sec, .slice a n p] := HY4.out.on g6
      have c0 := y0.cell 0
      have c1 := y0.cell 1
      have d0 := y1.cell 0
      have d1 := y1.cell 1
      simp only [List.getElem?_cons_succ, List.getElem?_cons_zero] at c0 c1 d0 d1
      have HY6 := hid y0
      clear k4 g5 b6 g6 ho HO4 HY4 HB4 y0 y1
      go_wp2_with fail
      clear c0 c1 d0 d1
      refine k6.mono ?_
      rintro e w7 ⟨rfl, g7⟩
      have HB7 := hid (bel_bel HB6.out HB6.out.size g7)
      have y7 : Yx w7 w5.heap.size 24 [.int .i64 sec, .slice a' n p'] := HY6.out.on g7
      have k7 := KP.out w7 _ a' p' (HQ.out.kept HB7.out) (HO6.out.on g7)
      have c0 := y7.cell 0
      have c1 := y7.cell 1
      simp only [List.getElem?_cons_succ, List.getElem?_cons_zero] at c0 c1
      clear k6 g7 HB6 HY6 HO6 y7 KP
      go_wp2_with fail
      clear c0 c1
      refine k7.mono ?_
      rintro e w8 ⟨rfl, g8⟩
      have HB8 := hid (bel_bel HB7.out HB7.out.size g8)
      clear k7 g8 HB7
      go_wp2_with fail
      refine (scr_num _ _).mono ?_
      rintro e _ ⟨rfl, rfl⟩
      go_wp2_with fail
      refine (scr_num _ _).mono ?_
      rintro e _ ⟨rfl, rfl⟩
      go_wp2_with fail
      refine (scr_num _ _).mono ?_
      rintro e _ ⟨rfl, rfl⟩
      go_wp2_with fail
      go_ret
      exact ⟨rfl, HB8.out⟩
    · have KP : Hid (∀ (wx : World) (V : Nat → Prop) (a : Option Addr) (p : Nat), Tq wx → Ops wx V a n ops → Calls Tryz.prog 8 #[.agg #[.int .i64 sec, .slice a n p]] wx fun e w' => e = .returned (.tuple #[.string ⟨#[]⟩, .int .i64 221]) ∧ Below wx.heap.size wx w') := fun wx V a p hq ho => scr_printE hq HI.out ho (fun x hx => (H3.out x hx).bo) (by omega) 221 221 rfl hT
      clear hT
      go_enter Tryz.func4, Tryz.ntmps4
      go_wp2_with fail
      refine k1.mono ?_
      rintro e w1 ⟨rfl, g1⟩
      have HB := hid g1
      have k2 := K2.out w1 (HQ.out.kept g1)
      clear g1 k1 K2
      go_wp2_with fail
      refine k2.mono ?_
      rintro e w2 ⟨⟨a, p, rfl, ho⟩, g2⟩
      have HB2 := hid (bel_bel HB.out HB.out.size g2)
      have b3 : Below w2.heap.size w2 (w2.alloc (.cells #[.int .i64 sec, .slice a n p] 24)) := (Below.refl _ _).alloc (Nat.le_refl _) _
      have HB3 := hid (bel_bel HB2.out HB2.out.size b3)
      have y3 := Yx.new w2 24 [.int .i64 sec, .slice a n p]
      have k3 := KP.out _ _ a p (HQ.out.kept HB3.out) (ho.on b3)
      have c0 := y3.cell 0
      have c1 := y3.cell 1
      simp only [List.getElem?_cons_succ, List.getElem?_cons_zero] at c0 c1
      clear k2 g2 ho HB b3 y3 HB2 KP
      go_wp2_with fail
      refine (scr_num _ _).mono ?_
      rintro e _ ⟨rfl, rfl⟩
      go_wp2_with fail
      clear c0 c1
      refine k3.mono ?_
      rintro e w4 ⟨rfl, g4⟩
      have HB4 := hid (bel_bel HB3.out HB3.out.size g4)
      clear k3 g4 HB3
      go_wp2_with fail
      refine (scr_num _ _).mono ?_
      rintro e _ ⟨rfl, rfl⟩
      go_wp2_with fail
      go_ret
      exact ⟨rfl, HB4.out⟩
  · obtain ⟨E, HE⟩ : ∃ z : Int, Hid ((er : Int) = z) := ⟨_, rfl⟩
    have he1 : (E != 0) = true := by have := HE.out; simp; omega
    have h0 := hC.2 he
    have h1 : sec = 0 ∧ ops = [] := by injection h0 with h1 h2; exact ⟨h1, h2⟩
    obtain ⟨rfl, rfl⟩ := h1
    have K2 := hid fun wx (h : Tq wx) => scr_parseL t hy 0 [] ln er 0 HR.out rfl (ln : Int) E rfl HE.out wx h
    rw [HX.out] at K2
    clear h0 hC hs1 hs2 hs3 he
    go_enter Tryz.func4, Tryz.ntmps4
    go_wp2_with fail
    refine k1.mono ?_
    rintro e w1 ⟨rfl, g1⟩
    have HB := hid g1
    have k2 := K2.out w1 (HQ.out.kept g1)
    clear g1 k1 K2
    go_wp2_with fail
    refine k2.mono ?_
    rintro e w2 ⟨⟨a, p, rfl, ho⟩, g2⟩
    have HB2 := hid (bel_bel HB.out HB.out.size g2)
    clear k2 g2 ho HB
    have HB3 := hid (HB2.out.alloc HB2.out.size (.cells #[.int .i64 0, .slice a 0 p] 24))
    go_wp2_with fail
    refine (scr_num _ _).mono ?_
    rintro e _ ⟨rfl, rfl⟩
    go_wp2_with fail
    go_ret
    exact ⟨rfl, HB3.out⟩
end Go.Proofs.YtkeogggeefnoeaaGreatDoor
namespace Go.Proofs.YtkeogggeefnoeaaGreatDoor
set_option linter.unusedSimpArgs false
open Go.RowKit Go.Shelf
set_option linter.unusedVariables false
set_option maxRecDepth 100000

/-! The laws' plain and noisy. -/
def pchr (x : Nat) : Bool := decide (x = 10 ∨ x = 32 ∨ (33 ≤ x ∧ x ≤ 126 ∧ x ≠ 35))
theorem plain_no {t : List Nat} {j : Nat} (h : pchr (t.getD j 0) = false) (hj : j < t.length) : plainT t = false := by
  unfold plainT
  rw [List.all_eq_false]
  refine ⟨t.getD j 0, by simp [List.getD, hj], ?_⟩
  have : decide _ = false := h
  rw [this]
  simp
theorem plain_yes {t : List Nat} (h : ∀ i, i < t.length → pchr (t.getD i 0) = true) : plainT t = true := by
  unfold plainT
  rw [List.all_eq_true]
  intro x hx
  obtain ⟨i, hi, rfl⟩ := List.mem_iff_getElem.1 hx
  have := h i hi
  simpa [List.getD, hi, pchr] using this
set_option maxHeartbeats 4000000 in
theorem plain_ (t : List Nat) (hy : ∀ x ∈ t, x < 256) (hl : t.length ≤ 140737488355328) (w : World) : Calls Tryz.prog 13 #[.string (sb t)] w fun e w' => e = .returned (.bool (plainT t)) ∧ w' = w := by
  have hsz : (sb t).size = t.length := sb_size t
  have HAT := hid fun j (hj : j < t.length) h => at_sb hy (i := j) hj h
  have HY : Hid (∀ j, j < t.length → t.getD j 0 < 256) := fun j hj => hy _ (by simp [List.getD, hj])
  obtain ⟨S, HS⟩ : ∃ z, Hid (sb t = z) := ⟨_, rfl⟩
  rw [HS.out] at HAT hsz ⊢
  obtain ⟨n, HN⟩ : ∃ z, Hid (t.length = z) := ⟨_, rfl⟩
  have hnn : (S.size : Int) = (n : Int) := by have := HN.out; omega
  have hn2 : n ≤ 140737488355328 := by have := HN.out; omega
  have HSN : Hid (S.size = n) := by show _ = _; have := HN.out; omega
  rw [HN.out] at HAT HY
  clear hl hy hsz
  go_enter Tryz.func13, Tryz.ntmps13
  go_wp2_with fail
  go_loopw [3] (fun i wr => ∃ j : Nat, j ≤ n ∧ i = .int .i64 j ∧ Hid (∀ i, i < j → pchr (t.getD i 0) = true) ∧ wr = w) (fun i _ => n - (intOf i).toNat)
  case atStart => exact ⟨0, Nat.zero_le _, rfl, fun i hi => by omega, rfl⟩
  case round =>
    obtain ⟨j, hj, rfl, HG, rfl⟩ := hrel
    by_cases hlt : j < n
    · have hjI : (j : Int) < (n : Int) := by omega
      have hjs : j < S.size := by have := HSN.out; omega
      have q1 := HAT.out j hlt
      have hc := HY.out j hlt
      obtain ⟨c, HC⟩ : ∃ z, Hid (t.getD j 0 = z) := ⟨_, rfl⟩
      rw [HC.out] at q1 hc
      have HG2 : pchr c = true → ∀ i, i < j + 1 → pchr (t.getD i 0) = true := fun h i hi => by
        by_cases e : i = j
        · rw [e, HC.out]; exact h
        · exact HG.out i (by omega)
      have HNO : Hid (pchr c = false → plainT t = false) := fun h => plain_no (by rw [HC.out]; exact h) (by have := HN.out; omega)
      have HGG := hid HG2
      clear HG2
      by_cases h10 : c = 10
      · subst h10
        go_wp2_with fail
        go_roundw
        case rel => exact ⟨j + 1, by omega, by go_num, HGG.out (by decide), trivial⟩
        case measure => simp [intOf]; omega
      by_cases h32 : c = 32
      · subst h32
        go_wp2_with fail
        go_roundw
        case rel => exact ⟨j + 1, by omega, by go_num, HGG.out (by decide), trivial⟩
        case measure => simp [intOf]; omega
      by_cases h35 : c = 35
      · subst h35
        go_wp2_with fail
        go_ret
        exact ⟨congrArg (fun b => Ending.returned (.bool b)) (HNO.out (by decide)).symm, rfl⟩
      have e10 : ((c : Int) != 10) = true := by simp; omega
      have e32 : ((c : Int) != 32) = true := by simp; omega
      have e35 : ((c : Int) == 35) = false := by simp; omega
      by_cases hlo : c < 33
      · have i1 : decide ((c : Int) < 33) = true := decide_eq_true (by omega)
        have hb : Hid (pchr c = false) := decide_eq_false (by omega)
        clear h10 h32 h35 hlo
        go_wp2_with fail
        go_ret
        exact ⟨congrArg (fun b => Ending.returned (.bool b)) (HNO.out hb.out).symm, rfl⟩
      have i1 : decide ((c : Int) < 33) = false := decide_eq_false (by omega)
      by_cases hhi : 126 < c
      · have i2 : decide ((126 : Int) < (c : Int)) = true := decide_eq_true (by omega)
        have hb : Hid (pchr c = false) := decide_eq_false (by omega)
        clear h10 h32 h35 hlo hhi
        go_wp2_with fail
        go_ret
        exact ⟨congrArg (fun b => Ending.returned (.bool b)) (HNO.out hb.out).symm, rfl⟩
      · have i2 : decide ((126 : Int) < (c : Int)) = false := decide_eq_false (by omega)
        have hb : Hid (pchr c = true) := decide_eq_true (by omega)
        clear h10 h32 h35 hlo hhi
        go_wp2_with fail
        go_roundw
        case rel => exact ⟨j + 1, by omega, by go_num, HGG.out hb.out, trivial⟩
        case measure => simp [intOf]; omega
    · have hjI : ¬ (j : Int) < (n : Int) := by omega
      go_wp2_with fail
      go_ret
      exact ⟨congrArg (fun b => Ending.returned (.bool b)) (plain_yes fun i hi => HG.out i (by have := HN.out; omega)).symm, rfl⟩
theorem noisy_take {t : List Nat} {j : Nat} (hj : j < t.length) : 32 :: (t.take (j + 1)).flatMap nz1 = (32 :: (t.take j).flatMap nz1) ++ nz1 (t.getD j 0) := by
  rw [List.take_add_one, List.getElem?_eq_getElem hj, List.flatMap_append]
  simp [List.getD, hj]
theorem nz_take {t : List Nat} (hy : ∀ x ∈ t, x < 256) (j : Nat) : (∀ x ∈ 32 :: (t.take j).flatMap nz1, x < 256) ∧ (32 :: (t.take j).flatMap nz1).length ≤ 10 * t.length + 1 := by
  refine ⟨fun x hx => ?_, ?_⟩
  · rcases List.mem_cons.1 hx with rfl | hx
    · omega
    · obtain ⟨y, hy', hx⟩ := List.mem_flatMap.1 hx
      have h1 := hy y (List.mem_of_mem_take hy')
      unfold nz1 at hx
      split at hx
      · simp at hx; omega
      · split at hx
        · simp at hx; omega
        · simp at hx; omega
  · have h1 := nz_len (t.take j)
    have h2 : (t.take j).length ≤ t.length := by rw [List.length_take]; omega
    rw [List.length_cons]
    omega
/-- Bytes that are one's own, or a full row that can but be read. -/
def Fr (B : Nat) (w : World) (v : Value) (n : Nat) (X : List Int) : Prop := w.ownsRow B 5 1 v n (cells X) ∨ ∃ g, v = .slice (some ⟨g, 0, none⟩) n n ∧ X.length = n ∧ g < w.heap.size ∧ ∀ j u, (cells X)[j]? = some u → w.cell? ⟨g, j, none⟩ = some u
theorem Fr.alloc {B n : Nat} {w : World} {v : Value} {X : List Int} (h : Fr B w v n X) (o : Obj) : Fr B (w.alloc o) v n X := by
  rcases h with h | ⟨g, rfl, h1, h2, h3⟩
  · exact .inl (h.alloc o)
  · exact .inr ⟨g, rfl, h1, by rw [World.size_alloc]; omega, fun j u hj => (World.cell?_of_block (w := w) (a := ⟨g, j, none⟩) (((Below.refl w.heap.size w).alloc (Nat.le_refl _) o).block g h2)).trans (h3 j u hj)⟩
theorem fr_text {B n : Nat} {w : World} {v : Value} {l : List Nat} (h : Fr B w v n (ic l)) (hl : ∀ x ∈ l, x < 256) : (convert 40 9 v).run Tryz.prog w = .ok (.string (sb l)) w := by
  rcases h with h | ⟨g, rfl, h1, h2, h3⟩
  · exact run_own_text h hl
  · have hn : l.length = n := by rw [← h1, ic_length]
    have := run_convert_bytes_back (P := Tryz.prog) w 40 9 5 ⟨g, 0, none⟩ n (l.map UInt8.ofNat) Tryz.underlying40 (by kernel_rfl) (by kernel_rfl) (fun j hj => by
      have hj' : j < l.length := by simpa using hj
      have e : (l.map UInt8.ofNat)[j].toNat = l.getD j 0 := by
        simp [List.getD, hj']
        have := hl l[j] (List.getElem_mem hj')
        omega
      rw [Addr.add_lit, Nat.zero_add, e]
      refine h3 j _ ?_
      rw [cells_get (ic l) j (by rw [ic_length]; exact hj'), ic_get])
    rw [List.length_map, hn] at this
    exact this
/-- append of some bytes. -/
theorem wpList_appR {w : World} {ops : Array Oper} {rest : List Oper} {o : Oper} {act : Act} {Q : Exit → Act → World → Prop} (hgd : o.guard = none) (s x : Operand)
    (ho : o.op = .call { callee := .builtin .append, args := #[s, x], argTypes := #[40, 40] })
    (B : Nat) (v : Value) (n : Nat) (X : List Int) (hs : act.eval s = v) (hown : Fr B w v n X)
    (ad : Addr) (m c : Nat) (zs : List Int) (hx : act.eval x = .slice (some ad) m c) (hb : Bs w (some ad) m zs) (hm : 0 < m) (hnm : n + m ≤ 140737488355328) (hbase : B ≤ w.heap.size)
    (h : ∀ v' w', w'.ownsRow B 5 1 v' (n + m) (cells (X ++ zs)) → Below B w w' → wpList Tryz.prog ops Q rest (act.put o.dst v') w') : wpList Tryz.prog ops Q (o :: rest) act w := by
  rcases hown with hown | ⟨g, rfl, h1, h2, h3⟩
  · exact wpList_appT hgd s x ho B v n X hs hown (some ad) m c zs hx hb hnm hbase fun v' w' q1 q2 => h v' w' q1 ⟨q2.os, q2.tape, q2.output, q2.size, fun k hk => q2.block k (by omega) (fun e => by have := (hown.lt k e.symm).1; omega)⟩
  · obtain ⟨i5, hi, hz0, hz1, hz2⟩ := info_parts info5
    have hb1 := hb.1
    have hsrc : ∀ j u, (cells zs)[j]? = some u → w.cell? (ad.add j) = some u := fun j u hj => by
      have hj' : j < zs.length := by
        have := (List.getElem?_eq_some_iff.1 hj).1
        rwa [cells_length] at this
      rcases hb.2.2 with h0 | ⟨b, off, e, hc⟩
      · omega
      · obtain rfl := Option.some.inj e
        rw [Addr.add_lit, hc j (by omega), ← hj]
        simp [cells, List.getD, hj']
    have hr := run_append_grow (P := Tryz.prog) w 40 o.type 5 i5 (.int .u8 0) Tryz.underlying40 hi hz0 ⟨g, 0, none⟩ n n (cells X) (by rw [hz1, cells_length, Nat.mul_one, h1]) (fun j u hj => by rw [Addr.add_lit, Nat.zero_add]; exact h3 j u hj) ad m c (cells zs) (by rw [hz1, cells_length, Nat.mul_one, hb1]) hsrc (by omega) (by omega) (growslice_fits (by omega) (by rw [hz2]; omega))
    refine wpList_plain hgd fun _ hK => ?_
    unfold Oper.wp execOp
    simp only [ho, resolve, invoke, builtin, Sem.run_bind, Sem.run_pure, Result.andThen_ok, List.map_toArray, List.map_cons, List.map_nil, hs, hx, hr]
    refine hK _ _ (h _ _ ⟨by rw [cells_length, List.length_append, h1, hb1, Nat.mul_one], .inr ⟨w.heap.size, _, _, rfl, hbase, heap_alloc_new w.drew _, grownCap_ge w (n + m) n 5, grownCap_le_maxLen w (n + m) n 5 (by unfold maxLen; omega), ?_, ?_⟩⟩ ⟨rfl, rfl, rfl, by simp, fun k hk => heap_alloc_old w.drew _ (by show k < w.heap.size; omega)⟩)
    · have := grownCap_ge w (n + m) n 5
      simp only [Array.size_append, List.size_toArray, size_zeroCells, cells_length, h1, hb1]
      show n + m + (grownCap w (n + m) n 5 - (n + m)) * 1 = _
      omega
    · rw [cells_append]
      have e : (cells X ++ cells zs).length = (n + m) * 1 := by rw [List.length_append, cells_length, cells_length, h1, hb1, Nat.mul_one]
      rw [← e]
      simp only [Array.toList_append, List.append_assoc]
      rw [← List.append_assoc]
      exact List.take_left
set_option maxHeartbeats 4000000 in
theorem noisy_ (t : List Nat) (hy : ∀ x ∈ t, x < 256) (hl : t.length ≤ 60000) (w : World) : Calls Tryz.prog 14 #[.string (sb t)] w fun e w' => e = .returned (.string (sb (noisyT t))) ∧ Below w.heap.size w w' := by
  have hsz : (sb t).size = t.length := sb_size t
  have HAT := hid fun j (hj : j < t.length) h => at_sb hy (i := j) hj h
  have HY : Hid (∀ j, j < t.length → t.getD j 0 < 256) := fun j hj => hy _ (by simp [List.getD, hj])
  have HYY := hid hy
  obtain ⟨S, HS⟩ : ∃ z, Hid (sb t = z) := ⟨_, rfl⟩
  rw [HS.out] at HAT hsz ⊢
  obtain ⟨n, HN⟩ : ∃ z, Hid (t.length = z) := ⟨_, rfl⟩
  have hnn : (S.size : Int) = (n : Int) := by have := HN.out; omega
  have hn2 : n ≤ 60000 := by have := HN.out; omega
  have HSN : Hid (S.size = n) := by show _ = _; have := HN.out; omega
  rw [HN.out] at HAT HY
  clear hl hy hsz
  have hcv0 := Lib.run_convert_bytes_const (P := Tryz.prog) w 40 5 #[.int .u8 32] 1 1 Tryz.underlying40 Tryz.underlying5
  have HB0 : Hid (Below w.heap.size w (w.alloc (.cells #[.int .u8 32] 5 (1, 2)))) := (Below.refl _ _).alloc (Nat.le_refl _) _
  have HF0 : Hid (Fr w.heap.size (w.alloc (.cells #[.int .u8 32] 5 (1, 2))) (.slice (some ⟨w.heap.size, 0, none⟩) 1 1) 1 (ic [32])) := .inr ⟨w.heap.size, rfl, rfl, by simp, fun j u hj => by
    rw [cell_of_row _ w.heap.size j _ 5 (1, 2) (heap_alloc_new w _)]
    simpa [cells, ic] using hj⟩
  go_enter Tryz.func14, Tryz.ntmps14
  go_wp2_with fail
  go_loopw [3, 4] (fun v i wr => ∃ j : Nat, j ≤ n ∧ i = .int .i64 j ∧ Hid (Fr w.heap.size wr v (32 :: (t.take j).flatMap nz1).length (ic (32 :: (t.take j).flatMap nz1))) ∧ Hid (Below w.heap.size w wr)) (fun _ i _ => n - (intOf i).toNat)
  case atStart => exact ⟨0, Nat.zero_le _, rfl, HF0, HB0⟩
  case round =>
    obtain ⟨j, hj, rfl, HO, HB⟩ := hrel
    rename_i u3 _
    by_cases hlt : j < n
    · have hjI : (j : Int) < (n : Int) := by omega
      have hjs : j < S.size := by have := HSN.out; omega
      have q1 := HAT.out j hlt
      have hc := HY.out j hlt
      have hT := noisy_take (t := t) (j := j) (by have := HN.out; omega)
      have hb := nz_take HYY.out j
      obtain ⟨c, HC⟩ : ∃ z, Hid (t.getD j 0 = z) := ⟨_, rfl⟩
      rw [HC.out] at q1 hc hT
      have HT := hid hT
      obtain ⟨L, HL⟩ : ∃ z, Hid (32 :: (t.take j).flatMap nz1 = z) := ⟨_, rfl⟩
      rw [HL.out] at HO HT hb
      have HLB := hid hb.1
      have hm : L.length ≤ 600001 := by have := hb.2; have := HN.out; omega
      obtain ⟨m, Hm⟩ : ∃ z, Hid (L.length = z) := ⟨_, rfl⟩
      rw [Hm.out] at HO hm
      have hsz : w.heap.size ≤ wr.heap.size := HB.out.size
      clear hT hb
      have fin : ∀ (zs : List Nat) (o : Obj) (v' : Value) (w' : World), nz1 c = zs → w'.ownsRow w.heap.size 5 1 v' (m + zs.length) (cells (ic L ++ ic zs)) → Below w.heap.size (wr.alloc o) w' → Hid (Fr w.heap.size w' v' (32 :: (t.take (j + 1)).flatMap nz1).length (ic (32 :: (t.take (j + 1)).flatMap nz1))) ∧ Hid (Below w.heap.size w w') := fun zs o v' w' hz ho hg => by
        refine ⟨?_, (HB.out.alloc hsz _).trans hg⟩
        refine .inl ?_
        rw [HT.out, hz, List.length_append, Hm.out, ic_append]
        exact ho
      have HF := hid fin
      clear fin
      by_cases h10 : c = 10
      · subst h10
        have HOA := hid (HO.out.alloc (.cells (cells (ic [9, 35, 0, 120, 35, 255, 10, 9, 10, 32])).toArray 5))
        have HBS := hid (bs_lit wr (ic [9, 35, 0, 120, 35, 255, 10, 9, 10, 32]) (0, 0) (by unfold Okb; decide))
        go_wp2_with (at_builtin; refine wpList_appR rfl _ _ rfl w.heap.size u3 m (ic L) rfl (by exact HOA.out) _ 10 10 (ic [9, 35, 0, 120, 35, 255, 10, 9, 10, 32]) rfl (by exact HBS.out) (by decide) (by omega) (by rw [World.size_alloc]; omega) ?_; intro v' w' h1 h2; have HFF := HF.out [9, 35, 0, 120, 35, 255, 10, 9, 10, 32] _ v' w' rfl h1 h2; clear h1 h2)
        go_roundw
        case rel => exact ⟨j + 1, by omega, by go_num, HFF.1, HFF.2⟩
        case measure => simp [intOf]; omega
      by_cases h32 : c = 32
      · subst h32
        have HOA := hid (HO.out.alloc (.cells (cells (ic [32, 9])).toArray 5))
        have HBS := hid (bs_lit wr (ic [32, 9]) (0, 0) (by unfold Okb; decide))
        go_wp2_with (at_builtin; refine wpList_appR rfl _ _ rfl w.heap.size u3 m (ic L) rfl (by exact HOA.out) _ 2 2 (ic [32, 9]) rfl (by exact HBS.out) (by decide) (by omega) (by rw [World.size_alloc]; omega) ?_; intro v' w' h1 h2; have HFF := HF.out [32, 9] _ v' w' rfl h1 h2; clear h1 h2)
        go_roundw
        case rel => exact ⟨j + 1, by omega, by go_num, HFF.1, HFF.2⟩
        case measure => simp [intOf]; omega
      · have e10 : ((c : Int) == 10) = false := by simp; omega
        have e32 : ((c : Int) == 32) = false := by simp; omega
        have HZ : Hid (nz1 c = [c]) := by show _ = _; unfold nz1; rw [if_neg h10, if_neg h32]
        have HOA := hid (HO.out.alloc (.cells (cells (ic [c])).toArray 5))
        have HBS := hid (bs_lit wr (ic [c]) (0, 0) (by intro z hz; simp [ic] at hz; subst hz; omega))
        clear h10 h32
        go_wp2_with (at_builtin; refine wpList_appR rfl _ _ rfl w.heap.size u3 m (ic L) rfl (by exact HOA.out) _ 1 1 (ic [c]) rfl (by exact HBS.out) (by decide) (by omega) (by rw [World.size_alloc]; omega) ?_; intro v' w' h1 h2; have HFF := HF.out [c] _ v' w' HZ.out h1 h2; clear h1 h2)
        go_roundw
        case rel => exact ⟨j + 1, by omega, by go_num, HFF.1, HFF.2⟩
        case measure => simp [intOf]; omega
    · have hjI : ¬ (j : Int) < (n : Int) := by omega
      have hb := nz_take HYY.out j
      rw [List.take_of_length_le (by have := HN.out; omega)] at HO hb
      have hcv := fr_text HO.out hb.1
      clear hb
      go_wp2_with fail
      go_ret
      exact ⟨rfl, HB.out⟩
end Go.Proofs.YtkeogggeefnoeaaGreatDoor
namespace Go.Proofs.YtkeogggeefnoeaaGreatDoor
set_option linter.unusedSimpArgs false
open Go.RowKit Go.Shelf
set_option linter.unusedVariables false
set_option maxRecDepth 100000

/-! ScriptNoise. -/
theorem lnsv_le : ∀ (ls : List (List Nat)) (s : Option Scr) (i : Nat), (lnsv s i ls).2.1 ≤ i + ls.length
  | [], s, i => by
    cases s <;> (show 0 ≤ _; omega)
  | l :: ls, s, i => by
    rw [lnsv]
    split
    · show i ≤ _
      omega
    · have := lnsv_le ls (by assumption) (i + 1)
      rw [List.length_cons]
      omega
theorem scrv_le (t : List Nat) : (scrv t).2.1 ≤ t.length + 2 := by
  unfold scrv
  split
  · exact Nat.zero_le _
  · have h1 := lnsv_le (cutL [] t) none 1
    have h2 := cutL_many t []
    omega
theorem noisy_byte {t : List Nat} (hy : ∀ x ∈ t, x < 256) : ∀ x ∈ noisyT t, x < 256 := fun x hx => by
  have := (nz_take hy t.length).1 x
  rw [List.take_length] at this
  exact this hx
set_option maxHeartbeats 8000000 in
theorem scriptNoise_ (t : List Nat) (hy : ∀ x ∈ t, x < 256) (hl : t.length ≤ 140737488355328) (w : World) (hq : Tq w) : Calls Tryz.prog 5 #[.string (sb t)] w fun e w' => e = .returned (.bool true) ∧ Below w.heap.size w w' := by
  have HQ := hid hq
  have hsx : (sb t).size = t.length := sb_size t
  have KP := hid fun wx : World => plain_ t hy hl wx
  have k1 := scr_first w hq
  have HY := hid hy
  obtain ⟨X, HX⟩ : ∃ z, Hid (sb t = z) := ⟨_, rfl⟩
  rw [HX.out] at hsx KP ⊢
  clear hq hy
  by_cases hbig : 60000 < t.length
  · have hi : (60000 : Int) < (X.size : Int) := by omega
    clear KP hsx
    go_enter Tryz.func5, Tryz.ntmps5
    go_wp2_with fail
    refine k1.mono ?_
    rintro e w1 ⟨rfl, g1⟩
    have HB := hid g1
    clear g1 k1
    go_wp2_with fail
    go_ret
    exact ⟨rfl, HB.out⟩
  have hi : decide ((60000 : Int) < (X.size : Int)) = false := decide_eq_false (by omega)
  by_cases hpl : plainT t = true
  case neg =>
    have hpl : plainT t = false := by simpa using hpl
    rw [hpl] at KP
    clear hsx hbig hpl
    go_enter Tryz.func5, Tryz.ntmps5
    go_wp2_with fail
    refine k1.mono ?_
    rintro e w1 ⟨rfl, g1⟩
    have HB := hid g1
    clear g1 k1
    go_wp2_with fail
    refine (KP.out _).mono ?_
    rintro e _ ⟨rfl, rfl⟩
    go_wp2_with fail
    go_ret
    exact ⟨rfl, HB.out⟩
  rw [hpl] at KP
  have hlb : t.length ≤ 60000 := by omega
  have hnz := scr_noise t hlb hpl
  have hL := scrv_L t
  have hle := scrv_le t
  have KN := hid fun wx : World => noisy_ t HY.out hlb wx
  rw [HX.out] at KN
  obtain ⟨Z, HZ⟩ : ∃ z, Hid (sb (noisyT t) = z) := ⟨_, rfl⟩
  rw [HZ.out] at KN
  obtain ⟨⟨⟨sec, ops⟩, ln, er⟩, HR⟩ : ∃ r : Scr × Nat × Nat, Hid (scrv t = r) := ⟨_, rfl⟩
  rw [HR.out] at hL hnz hle
  obtain ⟨hs1, hs2, hs3⟩ := hL
  simp only at hs1 hs2 hs3 hle
  have H3 := hid hs3
  obtain ⟨n, HN⟩ : ∃ z, Hid (ops.length = z) := ⟨_, rfl⟩
  have hn : n ≤ 2000 := by have := HN.out; omega
  obtain ⟨E, HE⟩ : ∃ z : Int, Hid ((er : Int) = z) := ⟨_, rfl⟩
  obtain ⟨L, HL⟩ : ∃ z : Int, Hid ((ln : Int) = z) := ⟨_, rfl⟩
  obtain ⟨M, HM⟩ : ∃ z : Int, Hid ((((if ln = 0 then 0 else 2 * ln - 1 : Nat)) : Int) = z) := ⟨_, rfl⟩
  have K2 := hid fun wx (h : Tq wx) => scr_parseL t HY.out sec ops ln er n HR.out HN.out L E HL.out HE.out wx h
  have K3 := hid fun wx (h : Tq wx) => scr_parseL (noisyT t) (noisy_byte HY.out) sec ops _ er n hnz HN.out M E HM.out HE.out wx h
  rw [HX.out] at K2
  rw [HZ.out] at K3
  have HLB : Hid (0 ≤ L ∧ L ≤ 60002) := by show _ ∧ _; have := HL.out; omega
  have HML : Hid (M = if L = 0 then 0 else 2 * L - 1) := by
    show _ = _
    rw [← HM.out, ← HL.out]
    by_cases h0 : ln = 0
    · rw [if_pos h0, if_pos (by omega)]; rfl
    · rw [if_neg h0, if_neg (by omega)]; omega
  clear hnz hs1 hs2 hs3 hle hsx hlb hbig hl hpl
  have HNN := hid hn
  clear hn
  go_enter Tryz.func5, Tryz.ntmps5
  go_wp2_with fail
  refine k1.mono ?_
  rintro e w1 ⟨rfl, g1⟩
  have HB := hid g1
  have k2 := K2.out w1 (HQ.out.kept g1)
  clear g1 k1 K2
  go_wp2_with fail
  refine (KP.out _).mono ?_
  rintro e _ ⟨rfl, rfl⟩
  go_wp2_with fail
  refine k2.mono ?_
  rintro e w2 ⟨⟨a, p, rfl, ho⟩, g2⟩
  have b3 : Below w2.heap.size w2 (w2.alloc (.cells #[.int .i64 sec, .slice a n p] 24)) := (Below.refl _ _).alloc (Nat.le_refl _) _
  have HB3 := hid (bel_bel (bel_bel HB.out HB.out.size g2) (bel_bel HB.out HB.out.size g2).size b3)
  have HO3 := hid (ho.on b3)
  have HY3 := hid (Yx.new w2 24 [.int .i64 sec, .slice a n p])
  have k3 := KN.out (w2.alloc (.cells #[.int .i64 sec, .slice a n p] 24))
  clear k2 g2 ho HB b3 KN
  go_wp2_with fail
  refine k3.mono ?_
  rintro e w4 ⟨rfl, g4⟩
  have HB4 := hid (bel_bel HB3.out HB3.out.size g4)
  have HO4 := hid (HO3.out.on g4)
  have HY4 : Hid (Yx w4 w2.heap.size 24 [.int .i64 sec, .slice a n p]) := HY3.out.on g4
  have k4 := K3.out w4 (HQ.out.kept HB4.out)
  clear k3 g4 HB3 HO3 HY3 K3
  go_wp2_with fail
  refine k4.mono ?_
  rintro e w5 ⟨⟨a', p', rfl, ho⟩, g5⟩
  have b6 : Below w5.heap.size w5 (w5.alloc (.cells #[.int .i64 sec, .slice a' n p'] 24)) := (Below.refl _ _).alloc (Nat.le_refl _) _
  have g6 := bel_bel g5 g5.size b6
  have HB6 := hid (bel_bel HB4.out HB4.out.size g6)
  have k6 := scr_same sec a a' n p p' ops _ (HO4.out.on g6) (ho.on b6) (fun x hx => (H3.out x hx).opn) (by have := HNN.out; omega)
  have y0 := Yx.new w5 24 [.int .i64 sec, .slice a' n p']
  have y1 : Yx (w5.alloc (.cells #[.int .i64 sec, .slice a' n p'] 24)) w2.heap.size 24 [.int .i64 sec, .slice a n p] := HY4.out.on g6
  have c0 := y0.cell 0
  have c1 := y0.cell 1
  have d0 := y1.cell 0
  have d1 := y1.cell 1
  simp only [List.getElem?_cons_succ, List.getElem?_cons_zero] at c0 c1 d0 d1
  clear k4 g5 b6 g6 ho HO4 HY4 HB4 y0 y1
  go_wp2_with fail
  clear c0 c1 d0 d1
  refine k6.mono ?_
  rintro e w7 ⟨rfl, g7⟩
  have HB7 := hid (bel_bel HB6.out HB6.out.size g7)
  clear k6 g7 HB6
  go_wp2_with fail
  refine (scr_num _ _).mono ?_
  rintro e _ ⟨rfl, rfl⟩
  by_cases h0 : L = 0
  · have hm : M = 0 := by rw [HML.out, if_pos h0]
    subst hm
    subst h0
    by_cases he : E = 227
    · subst he
      go_wp2_with fail
      refine (scr_num _ _).mono ?_
      rintro e _ ⟨rfl, rfl⟩
      go_wp2_with fail
      refine (scr_num _ _).mono ?_
      rintro e _ ⟨rfl, rfl⟩
      go_wp2_with fail
      go_ret
      exact ⟨rfl, HB7.out⟩
    · have e1 : (E == 227) = false := by simpa using he
      clear he
      go_wp2_with fail
      refine (scr_num _ _).mono ?_
      rintro e _ ⟨rfl, rfl⟩
      go_wp2_with fail
      refine (scr_num _ _).mono ?_
      rintro e _ ⟨rfl, rfl⟩
      go_wp2_with fail
      go_ret
      exact ⟨rfl, HB7.out⟩
  · have e0 : (L == 0) = false := by simpa using h0
    have hm : M = 2 * L - 1 := by rw [HML.out, if_neg h0]
    have hw1 : IntKind.i64.wrap (2 * L) = 2 * L := by rw [IntKind.wrap_i64]; have := HLB.out; omega
    have hw2 : IntKind.i64.wrap (2 * L - 1) = M := by rw [IntKind.wrap_i64]; have := HLB.out; omega
    clear hm h0
    by_cases he : E = 227
    · subst he
      go_wp2_with fail
      refine (scr_num _ _).mono ?_
      rintro e _ ⟨rfl, rfl⟩
      go_wp2_with fail
      refine (scr_num _ _).mono ?_
      rintro e _ ⟨rfl, rfl⟩
      go_wp2_with fail
      go_ret
      exact ⟨rfl, HB7.out⟩
    · have e1 : (E == 227) = false := by simpa using he
      clear he
      go_wp2_with fail
      refine (scr_num _ _).mono ?_
      rintro e _ ⟨rfl, rfl⟩
      go_wp2_with fail
      refine (scr_num _ _).mono ?_
      rintro e _ ⟨rfl, rfl⟩
      go_wp2_with fail
      go_ret
      exact ⟨rfl, HB7.out⟩
end Go.Proofs.YtkeogggeefnoeaaGreatDoor
