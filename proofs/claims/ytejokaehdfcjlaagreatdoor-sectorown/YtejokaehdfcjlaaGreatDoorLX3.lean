import Derived.Test.YtejokaehdfcjlaaGreatDoorL5
import Derived.Test.YtejokaehdfcjlaaGreatDoorKTold
import Derived.Test.YtejokaehdfcjlaaGreatDoorSRow
namespace Go.Proofs.YtejokaehdfcjlaaGreatDoor.Kp
set_option maxRecDepth 100000
open Go.RowKit
set_option linter.unusedVariables false

theorem below_wz {p : Nat → Nat → Prop} {w w' : World} {B : Nat} (z : Wz p w w') (h : ∀ b, b < B → w'.heap[b]? = w.heap[b]?) : Below B w w' := ⟨z.os, z.tape, z.output, z.size, h⟩
theorem built_book : Tryz.prog.built 43 [] = some (bookCells 0 (.slice none 0 0) (.slice none 0 0) (.slice none 0 0)) := by kernel_rfl
theorem wpList_book {ops : Array Oper} {rest : List Oper} {o : Oper} {a : Act} {w : World} {Q : Exit → Act → World → Prop} (hg : o.guard = none) (ho : o.op = .build 43 #[])
    (h : wpList Tryz.prog ops Q rest (a.put o.dst (.agg (bookCells 0 (.slice none 0 0) (.slice none 0 0) (.slice none 0 0)))) w) : wpList Tryz.prog ops Q (o :: rest) a w := by
  exact wpList_build hg 43 #[] ho (by simp [built_book]) (by simpa [built_book] using h)
theorem new_book (w : World) : Bk (w.alloc (.cells (bookCells 0 (.slice none 0 0) (.slice none 0 0) (.slice none 0 0)) 43)) w.heap.size 0 (.slice none 0 0) (.slice none 0 0) (.slice none 0 0) := heap_alloc_new w _
theorem bo_start {w : World} {k base : Nat} (h : Bk w k 0 (.slice none 0 0) (.slice none 0 0) (.slice none 0 0)) : Bo w k base 0 0 (fun _ => ⟨none, 0, 0⟩) (fun _ => ⟨none, 0, 0⟩) (.slice none 0 0) (.slice none 0 0) :=
  ⟨h, own_nil _ _ _, own_nil _ _ _, fun q hq => by simp [Value.ownBlock] at hq, fun i hi => by omega, fun i hi => by omega, fun i j hi => by omega⟩

/-- The book in the telling; Tk: the blocks in which what was told lies. -/
structure Ow (w0 w : World) (k m : Nat) (Tk : Nat → Prop) : Prop where
  bo : ∃ E G v2 v3, Bo w k w0.heap.size m m E G v2 v3 ∧ ∀ l, l < m → ∀ b x, (E l).In b x → Tk b ∧ w0.heap.size ≤ b
  kl : w0.heap.size ≤ k
  fr : Below w0.heap.size w0 w
theorem Ow.below {w0 w w' : World} {k m : Nat} {Tk : Nat → Prop} (h : Ow w0 w k m Tk) (hb : Below w.heap.size w w') : Ow w0 w' k m Tk := by
  obtain ⟨E, G, v2, v3, hbo, ht⟩ := h.bo
  exact ⟨⟨E, G, v2, v3, hbo.below (Nat.le_refl _) hb, ht⟩, h.kl, bel_bel h.fr h.fr.size hb⟩
theorem Ow.weak {w0 w : World} {k m : Nat} {Tk Tk' : Nat → Prop} (h : Ow w0 w k m Tk) (ht : ∀ b, b < w.heap.size → Tk b → Tk' b) : Ow w0 w k m Tk' := by
  obtain ⟨E, G, v2, v3, hbo, hl⟩ := h.bo
  exact ⟨⟨E, G, v2, v3, hbo, fun l hi b x hx => ⟨ht b (ok_lt (hbo.e l hi).1 hx) (hl l hi b x hx).1, (hl l hi b x hx).2⟩⟩, h.kl, h.fr⟩
theorem ow_tell {w0 w : World} {k m : Nat} {Tk : Nat → Prop} (h : Ow w0 w k m Tk) (e : Ent) (zs : List Int) (ho : e.Ok w) (hn : e.n ≤ 5000) (hb : Bs w e.a e.n zs) (hf : ∀ b x, e.In b x → ¬ Tk b ∧ w0.heap.size ≤ b) (hm : m ≤ 999) :
    Calls Tryz.prog 13 #[.pointer (some ⟨k, 0, none⟩), .slice e.a e.n e.c] w fun en w' => en = .returned (.tuple #[]) ∧ Ow w0 w' k (m + 1) (fun b => Tk b ∨ ∃ x, e.In b x) ∧ Wz (fun _ _ => False) w w' := by
  obtain ⟨E, G, v2, v3, hbo, hl⟩ := h.bo
  refine (bookBytes5_ k w0.heap.size m E G v2 v3 e zs w hbo ho hn hb (fun i hi b x hx hx' => (hf b x hx').1 (hl i hi b x hx).1) hm h.fr.size h.kl).mono ?_
  rintro en w' ⟨rfl, ⟨f, v2', v3', hbo', _⟩, hz, hs⟩
  refine ⟨rfl, ⟨⟨_, _, v2', v3', hbo', fun l hl' b x hx => ?_⟩, h.kl, h.fr.trans (below_wz hz hs)⟩, hz⟩
  by_cases e1 : l = m
  · subst e1
    rw [upd_same] at hx
    exact ⟨.inr ⟨x, hx⟩, (hf b x hx).2⟩
  · rw [upd_other _ e1] at hx
    exact ⟨.inl (hl l (by omega) b x hx).1, (hl l (by omega) b x hx).2⟩
theorem ow_finish {w0 w : World} {k m : Nat} {Tk : Nat → Prop} (h : Ow w0 w k m Tk) (hm : m ≤ 1000) :
    Calls Tryz.prog 14 #[.pointer (some ⟨k, 0, none⟩)] w fun en w' => en = .returned (.bool true) ∧ Below w0.heap.size w0 w' := by
  obtain ⟨E, G, v2, v3, hbo, hl⟩ := h.bo
  refine (finish5_ k w0.heap.size m E G v2 v3 w hbo.bk hbo.t2 hbo.t3 (fun i hi => (hbo.g i hi).2) hbo.e hbo.d hm ⟨h.kl, h.fr.size, fun l hi b x hx => (hl l hi b x hx).2⟩).mono ?_
  rintro en w' ⟨rfl, hz, hs, _⟩
  exact ⟨rfl, h.fr.trans (below_wz hz hs)⟩
theorem sm_wz {p : Nat → Nat → Prop} {w w' : World} {g : Nat} {T : ByteArray} {e q p' : Int} {v : Value} (h : Sm w g T e q p' v) (z : Wz p w w') (hp : ∀ i, ¬ p g i) : Sm w' g T e q p' v := by
  refine h.at (z.same g h.lt hp (fun cur fr hc => ?_) (fun cur fr hc => ?_))
  · unfold Sm at h
    rw [h] at hc
    simp at hc
  · unfold Sm at h
    rw [h] at hc
    simp at hc
/-- A list in a block of its own. -/
structure En (w : World) (e : Ent) (zs : List Int) (lo hi : Nat) : Prop where
  ok : e.Ok w
  bs : Bs w e.a e.n zs
  lo : ∀ b x, e.In b x → lo ≤ b
  hi : ∀ b x, e.In b x → b < hi
theorem En.wz {w w' : World} {e : Ent} {zs : List Int} {lo hi : Nat} (h : En w e zs lo hi) (z : Wz (fun _ _ => False) w w') : En w' e zs lo hi := ⟨h.ok.wz z, bs_wz h.bs h.ok z fun _ _ _ h => h, h.lo, h.hi⟩
theorem En.below {w w' : World} {e : Ent} {zs : List Int} {lo hi : Nat} (h : En w e zs lo hi) (hb : Below w.heap.size w w') : En w' e zs lo hi := h.wz (.ofWk (.ofBelow hb))
theorem En.own {w : World} {base n : Nat} {v : Value} {zs : List Int} (h : w.ownsRow base 5 1 v n (cells zs)) (hb : ∀ z ∈ zs, 0 ≤ z ∧ z ≤ 255) (hn : n ≤ 5000) : ∃ a c, v = .slice a n c ∧ En w ⟨a, n, c⟩ zs base w.heap.size := by
  obtain ⟨a, c, rfl, h1, h2, h3⟩ := own_ent h hb (by omega)
  exact ⟨a, c, rfl, h1, h2, h3, fun b x hx => ok_lt h1 hx⟩
theorem En.row {w : World} {g n B : Nat} {l : List Int} (h : Go.Proofs.YtejokaehdfcjlaaGreatDoor.Row w g l) (hb : ∀ z ∈ l, 0 ≤ z ∧ z ≤ 255) (hl : l.length = n) (hB : B ≤ g) (hn : n ≤ 5000) : En w ⟨some ⟨g, 0, none⟩, n, n⟩ l B w.heap.size := by
  have hk : Ent.Ok w ⟨some ⟨g, 0, none⟩, n, n⟩ := ⟨Nat.le_refl _, by show n ≤ maxLen; unfold maxLen; omega, by show n ≤ 100000; omega, fun h => (by cases h), .inr ⟨g, 0, _, rfl, h, by simp [cells, hl]⟩⟩
  refine ⟨hk, (h.bs hb).len hl, fun b x hx => ?_, fun b x hx => ok_lt hk hx⟩
  obtain ⟨off, e, _⟩ := hx
  cases e
  exact hB
/-- A list of sectors that came in. -/
def IsSs (w : World) (a : Option Addr) (n : Nat) (S : Nat → Sec) (A : Nat → Option Addr) (N C : Nat → Nat) : Prop :=
  n = 0 ∨ ∃ b off, a = some ⟨b, off, none⟩ ∧ ∀ i, i < n → (w.cell? ⟨b, off + i * 5, none⟩ = some (.string (S i).T) ∧ w.cell? ⟨b, off + i * 5 + 1, none⟩ = some (.int .i64 (S i).e) ∧ w.cell? ⟨b, off + i * 5 + 2, none⟩ = some (.int .i64 (S i).q) ∧ w.cell? ⟨b, off + i * 5 + 3, none⟩ = some (.int .i64 (S i).p) ∧ w.cell? ⟨b, off + i * 5 + 4, none⟩ = some (.slice (A i) (N i) (C i))) ∧ Bs w (A i) (N i) (S i).l
end Go.Proofs.YtejokaehdfcjlaaGreatDoor.Kp
namespace Go.Proofs.YtejokaehdfcjlaaGreatDoor.Kp
set_option maxRecDepth 100000
open Go.RowKit
set_option linter.unusedVariables false

set_option maxHeartbeats 16000000 in
theorem sectorOwn_ (a : Option Addr) (n c : Nat) (S : Nat → Sec) (A : Nat → Option Addr) (N C : Nat → Nat) (w : World) (hT : Tab w) (hnc : n ≤ c ∧ c ≤ maxLen) (hL : IsSs w a n S A N C) :
    Calls Tryz.prog 3 #[.slice a n c] w fun en w' => en = .returned (.bool true) ∧ Below w.heap.size w w' := by
  have HL := hid hL
  have hn := hnc.1
  have hc := hnc.2
  unfold maxLen at hc
  clear hL hnc
  have HT := hid hT
  go_enter Tryz.func3, Tryz.ntmps3
  go_wp2_with fail
  refine (first_ w hT).mono ?_
  rintro e w1 ⟨rfl, B0⟩
  clear hT
  go_wp2_with (refine wpList_book rfl rfl ?_)
  generalize hbc : bookCells 0 (.slice none 0 0) (.slice none 0 0) (.slice none 0 0) = bc at *
  have NB : Bk (w1.alloc (.cells bc 43)) w1.heap.size 0 (.slice none 0 0) (.slice none 0 0) (.slice none 0 0) := by rw [← hbc]; exact new_book w1
  have hk : w.heap.size ≤ w1.heap.size := B0.size
  replace B0 : Below w.heap.size w (w1.alloc (.cells bc 43)) := B0.alloc B0.size _
  clear hbc
  generalize w1.heap.size = k at *
  generalize w1.alloc (.cells bc 43) = w2 at *
  have b0 : Ow w w2 k 0 (fun _ => True) := ⟨⟨_, _, _, _, bo_start NB, fun l hl => by omega⟩, hk, B0⟩
  clear NB B0
  go_loopw [5] (fun i wr => ∃ (j m : Nat), j ≤ 30 ∧ j ≤ n ∧ m ≤ 7 * j ∧ i = .int .i64 j ∧ Ow w wr k m (fun _ => True)) (fun i _ => 30 - (intOf i).toNat)
  case atStart => exact ⟨0, 0, by omega, by omega, by omega, rfl, b0⟩
  case round =>
    clear b0
    obtain ⟨j, m, hj30, hjn, hm7, rfl, b0⟩ := hrel
    by_cases hlt : j < n ∧ j < 30
    · obtain ⟨hl1, hl2⟩ := hlt
      have hI1 : (j : Int) < (n : Int) := by omega
      have hI2 : (j : Int) < 30 := by omega
      obtain ⟨b, off, rfl, HC⟩ : ∃ b off, a = some ⟨b, off, none⟩ ∧ Hid (∀ i, i < n → (w.cell? ⟨b, off + i * 5, none⟩ = some (.string (S i).T) ∧ w.cell? ⟨b, off + i * 5 + 1, none⟩ = some (.int .i64 (S i).e) ∧ w.cell? ⟨b, off + i * 5 + 2, none⟩ = some (.int .i64 (S i).q) ∧ w.cell? ⟨b, off + i * 5 + 3, none⟩ = some (.int .i64 (S i).p) ∧ w.cell? ⟨b, off + i * 5 + 4, none⟩ = some (.slice (A i) (N i) (C i))) ∧ Bs w (A i) (N i) (S i).l) := by
        rcases HL.out with h | ⟨b, off, e, h⟩
        · omega
        · exact ⟨b, off, e, h⟩
      obtain ⟨⟨d0, d1, d2, d3, d4⟩, hY⟩ := HC.out j hl1
      have hbl : b < w.heap.size := World.block_lt_of_cell? w _ d0
      clear HL HC
      generalize S j = s at *
      generalize A j = aj at *
      generalize N j = nj at *
      generalize C j = cj at *
      have HY := hid hY
      clear hY
      have HS : Hid (s.l.length = nj) := HY.out.1
      have c0 := (b0.fr.cell hbl).trans d0
      have c1 := (b0.fr.cell hbl).trans d1
      have c2 := (b0.fr.cell hbl).trans d2
      have c3 := (b0.fr.cell hbl).trans d3
      have c4 := (b0.fr.cell hbl).trans d4
      have m0 := Sm.new wr s.T s.e s.q s.p (.slice aj nj cj)
      have A0 : Below wr.heap.size wr (wr.alloc (.cells #[.string s.T, .int .i64 s.e, .int .i64 s.q, .int .i64 s.p, .slice aj nj cj] 46)) := (Below.refl _ _).alloc (Nat.le_refl _) _
      have W0 := hid (b0.below A0)
      have M0 := hid m0
      have e0 := m0.c0
      have e1 := m0.c1
      have e2 := m0.c2
      have e3 := m0.c3
      have e4 := m0.c4
      clear d0 d1 d2 d3 d4 hbl b0 A0 m0
      by_cases hM : MayN s.T s.e s.q s.p nj
      · obtain ⟨wo, rfl⟩ : ∃ wo, wo = wr := ⟨_, rfl⟩
        go_wp2_with fail
        refine (may_y s.T s.e s.q s.p aj nj cj _ hM).mono ?_
        rintro x3 w3 ⟨rfl, g3⟩
        have W3 := hid (W0.out.below g3)
        have M3 := hid (M0.out.kept g3)
        clear c0 c1 c2 c3 c4 e0 e1 e2 e3 e4 W0 M0 g3
        generalize wo.heap.size = gv at *
        have e0 := M3.out.c0
        have e1 := M3.out.c1
        have e2 := M3.out.c2
        have e3 := M3.out.c3
        have e4 := M3.out.c4
        go_wp2_with fail
        refine (refPut_y s.T s.e s.q s.p aj nj cj s.l w3 (HY.out.below W3.out.fr) hM).mono ?_
        rintro x4 w4 ⟨v, rfl, o4, g4⟩
        have HM : Hid (May s) := (may_n HS.out).2 hM
        have HPY : Hid (By (ps s)) := ps_by HY.out.2.1
        obtain ⟨la, lc, rfl, E4⟩ := En.own o4 HPY.out (by omega)
        have hs4 := g4.size
        have HW3 := hid W3.out.fr.size
        have W4 := hid ((W3.out.weak (Tk' := fun b => b < w3.heap.size ∨ w4.heap.size ≤ b) (fun b hb _ => .inl hb)).below g4)
        have M4 := hid (M3.out.kept g4)
        have EL := hid E4
        clear e0 e1 e2 e3 e4 W3 M3 o4 E4 g4
        have HGS : Hid (gs (ps s) = some s) := gs_ps HM.out HY.out.2.1
        have HPL : Hid ((ps s).length = 512) := ps_length HM.out
        have hnj : nj ≤ 480 := hM.2.2.2.2
        go_wp2_with fail
        go_loopw [9] (fun i wr => ∃ q : Nat, q ≤ 2 ∧ i = .int .i64 q ∧ Ow w wr k (m + 3 * q) (fun b => b < w3.heap.size ∨ w4.heap.size ≤ b) ∧ Sm wr gv s.T s.e s.q s.p (.slice aj nj cj) ∧ En wr ⟨la, 512, lc⟩ (ps s) w3.heap.size w4.heap.size ∧ w4.heap.size ≤ wr.heap.size) (fun i _ => 2 - (intOf i).toNat)
        case atStart => exact ⟨0, by omega, rfl, W4.out, M4.out, EL.out, Nat.le_refl _⟩
        case round =>
          clear W4 M4 EL
          obtain ⟨q, hq, rfl, b0, m0, en, hs0⟩ := hrel
          by_cases hlq : q < 2
          · have hI : (q : Int) < 2 := by omega
            have B0s := hid b0.fr.size
            have W5 := hid (b0.weak (Tk' := fun b => (b < w3.heap.size ∨ w4.heap.size ≤ b) ∧ b < wr.heap.size) (fun b hb ht => ⟨ht, hb⟩))
            have d0 := m0.c0
            have d1 := m0.c1
            have d2 := m0.c2
            have d3 := m0.c3
            have d4 := m0.c4
            have M5 := hid m0
            have EL := hid en
            clear b0 m0 en
            go_wp2_with fail
            refine (put_y s.T s.e s.q s.p aj nj cj s.l wr (HT.out.below W5.out.fr HT.out.1) (HY.out.below W5.out.fr) hM).mono ?_
            rintro x5 w5 ⟨ga, rfl, hga, r5, g5⟩
            have hs5 := g5.size
            have EA := hid (En.row (n := 512) (B := wr.heap.size) r5 HPY.out HPL.out hga (by omega))
            replace W5 := hid (W5.out.below g5)
            replace M5 := hid (M5.out.kept g5)
            replace EL := hid (EL.out.below g5)
            clear r5 g5 d0 d1 d2 d3 d4
            go_wp2_with fail
            refine (get_y la 512 lc (ps s) w5 (HT.out.below W5.out.fr HT.out.1) EL.out.bs EL.out.ok.1 EL.out.ok.2.1 s HGS.out).mono ?_
            rintro x6 w6 ⟨gg, rfl, hgg, r6, g6⟩
            simp only [HS.out]
            have hs6 := g6.size
            have A6 : Below w6.heap.size w6 (w6.alloc (.cells #[.string s.T, .int .i64 s.e, .int .i64 s.q, .int .i64 s.p, .slice (some ⟨gg, 0, none⟩) nj nj] 46)) := (Below.refl _ _).alloc (Nat.le_refl _) _
            have EG := hid ((En.row (n := nj) (B := w5.heap.size) r6 HY.out.2.1 HS.out hgg (by omega)).below A6)
            have hsA := A6.size
            replace W5 := hid ((W5.out.below g6).below A6)
            replace M5 := hid ((M5.out.kept g6).kept A6)
            replace EL := hid ((EL.out.below g6).below A6)
            replace EA := hid ((EA.out.below g6).below A6)
            have MG := hid (Sm.new w6 s.T s.e s.q s.p (.slice (some ⟨gg, 0, none⟩) nj nj))
            have d0 := M5.out.c0
            have d1 := M5.out.c1
            have d2 := M5.out.c2
            have d3 := M5.out.c3
            clear r6 g6 A6
            go_wp2_with fail
            generalize hg6 : w6.heap.size = gw at *
            generalize w6.alloc _ = w7 at *
            refine (right_y s.T s.e s.q s.p s.l la 512 lc (ps s) w7 (HT.out.below W5.out.fr HT.out.1) EL.out.bs EL.out.ok.1 EL.out.ok.2.1 HGS.out).mono ?_
            rintro x8 w8 ⟨gc, rfl, hgc, r8, g8⟩
            simp only [HS.out]
            have hs8 := g8.size
            have EC := hid (En.row (n := nj) (B := w7.heap.size) r8 HY.out.2.1 HS.out hgc (by omega))
            replace W5 := hid (W5.out.below g8)
            replace M5 := hid (M5.out.kept g8)
            replace EL := hid (EL.out.below g8)
            replace EA := hid (EA.out.below g8)
            replace EG := hid (EG.out.below g8)
            replace MG := hid (MG.out.kept g8)
            clear r8 g8 d0 d1 d2 d3
            go_wp2_with fail
            refine (same_yes (some ⟨ga, 0, none⟩) la 512 512 512 lc (ps s) w8 EA.out.bs EL.out.bs (by omega) (by omega)).mono ?_
            rintro x9 w9 ⟨rfl, D9⟩
            have g9 := D9.below
            have hs9 := g9.size
            replace W5 := hid (W5.out.below g9)
            replace M5 := hid (M5.out.kept g9)
            replace EL := hid (EL.out.below g9)
            replace EA := hid (EA.out.below g9)
            replace EG := hid (EG.out.below g9)
            replace EC := hid (EC.out.below g9)
            replace MG := hid (MG.out.kept g9)
            have d0 := M5.out.c0
            have d1 := M5.out.c1
            have d2 := M5.out.c2
            have d3 := M5.out.c3
            have d4 := M5.out.c4
            have f0 := MG.out.c0
            have f1 := MG.out.c1
            have f2 := MG.out.c2
            have f3 := MG.out.c3
            have f4 := MG.out.c4
            clear g9 D9
            go_wp2_with fail
            refine (alike_y s.T s.e s.q s.p (some ⟨gg, 0, none⟩) aj nj nj nj cj s.l w9 EG.out.bs (HY.out.below W5.out.fr) (by omega) (by omega)).mono ?_
            rintro xa wa ⟨rfl, ga9⟩
            have hsa := ga9.size
            replace W5 := hid (W5.out.below ga9)
            replace M5 := hid (M5.out.kept ga9)
            replace EL := hid (EL.out.below ga9)
            replace EA := hid (EA.out.below ga9)
            replace EG := hid (EG.out.below ga9)
            replace EC := hid (EC.out.below ga9)
            replace MG := hid (MG.out.kept ga9)
            clear ga9 d0 d1 d2 d3 d4 f0 f1 f2 f3 f4
            have d4 := M5.out.c4
            go_wp2_with fail
            refine (same_yes (some ⟨gc, 0, none⟩) aj nj nj nj cj s.l wa EC.out.bs (HY.out.below W5.out.fr) (by omega) (by omega)).mono ?_
            rintro xb wb ⟨rfl, Db⟩
            have gb9 := Db.below
            have hsb := gb9.size
            replace W5 := hid (W5.out.below gb9)
            replace M5 := hid (M5.out.kept gb9)
            replace EL := hid (EL.out.below gb9)
            replace EA := hid (EA.out.below gb9)
            replace EG := hid (EG.out.below gb9)
            replace EC := hid (EC.out.below gb9)
            replace MG := hid (MG.out.kept gb9)
            clear gb9 Db d4
            go_wp2_with (go_at_call 12; refine (num_ _ _).mono ?_; rintro xn wn ⟨rfl, hw⟩; obtain rfl := hw.symm)
            have hwz := HT.out.1
            have hww := W5.out.fr.size
            refine (ow_tell W5.out ⟨some ⟨ga, 0, none⟩, 512, 512⟩ (ps s) EA.out.ok (by show 512 ≤ 5000; omega) EA.out.bs (fun b x hx => by have := EA.out.lo b x hx; have := B0s.out; omega) (by omega)).mono ?_
            rintro xc wc ⟨rfl, W6, z6⟩
            have M6 := hid (sm_wz M5.out z6 (fun _ h => h))
            have MG6 := hid (sm_wz MG.out z6 (fun _ h => h))
            have EL6 := hid (EL.out.wz z6)
            have EG6 := hid (EG.out.wz z6)
            have EC6 := hid (EC.out.wz z6)
            have W6H := hid W6
            have f4 := MG6.out.c4
            have hz6 := z6.size
            clear W6 z6 W5 M5 MG EL EG EC
            go_wp2_with fail
            refine (ow_tell W6H.out ⟨some ⟨gg, 0, none⟩, nj, nj⟩ s.l EG6.out.ok (by show nj ≤ 5000; omega) EG6.out.bs (fun b x hx => by
              have l1 := EG6.out.lo b x hx
              have := B0s.out
              refine ⟨fun h => ?_, by omega⟩
              rcases h with h | ⟨y, hy⟩
              · omega
              · have := EA.out.hi b y hy
                omega) (by omega)).mono ?_
            rintro xd wd ⟨rfl, W7, z7⟩
            have M7 := hid (sm_wz M6.out z7 (fun _ h => h))
            have EL7 := hid (EL6.out.wz z7)
            have EC7 := hid (EC6.out.wz z7)
            have W7H := hid W7
            have hz7 := z7.size
            clear W7 z7 W6H M6 MG6 EL6 EC6 f4
            go_wp2_with fail
            refine (ow_tell W7H.out ⟨some ⟨gc, 0, none⟩, nj, nj⟩ s.l EC7.out.ok (by show nj ≤ 5000; omega) EC7.out.bs (fun b x hx => by
              have l1 := EC7.out.lo b x hx
              have := B0s.out
              refine ⟨fun h => ?_, by omega⟩
              rcases h with (h | ⟨y, hy⟩) | ⟨y, hy⟩
              · omega
              · have := EA.out.hi b y hy
                omega
              · have := EG6.out.hi b y hy
                omega) (by omega)).mono ?_
            rintro xe we ⟨rfl, W8, z8⟩
            have M8 := hid (sm_wz M7.out z8 (fun _ h => h))
            have EL8 := hid (EL7.out.wz z8)
            have hz8 := z8.size
            have W9 := hid (W8.weak (Tk' := fun b => b < w3.heap.size ∨ w4.heap.size ≤ b) (fun b _ h => by
              rcases h with ((h | ⟨y, hy⟩) | ⟨y, hy⟩) | ⟨y, hy⟩
              · exact h.1
              · have := EA.out.lo b y hy
                omega
              · have := EG6.out.lo b y hy
                omega
              · have := EC7.out.lo b y hy
                omega))
            clear W8 z8 W7H M7 EL7 EC7 EG6 EA B0s
            have e3 : m + 3 * (q + 1) = m + 3 * q + 1 + 1 + 1 := by omega
            go_wp2_with fail
            go_roundw
            case rel => exact ⟨q + 1, by omega, by go_num, by rw [e3]; exact W9.out, M8.out, EL8.out, by omega⟩
            case measure => simp [intOf]; omega
          · have hI : ¬ (q : Int) < 2 := by omega
            obtain rfl : q = 2 := by omega
            have WB := hid b0
            have EN := hid en
            clear b0 en m0
            go_wp2_with fail
            refine (ow_tell WB.out ⟨la, 512, lc⟩ (ps s) EN.out.ok (by show 512 ≤ 5000; omega) EN.out.bs (fun b x hx => by
              have := EN.out.lo b x hx
              have := EN.out.hi b x hx
              have := HW3.out
              exact ⟨fun h => by omega, by omega⟩) (by omega)).mono ?_
            rintro xe we ⟨rfl, W8, z8⟩
            have W9 := hid (W8.weak (Tk' := fun _ => True) (fun b _ h => trivial))
            clear W8 z8 WB EN
            go_wp2_with fail
            go_roundw
            case rel => exact ⟨j + 1, m + 3 * 2 + 1, by omega, by omega, by omega, by go_num, W9.out⟩
            case measure => simp [intOf]; omega
      · go_wp2_with fail
        refine (lmay_n s.T s.e s.q s.p aj nj cj _ hM).mono ?_
        rintro x3 w3 ⟨rfl, g3⟩
        have W3 := hid (W0.out.below g3)
        clear c0 c1 c2 c3 c4 e0 e1 e2 e3 e4 W0 M0 g3
        go_wp2_with fail
        go_roundw
        case rel => exact ⟨j + 1, m, by omega, by omega, by omega, by go_num, W3.out⟩
        case measure => simp [intOf]; omega
    · have HW := hid b0
      clear b0
      by_cases hjn2 : j < n
      · have hI1 : (j : Int) < (n : Int) := by omega
        have hI2 : ¬ (j : Int) < 30 := by omega
        go_wp2_with fail
        refine (ow_finish HW.out (by omega)).mono ?_
        rintro e w3 ⟨rfl, B3⟩
        go_wp2_with fail
        refine (first_ w3 (HT.out.below B3 HT.out.1)).mono ?_
        rintro e w4 ⟨rfl, g4⟩
        have B4 := bel_bel B3 B3.size g4
        go_wp2_with fail
        go_ret
        exact ⟨rfl, B4⟩
      · have hI1 : ¬ (j : Int) < (n : Int) := by omega
        go_wp2_with fail
        refine (ow_finish HW.out (by omega)).mono ?_
        rintro e w3 ⟨rfl, B3⟩
        go_wp2_with fail
        refine (first_ w3 (HT.out.below B3 HT.out.1)).mono ?_
        rintro e w4 ⟨rfl, g4⟩
        have B4 := bel_bel B3 B3.size g4
        go_wp2_with fail
        go_ret
        exact ⟨rfl, B4⟩
end Go.Proofs.YtejokaehdfcjlaaGreatDoor.Kp
namespace Go.Proofs.YtejokaehdfcjlaaGreatDoor.Kp
set_option maxRecDepth 100000
open Go.ChangeShapes Go.WideShapes Go.ChangeAt Go.RowKit Go.Deep
set_option linter.unusedVariables false

theorem cells_five {w : World} {base : Nat} {x : Addr} {cs : List Value} (h : w.cells? base x 5 = some cs) : ∃ c0 c1 c2 c3 c4, cs = [c0, c1, c2, c3, c4] ∧ w.cell? (x.add 0) = some c0 ∧ w.cell? (x.add 1) = some c1 ∧ w.cell? (x.add 2) = some c2 ∧ w.cell? (x.add 3) = some c3 ∧ w.cell? (x.add 4) = some c4 := by
  unfold World.cells? at h
  split at h
  · simp only [List.range, List.range.loop, List.mapM_cons, List.mapM_nil, Option.bind_eq_bind, Option.pure_def, Option.bind_eq_some_iff] at h
    obtain ⟨c0, h0, y, ⟨c1, h1, y1, ⟨c2, h2, y2, ⟨c3, h3, y3, ⟨c4, h4, u, e5, e4⟩, e3⟩, e2⟩, e1⟩, e0⟩ := h
    simp at e0 e1 e2 e3 e4 e5
    subst e5 e4 e3 e2 e1 e0
    exact ⟨c0, c1, c2, c3, c4, rfl, h0, h1, h2, h3, h4⟩
  · cases h
theorem open_secs {H : Type} {enc : TypeId × Value → H} {w : World} {base : Nat} {held : Bool} {fuel n c : Nat} {a : Option Addr} {x : DataW H × List MemPlace}
    (h : DataW.trod enc Tryz.prog w base (fun _ => true) held fuel 22 [.slice a n c] = some x) : (n ≤ c ∧ c ≤ maxLen) ∧ ∃ S A N C, IsSs w a n S A N C := by
  rcases open_slice Tryz.underlying22 h with ⟨hcs, _⟩ | ⟨x, len, cap, m, nn, D, Pl, hcs, _, hl, hm, hme, _, hel⟩
  · simp at hcs
    obtain ⟨rfl, rfl, rfl⟩ := hcs
    exact ⟨⟨Nat.le_refl _, by unfold maxLen; omega⟩, fun _ => zs0, fun _ => none, fun _ => 0, fun _ => 0, .inl rfl⟩
  · simp at hcs
    obtain ⟨rfl, rfl, rfl⟩ := hcs
    refine ⟨⟨hl, hm⟩, ?_⟩
    by_cases h0 : n = 0
    · exact ⟨fun _ => zs0, fun _ => none, fun _ => 0, fun _ => 0, .inl h0⟩
    have hnm : n ≤ m := by rw [hme]; split <;> omega
    have key : ∀ i, i < n → ∃ y : Sec × Option Addr × Nat × Nat, (w.cell? ((x.add (i * 5)).add 0) = some (.string y.1.T) ∧ w.cell? ((x.add (i * 5)).add 1) = some (.int .i64 y.1.e) ∧ w.cell? ((x.add (i * 5)).add 2) = some (.int .i64 y.1.q) ∧ w.cell? ((x.add (i * 5)).add 3) = some (.int .i64 y.1.p) ∧ w.cell? ((x.add (i * 5)).add 4) = some (.slice y.2.1 y.2.2.1 y.2.2.2)) ∧ Bs w y.2.1 y.2.2.1 y.1.l := by
      intro i hi
      obtain ⟨cs', h1, h2⟩ := hel i (by omega)
      rw [cellsSe] at h1
      obtain ⟨c0, c1, c2, c3, c4, rfl, g0, g1, g2, g3, g4⟩ := cells_five h1
      obtain ⟨s, a', n', c', e, hs⟩ := open_five h2
      simp at e
      obtain ⟨rfl, rfl, rfl, rfl, rfl⟩ := e
      exact ⟨(s, a', n', c'), ⟨g0, g1, g2, g3, g4⟩, hs.1⟩
    haveI : Inhabited (Sec × Option Addr × Nat × Nat) := ⟨(zs0, none, 0, 0)⟩
    obtain ⟨f, hf⟩ := choose_lt key
    obtain ⟨b, off, spot⟩ := x
    have hspot : spot = none := by simpa [Addr.add] using World.cell?_spot (hf 0 (by omega)).1.1
    subst hspot
    refine ⟨fun i => (f i).1, fun i => (f i).2.1, fun i => (f i).2.2.1, fun i => (f i).2.2.2, .inr ⟨b, off, rfl, fun i hi => ?_⟩⟩
    have := hf i hi
    simpa only [add_add, Addr.add_lit, Nat.add_zero, Nat.add_assoc] using this
end Go.Proofs.YtejokaehdfcjlaaGreatDoor.Kp
