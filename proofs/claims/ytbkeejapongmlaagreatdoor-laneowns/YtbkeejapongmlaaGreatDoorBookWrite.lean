import Derived.Test.YtbkeejapongmlaaGreatDoorBookTriv
namespace Go.Proofs.YtbkeejapongmlaaGreatDoor.Kp
set_option maxRecDepth 100000
open Go.RowKit
set_option linter.unusedVariables false

/-- A list that is kept. -/
structure Ent where
  a : Option Addr
  n : Nat
  c : Nat
def Ent.val (e : Ent) : Value := .slice e.a e.n e.c
/-- Its room, and its elements. -/
def Ent.In (e : Ent) (b i : Nat) : Prop := ∃ off, e.a = some ⟨b, off, none⟩ ∧ off ≤ i ∧ i < off + e.c
def Ent.El (e : Ent) (b i : Nat) : Prop := ∃ off, e.a = some ⟨b, off, none⟩ ∧ off ≤ i ∧ i < off + e.n
/-- It lies in a block of bytes that may be written. -/
def Ent.Ok (w : World) (e : Ent) : Prop := e.n ≤ e.c ∧ e.c ≤ maxLen ∧ e.n ≤ 100000 ∧ (e.a = none → e.c = 0) ∧ (e.c = 0 ∨ ∃ b off cur, e.a = some ⟨b, off, none⟩ ∧ w.heap[b]? = some (.cells cur 5 (0, 0)) ∧ off + e.c ≤ cur.size)
/-- It shows these bytes. -/
def Ent.Sh (w : World) (e : Ent) (f : Nat → Int) : Prop := e.n = 0 ∨ ∃ b off, e.a = some ⟨b, off, none⟩ ∧ ∀ j, j < e.n → w.cell? ⟨b, off + j, none⟩ = some (.int .u8 (f j))
theorem Ent.Ok.wk {p : Nat → Nat → Prop} {w w' : World} {e : Ent} (h : e.Ok w) (hw : Wk p w w') : e.Ok w' := by
  obtain ⟨h1, h2, h3, h3', h4⟩ := h
  refine ⟨h1, h2, h3, h3', ?_⟩
  rcases h4 with h4 | ⟨b, off, cur, e1, e2, e3⟩
  · exact .inl h4
  · obtain ⟨c1, k1, k2, _⟩ := hw.blk b cur 5 (0, 0) e2
    exact .inr ⟨b, off, c1, e1, k1, by omega⟩
theorem Ent.Sh.wk {p : Nat → Nat → Prop} {w w' : World} {e : Ent} {f : Nat → Int} (h : e.Sh w f) (hw : Wk p w w') (hp : ∀ b i, e.El b i → ¬ p b i) : e.Sh w' f := by
  rcases h with h | ⟨b, off, h1, h2⟩
  · exact .inl h
  · exact .inr ⟨b, off, h1, fun j hj => hw.cell (hp b (off + j) ⟨off, h1, by omega, by omega⟩) (h2 j hj)⟩
theorem Ent.El.blk {w : World} {e : Ent} {b i : Nat} (h : e.El b i) (ho : e.Ok w) : ∃ cur, w.heap[b]? = some (.cells cur 5 (0, 0)) := by
  obtain ⟨off, h1, h2, h3⟩ := h
  obtain ⟨e1, _, _, _, e4⟩ := ho
  rcases e4 with e4 | ⟨b', off', cur, k1, k2, k3⟩
  · omega
  · rw [h1] at k1
    simp at k1
    exact ⟨cur, by rw [k1.1]; exact k2⟩
theorem Ent.El.mem {e : Ent} {b i : Nat} (h : e.El b i) (hn : e.n ≤ e.c) : e.In b i := by
  obtain ⟨off, h1, h2, h3⟩ := h; exact ⟨off, h1, h2, by omega⟩
/-- Apart from one another, spare room too. -/
def Dj (m : Nat) (E : Nat → Ent) : Prop := ∀ i j, i < m → j < m → i ≠ j → ∀ b x, (E i).In b x → ¬ (E j).In b x
def vals (m : Nat) (E : Nat → Ent) : List Value := (List.range m).map fun i => (E i).val
theorem vals_length (m : Nat) (E : Nat → Ent) : (vals m E).length = m := by simp [vals]
theorem vals_get {m : Nat} {E : Nat → Ent} {i : Nat} (h : i < m) : (vals m E)[i]? = some (E i).val := by simp [vals, h]

/-- A table of lists. -/
theorem tab_at {w : World} {base m : Nat} {v : Value} {E : Nat → Ent} (h : w.ownsRow base 22 1 v m (vals m E)) :
    ∃ a c, v = .slice a m c ∧ (m = 0 ∨ ∃ g, a = some ⟨g, 0, none⟩ ∧ (∃ cur, w.heap[g]? = some (.cells cur 22 (0, 0))) ∧ ∀ i, i < m → w.cell? ⟨g, i, none⟩ = some (E i).val) := by
  obtain ⟨h1, h2⟩ := h
  rcases h2 with ⟨rfl, rfl⟩ | ⟨g, cap, cur, rfl, _, hg, hnc, hcm, hs, ht⟩
  · exact ⟨none, 0, rfl, .inl rfl⟩
  · refine ⟨_, cap, rfl, .inr ⟨g, rfl, ⟨cur, hg⟩, fun i hi => ?_⟩⟩
    rw [cell_of_row w g i cur 22 (0, 0) hg]
    have hq := vals_get (E := E) hi
    rw [← ht, Nat.mul_one, List.getElem?_take, if_pos hi] at hq
    simpa using hq
theorem tab_wk {p : Nat → Nat → Prop} {w w' : World} {base m : Nat} {v : Value} {xs : List Value} (h : w.ownsRow base 22 1 v m xs) (hw : Wk p w w') (hp : ∀ b i, p b i → ∃ cur, w.heap[b]? = some (.cells cur 5 (0, 0))) : w'.ownsRow base 22 1 v m xs := by
  obtain ⟨h1, h2⟩ := h
  refine ⟨h1, ?_⟩
  rcases h2 with h2 | ⟨g, cap, cur, rfl, hb, hg, r⟩
  · exact .inl h2
  · refine .inr ⟨g, cap, cur, rfl, hb, hw.blk_of hg fun i hi => ?_, r⟩
    obtain ⟨c1, hc⟩ := hp g i hi
    rw [hg] at hc
    simp at hc
theorem bk_wk {p : Nat → Nat → Prop} {w w' : World} {k : Nat} {ps : Int} {v2 v3 v4 : Value} (h : Bk w k ps v2 v3 v4) (hw : Wk p w w') (hp : ∀ b i, p b i → ∃ cur, w.heap[b]? = some (.cells cur 5 (0, 0))) : Bk w' k ps v2 v3 v4 := by
  refine h.at (hw.same k h.lt fun i hi => ?_)
  obtain ⟨c1, hc⟩ := hp k i hi
  unfold Bk at h
  rw [h] at hc
  simp at hc

theorem wk_drew {p : Nat → Nat → Prop} {w w' : World} (h : Wk p w w') : Wk p w w'.drew := ⟨h.os, h.tape, h.output, h.size, h.same, h.blk⟩
theorem sh_drew {w : World} {e : Ent} {f : Nat → Int} (h : e.Sh w f) : e.Sh w.drew f := h
/-- The cells that a book's lists hold. -/
def Els (m : Nat) (E : Nat → Ent) : Nat → Nat → Prop := fun b x => ∃ i, i < m ∧ (E i).El b x

set_option maxRecDepth 100000 in
set_option maxHeartbeats 1000000 in
theorem bytesWrite_ (k base m : Nat) (ps : Int) (E : Nat → Ent) (v2 v3 v4 : Value) (w : World) (h : Bk w k ps v2 v3 v4) (ht : w.ownsRow base 22 1 v2 m (vals m E)) (hok : ∀ i, i < m → (E i).Ok w) (hdj : Dj m E) (hm : m ≤ 1000) :
    Calls Tryz.prog 47 #[.pointer (some ⟨k, 0, none⟩), .int .i64 0] w fun en w' => en = .returned (.int .i64 m) ∧ Wk (Els m E) w w' ∧ ∀ i, i < m → (E i).Sh w' fun j => mk ps (i + 1) j := by
  have hp5 : ∀ b i, Els m E b i → ∃ cur, w.heap[b]? = some (.cells cur 5 (0, 0)) := fun b i ⟨q, hq, he⟩ => he.blk (hok q hq)
  obtain ⟨a2, c2, rfl, hg⟩ := tab_at ht
  go_enter Tryz.func47, Tryz.ntmps47
  go_wp2
  go_loopw [1, 5] (fun q i wr => ∃ x : Nat, x ≤ m ∧ q = .int .i64 x ∧ i = .int .i64 x ∧ Wk (Els m E) w wr ∧ ∀ y, y < x → (E y).Sh wr fun j => mk ps (y + 1) j) (fun _ i _ => m - (intOf i).toNat)
  case atStart => exact ⟨0, by omega, rfl, rfl, Wk.refl _ _, fun y hy => by omega⟩
  case round =>
    obtain ⟨x, hx, rfl, rfl, hW, hS⟩ := hrel
    obtain ⟨wq, rfl⟩ : ∃ wq, wq = wr := ⟨_, rfl⟩
    have c2 := (bk_wk h hW hp5).c2
    by_cases hlt : x < m
    · rcases hg with hg | ⟨g, rfl, ⟨cur, hgc⟩, hcell⟩
      · omega
      have i1 : (x : Int) < (m : Int) := by omega
      go_wp2_with fail
      go_loopw [6] (fun i wr => ∃ j : Nat, j ≤ (E x).n ∧ i = .int .i64 j ∧ Wk (Els m E) w wr ∧ (∀ y, y < x → (E y).Sh wr fun j => mk ps (y + 1) j) ∧ ((E x).n = 0 ∨ ∃ b off, (E x).a = some ⟨b, off, none⟩ ∧ ∀ q, q < j → wr.cell? ⟨b, off + q, none⟩ = some (.int .u8 (mk ps (x + 1) q)))) (fun i _ => (E x).n - (intOf i).toNat)
      case atStart => exact ⟨0, by omega, rfl, hW, hS, by
        by_cases h0 : (E x).n = 0
        · exact .inl h0
        · obtain ⟨o1, _, _, _, o4⟩ := hok x hlt
          rcases o4 with o4 | ⟨b, off, _, e1, _⟩
          · omega
          · exact .inr ⟨b, off, e1, fun q hq => by omega⟩⟩
      case round =>
        obtain ⟨j, hj, rfl, hW2, hS2, hC⟩ := hrel
        clear hW hS c2
        have hok2 := hok x hlt
        have B2 := bk_wk h hW2 hp5
        have d2 := B2.c2
        have dg : wr.cell? ⟨g, x, none⟩ = some (.slice (E x).a (E x).n (E x).c) := hW2.cell (fun hh => by obtain ⟨c1, hc⟩ := hp5 g x hh; rw [hgc] at hc; simp at hc) (hcell x hlt)
        have hb3 := hok2.2.2.1
        by_cases hlt2 : j < (E x).n
        · rcases hC with hC | ⟨b, off, ha, hC⟩
          · omega
          obtain ⟨o1, _, _, _, o4⟩ := hok2.wk hW2
          obtain ⟨cu, hcu, hcs⟩ : ∃ cu, wr.heap[b]? = some (.cells cu 5 (0, 0)) ∧ off + (E x).n ≤ cu.size := by
            rcases o4 with o4 | ⟨b', off', cu, e1, e2, e3⟩
            · omega
            · rw [ha] at e1; simp at e1; obtain ⟨rfl, rfl⟩ := e1; exact ⟨cu, e2, by omega⟩
          obtain ⟨zz, q1⟩ : ∃ zz, wr.cell? ⟨b, off + j, none⟩ = some zz := by
            have hlen : off + j < cu.size := by omega
            exact ⟨cu[off + j], by rw [cell_of_row wr b _ cu 5 (0, 0) hcu]; simp⟩
          have q2 : wr.frozen? ⟨b, off + j, none⟩ = false := by simp [World.frozen?, hcu]
          have hel : (E x).El b (off + j) := ⟨off, ha, by omega, by omega⟩
          have H1 : Hid (Wk (Els m E) w (wr.setCell ⟨b, off + j, none⟩ (.int .u8 (mk ps (x + 1) j)))) := hW2.trans (.set ⟨x, hlt, hel⟩ _)
          have H2 : Hid (∀ y, y < x → (E y).Sh (wr.setCell ⟨b, off + j, none⟩ (.int .u8 (mk ps (x + 1) j))) fun j => mk ps (y + 1) j) := fun y hy =>
            (hS2 y hy).wk (p := fun b' i' => b' = b ∧ i' = off + j) (.set ⟨rfl, rfl⟩ _) fun b' i' he ⟨e1, e2⟩ => by
              subst e1 e2
              exact hdj y x (by omega) hlt (by omega) _ _ (he.mem (hok y (by omega)).1) (hel.mem (hok x hlt).1)
          have H3 : Hid (∀ q, q < j + 1 → (wr.setCell ⟨b, off + j, none⟩ (.int .u8 (mk ps (x + 1) j))).cell? ⟨b, off + q, none⟩ = some (.int .u8 (mk ps (x + 1) q))) := fun q hq => by
            by_cases e : q = j
            · subst e
              rw [cell_of_row _ b _ (cu.setIfInBounds (off + q) (.int .u8 (mk ps (x + 1) q))) 5 (0, 0) (by simp [World.setCell, Array.getElem?_modify, hcu])]
              have hlen : off + q < cu.size := by omega
              simp [hlen]
            · exact (Wk.set (p := fun b' i' => b' = b ∧ i' = off + j) ⟨rfl, rfl⟩ _).cell (by rintro ⟨_, h⟩; omega) (hC q (by omega))
          have nk : k ≠ b := fun e => by
            have B3 := B2
            unfold Bk at B3; rw [e, hcu] at B3; simp at B3
          have ng : g ≠ b := fun e => by
            have hgr := hW2.blk_of hgc (fun i hh => by obtain ⟨c1, hc⟩ := hp5 g i hh; rw [hgc] at hc; simp at hc)
            rw [e, hcu] at hgr; simp at hgr
          have s1 : (wr.setCell ⟨b, off + j, none⟩ (.int .u8 (mk ps (x + 1) j))).cell? ⟨k, 2, none⟩ = some (.slice (some ⟨g, 0, none⟩) m c2) := (Wk.set (p := fun b' i' => b' = b ∧ i' = off + j) ⟨rfl, rfl⟩ _).cell (by rintro ⟨h, _⟩; exact nk h) d2
          have s2 : (wr.setCell ⟨b, off + j, none⟩ (.int .u8 (mk ps (x + 1) j))).cell? ⟨g, x, none⟩ = some (.slice (some ⟨b, off, none⟩) (E x).n (E x).c) := (Wk.set (p := fun b' i' => b' = b ∧ i' = off + j) ⟨rfl, rfl⟩ _).cell (by rintro ⟨h, _⟩; exact ng h) (by rw [← ha]; exact dg)
          have Hb := hid (byteMark_ k ps ((x : Int) + 1) j (.slice (some ⟨g, 0, none⟩) m c2) v3 v4)
          have HB : Hid (Bk wr.drew k ps (.slice (some ⟨g, 0, none⟩) m c2) v3 v4) := B2
          rw [ha] at dg
          have HA := hid ha
          have Hn := hid (hok2.1)
          have mb := mk_byte ps (x + 1) j
          have i2 : (j : Int) < ((E x).n : Int) := by omega
          clear hS2 hC hW2 hcu o4 hel B2 hok2 ha o1 hcs
          generalize (E x).n = nx at *
          generalize (E x).c = cx at *
          go_wp2_with fail
          go_region_held (fun wx => wx.cell? ⟨k, 2, none⟩ = some (.slice (some ⟨g, 0, none⟩) m c2) ∧ wx.cell? ⟨g, x, none⟩ = some (.slice (some ⟨b, off, none⟩) nx cx)) (go_keep)
            ((go_at_call 111; refine (Hb.out _ HB.out (by omega) (by omega) (by omega) (by omega)).mono ?_; rintro e w' ⟨rfl, hw⟩; obtain rfl := hw.symm; clear hw))
          go_wp2_with fail
          go_roundw
          case rel => exact ⟨j + 1, by omega, by go_num, wk_drew H1.out, fun y hy => sh_drew (H2.out y hy), .inr ⟨b, off, HA.out, fun q hq => H3.out q hq⟩⟩
          case measure => simp [intOf]; omega
        · have hje : (E x).n = j := by omega
          have HN : Hid (∀ y, y < x + 1 → (E y).Sh wr fun j => mk ps (y + 1) j) := fun y hy => by
            by_cases e : y = x
            · subst e
              rcases hC with hC | ⟨b, off, ha, hC⟩
              · exact .inl hC
              · exact .inr ⟨b, off, ha, fun q hq => hC q (by omega)⟩
            · exact hS2 y (by omega)
          have i2 : ¬ (j : Int) < ((E x).n : Int) := by omega
          clear hS2 hC hje
          go_wp2_with fail
          go_roundw
          case rel => exact ⟨x + 1, by omega, by go_num, by go_num, hW2, HN.out⟩
          case measure => simp [intOf]; omega
    · go_wp2_with fail
      go_ret
      obtain rfl : m = x := by omega
      exact ⟨rfl, hW, hS⟩
end Go.Proofs.YtbkeejapongmlaaGreatDoor.Kp
