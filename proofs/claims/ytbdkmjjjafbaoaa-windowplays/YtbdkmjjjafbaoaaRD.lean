import Derived.Test.YtbdkmjjjafbaoaaRC
namespace Go.Proofs.Ytbdkmjjjafbaoaa
open Go.RowKit
set_option linter.unusedVariables false
set_option maxRecDepth 100000

/-- A pair of nothing. -/
def Bn (w : World) (q : Nat) : Prop := w.heap[q]? = some (.cells #[.pointer none, .pointer none] 33 (0, 0))
theorem Bn.c0 {w : World} {q : Nat} (h : Bn w q) : w.cell? ⟨q, 0, none⟩ = some (.pointer none) := (cell_of_row _ _ 0 _ _ (0, 0) h).trans rfl
theorem Bn.c1 {w : World} {q : Nat} (h : Bn w q) : w.cell? ⟨q, 1, none⟩ = some (.pointer none) := (cell_of_row _ _ 1 _ _ (0, 0) h).trans rfl
/-- A pair that may be of nothing: what it reaches lies in X. -/
structure Pz (w0 w : World) (X : Nat → Prop) (q : Nat) (F : Int) (m : Nat) (fit : Bool) (N : Nat) : Prop where
  lo : ∀ k, X k → w0.heap.size ≤ k ∧ k < w.heap.size
  bel : Below w0.heap.size w0 w
  xq : X q
  yes : fit = true → ∃ p g r v T, Bx w0 w q p g r v F m T T ∧ T.length ≤ N ∧ ∀ k, fp q p g r v k → X k
  no : fit = false → Bn w q
section
variable {w0 w w' : World} {X Y : Nat → Prop} {q : Nat} {F : Int} {m : Nat} {fit : Bool} {N : Nat}
theorem Pz.fx (h : Pz w0 w X q F m fit N) (hf : Fx Y w w') (hd : ∀ k, X k → ¬ Y k) (hY : ∀ k, Y k → w0.heap.size ≤ k) : Pz w0 w' X q F m fit N := by
  refine ⟨fun k e => ⟨(h.lo k e).1, Nat.lt_of_lt_of_le (h.lo k e).2 hf.size⟩, hf.below h.bel h.bel.size hY, h.xq, fun e => ?_, fun e => ?_⟩
  · obtain ⟨p, g, r, v, T, h1, h2, h3⟩ := h.yes e
    exact ⟨p, g, r, v, T, h1.fx hf (fun k e => hd k (h3 k e)) hY, h2, h3⟩
  · exact (hf.block q (h.lo q h.xq).2 (hd q h.xq)).trans (h.no e)
theorem Pz.more (h : Pz w0 w X q F m fit N) {N' : Nat} (hN : N ≤ N') : Pz w0 w X q F m fit N' :=
  ⟨h.lo, h.bel, h.xq, fun e => by obtain ⟨p, g, r, v, T, h1, h2, h3⟩ := h.yes e; exact ⟨p, g, r, v, T, h1, by omega, h3⟩, h.no⟩
theorem Pz.plays (h : Pz w0 w X q F m true N) (hN : N ≤ 99999) (kd : Int) {c : Int} (hc : u64r c) :
    Calls Try.prog 11 #[.pointer (some ⟨q, 0, none⟩), .int .i64 kd, .int .u64 c] w fun e w' => e = .returned (.bool true) ∧ ∃ X', Pz w0 w' X' q F m true (N + 1) ∧ Fx X w w' ∧ ∀ k, X' k → X k ∨ w.heap.size ≤ k := by
  obtain ⟨p, g, r, v, T, h1, h2, h3⟩ := h.yes rfl
  refine (plays_ w0 q p g r v F m T kd c w h1 (by omega) hc).mono ?_
  rintro e w1 ⟨rfl, v', T', h4, h5, h6, h7⟩
  have hf : Fx X w w1 := h6.weak fun k _ e => h3 k e
  have hlo : ∀ k, X k → w0.heap.size ≤ k := fun k e => (h.lo k e).1
  have hwl := h4.hw.wn.lt
  refine ⟨rfl, fun k => (X k ∨ w.heap.size ≤ k) ∧ k < w1.heap.size, ⟨fun k e => ⟨?_, e.2⟩, hf.below h.bel h.bel.size hlo, ⟨.inl h.xq, Nat.lt_of_lt_of_le (h.lo q h.xq).2 hf.size⟩, fun _ => ⟨p, g, r, v', T', h4, by omega, fun k e => ?_⟩, fun e => by cases e⟩, hf, fun k e => e.1⟩
  · rcases e.1 with e | e
    · exact hlo k e
    · exact Nat.le_trans h.bel.size e
  · rcases e with rfl | rfl | rfl | rfl | e
    · exact ⟨.inl h.xq, h4.qlt⟩
    · exact ⟨.inl (h3 _ (.inr (.inl rfl))), hwl.1⟩
    · exact ⟨.inl (h3 _ (.inr (.inr (.inl rfl)))), hwl.2⟩
    · exact ⟨.inl (h3 _ (.inr (.inr (.inr (.inl rfl))))), h4.rr.lt⟩
    · refine ⟨?_, (h4.row.lt e).2⟩
      rcases h7 k e with e | e
      · exact .inl (h3 _ (.inr (.inr (.inr (.inr e)))))
      · exact .inr e
/-- The pointer to the program's window. -/
theorem Pz.c0 (h : Pz w0 w X q F m true N) : ∃ p, w.cell? ⟨q, 0, none⟩ = some (.pointer (some ⟨p, 0, none⟩)) := by
  obtain ⟨p, g, r, v, T, h1, h2, h3⟩ := h.yes rfl
  exact ⟨p, h1.c0⟩
end
def BgP (w0 w : World) (F : Int) (m : Nat) (fit : Bool) (e : Ending) (w' : World) : Prop := ∃ q X, e = .returned (.tuple #[.pointer (some ⟨q, 0, none⟩), .bool true]) ∧ Pz w0 w' X q F m fit 0 ∧ Below w.heap.size w w' ∧ ∀ k, X k → w.heap.size ≤ k
theorem box_new (w : World) (a b : Value) : (w.alloc (.cells #[a, b] 33)).heap[w.heap.size]? = some (.cells #[a, b] 33 (0, 0)) := heap_alloc_new w _
set_option maxHeartbeats 2000000 in
theorem begin_no (w0 : World) (F width : Int) (m : Nat) (w : World) (hb : Below w0.heap.size w0 w) (hw : i64r width) (h : ¬ fitP width) :
    Calls Try.prog 10 #[.int .u64 F, .int .i64 width] w (BgP w0 w F m false) := by
  have k1 := new_no F width w hw h
  have k2 := rnew_no F width w hw h
  have HN : Hid (∀ nq, Bn ((w.alloc (.cells #[.pointer none, .pointer none] 33)).drewN nq) w.heap.size) := fun nq => box_new w _ _
  have c0 := (HN.out 0).c0
  have c1 := (HN.out 0).c1
  have HB : Hid (∀ nq, Below w.heap.size w ((w.alloc (.cells #[.pointer none, .pointer none] 33)).drewN nq)) := fun nq => (((Fx.refl (fun _ => False) w).alloc _).drawn (drawnN _ nq)).bel fun _ _ e => e
  have HB0 := hid hb
  clear h
  go_enter Try.func10, Try.ntmps10
  go_wp2_with fail
  refine k1.mono ?_
  rintro e w1 ⟨rfl, rfl⟩
  go_wp2_with fail
  refine k2.mono ?_
  rintro e w2 ⟨rfl, rfl⟩
  go_wp2_with fail
  go_quiet (fail)
  go_wp2_with fail
  go_ret2
  exact ⟨w2.heap.size, fun k => k = w2.heap.size, rfl, ⟨fun k e => by rw [e]; exact ⟨HB0.out.size, by simp [World.drewN]⟩, bel_bel HB0.out HB0.out.size (HB.out _), rfl, (fun e => by cases e), fun _ => HN.out _⟩, HB.out _, fun k e => by rw [e]; exact Nat.le_refl _⟩
set_option maxHeartbeats 2000000 in
theorem begin_yes (w0 : World) (F width : Int) (m : Nat) (w : World) (hb : Below w0.heap.size w0 w) (hF : u64r F) (hwd : width = 64 * (m : Int)) (h1 : 1 ≤ m) (h2 : m ≤ 16) :
    Calls Try.prog 10 #[.int .u64 F, .int .i64 width] w (BgP w0 w F m true) := by
  have k1 := newW (w0 := w0) hF hwd h1 h2 hb
  have hfit : fitP width := by rw [hwd]; exact fit_at h1 h2
  have k2 := fun wx => rnew_yes F width wx hfit
  have HK2 := hid k2
  have HWD := hid hwd
  have HB0 := hid hb
  clear hfit k2 hwd hb h1 h2
  go_enter Try.func10, Try.ntmps10
  go_wp2_with fail
  refine k1.mono ?_
  rintro e w1 ⟨p, g, rfl, h, hb1, hp1, hg1⟩
  have k2 := HK2.out w1
  have HH := hid h
  have HB1 := hid hb1
  have HP : Hid (w.heap.size ≤ p ∧ w.heap.size ≤ g) := ⟨hp1, hg1⟩
  clear k1 h hb1 hp1 hg1 HK2
  go_wp2_with fail
  refine k2.mono ?_
  rintro e w2 ⟨rfl, rfl⟩
  have hwl := HH.out.wn.lt
  obtain ⟨r, Hr⟩ : ∃ r, Hid (w1.heap.size = r) := ⟨_, rfl⟩
  have HR := hid (rnew_cells w1 F width)
  have HB2 : Hid (Below w1.heap.size w1 (w1.alloc (.cells #[.int .u64 F, .int .i64 width, .slice none 0 0] 57))) := ((Fx.refl (fun _ => False) w1).alloc _).bel fun _ _ e => e
  have HS2 : Hid ((w1.alloc (.cells #[.int .u64 F, .int .i64 width, .slice none 0 0] 57)).heap.size = r + 1) := by show _ = _; simp [Hr.out]
  obtain ⟨w2, HW2⟩ : ∃ z, Hid (w1.alloc (.cells #[.int .u64 F, .int .i64 width, .slice none 0 0] 57) = z) := ⟨_, rfl⟩
  rw [HW2.out] at HR HB2 HS2 ⊢
  rw [Hr.out] at HR ⊢
  have HBX : Hid (∀ nq, Bx w0 ((w2.alloc (.cells #[.pointer (some ⟨p, 0, none⟩), .pointer (some ⟨r, 0, none⟩)] 33)).drewN nq) w2.heap.size p g r (.slice none 0 0) F m [] []) := fun nq => by
    have hb3 : Below w2.heap.size w2 (w2.alloc (.cells #[.pointer (some ⟨p, 0, none⟩), .pointer (some ⟨r, 0, none⟩)] 33)) := ((Fx.refl (fun _ => False) w2).alloc _).bel fun _ _ e => e
    have hr := Hr.out
    have hs := HS2.out
    have hz := HB0.out.size
    have hz1 := HB1.out.size
    refine Bx.drawn ⟨box_new w2 _ _, (HH.out.on HB2.out).on hb3, ?_, uo_nil _ _, by omega, by omega, by omega, by omega, by omega, by omega, by omega, by simp [Value.ownBlock], by simp [Value.ownBlock], by simp [Value.ownBlock], by simp [Value.ownBlock], by simp, by simp⟩ nq
    have hk := HR.out
    rw [HWD.out] at hk
    exact hk.at (hb3.block r hk.lt)
  have c0 := (HBX.out 0).c0
  have c1 := (HBX.out 0).c1
  have HBL : Hid (∀ nq, Below w.heap.size w ((w2.alloc (.cells #[.pointer (some ⟨p, 0, none⟩), .pointer (some ⟨r, 0, none⟩)] 33)).drewN nq)) := fun nq => by
    have h1 : Below w.heap.size w w2 := bel_bel HB1.out HB1.out.size HB2.out
    have h2 : Below w2.heap.size w2 ((w2.alloc (.cells #[.pointer (some ⟨p, 0, none⟩), .pointer (some ⟨r, 0, none⟩)] 33)).drewN nq) := (((Fx.refl (fun _ => False) w2).alloc _).drawn (drawnN _ nq)).bel fun _ _ e => e
    exact bel_bel h1 h1.size h2
  have HFIN : Hid (∀ nq, BgP w0 w F m true (.returned (.tuple #[.pointer (some ⟨w2.heap.size, 0, none⟩), .bool true])) ((w2.alloc (.cells #[.pointer (some ⟨p, 0, none⟩), .pointer (some ⟨r, 0, none⟩)] 33)).drewN nq)) := fun nq => by
    have hs := HS2.out
    have hr := Hr.out
    have hz := HB0.out.size
    have hz1 := HB1.out.size
    have hpp := HP.out
    refine ⟨w2.heap.size, fp w2.heap.size p g r (.slice none 0 0), rfl, ⟨fun k e => ?_, bel_bel HB0.out HB0.out.size (HBL.out nq), .inl rfl, fun _ => ⟨p, g, r, _, [], HBX.out nq, by simp, fun k e => e⟩, fun e => by cases e⟩, HBL.out nq, fun k e => ?_⟩
    · rcases e with rfl | rfl | rfl | rfl | e
      · exact ⟨by omega, by simp [World.drewN]⟩
      · exact ⟨by omega, by simp [World.drewN]; omega⟩
      · exact ⟨by omega, by simp [World.drewN]; omega⟩
      · exact ⟨by omega, by simp [World.drewN]; omega⟩
      · simp [Value.ownBlock] at e
    · rcases e with rfl | rfl | rfl | rfl | e
      · omega
      · omega
      · omega
      · omega
      · simp [Value.ownBlock] at e
  clear k2 HH HB1 HP HR HB2 HS2 HW2 HBX HBL hwl HB0 Hr
  go_wp2_with fail
  go_quiet (fail)
  go_wp2_with fail
  go_ret2
  exact HFIN.out _
end Go.Proofs.Ytbdkmjjjafbaoaa
