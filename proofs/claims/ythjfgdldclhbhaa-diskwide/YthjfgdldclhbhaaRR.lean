import Derived.Test.YthjfgdldclhbhaaRO
namespace Go.Proofs.Ythjfgdldclhbhaa
set_option maxRecDepth 100000
open Go.RowKit Go.Shelf
set_option linter.unusedVariables false

/-- The desk: nothing lies there yet, or bytes of its own. -/
structure Ds (w : World) (k : Nat) (T : Nat → Prop) (v : Value) (m : Nat) (xs : List Value) : Prop where
  blk : w.heap[k]? = some (.cells #[v] 27 (0, 0))
  own : w.ownsRow 0 5 1 v m xs
  tk : T k
  tv : ∀ q, v.ownBlock = some q → T q
  sm : m ≤ 100000
theorem Ds.c0 {w : World} {k : Nat} {T : Nat → Prop} {v : Value} {m : Nat} {xs : List Value} (h : Ds w k T v m xs) : w.cell? ⟨k, 0, none⟩ = some v := (cell_of_row _ _ 0 _ _ (0, 0) h.blk).trans rfl
theorem Ds.fz {w : World} {k : Nat} {T : Nat → Prop} {v : Value} {m : Nat} {xs : List Value} (h : Ds w k T v m xs) : w.frozen? ⟨k, 0, none⟩ = false := by have := h.blk; simp [World.frozen?, this]
theorem Ds.lt {w : World} {k : Nat} {T : Nat → Prop} {v : Value} {m : Nat} {xs : List Value} (h : Ds w k T v m xs) : k < w.heap.size := (Array.getElem?_eq_some_iff.1 h.blk).1
theorem Ds.keep {w w' : World} {k : Nat} {T R : Nat → Prop} {v : Value} {m : Nat} {xs : List Value} (h : Ds w k T v m xs) (q : ∀ b, T b → b < w.heap.size → w'.heap[b]? = w.heap[b]?) (hn : ∀ b, T b → b < w.heap.size → R b) : Ds w' k R v m xs :=
  ⟨(q k h.tk h.lt).trans h.blk, own_at' h.own (fun g hg => q g (h.tv g hg) (h.own.lt g hg).2), hn k h.tk h.lt, fun g hg => hn g (h.tv g hg) (h.own.lt g hg).2, h.sm⟩
/-- Its list has grown (or moved), and it has been told so. -/
theorem Ds.grow {w w3 : World} {k : Nat} {T : Nat → Prop} {v : Value} {m : Nat} {xs : List Value} (h : Ds w k T v m xs) {o : Option Nat} (ho : o = v.ownBlock ∨ o = none) (G : w.grownBy w3 o) {g m' cap : Nat} {ys : List Value} (o3 : w3.ownsRow 0 5 1 (.slice (some ⟨g, 0, none⟩) m' cap) m' ys) (L : v.ownBlock = some g ∨ w.heap.size ≤ g) (hT : ∀ b, w.heap.size ≤ b → T b) (hm : m' ≤ 100000) :
    (w3.cell? ⟨k, 0, none⟩ = some v ∧ w3.frozen? ⟨k, 0, none⟩ = false) ∧ Ds (w3.setCell ⟨k, 0, none⟩ (.slice (some ⟨g, 0, none⟩) m' cap)) k T (.slice (some ⟨g, 0, none⟩) m' cap) m' ys ∧ Fr T w (w3.setCell ⟨k, 0, none⟩ (.slice (some ⟨g, 0, none⟩) m' cap)) := by
  have nk : ¬ o = some k := fun q => by
    rcases ho with ho | ho
    · obtain ⟨c, hc⟩ := own_ty h.own (ho.symm.trans q)
      rw [h.blk] at hc
      simp at hc
    · rw [ho] at q; cases q
  have hk3 := (G.block k h.lt (fun q => nk q.symm)).trans h.blk
  have hgk : g ≠ k := fun q => by
    obtain ⟨c, hc⟩ := own_ty o3 (g := g) rfl
    rw [q, hk3] at hc
    simp at hc
  refine ⟨⟨(cell_of_row _ _ 0 _ _ (0, 0) hk3).trans rfl, by simp [World.frozen?, hk3]⟩, ⟨by simp [World.setCell, Array.getElem?_modify, hk3], own_at' o3 (fun q hq => Below.heap_setCell _ _ _ _ (fun e2 => hgk ((Option.some.inj (show some g = some q from hq)).trans e2))), h.tk, fun q hq => ?_, hm⟩, (Fr.ofN G (fun q hq => ?_)).trans (.of (grown_set (grown_refl w3 (some k)) 0 _) h.tk)⟩
  · obtain rfl := Option.some.inj (show some g = some q from hq)
    rcases L with L | L
    · exact h.tv _ L
    · exact hT _ L
  · rcases ho with ho | ho
    · exact h.tv q (ho.symm.trans hq)
    · rw [ho] at hq; cases hq
theorem own_cut {w : World} {B g m cap : Nat} {xs : List Value} (h : w.ownsRow B 5 1 (.slice (some ⟨g, 0, none⟩) m cap) m xs) : w.ownsRow B 5 1 (.slice (some ⟨g, 0, none⟩) 0 cap) 0 [] := by
  obtain ⟨h1, h2⟩ := h
  rcases h2 with ⟨q, _⟩ | ⟨g', cap', cur, q, hb, hg, hnc, hcm, hs, ht⟩
  · cases q
  · obtain ⟨rfl, rfl⟩ : g = g' ∧ cap = cap' := by simpa using q
    exact ⟨rfl, .inr ⟨g, cap, cur, rfl, hb, hg, Nat.zero_le _, hcm, hs, by simp⟩⟩
end Go.Proofs.Ythjfgdldclhbhaa
namespace Go.Proofs.Ythjfgdldclhbhaa
set_option maxRecDepth 100000
open Go.RowKit Go.Shelf
set_option linter.unusedVariables false

theorem desk3 (w : World) : ∀ j u, (cells [161, 162, 163])[j]? = some u → (w.alloc (.cells #[.int .u8 161, .int .u8 162, .int .u8 163] 5)).cell? ((⟨w.heap.size, 0, none⟩ : Addr).add j) = some u := by
  intro j u hu
  have h : (w.alloc (.cells #[.int .u8 161, .int .u8 162, .int .u8 163] 5)).heap[w.heap.size]? = some (.cells #[.int .u8 161, .int .u8 162, .int .u8 163] 5 (0, 0)) := heap_alloc_new w _
  rw [Addr.add_lit, Nat.zero_add, cell_of_row _ _ j _ 5 (0, 0) h]
  match j, hu with
  | 0, hu => simpa [cells] using hu
  | 1, hu => simpa [cells] using hu
  | 2, hu => simpa [cells] using hu
set_option maxHeartbeats 4000000 in
/-- Bytes on the desk, with three bytes behind them. -/
theorem desk_ (k : Nat) (T : Nat → Prop) (v : Value) (m : Nat) (xs : List Value) (ad : Addr) (n c : Nat) (zs : List Int) (w : World) (h : Ds w k T v m xs) (hT : ∀ b, w.heap.size ≤ b → T b) (hb : Bs w (some ad) n zs) (h0 : 0 < n) (hn : n ≤ 65536) (hq : ¬ T ad.block) :
    Calls Try.prog 66 #[.pointer (some ⟨k, 0, none⟩), .slice (some ad) n c] w fun en w' => ∃ g cap, en = .returned (.slice (some ⟨g, 0, none⟩) (n + 3) cap) ∧ Ds w' k T (.slice (some ⟨g, 0, none⟩) (n + 3) cap) (n + 3) (cells (zs ++ [161, 162, 163])) ∧ Fr T w w' := by
  obtain ⟨i, hi, hz0, hz1, hz2⟩ := info_parts info5
  have HB := hid hb
  have HTT := hid hT
  have hzl := hb.1
  have HQ := hid hq
  obtain ⟨a0, c0', hv⟩ : ∃ a0 c0, v = .slice a0 m c0 := by
    rcases h.own.2 with ⟨rfl, rfl⟩ | ⟨g, cap, cur, rfl, _⟩
    · exact ⟨_, _, rfl⟩
    · exact ⟨_, _, rfl⟩
  subst hv
  have c0 := h.c0
  have HD := hid h
  have hsm := h.sm
  clear hb hT hq
  by_cases hm : m = 0
  · subst hm
    have f0 := h.fz
    clear h
    go_enter Try.func66, Try.ntmps66
    go_wp2_with (first
      | (at_make; refine wpList_make_own _ rfl _ _ 25 rfl 0 5 i (.int .u8 0) 1 Try.underlying25 hi hz0 hz1 .i64 .i64 _ 1024 rfl rfl (by first | rfl | omega) (by rw [hz2]; omega) (by unfold maxLen; omega) (Nat.zero_le _) ?_; intro w1 hown hg1; obtain ⟨⟨y1, yf⟩, D1, F1⟩ := HD.out.grow (.inr rfl) hg1 hown (.inr (Nat.le_refl _)) HTT.out (by omega); have HD1 := hid D1; have HF1 := hid F1; have z0 := D1.c0; clear hown hg1 D1 F1 c0 f0)
      | (at_builtin; refine wpList_append_lies _ rfl (.tmp 20) (.tmp 21) 25 rfl 0 5 i (.int .u8 0) 1 1 Try.underlying25 hi hz0 hz1 hz2 rfl (by decide) (.slice (some ⟨w.heap.size, 0, none⟩) 0 1024) 0 [] rfl (by exact own_cut HD1.out.own) ad n c (cells zs) rfl (by rw [cells_length, hzl]; omega) (by exact (HB.out.fr HF1.out (fun a ha _ => by obtain rfl := Option.some.inj ha; exact HQ.out)).src1 (grown_of_below (Below.refl _ _))) (cells_one _) h0 (by unfold maxLen; omega) (by omega) (Nat.zero_le _) _ rfl ?_; intro g2 cap2 w2 o2 G2 L2 _; simp only [Nat.zero_add, List.nil_append] at o2 ⊢; obtain ⟨⟨y2, yf2⟩, D2, F2⟩ := HD1.out.grow (.inl rfl) G2 o2 (L2.imp id (fun q => Nat.le_of_eq q.symm)) (fun b hb => HTT.out b (Nat.le_trans HF1.out.size hb)) (by omega); have HD2 := hid D2; have HF2 := hid (HF1.out.trans F2); have z2 := D2.c0; have d3 := desk3 (w2.setCell ⟨k, 0, none⟩ (.slice (some ⟨g2, 0, none⟩) n cap2)); rw [show (w2.setCell ⟨k, 0, none⟩ (.slice (some ⟨g2, 0, none⟩) n cap2)).heap.size = w2.heap.size from by simp [World.setCell]] at d3; have HN3 := hid d3; clear o2 G2 L2 D2 F2 d3)
      | (at_builtin; refine wpList_append_lies _ rfl (.tmp 29) (.tmp 30) 25 rfl 0 5 i (.int .u8 0) 1 1 Try.underlying25 hi hz0 hz1 hz2 rfl (by decide) (.slice (some ⟨g2, 0, none⟩) n cap2) n (cells zs) rfl (by exact HD2.out.own.alloc _) ⟨w2.heap.size, 0, none⟩ 3 3 (cells [161, 162, 163]) rfl rfl (by exact HN3.out) (cells_one _) (by decide) (by unfold maxLen; omega) (by omega) (Nat.zero_le _) _ rfl ?_; intro g3 cap3 w3 o3 G3 L3 _; rw [← cells_append] at o3; obtain ⟨⟨y3, yf3⟩, D3, F3⟩ := (HD2.out.keep (fun b _ hl => ((Below.refl _ _).alloc (Nat.le_refl _) (.cells #[.int .u8 161, .int .u8 162, .int .u8 163] 5)).block b hl) (fun _ q _ => q)).grow (.inl rfl) G3 o3 (L3.imp id (fun q => Nat.le_of_eq q.symm)) (fun b hb => HTT.out b (Nat.le_trans HF2.out.size (Nat.le_trans ((Below.refl _ _).alloc (Nat.le_refl _) (.cells #[.int .u8 161, .int .u8 162, .int .u8 163] 5)).size hb))) (by omega); have HD3 := hid D3; have HF3 := hid ((HF2.out.below ((Below.refl _ _).alloc (Nat.le_refl _) (.cells #[.int .u8 161, .int .u8 162, .int .u8 163] 5))).trans F3); have z3 := D3.c0; clear o3 G3 L3 D3 F3))
    go_ret
    exact ⟨_, _, rfl, HD3.out, HF3.out⟩
  · obtain ⟨g0, hga⟩ : ∃ g0, a0 = some ⟨g0, 0, none⟩ := by
      rcases h.own.2 with ⟨_, q⟩ | ⟨g, cap, cur, q, _⟩
      · exact absurd q hm
      · exact ⟨g, by simp at q; exact q.1⟩
    subst hga
    have HD1 := hid h
    have HF1 : Hid (Fr T w w) := Fr.refl _ _
    have tm : ((m : Int) == 0) = false := by simp; omega
    have hmc : (0 : Int) ≤ (c0' : Int) := by omega
    clear h
    go_enter Try.func66, Try.ntmps66
    go_wp2_with (first
      | (at_builtin; refine wpList_append_lies _ rfl (.tmp 20) (.tmp 21) 25 rfl 0 5 i (.int .u8 0) 1 1 Try.underlying25 hi hz0 hz1 hz2 rfl (by decide) (.slice (some ⟨g0, 0, none⟩) 0 c0') 0 [] rfl (by exact own_cut HD1.out.own) ad n c (cells zs) rfl (by rw [cells_length, hzl]; omega) (by exact (HB.out.fr HF1.out (fun a ha _ => by obtain rfl := Option.some.inj ha; exact HQ.out)).src1 (grown_of_below (Below.refl _ _))) (cells_one _) h0 (by unfold maxLen; omega) (by omega) (Nat.zero_le _) _ rfl ?_; intro g2 cap2 w2 o2 G2 L2 _; simp only [Nat.zero_add, List.nil_append] at o2 ⊢; obtain ⟨⟨y2, yf2⟩, D2, F2⟩ := HD1.out.grow (.inl rfl) G2 o2 (L2.imp id (fun q => Nat.le_of_eq q.symm)) (fun b hb => HTT.out b (Nat.le_trans HF1.out.size hb)) (by omega); have HD2 := hid D2; have HF2 := hid (HF1.out.trans F2); have z2 := D2.c0; have d3 := desk3 (w2.setCell ⟨k, 0, none⟩ (.slice (some ⟨g2, 0, none⟩) n cap2)); rw [show (w2.setCell ⟨k, 0, none⟩ (.slice (some ⟨g2, 0, none⟩) n cap2)).heap.size = w2.heap.size from by simp [World.setCell]] at d3; have HN3 := hid d3; clear o2 G2 L2 D2 F2 d3)
      | (at_builtin; refine wpList_append_lies _ rfl (.tmp 29) (.tmp 30) 25 rfl 0 5 i (.int .u8 0) 1 1 Try.underlying25 hi hz0 hz1 hz2 rfl (by decide) (.slice (some ⟨g2, 0, none⟩) n cap2) n (cells zs) rfl (by exact HD2.out.own.alloc _) ⟨w2.heap.size, 0, none⟩ 3 3 (cells [161, 162, 163]) rfl rfl (by exact HN3.out) (cells_one _) (by decide) (by unfold maxLen; omega) (by omega) (Nat.zero_le _) _ rfl ?_; intro g3 cap3 w3 o3 G3 L3 _; rw [← cells_append] at o3; obtain ⟨⟨y3, yf3⟩, D3, F3⟩ := (HD2.out.keep (fun b _ hl => ((Below.refl _ _).alloc (Nat.le_refl _) (.cells #[.int .u8 161, .int .u8 162, .int .u8 163] 5)).block b hl) (fun _ q _ => q)).grow (.inl rfl) G3 o3 (L3.imp id (fun q => Nat.le_of_eq q.symm)) (fun b hb => HTT.out b (Nat.le_trans HF2.out.size (Nat.le_trans ((Below.refl _ _).alloc (Nat.le_refl _) (.cells #[.int .u8 161, .int .u8 162, .int .u8 163] 5)).size hb))) (by omega); have HD3 := hid D3; have HF3 := hid ((HF2.out.below ((Below.refl _ _).alloc (Nat.le_refl _) (.cells #[.int .u8 161, .int .u8 162, .int .u8 163] 5))).trans F3); have z3 := D3.c0; clear o3 G3 L3 D3 F3))
    go_ret
    exact ⟨_, _, rfl, HD3.out, HF3.out⟩
end Go.Proofs.Ythjfgdldclhbhaa
namespace Go.Proofs.Ythjfgdldclhbhaa
set_option maxRecDepth 100000
open Go.RowKit Go.Shelf
set_option linter.unusedVariables false

theorem Pa.fr {w w' : World} {p d e k : Nat} {s : St} {Q N T : Nat → Prop} (h : Pa w p d e k s Q N) (hF : Fr T w w') (hq : ∀ b, T b → b < w.heap.size → ¬ Q b ∧ ¬ N b ∧ b ≠ p) : Pa w' p d e k s Q N := by
  have hlt := h.lt
  have hql := h.dev.lt
  refine ⟨(hF.same p hlt (fun q => (hq p q hlt).2.2 rfl)).trans h.pr, h.dev.fr (R := fun b => T b ∧ b < w.heap.size) ⟨hF.os, hF.tape, hF.output, hF.size, fun b hb hn => hF.same b hb (fun q => hn ⟨q, hb⟩)⟩ (fun b hb q => (hq b q.1 q.2).1 hb), h.ref.keep (fun b hb hl => hF.same b hl (fun q => (hq b q hl).2.1 hb)) (fun _ h _ => h), h.ap, fun b hb => Nat.lt_of_lt_of_le (h.nl b hb) hF.size, h.nq, h.nn⟩
/-- Both have made the same step, and between them something of one's own was turned. -/
theorem pa_endX {w w1 w2 w3 w4 : World} {p d e k : Nat} {s s' : St} {Q N X : Nat → Prop} (h : Pa w p d e k s Q N) (b0 : Below w.heap.size w w1) (hD : Dev w2 d s' (fun b => Q b ∨ (w1.heap.size ≤ b ∧ b < w2.heap.size))) (hF : Fr Q w1 w2) (hX : ∀ b, X b → b < w.heap.size ∧ ¬ Q b ∧ ¬ N b ∧ b ≠ p) (hG : Fr X w2 w4) (hR : Rd w3 e s' (fun b => N b ∨ w4.heap.size ≤ b)) (hE : Fr (fun b => N b ∨ w4.heap.size ≤ b) w4 w3) :
    Pa w3 p d e k s' (fun b => Q b ∨ (w1.heap.size ≤ b ∧ b < w2.heap.size)) (fun b => N b ∨ (w4.heap.size ≤ b ∧ b < w3.heap.size)) ∧ Fr (fun b => Q b ∨ N b ∨ X b) w w3 := by
  have s1 := b0.size
  have s2 := hF.size
  have s3 := hG.size
  have s4 := hE.size
  have hlt := h.lt
  have hql := h.dev.lt
  have hnl := h.nl
  have e1 : ∀ b, b < w2.heap.size → ¬ X b → ¬ N b → w3.heap[b]? = w2.heap[b]? := fun b hb hx hn => (hE.same b (by omega) (fun q => by
    rcases q with q | q
    · exact hn q
    · omega)).trans (hG.same b hb hx)
  refine ⟨⟨?_, ?_, hR.keep (fun _ _ _ => rfl) (fun b hb hl => ?_), fun b hq hn => ?_, fun b hb => ?_, fun hq => ?_, fun hq => ?_⟩, ?_⟩
  · exact (e1 p (by omega) (fun q => (hX p q).2.2.2 rfl) h.nn).trans ((hF.same p (by omega) h.nq).trans ((b0.block p hlt).trans h.pr))
  · refine hD.fr (R := fun b => X b ∨ N b ∨ w2.heap.size ≤ b) ⟨hE.os.trans hG.os, hE.tape.trans hG.tape, hE.output.trans hG.output, by omega, fun b hb hn => e1 b hb (fun q => hn (.inl q)) (fun q => hn (.inr (.inl q)))⟩ (fun b hb hr => ?_)
    rcases hr with hx | hn | hw
    · obtain ⟨x1, x2, _⟩ := hX b hx
      rcases hb with hb | hb
      · exact x2 hb
      · omega
    · rcases hb with hb | hb
      · exact h.ap b hb hn
      · have := hnl b hn
        omega
    · rcases hb with hb | hb
      · have := hql b hb
        omega
      · omega
  · rcases hb with hb | hb
    · exact .inl hb
    · exact .inr ⟨hb, hl⟩
  · rcases hq with hq | hq
    · rcases hn with hn | hn
      · exact h.ap b hq hn
      · have := hql b hq
        omega
    · rcases hn with hn | hn
      · have := hnl b hn
        omega
      · omega
  · rcases hb with hb | hb
    · have := hnl b hb
      omega
    · exact hb.2
  · rcases hq with hq | hq
    · exact h.nq hq
    · omega
  · rcases hq with hq | hq
    · exact h.nn hq
    · omega
  · exact ⟨hE.os.trans (hG.os.trans (hF.os.trans b0.os)), hE.tape.trans (hG.tape.trans (hF.tape.trans b0.tape)), hE.output.trans (hG.output.trans (hF.output.trans b0.output)), by omega, fun b hb hn => (e1 b (by omega) (fun q => hn (.inr (.inr q))) (fun q => hn (.inr (.inl q)))).trans ((hF.same b (by omega) (fun q => hn (.inl q))).trans (b0.block b hb))⟩
theorem Ds.nek {w : World} {k g m cap : Nat} {T : Nat → Prop} {xs : List Value} (h : Ds w k T (.slice (some ⟨g, 0, none⟩) m cap) m xs) : g ≠ k := fun q => by
  obtain ⟨c, hc⟩ := own_ty h.own (g := g) rfl
  rw [q, h.blk] at hc
  simp at hc
/-- One byte of the desk has turned. -/
theorem Ds.set {w : World} {k g m cap : Nat} {T : Nat → Prop} {xs : List Value} (h : Ds w k T (.slice (some ⟨g, 0, none⟩) m cap) m xs) {j : Nat} (hj : j < m) (u : Value) : ((∃ v, w.cell? ⟨g, j, none⟩ = some v) ∧ w.frozen? ⟨g, j, none⟩ = false) ∧ ∃ xs', Ds (w.setCell ⟨g, j, none⟩ u) k T (.slice (some ⟨g, 0, none⟩) m cap) m xs' := by
  obtain ⟨h1, h2⟩ := h.own
  rcases h2 with ⟨q, _⟩ | ⟨g', cap', cur, q, hb, hg, hnc, hcm, hs, ht⟩
  · cases q
  · obtain ⟨rfl, rfl⟩ : g = g' ∧ cap = cap' := by simpa using q
    refine ⟨⟨⟨cur[j]'(by omega), (cell_of_row w g j cur 5 (0, 0) hg).trans (by simp [show j < cur.size by omega])⟩, by simp [World.frozen?, hg]⟩, ((cur.setIfInBounds j u).toList.take (m * 1)), ⟨(Below.heap_setCell _ _ _ _ (Ne.symm h.nek)).trans h.blk, ⟨?_, .inr ⟨g, cap, cur.setIfInBounds j u, rfl, hb, by simp [World.setCell, Array.getElem?_modify, hg], hnc, hcm, by simpa using hs, rfl⟩⟩, h.tk, h.tv, h.sm⟩⟩
    rw [List.length_take, Array.length_toList, Array.size_setIfInBounds]
    omega
end Go.Proofs.Ythjfgdldclhbhaa
