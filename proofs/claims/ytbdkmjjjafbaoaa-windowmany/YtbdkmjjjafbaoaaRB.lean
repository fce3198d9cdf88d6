import Derived.Test.YtbdkmjjjafbaoaaRA
namespace Go.Proofs.Ytbdkmjjjafbaoaa
open Go.RowKit
set_option linter.unusedVariables false
set_option maxRecDepth 100000

/-- What the document's Mark leaves. -/
structure RMk (w0 w w' : World) (p : Nat) (F W : Int) (v : Value) (T' : List Int) (v' : Value) : Prop where
  rr : Rr w' p F W v'
  row : Uo w0 w' v' T'
  fx : Fx (fun k => k = p ∨ v.ownBlock = some k) w w'
  own : ∀ y, v'.ownBlock = some y → v.ownBlock = some y ∨ w.heap.size ≤ y
set_option maxHeartbeats 2000000 in
theorem rmark_ (w0 : World) (p : Nat) (F : Int) (m : Nat) (v : Value) (T : List Int) (c : Int) (w : World) (k : Rr w p F (64 * (m : Int)) v) (hu : Uo w0 w v T) (hvp : v.ownBlock ≠ some p) (hB : w0.heap.size ≤ w.heap.size) (hT : ∀ t ∈ T, u64r t) (hl : T.length ≤ 100000) (h1 : 1 ≤ m) (h2 : m ≤ 16) (hc : u64r c) (hF : u64r F) {Q : Bool} (hQ : tkB F (64 * (m : Int)) T c = Q) {T' : List Int} (hT' : mkT F (64 * (m : Int)) T c = T') :
    Calls Try.prog 19 #[.pointer (some ⟨p, 0, none⟩), .int .u64 c] w fun e w' => e = .returned (.bool Q) ∧ ∃ v', RMk w0 w w' p F (64 * (m : Int)) v T' v' := by
  have kt := rtakes_ w0 p F m v T c w k hu hT hl h1 h2 hc hF hQ
  subst hT'
  cases Q with
  | false =>
    have HF : Hid (∃ v', RMk w0 w w p F (64 * (m : Int)) v (mkT F (64 * (m : Int)) T c) v') := ⟨v, k, by rw [mk_no hQ]; exact hu, Fx.refl _ _, fun y e => .inl e⟩
    clear k hu hQ
    go_enter Try.func19, Try.ntmps19
    go_wp2_with fail
    refine kt.mono ?_
    rintro e w1 ⟨rfl, rfl⟩
    go_wp2_with fail
    go_ret
    exact ⟨rfl, HF.out⟩
  | true =>
    rw [mk_yes hQ]
    have HK := hid k
    have HU := hid hu
    have HVP := hid hvp
    have HLN := hid hl
    have HBB := hid hB
    have c2 := k.c2
    obtain ⟨av, cv, hv, -⟩ := hu.form
    obtain ⟨L, hL⟩ : ∃ L, T.length = L := ⟨_, rfl⟩
    rw [hL] at hv
    subst hv
    clear k hu hQ hvp hB hl hT hF h1 h2 hL hc
    go_enter Try.func19, Try.ntmps19
    go_wp2_with fail
    refine kt.mono ?_
    rintro e w1 ⟨rfl, rfl⟩
    clear kt
    go_wp2_with (at_builtin; refine wpList_appU (w0 := w0) (wr := w1) rfl _ _ rfl (.slice av L cv) T c rfl HU.out rfl HLN.out HBB.out ?_; intro v' w9 hu9 hg9 hs9 hy9; have K9 := HK.out.at (w' := w9) (hg9.block p HK.out.lt (Ne.symm HVP.out)); have m2 := K9.c2; have f2 := K9.fz 2; have HK9 := hid K9; have HU9 := hid hu9; have HG9 := hid hg9; have HY9 := hid hy9; have HLT := hid HK.out.lt; obtain ⟨av9, cv9, hv9, -⟩ := hu9.form; obtain ⟨L9, HL9⟩ : ∃ L, Hid ((T ++ [c]).length = L) := ⟨_, rfl⟩; rw [HL9.out] at hv9; subst hv9; clear K9 hu9 hg9 hs9 hy9)
    go_ret
    refine ⟨rfl, .slice av9 L9 cv9, HK9.out.s2 _, HU9.out.fx (X := fun k => k = p) (Fx.set (X := fun k => k = p) (Fx.refl _ _) rfl _) (fun x e q => ?_), ?_, HY9.out⟩
    · rw [q] at e
      rcases HY9.out _ e with h | h
      · exact HVP.out h
      · have := HLT.out; omega
    · have hf : Fx (fun k => k = p ∨ (Value.slice av L cv).ownBlock = some k) w1 w9 := ⟨HG9.out.os, HG9.out.tape, HG9.out.output, HG9.out.size, fun k hk hX => HG9.out.block k hk (fun e => hX (.inr e.symm))⟩
      exact hf.set (X := fun k => k = p ∨ (Value.slice av L cv).ownBlock = some k) (.inl rfl) _
/-- A pair: the program's window has taken T, the document's U. -/
structure Bx (w0 w : World) (q p g r : Nat) (v : Value) (F : Int) (m : Nat) (T U : List Int) : Prop where
  blk : w.heap[q]? = some (.cells #[.pointer (some ⟨p, 0, none⟩), .pointer (some ⟨r, 0, none⟩)] 33 (0, 0))
  hw : Hw w0 w p g F m T
  rr : Rr w r F (64 * (m : Int)) v
  row : Uo w0 w v U
  q0 : w0.heap.size ≤ q
  r0 : w0.heap.size ≤ r
  qp : q ≠ p
  qg : q ≠ g
  qr : q ≠ r
  rp : r ≠ p
  rg : r ≠ g
  vq : v.ownBlock ≠ some q
  vp : v.ownBlock ≠ some p
  vg : v.ownBlock ≠ some g
  vr : v.ownBlock ≠ some r
  ok : ∀ t ∈ U, u64r t
  len : U.length ≤ 100000
def fp (q p g r : Nat) (v : Value) : Nat → Prop := fun k => k = q ∨ k = p ∨ k = g ∨ k = r ∨ v.ownBlock = some k
section
variable {w0 w w' : World} {q p g r : Nat} {v : Value} {F : Int} {m : Nat} {T U : List Int}
theorem Bx.qlt (h : Bx w0 w q p g r v F m T U) : q < w.heap.size := (Array.getElem?_eq_some_iff.1 h.blk).1
theorem Bx.c0 (h : Bx w0 w q p g r v F m T U) : w.cell? ⟨q, 0, none⟩ = some (.pointer (some ⟨p, 0, none⟩)) := (cell_of_row _ _ 0 _ _ (0, 0) h.blk).trans rfl
theorem Bx.c1 (h : Bx w0 w q p g r v F m T U) : w.cell? ⟨q, 1, none⟩ = some (.pointer (some ⟨r, 0, none⟩)) := (cell_of_row _ _ 1 _ _ (0, 0) h.blk).trans rfl
theorem Bx.drawn (h : Bx w0 w q p g r v F m T U) (nq : Nat) : Bx w0 (w.drewN nq) q p g r v F m T U :=
  ⟨h.blk, h.hw.drawn nq, h.rr, h.row.fx (X := fun _ => False) ((Fx.refl _ _).drawn (drawnN _ _)) (fun _ _ e => e), h.q0, h.r0, h.qp, h.qg, h.qr, h.rp, h.rg, h.vq, h.vp, h.vg, h.vr, h.ok, h.len⟩
theorem Bx.fx {X : Nat → Prop} (h : Bx w0 w q p g r v F m T U) (hf : Fx X w w') (hX : ∀ k, fp q p g r v k → ¬ X k) (hlo : ∀ k, X k → w0.heap.size ≤ k) : Bx w0 w' q p g r v F m T U :=
  ⟨(hf.block q h.qlt (hX q (.inl rfl))).trans h.blk, h.hw.fx hf (hX p (.inr (.inl rfl))) (hX g (.inr (.inr (.inl rfl)))) hlo, h.rr.at (hf.block r h.rr.lt (hX r (.inr (.inr (.inr (.inl rfl)))))), h.row.fx hf (fun x e => hX x (.inr (.inr (.inr (.inr e))))), h.q0, h.r0, h.qp, h.qg, h.qr, h.rp, h.rg, h.vq, h.vp, h.vg, h.vr, h.ok, h.len⟩
theorem Bx.mark (h : Bx w0 w q p g r v F m T U) {c : Int} (hc : u64r c) {x : Bool} (hx : tkB F (64 * (m : Int)) T c = x) {T' : List Int} (hT : mkT F (64 * (m : Int)) T c = T') :
    Calls Try.prog 17 #[.pointer (some ⟨p, 0, none⟩), .int .u64 c] w fun e w' => e = .returned (.bool x) ∧ Bx w0 w' q p g r v F m T' U ∧ Fx (fp q p g r v) w w' := by
  subst hx
  subst hT
  refine (mark_ p g F m T c w h.hw.wn hc).mono ?_
  rintro e w1 ⟨rfl, h1, h2⟩
  refine ⟨rfl, ⟨(h2.block q h.qlt (by rintro (e | e); exact h.qp e; exact h.qg e)).trans h.blk, h.hw.mark h1 h2, h.rr.at (h2.block r h.rr.lt (by rintro (e | e); exact h.rp e; exact h.rg e)), h.row.fx h2 (fun x e k => by rcases k with rfl | rfl; exact h.vp e; exact h.vg e), h.q0, h.r0, h.qp, h.qg, h.qr, h.rp, h.rg, h.vq, h.vp, h.vg, h.vr, h.ok, h.len⟩, h2.weak fun k _ e => ?_⟩
  rcases e with rfl | rfl
  · exact .inr (.inl rfl)
  · exact .inr (.inr (.inl rfl))
theorem Bx.rmark (h : Bx w0 w q p g r v F m T U) (hl : U.length ≤ 99999) {c : Int} (hc : u64r c) {x : Bool} (hx : tkB F (64 * (m : Int)) U c = x) {U' : List Int} (hT : mkT F (64 * (m : Int)) U c = U') :
    Calls Try.prog 19 #[.pointer (some ⟨r, 0, none⟩), .int .u64 c] w fun e w' => e = .returned (.bool x) ∧ ∃ v', Bx w0 w' q p g r v' F m T U' ∧ Fx (fp q p g r v) w w' ∧ ∀ y, v'.ownBlock = some y → v.ownBlock = some y ∨ w.heap.size ≤ y := by
  have hb := h.hw.bel.size
  refine (rmark_ w0 r F m v U c w h.rr h.row h.vr hb h.ok h.len h.hw.wn.m1 h.hw.wn.m16 hc h.hw.wn.F hx hT).mono ?_
  rintro e w1 ⟨rfl, v', k⟩
  have hwl := h.hw.wn.lt
  have hql := h.qlt
  have hrl := h.rr.lt
  have hX : ∀ z, (z = r ∨ v.ownBlock = some z) → w0.heap.size ≤ z := fun z e => by
    rcases e with rfl | e
    · exact h.r0
    · exact (h.row.lt e).1
  refine ⟨rfl, v', ⟨(k.fx.block q h.qlt (by rintro (e | e); exact h.qr e; exact h.vq e)).trans h.blk, h.hw.fx k.fx (by rintro (e | e); exact h.rp e.symm; exact h.vp e) (by rintro (e | e); exact h.rg e.symm; exact h.vg e) hX, k.rr, k.row, h.q0, h.r0, h.qp, h.qg, h.qr, h.rp, h.rg, ?_, ?_, ?_, ?_, ?_, ?_⟩, k.fx.weak fun z _ e => ?_, k.own⟩
  · exact fun e => by rcases k.own _ e with z | z; exact h.vq z; omega
  · exact fun e => by rcases k.own _ e with z | z; exact h.vp z; omega
  · exact fun e => by rcases k.own _ e with z | z; exact h.vg z; omega
  · exact fun e => by rcases k.own _ e with z | z; exact h.vr z; omega
  · intro t ht
    rw [← hT] at ht
    rcases mk_mem ht with z | z
    · exact h.ok t z
    · rw [z]; exact hc
  · rw [← hT]
    unfold mkT
    split
    · simp; omega
    · omega
  · rcases e with rfl | e
    · exact .inr (.inr (.inr (.inl rfl)))
    · exact .inr (.inr (.inr (.inr e)))
end
end Go.Proofs.Ytbdkmjjjafbaoaa
