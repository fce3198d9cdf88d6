import Derived.Test.YthhakecimnnnfaaLS
import Derived.Test.YthhakecimnnnfaaLQ
import Derived.Test.YthhakecimnnnfaaLO0
namespace Go.Proofs.Ythhakecimnnnfaa
set_option maxRecDepth 100000
open Go.RowKit
set_option linter.unusedVariables false

theorem nxR_no {l : Ln} {kd G B X Y T U : Int} (h : lokL l = false) : nxR l kd G B X Y T U = lzero := by
  unfold nxR
  have e1 : agnB l = false := by unfold agnB; rw [h]; rfl
  have e2 : agnL l = lzero := by unfold agnL; rw [e1]; rfl
  have e3 : prpL l = lzero := by unfold prpL; rw [e1]; rfl
  have e4 : ∀ x b, resL l x b = lzero := fun x b => by unfold resL resB; rw [h]; rfl
  have e5 : ∀ x b, rseL l x b = lzero := fun x b => by unfold rseL rseB; rw [h]; rfl
  have e6 : ∀ g c b, opnL l g c b = lzero := fun g c b => by unfold opnL opnB; rw [h]; rfl
  have e7 : ∀ g c s n b, ansL l g c s n b = lzero := fun g c s n b => by unfold ansL ansB; rw [h]; rfl
  rw [e2, e3, e4, e5, e6, e7]
  split
  · rfl
  · split
    · rfl
    · split
      · rfl
      · split
        · rfl
        · split
          · rfl
          · split <;> rfl
theorem nxL_ok {l : Ln} {kd G B X Y T U : Int} (h : l.Ok) (hX : u64r X) (hT : i64r T) (hU : i64r U) : (nxL l kd G B X Y T U).Ok ∧ (nxL l kd G B X Y T U).k = l.k := by
  cases hl : lokL l with
  | false =>
    rw [(nx_refused (nxR_no hl)).1]
    exact ⟨h, rfl⟩
  | true =>
    have hf := nx_facts (kd := kd) (G := G) (B := B) (Y := Y) hl h.D h.E h.s h.n hX hT hU
    obtain ⟨-, -, c1, c2, c3, c4, c5⟩ := lokL_of hf.ok
    exact ⟨⟨by unfold i64r; omega, by unfold i64r; omega, by unfold i64r; omega, hf.D, hf.E, hf.s, hf.n⟩, hf.k⟩
/-- A lane in hand that may be or not. -/
structure Lp (w wr : World) (pl : Nat) (a : Option Addr) (m c : Nat) (k : List Int) (S C N D E s n : Int) : Prop where
  lm : Lm wr pl a m c S C N D E s n
  vs : Vs wr (fun x => x ≠ pl) a m c k
  m : m ≤ 140737488351232
  ok : Ln.Ok ⟨k, S, C, N, D, E, s, n⟩
  bel : Below w.heap.size w wr
  ge : w.heap.size ≤ pl
section
variable {w wr w2 : World} {pl : Nat} {a : Option Addr} {m c : Nat} {k : List Int} {S C N D E s n : Int}
theorem Lp.on (h : Lp w wr pl a m c k S C N D E s n) (hb : Below wr.heap.size wr w2) : Lp w w2 pl a m c k S C N D E s n := ⟨h.lm.kept hb, h.vs.step fun x hx _ _ => hb.block x hx, h.m, h.ok, bel_bel h.bel h.bel.size hb, h.ge⟩
theorem Lp.li (h : Lp w wr pl a m c k S C N D E s n) : Li wr a m k S C N D E s n := ⟨h.vs.bs, h.m, h.ok.S, h.ok.C, h.ok.N, h.ok.D, h.ok.E, h.ok.s, h.ok.n⟩
theorem Lp.set (h : Lp w wr pl a m c k S C N D E s n) {a' : Option Addr} {c' : Nat} {S' C' N' D' E' s' n' : Int} (hv : Vs wr (fun x => x ≠ pl) a' m c' k) (hok : Ln.Ok ⟨k, S', C', N', D', E', s', n'⟩) : Lp w (wr.setRow pl #[.slice a' m c', .int .i64 S', .int .i64 C', .int .i64 N', .int .u64 D', .int .u64 E', .int .i64 s', .int .i64 n']) pl a' m c' k S' C' N' D' E' s' n' :=
  ⟨h.lm.row a' m c' S' C' N' D' E' s' n', hv.step fun x _ hx _ => setRow_other _ _ _ _ hx, h.m, hok, bel_row h.bel h.ge _, h.ge⟩
/-- step, of a lane in hand. -/
theorem Lp.step (ll : LL) (h : Lp w wr pl a m c k S C N D E s n) {x : Oz} (hx : x.Ok) : ∃ S' C' N' D' E' s' n', Ln.Ok ⟨k, S', C', N', D', E', s', n'⟩ ∧
    ∀ wx, Bw wr wx → Calls Try.prog 32 #[.agg #[.slice a m c, .int .i64 S, .int .i64 C, .int .i64 N, .int .u64 D, .int .u64 E, .int .i64 s, .int .i64 n], .agg #[.int .i64 x.kd, .int .i64 x.G, .int .i64 x.B, .int .u64 x.X, .int .u64 x.Y, .int .i64 x.T, .int .i64 x.U]] wx fun e w' => ∃ a' c', e = .returned (.tuple #[.agg #[.slice a' m c', .int .i64 S', .int .i64 C', .int .i64 N', .int .u64 D', .int .u64 E', .int .i64 s', .int .i64 n'], .bool true]) ∧ Vs w' (fun y => y ≠ pl ∧ (y < wr.heap.size ∨ wx.heap.size ≤ y)) a' m c' k ∧ Below wx.heap.size wx w' := by
  obtain ⟨ho, hk⟩ := nxL_ok (kd := x.kd) (G := x.G) (B := x.B) (Y := x.Y) h.ok hx.X hx.T hx.U
  obtain ⟨z, hz⟩ : ∃ z, nxL ⟨k, S, C, N, D, E, s, n⟩ x.kd x.G x.B x.X x.Y x.T x.U = z := ⟨_, rfl⟩
  rw [hz] at ho hk
  obtain ⟨k', S', C', N', D', E', s', n'⟩ := z
  obtain rfl : k' = k := hk
  have hkm : k'.length = m := h.vs.bs.1
  refine ⟨S', C', N', D', E', s', n', ho, fun wx hb => ?_⟩
  refine (step_ ll a m c k' S C N D E s n x.kd x.G x.B x.X x.Y x.T x.U wx (h.li.on hb) hx.G hx.B hx.X hx.Y hx.T hx.U).mono ?_
  rintro e w' ⟨a', c', rfl, hb2, hor⟩
  rw [hz] at hor
  simp only [hz, hkm] at hor ⊢
  refine ⟨a', c', rfl, ?_, hb2⟩
  have hpl : pl < wr.heap.size := h.lm.lt
  rcases hor with ⟨-, rfl, rfl⟩ | hv
  · exact ((h.vs.andLt17.wide (V' := fun y => y ≠ pl ∧ (y < wr.heap.size ∨ wx.heap.size ≤ y)) fun y _ hy => ⟨hy.1, .inl hy.2⟩).step fun y hy _ _ => hb.block y hy).step fun y hy _ _ => hb2.block y hy
  · exact hv.wide fun y _ hy => ⟨by have := Below.size hb; omega, .inr hy⟩
end
end Go.Proofs.Ythhakecimnnnfaa
