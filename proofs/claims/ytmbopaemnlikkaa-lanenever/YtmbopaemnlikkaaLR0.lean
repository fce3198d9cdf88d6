import Derived.Test.YtmbopaemnlikkaaLN
import Derived.Test.YtmbopaemnlikkaaLQ
import Derived.Test.YtmbopaemnlikkaaLO0
namespace Go.Proofs.Ytmbopaemnlikkaa
set_option maxRecDepth 100000
open Go.RowKit
set_option linter.unusedVariables false

set_option maxHeartbeats 1000000 in
/-- The law's after. -/
theorem after_ (s n s' n' : Int) (w : World) : Calls Try.prog 13 #[.agg #[.int .i64 s, .int .i64 n], .agg #[.int .i64 s', .int .i64 n']] w fun e w' => e = .returned (.bool (lss s' n' s n)) ∧ Below w.heap.size w w' := by
  have B : Below w.heap.size w ((w.alloc (.cells #[.int .i64 s, .int .i64 n] 27)).alloc (.cells #[.int .i64 s', .int .i64 n'] 27)) := (bel_al' w _).alloc (by simp) _
  by_cases h1 : s' < s
  · have hr : lss s' n' s n = true := decide_eq_true (.inl h1)
    rw [hr]
    go_enter Try.func13, Try.ntmps13
    go_wp2_with fail
    go_ret
    exact ⟨rfl, B⟩
  · by_cases h2 : s = s'
    · subst h2
      have he : (s == s) = true := by simp
      have hr : lss s n' s n = decide (n' < n) := decide_eq_decide.2 (by omega)
      rw [hr]
      go_enter Try.func13, Try.ntmps13
      go_wp2_with fail
      go_ret
      exact ⟨rfl, B⟩
    · have he : (s == s') = false := beq_eq_false_iff_ne.2 h2
      have hr : lss s' n' s n = false := decide_eq_false (by omega)
      rw [hr]
      go_enter Try.func13, Try.ntmps13
      go_wp2_with fail
      go_ret
      exact ⟨rfl, B⟩
/-- The lane in hand: in a variable, its key apart from it. -/
structure Lh (w wr : World) (pl : Nat) (a : Option Addr) (c : Nat) (k : List Int) (S C N D E s n : Int) : Prop where
  lm : Lm wr pl a 32 c S C N D E s n
  vs : Vs wr (fun x => x ≠ pl) a 32 c k
  ok : lokL ⟨k, S, C, N, D, E, s, n⟩ = true
  D : u64r D
  E : u64r E
  s : i64r s
  n : i64r n
  bel : Below w.heap.size w wr
  ge : w.heap.size ≤ pl
section
variable {w wr w2 : World} {pl : Nat} {a : Option Addr} {c : Nat} {k : List Int} {S C N D E s n : Int}
theorem Lh.on (h : Lh w wr pl a c k S C N D E s n) (hb : Below wr.heap.size wr w2) : Lh w w2 pl a c k S C N D E s n := ⟨h.lm.kept hb, h.vs.step fun x hx _ _ => hb.block x hx, h.ok, h.D, h.E, h.s, h.n, bel_bel h.bel h.bel.size hb, h.ge⟩
theorem Lh.li (h : Lh w wr pl a c k S C N D E s n) : Li wr a 32 k S C N D E s n := by
  obtain ⟨v, hk, hS, c1, c2, n1, n2⟩ := lokL_of h.ok
  exact ⟨h.vs.bs, by omega, by unfold i64r; simp only at hS; omega, by unfold i64r; simp only at c1 c2; omega, by unfold i64r; simp only at n1 n2; omega, h.D, h.E, h.s, h.n⟩
/-- The next lane is laid over the variable. -/
theorem Lh.set (h : Lh w wr pl a c k S C N D E s n) {a' : Option Addr} {c' : Nat} {S' C' N' D' E' s' n' : Int} (hv : Vs wr (fun x => x ≠ pl) a' 32 c' k) (hok : lokL ⟨k, S', C', N', D', E', s', n'⟩ = true) (hD : u64r D') (hE : u64r E') (hs : i64r s') (hn : i64r n') : Lh w (wr.setRow pl #[.slice a' 32 c', .int .i64 S', .int .i64 C', .int .i64 N', .int .u64 D', .int .u64 E', .int .i64 s', .int .i64 n']) pl a' c' k S' C' N' D' E' s' n' :=
  ⟨h.lm.row a' 32 c' S' C' N' D' E' s' n', hv.step fun x _ hx _ => setRow_other _ _ _ _ hx, hok, hD, hE, hs, hn, bel_row h.bel h.ge _, h.ge⟩
/-- next, of a lane in hand. -/
theorem Lh.next (ll : LL) (h : Lh w wr pl a c k S C N D E s n) {x : Oz} (hx : x.Ok) : ∃ C' N' D' E' s' n', Nf ⟨k, S, C, N, D, E, s, n⟩ ⟨k, S, C', N', D', E', s', n'⟩ x.kd (nxG ⟨k, S, C, N, D, E, s, n⟩ x.kd x.G x.B x.X x.Y x.T x.U) ∧ nxL ⟨k, S, C, N, D, E, s, n⟩ x.kd x.G x.B x.X x.Y x.T x.U = ⟨k, S, C', N', D', E', s', n'⟩ ∧
    ∀ wx, Bw wr wx → Calls Try.prog 9 #[.agg #[.slice a 32 c, .int .i64 S, .int .i64 C, .int .i64 N, .int .u64 D, .int .u64 E, .int .i64 s, .int .i64 n], .agg #[.int .i64 x.kd, .int .i64 x.G, .int .i64 x.B, .int .u64 x.X, .int .u64 x.Y, .int .i64 x.T, .int .i64 x.U]] wx fun e w' => ∃ a' c', e = .returned (.tuple #[.agg #[.slice a' 32 c', .int .i64 S, .int .i64 C', .int .i64 N', .int .u64 D', .int .u64 E', .int .i64 s', .int .i64 n'], .int .i64 (nxG ⟨k, S, C, N, D, E, s, n⟩ x.kd x.G x.B x.X x.Y x.T x.U), .int .u64 (nxA ⟨k, S, C, N, D, E, s, n⟩ x.kd x.G x.B x.X x.Y x.T x.U)]) ∧ Vs w' (fun y => y ≠ pl ∧ (y < wr.heap.size ∨ wx.heap.size ≤ y)) a' 32 c' k ∧ Below wx.heap.size wx w' := by
  have hf := nx_facts (kd := x.kd) (G := x.G) (B := x.B) (Y := x.Y) h.ok h.D h.E h.s h.n hx.X hx.T hx.U
  obtain ⟨z, hz⟩ : ∃ z, nxL ⟨k, S, C, N, D, E, s, n⟩ x.kd x.G x.B x.X x.Y x.T x.U = z := ⟨_, rfl⟩
  rw [hz] at hf
  obtain ⟨k', S', C', N', D', E', s', n'⟩ := z
  obtain rfl : k' = k := hf.k
  obtain rfl : S' = S := hf.S
  have hk32 : k'.length = 32 := (lokL_of h.ok).2.1
  refine ⟨C', N', D', E', s', n', hf, hz, fun wx hb => ?_⟩
  refine (next_ ll a 32 c k' S' C N D E s n x.kd x.G x.B x.X x.Y x.T x.U wx (h.li.on hb) hx.G hx.B hx.X hx.Y hx.T hx.U).mono ?_
  rintro e w' ⟨a', c', rfl, hb2, hor⟩
  rw [hz] at hor
  simp only [hz, hk32] at hor ⊢
  refine ⟨a', c', rfl, ?_, hb2⟩
  have hpl : pl < wr.heap.size := h.lm.lt
  rcases hor with ⟨-, rfl, rfl⟩ | hv
  · exact ((h.vs.andLt17.wide (V' := fun y => y ≠ pl ∧ (y < wr.heap.size ∨ wx.heap.size ≤ y)) fun y _ hy => ⟨hy.1, .inl hy.2⟩).step fun y hy _ _ => hb.block y hy).step fun y hy _ _ => hb2.block y hy
  · exact hv.wide fun y _ hy => ⟨by have := Below.size hb; omega, .inr hy⟩
end
end Go.Proofs.Ytmbopaemnlikkaa
