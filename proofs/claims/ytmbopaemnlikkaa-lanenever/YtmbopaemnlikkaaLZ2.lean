import Derived.Test.YtmbopaemnlikkaaLZ1
import Derived.Test.YtmbopaemnlikkaaNV
namespace Go.Proofs.Ytmbopaemnlikkaa
set_option maxRecDepth 100000
open Go.RowKit
set_option linter.unusedVariables false

/-- A block that is none of the book's. -/
def Nb (v1 v2 : Value) (pu x : Nat) : Prop := x ≠ pu ∧ v1.ownBlock ≠ some x ∧ v2.ownBlock ≠ some x
theorem Bu.far {w wr : World} {pu : Nat} {v1 v2 : Value} {P : List (Int × Int)} (h : Bu w wr pu v1 v2 P) {x : Nat} (hx : wr.heap.size ≤ x) : Nb v1 v2 pu x :=
  ⟨by have := h.lt; omega, fun e => by have := (h.gs.lt e).2; omega, fun e => by have := (h.cs.lt e).2; omega⟩
/-- The lane in hand beside the book of what was used. -/
structure Nq (w wr : World) (pl pu : Nat) (v1 v2 : Value) (P : List (Int × Int)) (a : Option Addr) (c : Nat) (k : List Int) (S C N D E s n : Int) : Prop where
  lh : Lh w wr pl a c k S C N D E s n
  bu : Bu w wr pu v1 v2 P
  pp : Nb v1 v2 pu pl
  vs : Vs wr (fun x => x ≠ pl ∧ Nb v1 v2 pu x) a 32 c k
/-- The same, with the next lane in a variable of its own. -/
structure Nr (w wr : World) (pl pz pu : Nat) (v1 v2 : Value) (P : List (Int × Int)) (a : Option Addr) (c : Nat) (k : List Int) (S C N D E s n : Int) (a1 : Option Addr) (c1 : Nat) (C1 N1 D1 E1 s1 n1 : Int) : Prop where
  q : Nq w wr pl pu v1 v2 P a c k S C N D E s n
  z : Lm wr pz a1 32 c1 S C1 N1 D1 E1 s1 n1
  pz : Nb v1 v2 pu pz
  vz : Vs wr (fun x => x ≠ pl ∧ Nb v1 v2 pu x) a1 32 c1 k
section
variable {w wr w2 : World} {pl pz pu : Nat} {v1 v2 : Value} {P : List (Int × Int)} {a a1 : Option Addr} {c c1 : Nat} {k : List Int} {S C N D E s n C1 N1 D1 E1 s1 n1 g t : Int} {e : Ending}
theorem Nq.on (h : Nq w wr pl pu v1 v2 P a c k S C N D E s n) (hb : Below wr.heap.size wr w2) : Nq w w2 pl pu v1 v2 P a c k S C N D E s n := ⟨h.lh.on hb, h.bu.on hb, h.pp, h.vs.step fun x hx _ _ => hb.block x hx⟩
theorem Nr.on (h : Nr w wr pl pz pu v1 v2 P a c k S C N D E s n a1 c1 C1 N1 D1 E1 s1 n1) (hb : Below wr.heap.size wr w2) : Nr w w2 pl pz pu v1 v2 P a c k S C N D E s n a1 c1 C1 N1 D1 E1 s1 n1 := ⟨h.q.on hb, h.z.kept hb, h.pz, h.vz.step fun x hx _ _ => hb.block x hx⟩
/-- A list of bytes apart from the book stays, and stays apart, where the book grows. -/
theorem vs_used {V : Nat → Prop} {m d : Nat} {l : List Int} {u1 u2 : Value} (hv : Vs wr (fun x => V x ∧ Nb v1 v2 pu x) a m d l) (hk : ∀ x, x < wr.heap.size → Nb v1 v2 pu x → w2.heap[x]? = wr.heap[x]?) (h1 : ∀ y, u1.ownBlock = some y → v1.ownBlock = some y ∨ wr.heap.size ≤ y) (h2 : ∀ y, u2.ownBlock = some y → v2.ownBlock = some y ∨ wr.heap.size ≤ y) : Vs w2 (fun x => V x ∧ Nb u1 u2 pu x) a m d l :=
  (hv.andLt17.step fun x hx hz _ => hk x hx hz.1.2).wide fun x _ hx => ⟨hx.1.1, hx.1.2.1, fun e => by rcases h1 x e with q | q; exact hx.1.2.2.1 q; have := hx.2; omega, fun e => by rcases h2 x e with q | q; exact hx.1.2.2.2 q; have := hx.2; omega⟩
theorem nb_used {u1 u2 : Value} {x : Nat} (hx : Nb v1 v2 pu x) (hl : x < wr.heap.size) (h1 : ∀ y, u1.ownBlock = some y → v1.ownBlock = some y ∨ wr.heap.size ≤ y) (h2 : ∀ y, u2.ownBlock = some y → v2.ownBlock = some y ∨ wr.heap.size ≤ y) : Nb u1 u2 pu x :=
  ⟨hx.1, fun e => by rcases h1 x e with q | q; exact hx.2.1 q; omega, fun e => by rcases h2 x e with q | q; exact hx.2.2 q; omega⟩
theorem Nq.used (h : Nq w wr pl pu v1 v2 P a c k S C N D E s n) (hu : Us w wr pu v1 v2 P g t e w2) : ∃ u1 u2, Nq w w2 pl pu u1 u2 (P ++ [(g, t)]) a c k S C N D E s n ∧ (∀ x, x < wr.heap.size → Nb v1 v2 pu x → w2.heap[x]? = wr.heap[x]?) ∧ (∀ y, u1.ownBlock = some y → v1.ownBlock = some y ∨ wr.heap.size ≤ y) ∧ (∀ y, u2.ownBlock = some y → v2.ownBlock = some y ∨ wr.heap.size ≤ y) := by
  obtain ⟨u1, u2, hb, h1, h2⟩ := hu.b
  have hk : ∀ x, x < wr.heap.size → Nb v1 v2 pu x → w2.heap[x]? = wr.heap[x]? := fun x hx hn => hu.block x hx hn.1 hn.2.1 hn.2.2
  have hv := vs_used h.vs hk h1 h2
  refine ⟨u1, u2, ⟨⟨h.lh.lm.at (hk pl h.lh.lm.lt h.pp), hv.wide fun x _ hx => hx.1, h.lh.ok, h.lh.D, h.lh.E, h.lh.s, h.lh.n, ⟨hu.os.trans h.lh.bel.os, hu.tape.trans h.lh.bel.tape, hu.output.trans h.lh.bel.output, Nat.le_trans h.lh.bel.size hu.size, fun i hi => ?_⟩, h.lh.ge⟩, hb, nb_used h.pp h.lh.lm.lt h1 h2, hv⟩, hk, h1, h2⟩
  have hs := h.lh.bel.size
  exact (hk i (by omega) ⟨by have := h.bu.ge; omega, fun e => by have := (h.bu.gs.lt e).1; omega, fun e => by have := (h.bu.cs.lt e).1; omega⟩).trans (h.lh.bel.block i hi)
theorem Nr.used (h : Nr w wr pl pz pu v1 v2 P a c k S C N D E s n a1 c1 C1 N1 D1 E1 s1 n1) (hu : Us w wr pu v1 v2 P g t e w2) : ∃ u1 u2, Nr w w2 pl pz pu u1 u2 (P ++ [(g, t)]) a c k S C N D E s n a1 c1 C1 N1 D1 E1 s1 n1 := by
  obtain ⟨u1, u2, hq, hk, h1, h2⟩ := h.q.used hu
  exact ⟨u1, u2, hq, h.z.at (hk pz h.z.lt h.pz), nb_used h.pz h.z.lt h1 h2, vs_used h.vz hk h1 h2⟩
/-- The next lane is laid over the variable. -/
theorem Nr.take (h : Nr w wr pl pz pu v1 v2 P a c k S C N D E s n a1 c1 C1 N1 D1 E1 s1 n1) (hok : lokL ⟨k, S, C1, N1, D1, E1, s1, n1⟩ = true) (hD : u64r D1) (hE : u64r E1) (hs : i64r s1) (hn : i64r n1) : Nq w (wr.setRow pl #[.slice a1 32 c1, .int .i64 S, .int .i64 C1, .int .i64 N1, .int .u64 D1, .int .u64 E1, .int .i64 s1, .int .i64 n1]) pl pu v1 v2 P a1 c1 k S C1 N1 D1 E1 s1 n1 := by
  have b := bel_row (B := 0) (Below.refl 0 wr) (Nat.zero_le pl) #[.slice a1 32 c1, .int .i64 S, .int .i64 C1, .int .i64 N1, .int .u64 D1, .int .u64 E1, .int .i64 s1, .int .i64 n1]
  have hg : wr.grownBy (wr.setRow pl #[.slice a1 32 c1, .int .i64 S, .int .i64 C1, .int .i64 N1, .int .u64 D1, .int .u64 E1, .int .i64 s1, .int .i64 n1]) (some pl) := ⟨b.os, b.tape, b.output, b.size, fun i hi e => setRow_other _ _ _ _ (by intro h; exact e (by rw [h]))⟩
  exact ⟨h.q.lh.set (h.vz.wide fun x _ hx => hx.1) hok hD hE hs hn, ⟨(setRow_other _ _ _ _ (Ne.symm h.q.pp.1)).trans h.q.bu.blk, World.ownsRow.kept h.q.bu.gs hg (.inr h.q.pp.2.1), World.ownsRow.kept h.q.bu.cs hg (.inr h.q.pp.2.2), h.q.bu.n1, h.q.bu.n2, h.q.bu.n3, h.q.bu.ge⟩, h.q.pp, h.vz.step fun x _ hx _ => setRow_other _ _ _ _ hx.1⟩
/-- next, of a lane in hand with the book of what was used. -/
theorem Nq.next (ll : LL) (h : Nq w wr pl pu v1 v2 P a c k S C N D E s n) {x : Oz} (hx : x.Ok) : ∃ C' N' D' E' s' n', Nf ⟨k, S, C, N, D, E, s, n⟩ ⟨k, S, C', N', D', E', s', n'⟩ x.kd (nxG ⟨k, S, C, N, D, E, s, n⟩ x.kd x.G x.B x.X x.Y x.T x.U) ∧ nxL ⟨k, S, C, N, D, E, s, n⟩ x.kd x.G x.B x.X x.Y x.T x.U = ⟨k, S, C', N', D', E', s', n'⟩ ∧
    ∀ wx, Bw wr wx → Calls Try.prog 9 #[.agg #[.slice a 32 c, .int .i64 S, .int .i64 C, .int .i64 N, .int .u64 D, .int .u64 E, .int .i64 s, .int .i64 n], .agg #[.int .i64 x.kd, .int .i64 x.G, .int .i64 x.B, .int .u64 x.X, .int .u64 x.Y, .int .i64 x.T, .int .i64 x.U]] wx fun e w' => ∃ a' c', e = .returned (.tuple #[.agg #[.slice a' 32 c', .int .i64 S, .int .i64 C', .int .i64 N', .int .u64 D', .int .u64 E', .int .i64 s', .int .i64 n'], .int .i64 (nxG ⟨k, S, C, N, D, E, s, n⟩ x.kd x.G x.B x.X x.Y x.T x.U), .int .u64 (nxA ⟨k, S, C, N, D, E, s, n⟩ x.kd x.G x.B x.X x.Y x.T x.U)]) ∧ Vs w' (fun y => (y ≠ pl ∧ Nb v1 v2 pu y) ∧ (y < wr.heap.size ∨ wx.heap.size ≤ y)) a' 32 c' k ∧ Below wx.heap.size wx w' := by
  have hf := nx_facts (kd := x.kd) (G := x.G) (B := x.B) (Y := x.Y) h.lh.ok h.lh.D h.lh.E h.lh.s h.lh.n hx.X hx.T hx.U
  obtain ⟨z, hz⟩ : ∃ z, nxL ⟨k, S, C, N, D, E, s, n⟩ x.kd x.G x.B x.X x.Y x.T x.U = z := ⟨_, rfl⟩
  rw [hz] at hf
  obtain ⟨k', S', C', N', D', E', s', n'⟩ := z
  obtain rfl : k' = k := hf.k
  obtain rfl : S' = S := hf.S
  have hk32 : k'.length = 32 := (lokL_of h.lh.ok).2.1
  refine ⟨C', N', D', E', s', n', hf, hz, fun wx hb => ?_⟩
  refine (next_ ll a 32 c k' S' C N D E s n x.kd x.G x.B x.X x.Y x.T x.U wx (h.lh.li.on hb) hx.G hx.B hx.X hx.Y hx.T hx.U).mono ?_
  rintro e w' ⟨a', c', rfl, hb2, hor⟩
  rw [hz] at hor
  simp only [hz, hk32] at hor ⊢
  refine ⟨a', c', rfl, ?_, hb2⟩
  have hpl : pl < wr.heap.size := h.lh.lm.lt
  rcases hor with ⟨-, rfl, rfl⟩ | hv
  · exact ((h.vs.andLt17.wide (V' := fun y => (y ≠ pl ∧ Nb v1 v2 pu y) ∧ (y < wr.heap.size ∨ wx.heap.size ≤ y)) fun y _ hy => ⟨hy.1, .inl hy.2⟩).step fun y hy _ _ => hb.block y hy).step fun y hy _ _ => hb2.block y hy
  · exact hv.wide fun y _ hy => ⟨⟨by have := Below.size hb; omega, h.bu.far (by have h2 := Below.size hb; omega)⟩, .inr hy⟩
end
end Go.Proofs.Ytmbopaemnlikkaa
