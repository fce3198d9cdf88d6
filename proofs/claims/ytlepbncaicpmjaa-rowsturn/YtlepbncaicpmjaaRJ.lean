import Derived.Test.YtlepbncaicpmjaaRI
namespace Go.Proofs.Ytlepbncaicpmjaa
set_option maxRecDepth 100000
open Go.RowKit
set_option linter.unusedVariables false

/-- What a row says of a lane. -/
def yK (k : List Int) : List Int := k.drop 1
def yS (v : List Int) : Int := v.getD 0 0
def yok (k v : List Int) : Bool := decide (k.length = 33 ∧ v.length = 37) && (lok 32 (yS v) (rdN v 1 4) (rdN v 5 4) (qs (v.drop 25)) (qn (v.drop 25)) && (gok (v.drop 25) && (sameB (lK (yK k)) k && sameB (lV (yS v) (rdN v 1 4) (rdN v 5 4) (rdN v 9 8) (rdN v 17 8) (qs (v.drop 25)) (qn (v.drop 25))) v)))
/-- The rest of bytes that can be read. -/
theorem bs_rest {w : World} {b off n c m : Nat} {zs : List Int} (h : Bs w (some ⟨b, off, none⟩) n zs) (hm : m < n) : Bs w (some ⟨b, off + m, none⟩) (n - m) (zs.drop m) := by
  refine ⟨by rw [List.length_drop, h.1], fun z hz => h.2.1 z (List.mem_of_mem_drop hz), .inr ⟨b, off + m, rfl, fun i hi => ?_⟩⟩
  rcases h.2.2 with h0 | ⟨b', off', e, hc⟩
  · omega
  · simp only [Option.some.injEq, Addr.mk.injEq] at e
    obtain ⟨rfl, rfl, -⟩ := e
    have := hc (m + i) (by omega)
    rw [show off + m + i = off + (m + i) from by omega, this]
    simp only [List.getD, List.getElem?_drop]
theorem Lm.set8 {w : World} {g : Nat} {a : Option Addr} {m c : Nat} {S C N D E s n : Int} (h : Lm w g a m c S C N D E s n) (a' : Option Addr) (m' c' : Nat) (S' C' N' D' E' s' n' : Int) :
    Lm ((((((((w.setCell ⟨g, 0, none⟩ (.slice a' m' c')).setCell ⟨g, 1, none⟩ (.int .i64 S')).setCell ⟨g, 2, none⟩ (.int .i64 C')).setCell ⟨g, 3, none⟩ (.int .i64 N')).setCell ⟨g, 4, none⟩ (.int .u64 D')).setCell ⟨g, 5, none⟩ (.int .u64 E')).setCell ⟨g, 6, none⟩ (.int .i64 s')).setCell ⟨g, 7, none⟩ (.int .i64 n')) g a' m' c' S' C' N' D' E' s' n' := by
  unfold Lm at *
  simp [World.setCell, Array.getElem?_modify, h]
theorem set8_other {w : World} {g j : Nat} (h : j ≠ g) (v0 v1 v2 v3 v4 v5 v6 v7 : Value) : ((((((((w.setCell ⟨g, 0, none⟩ v0).setCell ⟨g, 1, none⟩ v1).setCell ⟨g, 2, none⟩ v2).setCell ⟨g, 3, none⟩ v3).setCell ⟨g, 4, none⟩ v4).setCell ⟨g, 5, none⟩ v5).setCell ⟨g, 6, none⟩ v6).setCell ⟨g, 7, none⟩ v7).heap[j]? = w.heap[j]? := by
  simp [World.setCell, Array.getElem?_modify, Ne.symm h]
theorem set8_bel {B g : Nat} {a w : World} (h : Below B a w) (hg : B ≤ g) (v0 v1 v2 v3 v4 v5 v6 v7 : Value) : Below B a ((((((((w.setCell ⟨g, 0, none⟩ v0).setCell ⟨g, 1, none⟩ v1).setCell ⟨g, 2, none⟩ v2).setCell ⟨g, 3, none⟩ v3).setCell ⟨g, 4, none⟩ v4).setCell ⟨g, 5, none⟩ v5).setCell ⟨g, 6, none⟩ v6).setCell ⟨g, 7, none⟩ v7) :=
  (((((((h.setCell (p := ⟨g, 0, none⟩) hg v0).setCell (p := ⟨g, 1, none⟩) hg v1).setCell (p := ⟨g, 2, none⟩) hg v2).setCell (p := ⟨g, 3, none⟩) hg v3).setCell (p := ⟨g, 4, none⟩) hg v4).setCell (p := ⟨g, 5, none⟩) hg v5).setCell (p := ⟨g, 6, none⟩) hg v6).setCell (p := ⟨g, 7, none⟩) hg v7
/-- A lane that is being filled: its block, made since W, and the bytes of its key beside it. -/
structure Lf (W X : World) (G : Nat) (a : Option Addr) (c : Nat) (k : List Int) (S C N D E s n : Int) : Prop where
  lm : Lm X G a 32 c S C N D E s n
  bw : Bw W X
  vs : Vs X (fun x => W.heap.size ≤ x ∧ x ≠ G) a 32 c k
  ge : W.heap.size ≤ G
theorem Lf.put {W X : World} {G : Nat} {a : Option Addr} {c : Nat} {k : List Int} {S C N D E s n : Int} (h : Lf W X G a c k S C N D E s n) (i : Nat) (u : Value) {S' C' N' D' E' s' n' : Int} (hl : Lm (X.setCell ⟨G, i, none⟩ u) G a 32 c S' C' N' D' E' s' n') : Lf W (X.setCell ⟨G, i, none⟩ u) G a c k S' C' N' D' E' s' n' :=
  ⟨hl, Below.setCell h.bw (p := ⟨G, i, none⟩) h.ge u, h.vs.step fun x _ hx _ => Below.heap_setCell _ _ _ _ hx.2, h.ge⟩
section
variable {W X : World} {G : Nat} {a : Option Addr} {c : Nat} {k : List Int} {S C N D E s n : Int}
theorem Lf.p2 (h : Lf W X G a c k S C N D E s n) (z : Int) : Lf W (X.setCell ⟨G, 2, none⟩ (.int .i64 z)) G a c k S z N D E s n := h.put 2 _ (by have := h.lm; unfold Lm at *; simp [World.setCell, Array.getElem?_modify, this])
theorem Lf.p3 (h : Lf W X G a c k S C N D E s n) (z : Int) : Lf W (X.setCell ⟨G, 3, none⟩ (.int .i64 z)) G a c k S C z D E s n := h.put 3 _ (by have := h.lm; unfold Lm at *; simp [World.setCell, Array.getElem?_modify, this])
theorem Lf.p4 (h : Lf W X G a c k S C N D E s n) (z : Int) : Lf W (X.setCell ⟨G, 4, none⟩ (.int .u64 z)) G a c k S C N z E s n := h.put 4 _ (by have := h.lm; unfold Lm at *; simp [World.setCell, Array.getElem?_modify, this])
theorem Lf.p5 (h : Lf W X G a c k S C N D E s n) (z : Int) : Lf W (X.setCell ⟨G, 5, none⟩ (.int .u64 z)) G a c k S C N D z s n := h.put 5 _ (by have := h.lm; unfold Lm at *; simp [World.setCell, Array.getElem?_modify, this])
theorem Lf.p6 (h : Lf W X G a c k S C N D E s n) (z : Int) : Lf W (X.setCell ⟨G, 6, none⟩ (.int .i64 z)) G a c k S C N D E z n := h.put 6 _ (by have := h.lm; unfold Lm at *; simp [World.setCell, Array.getElem?_modify, this])
theorem Lf.p7 (h : Lf W X G a c k S C N D E s n) (z : Int) : Lf W (X.setCell ⟨G, 7, none⟩ (.int .i64 z)) G a c k S C N D E s z := h.put 7 _ (by have := h.lm; unfold Lm at *; simp [World.setCell, Array.getElem?_modify, this])
theorem Lf.on {X' : World} (h : Lf W X G a c k S C N D E s n) (hb : Below X.heap.size X X') : Lf W X' G a c k S C N D E s n := ⟨h.lm.kept hb, Bw.on h.bw hb, h.vs.step fun x hx _ _ => hb.block x hx, h.ge⟩
end
theorem rdN_bound {v : List Int} (hb : ∀ z ∈ v, 0 ≤ z ∧ z ≤ 255) (p n : Nat) : 0 ≤ rdN v p n ∧ rdN v p n < 256 ^ n := by
  unfold rdN
  split
  · rename_i h
    have := val_bound ((v.drop p).take n) (fun z hz => hb z (List.mem_of_mem_drop (List.mem_of_mem_take hz)))
    rwa [List.length_take, List.length_drop, Nat.min_eq_left (by omega)] at this
  · exact ⟨by omega, Int.pow_pos (by omega)⟩
theorem q_bound {l : List Int} (hb : ∀ z ∈ l, 0 ≤ z ∧ z ≤ 255) : i64r (qs l) ∧ i64r (qn l) := by
  unfold i64r qs qn
  by_cases h : gok l = true
  · have hq := of_decide_eq_true (show decide _ = true from h)
    have h1 := (val_bound (l.take 8) (fun z hz => hb z (List.mem_of_mem_take hz))).1
    have h2 := (val_bound (l.drop 8) (fun z hz => hb z (List.mem_of_mem_drop hz))).1
    rw [if_pos h, if_pos h]
    unfold gs gn at *
    omega
  · rw [if_neg h, if_neg h]
    omega
theorem wr64 {x : Int} (h : 0 ≤ x ∧ x < 4294967296) : IntKind.i64.wrap x = x := by simp [IntKind.wrap, IntKind.bits, IntKind.signed]; omega
/-- The lane of a row, as it is answered. -/
def Ga (w : World) (k v : List Int) (e : Ending) (w' : World) : Prop := (∃ a c, (if yok k v then e = .returned (.tuple #[.agg #[.slice a 32 c, .int .i64 (yS v), .int .i64 (rdN v 1 4), .int .i64 (rdN v 5 4), .int .u64 (rdN v 9 8), .int .u64 (rdN v 17 8), .int .i64 (qs (v.drop 25)), .int .i64 (qn (v.drop 25))], .int .i64 0]) ∧ Vs w' (fun x => w.heap.size ≤ x) a 32 c (yK k) else e = .returned (.tuple #[.agg #[.slice none 0 0, .int .i64 0, .int .i64 0, .int .i64 0, .int .u64 0, .int .u64 0, .int .i64 0, .int .i64 0], .int .i64 114]))) ∧ Below w.heap.size w w'
end Go.Proofs.Ytlepbncaicpmjaa
