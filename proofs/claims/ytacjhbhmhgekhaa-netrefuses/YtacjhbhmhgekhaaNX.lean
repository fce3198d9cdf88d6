import Derived.Test.YtacjhbhmhgekhaaNQ
namespace Go.Proofs.Ytacjhbhmhgekhaa
open Go.RowKit
set_option linter.unusedVariables false
set_option maxRecDepth 100000

/-! A pair made since w0, whole. -/
structure Pq (w0 w : World) (X : Nat → Prop) (q : Nat) (N : Int) : Prop where
  ex : ∃ p r rv zs lg L g, Pp w X q p r rv zs lg L g ∧ zs.length ≤ 100000 ∧ g ≤ N
  lo : ∀ k, X k → w0.heap.size ≤ k
  bel : Below w0.heap.size w0 w
section
variable {w0 w w' : World} {X Y : Nat → Prop} {q : Nat} {N M : Int}
theorem Pq.lt (h : Pq w0 w X q N) : ∀ k, X k → k < w.heap.size := by
  obtain ⟨p, r, rv, zs, lg, L, g, h1, _⟩ := h.ex
  exact h1.lt
theorem Pq.fx (h : Pq w0 w X q N) (hf : Fx Y w w') (hd : ∀ k, X k → ¬ Y k) (hY : ∀ k, Y k → w0.heap.size ≤ k) : Pq w0 w' X q N := by
  obtain ⟨p, r, rv, zs, lg, L, g, h1, h2⟩ := h.ex
  exact ⟨⟨p, r, rv, zs, lg, L, g, h1.fx hf hd, h2⟩, h.lo, hf.below h.bel h.bel.size hY⟩
theorem Pq.on (h : Pq w0 w X q N) (hb : Below w.heap.size w w') : Pq w0 w' X q N := h.fx (Y := fun _ => False) (Fx.of _ hb) (fun _ _ e => e) (fun _ e => e.elim)
theorem Pq.more (h : Pq w0 w X q N) (hN : N ≤ M) : Pq w0 w X q M := by
  obtain ⟨p, r, rv, zs, lg, L, g, h1, h2, h3⟩ := h.ex
  exact ⟨⟨p, r, rv, zs, lg, L, g, h1, h2, by omega⟩, h.lo, h.bel⟩
theorem Pq.gr (h : Pq w0 w X q N) (hb : Below w.heap.size w w') : Pq w0 w' (Gr X w w') q N := by
  obtain ⟨p, r, rv, zs, lg, L, g, h1, h2⟩ := h.ex
  exact ⟨⟨p, r, rv, zs, lg, L, g, (h1.on hb).gr h1.lt hb.size, h2⟩, fun k e => e.1.elim (h.lo k) (Nat.le_trans h.bel.size), bel_bel h.bel h.bel.size hb⟩
end
/-- What a step makes of a pair. -/
def Pstep (w0 w w' : World) (X : Nat → Prop) (q : Nat) (N : Int) : Prop := Pq w0 w' (Gr X w w') q N ∧ Fx X w w'
section
variable {w0 w w' w2 : World} {X Y : Nat → Prop} {q : Nat} {N M : Int}
theorem Pstep.of (h : Pq w0 w X q N) (hb : Below w.heap.size w w') : Pstep w0 w w' X q N := ⟨h.gr hb, Fx.of _ hb⟩
theorem Pstep.trans {N0 : Int} (h0 : Pq w0 w X q N0) (h : Pstep w0 w w' X q N) (h2 : Pstep w0 w' w2 (Gr X w w') q M) : Pstep w0 w w2 X q M := by
  obtain ⟨h1, f1⟩ := h
  obtain ⟨h2, f2⟩ := h2
  refine ⟨?_, ?_⟩
  · obtain ⟨p, r, rv, zs, lg, L, g, k1, k2⟩ := h2.ex
    have hw : ∀ k, Gr (Gr X w w') w' w2 k → Gr X w w2 k := fun k e => ⟨e.1.elim (fun e => e.1) (fun e => .inr (Nat.le_trans f1.size e)), e.2⟩
    exact ⟨⟨p, r, rv, zs, lg, L, g, k1.wide hw (fun k e => e.2), k2⟩, fun k e => e.1.elim (h0.lo k) (Nat.le_trans h0.bel.size), h2.bel⟩
  · exact ⟨f2.os.trans f1.os, f2.tape.trans f1.tape, f2.output.trans f1.output, Nat.le_trans f1.size f2.size, fun k hk hX => (f2.block k (Nat.lt_of_lt_of_le hk f1.size) (fun e => e.1.elim hX (fun e => by omega))).trans (f1.block k hk hX)⟩
theorem Pstep.more (h : Pstep w0 w w' X q N) (hN : N ≤ M) : Pstep w0 w w' X q M := ⟨h.1.more hN, h.2⟩
end
set_option maxHeartbeats 2000000 in
theorem begin_ (w0 w : World) (hb : Below w0.heap.size w0 w) : Calls Try.prog 10 #[] w fun e w' => ∃ q p r, e = .returned (.pointer (some ⟨q, 0, none⟩)) ∧ Pp w' (fun k => w.heap.size ≤ k ∧ k < w'.heap.size) q p r (.slice none 0 0) [] false [] 0 ∧ Below w.heap.size w w' := by
  have k1 := new_ w
  go_enter Try.func10, Try.ntmps10
  go_wp2_with fail
  refine k1.mono ?_
  rintro e w1 ⟨p, rfl, h1, hp1, g1⟩
  have H1 := hid h1
  have G1 := hid g1
  have k2 := rnew_ w1
  clear k1 h1 g1 hp1
  go_wp2_with fail
  refine k2.mono ?_
  rintro e w2 ⟨r, rfl, h2, hr2, g2⟩
  have hN2 := H1.out.on g2
  have H2 := hid h2
  have G2 := hid g2
  have HN2 := hid hN2
  clear k2 h2 g2 hr2 hN2
  have HBX : Hid (Pp (w2.alloc (.cells #[.pointer (some ⟨p, 0, none⟩), .pointer (some ⟨r, 0, none⟩), .slice none 0 0, .bool false] 35)) (fun k => w.heap.size ≤ k ∧ k < (w2.alloc (.cells #[.pointer (some ⟨p, 0, none⟩), .pointer (some ⟨r, 0, none⟩), .slice none 0 0, .bool false] 35)).heap.size) w2.heap.size p r (.slice none 0 0) [] false [] 0) := by
    have hb3 : Below w2.heap.size w2 (w2.alloc (.cells #[.pointer (some ⟨p, 0, none⟩), .pointer (some ⟨r, 0, none⟩), .slice none 0 0, .bool false] 35)) := (Below.refl _ _).alloc (Nat.le_refl _) _
    have s1 := G1.out.size
    have s2 := G2.out.size
    have s3 : (w2.alloc (.cells #[.pointer (some ⟨p, 0, none⟩), .pointer (some ⟨r, 0, none⟩), .slice none 0 0, .bool false] 35)).heap.size = w2.heap.size + 1 := by simp
    refine ⟨heap_alloc_new w2 _, World.ownsRow_nil _ _ _ _, fun z hz => by simp at hz, ⟨_, _, HN2.out.on hb3, H2.out.on hb3, fun k e => ⟨fun q' => by omega, by omega, by simp [Value.ownBlock]⟩, fun k e => ⟨by omega, by simp [Value.ownBlock]⟩, fun k e => ?_⟩, ⟨by omega, by omega⟩, fun k e => by simp [Value.ownBlock] at e, fun k e => e.2⟩
    rcases e with e | e
    · exact ⟨e.1, by omega⟩
    · exact ⟨by omega, by omega⟩
  have HBL : Hid (Below w.heap.size w (w2.alloc (.cells #[.pointer (some ⟨p, 0, none⟩), .pointer (some ⟨r, 0, none⟩), .slice none 0 0, .bool false] 35))) := by
    have h1 := bel_bel G1.out G1.out.size G2.out
    exact h1.alloc h1.size _
  have c0 := HBX.out.blk.c0
  go_wp2_with fail
  go_ret
  exact ⟨w2.heap.size, p, r, rfl, HBX.out, HBL.out⟩
section
variable {w0 w : World} {X : Nat → Prop} {q p r : Nat} {rv : Value} {zs : List Int} {lg : Bool} {L : List Fl} {g : Int}
set_option maxHeartbeats 2000000 in
theorem punder_ (h : Pp w X q p r rv zs lg L g) : Calls Try.prog 12 #[.pointer (some ⟨q, 0, none⟩)] w fun e w' => e = .returned (.bool true) ∧ Below w.heap.size w w' := by
  obtain ⟨F, G, h1, h2, h3, h4, h5⟩ := h.fg
  have c0 := h.blk.c0
  have hc1 := h.blk.c1
  have hql := h.blk.lt
  have HNK := hid h.nok
  have H2 := hid h2
  have HC1 := hid hc1
  have k1 := under_ h1
  clear h h1 h2 h3 h4 h5 hc1
  go_enter Try.func12, Try.ntmps12
  go_wp2_with fail
  refine k1.mono ?_
  rintro e w1 ⟨a1, n1, c1, hn1, rfl, hf1, -, -, -, g1⟩
  have d1 : w1.cell? ⟨q, 1, none⟩ = some (.pointer (some ⟨r, 0, none⟩)) := (g1.cell (p := ⟨q, 1, none⟩) hql).trans HC1.out
  have HF1 := hid hf1
  have G1 := hid g1
  have HN1 := hid hn1
  have k2 := runder_ (H2.out.on g1)
  clear k1 hf1 g1 c0 hn1
  go_wp2_with fail
  refine k2.mono ?_
  rintro e w2 ⟨a2, n2, c2, hn2, rfl, hf2, g2⟩
  have hbyt : ∀ f ∈ L, f.d.length ≤ 100000 := fun f hf => by have := (HNK.out.byt f hf).2.1; omega
  have hcnt := HNK.out.cnt
  have k3 := sameFlights_ _ _ a1 a2 n1 c1 n2 c2 L L w2 (HF1.out.below g2) hf2 (by have := HN1.out; omega) (by omega) hbyt hbyt (Q := true) (decide_eq_true rfl)
  have HB2 : Hid (Below w.heap.size w w2) := bel_bel G1.out G1.out.size g2
  clear k2 hf2 g2 hn2 hbyt hcnt d1
  go_wp2_with fail
  refine k3.mono ?_
  rintro e w3 ⟨rfl, g3⟩
  have HB3 : Hid (Below w.heap.size w w3) := bel_bel HB2.out HB2.out.size g3
  clear k3 g3
  go_wp2_with fail
  go_ret
  exact ⟨rfl, HB3.out⟩
end
theorem Pq.under {w0 w : World} {X : Nat → Prop} {q : Nat} {N : Int} (h : Pq w0 w X q N) : Calls Try.prog 12 #[.pointer (some ⟨q, 0, none⟩)] w fun e w' => e = .returned (.bool true) ∧ Pstep w0 w w' X q N := by
  obtain ⟨p, r, rv, zs, lg, L, g, h1, _⟩ := h.ex
  refine (punder_ h1).mono ?_
  rintro e w1 ⟨rfl, g1⟩
  exact ⟨rfl, Pstep.of h g1⟩
theorem Pq.sends {w0 w : World} {X V : Nat → Prop} {q : Nat} {N tt : Int} {a : Option Addr} {n c : Nat} {d : List Int} (h : Pq w0 w X q N) (hN : N ≤ 1000000000) (hd : Vs w V a n c d) (hV : ∀ k, V k → ¬ X k) (ht : i64r tt) :
    Calls Try.prog 29 #[.pointer (some ⟨q, 0, none⟩), .int .i64 tt, .slice a n c] w fun e w' => e = .returned (.bool true) ∧ Pstep w0 w w' X q (N + 1) := by
  obtain ⟨p, r, rv, zs, lg, L, g, h1, h2, h3⟩ := h.ex
  refine (sends_ X V q p r rv zs lg L g tt a n c d w h1 hd hV ht (by omega) h2).mono ?_
  rintro e w1 ⟨rfl, ⟨_, rv', zs', lg', k1, k2, k3⟩ | ⟨_, rfl⟩⟩
  · refine ⟨rfl, ⟨⟨p, r, rv', zs', lg', _, _, k1, k3, ?_⟩, fun k e => e.1.elim (h.lo k) (Nat.le_trans h.bel.size), k2.below h.bel h.bel.size h.lo⟩, k2⟩
    unfold sndG
    split <;> omega
  · exact ⟨rfl, (Pstep.of h (Below.refl _ _)).more (by omega)⟩
end Go.Proofs.Ytacjhbhmhgekhaa
