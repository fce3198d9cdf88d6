import Derived.Test.YtacjhbhmhgekhaaNX
namespace Go.Proofs.Ytacjhbhmhgekhaa
open Go.RowKit
set_option linter.unusedVariables false
set_option maxRecDepth 100000

/-! pair.many, pair.plays. -/
theorem Pstep.pre {w0 w w1 w2 : World} {X : Nat → Prop} {q : Nat} {N M : Int} (h0 : Pq w0 w X q N) (hb : Below w.heap.size w w1) (h : Pstep w0 w1 w2 X q M) : Pstep w0 w w2 X q M := by
  obtain ⟨p, r, rv, zs, lg, L, g, k1, k2⟩ := h.1.ex
  have hw : ∀ k, Gr X w1 w2 k → Gr X w w2 k := fun k e => ⟨e.1.imp id (Nat.le_trans hb.size), e.2⟩
  exact ⟨⟨⟨p, r, rv, zs, lg, L, g, k1.wide hw (fun k e => e.2), k2⟩, fun k e => e.1.elim (h0.lo k) (Nat.le_trans h0.bel.size), h.1.bel⟩, ⟨h.2.os.trans hb.os, h.2.tape.trans hb.tape, h.2.output.trans hb.output, Nat.le_trans hb.size h.2.size, fun k hk hX => (h.2.block k (Nat.lt_of_lt_of_le hk hb.size) hX).trans (hb.block k hk)⟩⟩
theorem Pstep.post {w0 w w1 w2 : World} {X : Nat → Prop} {q : Nat} {M : Int} (h : Pstep w0 w w1 X q M) (hb : Below w1.heap.size w1 w2) : Pstep w0 w w2 X q M := by
  obtain ⟨p, r, rv, zs, lg, L, g, k1, k2⟩ := h.1.ex
  exact ⟨⟨⟨p, r, rv, zs, lg, L, g, (k1.on hb).wide (fun k e => ⟨e.1, Nat.lt_of_lt_of_le e.2 hb.size⟩) (fun k e => e.2), k2⟩, fun k e => by
    by_cases hk : k < w1.heap.size
    · exact h.1.lo k ⟨e.1, hk⟩
    · have := h.1.bel.size; omega, bel_bel h.1.bel h.1.bel.size hb⟩, h.2.trans (Fx.of _ hb)⟩
/-- Both nets have gone one step. -/
theorem Pp.two {w w1 w2 : World} {X : Nat → Prop} {q p r : Nat} {rv : Value} {zs : List Int} {lg : Bool} {L L' : List Fl} {g g' : Int} {F G F1 G2 : Nat → Prop} (h : Pp w X q p r rv zs lg L g)
    (hFL : ∀ k, F k → k < w.heap.size) (hGL : ∀ k, G k → k < w.heap.size) (h3 : ∀ k, F k → ¬ G k ∧ k ≠ q ∧ rv.ownBlock ≠ some k) (h4 : ∀ k, G k → k ≠ q ∧ rv.ownBlock ≠ some k) (h5 : ∀ k, F k ∨ G k → X k)
    (f1 : Fx F w w1) (hF1 : ∀ k, F1 k → (F k ∨ w.heap.size ≤ k) ∧ k < w1.heap.size) (n1 : Net w1 F1 p L' g') (f2 : Fx G w1 w2) (hG2 : ∀ k, G2 k → (G k ∨ w1.heap.size ≤ k) ∧ k < w2.heap.size) (n2 : RNet w2 G2 r L' g') :
    Pp w2 (Gr X w w2) q p r rv zs lg L' g' ∧ Fx X w w2 := by
  have hs1 := f1.size
  have hs2 := f2.size
  have hql := h.blk.lt
  have hX : Fx X w w2 := ⟨f2.os.trans f1.os, f2.tape.trans f1.tape, f2.output.trans f1.output, Nat.le_trans hs1 hs2, fun k hk hX => (f2.block k (by omega) (fun e => hX (h5 k (.inr e)))).trans (f1.block k hk (fun e => hX (h5 k (.inl e))))⟩
  have hrl : ∀ k, rv.ownBlock = some k → k < w.heap.size := fun k e => (h.room.lt k e).2
  refine ⟨⟨h.blk.at ((f2.block q (by omega) (fun e => (h4 q e).1 rfl)).trans (f1.block q hql (fun e => (h3 q e).2.1 rfl))), row_same h.room fun k e => (f2.block k (by have := hrl k e; omega) (fun q' => (h4 k q').2 e)).trans (f1.block k (hrl k e) (fun q' => (h3 k q').2.2 e)), h.ok, ⟨F1, G2, n1.fx f2 (fun k e q' => ?_), n2, fun k e => ⟨fun q' => ?_, fun q' => ?_, fun q' => ?_⟩, fun k e => ⟨fun q' => ?_, fun q' => ?_⟩, fun k e => ?_⟩, ⟨.inl h.xq, by omega⟩, fun k e => ⟨.inl (h.xr k e), by have := hrl k e; omega⟩, fun k e => e.2⟩, hX⟩
  · rcases (hF1 k e).1 with e | e
    · exact (h3 k e).1 q'
    · have := hGL k q'; omega
  · have e2 := (hF1 k e).2
    rcases (hF1 k e).1 with e | e
    · rcases (hG2 k q').1 with q' | q'
      · exact (h3 k e).1 q'
      · omega
    · rcases (hG2 k q').1 with q' | q'
      · have := hGL k q'; omega
      · omega
  · rcases (hF1 k e).1 with e | e
    · exact (h3 k e).2.1 q'
    · omega
  · rcases (hF1 k e).1 with e | e
    · exact (h3 k e).2.2 q'
    · have := hrl k q'; omega
  · rcases (hG2 k e).1 with e | e
    · exact (h4 k e).1 q'
    · omega
  · rcases (hG2 k e).1 with e | e
    · exact (h4 k e).2 q'
    · have := hrl k q'; omega
  · rcases e with e | e
    · exact ⟨(hF1 k e).1.imp (fun e => h5 k (.inl e)) id, by have := (hF1 k e).2; omega⟩
    · refine ⟨(hG2 k e).1.imp (fun e => h5 k (.inr e)) (fun e => by omega), (hG2 k e).2⟩
/-- An op in its variable. -/
def Om (w : World) (v : Nat) (kd : Int) (sc : Bool) (tt no x at' : Int) (a : Option Addr) (n c : Nat) : Prop := w.heap[v]? = some (.cells #[.int .i64 kd, .bool sc, .int .i64 tt, .int .i64 no, .int .i64 x, .int .i64 at', .slice a n c] 28 (0, 0))
section
variable {w w' : World} {v : Nat} {kd tt no x at' : Int} {sc : Bool} {a : Option Addr} {n c : Nat}
theorem Om.c0 (k : Om w v kd sc tt no x at' a n c) : w.cell? ⟨v, 0, none⟩ = some (.int .i64 kd) := (cell_of_row _ _ 0 _ _ (0, 0) k).trans rfl
theorem Om.c2 (k : Om w v kd sc tt no x at' a n c) : w.cell? ⟨v, 2, none⟩ = some (.int .i64 tt) := (cell_of_row _ _ 2 _ _ (0, 0) k).trans rfl
theorem Om.c3 (k : Om w v kd sc tt no x at' a n c) : w.cell? ⟨v, 3, none⟩ = some (.int .i64 no) := (cell_of_row _ _ 3 _ _ (0, 0) k).trans rfl
theorem Om.c4 (k : Om w v kd sc tt no x at' a n c) : w.cell? ⟨v, 4, none⟩ = some (.int .i64 x) := (cell_of_row _ _ 4 _ _ (0, 0) k).trans rfl
theorem Om.c5 (k : Om w v kd sc tt no x at' a n c) : w.cell? ⟨v, 5, none⟩ = some (.int .i64 at') := (cell_of_row _ _ 5 _ _ (0, 0) k).trans rfl
theorem Om.c6 (k : Om w v kd sc tt no x at' a n c) : w.cell? ⟨v, 6, none⟩ = some (.slice a n c) := (cell_of_row _ _ 6 _ _ (0, 0) k).trans rfl
theorem Om.at (k : Om w v kd sc tt no x at' a n c) (e : w'.heap[v]? = w.heap[v]?) : Om w' v kd sc tt no x at' a n c := e.trans k
end
theorem om_new (w : World) (kd : Int) (sc : Bool) (tt no x at' : Int) (a : Option Addr) (n c : Nat) : Om (w.alloc (.cells #[.int .i64 kd, .bool sc, .int .i64 tt, .int .i64 no, .int .i64 x, .int .i64 at', .slice a n c] 28)) w.heap.size kd sc tt no x at' a n c := heap_alloc_new w _
/-- What many leaves. -/
def MnP (I : Nat → List Fl → Int → Prop) (w0 w w' : World) (X : Nat → Prop) (q : Nat) (N x : Int) (n : Nat) : Prop := Pstep w0 w w' X q (N + 1100) ∧ (n ≤ 4096 → -2 ≤ x → x ≤ 2 → ∃ p r rv zs lg L g j, Pp w' (Gr X w w') q p r rv zs lg L g ∧ I j L g ∧ 1024 + x ≤ (j : Int) ∧ zs.length ≤ 100000 ∧ g ≤ N + 1100)
theorem RNet.len0 {w : World} {G : Nat → Prop} {r : Nat} {L : List Fl} {g : Int} (h : RNet w G r L g) : ∃ a c, w.cell? ⟨r, 0, none⟩ = some (.slice a L.length c) ∧ r < w.heap.size := by
  obtain ⟨v, ds, rfl, h⟩ := h
  obtain ⟨av, cv, hv, _⟩ := h.form
  refine ⟨av, cv, ?_, h.blk.lt⟩
  have := h.blk.c0
  rw [hv] at this
  simpa using this
set_option maxHeartbeats 8000000 in
/-- many: what holds at each count j holds behind it. -/
theorem many_ (I : Nat → List Fl → Int → Prop) (w0 w : World) (X V : Nat → Prop) (q : Nat) (N : Int) (kd : Int) (sc : Bool) (tt no x at' : Int) (a : Option Addr) (n c : Nat) (d : List Int) (hq : Pq w0 w X q N) (hN : N ≤ 900000000) {p r : Nat} {rv : Value} {zs : List Int} {lg : Bool} {L : List Fl} {g : Int} (h1 : Pp w X q p r rv zs lg L g) (h2 : zs.length ≤ 100000) (h3 : g ≤ N) (hI : I L.length L g) (hs : ∀ j L g, I j L g → I (j + 1) (sndL L g tt d) (sndG L g)) (hd : Vs w V a n c d) (hV : ∀ k, V k → ¬ X k) (ht : i64r tt) (hx : i64r x) :
    Calls Try.prog 13 #[.pointer (some ⟨q, 0, none⟩), .agg #[.int .i64 kd, .bool sc, .int .i64 tt, .int .i64 no, .int .i64 x, .int .i64 at', .slice a n c]] w fun e w' => e = .returned (.bool true) ∧ MnP I w0 w w' X q N x n := by
  have HQ := hid hq
  have HS := hid hs
  have HT := hid ht
  have HX := hid hx
  unfold i64r at hx
  have HP := hid h1
  have HZ := hid h2
  have HGN := hid h3
  have HIL := hid hI
  have hcnt := h1.nok.cnt
  have HBA : Hid (Below w.heap.size w (w.alloc (.cells #[.int .i64 kd, .bool sc, .int .i64 tt, .int .i64 no, .int .i64 x, .int .i64 at', .slice a n c] 28))) := (Below.refl _ _).alloc (Nat.le_refl _) _
  have HOM := hid (om_new w kd sc tt no x at' a n c)
  have HD := hid hd
  have HVX := hid hV
  obtain ⟨w1, HW1⟩ : ∃ z, Hid (w.alloc (.cells #[.int .i64 kd, .bool sc, .int .i64 tt, .int .i64 no, .int .i64 x, .int .i64 at', .slice a n c] 28) = z) := ⟨_, rfl⟩
  obtain ⟨vb, HVB⟩ : ∃ z, Hid (w.heap.size = z) := ⟨_, rfl⟩
  rw [HW1.out] at HBA HOM
  have HSZ : Hid (w1.heap.size = w.heap.size + 1) := by show _ = _; rw [← HW1.out]; simp
  rw [HVB.out] at HOM
  clear hq hI hs h1 h2 h3 hd hV
  by_cases hbad : 4096 < n ∨ x < -2 ∨ 2 < x
  · have HB : Hid (MnP I w0 w w1 X q N x n) := ⟨(Pstep.of HQ.out HBA.out).more (by omega), fun a b c => by omega⟩
    have h4 : (4096 : Int) < n ∨ (¬ (4096 : Int) < n ∧ x < -2) ∨ (¬ (4096 : Int) < n ∧ ¬ x < -2 ∧ 2 < x) := by omega
    clear hbad
    rcases h4 with q1 | ⟨q1, q2⟩ | ⟨q1, q2, q3⟩
    all_goals
      go_enter Try.func13, Try.ntmps13
      go_wp2_with fail
      go_ret
      rw [HW1.out]
      exact ⟨rfl, HB.out⟩
  · have q1 : ¬ (4096 : Int) < n := by omega
    have q2 : ¬ x < -2 := by omega
    have q3 : ¬ 2 < x := by omega
    clear hbad
    have HP1 := hid (HP.out.on HBA.out)
    obtain ⟨F, G, hF, hG, _, _, _⟩ := HP1.out.fg
    obtain ⟨lr, lc, r0, hrl⟩ := hG.len0
    have b1 := HP1.out.blk.c1
    have o4 := HOM.out.c4
    have o6 := HOM.out.c6
    obtain ⟨ll, HLL⟩ : ∃ z, Hid (L.length = z) := ⟨_, rfl⟩
    rw [HLL.out] at r0 HIL hcnt
    have hll : (ll : Int) ≤ 1024 := by omega
    clear hF hG
    go_enter Try.func13, Try.ntmps13
    go_upto_region 3 with fail
    rw [HW1.out, HVB.out]
    go_wp2_with fail
    go_loopw [5] (fun i wr => ∃ (j : Nat) (rv' : Value) (zs' : List Int) (lg' : Bool) (L' : List Fl) (g' : Int), (j : Int) ≤ 1026 ∧ ll ≤ j ∧ i = .int .i64 j ∧ Hid (Pp wr (Gr X w1 wr) q p r rv' zs' lg' L' g' ∧ Fx X w1 wr ∧ zs'.length ≤ 100000 ∧ g' ≤ N + (j - ll) ∧ I j L' g')) (fun i _ => 1100 - (intOf i).toNat)
    case atStart => exact ⟨ll, rv, zs, lg, L, g, by omega, by omega, rfl, HP1.out.gr HP1.out.lt (Nat.le_refl _), Fx.refl _ _, HZ.out, by have := HGN.out; omega, HIL.out⟩
    case round =>
      clear r0 b1 o4 o6 hrl HP1
      obtain ⟨j, rv', zs', lg', L', g', hj, hlj, rfl, HR⟩ := hrel
      have HNX : Hid (∀ k, k = vb → k < w1.heap.size ∧ ¬ X k) := fun k e => by
        have := HVB.out
        have := HSZ.out
        exact ⟨by omega, fun e2 => by have := HP.out.lt k e2; omega⟩
      have HOMr : Hid (Om wr vb kd sc tt no x at' a n c) := HOM.out.at (HR.out.2.1.block vb (HNX.out vb rfl).1 (HNX.out vb rfl).2)
      have o4 := HOMr.out.c4
      have o2 := HOMr.out.c2
      have o6 := HOMr.out.c6
      by_cases hlt : (j : Int) < 1024 + x
      · have hV1 : Vs wr (fun k => V k ∧ k < w.heap.size) a n c d := by
          have h1 : Vs w (fun k => V k ∧ k < w.heap.size) a n c d := ⟨HD.out.bs, HD.out.nc, HD.out.cm, HD.out.nil, fun ad e hn => ⟨HD.out.lies ad e hn, (HD.out.bs.at_block e hn).1⟩⟩
          exact (h1.step fun k hk _ _ => HBA.out.block k hk).step fun k hk e _ => HR.out.2.1.block k hk (HVX.out k e.1)
        have k1 := sends_ (Gr X w1 wr) (fun k => V k ∧ k < w.heap.size) q p r rv' zs' lg' L' g' tt a n c d wr HR.out.1 hV1 (fun k e q' => by
          rcases q'.1 with q' | q'
          · exact HVX.out k e.1 q'
          · have := HSZ.out; omega) HT.out (by have := HR.out.2.2.2.1; omega) HR.out.2.2.1
        clear hV1
        go_wp2_with fail
        refine k1.mono ?_
        rintro e w2 ⟨rfl, hsn⟩
        have HSN := hid hsn
        clear k1 hsn
        have HNX2 : Hid (∃ rv2 zs2 lg2 L2 g2, Pp w2 (Gr X w1 w2) q p r rv2 zs2 lg2 L2 g2 ∧ Fx X w1 w2 ∧ zs2.length ≤ 100000 ∧ g2 ≤ N + ((j + 1 : Nat) - ll) ∧ I (j + 1) L2 g2) := by
          rcases HSN.out with ⟨_, rv2, zs2, lg2, k1, k2, k3⟩ | ⟨h65, _⟩
          · refine ⟨rv2, zs2, lg2, _, _, k1.wide (fun k e => ⟨e.1.elim (fun e => e.1) (fun e => .inr (Nat.le_trans HR.out.2.1.size e)), e.2⟩) (fun k e => e.2), ?_, k3, ?_, HS.out j L' g' HR.out.2.2.2.2⟩
            · exact ⟨k2.os.trans HR.out.2.1.os, k2.tape.trans HR.out.2.1.tape, k2.output.trans HR.out.2.1.output, Nat.le_trans HR.out.2.1.size k2.size, fun k hk hX => (k2.block k (Nat.lt_of_lt_of_le hk HR.out.2.1.size) (fun e => e.1.elim hX (fun e => by omega))).trans (HR.out.2.1.block k hk hX)⟩
            · have := HR.out.2.2.2.1
              unfold sndG
              split <;> omega
          · omega
        obtain ⟨rv2, zs2, lg2, L2, g2, HR2⟩ := HNX2.out
        go_wp2_with fail
        go_roundw
        case rel => exact ⟨j + 1, rv2, zs2, lg2, L2, g2, by omega, by omega, by go_num, HR2⟩
        case measure => simp [intOf]; omega
      · have HFIN : Hid (MnP I w0 w wr X q N x n) := by
          have hw : ∀ k, Gr X w1 wr k → Gr X w wr k := fun k e => ⟨e.1.imp id (fun e => by have := HSZ.out; omega), e.2⟩
          have hPw := HR.out.1.wide hw (fun k e => e.2)
          have hF : Fx X w wr := ⟨HR.out.2.1.os.trans HBA.out.os, HR.out.2.1.tape.trans HBA.out.tape, HR.out.2.1.output.trans HBA.out.output, Nat.le_trans HBA.out.size HR.out.2.1.size, fun k hk hX => (HR.out.2.1.block k (Nat.lt_of_lt_of_le hk HBA.out.size) hX).trans (HBA.out.block k hk)⟩
          have hg := HR.out.2.2.2.1
          exact ⟨⟨⟨⟨p, r, rv', zs', lg', L', g', hPw, HR.out.2.2.1, by omega⟩, fun k e => e.1.elim (HQ.out.lo k) (Nat.le_trans HQ.out.bel.size), hF.below HQ.out.bel HQ.out.bel.size HQ.out.lo⟩, hF⟩, fun _ _ _ => ⟨p, r, rv', zs', lg', L', g', j, hPw, HR.out.2.2.2.2, by omega, HR.out.2.2.1, by omega⟩⟩
        go_wp2_with fail
        go_ret
        exact ⟨rfl, HFIN.out⟩
end Go.Proofs.Ytacjhbhmhgekhaa
