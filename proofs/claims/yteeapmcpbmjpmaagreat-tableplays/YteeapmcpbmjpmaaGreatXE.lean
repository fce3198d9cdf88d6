import Derived.Test.YteeapmcpbmjpmaaGreatZM
import Derived.Test.YteeapmcpbmjpmaaGreatXA
namespace Go.Proofs.YteeapmcpbmjpmaaGreat
set_option maxRecDepth 100000
open Go.RowKit Go.Shelf Go.Maps
set_option linter.unusedVariables false

/-! A table with changes over it, the program's and the document's. Z: what is only read. -/
/-- The document's table, its slice's room too. -/
def Dq (w : World) (Z : Nat → Prop) (r : Nat) (M : Tab) : Prop := ∃ a c, Dd w Z r a M.length c M ∧ M.length ≤ c ∧ c ≤ maxLen
theorem Dq.keep {w w' : World} {Z Z' : Nat → Prop} {r : Nat} {M : Tab} (h : Dq w Z r M) (hr : w'.heap[r]? = w.heap[r]?) (hk : ∀ x, x < w.heap.size → Z x → w'.heap[x]? = w.heap[x]?) (hZ : ∀ x, x < w.heap.size → Z x → Z' x) : Dq w' Z' r M := by
  obtain ⟨a, c, hd, h1, h2⟩ := h
  have h3 : Rl w (fun x => Z' x ∧ Z x) a M.length M := hd.rl.wide fun x hx hz => ⟨hZ x hx hz, hz⟩
  exact ⟨a, c, ⟨hr.trans hd.var, (h3.step fun x hx hz _ => hk x hx hz.2).wide fun x _ hz => hz.1⟩, h1, h2⟩
theorem Dq.lt {w : World} {Z : Nat → Prop} {r : Nat} {M : Tab} (h : Dq w Z r M) : r < w.heap.size := by
  obtain ⟨a, c, hd, h1, h2⟩ := h
  exact (Array.getElem?_eq_some_iff.1 hd.var).1
structure Pt (w : World) (Z : Nat → Prop) (t b r : Nat) (M R : Tab) : Prop where
  tw : Tw w t b Z M
  dd : Dq w Z r R
  zt : Z t
  zb : ¬ Z b
  zr : ¬ Z r
  br : b ≠ r
structure Po (w : World) (Z : Nat → Prop) (o b1 b2 q s1 s2 : Nat) (I W J : Tab) : Prop where
  ov : Ov w o b1 b2 Z I W
  qo : w.heap[q]? = some (.cells #[.pointer (some ⟨s1, 0, none⟩), .pointer (some ⟨s2, 0, none⟩)] 77 (0, 0))
  d1 : Dq w Z s1 W
  d2 : Dq w Z s2 J
  zo : Z o
  z2 : Z b2
  zq : Z q
  z1 : Z s1
  n1 : ¬ Z b1
  n2 : ¬ Z s2
  n12 : b1 ≠ s2
section
variable {w w' : World} {Z Z' : Nat → Prop} {t b r o b1 b2 q s1 s2 : Nat} {M R I W J : Tab}
theorem Tw.keepZ (h : Tw w t b Z M) (ht : w'.heap[t]? = w.heap[t]?) (hb : w'.heap[b]? = w.heap[b]?) (hk : ∀ x, x < w.heap.size → Z x → w'.heap[x]? = w.heap[x]?) (hZ : ∀ x, x < w.heap.size → Z x → Z' x) : Tw w' t b Z' M := by
  have h1 : Tw w t b (fun x => Z' x ∧ Z x) M := h.wide fun x hx hz => ⟨hZ x hx hz, hz⟩
  exact (h1.step ht hb fun x hx hz _ => hk x hx hz.2).wide fun x _ hz => hz.1
theorem Mp.keepZ (h : Mp w b Z M) (hb : w'.heap[b]? = w.heap[b]?) (hk : ∀ x, x < w.heap.size → Z x → w'.heap[x]? = w.heap[x]?) (hZ : ∀ x, x < w.heap.size → Z x → Z' x) : Mp w' b Z' M := by
  have h1 : Mp w b (fun x => Z' x ∧ Z x) M := h.wide fun x hx hz => ⟨hZ x hx hz, hz⟩
  exact (h1.step hb fun x hx hz _ => hk x hx hz.2).wide fun x _ hz => hz.1
/-- What a step leaves as it was: all that is read, and the two that may be written. -/
theorem Pt.keep (h : Pt w Z t b r M R) (hk : ∀ x, x < w.heap.size → Z x ∨ x = b ∨ x = r → w'.heap[x]? = w.heap[x]?) (hZ : ∀ x, x < w.heap.size → Z x → Z' x) (hb : ¬ Z' b) (hr : ¬ Z' r) : Pt w' Z' t b r M R :=
  ⟨h.tw.keepZ (hk t h.tw.tbl.lt (.inl h.zt)) (hk b h.tw.mp.lt (.inr (.inl rfl))) (fun x hx hz => hk x hx (.inl hz)) hZ,
    h.dd.keep (hk r h.dd.lt (.inr (.inr rfl))) (fun x hx hz => hk x hx (.inl hz)) hZ, hZ t h.tw.tbl.lt h.zt, hb, hr, h.br⟩
theorem Po.keep (h : Po w Z o b1 b2 q s1 s2 I W J) (hk : ∀ x, x < w.heap.size → Z x ∨ x = b1 ∨ x = s2 → w'.heap[x]? = w.heap[x]?) (hZ : ∀ x, x < w.heap.size → Z x → Z' x) (hb : ¬ Z' b1) (hs : ¬ Z' s2) : Po w' Z' o b1 b2 q s1 s2 I W J :=
  have hql : q < w.heap.size := (Array.getElem?_eq_some_iff.1 h.qo).1
  ⟨⟨(hk o h.ov.lt (.inl h.zo)).trans h.ov.obj, h.ov.is.keepZ (hk b1 h.ov.is.lt (.inr (.inl rfl))) (fun x hx hz => hk x hx (.inl hz)) hZ, h.ov.was.keepZ (hk b2 h.ov.was.lt (.inl h.z2)) (fun x hx hz => hk x hx (.inl hz)) hZ, h.ov.tokI, h.ov.tokW, h.ov.ne⟩,
    (hk q hql (.inl h.zq)).trans h.qo, h.d1.keep (hk s1 h.d1.lt (.inl h.z1)) (fun x hx hz => hk x hx (.inl hz)) hZ, h.d2.keep (hk s2 h.d2.lt (.inr (.inr rfl))) (fun x hx hz => hk x hx (.inl hz)) hZ,
    hZ o h.ov.lt h.zo, hZ b2 h.ov.was.lt h.z2, hZ q hql h.zq, hZ s1 h.d1.lt h.z1, hb, hs, h.n12⟩
/-- The program's table has turned. -/
theorem Pt.turnT (h : Pt w Z t b r M R) {M' : Tab} (hg : w.grownBy w' (some b)) (hT : Tw w' t b (fun x => Z x ∨ w.heap.size ≤ x) M') : Pt w' (fun x => Z x ∨ w.heap.size ≤ x) t b r M' R :=
  ⟨hT, h.dd.keep (hg.block r h.dd.lt (fun e => h.br (Option.some.inj e).symm)) (fun x hx hz => hg.block x hx (fun e => h.zb (by rw [← Option.some.inj e]; exact hz))) (fun x _ hz => .inl hz), .inl h.zt,
    fun q => by rcases q with q | q; exact h.zb q; have := h.tw.mp.lt; omega, fun q => by rcases q with q | q; exact h.zr q; have := h.dd.lt; omega, h.br⟩
/-- The document's table has turned. -/
theorem Pt.turnR (h : Pt w Z t b r M R) {R' : Tab} (ha : ApS w w' Z r R') : Pt w' (fun x => (Z x ∨ w.heap.size ≤ x) ∧ x ≠ r) t b r M R' := by
  obtain ⟨a, c, hd, h1, h2, hg⟩ := ha
  have hk : ∀ x, x < w.heap.size → Z x → w'.heap[x]? = w.heap[x]? := fun x hx hz => hg.block x hx (fun e => h.zr (by rw [← Option.some.inj e]; exact hz))
  have hZ : ∀ x, x < w.heap.size → Z x → (Z x ∨ w.heap.size ≤ x) ∧ x ≠ r := fun x _ hz => ⟨.inl hz, fun e => h.zr (e ▸ hz)⟩
  refine ⟨h.tw.keepZ (hk t h.tw.tbl.lt h.zt) (hg.block b h.tw.mp.lt (fun e => h.br (Option.some.inj e))) hk hZ, ⟨a, c, hd, h1, h2⟩, hZ t h.tw.tbl.lt h.zt, fun q => ?_, fun q => q.2 rfl, h.br⟩
  rcases q.1 with q | q
  · exact h.zb q
  · have := h.tw.mp.lt; omega
end
/-- The blocks outside F are as they were. -/
structure Fz (F : Nat → Prop) (w w' : World) : Prop where
  os : w'.os = w.os
  tape : w'.tape = w.tape
  output : w'.output = w.output
  size : w.heap.size ≤ w'.heap.size
  same : ∀ x, x < w.heap.size → ¬ F x → w'.heap[x]? = w.heap[x]?
theorem Fz.refl (F : Nat → Prop) (w : World) : Fz F w w := ⟨rfl, rfl, rfl, Nat.le_refl _, fun _ _ _ => rfl⟩
theorem Fz.ofBelow {F : Nat → Prop} {w w' : World} (h : Below w.heap.size w w') : Fz F w w' := ⟨h.os, h.tape, h.output, h.size, fun x hx _ => h.block x hx⟩
theorem Fz.ofGrown {F : Nat → Prop} {w w' : World} {g : Nat} (h : w.grownBy w' (some g)) (hg : F g) : Fz F w w' := ⟨h.os, h.tape, h.output, h.size, fun x hx hn => h.block x hx (fun e => hn (by rw [Option.some.inj e]; exact hg))⟩
theorem Fz.trans {F F' : Nat → Prop} {w w' w'' : World} (h : Fz F w w') (k : Fz F' w' w'') (hF : ∀ x, x < w.heap.size → F' x → F x) : Fz F w w'' :=
  ⟨k.os.trans h.os, k.tape.trans h.tape, k.output.trans h.output, Nat.le_trans h.size k.size, fun x hx hn => (k.same x (Nat.lt_of_lt_of_le hx h.size) (fun q => hn (hF x hx q))).trans (h.same x hx hn)⟩
theorem Fz.below {F : Nat → Prop} {w w' : World} {B : Nat} (h : Fz F w w') (hB : B ≤ w.heap.size) (hF : ∀ x, F x → B ≤ x) : Below B w w' := ⟨h.os, h.tape, h.output, h.size, fun x hx => h.same x (by omega) (fun q => by have := hF x q; omega)⟩
end Go.Proofs.YteeapmcpbmjpmaaGreat
namespace Go.Proofs.YteeapmcpbmjpmaaGreat
set_option maxRecDepth 100000
open Go.RowKit Go.Shelf Go.Maps
set_option linter.unusedVariables false
attribute [local go_sem ↓] Go.wp_at_zero Go.wp_at_succ

set_option maxHeartbeats 1000000 in
/-- The law's marked: are these the bytes, and behind them these marks? Then all is written over. -/
theorem marked_ (g n c m d : Nat) (a : Option Addr) (zs : List Int) (x y : Int) (w : World) (h : Yr w g (n + 2) (zs ++ [x, y])) (hnc : n + 2 ≤ c) (hcm : c ≤ maxLen) (hb : Bs w a n zs) (hn : n ≤ 100000) :
    Calls Tryz.prog 25 #[.slice (some ⟨g, 0, none⟩) (n + 2) c, .slice a n d, .int .u8 x, .int .u8 y] w fun e w' => e = .returned (.bool true) ∧ (∃ w1 ys, Below w.heap.size w w1 ∧ w1.grownBy w' (some g) ∧ Yr w' g (n + 2) ys) := by
  have HY := hid h
  have hl : zs.length = n := hb.1
  unfold maxLen at hcm
  have e1 : (zs ++ [x, y]).getD n 0 = x := by simp [List.getD, ← hl]
  have e2 : (zs ++ [x, y]).getD (n + 1) 0 = y := by simp [List.getD, ← hl]
  have HT : Hid ((zs ++ [x, y]).take n = zs) := by show _ = _; rw [← hl]; simp
  obtain ⟨N, HN⟩ : ∃ N, Hid (n + 2 = N) := ⟨_, rfl⟩
  obtain ⟨n1, Hn1⟩ : ∃ N : Nat, Hid (n + 1 = N) := ⟨_, rfl⟩
  have HE1 := hid e1
  have HE2 := hid e2
  rw [Hn1.out] at HE2
  have i1 : (0 : Int) ≤ n := by omega
  have i2 : (n : Int) ≤ c := by omega
  have i3 : ¬ c = 0 := by omega
  have i4 : (n : Int) + 1 = n1 := by have := Hn1.out; omega
  have i5 : (n : Int) < N := by have := HN.out; omega
  have i6 : (n1 : Int) < N := by have := HN.out; have := Hn1.out; omega
  have kb := fun wx (h1 : Yr wx g (n + 2) (zs ++ [x, y])) (h2 : Bs wx a n zs) => s_sameB (w0 := wx) (w := wx) c d true (Below.refl _ _) (by have h3 := ((h1.vs (c := c) hnc (by unfold maxLen; omega)).cut (m := n) (d := c) (by omega) (by omega) (Nat.le_refl _)).bs; rw [HT.out] at h3; exact h3) h2 (by omega) (by omega) (by simp)
  rw [HN.out] at HY kb ⊢
  have HNN := HN.out
  have HB := hid hb
  clear h hb hl e1 e2
  go_enter Tryz.func25, Tryz.ntmps25
  go_wp2_with fail
  refine (kb _ HY.out HB.out).mono ?_
  rintro e w1 ⟨rfl, -, bb⟩
  have HB1 := hid bb
  have HY1 := hid (HY.out.below bb)
  have c1 := HY1.out.cell (i := n) (by omega)
  have c2 := HY1.out.cell (i := n1) (by have := Hn1.out; omega)
  rw [HE1.out] at c1
  rw [HE2.out] at c2
  have q1 : (x == x) = true := by simp
  have q2 : (y == y) = true := by simp
  clear bb kb HB
  go_wp2_with fail
  clear c1 c2
  go_loopw [11] (fun i wr => ∃ (j : Nat) (us : List Int), j ≤ N ∧ i = .int .i64 j ∧ Hid (Yr wr g N us) ∧ Hid (w1.grownBy wr (some g))) (fun i _ => N - (intOf i).toNat)
  case atStart => exact ⟨0, _, by omega, rfl, HY1, ⟨rfl, rfl, rfl, Nat.le_refl _, fun _ _ _ => rfl⟩⟩
  case round =>
    obtain ⟨j, us, hj, rfl, HU, HGR⟩ := hrel
    by_cases hlt : j < N
    · have hjI : (j : Int) < N := by omega
      have cj := HU.out.cell (i := j) (by omega)
      have fj := HU.out.fz j
      have HU2 := hid (HU.out.set (i := j) (z := 35) (by omega) (by omega))
      have HG2 := hid (by_trans HGR.out (set_by wr g j (.int .u8 35)))
      go_wp2_with fail
      go_roundw
      case rel => exact ⟨j + 1, _, by omega, by go_num, HU2, HG2⟩
      case measure => simp [intOf]; omega
    · have hjI : ¬ (j : Int) < N := by omega
      clear hlt
      go_wp2_with fail
      go_ret
      exact ⟨by first | rfl | simp, w1, HB1.out, HGR.out, us, HU.out⟩
end Go.Proofs.YteeapmcpbmjpmaaGreat
namespace Go.Proofs.YteeapmcpbmjpmaaGreat
set_option maxRecDepth 100000
open Go.RowKit Go.Shelf Go.Maps
set_option linter.unusedVariables false
attribute [local go_sem ↓] Go.wp_at_zero Go.wp_at_succ

def endS' : SD := ⟨none, 0, none, 0, ⟨[], [], true⟩⟩
theorem Sl.cut {w : World} {V : Nat → Prop} {a : Option Addr} {n k : Nat} {l : List Sx} (h : Sl w V a n l) (hk : k ≤ n) : Sl w V a k (l.take k) := by
  refine ⟨by rw [List.length_take, h.len]; omega, ?_⟩
  rcases h.cells with h0 | ⟨b, off, e, hb, hc⟩
  · exact .inl (by omega)
  · refine .inr ⟨b, off, e, hb, fun i hi => ?_⟩
    have := hc i (by omega)
    have e : (l.take k).getD i default = l.getD i default := by simp [List.getD, hi]
    rw [e]
    exact this
theorem LY.sv {B : Nat} {W : World} {e : LE} (h : LY B W e) : SV W (fun x => B ≤ x) (leS e) := by
  have h1 := ((h.k.vs h.ck.1 h.ck.2).cut (m := e.s.k.length) (d := e.s.k.length + 2) (by omega) (by omega) h.ck.1).wide (V' := fun x => B ≤ x) fun x _ hx => by rw [hx]; exact h.bk
  have h2 := ((h.v.vs h.cv.1 h.cv.2).cut (m := e.s.v.length) (d := e.s.v.length + 2) (by omega) (by omega) h.cv.1).wide (V' := fun x => B ≤ x) fun x _ hx => by rw [hx]; exact h.bv
  have e1 : List.take e.s.k.length (e.s.k ++ [161, 162]) = e.s.k := by simp
  have e2 : List.take e.s.v.length (e.s.v ++ [163, 164]) = e.s.v := by simp
  rw [e1] at h1
  rw [e2] at h2
  exact ⟨h1, h2⟩
/-- The sets that were lent, as a list. -/
theorem Ln.sl {w0 W : World} {m : Nat} {vs vk vv : Value} {es : List LE} (h : Ln w0 W m vs vk vv (es.map leS ++ [endS']) es es es) : ∃ gs cs, vs = .slice (some ⟨gs, 0, none⟩) (es.length + 1) cs ∧ es.length + 1 ≤ cs ∧ cs ≤ maxLen ∧ Sl W (fun x => w0.heap.size ≤ x) (some ⟨gs, 0, none⟩) (es.length + 1) (es.map (·.s) ++ [⟨[], [], true⟩]) := by
  obtain ⟨a, c, hv, hsl, hlc, hlm, -⟩ := Sl.ofOwn (V := fun x => w0.heap.size ≤ x) h.os (fun d hd => by
    rcases List.mem_append.1 hd with hd | hd
    · obtain ⟨e, he, rfl⟩ := List.mem_map.1 hd
      exact (h.y e he).sv
    · rw [List.mem_singleton] at hd
      subst hd
      exact ⟨vs_none W _, vs_none W _⟩) (fun x hx => hx)
  have hn : (es.map leS ++ [endS']).length = es.length + 1 := by simp
  rw [hn] at hv hsl hlc
  have hm : (es.map leS ++ [endS']).map (·.s) = es.map (·.s) ++ [⟨[], [], true⟩] := by simp [leS, endS', Function.comp_def]
  rw [hm] at hsl
  obtain ⟨a', c', hv', -, -, -, hh⟩ := own_addr h.os
  rw [hn] at hv' hh
  rw [hv] at hv'
  simp only [Value.slice.injEq, true_and] at hv'
  obtain ⟨rfl, rfl⟩ := hv'
  rcases hh with ⟨_, h0⟩ | ⟨g, rfl, _⟩
  · omega
  · exact ⟨g, c, hv, hlc, hlm, hsl⟩
set_option maxHeartbeats 400000 in
theorem of_ (w : World) (m gs n c : Nat) (hc : w.cell? ⟨m, 0, none⟩ = some (.slice (some ⟨gs, 0, none⟩) (n + 1) c)) (hnc : n + 1 ≤ c) (hcm : c ≤ maxLen) :
    Calls Tryz.prog 53 #[.pointer (some ⟨m, 0, none⟩)] w fun e w' => e = .returned (.slice (some ⟨gs, 0, none⟩) n (n + 1)) ∧ w' = w := by
  unfold maxLen at hcm
  have i1 : (0 : Int) ≤ n := by omega
  have i2 : (n : Int) ≤ (n : Int) + 1 := by omega
  have i3 : (n : Int) + 1 ≤ c := by omega
  have i4 : (n : Int) + 1 - 1 = n := by omega
  go_enter Tryz.func53, Tryz.ntmps53
  go_wp2_with fail
  go_ret
  exact ⟨by first | rfl | simp, rfl⟩
/-- What was lent, as it is written over. -/
structure Hd (w0 W0 wr : World) (m gs : Nat) (vs vk vv : Value) (es : List LE) (i : Nat) : Prop where
  var : wr.heap[m]? = some (.cells #[vs, vk, vv] 82 (0, 0))
  row : ∃ cur, wr.heap[gs]? = some (.cells cur 44 (0, 0)) ∧ (es.length + 1) * 3 ≤ cur.size
  ok : wr.ownsRow w0.heap.size 35 1 vk es.length (es.map leK)
  ov : wr.ownsRow w0.heap.size 35 1 vv es.length (es.map leV)
  y : ∀ j, i ≤ j → ∀ e, es[j]? = some e → LY w0.heap.size wr e
  bel : Below w0.heap.size w0 wr
  same : ∀ x, x < W0.heap.size → (∀ e ∈ es, x ≠ e.gk ∧ x ≠ e.gv) → x ≠ gs → wr.heap[x]? = W0.heap[x]?
  size : W0.heap.size ≤ wr.heap.size
theorem Hd.below {w0 W0 wr w' : World} {m gs i : Nat} {vs vk vv : Value} {es : List LE} (h : Hd w0 W0 wr m gs vs vk vv es i) (hb : Below wr.heap.size wr w') : Hd w0 W0 w' m gs vs vk vv es i := by
  obtain ⟨cur, hc, hs⟩ := h.row
  exact ⟨(hb.block _ (Array.getElem?_eq_some_iff.1 h.var).1).trans h.var, ⟨cur, (hb.block _ (Array.getElem?_eq_some_iff.1 hc).1).trans hc, hs⟩, own_bel h.ok hb, own_bel h.ov hb, fun j hj e he => (h.y j hj e he).same (hb.block _ (h.y j hj e he).k.lt) (hb.block _ (h.y j hj e he).v.lt), bel_bel h.bel h.bel.size hb, fun x hx h1 h2 => (hb.block x (by have := h.size; omega)).trans (h.same x hx h1 h2), Nat.le_trans h.size hb.size⟩
end Go.Proofs.YteeapmcpbmjpmaaGreat
namespace Go.Proofs.YteeapmcpbmjpmaaGreat
set_option maxRecDepth 100000
open Go.RowKit Go.Shelf Go.Maps
set_option linter.unusedVariables false
attribute [local go_sem ↓] Go.wp_at_zero Go.wp_at_succ

theorem nd_at {es : List LE} (h : (es.flatMap leB).Nodup) {i j : Nat} {e f : LE} (hi : es[i]? = some e) (hj : es[j]? = some f) (hij : i < j) : e.gk ≠ f.gk ∧ e.gk ≠ f.gv ∧ e.gv ≠ f.gk ∧ e.gv ≠ f.gv := by
  induction es generalizing i j with
  | nil => simp at hi
  | cons x es ih =>
    rw [List.flatMap_cons, List.nodup_append] at h
    cases j with
    | zero => omega
    | succ j =>
      have hj' : es[j]? = some f := by simpa using hj
      cases i with
      | succ i => exact ih h.2.1 (by simpa using hi) hj' (by omega)
      | zero =>
        obtain rfl : x = e := by simpa using hi
        have hm : f ∈ es := List.mem_of_getElem? hj'
        have hk : ∀ a ∈ leB f, a ∈ es.flatMap leB := fun a ha => List.mem_flatMap.2 ⟨f, hm, ha⟩
        have h1 := hk f.gk (by simp [leB])
        have h2 := hk f.gv (by simp [leB])
        exact ⟨h.2.2 x.gk (by simp [leB]) _ h1, h.2.2 x.gk (by simp [leB]) _ h2, h.2.2 x.gv (by simp [leB]) _ h1, h.2.2 x.gv (by simp [leB]) _ h2⟩
theorem nd_own {es : List LE} (h : (es.flatMap leB).Nodup) {i : Nat} {e : LE} (hi : es[i]? = some e) : e.gk ≠ e.gv := by
  induction es generalizing i with
  | nil => simp at hi
  | cons x es ih =>
    rw [List.flatMap_cons, List.nodup_append] at h
    cases i with
    | succ i => exact ih h.2.1 (by simpa using hi)
    | zero =>
      obtain rfl : x = e := by simpa using hi
      have := h.1
      simp [leB] at this
      exact this
theorem Hd.mark {w0 W0 wr w1 w2 : World} {m gs i i' g n : Nat} {vs vk vv : Value} {es : List LE} {ys : List Int} (h : Hd w0 W0 wr m gs vs vk vv es i) (hi : i ≤ i') (hb : Below wr.heap.size wr w1) (hg : w1.grownBy w2 (some g)) (hy : Yr w1 g n ys) (hm : ∃ e ∈ es, g = e.gk ∨ g = e.gv) (hg0 : w0.heap.size ≤ g) (hne : ∀ j, i' ≤ j → ∀ e, es[j]? = some e → e.gk ≠ g ∧ e.gv ≠ g) : Hd w0 W0 w2 m gs vs vk vv es i' := by
  have h := h.below hb
  obtain ⟨cur, hc, hs⟩ := h.row
  obtain ⟨cy, hcy⟩ := hy.blk
  have hbk : ∀ {x : Nat} {cs : Array Value} {T : TypeId} {fz : Nat × Nat}, w1.heap[x]? = some (.cells cs T fz) → T ≠ 5 → x ≠ g := fun {x cs T fz} hx hT e => by rw [e, hcy] at hx; simp at hx; exact hT hx.2.1.symm
  have hk : ∀ x, x < w1.heap.size → x ≠ g → w2.heap[x]? = w1.heap[x]? := fun x hx hn => hg.block x hx (fun e => hn (Option.some.inj e))
  have hrow : ∀ {v : Value} {k : Nat} {xs : List Value}, w1.ownsRow w0.heap.size 35 1 v k xs → w2.ownsRow w0.heap.size 35 1 v k xs := fun {v k xs} ho => own_at13 ho fun q hq => by
    obtain ⟨cq, hcq⟩ := own_type ho hq
    exact hk q (ho.lt q hq).2 (hbk hcq (by decide))
  refine ⟨(hk m (Array.getElem?_eq_some_iff.1 h.var).1 (hbk h.var (by decide))).trans h.var, ⟨cur, (hk gs (Array.getElem?_eq_some_iff.1 hc).1 (hbk hc (by decide))).trans hc, hs⟩, hrow h.ok, hrow h.ov, fun j hj e he => ?_, bel_by h.bel hg hg0, fun x hx h1 h2 => ?_, Nat.le_trans h.size hg.size⟩
  · have hl := h.y j (by omega) e he
    exact hl.same (hk _ hl.k.lt (hne j hj e he).1) (hk _ hl.v.lt (hne j hj e he).2)
  · obtain ⟨e, he, hge⟩ := hm
    have := h1 e he
    exact (hk x (by have := h.size; omega) (by rcases hge with rfl | rfl; exact this.1; exact this.2)).trans (h.same x hx h1 h2)
theorem Hd.set {w0 W0 wr : World} {m gs i o : Nat} {vs vk vv u : Value} {es : List LE} (h : Hd w0 W0 wr m gs vs vk vv es i) (hgs : w0.heap.size ≤ gs) : Hd w0 W0 (wr.setCell ⟨gs, o, none⟩ u) m gs vs vk vv es i := by
  obtain ⟨cur, hc, hs⟩ := h.row
  have hbk : ∀ {x : Nat} {cs : Array Value} {T : TypeId} {fz : Nat × Nat}, wr.heap[x]? = some (.cells cs T fz) → T ≠ 44 → x ≠ gs := fun {x cs T fz} hx hT e => by rw [e, hc] at hx; simp at hx; exact hT hx.2.1.symm
  have hk : ∀ x, x ≠ gs → (wr.setCell ⟨gs, o, none⟩ u).heap[x]? = wr.heap[x]? := fun x hn => Below.heap_setCell _ _ _ _ hn
  have hrow : ∀ {v : Value} {k : Nat} {xs : List Value}, wr.ownsRow w0.heap.size 35 1 v k xs → (wr.setCell ⟨gs, o, none⟩ u).ownsRow w0.heap.size 35 1 v k xs := fun {v k xs} ho => own_at13 ho fun q hq => by
    obtain ⟨cq, hcq⟩ := own_type ho hq
    exact hk q (hbk hcq (by decide))
  refine ⟨(hk m (hbk h.var (by decide))).trans h.var, ⟨cur.setIfInBounds o u, by simp [World.setCell, Array.getElem?_modify, hc], by simpa using hs⟩, hrow h.ok, hrow h.ov, fun j hj e he => ?_, h.bel.setCell hgs _, fun x hx h1 h2 => (hk x h2).trans (h.same x hx h1 h2), by simpa [World.setCell] using h.size⟩
  have hl := h.y j hj e he
  obtain ⟨c1, hc1⟩ := hl.k.blk
  obtain ⟨c2, hc2⟩ := hl.v.blk
  exact hl.same (hk _ (hbk hc1 (by decide))) (hk _ (hbk hc2 (by decide)))
theorem Hd.cells {w0 W0 wr : World} {m gs i : Nat} {vs vk vv : Value} {es : List LE} (h : Hd w0 W0 wr m gs vs vk vv es i) {o : Nat} (ho : o < (es.length + 1) * 3) : (∃ u, wr.cell? ⟨gs, o, none⟩ = some u) ∧ wr.frozen? ⟨gs, o, none⟩ = false := by
  obtain ⟨cur, hc, hs⟩ := h.row
  refine ⟨⟨cur[o]'(by omega), ?_⟩, by simp [World.frozen?, hc]⟩
  rw [cell_of_row _ _ o _ _ (0, 0) hc]
  exact Array.getElem?_eq_some_iff.2 ⟨by omega, rfl⟩
theorem own_cell {w : World} {base e n : Nat} {v : Value} {xs : List Value} (h : w.ownsRow base e 1 v n xs) (hn : 0 < n) : ∃ q c, v = .slice (some ⟨q, 0, none⟩) n c ∧ base ≤ q ∧ ∀ i u, xs[i]? = some u → w.cell? ⟨q, i, none⟩ = some u := by
  obtain ⟨a, c, hv, -, -, -, hh⟩ := own_addr h
  rcases hh with ⟨_, h0⟩ | ⟨g, rfl, h1, _, h2⟩
  · omega
  · exact ⟨g, c, hv, h1, h2⟩
end Go.Proofs.YteeapmcpbmjpmaaGreat
