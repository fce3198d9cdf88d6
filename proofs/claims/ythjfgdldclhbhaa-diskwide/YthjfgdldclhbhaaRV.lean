import Derived.Test.YthjfgdldclhbhaaRT
import Derived.Test.YthjfgdldclhbhaaRK
import Derived.Test.YthjfgdldclhbhaaRJ
namespace Go.Proofs.Ythjfgdldclhbhaa
set_option maxRecDepth 100000
open Go.RowKit Go.Shelf
set_option linter.unusedVariables false

/-- A pair and the desk, all of it new since w0. -/
structure Py (w0 w : World) (p d e k : Nat) (s : St) (Q N T : Nat → Prop) : Prop where
  pa : Pa w p d e k s Q N
  ds : ∃ v m xs, Ds w k T v m xs
  tq : ∀ b, T b → b < w.heap.size ∧ ¬ Q b ∧ ¬ N b ∧ b ≠ p
  lo : ∀ b, Q b ∨ N b ∨ T b → w0.heap.size ≤ b
  bl : Below w0.heap.size w0 w
/-- What a step leaves. -/
def Pz (w0 w w' : World) (p d e k : Nat) (s' : St) (Q N T : Nat → Prop) : Prop := ∃ Q' N' T', Py w0 w' p d e k s' Q' N' T' ∧ (∀ b, Q' b ∨ N' b ∨ T' b → Q b ∨ N b ∨ T b ∨ w.heap.size ≤ b) ∧ Fr (fun b => Q b ∨ N b ∨ T b) w w'
section
variable {w0 w w' w1 w2 : World} {p d e k : Nat} {s s' : St} {Q N T : Nat → Prop}
theorem Py.below (h : Py w0 w p d e k s Q N T) (hb : Below w.heap.size w w') : Py w0 w' p d e k s Q N T := by
  obtain ⟨v, m, xs, hd⟩ := h.ds
  exact ⟨h.pa.below hb, ⟨v, m, xs, hd.keep (fun b _ hl => hb.block b hl) (fun _ q _ => q)⟩, fun b q => ⟨Nat.lt_of_lt_of_le (h.tq b q).1 hb.size, (h.tq b q).2⟩, h.lo, bel_bel h.bl h.bl.size hb⟩
theorem fr_below (h : Below w0.heap.size w0 w) (hf : Fr Q w w') (hq : ∀ b, Q b → w0.heap.size ≤ b) : Below w0.heap.size w0 w' :=
  ⟨hf.os.trans h.os, hf.tape.trans h.tape, hf.output.trans h.output, Nat.le_trans h.size hf.size, fun b hb => (hf.same b (Nat.lt_of_lt_of_le hb h.size) (fun q => by have := hq b q; omega)).trans (h.block b hb)⟩
theorem pz_below (h : Py w0 w p d e k s Q N T) (hb : Below w.heap.size w w') : Pz w0 w w' p d e k s Q N T :=
  ⟨Q, N, T, h.below hb, fun b q => by
    rcases q with q | q | q
    · exact .inl q
    · exact .inr (.inl q)
    · exact .inr (.inr (.inl q)), Fr.ofB hb⟩
theorem pz_pw (h : Py w0 w p d e k s Q N T) (hw : Pw w w' p d e k s' Q N T) : Pz w0 w w' p d e k s' Q N T := by
  obtain ⟨Q', N', T', v', m', xs', h1, h2, h3, h4, h5⟩ := hw
  refine ⟨Q', N', T', ⟨h1, ⟨v', m', xs', h2⟩, h3, fun b q => ?_, fr_below h.bl h5 h.lo⟩, h4, h5⟩
  rcases h4 b q with q | q | q | q
  · exact h.lo b (.inl q)
  · exact h.lo b (.inr (.inl q))
  · exact h.lo b (.inr (.inr q))
  · exact Nat.le_trans h.bl.size q
theorem pz_ps (h : Py w0 w p d e k s Q N T) (hw : Ps w w' p d e k s' Q N) : Pz w0 w w' p d e k s' Q N T := by
  obtain ⟨Q', N', h1, h2, h3⟩ := hw
  obtain ⟨v, m, xs, hd⟩ := h.ds
  refine pz_pw h ⟨Q', N', T, v, m, xs, h1, hd.keep (fun b hb hl => h3.same b hl (fun q => ?_)) (fun _ q _ => q), fun b hb => ?_, fun b hb => ?_, ⟨h3.os, h3.tape, h3.output, h3.size, fun b hb hn => h3.same b hb (fun q => hn ?_)⟩⟩
  · rcases q with q | q
    · exact (h.tq b hb).2.1 q
    · exact (h.tq b hb).2.2.1 q
  · obtain ⟨t1, t2, t3, t4⟩ := h.tq b hb
    refine ⟨Nat.lt_of_lt_of_le t1 h3.size, fun q => ?_, fun q => ?_, t4⟩
    · rcases h2 b (.inl q) with q | q | q
      · exact t2 q
      · exact t3 q
      · omega
    · rcases h2 b (.inr q) with q | q | q
      · exact t2 q
      · exact t3 q
      · omega
  · rcases hb with hb | hb | hb
    · rcases h2 b (.inl hb) with q | q | q
      · exact .inl q
      · exact .inr (.inl q)
      · exact .inr (.inr (.inr q))
    · rcases h2 b (.inr hb) with q | q | q
      · exact .inl q
      · exact .inr (.inl q)
      · exact .inr (.inr (.inr q))
    · exact .inr (.inr (.inl hb))
  · rcases q with q | q
    · exact .inl q
    · exact .inr (.inl q)
theorem Pz.pre (hb : Below w.heap.size w w1) (hp : Pz w0 w1 w' p d e k s' Q N T) : Pz w0 w w' p d e k s' Q N T := by
  obtain ⟨Q', N', T', h1, h2, h3⟩ := hp
  have := hb.size
  refine ⟨Q', N', T', h1, fun b q => ?_, ⟨h3.os.trans hb.os, h3.tape.trans hb.tape, h3.output.trans hb.output, Nat.le_trans hb.size h3.size, fun b hl hn => (h3.same b (by omega) hn).trans (hb.block b hl)⟩⟩
  rcases h2 b q with q | q | q | q
  · exact .inl q
  · exact .inr (.inl q)
  · exact .inr (.inr (.inl q))
  · exact .inr (.inr (.inr (by omega)))
theorem Pz.post (hp : Pz w0 w w1 p d e k s' Q N T) (hb : Below w1.heap.size w1 w') : Pz w0 w w' p d e k s' Q N T := by
  obtain ⟨Q', N', T', h1, h2, h3⟩ := hp
  exact ⟨Q', N', T', h1.below hb, h2, ⟨hb.os.trans h3.os, hb.tape.trans h3.tape, hb.output.trans h3.output, Nat.le_trans h3.size hb.size, fun b hl hn => (hb.block b (Nat.lt_of_lt_of_le hl h3.size)).trans (h3.same b hl hn)⟩⟩
/-- Two calls, one at each device, each over its own blocks. -/
theorem ps_two (h : Pa w p d e k s Q N) (hD : Dev w1 d s' Q) (hF : Fr Q w w1) (hR : Rd w2 e s' N) (hE : Fr N w1 w2) : Ps w w2 p d e k s' Q N := by
  have s1 := hF.size
  have s2 := hE.size
  have hlt := h.lt
  have hnl := h.nl
  refine ⟨Q, N, ⟨(hE.same p (by omega) h.nn).trans ((hF.same p hlt h.nq).trans h.pr), hD.fr hE h.ap, hR, h.ap, fun b hb => by have := hnl b hb; omega, h.nq, h.nn⟩, fun b q => ?_, ⟨hE.os.trans hF.os, hE.tape.trans hF.tape, hE.output.trans hF.output, by omega, fun b hb hn => (hE.same b (by omega) (fun q => hn (.inr q))).trans (hF.same b hb (fun q => hn (.inl q)))⟩⟩
  rcases q with q | q
  · exact .inl q
  · exact .inr (.inl q)
/-- Behind the first call the other device stands as it did. -/
theorem Pa.mid (h : Pa w p d e k s Q N) (hF : Fr Q w w1) : Rd w1 e s N ∧ w1.cell? ⟨p, 1, none⟩ = some (.pointer (some ⟨e, 0, none⟩)) :=
  ⟨h.ref.keep (fun b hb hl => hF.same b hl (fun q => h.ap b q hb)) (fun _ q _ => q), (cell_of_row _ _ 1 _ _ (0, 0) ((hF.same p h.lt h.nq).trans h.pr)).trans rfl⟩
theorem Ps.post (hp : Ps w w1 p d e k s' Q N) (hb : Below w1.heap.size w1 w') : Ps w w' p d e k s' Q N := by
  obtain ⟨Q', N', h1, h2, h3⟩ := hp
  exact ⟨Q', N', h1.below hb, h2, ⟨hb.os.trans h3.os, hb.tape.trans h3.tape, hb.output.trans h3.output, Nat.le_trans h3.size hb.size, fun b hl hn => (hb.block b (Nat.lt_of_lt_of_le hl h3.size)).trans (h3.same b hl hn)⟩⟩
end
theorem layA_secn (n : Nat) : ∀ (P : List (Nat × List Int)) (S : Nat → List Int), (∀ i, i < n → Sec (S i)) → (∀ q ∈ P, Sec q.2) → ∀ i, i < n → Sec (layA S P i)
  | [], S, hS, _, i, hi => hS i hi
  | q :: P, S, hS, hP, i, hi => layA_secn n P (lay1 S q) (fun j hj => by
      unfold lay1
      split
      · exact hP q List.mem_cons_self
      · exact hS j hj) (fun r hr => hP r (List.mem_cons_of_mem _ hr)) i hi
theorem rdB_sec {w : World} {d : Nat} {s : St} {Q : Nat → Prop} (h : Dev w d s Q) (i : Int) : (∀ z ∈ rdB s i, 0 ≤ z ∧ z ≤ 255) ∧ (rdB s i).length ≤ 512 := by
  unfold rdB
  by_cases hE : rdE s i = 0
  · rw [if_pos hE]
    have hin : 0 ≤ i ∧ i < s.n := by
      unfold rdE at hE
      by_cases q : 0 ≤ i ∧ i < s.n
      · exact q
      · rw [if_neg q] at hE; omega
    have := layA_secn s.n s.P s.S (fun i hi => h.sec i hi) (fun q hq => (h.pen q hq).2) i.toNat (by omega)
    exact ⟨this.2, Nat.le_of_eq this.1⟩
  · rw [if_neg hE]
    exact ⟨fun z hz => by simp at hz, by simp⟩
theorem same_big (a b : Option Addr) (n c m d : Nat) (xs : List Int) (w : World) (hx : Bs w a n xs) (hy : Bs w b m xs) (hn : n ≤ 9000000) (hm : m ≤ 9000000) :
    Calls Try.prog 15 #[.slice a n c, .slice b m d] w fun e w' => e = .returned (.bool true) ∧ Drawn w w' := by
  refine (same_d a b n c m d xs xs w hx hy (by unfold maxLen; omega) (by unfold maxLen; omega)).mono ?_
  rintro e w' ⟨rfl, D⟩
  rw [sameB_self]
  exact ⟨rfl, D⟩
theorem rdS_le (s : St) (i : Int) : (rdS s i).c ≤ s.c + 1 ∧ (rdS s i).P.length = s.P.length ∧ (rdS s i).k = s.k ∧ (rdS s i).n = s.n := by
  unfold rdS
  split
  · exact ⟨opS_c s, by rw [opS_P], by unfold opS; split <;> rfl, opS_n s⟩
  · exact ⟨Nat.le_succ _, rfl, rfl, rfl⟩
theorem wrS_le (s : St) (i : Int) (z : List Int) : (wrS s i z).c ≤ s.c + 1 ∧ (wrS s i z).P.length ≤ s.P.length + 1 ∧ (wrS s i z).k = s.k ∧ (wrS s i z).n = s.n := by
  have ok : (opS s).k = s.k := by unfold opS; split <;> rfl
  unfold wrS
  split
  · split
    · exact ⟨opS_c s, by simp, ok, opS_n s⟩
    · exact ⟨opS_c s, by rw [opS_P]; omega, ok, opS_n s⟩
  · exact ⟨Nat.le_succ _, Nat.le_succ _, rfl, rfl⟩
theorem flS_le (s : St) : (flS s).c ≤ s.c + 1 ∧ (flS s).P.length ≤ s.P.length ∧ (flS s).k = s.k ∧ (flS s).n = s.n := by
  have ok : (opS s).k = s.k := by unfold opS; split <;> rfl
  unfold flS
  split
  · exact ⟨opS_c s, by simp, ok, opS_n s⟩
  · exact ⟨opS_c s, by rw [opS_P]; exact Nat.le_refl _, ok, opS_n s⟩
end Go.Proofs.Ythjfgdldclhbhaa
namespace Go.Proofs.Ythjfgdldclhbhaa
set_option maxRecDepth 100000
open Go.RowKit Go.Shelf
set_option linter.unusedVariables false

theorem Om.c2 {w : World} {o : Nat} {K I : Int} {sc : Bool} {dv fv kv : Value} (h : Om w o K I sc dv fv kv) : w.cell? ⟨o, 2, none⟩ = some (.bool sc) := (cell_of_row _ _ 2 _ _ (0, 0) h).trans rfl
theorem Bl.bel0 {w0 w : World} {a : Option Addr} {n : Nat} {ks : List Bool} (h : Bl w0 a n ks) (hb : Below w0.heap.size w0 w) : Bl w a n ks := h.below hb
set_option maxHeartbeats 4000000 in
theorem stepL_ (w0 w : World) (p d e k : Nat) (s : St) (Q N T : Nat → Prop) (K : Int) (I : Int) (sc : Bool) (Da : Option Addr) (Dn Dc : Nat) (D : List Int) (Fa : Option Addr) (Fn Fc : Nat) (fs : List (Int × Int)) (Ka : Option Addr) (Kn Kc : Nat) (ks : List Bool)
    (h : Py w0 w p d e k s Q N T) (ho : OpIn w0 Da Dn Dc D Fa Fn Fc fs Ka Kn Kc ks) (hc : s.c ≤ 100000) (hp : s.P.length ≤ 100000) (hk : s.k ≤ 100000) (hsh : ¬ (Dn ≤ 65536 ∧ Fn ≤ 65536 ∧ Kn ≤ 65536)) :
    Calls Try.prog 12 #[.pointer (some ⟨p, 0, none⟩), .agg #[.int .i64 K, .int .i64 I, .bool sc, .slice Da Dn Dc, .slice Fa Fn Fc, .slice Ka Kn Kc]] w fun en w' => en = .returned (.bool true) ∧ Pz w0 w w' p d e k (s) Q N T := by
  have BA : Below w.heap.size w (w.alloc (.cells #[.int .i64 K, .int .i64 I, .bool sc, .slice Da Dn Dc, .slice Fa Fn Fc, .slice Ka Kn Kc] 34)) := (Below.refl _ _).alloc (Nat.le_refl _) _
  have om : Om (w.alloc (.cells #[.int .i64 K, .int .i64 I, .bool sc, .slice Da Dn Dc, .slice Fa Fn Fc, .slice Ka Kn Kc] 34)) w.heap.size K I sc (.slice Da Dn Dc) (.slice Fa Fn Fc) (.slice Ka Kn Kc) := heap_alloc_new w _
  have HE : Hid (decide (Dn ≤ 65536 ∧ Fn ≤ 65536 ∧ Kn ≤ 65536) = false) := by show _ = _; exact decide_eq_false hsh
  have ksh := short_ K I sc Da Dn Dc Fa Fn Fc Ka Kn Kc (w.alloc (.cells #[.int .i64 K, .int .i64 I, .bool sc, .slice Da Dn Dc, .slice Fa Fn Fc, .slice Ka Kn Kc] 34)) ho.dn (by have := ho.fn; omega) ho.kn
  rw [HE.out] at ksh
  have HY := hid h
  have HO := hid ho
  have HA := hid BA
  have HM := hid om
  have b0 := om.c0
  have b1 := om.c1
  have b2 := om.c2
  have b3 := om.c3
  have b4 := om.c4
  have b5 := om.c5
  clear h ho BA om
  go_enter Try.func12, Try.ntmps12
  go_wp2_with fail
  refine ksh.mono ?_
  rintro en w1 ⟨rfl, g1⟩
  have HB := hid (bel_bel HA.out HA.out.size g1)
  have HP := hid (HY.out.below HB.out)
  have om1 := HM.out.below g1
  clear ksh g1 HA HM b0 b1 b2 b3 b4 b5 om1
  go_wp2_with fail
  go_ret
  exact ⟨rfl, pz_below HY.out HB.out⟩
set_option maxHeartbeats 4000000 in
theorem stepX_ (w0 w : World) (p d e k : Nat) (s : St) (Q N T : Nat → Prop) (K : Int) (I : Int) (sc : Bool) (Da : Option Addr) (Dn Dc : Nat) (D : List Int) (Fa : Option Addr) (Fn Fc : Nat) (fs : List (Int × Int)) (Ka : Option Addr) (Kn Kc : Nat) (ks : List Bool)
    (h : Py w0 w p d e k s Q N T) (ho : OpIn w0 Da Dn Dc D Fa Fn Fc fs Ka Kn Kc ks) (hc : s.c ≤ 100000) (hp : s.P.length ≤ 100000) (hk : s.k ≤ 100000) (hsh : (Dn ≤ 65536 ∧ Fn ≤ 65536 ∧ Kn ≤ 65536)) (k1 : (K == 1) = false) (k2 : (K == 2) = false) (k3 : (K == 3) = false) (k4 : (K == 4) = false) (k5 : (K == 5) = false) (k6 : (K == 6) = false) (k7 : (K == 7) = false) (k8 : (K == 8) = false) (k9 : (K == 9) = false) (k10 : (K == 10) = false) (k11 : (K == 11) = false) (k12 : (K == 12) = false) (k13 : (K == 13) = false) :
    Calls Try.prog 12 #[.pointer (some ⟨p, 0, none⟩), .agg #[.int .i64 K, .int .i64 I, .bool sc, .slice Da Dn Dc, .slice Fa Fn Fc, .slice Ka Kn Kc]] w fun en w' => en = .returned (.bool true) ∧ Pz w0 w w' p d e k (s) Q N T := by
  have BA : Below w.heap.size w (w.alloc (.cells #[.int .i64 K, .int .i64 I, .bool sc, .slice Da Dn Dc, .slice Fa Fn Fc, .slice Ka Kn Kc] 34)) := (Below.refl _ _).alloc (Nat.le_refl _) _
  have om : Om (w.alloc (.cells #[.int .i64 K, .int .i64 I, .bool sc, .slice Da Dn Dc, .slice Fa Fn Fc, .slice Ka Kn Kc] 34)) w.heap.size K I sc (.slice Da Dn Dc) (.slice Fa Fn Fc) (.slice Ka Kn Kc) := heap_alloc_new w _
  have HE : Hid (decide (Dn ≤ 65536 ∧ Fn ≤ 65536 ∧ Kn ≤ 65536) = true) := by show _ = _; exact decide_eq_true hsh
  have ksh := short_ K I sc Da Dn Dc Fa Fn Fc Ka Kn Kc (w.alloc (.cells #[.int .i64 K, .int .i64 I, .bool sc, .slice Da Dn Dc, .slice Fa Fn Fc, .slice Ka Kn Kc] 34)) ho.dn (by have := ho.fn; omega) ho.kn
  rw [HE.out] at ksh
  have HY := hid h
  have HO := hid ho
  have HA := hid BA
  have HM := hid om
  have b0 := om.c0
  have b1 := om.c1
  have b2 := om.c2
  have b3 := om.c3
  have b4 := om.c4
  have b5 := om.c5
  clear h ho BA om
  go_enter Try.func12, Try.ntmps12
  go_wp2_with fail
  refine ksh.mono ?_
  rintro en w1 ⟨rfl, g1⟩
  have HB := hid (bel_bel HA.out HA.out.size g1)
  have HP := hid (HY.out.below HB.out)
  have om1 := HM.out.below g1
  clear ksh g1 HA HM b0 b1 b2 b3 b4 b5
  have b0 := om1.c0
  have b1 := om1.c1
  have b3 := om1.c3
  have b4 := om1.c4
  have b5 := om1.c5
  have c0 := HP.out.pa.c0
  have c1 := HP.out.pa.c1
  have HOM := hid om1
  clear om1
  clear c0 c1 b1 b3 b4 b5
  go_wp2_with fail
  go_ret
  exact ⟨rfl, pz_below HY.out HB.out⟩
set_option maxHeartbeats 4000000 in
theorem step7_ (w0 w : World) (p d e k : Nat) (s : St) (Q N T : Nat → Prop) (I : Int) (sc : Bool) (Da : Option Addr) (Dn Dc : Nat) (D : List Int) (Fa : Option Addr) (Fn Fc : Nat) (fs : List (Int × Int)) (Ka : Option Addr) (Kn Kc : Nat) (ks : List Bool)
    (h : Py w0 w p d e k s Q N T) (ho : OpIn w0 Da Dn Dc D Fa Fn Fc fs Ka Kn Kc ks) (hc : s.c ≤ 100000) (hp : s.P.length ≤ 100000) (hk : s.k ≤ 100000) (hsh : (Dn ≤ 65536 ∧ Fn ≤ 65536 ∧ Kn ≤ 65536)) :
    Calls Try.prog 12 #[.pointer (some ⟨p, 0, none⟩), .agg #[.int .i64 7, .int .i64 I, .bool sc, .slice Da Dn Dc, .slice Fa Fn Fc, .slice Ka Kn Kc]] w fun en w' => en = .returned (.bool true) ∧ Pz w0 w w' p d e k (s) Q N T := by
  have BA : Below w.heap.size w (w.alloc (.cells #[.int .i64 7, .int .i64 I, .bool sc, .slice Da Dn Dc, .slice Fa Fn Fc, .slice Ka Kn Kc] 34)) := (Below.refl _ _).alloc (Nat.le_refl _) _
  have om : Om (w.alloc (.cells #[.int .i64 7, .int .i64 I, .bool sc, .slice Da Dn Dc, .slice Fa Fn Fc, .slice Ka Kn Kc] 34)) w.heap.size 7 I sc (.slice Da Dn Dc) (.slice Fa Fn Fc) (.slice Ka Kn Kc) := heap_alloc_new w _
  have HE : Hid (decide (Dn ≤ 65536 ∧ Fn ≤ 65536 ∧ Kn ≤ 65536) = true) := by show _ = _; exact decide_eq_true hsh
  have ksh := short_ 7 I sc Da Dn Dc Fa Fn Fc Ka Kn Kc (w.alloc (.cells #[.int .i64 7, .int .i64 I, .bool sc, .slice Da Dn Dc, .slice Fa Fn Fc, .slice Ka Kn Kc] 34)) ho.dn (by have := ho.fn; omega) ho.kn
  rw [HE.out] at ksh
  have HY := hid h
  have HO := hid ho
  have HA := hid BA
  have HM := hid om
  have b0 := om.c0
  have b1 := om.c1
  have b2 := om.c2
  have b3 := om.c3
  have b4 := om.c4
  have b5 := om.c5
  clear h ho BA om
  go_enter Try.func12, Try.ntmps12
  go_wp2_with fail
  refine ksh.mono ?_
  rintro en w1 ⟨rfl, g1⟩
  have HB := hid (bel_bel HA.out HA.out.size g1)
  have HP := hid (HY.out.below HB.out)
  have om1 := HM.out.below g1
  clear ksh g1 HA HM b0 b1 b2 b3 b4 b5
  have b0 := om1.c0
  have b1 := om1.c1
  have b3 := om1.c3
  have b4 := om1.c4
  have b5 := om1.c5
  have c0 := HP.out.pa.c0
  have c1 := HP.out.pa.c1
  have HOM := hid om1
  clear om1
  obtain ⟨r1, r2, r3, r4, r5, r6, r7, r8, R⟩ := HP.out.pa.ref
  have q := R.c3
  clear R
  go_wp2_with fail
  refine (powerD HP.out.pa.dev).mono ?_
  rintro en w2 ⟨rfl, hw⟩
  obtain rfl := hw.symm
  clear hw
  go_wp2_with fail
  go_ret
  exact ⟨rfl, pz_below HY.out HB.out⟩
set_option maxHeartbeats 4000000 in
theorem step10_ (w0 w : World) (p d e k : Nat) (s : St) (Q N T : Nat → Prop) (I : Int) (sc : Bool) (Da : Option Addr) (Dn Dc : Nat) (D : List Int) (Fa : Option Addr) (Fn Fc : Nat) (fs : List (Int × Int)) (Ka : Option Addr) (Kn Kc : Nat) (ks : List Bool)
    (h : Py w0 w p d e k s Q N T) (ho : OpIn w0 Da Dn Dc D Fa Fn Fc fs Ka Kn Kc ks) (hc : s.c ≤ 100000) (hp : s.P.length ≤ 100000) (hk : s.k ≤ 100000) (hsh : (Dn ≤ 65536 ∧ Fn ≤ 65536 ∧ Kn ≤ 65536)) :
    Calls Try.prog 12 #[.pointer (some ⟨p, 0, none⟩), .agg #[.int .i64 10, .int .i64 I, .bool sc, .slice Da Dn Dc, .slice Fa Fn Fc, .slice Ka Kn Kc]] w fun en w' => en = .returned (.bool true) ∧ Pz w0 w w' p d e k (s) Q N T := by
  have BA : Below w.heap.size w (w.alloc (.cells #[.int .i64 10, .int .i64 I, .bool sc, .slice Da Dn Dc, .slice Fa Fn Fc, .slice Ka Kn Kc] 34)) := (Below.refl _ _).alloc (Nat.le_refl _) _
  have om : Om (w.alloc (.cells #[.int .i64 10, .int .i64 I, .bool sc, .slice Da Dn Dc, .slice Fa Fn Fc, .slice Ka Kn Kc] 34)) w.heap.size 10 I sc (.slice Da Dn Dc) (.slice Fa Fn Fc) (.slice Ka Kn Kc) := heap_alloc_new w _
  have HE : Hid (decide (Dn ≤ 65536 ∧ Fn ≤ 65536 ∧ Kn ≤ 65536) = true) := by show _ = _; exact decide_eq_true hsh
  have ksh := short_ 10 I sc Da Dn Dc Fa Fn Fc Ka Kn Kc (w.alloc (.cells #[.int .i64 10, .int .i64 I, .bool sc, .slice Da Dn Dc, .slice Fa Fn Fc, .slice Ka Kn Kc] 34)) ho.dn (by have := ho.fn; omega) ho.kn
  rw [HE.out] at ksh
  have HY := hid h
  have HO := hid ho
  have HA := hid BA
  have HM := hid om
  have b0 := om.c0
  have b1 := om.c1
  have b2 := om.c2
  have b3 := om.c3
  have b4 := om.c4
  have b5 := om.c5
  clear h ho BA om
  go_enter Try.func12, Try.ntmps12
  go_wp2_with fail
  refine ksh.mono ?_
  rintro en w1 ⟨rfl, g1⟩
  have HB := hid (bel_bel HA.out HA.out.size g1)
  have HP := hid (HY.out.below HB.out)
  have om1 := HM.out.below g1
  clear ksh g1 HA HM b0 b1 b2 b3 b4 b5
  have b0 := om1.c0
  have b1 := om1.c1
  have b3 := om1.c3
  have b4 := om1.c4
  have b5 := om1.c5
  have c0 := HP.out.pa.c0
  have c1 := HP.out.pa.c1
  have HOM := hid om1
  clear om1
  obtain ⟨r1, r2, r3, r4, r5, r6, r7, r8, R⟩ := HP.out.pa.ref
  have q := R.c5
  clear R
  go_wp2_with fail
  refine (doneD HP.out.pa.dev).mono ?_
  rintro en w2 ⟨rfl, hw⟩
  obtain rfl := hw.symm
  clear hw
  go_wp2_with fail
  go_ret
  exact ⟨rfl, pz_below HY.out HB.out⟩
set_option maxHeartbeats 4000000 in
theorem step12_ (w0 w : World) (p d e k : Nat) (s : St) (Q N T : Nat → Prop) (I : Int) (sc : Bool) (Da : Option Addr) (Dn Dc : Nat) (D : List Int) (Fa : Option Addr) (Fn Fc : Nat) (fs : List (Int × Int)) (Ka : Option Addr) (Kn Kc : Nat) (ks : List Bool)
    (h : Py w0 w p d e k s Q N T) (ho : OpIn w0 Da Dn Dc D Fa Fn Fc fs Ka Kn Kc ks) (hc : s.c ≤ 100000) (hp : s.P.length ≤ 100000) (hk : s.k ≤ 100000) (hsh : (Dn ≤ 65536 ∧ Fn ≤ 65536 ∧ Kn ≤ 65536)) :
    Calls Try.prog 12 #[.pointer (some ⟨p, 0, none⟩), .agg #[.int .i64 12, .int .i64 I, .bool sc, .slice Da Dn Dc, .slice Fa Fn Fc, .slice Ka Kn Kc]] w fun en w' => en = .returned (.bool true) ∧ Pz w0 w w' p d e k (s) Q N T := by
  have BA : Below w.heap.size w (w.alloc (.cells #[.int .i64 12, .int .i64 I, .bool sc, .slice Da Dn Dc, .slice Fa Fn Fc, .slice Ka Kn Kc] 34)) := (Below.refl _ _).alloc (Nat.le_refl _) _
  have om : Om (w.alloc (.cells #[.int .i64 12, .int .i64 I, .bool sc, .slice Da Dn Dc, .slice Fa Fn Fc, .slice Ka Kn Kc] 34)) w.heap.size 12 I sc (.slice Da Dn Dc) (.slice Fa Fn Fc) (.slice Ka Kn Kc) := heap_alloc_new w _
  have HE : Hid (decide (Dn ≤ 65536 ∧ Fn ≤ 65536 ∧ Kn ≤ 65536) = true) := by show _ = _; exact decide_eq_true hsh
  have ksh := short_ 12 I sc Da Dn Dc Fa Fn Fc Ka Kn Kc (w.alloc (.cells #[.int .i64 12, .int .i64 I, .bool sc, .slice Da Dn Dc, .slice Fa Fn Fc, .slice Ka Kn Kc] 34)) ho.dn (by have := ho.fn; omega) ho.kn
  rw [HE.out] at ksh
  have HY := hid h
  have HO := hid ho
  have HA := hid BA
  have HM := hid om
  have b0 := om.c0
  have b1 := om.c1
  have b2 := om.c2
  have b3 := om.c3
  have b4 := om.c4
  have b5 := om.c5
  clear h ho BA om
  go_enter Try.func12, Try.ntmps12
  go_wp2_with fail
  refine ksh.mono ?_
  rintro en w1 ⟨rfl, g1⟩
  have HB := hid (bel_bel HA.out HA.out.size g1)
  have HP := hid (HY.out.below HB.out)
  have om1 := HM.out.below g1
  clear ksh g1 HA HM b0 b1 b2 b3 b4 b5
  have b0 := om1.c0
  have b1 := om1.c1
  have b3 := om1.c3
  have b4 := om1.c4
  have b5 := om1.c5
  have c0 := HP.out.pa.c0
  have c1 := HP.out.pa.c1
  have HOM := hid om1
  clear om1
  obtain ⟨r1, r2, r3, r4, r5, r6, r7, r8, R⟩ := HP.out.pa.ref
  have q := R.c6
  clear R
  go_wp2_with fail
  refine (claimedD HP.out.pa.dev).mono ?_
  rintro en w2 ⟨rfl, hw⟩
  obtain rfl := hw.symm
  clear hw
  go_wp2_with fail
  go_ret
  exact ⟨rfl, pz_below HY.out HB.out⟩
set_option maxHeartbeats 4000000 in
theorem step13_ (w0 w : World) (p d e k : Nat) (s : St) (Q N T : Nat → Prop) (I : Int) (sc : Bool) (Da : Option Addr) (Dn Dc : Nat) (D : List Int) (Fa : Option Addr) (Fn Fc : Nat) (fs : List (Int × Int)) (Ka : Option Addr) (Kn Kc : Nat) (ks : List Bool)
    (h : Py w0 w p d e k s Q N T) (ho : OpIn w0 Da Dn Dc D Fa Fn Fc fs Ka Kn Kc ks) (hc : s.c ≤ 100000) (hp : s.P.length ≤ 100000) (hk : s.k ≤ 100000) (hsh : (Dn ≤ 65536 ∧ Fn ≤ 65536 ∧ Kn ≤ 65536)) :
    Calls Try.prog 12 #[.pointer (some ⟨p, 0, none⟩), .agg #[.int .i64 13, .int .i64 I, .bool sc, .slice Da Dn Dc, .slice Fa Fn Fc, .slice Ka Kn Kc]] w fun en w' => en = .returned (.bool true) ∧ Pz w0 w w' p d e k (s) Q N T := by
  have BA : Below w.heap.size w (w.alloc (.cells #[.int .i64 13, .int .i64 I, .bool sc, .slice Da Dn Dc, .slice Fa Fn Fc, .slice Ka Kn Kc] 34)) := (Below.refl _ _).alloc (Nat.le_refl _) _
  have om : Om (w.alloc (.cells #[.int .i64 13, .int .i64 I, .bool sc, .slice Da Dn Dc, .slice Fa Fn Fc, .slice Ka Kn Kc] 34)) w.heap.size 13 I sc (.slice Da Dn Dc) (.slice Fa Fn Fc) (.slice Ka Kn Kc) := heap_alloc_new w _
  have HE : Hid (decide (Dn ≤ 65536 ∧ Fn ≤ 65536 ∧ Kn ≤ 65536) = true) := by show _ = _; exact decide_eq_true hsh
  have ksh := short_ 13 I sc Da Dn Dc Fa Fn Fc Ka Kn Kc (w.alloc (.cells #[.int .i64 13, .int .i64 I, .bool sc, .slice Da Dn Dc, .slice Fa Fn Fc, .slice Ka Kn Kc] 34)) ho.dn (by have := ho.fn; omega) ho.kn
  rw [HE.out] at ksh
  have HY := hid h
  have HO := hid ho
  have HA := hid BA
  have HM := hid om
  have b0 := om.c0
  have b1 := om.c1
  have b2 := om.c2
  have b3 := om.c3
  have b4 := om.c4
  have b5 := om.c5
  clear h ho BA om
  go_enter Try.func12, Try.ntmps12
  go_wp2_with fail
  refine ksh.mono ?_
  rintro en w1 ⟨rfl, g1⟩
  have HB := hid (bel_bel HA.out HA.out.size g1)
  have HP := hid (HY.out.below HB.out)
  have om1 := HM.out.below g1
  clear ksh g1 HA HM b0 b1 b2 b3 b4 b5
  have b0 := om1.c0
  have b1 := om1.c1
  have b3 := om1.c3
  have b4 := om1.c4
  have b5 := om1.c5
  have c0 := HP.out.pa.c0
  have c1 := HP.out.pa.c1
  have HOM := hid om1
  clear om1
  obtain ⟨r1, r2, r3, r4, r5, r6, r7, r8, R⟩ := HP.out.pa.ref
  have q := R.c0
  clear R
  go_wp2_with fail
  refine (sectorsD HP.out.pa.dev).mono ?_
  rintro en w2 ⟨rfl, hw⟩
  obtain rfl := hw.symm
  clear hw
  go_wp2_with fail
  go_ret
  exact ⟨rfl, pz_below HY.out HB.out⟩
set_option maxHeartbeats 4000000 in
theorem step4_ (w0 w : World) (p d e k : Nat) (s : St) (Q N T : Nat → Prop) (I : Int) (sc : Bool) (Da : Option Addr) (Dn Dc : Nat) (D : List Int) (Fa : Option Addr) (Fn Fc : Nat) (fs : List (Int × Int)) (Ka : Option Addr) (Kn Kc : Nat) (ks : List Bool)
    (h : Py w0 w p d e k s Q N T) (ho : OpIn w0 Da Dn Dc D Fa Fn Fc fs Ka Kn Kc ks) (hc : s.c ≤ 100000) (hp : s.P.length ≤ 100000) (hk : s.k ≤ 100000) (hsh : (Dn ≤ 65536 ∧ Fn ≤ 65536 ∧ Kn ≤ 65536)) :
    Calls Try.prog 12 #[.pointer (some ⟨p, 0, none⟩), .agg #[.int .i64 4, .int .i64 I, .bool sc, .slice Da Dn Dc, .slice Fa Fn Fc, .slice Ka Kn Kc]] w fun en w' => en = .returned (.bool true) ∧ Pz w0 w w' p d e k (flS s) Q N T := by
  have BA : Below w.heap.size w (w.alloc (.cells #[.int .i64 4, .int .i64 I, .bool sc, .slice Da Dn Dc, .slice Fa Fn Fc, .slice Ka Kn Kc] 34)) := (Below.refl _ _).alloc (Nat.le_refl _) _
  have om : Om (w.alloc (.cells #[.int .i64 4, .int .i64 I, .bool sc, .slice Da Dn Dc, .slice Fa Fn Fc, .slice Ka Kn Kc] 34)) w.heap.size 4 I sc (.slice Da Dn Dc) (.slice Fa Fn Fc) (.slice Ka Kn Kc) := heap_alloc_new w _
  have HE : Hid (decide (Dn ≤ 65536 ∧ Fn ≤ 65536 ∧ Kn ≤ 65536) = true) := by show _ = _; exact decide_eq_true hsh
  have ksh := short_ 4 I sc Da Dn Dc Fa Fn Fc Ka Kn Kc (w.alloc (.cells #[.int .i64 4, .int .i64 I, .bool sc, .slice Da Dn Dc, .slice Fa Fn Fc, .slice Ka Kn Kc] 34)) ho.dn (by have := ho.fn; omega) ho.kn
  rw [HE.out] at ksh
  have HY := hid h
  have HO := hid ho
  have HA := hid BA
  have HM := hid om
  have b0 := om.c0
  have b1 := om.c1
  have b2 := om.c2
  have b3 := om.c3
  have b4 := om.c4
  have b5 := om.c5
  clear h ho BA om
  go_enter Try.func12, Try.ntmps12
  go_wp2_with fail
  refine ksh.mono ?_
  rintro en w1 ⟨rfl, g1⟩
  have HB := hid (bel_bel HA.out HA.out.size g1)
  have HP := hid (HY.out.below HB.out)
  have om1 := HM.out.below g1
  clear ksh g1 HA HM b0 b1 b2 b3 b4 b5
  have b0 := om1.c0
  have b1 := om1.c1
  have b3 := om1.c3
  have b4 := om1.c4
  have b5 := om1.c5
  have c0 := HP.out.pa.c0
  have c1 := HP.out.pa.c1
  have HOM := hid om1
  clear om1
  have kf := flush_ d s Q _ HP.out.pa.dev (by omega) (by omega)
  obtain ⟨E, HE⟩ : ∃ E, Hid (opE s = E) := ⟨_, rfl⟩
  rw [HE.out] at kf
  go_wp2_with fail
  refine kf.mono ?_
  rintro en w2 ⟨rfl, D2, F2⟩
  have mid := HP.out.pa.mid F2
  have hcp := mid.2
  obtain ⟨r1, r2, r3, r4, r5, r6, r7, r8, R⟩ := mid.1
  have kr := rflush_ e s N r1 r2 r3 r4 r5 r6 r7 r8 w2 R (by omega) (by omega)
  rw [HE.out] at kr
  have HD2 := hid D2
  have HF2 := hid F2
  have xE : (E == E) = true := beq_self_eq_true E
  clear kf D2 F2 mid R c0 c1
  go_wp2_with fail
  refine kr.mono ?_
  rintro en w3 ⟨rfl, R3, F3⟩
  have Z := hid ((pz_ps HP.out (ps_two HP.out.pa HD2.out HF2.out R3 F3)).pre HB.out)
  clear kr R3 F3 HD2 HF2 hcp
  go_wp2_with (go_at_call 19; refine (num_ _ _).mono ?_; rintro e w' ⟨rfl, hw⟩; obtain rfl := hw.symm; clear hw)
  go_ret
  exact ⟨rfl, Z.out⟩
set_option maxHeartbeats 4000000 in
theorem step11_ (w0 w : World) (p d e k : Nat) (s : St) (Q N T : Nat → Prop) (I : Int) (sc : Bool) (Da : Option Addr) (Dn Dc : Nat) (D : List Int) (Fa : Option Addr) (Fn Fc : Nat) (fs : List (Int × Int)) (Ka : Option Addr) (Kn Kc : Nat) (ks : List Bool)
    (h : Py w0 w p d e k s Q N T) (ho : OpIn w0 Da Dn Dc D Fa Fn Fc fs Ka Kn Kc ks) (hc : s.c ≤ 100000) (hp : s.P.length ≤ 100000) (hk : s.k ≤ 100000) (hsh : (Dn ≤ 65536 ∧ Fn ≤ 65536 ∧ Kn ≤ 65536)) :
    Calls Try.prog 12 #[.pointer (some ⟨p, 0, none⟩), .agg #[.int .i64 11, .int .i64 I, .bool sc, .slice Da Dn Dc, .slice Fa Fn Fc, .slice Ka Kn Kc]] w fun en w' => en = .returned (.bool true) ∧ Pz w0 w w' p d e k ({ s with k := s.k + 1 }) Q N T := by
  have BA : Below w.heap.size w (w.alloc (.cells #[.int .i64 11, .int .i64 I, .bool sc, .slice Da Dn Dc, .slice Fa Fn Fc, .slice Ka Kn Kc] 34)) := (Below.refl _ _).alloc (Nat.le_refl _) _
  have om : Om (w.alloc (.cells #[.int .i64 11, .int .i64 I, .bool sc, .slice Da Dn Dc, .slice Fa Fn Fc, .slice Ka Kn Kc] 34)) w.heap.size 11 I sc (.slice Da Dn Dc) (.slice Fa Fn Fc) (.slice Ka Kn Kc) := heap_alloc_new w _
  have HE : Hid (decide (Dn ≤ 65536 ∧ Fn ≤ 65536 ∧ Kn ≤ 65536) = true) := by show _ = _; exact decide_eq_true hsh
  have ksh := short_ 11 I sc Da Dn Dc Fa Fn Fc Ka Kn Kc (w.alloc (.cells #[.int .i64 11, .int .i64 I, .bool sc, .slice Da Dn Dc, .slice Fa Fn Fc, .slice Ka Kn Kc] 34)) ho.dn (by have := ho.fn; omega) ho.kn
  rw [HE.out] at ksh
  have HY := hid h
  have HO := hid ho
  have HA := hid BA
  have HM := hid om
  have b0 := om.c0
  have b1 := om.c1
  have b2 := om.c2
  have b3 := om.c3
  have b4 := om.c4
  have b5 := om.c5
  clear h ho BA om
  go_enter Try.func12, Try.ntmps12
  go_wp2_with fail
  refine ksh.mono ?_
  rintro en w1 ⟨rfl, g1⟩
  have HB := hid (bel_bel HA.out HA.out.size g1)
  have HP := hid (HY.out.below HB.out)
  have om1 := HM.out.below g1
  clear ksh g1 HA HM b0 b1 b2 b3 b4 b5
  have b0 := om1.c0
  have b1 := om1.c1
  have b3 := om1.c3
  have b4 := om1.c4
  have b5 := om1.c5
  have c0 := HP.out.pa.c0
  have c1 := HP.out.pa.c1
  have HOM := hid om1
  clear om1
  have kf := claimD HP.out.pa.dev (by omega)
  go_wp2_with fail
  refine kf.mono ?_
  rintro en w2 ⟨rfl, D2, F2⟩
  have mid := HP.out.pa.mid F2
  have hcp := mid.2
  obtain ⟨r1, r2, r3, r4, r5, r6, r7, r8, R⟩ := mid.1
  have kr := rclaim_ e s N r1 r2 r3 r4 r5 r6 r7 r8 w2 R (by omega)
  have HNE := hid R.ne
  have HD2 := hid D2
  have HF2 := hid F2
  clear kf D2 F2 mid R c0 c1
  go_wp2_with fail
  refine kr.mono ?_
  rintro en w3 ⟨rfl, R3, F3⟩
  have Z := hid ((pz_ps HP.out (ps_two HP.out.pa HD2.out HF2.out ⟨_, _, _, _, _, _, _, _, R3⟩ (Fr.of F3 HNE.out))).pre HB.out)
  clear kr R3 F3 HD2 HF2 hcp
  go_wp2_with fail
  go_ret
  exact ⟨rfl, Z.out⟩
end Go.Proofs.Ythjfgdldclhbhaa
