import Derived.Test.YthjfgdldclhbhaaRR
namespace Go.Proofs.Ythjfgdldclhbhaa
set_option maxRecDepth 100000
open Go.RowKit Go.Shelf
set_option linter.unusedVariables false

/-- A pair and the desk have made a step. -/
def Pw (w w' : World) (p d e k : Nat) (s' : St) (Q N T : Nat → Prop) : Prop := ∃ Q' N' T' v' m' xs', Pa w' p d e k s' Q' N' ∧ Ds w' k T' v' m' xs' ∧ (∀ b, T' b → b < w'.heap.size ∧ ¬ Q' b ∧ ¬ N' b ∧ b ≠ p) ∧ (∀ b, Q' b ∨ N' b ∨ T' b → Q b ∨ N b ∨ T b ∨ w.heap.size ≤ b) ∧ Fr (fun b => Q b ∨ N b ∨ T b) w w'
theorem own_bs {w : World} {g n cap : Nat} {zs : List Int} (o : w.ownsRow 0 5 1 (.slice (some ⟨g, 0, none⟩) n cap) n (cells zs)) (hz : ∀ z ∈ zs, 0 ≤ z ∧ z ≤ 255) : Bs w (some ⟨g, 0, none⟩) n zs ∧ n ≤ cap ∧ cap ≤ maxLen := by
  obtain ⟨a, c, q, b, h1, h2, _⟩ := own_form o hz
  obtain ⟨rfl, -, rfl⟩ : some (⟨g, 0, none⟩ : Addr) = a ∧ n = n ∧ cap = c := by simpa using q
  exact ⟨b, h1, h2⟩
theorem Bs.cut11 {w : World} {a : Option Addr} {n m : Nat} {zs : List Int} (h : Bs w a n zs) (hm : m ≤ n) : Bs w a m (zs.take m) := by
  refine ⟨by rw [List.length_take, h.1]; omega, fun z hz => h.2.1 z (List.mem_of_mem_take hz), ?_⟩
  rcases h.2.2 with h0 | ⟨b, off, e, hc⟩
  · exact .inl (by omega)
  · exact .inr ⟨b, off, e, fun i hi => by rw [hc i (by omega)]; simp only [List.getD, List.getElem?_take, if_pos hi]⟩
set_option maxHeartbeats 8000000 in
theorem pwrite_ (p d e k : Nat) (s : St) (Q N T : Nat → Prop) (v : Value) (m : Nat) (xs : List Value) (i : Int) (ad : Addr) (n c : Nat) (zs : List Int) (w : World) (h : Pa w p d e k s Q N) (hd : Ds w k T v m xs) (hT : ∀ b, T b → b < w.heap.size ∧ ¬ Q b ∧ ¬ N b ∧ b ≠ p) (hb : Bs w (some ad) n zs) (h0 : 0 < n) (hn : n ≤ 65536) (hq : ¬ Q ad.block ∧ ¬ N ad.block ∧ ¬ T ad.block) (hc : s.c ≤ 100000) (hp : s.P.length ≤ 100000) :
    Calls Try.prog 37 #[.pointer (some ⟨p, 0, none⟩), .int .i64 i, .slice (some ad) n c] w fun en w' => en = .returned (.bool true) ∧ Pw w w' p d e k (wrS s i zs) Q N T := by
  have c2 := h.c2
  have hql := h.dev.lt
  have hnl := h.nl
  have hpw := h.lt
  have hadl : ad.block < w.heap.size := by
    rcases hb.2.2 with q | ⟨b, off, q, hcc⟩
    · omega
    · obtain rfl := Option.some.inj q
      exact World.block_lt_of_cell? w _ (hcc 0 h0)
  have kd := desk_ k (fun b => T b ∨ w.heap.size ≤ b) v m xs ad n c zs w (hd.keep (fun _ _ _ => rfl) (fun b q _ => .inl q)) (fun b q => .inr q) hb h0 hn (fun q => by
    rcases q with q | q
    · exact hq.2.2 q
    · omega)
  have HP := hid h
  have HB := hid hb
  have HQ := hid hq
  have HT := hid hT
  have hzb : ∀ z ∈ zs ++ [161, 162, 163], 0 ≤ z ∧ z ≤ 255 := fun z hz => by
    rcases List.mem_append.1 hz with hz | hz
    · exact hb.2.1 z hz
    · simp at hz
      omega
  have hzl := hb.1
  have HZB := hid hzb
  obtain ⟨E, HE⟩ : ∃ E, Hid (wrE s i n = E) := ⟨_, rfl⟩
  have tE : (E == E) = true := by simp
  clear h hd hT hb hq hzb
  go_enter Try.func37, Try.ntmps37
  go_wp2_with fail
  refine kd.mono ?_
  rintro en w0 ⟨g, cap, rfl, D0, F0⟩
  have s0 := F0.size
  have P0 := HP.out.fr F0 (fun b hb hl => by
    rcases hb with hb | hb
    · exact (HT.out b hb).2
    · omega)
  have hgT : T g ∨ w.heap.size ≤ g := D0.tv g rfl
  have hgl : g < w0.heap.size := (D0.own.lt g rfl).2
  have hnQ : ¬ Q g := fun q => by
    rcases hgT with t | t
    · exact (HT.out g t).2.1 q
    · have := hql g q
      omega
  have hnN : ¬ N g := fun q => by
    rcases hgT with t | t
    · exact (HT.out g t).2.2.1 q
    · have := hnl g q
      omega
  have hgp : g ≠ p := fun q => by
    rcases hgT with t | t
    · exact (HT.out g t).2.2.2 q
    · omega
  obtain ⟨Bx, hcap, hcm⟩ := own_bs D0.own HZB.out
  have HD0 := hid (D0.keep (w' := w0) (R := fun b => T b ∨ (w.heap.size ≤ b ∧ b < w0.heap.size)) (fun _ _ _ => rfl) (fun b hb hl => by
    rcases hb with hb | hb
    · exact .inl hb
    · exact .inr ⟨hb, hl⟩))
  have HF0 := hid F0
  have HP0 := hid P0
  have kb := refBytes (some ⟨g, 0, none⟩) (n + 3) cap (zs ++ [161, 162, 163]) w0 Bx (by omega)
  have HBX := hid Bx
  clear kd D0 F0 P0 c2 Bx
  go_wp2_with fail
  refine kb.mono ?_
  rintro en w1 ⟨v1, rfl, o1, g1⟩
  obtain ⟨a1, c1, rfl, b1, _, _, _⟩ := own_form o1 HZB.out
  have ha1 : ∀ x, a1 = some x → w0.heap.size ≤ x.block := fun x q => by
    have := (o1.lt x.block (by rw [q]; rfl)).1
    exact this
  have P1 := HP0.out.below g1
  have c0 := P1.c0
  have Bx1 := HBX.out.below g1
  have Bz1 : Bs w1 (some ⟨g, 0, none⟩) n zs := by
    have := Bx1.cut11 (show n ≤ n + 3 by omega)
    rwa [List.take_left' hzl] at this
  have kc : ∀ wx, Drawn w1 wx → Calls Try.prog 33 #[.pointer (some ⟨d, 0, none⟩), .int .i64 i, .slice (some ⟨g, 0, none⟩) n (n + 3)] wx fun en w' => en = .returned (.int .i64 E) ∧ Dev w' d (wrS s i zs) (fun b => Q b ∨ (w1.heap.size ≤ b ∧ b < w'.heap.size)) ∧ Fr Q w1 w' := fun wx hx => by
    have := write_ d s Q i (some ⟨g, 0, none⟩) n (n + 3) zs wx (P1.dev.below hx.below) (by omega) (by omega) (Bz1.below hx.below) (fun a ha _ => by obtain rfl := Option.some.inj ha; exact hnQ)
    rw [HE.out] at this
    exact this.mono (fun en w' ⟨a, b, c⟩ => ⟨a, by rw [hx.heap] at b; exact b, ⟨c.os.trans hx.os, c.tape.trans hx.tape, c.output.trans hx.output, by rw [← hx.heap]; exact c.size, fun b hb hn => by
      have := c.same b (by rw [hx.heap]; exact hb) hn
      rw [hx.heap] at this
      exact this⟩⟩)
  have HPR := hid P1.pr
  have HPL := hid P1.lt
  have HG1 := hid g1
  have HX1 := hid Bx1
  have HW1 := hid b1
  have HA1 := hid ha1
  have nI : (n : Int) ≤ ((n + 3 : Nat) : Int) := by omega
  have nC : ((n + 3 : Nat) : Int) ≤ (cap : Int) := by omega
  clear kb o1 g1 b1 P1 Bx1 Bz1 ha1
  go_wp2_with fail
  go_region_held (fun wx => wx.cell? ⟨p, 0, none⟩ = some (.pointer (some ⟨d, 0, none⟩))) (go_keep) (first | (go_at_call 33; refine (kc _ (by exact ⟨rfl, rfl, rfl, rfl⟩)).mono ?_; rintro en w2 ⟨rfl, D2, F2⟩; have u := (F2.same p HPL.out HP.out.nq).trans HPR.out; have u0 : w2.cell? ⟨p, 0, none⟩ = some (.pointer (some ⟨d, 0, none⟩)) := (cell_of_row _ _ 0 _ _ (0, 0) u).trans rfl))
  have X2 := HX1.out.fr F2 (fun a ha _ => by obtain rfl := Option.some.inj ha; exact hnQ)
  have W2 := HW1.out.fr F2 (fun x hx _ q => by have := HA1.out x hx; have := hql _ q; omega)
  have ksm := same_yes (some ⟨g, 0, none⟩) a1 (n + 3) cap (n + 3) c1 (zs ++ [161, 162, 163]) w2 X2 W2 (by omega) (by omega)
  have s1 := HG1.out.size
  have s2 := F2.size
  have HDS := hid ((HD0.out.keep (w' := w1) (R := fun b => T b ∨ (w.heap.size ≤ b ∧ b < w0.heap.size)) (fun b _ hl => HG1.out.block b hl) (fun _ q _ => q)).keep (w' := w2) (R := fun b => T b ∨ (w.heap.size ≤ b ∧ b < w0.heap.size)) (fun b hb hl => F2.same b hl (fun q => by
    rcases hb with hb | hb
    · exact (HT.out b hb).2.1 q
    · have := hql b q
      omega)) (fun _ q _ => q))
  have HU := hid u
  have HD2 := hid D2
  have HF2 := hid F2
  clear kc D2 F2 X2 W2 u0 u c0
  go_wp2_with fail
  refine ksm.mono ?_
  rintro en w3 ⟨rfl, d3⟩
  have HDS3 := hid (HDS.out.keep (w' := w3) (R := fun b => T b ∨ (w.heap.size ≤ b ∧ b < w0.heap.size)) (fun b _ hl => d3.below.block b hl) (fun _ q _ => q))
  have HFR : Hid (Fr (fun b => b = g) w2 w3) := Fr.ofB d3.below
  clear ksm d3
  go_wp2_with fail
  go_loopw [11] (fun i wr => ∃ (j : Nat) (ys : List Value), j ≤ n + 3 ∧ i = .int .i64 j ∧ Ds wr k (fun b => T b ∨ (w.heap.size ≤ b ∧ b < w0.heap.size)) (.slice (some ⟨g, 0, none⟩) (n + 3) cap) (n + 3) ys ∧ Fr (fun b => b = g) w2 wr) (fun i _ => n + 3 - (intOf i).toNat)
  case atStart => exact ⟨0, _, Nat.zero_le _, rfl, HDS3.out, HFR.out⟩
  case round =>
    clear HDS3 HFR HDS
    obtain ⟨j, ys, hj, rfl, hx, hf⟩ := hrel
    by_cases hlt : j < n + 3
    · have hjI : (j : Int) < ((n + 3 : Nat) : Int) := by omega
      obtain ⟨⟨⟨xv, xb⟩, fj⟩, ys', hx'⟩ := hx.set hlt (.int .u8 238)
      have HXN := hid hx'
      have HFN := hid (hf.trans (Fr.of (Q := fun b => b = g) (grown_set (grown_refl wr (some g)) j (.int .u8 238)) rfl))
      clear hx hf hlt hx'
      go_wp2_with fail
      go_roundw
      case rel => exact ⟨j + 1, ys', by omega, by go_num, HXN.out, HFN.out⟩
      case measure => simp [intOf]; omega
    · have hjI : ¬ (j : Int) < ((n + 3 : Nat) : Int) := by omega
      have s4 := hf.size
      have hpr := (hf.same p (by have := HPL.out; omega) (Ne.symm hgp)).trans HU.out
      have cp1 : wr.cell? ⟨p, 1, none⟩ = some (.pointer (some ⟨e, 0, none⟩)) := (cell_of_row _ _ 1 _ _ (0, 0) hpr).trans rfl
      have hnlt := HP0.out.nl
      have R : Rd wr e s (fun b => N b ∨ wr.heap.size ≤ b) := HP0.out.ref.keep (fun b hb hl => (hf.same b (by omega) (fun q => hnN (by rw [← show b = g from q]; exact hb))).trans ((HF2.out.same b (by omega) (fun q => HP.out.ap b q hb)).trans (HG1.out.block b hl))) (fun b hb _ => .inl hb)
      obtain ⟨r1, r2, r3, r4, r5, r6, r7, r8, R⟩ := R
      have hag : ad.block ≠ g := fun q => by
        rcases hgT with t | t
        · exact HQ.out.2.2 (by rw [q]; exact t)
        · omega
      have BR : Bs wr (some ad) n zs := (((HB.out.fr HF0.out (fun a ha _ q => by
        obtain rfl := Option.some.inj ha
        rcases q with q | q
        · exact HQ.out.2.2 q
        · omega)).below HG1.out).fr HF2.out (fun a ha _ => by obtain rfl := Option.some.inj ha; exact HQ.out.1)).fr hf (fun a ha _ => by obtain rfl := Option.some.inj ha; exact hag)
      have kr := rwrite_ e i s _ r1 r2 r3 r4 r5 r6 r7 r8 (some ad) n c zs wr R (fun b hb => .inr hb) (by omega) (by omega) BR (fun a ha _ q => by
        obtain rfl := Option.some.inj ha
        rcases q with q | q
        · exact HQ.out.2.1 q
        · omega)
      rw [HE.out] at kr
      have HFE := hid hf
      have HXX : Hid (∀ b, (fun b => b = g) b → b < w0.heap.size ∧ ¬ Q b ∧ ¬ N b ∧ b ≠ p) := fun b hb => by
        have e1 : b = g := hb
        subst e1
        exact ⟨hgl, hnQ, hnN, hgp⟩
      have HDX := hid hx
      clear hx hf R BR
      go_wp2_with fail
      refine kr.mono ?_
      rintro en w5 ⟨rfl, R5, F5⟩
      have s5 := F5.size
      have EN := pa_endX HP0.out HG1.out HD2.out HF2.out HXX.out HFE.out R5 F5
      have DE : Ds w5 k (fun b => T b ∨ (w.heap.size ≤ b ∧ b < w0.heap.size)) (.slice (some ⟨g, 0, none⟩) (n + 3) cap) (n + 3) ys := HDX.out.keep (fun b hb hl => F5.same b hl (fun q => by
        rcases q with q | q
        · rcases hb with hb | hb
          · exact (HT.out b hb).2.2.1 q
          · have := hnl b q
            omega
        · omega)) (fun _ q _ => q)
      have FIN : Hid (Pw w w5 p d e k (wrS s i zs) Q N T) := by
        refine ⟨_, _, _, _, _, _, EN.1, DE, fun b hb => ?_, fun b hb => ?_, ?_⟩
        · rcases hb with hb | hb
          · obtain ⟨t1, t2, t3, t4⟩ := HT.out b hb
            refine ⟨by omega, fun q => ?_, fun q => ?_, t4⟩
            · rcases q with q | q
              · exact t2 q
              · omega
            · rcases q with q | q
              · exact t3 q
              · omega
          · refine ⟨by omega, fun q => ?_, fun q => ?_, by omega⟩
            · rcases q with q | q
              · have := hql b q
                omega
              · omega
            · rcases q with q | q
              · have := hnl b q
                omega
              · omega
        · rcases hb with (hb | hb) | (hb | hb) | (hb | hb)
          · exact .inl hb
          · exact .inr (.inr (.inr (by omega)))
          · exact .inr (.inl hb)
          · exact .inr (.inr (.inr (by omega)))
          · exact .inr (.inr (.inl hb))
          · exact .inr (.inr (.inr hb.1))
        · have F2 := EN.2
          refine ⟨F2.os.trans HF0.out.os, F2.tape.trans HF0.out.tape, F2.output.trans HF0.out.output, by omega, fun b hb hn => (F2.same b (by omega) (fun q => ?_)).trans (HF0.out.same b hb (fun q => ?_))⟩
          · rcases q with q | q | q
            · exact hn (.inl q)
            · exact hn (.inr (.inl q))
            · have e1 : b = g := q
              rcases hgT with t | t
              · exact hn (.inr (.inr (by rw [e1]; exact t)))
              · omega
          · rcases q with q | q
            · exact hn (.inr (.inr q))
            · omega
      clear kr R5 F5 EN DE
      go_wp2_with (go_at_call 19; refine (num_ _ _).mono ?_; rintro e w' ⟨rfl, hw⟩; obtain rfl := hw.symm; clear hw)
      go_ret
      exact ⟨rfl, FIN.out⟩
end Go.Proofs.Ythjfgdldclhbhaa
namespace Go.Proofs.Ythjfgdldclhbhaa
set_option maxRecDepth 100000
open Go.RowKit Go.Shelf
set_option linter.unusedVariables false

/-- Lists short enough to be asked. -/
theorem short_ (K I : Int) (sc : Bool) (Da : Option Addr) (Dn Dc : Nat) (Fa : Option Addr) (Fn Fc : Nat) (Ka : Option Addr) (Kn Kc : Nat) (w : World) (h1 : Dn ≤ 140737488355328) (h2 : Fn ≤ 140737488355328) (h3 : Kn ≤ 140737488355328) :
    Calls Try.prog 35 #[.agg #[.int .i64 K, .int .i64 I, .bool sc, .slice Da Dn Dc, .slice Fa Fn Fc, .slice Ka Kn Kc]] w fun en w' => en = .returned (.bool (decide (Dn ≤ 65536 ∧ Fn ≤ 65536 ∧ Kn ≤ 65536))) ∧ Below w.heap.size w w' := by
  have om : Om (w.alloc (.cells #[.int .i64 K, .int .i64 I, .bool sc, .slice Da Dn Dc, .slice Fa Fn Fc, .slice Ka Kn Kc] 34)) w.heap.size K I sc (.slice Da Dn Dc) (.slice Fa Fn Fc) (.slice Ka Kn Kc) := heap_alloc_new w _
  have BA : Below w.heap.size w (w.alloc (.cells #[.int .i64 K, .int .i64 I, .bool sc, .slice Da Dn Dc, .slice Fa Fn Fc, .slice Ka Kn Kc] 34)) := (Below.refl _ _).alloc (Nat.le_refl _) _
  have HB := hid BA
  clear om BA
  have cs : ¬ Dn ≤ 65536 ∨ (Dn ≤ 65536 ∧ ¬ Fn ≤ 65536) ∨ (Dn ≤ 65536 ∧ Fn ≤ 65536 ∧ ¬ Kn ≤ 65536) ∨ (Dn ≤ 65536 ∧ Fn ≤ 65536 ∧ Kn ≤ 65536) := by omega
  rcases cs with q1 | ⟨q1, q2⟩ | ⟨q1, q2, q3⟩ | ⟨q1, q2, q3⟩
  · have HE : Hid (decide (Dn ≤ 65536 ∧ Fn ≤ 65536 ∧ Kn ≤ 65536) = false) := by show _ = _; rw [decide_eq_false_iff_not]; omega
    have i1 : ¬ (Dn : Int) ≤ 65536 := by omega
    rw [HE.out]
    go_enter Try.func35, Try.ntmps35
    go_wp2_with fail
    go_ret
    exact ⟨rfl, HB.out⟩
  · have HE : Hid (decide (Dn ≤ 65536 ∧ Fn ≤ 65536 ∧ Kn ≤ 65536) = false) := by show _ = _; rw [decide_eq_false_iff_not]; omega
    have i1 : (Dn : Int) ≤ 65536 := by omega
    have i2 : ¬ (Fn : Int) ≤ 65536 := by omega
    rw [HE.out]
    go_enter Try.func35, Try.ntmps35
    go_wp2_with fail
    go_ret
    exact ⟨rfl, HB.out⟩
  · have HE : Hid (decide (Dn ≤ 65536 ∧ Fn ≤ 65536 ∧ Kn ≤ 65536) = false) := by show _ = _; rw [decide_eq_false_iff_not]; omega
    have i1 : (Dn : Int) ≤ 65536 := by omega
    have i2 : (Fn : Int) ≤ 65536 := by omega
    have i3 : ¬ (Kn : Int) ≤ 65536 := by omega
    rw [HE.out]
    go_enter Try.func35, Try.ntmps35
    go_wp2_with fail
    go_ret
    exact ⟨rfl, HB.out⟩
  · have HE : Hid (decide (Dn ≤ 65536 ∧ Fn ≤ 65536 ∧ Kn ≤ 65536) = true) := by show _ = _; rw [decide_eq_true_eq]; omega
    have i1 : (Dn : Int) ≤ 65536 := by omega
    have i2 : (Fn : Int) ≤ 65536 := by omega
    have i3 : (Kn : Int) ≤ 65536 := by omega
    rw [HE.out]
    go_enter Try.func35, Try.ntmps35
    go_wp2_with fail
    go_ret
    exact ⟨rfl, HB.out⟩
end Go.Proofs.Ythjfgdldclhbhaa
