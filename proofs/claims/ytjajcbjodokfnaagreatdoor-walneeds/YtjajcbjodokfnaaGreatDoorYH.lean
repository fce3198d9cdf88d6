import Derived.Lib.SlBytesConst
import Derived.Test.YtjajcbjodokfnaaGreatDoorYF
namespace Go.Proofs.YtjajcbjodokfnaaGreatDoor
set_option maxRecDepth 100000
open Go.RowKit Go.Shelf
set_option linter.unusedVariables false
set_option linter.unusedSimpArgs false

theorem own_bs12 {w : World} {B g n cap : Nat} {zs : List Int} (o : w.ownsRow B 5 1 (.slice (some ⟨g, 0, none⟩) n cap) n (cells zs)) (hz : ∀ z ∈ zs, 0 ≤ z ∧ z ≤ 255) : Bs w (some ⟨g, 0, none⟩) n zs ∧ n ≤ cap ∧ cap ≤ maxLen := by
  obtain ⟨a, c, q, b, h1, h2, _⟩ := own_form (own_mono o (Nat.zero_le _)) hz
  obtain ⟨rfl, -, rfl⟩ : some (⟨g, 0, none⟩ : Addr) = a ∧ n = n ∧ cap = c := by simpa using q
  exact ⟨b, h1, h2⟩
section
variable {w0 w w' : World} {g d mi ep nx pl : Nat} {s : St}
theorem sf_app (h : Sf w0 w g d mi ep nx pl true false s) (hb : Below w.heap.size w w') (hk : mi = s.k) (b m c : Nat) (tx : List Int) (hbw : w.heap.size ≤ b) (hbs : Bs w' (some ⟨b, 0, none⟩) m tx) (hmc : m ≤ c) (hcm : c ≤ maxLen) (h0 : 0 < m) (h2 : m ≤ 4800) (he : mq ep) (hn : mq nx) (hp : pl + ned m ≤ roo s.n) (hsc : s.c ≤ 40000) (hP : s.P = []) (hE : (apR s s.n ep nx pl tx).1 = 0) :
    Calls Tryz.prog 38 #[.pointer (some ⟨g, 0, none⟩), .slice (some ⟨b, 0, none⟩) m c] w' fun en w2 => en = .returned (.int .i64 0) ∧ Sf w0 w2 g d mi ep (nx + 1) (pl + ned m) true false (apR s s.n ep nx pl tx).2 := by
  obtain ⟨Q, q1, q2⟩ := h.q
  have k := wapp_ (q1.below hb) hk (some ⟨b, 0, none⟩) m c tx hbs (fun ad e _ => by
    cases e
    exact ⟨fun q => by have := q1.dv.lt _ q; simp only at this; omega, fun e => by have := q1.lm.lt; simp only at e; omega⟩) hmc hcm h0 h2 he hn hp hsc (by rw [hP]; simp)
  rw [hE] at k
  refine k.mono ?_
  rintro en w2 ⟨rfl, z⟩
  exact ⟨rfl, Sf.wz q2 h.hg (bel_bel h.bel h.bel.size hb) z⟩
theorem sf_ck (h : Sf w0 w g d mi ep nx pl true false s) (hb : Below w.heap.size w w') (hk : mi = s.k) (b m c : Nat) (st : List Int) (hbw : w.heap.size ≤ b) (hbs : Bs w' (some ⟨b, 0, none⟩) m st) (hmc : m ≤ c) (hcm : c ≤ maxLen) (he : mq (ep + 1)) (hn : mq nx) (hr : pcN m + 11 ≤ roo s.n) (hsc : s.c ≤ 40000) (hP : s.P = []) (hE : (ckp s s.n ep nx st).1 = 0) :
    Calls Tryz.prog 40 #[.pointer (some ⟨g, 0, none⟩), .slice (some ⟨b, 0, none⟩) m c] w' fun en w2 => en = .returned (.int .i64 0) ∧ Sf w0 w2 g d mi (ep + 1) nx (pcN m) true false (ckp s s.n ep nx st).2 := by
  obtain ⟨Q, q1, q2⟩ := h.q
  have k := wchk_ (q1.below hb) hk (some ⟨b, 0, none⟩) m c st hbs (fun ad e _ => by
    cases e
    exact ⟨fun q => by have := q1.dv.lt _ q; simp only at this; omega, fun e => by have := q1.lm.lt; simp only at e; omega⟩) hmc hcm he hn hr hsc (by rw [hP]; simp)
  rw [hE] at k
  refine k.mono ?_
  rintro en w2 ⟨rfl, z⟩
  exact ⟨rfl, Sf.wz q2 h.hg (bel_bel h.bel h.bel.size hb) z⟩
end
theorem edd_no {s : St} {mi : Nat} (h : s.k = mi) : edd mi false s = false := by unfold edd; rw [h]; simp
def abc : List Int := [97, 98, 99]
def z481 : List Int := List.replicate 481 0
theorem by_abc : By abc := by intro z hz; simp [abc] at hz; rcases hz with rfl | rfl | rfl <;> decide
theorem by_z (n : Nat) : By (List.replicate n 0) := fun z hz => by rw [(List.mem_replicate.1 hz).2]; decide
/-- The log of the chapter's first lines, behind its two Appends. -/
theorem first_ok {s1 : St} (h : Ok12 s1 1 1 [] [] 1 400) : ∃ s2 s3, (apR s1 s1.n 1 1 0 abc).1 = 0 ∧ (apR s1 s1.n 1 1 0 abc).2 = s2 ∧ Ok12 s2 1 1 [] [abc] 1 420 ∧ (apR s2 s2.n 1 2 1 z481).1 = 0 ∧ (apR s2 s2.n 1 2 1 z481).2 = s3 ∧ Ok12 s3 1 1 [] [abc, z481] 1 440 := by
  have k1 := ok_app h (tx := abc) ⟨by omega, by omega⟩ ⟨by simp, by simp⟩ by_abc (by decide) (by decide) (by decide)
  have k2 := ok_app k1.2 (tx := z481) ⟨by omega, by omega⟩ ⟨by simp, by simp⟩ (by_z 481) (by unfold z481; rw [List.length_replicate]; omega) (by unfold z481; rw [List.length_replicate]; omega) (by unfold z481; rw [List.length_replicate]; decide)
  exact ⟨_, _, k1.1, rfl, k1.2, k2.1, rfl, k2.2⟩
theorem ned3 : ned 3 = 1 := rfl
theorem ned481 : ned 481 = 3 := by decide
theorem tag_at {S : Nat → List Int} (hS : ∀ i, i < 32 → Sc5 (S i)) {i : Nat} (hi : i < 32) {x : Sec} (h : gs (S i) = some x) : bt (sl (flat S 32) (512 * i) 4) = x.T := by
  obtain ⟨h1, _, _, h4⟩ := gs_some h
  have hc := flat_cut 32 (fun j hj => (hS j hj).1) i hi
  have : sl (flat S 32) (512 * i) 4 = sl (S i) 0 4 := by
    rw [← hc]
    unfold sl
    rw [List.drop_zero, List.take_take]
    rfl
  rw [this, h4]
  rfl
theorem first_tags {s : St} {C : Nat} (h : Ok12 s 1 1 [] [abc, z481] 1 C) : (∃ x, gs (s.S 17) = some x ∧ x.T = t4) ∧ (∃ x, gs (s.S 18) = some x ∧ x.T = t2) ∧ (∃ x, gs (s.S 20) = some x ∧ x.T = t3) := by
  obtain ⟨l1, l2, _⟩ := h.qt.ld
  have hz : z481.length = 481 := by unfold z481; exact List.length_replicate
  have ha : ned abc.length = 1 := rfl
  have hp : pcN ([] : List Int).length = 0 := rfl
  have hz2 : pcN z481.length = 2 := by rw [hz]; rfl
  rw [hp] at l1 l2
  rw [ha] at l2
  rcases l1 with ⟨_, _, a1⟩ | ⟨b1, _⟩
  · rcases l2 with ⟨_, c1, _⟩ | ⟨_, _, c2, c3⟩
    · omega
    · have d1 := c2 0 (by omega)
      rw [hz2] at c3
      exact ⟨⟨_, a1, rfl⟩, ⟨_, d1, rfl⟩, ⟨_, c3, rfl⟩⟩
  · exact absurd b1 (by decide)
theorem own_slice_c {w : World} {base n : Nat} {t : TypeId} {v : Value} {xs : List Value} (h : w.ownsRow base t 1 v n xs) (hn : 0 < n) : ∃ g c, v = .slice (some ⟨g, 0, none⟩) n c ∧ n ≤ c ∧ c ≤ maxLen ∧ ∀ i u, xs[i]? = some u → w.cell? ⟨g, i, none⟩ = some u := by
  rcases h.2 with ⟨_, h0⟩ | ⟨g, cap, cur, e, _, hg, h1, h2, _, _⟩
  · omega
  · refine ⟨g, cap, e, h1, h2, fun i u hu => ?_⟩
    have := h.cells (g := g) (by rw [e]; rfl) i u hu
    rwa [Addr.add_lit, Nat.zero_add] at this
theorem bs_lit (w : World) (zs : List Int) (fl : Nat × Nat) (hb : By zs) : Bs (w.alloc (.cells (cells zs).toArray 5 fl)) (some ⟨w.heap.size, 0, none⟩) zs.length zs := by
  refine ⟨rfl, hb, .inr ⟨w.heap.size, 0, rfl, fun i hi => ?_⟩⟩
  rw [Nat.zero_add, cell_of_row _ _ i _ 5 fl (heap_alloc_new w _)]
  simp [cells, List.getElem?_eq_getElem hi, List.getD]
set_option maxHeartbeats 8000000 in
theorem first_ (w : World) (hT : Tab w) : Calls Tryz.prog 9 #[] w fun en w' => en = .returned (.bool true) ∧ Below w.heap.size w w' := by
  obtain ⟨i, hi, hz0, hz1, hz2⟩ := info_parts info5
  have kb := begun_ w hT
  clear hT
  go_enter Tryz.func9, Tryz.ntmps9
  go_wp2_with fail
  refine kb.mono ?_
  rintro en w1 ⟨d, g, s1, rfl, S1, ok1⟩
  simp only
  obtain ⟨s2, s3, e1, hs2, ok2, e2, hs3, ok3⟩ := first_ok ok1
  have kc := fun (w : World) (C : Array Value) (n c : Nat) => Lib.run_convert_bytes_const (P := Tryz.prog) w 33 5 C n c Tryz.underlying33 Tryz.underlying5
  have B1 : Below w1.heap.size w1 (w1.alloc (.cells #[.int .u8 97, .int .u8 98, .int .u8 99] 5 (3, 4))) := (Below.refl _ _).alloc (Nat.le_refl _) _
  have r1 : Bs (w1.alloc (.cells #[.int .u8 97, .int .u8 98, .int .u8 99] 5 (3, 4))) (some ⟨w1.heap.size, 0, none⟩) 3 abc := bs_lit w1 abc (3, 4) by_abc
  have ka := sf_app S1 B1 ok1.k.symm w1.heap.size 3 3 abc (Nat.le_refl _) r1 (by omega) (by unfold maxLen; omega) (by omega) (by omega) ⟨by omega, by omega⟩ ⟨by omega, by omega⟩ (by rw [ok1.n, ned3]; decide) (by have := ok1.c; omega) ok1.P e1
  rw [hs2, ned3] at ka
  have HOK2 := hid ok2
  have HOK3 := hid ok3
  have HE2 := hid e2
  have HS3 := hid hs3
  clear kb S1 B1 r1 ok1 ok2 ok3 e1 e2 hs2 hs3
  go_wp2_with fail
  refine ka.mono ?_
  rintro en w2 ⟨rfl, S2⟩
  simp only
  have HS2 := hid S2
  clear ka S2
  go_wp2_with (at_make; refine wpList_make_full _ rfl _ _ 33 rfl w2.heap.size 5 i (.int .u8 0) 1 Tryz.underlying33 hi hz0 hz1 .i64 .i64 _ _ 481 rfl rfl rfl rfl (by rw [hz2]; omega) (by unfold maxLen; omega) (Nat.le_refl _) ?_; intro w3 hown hg1)
  rw [made_zerosD] at hown
  have b3 := (own_bs12 hown (by_z 481)).1
  have ka := sf_app (show Sf w w2 g d 1 1 2 1 true false s2 from HS2.out) (below_of_grown hg1) HOK2.out.k.symm w2.heap.size 481 481 z481 (Nat.le_refl _) b3 (by omega) (by unfold maxLen; omega) (by omega) (by omega) ⟨by omega, by omega⟩ ⟨by omega, by omega⟩ (by rw [HOK2.out.n, ned481]; decide) (by have := HOK2.out.c; omega) HOK2.out.P HE2.out
  rw [HS3.out, ned481] at ka
  refine ka.mono ?_
  rintro en w4 ⟨rfl, S4⟩
  simp only
  obtain ⟨Q, q4, hQ⟩ := (show Sf w w4 g d 1 1 3 4 true false s3 from S4).q
  have kst := wstate_o q4 (edd_no HOK3.out.k)
  have HS4 : Hid (Sf w w4 g d 1 1 3 4 true false s3) := S4
  have Hq4 := hid q4
  have HhQ := hid hQ
  clear ka S4 q4 hQ b3 hown hg1 HS2 HE2 HS3
  go_wp2_with fail
  refine kst.mono ?_
  rintro en w5 ⟨rfl, dr5⟩
  simp only
  have H5 := hid dr5.below
  clear kst dr5
  go_wp2_with (at_make; refine wpList_make_full _ rfl _ _ 33 rfl w5.heap.size 5 i (.int .u8 0) 1 Tryz.underlying33 hi hz0 hz1 .i64 .i64 _ _ 1921 rfl rfl rfl rfl (by rw [hz2]; omega) (by unfold maxLen; omega) (Nat.le_refl _) ?_; intro w6 hown hg1)
  have H6 := hid (below_of_grown hg1)
  have q6 := (Hq4.out.below H5.out).below H6.out
  have hke : kE (true && !edd 1 false s3) 1921 1 3 (roo s3.n) = 112 := by rw [edd_no HOK3.out.k, HOK3.out.n]; decide
  have kck := wchk_no q6 (some ⟨w5.heap.size, 0, none⟩) 1921 1921 (by omega) (by rw [hke]; decide)
  rw [hke] at kck
  clear hke hown hg1 q6
  refine kck.mono ?_
  rintro en w7 ⟨rfl, dr7⟩
  simp only
  have H7 := hid dr7.below
  have q7 := ((Hq4.out.below H5.out).below H6.out).below H7.out
  have kl := wleft_o q7 (edd_no HOK3.out.k) (by rw [HOK3.out.n]; decide)
  rw [show roo s3.n - 4 = 11 from by rw [HOK3.out.n]; rfl] at kl
  clear kck dr7 q7
  go_wp2_with (go_at_call 27; refine (num12 _ _).mono ?_; rintro e w' ⟨rfl, hw⟩; obtain rfl := hw.symm; clear hw)
  refine kl.mono ?_
  rintro en w8 ⟨rfl, dr8⟩
  simp only
  have H8 := hid dr8.below
  have q8 := (((Hq4.out.below H5.out).below H6.out).below H7.out).below H8.out
  have krm := wroomL_o q8 (edd_no HOK3.out.k)
  rw [show roo s3.n = 15 from by rw [HOK3.out.n]; rfl] at krm
  clear kl dr8 q8
  go_wp2_with fail
  refine krm.mono ?_
  rintro en w9 ⟨rfl, dr9⟩
  simp only
  have H9 := hid dr9.below
  have q9 := ((((Hq4.out.below H5.out).below H6.out).below H7.out).below H8.out).below H9.out
  have S9 := ((((HS4.out.below H5.out).below H6.out).below H7.out).below H8.out).below H9.out
  have kd := durable_ d s3 Q w9 q9.dv
  rw [HOK3.out.n] at kd
  have Hq9 := hid q9
  have HS9 := hid S9
  clear krm dr9 q9 S9 H5 H6 H7 H8 H9 Hq4 HS4
  go_wp2_with fail
  refine kd.mono ?_
  rintro en w10 ⟨v, rfl, hown, B10⟩
  simp only
  have hsec : ∀ i, i < 32 → Sc5 (s3.S i) := fun i hi => Hq9.out.dv.sec i (by rw [HOK3.out.n]; exact hi)
  obtain ⟨av, cv, rfl, bv, hc1, hc2, _⟩ := own_form (own_mono hown (Nat.zero_le _)) (flat_byte 32 hsec)
  obtain ⟨⟨x17, g17, t17⟩, ⟨x18, g18, t18⟩, ⟨x20, g20, t20⟩⟩ := first_tags HOK3.out
  obtain ⟨gv, ov, rfl, _⟩ : ∃ b off, av = some ⟨b, off, none⟩ ∧ True := by
    rcases bv.2.2 with h | ⟨b, off, e, _⟩
    · omega
    · exact ⟨b, off, e, trivial⟩
  have k17 : ∀ c, (convert 33 9 (.slice (some ⟨gv, ov + 8704, none⟩) 4 c)).run Tryz.prog w10 = .ok (.string ⟨#[67, 86, 79, 49]⟩) w10 := fun c => by
    have := run_txt c (bs_sl bv 8704 4 (by omega))
    rw [show bt (sl (flat s3.S 32) 8704 4) = t4 from (tag_at hsec (i := 17) (by omega) g17).trans t17] at this
    exact this
  have k18 : ∀ c, (convert 33 9 (.slice (some ⟨gv, ov + 9216, none⟩) 4 c)).run Tryz.prog w10 = .ok (.string ⟨#[67, 86, 68, 49]⟩) w10 := fun c => by
    have := run_txt c (bs_sl bv 9216 4 (by omega))
    rw [show bt (sl (flat s3.S 32) 9216 4) = t2 from (tag_at hsec (i := 18) (by omega) g18).trans t18] at this
    exact this
  have k20 : ∀ c, (convert 33 9 (.slice (some ⟨gv, ov + 10240, none⟩) 4 c)).run Tryz.prog w10 = .ok (.string ⟨#[67, 86, 67, 49]⟩) w10 := fun c => by
    have := run_txt c (bs_sl bv 10240 4 (by omega))
    rw [show bt (sl (flat s3.S 32) 10240 4) = t3 from (tag_at hsec (i := 20) (by omega) g20).trans t20] at this
    exact this
  have H10 := hid B10
  have hcv : 16384 ≤ cv := by omega
  clear kd hown bv hc1 t17 t18 t20 g17 g18 g20 B10 hsec
  have q10 := Hq9.out.below H10.out
  have hk3 := HOK3.out.k
  have ko := open_ d s3 Q w10 q10.dv q10.tb q10.n0 (by have := HOK3.out.c; omega) (by rw [HOK3.out.P]; simp) (by omega)
  obtain ⟨s4, hs4, ok4, _⟩ := ok_open HOK3.out
  rw [hs4] at ko
  have HOK4 := hid ok4
  have Hq10 := hid q10
  have HS10 := hid (HS9.out.below H10.out)
  clear q10 ok4 hs4
  go_wp2_with fail
  refine ko.mono ?_
  rintro en w11 ⟨hen, D11, F11⟩
  simp only [opPost] at hen
  obtain ⟨m, v2, vt, xs, rfl, hgm, ov2, byv, ovt, hxs, hel, Qm, hplm, hmq⟩ := hen
  obtain ⟨x1, x2, rfl⟩ : ∃ x1 x2, xs = [x1, x2] := by
    cases xs with
    | nil => simp at hxs
    | cons a l =>
      cases l with
      | nil => simp at hxs
      | cons b l =>
        cases l with
        | nil => exact ⟨a, b, rfl⟩
        | cons c l => simp at hxs
  have hx1 : x1.tx = abc := by simp at hxs; exact hxs.1
  obtain ⟨va2, vc2, rfl, _, _, _⟩ := own_slice ov2
  obtain ⟨gt, ct, rfl, hct, _, hcells⟩ := own_slice_c ovt (by simp)
  have ct0 := hcells 0 x1.v rfl
  have ox1 := (hel x1 (by simp)).1
  rw [hx1] at ox1
  obtain ⟨a1, c1, hv1, b1, _, _, _⟩ := own_form (own_mono ox1 (Nat.zero_le _)) by_abc
  rw [hv1] at ct0
  simp only [List.length_nil, List.length_cons, Nat.zero_add, Nat.reduceAdd]
  simp only [show abc.length = 3 from rfl] at b1 ct0
  have hq9b := Hq10.out.dev D11 F11 Hq10.out.ng Hq10.out.n0
  have hedd : edd 1 false s4 = true := by unfold edd; rw [HOK4.out.k]; rfl
  have kst := wstate_e hq9b hedd
  have HQl := hid hq9b
  have BW11 : Below w.heap.size w w11 := HS10.out.bel.trans (F11.under HS10.out.bel.size (fun b q => HhQ.out b q))
  have hmi : s3.k + 1 = 2 := by omega
  rw [hmi] at Qm
  have HQm := hid (show Wq w11 m d 2 1 3 4 false false s4 Q from Qm)
  have HB1 := hid b1
  have HBW := hid BW11
  have hgw : w.heap.size ≤ m := by have := HS10.out.bel.size; omega
  clear ko hel ov2 ovt hcells ox1 Qm hq9b D11 F11 b1 BW11 hplm hmq byv
  go_wp2_with fail
  refine kst.mono ?_
  rintro en w12 ⟨rfl, dr12⟩
  simp only
  have H12 := hid dr12.below
  have B13 : Below w12.heap.size w12 (w12.alloc (.cells #[.int .u8 120] 5 (1, 2))) := (Below.refl _ _).alloc (Nat.le_refl _) _
  have ql := (HQl.out.below H12.out).below B13
  have hae : aE (true && !edd 1 false s4) 1 3 4 (roo s4.n) = 115 := by rw [hedd]; rfl
  have kap := wapp_no ql (some ⟨w12.heap.size, 0, none⟩) 1 1 (by omega) (by rw [HOK4.out.n]; decide) (by rw [hae]; decide)
  rw [hae] at kap
  have H13 := hid B13
  clear kst dr12 ql B13
  go_wp2_with fail
  refine kap.mono ?_
  rintro en w14 ⟨rfl, dr14⟩
  simp only
  have H14 := hid dr14.below
  have ct1 : w14.cell? ⟨gt, 0, none⟩ = some (.slice a1 3 c1) := by
    have := World.block_lt_of_cell? _ _ ct0
    exact ((((H12.out.trans (H13.out.mono H12.out.size)).trans (H14.out.mono (Nat.le_trans H12.out.size H13.out.size))).cell (p := ⟨gt, 0, none⟩) this)).trans ct0
  have b14 := ((HB1.out.below H12.out).below H13.out).below H14.out
  have kx : (convert 33 9 (.slice a1 3 c1)).run Tryz.prog w14 = .ok (.string ⟨#[97, 98, 99]⟩) w14 := by
    have := run_txt c1 b14
    exact this
  clear kap dr14 ct0 b14
  go_wp2_with (go_at_call 27; refine (num12 _ _).mono ?_; rintro e w' ⟨rfl, hw⟩; obtain rfl := hw.symm; clear hw)
  have qm14 := ((HQm.out.below H12.out).below H13.out).below H14.out
  have B15 : Below w14.heap.size w14 (w14.alloc (.cells #[.int .u8 120] 5 (1, 2))) := (Below.refl _ _).alloc (Nat.le_refl _) _
  have hae2 : aE (false && !edd 2 false s4) 1 3 4 (roo s4.n) = 115 := rfl
  have kap := wapp_no (qm14.below B15) (some ⟨w14.heap.size, 0, none⟩) 1 1 (by omega) (by rw [HOK4.out.n]; decide) (by rw [hae2]; decide)
  rw [hae2] at kap
  have BW14 := hid (bel_bel (bel_bel (bel_bel (bel_bel HBW.out HBW.out.size H12.out) (bel_bel HBW.out HBW.out.size H12.out).size H13.out) (bel_bel (bel_bel HBW.out HBW.out.size H12.out) (bel_bel HBW.out HBW.out.size H12.out).size H13.out).size H14.out) (bel_bel (bel_bel (bel_bel HBW.out HBW.out.size H12.out) (bel_bel HBW.out HBW.out.size H12.out).size H13.out) (bel_bel (bel_bel HBW.out HBW.out.size H12.out) (bel_bel HBW.out HBW.out.size H12.out).size H13.out).size H14.out).size B15)
  have HQ15 := hid (qm14.below B15)
  clear qm14 B15 kx ct1 k17 k18 k20
  refine kap.mono ?_
  rintro en w16 ⟨rfl, dr16⟩
  simp only
  have q16 := HQ15.out.below dr16.below
  have BW16 := bel_bel BW14.out BW14.out.size dr16.below
  have ks := wsafe_f m d _ _ _ _ _ s4 _ w16 q16 (edd_no HOK4.out.k) (by have := HOK4.out.c; omega) (by rw [HOK4.out.P]; simp)
  obtain ⟨e5, ok5, _⟩ := ok_safe HOK4.out
  rw [e5] at ks
  have HOK5 := hid ok5
  have HBW16 := hid BW16
  clear kap dr16 q16 BW16 ok5
  go_wp2_with fail
  refine ks.mono ?_
  rintro en w17 ⟨rfl, z17⟩
  simp only
  have S17 := Sf.wz (w0 := w) HhQ.out hgw HBW16.out z17
  simp only [show ((0 : Int) == 0) = true from rfl, show (false || (0 : Int) != 0) = false from rfl] at S17
  have B18 : Below w17.heap.size w17 (w17.alloc (.cells #[.int .u8 115] 5 (1, 2))) := (Below.refl _ _).alloc (Nat.le_refl _) _
  have r18 : Bs (w17.alloc (.cells #[.int .u8 115] 5 (1, 2))) (some ⟨w17.heap.size, 0, none⟩) 1 [115] := bs_lit w17 [115] (1, 2) (by intro z hz; simp at hz; subst hz; decide)
  obtain ⟨e6, ok6⟩ := ok_ck HOK5.out (st' := [115]) ⟨by omega, by omega⟩ ⟨by simp, by simp⟩ (by intro z hz; simp at hz; subst hz; decide) (by decide)
  have kck := sf_ck S17 B18 HOK5.out.k.symm w17.heap.size 1 1 [115] (Nat.le_refl _) r18 (by omega) (by unfold maxLen; omega) ⟨by omega, by omega⟩ ⟨by omega, by omega⟩ (by rw [HOK5.out.n]; decide) (by have := HOK5.out.c; omega) HOK5.out.P e6
  have HOK6 := hid ok6
  clear ks z17 S17 B18 r18 ok6
  go_wp2_with fail
  refine kck.mono ?_
  rintro en w19 ⟨rfl, S19⟩
  simp only
  obtain ⟨Q19, q19, _⟩ := S19.q
  have kst := wstate_o q19 (edd_no HOK6.out.k)
  have HS19 := hid S19
  clear kck S19 q19
  go_wp2_with fail
  refine kst.mono ?_
  rintro en w20 ⟨rfl, dr20⟩
  simp only
  have HF := hid (HS19.out.below dr20.below).bel
  clear kst dr20
  go_wp2_with (go_at_call 27; refine (num12 _ _).mono ?_; rintro e w' ⟨rfl, hw⟩; obtain rfl := hw.symm; clear hw)
  go_ret
  exact ⟨rfl, HF.out⟩
end Go.Proofs.YtjajcbjodokfnaaGreatDoor
namespace Go.Proofs.YtjajcbjodokfnaaGreatDoor
set_option maxRecDepth 100000
open Go.RowKit Go.Shelf
set_option linter.unusedVariables false
set_option linter.unusedSimpArgs false

set_option maxHeartbeats 2000000 in
theorem walNeeds_ (n : Int) (w : World) (hT : Tab w) (hn : n ≤ 9223372036854775807) : Calls Tryz.prog 3 #[.int .i64 n] w fun en w' => en = .returned (.bool true) ∧ Below w.heap.size w w' := by
  have kf := first_ w hT
  have k1 := fun w => need0_ n w hn
  have k2 := fun w => pieces0_ n w hn
  have k3 := fun w => refNeed_ n w hn
  have k4 := fun w => refPieces_ n w hn
  obtain ⟨p, Hp⟩ : ∃ p, Hid (pcN n.toNat = p) := ⟨_, rfl⟩
  obtain ⟨q, Hq⟩ : ∃ q, Hid (ned n.toNat = q) := ⟨_, rfl⟩
  rw [Hp.out] at k2 k4
  rw [Hq.out] at k1 k3
  have e1 : (((p : Nat) : Int) == ((p : Nat) : Int)) = true := by simp
  have e2 : (((q : Nat) : Int) == ((q : Nat) : Int)) = true := by simp
  clear hT
  go_enter Tryz.func3, Tryz.ntmps3
  go_wp2_with fail
  refine kf.mono ?_
  rintro en w1 ⟨rfl, B1⟩
  simp only
  have HB := hid B1
  clear kf B1
  go_wp2_with (first
    | (go_at_call 10; refine (k1 _).mono ?_; rintro e w' ⟨rfl, hw⟩; obtain rfl := hw.symm; clear hw)
    | (go_at_call 11; refine (k2 _).mono ?_; rintro e w' ⟨rfl, hw⟩; obtain rfl := hw.symm; clear hw)
    | (go_at_call 12; refine (k3 _).mono ?_; rintro e w' ⟨rfl, hw⟩; obtain rfl := hw.symm; clear hw)
    | (go_at_call 13; refine (k4 _).mono ?_; rintro e w' ⟨rfl, hw⟩; obtain rfl := hw.symm; clear hw))
  go_ret
  exact ⟨rfl, HB.out⟩
end Go.Proofs.YtjajcbjodokfnaaGreatDoor
