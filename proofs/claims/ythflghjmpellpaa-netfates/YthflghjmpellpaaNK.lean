import Derived.Test.YthflghjmpellpaaNU
import Derived.Test.YthflghjmpellpaaNS
namespace Go.Proofs.Ythflghjmpellpaa
open Go.RowKit
set_option linter.unusedVariables false
set_option maxRecDepth 100000

/-- A net that a call has made since w0. -/
structure Hn (w0 w : World) (p : Nat) (L : List Fl) (g : Int) : Prop where
  net : ∃ F, Net w F p L g ∧ ∀ k, F k → w0.heap.size ≤ k
  bel : Below w0.heap.size w0 w
section
variable {w0 w w' : World} {p : Nat} {L : List Fl} {g : Int}
theorem Hn.on (h : Hn w0 w p L g) (hb : Below w.heap.size w w') : Hn w0 w' p L g := by
  obtain ⟨F, h1, h2⟩ := h.net
  exact ⟨⟨F, h1.on hb, h2⟩, bel_bel h.bel h.bel.size hb⟩
theorem Hn.alloc (h : Hn w0 w p L g) (o : Obj) : Hn w0 (w.alloc o) p L g := h.on ((Below.refl _ _).alloc (Nat.le_refl _) _)
theorem Hn.drawn (h : Hn w0 w p L g) (n : Nat) : Hn w0 (w.drewN n) p L g := h.on (drawnN w n).below
theorem Hn.ok (h : Hn w0 w p L g) : NOk L g := by
  obtain ⟨F, h1, h2⟩ := h.net
  exact h1.ok
theorem Hn.p0 (h : Hn w0 w p L g) : w0.heap.size ≤ p ∧ p < w.heap.size := by
  obtain ⟨F, ⟨b, ds, _, h1⟩, h2⟩ := h.net
  exact ⟨h2 p h1.fp, h1.lt p h1.fp⟩
theorem Hn.fx {F : Nat → Prop} {L' : List Fl} {g' : Int} (h : Below w0.heap.size w0 w) (hF : ∀ k, F k → w0.heap.size ≤ k) (hn : Net w' (Gr F w w') p L' g') (hf : Fx F w w') : Hn w0 w' p L' g' :=
  ⟨⟨_, hn, fun k e => e.1.elim (hF k) (Nat.le_trans h.size)⟩, hf.below h h.size hF⟩
theorem newH (hb : Below w0.heap.size w0 w) : Calls Try.prog 5 #[] w fun e w' => ∃ p, e = .returned (.pointer (some ⟨p, 0, none⟩)) ∧ Hn w0 w' p [] 0 := by
  refine (new_ w).mono ?_
  rintro e w1 ⟨p, rfl, h1, h2, h3⟩
  exact ⟨p, rfl, ⟨_, h1, fun k e => Nat.le_trans hb.size e.1⟩, bel_bel hb hb.size h3⟩
theorem sendH (h : Hn w0 w p L g) {to : Int} {a : Option Addr} {n c : Nat} {d : List Int} {V : Nat → Prop} (hd : Vs w V a n c d) (hV : ∀ k, V k → k ≠ p) (hn : n ≤ 65536) (hto : i64r to) (hg : g ≤ 1000000000) {A G : Int} {L' : List Fl} (hA : sndA L g = A) (hL : sndL L g to d = L') (hG : sndG L g = G) :
    Calls Try.prog 6 #[.pointer (some ⟨p, 0, none⟩), .int .i64 to, .slice a n c] w fun e w' => e = .returned (.int .i64 A) ∧ Hn w0 w' p L' G := by
  subst hA hL hG
  obtain ⟨F, h1, h2⟩ := h.net
  refine (send_ to a n c d V h1 hd hV hn hto hg).mono ?_
  rintro e w1 ⟨rfl, h3, h4⟩
  exact ⟨rfl, Hn.fx h.bel h2 h3 h4⟩
theorem copyH (h : Hn w0 w p L g) {k : Int} (hk : i64r k) (hg : g ≤ 1000000000) {A G E : Int} {L' : List Fl} (hA : cpyA L g k = A) (hE : erN L k = E) (hL : cpyL L g k = L') (hG : cpyG L g k = G) :
    Calls Try.prog 8 #[.pointer (some ⟨p, 0, none⟩), .int .i64 k] w fun e w' => e = .returned (.tuple #[.int .i64 A, .int .i64 E]) ∧ Hn w0 w' p L' G := by
  subst hA hL hG hE
  obtain ⟨F, h1, h2⟩ := h.net
  refine (copy_ k hk h1 hg).mono ?_
  rintro e w1 ⟨rfl, h3, h4⟩
  exact ⟨rfl, Hn.fx h.bel h2 h3 h4⟩
theorem flipH (h : Hn w0 w p L g) {k t x : Int} (hk : i64r k) (ht : i64r t) (hx : i64r x) {E : Int} {L' : List Fl} (hE : flE L k t x = E) (hL : flL L k t x = L') :
    Calls Try.prog 10 #[.pointer (some ⟨p, 0, none⟩), .int .i64 k, .int .i64 t, .int .i64 x] w fun e w' => e = .returned (.int .i64 E) ∧ Hn w0 w' p L' g := by
  subst hL hE
  obtain ⟨F, h1, h2⟩ := h.net
  refine (flip_ k t x hk ht hx h1).mono ?_
  rintro e w1 ⟨rfl, h3, h4⟩
  exact ⟨rfl, ⟨⟨F, h3, h2⟩, h4.below h.bel h.bel.size h2⟩⟩
theorem dropH (h : Hn w0 w p L g) {k : Int} (hk : i64r k) {E : Int} {L' : List Fl} (hE : erN L k = E) (hL : outL L k = L') :
    Calls Try.prog 18 #[.pointer (some ⟨p, 0, none⟩), .int .i64 k] w fun e w' => e = .returned (.int .i64 E) ∧ Hn w0 w' p L' g := by
  subst hL hE
  obtain ⟨F, h1, h2⟩ := h.net
  refine (drop_ k hk h1).mono ?_
  rintro e w1 ⟨rfl, h3, h4⟩
  exact ⟨rfl, ⟨⟨F, h3, h2⟩, h4.below h.bel h.bel.size h2⟩⟩
theorem takeH (h : Hn w0 w p L g) {k : Int} (hk : i64r k) {f : Fl} {n : Nat} {E : Int} {L' : List Fl} (hf : (fnd L k).getD fl0 = f) (hn : f.d.length = n) (hE : erN L k = E) (hL : outL L k = L') :
    Calls Try.prog 13 #[.pointer (some ⟨p, 0, none⟩), .int .i64 k] w fun e w' => ∃ a c V, e = .returned (.tuple #[.agg #[.int .i64 f.no, .int .i64 f.to, .slice a n c], .int .i64 E]) ∧ Vs w' V a n c f.d ∧ Hn w0 w' p L' g := by
  subst hL hE hf hn
  obtain ⟨F, h1, h2⟩ := h.net
  refine (take_ k hk h1).mono ?_
  rintro e w1 ⟨a, c, f, er, V, rfl, ⟨e1, e2, hv⟩, _, h3, h4⟩
  subst e1 e2
  exact ⟨a, c, V, rfl, hv, ⟨⟨_, h3, fun k e => h2 k e.1⟩, h4.below h.bel h.bel.size h2⟩⟩
theorem underH (h : Hn w0 w p L g) : Calls Try.prog 14 #[.pointer (some ⟨p, 0, none⟩)] w fun e w' => ∃ a n c, n = L.length ∧ e = .returned (.slice a n c) ∧ Fls w' (fun k => w.heap.size ≤ k) a n L ∧ Hn w0 w' p L g ∧ Below w.heap.size w w' := by
  obtain ⟨F, h1, h2⟩ := h.net
  refine (under_ h1).mono ?_
  rintro e w1 ⟨a, n, c, h3, rfl, h4, h5, h6, h7, h8⟩
  exact ⟨a, n, c, h3, rfl, h4, h.on h8, h8⟩
end
set_option maxHeartbeats 400000 in
theorem num_ (x : Int) (w : World) : Calls Try.prog 9 #[.int .i64 x] w fun e w' => e = .returned (.int .i64 x) ∧ w' = w := by
  go_enter Try.func9, Try.ntmps9
  go_wp2_with fail
  go_ret
  exact ⟨rfl, rfl⟩
theorem i64c (n : Nat) (h : n ≤ 9223372036854775807) : i64r (n : Int) := ⟨by omega, by omega⟩
theorem vs_lit2 (w : World) (x y : Int) (h : Okb [x, y]) : Vs (w.alloc (.cells #[.int .u8 x, .int .u8 y] 5)) (fun k => k = w.heap.size) (some ⟨w.heap.size, 0, none⟩) 2 2 [x, y] :=
  ⟨bs_lit w [x, y] (0, 0) h, Nat.le_refl _, by unfold maxLen; omega, (fun e => by cases e), fun ad e _ => by obtain rfl := Option.some.inj e; rfl⟩
theorem okb2 {x y : Int} (h1 : 0 ≤ x ∧ x ≤ 255) (h2 : 0 ≤ y ∧ y ≤ 255) : Okb [x, y] := fun z hz => by
  rcases List.mem_cons.1 hz with rfl | hz
  · exact h1
  · rw [List.mem_singleton] at hz; rw [hz]; exact h2
set_option maxHeartbeats 4000000 in
/-- The law's known. -/
theorem known_ (w : World) : Calls Try.prog 4 #[] w fun e w' => e = .returned (.bool true) ∧ Below w.heap.size w w' := by
  have k0 := newH (w0 := w) (w := w) (Below.refl _ _)
  go_enter Try.func4, Try.ntmps4
  go_wp2_with fail
  refine k0.mono ?_
  rintro e w1 ⟨p, rfl, h⟩
  have hpl := h.p0
  have k1 := sendH (h.alloc (.cells #[.int .u8 65, .int .u8 66] 5)) (to := 1) (A := 1) (G := 1) (L' := [⟨1, 1, [65, 66]⟩]) (vs_lit2 w1 65 66 (okb2 (by omega) (by omega))) (fun k e => by omega) (by omega) (i64c 1 (by decide)) (by omega) (by decide) (by decide) (by decide)
  clear k0 h hpl
  go_wp2_with fail
  refine k1.mono ?_
  rintro e w2 ⟨rfl, h⟩
  have k2 := sendH h (to := 0) (A := 2) (G := 2) (L' := [⟨1, 1, [65, 66]⟩, ⟨2, 0, []⟩]) (vs_none w2 (fun _ => False)) (fun k e => e.elim) (by omega) (i64c 0 (by decide)) (by omega) (by decide) (by decide) (by decide)
  clear k1 h
  go_wp2_with fail
  refine k2.mono ?_
  rintro e w3 ⟨rfl, h⟩
  have k3 := copyH h (k := 1) (A := 3) (E := 0) (G := 3) (L' := [⟨1, 1, [65, 66]⟩, ⟨2, 0, []⟩, ⟨3, 1, [65, 66]⟩]) (i64c 1 (by decide)) (by omega) (by decide) (by decide) (by decide) (by decide)
  clear k2 h
  go_wp2_with fail
  refine k3.mono ?_
  rintro e w4 ⟨rfl, h⟩
  have k4 := flipH h (k := 1) (t := 1) (x := 3) (E := 0) (L' := [⟨1, 1, [65, 65]⟩, ⟨2, 0, []⟩, ⟨3, 1, [65, 66]⟩]) (i64c 1 (by decide)) (i64c 1 (by decide)) (i64c 3 (by decide)) (by decide) (by decide)
  clear k3 h
  go_wp2_with fail
  refine k4.mono ?_
  rintro e w5 ⟨rfl, h⟩
  have k5 := takeH h (k := 1) (f := ⟨1, 1, [65, 65]⟩) (n := 2) (E := 0) (L' := [⟨2, 0, []⟩, ⟨3, 1, [65, 66]⟩]) (i64c 1 (by decide)) (by decide) rfl (by decide) (by decide)
  clear k4 h
  go_wp2_with fail
  refine k5.mono ?_
  rintro e w6 ⟨a, c, V, rfl, hv, h⟩
  have HV := hid hv
  have HFM := hid (Fm.new w6 1 1 a 2 c)
  have k6 := underH (h.alloc (.cells #[.int .i64 1, .int .i64 1, .slice a 2 c] 34))
  clear k5 h hv
  simp only [] at k6 HV ⊢
  go_wp2_with fail
  refine k6.mono ?_
  rintro e w7 ⟨a7, n7, c7, hn7, rfl, hfl, h, hb⟩
  obtain rfl : n7 = 2 := hn7
  have HH := hid h
  obtain ⟨vb, HVB⟩ : ∃ z, Hid (w6.heap.size = z) := ⟨_, rfl⟩
  have HFM7 : Hid (Fm w7 vb 1 1 a 2 c) := by rw [← HVB.out]; exact (hb.block _ (by simp)).trans HFM.out
  have HV7 : Hid (Vs w7 V a 2 c [65, 65]) := (HV.out.step (w' := w6.alloc (.cells #[.int .i64 1, .int .i64 1, .slice a 2 c] 34)) fun k hk _ _ => Below.heap_alloc _ _ _ hk).step fun k hk _ _ => hb.block k hk
  have HFL := hid hfl
  have y0 := HFM7.out.c0
  have y1 := HFM7.out.c1
  have y2 := HFM7.out.c2
  have hvl : vb < w7.heap.size := (Array.getElem?_eq_some_iff.1 HFM7.out).1
  have HB8 : Hid (Below w7.heap.size w7 (w7.alloc (.cells #[.int .u8 65, .int .u8 65] 5))) := (Below.refl _ _).alloc (Nat.le_refl _) _
  have k7 := sameFlight_ a (some ⟨w7.heap.size, 0, none⟩) 2 c 2 2 ⟨1, 1, [65, 65]⟩ ⟨1, 1, [65, 65]⟩ (w7.alloc (.cells #[.int .u8 65, .int .u8 65] 5)) (HV7.out.bs.below HB8.out) (vs_lit2 w7 65 65 (okb2 (by omega) (by omega))).bs (by omega) (by omega) (Q := true) (by decide)
  clear k6 h hfl hb HFM HV
  rw [HVB.out]
  go_wp2_with fail
  refine k7.mono ?_
  rintro e w8 ⟨rfl, g8⟩
  have HB7 : Hid (Below w7.heap.size w7 w8) := bel_bel HB8.out HB8.out.size g8
  have HFL8 := hid (HFL.out.below HB7.out)
  have HBX : Hid (Below w.heap.size w w8) := bel_bel HH.out.bel HH.out.bel.size HB7.out
  clear k7 g8 y0 y1 y2 hvl HFM7 HV7 HFL HH HB8
  have hB9 := alloc2 w8 (.cells #[.int .u8 65, .int .u8 66] 5) (.cells #[.int .i64 2, .int .i64 0, .slice none 0 0, .int .i64 3, .int .i64 1, .slice (some ⟨w8.heap.size, 0, none⟩) 2 2] 34)
  have HB9 := hid hB9
  have hL9 : Fls ((w8.alloc (.cells #[.int .u8 65, .int .u8 66] 5)).alloc (.cells #[.int .i64 2, .int .i64 0, .slice none 0 0, .int .i64 3, .int .i64 1, .slice (some ⟨w8.heap.size, 0, none⟩) 2 2] 34)) (fun _ => True) (some ⟨w8.heap.size + 1, 0, none⟩) 2 [⟨2, 0, []⟩, ⟨3, 1, [65, 66]⟩] := by
    have e := heap_alloc_new (w8.alloc (.cells #[.int .u8 65, .int .u8 66] 5)) (.cells #[.int .i64 2, .int .i64 0, .slice none 0 0, .int .i64 3, .int .i64 1, .slice (some ⟨w8.heap.size, 0, none⟩) 2 2] 34)
    rw [World.size_alloc] at e
    refine ⟨rfl, .inr ⟨w8.heap.size + 1, 0, rfl, trivial, fun i hi => ?_⟩⟩
    have hq : ∀ j, _ = _ := fun j => cell_of_row _ _ j _ _ (0, 0) e
    match i, hi with
    | 0, _ => exact ⟨none, 0, (hq 0).trans rfl, (hq 1).trans rfl, (hq 2).trans rfl, vs_none _ _⟩
    | 1, _ => exact ⟨_, _, (hq 3).trans rfl, (hq 4).trans rfl, (hq 5).trans rfl, ((vs_lit2 w8 65 66 (okb2 (by omega) (by omega))).step fun k hk _ _ => Below.heap_alloc _ _ _ hk).wide fun _ _ _ => trivial⟩
  have k8 := sameFlights_ _ _ a7 (some ⟨w8.heap.size + 1, 0, none⟩) 2 c7 2 2 _ _ _ (HFL8.out.below hB9) hL9 (by omega) (by omega) (by decide) (by decide) (Q := true) (by decide)
  clear hB9 hL9
  go_wp2_with fail
  refine k8.mono ?_
  rintro e w9 ⟨rfl, g9⟩
  have HBZ : Hid (Below w.heap.size w w9) := by
    have h1 : Below w8.heap.size w8 w9 := bel_bel HB9.out HB9.out.size g9
    exact bel_bel HBX.out HBX.out.size h1
  clear k8 g9 HB9 HBX HFL8 HB7
  have k9 := num_ 0 w9
  go_wp2_with (go_at_call 9; refine k9.mono ?_; rintro e wz ⟨rfl, rfl⟩)
  go_ret
  exact ⟨rfl, HBZ.out⟩
end Go.Proofs.Ythflghjmpellpaa
