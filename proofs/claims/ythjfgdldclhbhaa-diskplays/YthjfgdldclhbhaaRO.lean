import Derived.Test.YthjfgdldclhbhaaRL
namespace Go.Proofs.Ythjfgdldclhbhaa
set_option maxRecDepth 100000
open Go.RowKit Go.Shelf
set_option linter.unusedVariables false

/-- A device of the program and the document's, at the same state, apart from one another. -/
structure Pa (w : World) (p d e k : Nat) (s : St) (Q N : Nat → Prop) : Prop where
  pr : w.heap[p]? = some (.cells #[.pointer (some ⟨d, 0, none⟩), .pointer (some ⟨e, 0, none⟩), .pointer (some ⟨k, 0, none⟩)] 56 (0, 0))
  dev : Dev w d s Q
  ref : Rd w e s N
  ap : ∀ b, Q b → ¬ N b
  nl : ∀ b, N b → b < w.heap.size
  nq : ¬ Q p
  nn : ¬ N p
section
variable {w w' : World} {p d e k : Nat} {s s' : St} {Q N R : Nat → Prop}
theorem Rd.keep (h : Rd w e s N) (q : ∀ b, N b → b < w.heap.size → w'.heap[b]? = w.heap[b]?) (hn : ∀ b, N b → b < w.heap.size → R b) : Rd w' e s R := by
  obtain ⟨r1, r2, r3, r4, r5, r6, r7, r8, r9⟩ := h
  exact ⟨r1, r2, r3, r4, r5, r6, r7, r8, r9.keep q hn⟩
theorem Rd.below (h : Rd w e s N) (hb : Below w.heap.size w w') : Rd w' e s N := h.keep (fun b _ hl => hb.block b hl) (fun _ h _ => h)
theorem Pa.lt (h : Pa w p d e k s Q N) : p < w.heap.size := (Array.getElem?_eq_some_iff.1 h.pr).1
theorem Pa.below (h : Pa w p d e k s Q N) (hb : Below w.heap.size w w') : Pa w' p d e k s Q N :=
  ⟨(hb.block p h.lt).trans h.pr, h.dev.below hb, h.ref.below hb, h.ap, fun b hb' => Nat.lt_of_lt_of_le (h.nl b hb') hb.size, h.nq, h.nn⟩
theorem Pa.c0 (h : Pa w p d e k s Q N) : w.cell? ⟨p, 0, none⟩ = some (.pointer (some ⟨d, 0, none⟩)) := (cell_of_row _ _ 0 _ _ (0, 0) h.pr).trans rfl
theorem Pa.c1 (h : Pa w p d e k s Q N) : w.cell? ⟨p, 1, none⟩ = some (.pointer (some ⟨e, 0, none⟩)) := (cell_of_row _ _ 1 _ _ (0, 0) h.pr).trans rfl
theorem Pa.c2 (h : Pa w p d e k s Q N) : w.cell? ⟨p, 2, none⟩ = some (.pointer (some ⟨k, 0, none⟩)) := (cell_of_row _ _ 2 _ _ (0, 0) h.pr).trans rfl
/-- Both devices have made the same step. -/
theorem Pa.both (h : Pa w p d e k s Q N) {w1 : World} (hD : Dev w1 d s' (fun b => Q b ∨ (w.heap.size ≤ b ∧ b < w1.heap.size))) (hF : Fr Q w w1) : Rd w1 e s (fun b => N b) := h.ref.keep (fun b hb hl => hF.same b hl (fun hq => h.ap b hq hb)) (fun _ h _ => h)
end
/-- A step of a pair: what it turns is its own, what it keeps is its own or new. -/
def Ps (w w' : World) (p d e k : Nat) (s' : St) (Q N : Nat → Prop) : Prop := ∃ Q' N', Pa w' p d e k s' Q' N' ∧ (∀ b, Q' b ∨ N' b → Q b ∨ N b ∨ w.heap.size ≤ b) ∧ Fr (fun b => Q b ∨ N b) w w'
theorem pa_end {w w1 w2 w3 : World} {p d e k : Nat} {s s' : St} {Q N : Nat → Prop} (h : Pa w p d e k s Q N) (b0 : Below w.heap.size w w1) (hD : Dev w2 d s' (fun b => Q b ∨ (w1.heap.size ≤ b ∧ b < w2.heap.size))) (hF : Fr Q w1 w2) {X : Nat → Prop} (hX : ∀ b, X b → w.heap.size ≤ b ∧ ¬ (fun b => Q b ∨ (w1.heap.size ≤ b ∧ b < w2.heap.size)) b) {w4 : World} (hG : Fr X w2 w4) (hR : Rd w3 e s' (fun b => N b ∨ w4.heap.size ≤ b)) (hE : Fr (fun b => N b ∨ w4.heap.size ≤ b) w4 w3) : Ps w w3 p d e k s' Q N := by
  have s1 := b0.size
  have s2 := hF.size
  have s3 := hG.size
  have s4 := hE.size
  have hlt := h.lt
  have hql := h.dev.lt
  have hnl := h.nl
  have e1 : ∀ b, b < w2.heap.size → ¬ X b → ¬ N b → w3.heap[b]? = w2.heap[b]? := fun b hb hx hn => (hE.same b (by omega) (fun q => by
    rcases q with q | q
    · exact hn q
    · omega)).trans (hG.same b hb hx)
  have nx : ∀ b, b < w.heap.size → ¬ X b := fun b hb hx => by have := (hX b hx).1; omega
  refine ⟨fun b => Q b ∨ (w1.heap.size ≤ b ∧ b < w2.heap.size), fun b => N b ∨ (w4.heap.size ≤ b ∧ b < w3.heap.size), ⟨?_, ?_, hR.keep (fun _ _ _ => rfl) (fun b hb hl => ?_), fun b hq hn => ?_, fun b hb => ?_, fun hq => ?_, fun hq => ?_⟩, fun b hb => ?_, ?_⟩
  · exact (e1 p (by omega) (nx p hlt) h.nn).trans ((hF.same p (by omega) h.nq).trans ((b0.block p hlt).trans h.pr))
  · refine hD.fr (R := fun b => X b ∨ N b ∨ w2.heap.size ≤ b) ⟨hE.os.trans hG.os, hE.tape.trans hG.tape, hE.output.trans hG.output, by omega, fun b hb hn => e1 b hb (fun q => hn (.inl q)) (fun q => hn (.inr (.inl q)))⟩ (fun b hb hr => ?_)
    rcases hr with hx | hn | hw
    · exact (hX b hx).2 hb
    · rcases hb with hb | hb
      · exact h.ap b hb hn
      · have := hnl b hn
        omega
    · rcases hb with hb | hb
      · have := hql b hb
        omega
      · omega
  · rcases hb with hb | hb
    · exact .inl hb
    · exact .inr ⟨hb, hl⟩
  · rcases hq with hq | hq
    · rcases hn with hn | hn
      · exact h.ap b hq hn
      · have := hql b hq
        omega
    · rcases hn with hn | hn
      · have := hnl b hn
        omega
      · omega
  · rcases hb with hb | hb
    · have := hnl b hb
      omega
    · exact hb.2
  · rcases hq with hq | hq
    · exact h.nq hq
    · omega
  · rcases hq with hq | hq
    · exact h.nn hq
    · omega
  · rcases hb with (hb | hb) | (hb | hb)
    · exact .inl hb
    · exact .inr (.inr (by omega))
    · exact .inr (.inl hb)
    · exact .inr (.inr (by omega))
  · exact ⟨hE.os.trans (hG.os.trans (hF.os.trans b0.os)), hE.tape.trans (hG.tape.trans (hF.tape.trans b0.tape)), hE.output.trans (hG.output.trans (hF.output.trans b0.output)), by omega, fun b hb hn => (e1 b (by omega) (nx b hb) (fun q => hn (.inr q))).trans ((hF.same b (by omega) (fun q => hn (.inl q))).trans (b0.block b hb))⟩
end Go.Proofs.Ythjfgdldclhbhaa
namespace Go.Proofs.Ythjfgdldclhbhaa
set_option maxRecDepth 100000
open Go.RowKit Go.Shelf
set_option linter.unusedVariables false

theorem pa_ref {w w1 w2 w4 : World} {p d e k : Nat} {s : St} {Q N X : Nat → Prop} (h : Pa w p d e k s Q N) (b0 : Below w.heap.size w w1) (hF : Fr Q w1 w2) (hX : ∀ b, X b → w.heap.size ≤ b) (hG : Fr X w2 w4) : Rd w4 e s (fun b => N b ∨ w4.heap.size ≤ b) := by
  have s1 := b0.size
  have s2 := hF.size
  refine h.ref.keep (fun b hb hl => ?_) (fun b hb _ => .inl hb)
  exact (hG.same b (by omega) (fun q => by have := hX b q; omega)).trans ((hF.same b (by omega) (fun q => h.ap b q hb)).trans (b0.block b hl))
/-- A row of flags of one's own, of which n can be read. -/
def Xk (w : World) (g n : Nat) : Prop := ∃ cur, w.heap[g]? = some (.cells cur 4 (0, 0)) ∧ n ≤ cur.size ∧ ∀ i, i < n → ∃ b, cur[i]? = some (.bool b)
theorem own1_form {w : World} {B n : Nat} {v : Value} {ks : List Bool} {t : Bool} (hl : ks.length = n) (h : w.ownsRow B 4 1 v (n + 1) (bcs ks ++ [.bool t])) : ∃ g cap, v = .slice (some ⟨g, 0, none⟩) (n + 1) cap ∧ n + 1 ≤ cap ∧ cap ≤ maxLen ∧ B ≤ g ∧ Xk w g (n + 1) ∧ Bl w (some ⟨g, 0, none⟩) n ks ∧ w.cell? ⟨g, n, none⟩ = some (.bool t) := by
  obtain ⟨h1, h2⟩ := h
  rcases h2 with ⟨_, h⟩ | ⟨g, cap, cur, rfl, hb, hg, hnc, hcm, hs, ht⟩
  · omega
  · have key : ∀ i u, (bcs ks ++ [.bool t])[i]? = some u → cur[i]? = some u := fun i u hu => by
      have hi : i < (bcs ks ++ [Value.bool t]).length := (List.getElem?_eq_some_iff.1 hu).1
      rw [← ht, List.getElem?_take, if_pos (by omega)] at hu
      simpa using hu
    have kb : ∀ i, i < n → cur[i]? = some (.bool (ks.getD i false)) := fun i hi => key i _ (by
      rw [List.getElem?_append_left (by unfold bcs; rw [List.length_map]; omega)]
      unfold bcs
      rw [List.getElem?_map]
      simp [List.getD, show i < ks.length by omega])
    have kt : cur[n]? = some (.bool t) := key n _ (by
      rw [List.getElem?_append_right (by unfold bcs; rw [List.length_map]; omega)]
      unfold bcs
      simp [hl])
    refine ⟨g, cap, rfl, hnc, hcm, hb, ⟨cur, hg, by omega, fun i hi => ?_⟩, ⟨hl, .inr ⟨g, 0, rfl, fun i hi => ?_⟩⟩, (cell_of_row w g n cur 4 (0, 0) hg).trans kt⟩
    · by_cases q : i = n
      · rw [q]; exact ⟨_, kt⟩
      · exact ⟨_, kb i (by omega)⟩
    · rw [Nat.zero_add, cell_of_row w g i cur 4 (0, 0) hg]
      exact kb i hi
theorem Xk.set {w : World} {g n : Nat} (h : Xk w g n) (i : Nat) (b : Bool) : Xk (w.setCell ⟨g, i, none⟩ (.bool b)) g n := by
  obtain ⟨cur, h1, h2, h3⟩ := h
  refine ⟨cur.setIfInBounds i (.bool b), by simp [World.setCell, Array.getElem?_modify, h1], by simpa using h2, fun j hj => ?_⟩
  by_cases q : j = i
  · subst q
    exact ⟨b, by rw [Array.getElem?_setIfInBounds_self_of_lt (by omega)]⟩
  · obtain ⟨c, hc⟩ := h3 j hj
    exact ⟨c, by rw [Array.getElem?_setIfInBounds_ne (Ne.symm q)]; exact hc⟩
theorem Xk.cell {w : World} {g n i : Nat} (h : Xk w g n) (hi : i < n) : ∃ b, w.cell? ⟨g, i, none⟩ = some (.bool b) := by
  obtain ⟨cur, h1, h2, h3⟩ := h
  obtain ⟨b, hb⟩ := h3 i hi
  exact ⟨b, (cell_of_row w g i cur 4 (0, 0) h1).trans hb⟩
theorem Xk.fz {w : World} {g n : Nat} (h : Xk w g n) (i : Nat) : w.frozen? ⟨g, i, none⟩ = false := by
  obtain ⟨cur, h1, _⟩ := h
  simp [World.frozen?, h1]
theorem Xk.at {w w' : World} {g n : Nat} (h : Xk w g n) (e : w'.heap[g]? = w.heap[g]?) : Xk w' g n := by
  obtain ⟨cur, h1, h2⟩ := h
  exact ⟨cur, e.trans h1, h2⟩
theorem Xk.lt {w : World} {g n : Nat} (h : Xk w g n) : g < w.heap.size := by
  obtain ⟨cur, h1, _⟩ := h
  exact (Array.getElem?_eq_some_iff.1 h1).1
set_option maxHeartbeats 4000000 in
theorem pcrash_ (p d e k : Nat) (s : St) (Q N : Nat → Prop) (a1 : Option Addr) (n c1 : Nat) (ks : List Bool) (w : World) (h : Pa w p d e k s Q N) (hp : s.P.length ≤ 100000) (hb : Bl w a1 n ks) (hq : ∀ ad, a1 = some ad → 0 < n → ¬ Q ad.block ∧ ¬ N ad.block) (hn : n ≤ 65536) :
    Calls Try.prog 41 #[.pointer (some ⟨p, 0, none⟩), .slice a1 n c1] w fun en w' => en = .returned (.bool true) ∧ Ps w w' p d e k (crS s ks) Q N := by
  have HP := hid h
  have HB := hid hb
  have HQ := hid hq
  have hl := hb.1
  have k1 := rbools_ a1 n c1 ks w hb (by omega)
  clear h hb hq
  go_enter Try.func41, Try.ntmps41
  go_wp2_with fail
  refine k1.mono ?_
  rintro en w1 ⟨v1, rfl, o1, g1⟩
  have OA := hid (o1.alloc (.cells #[.bool true] 4))
  have HBA := hid (bel_bel g1 g1.size ((Below.refl w1.heap.size w1).alloc (Nat.le_refl _) (.cells #[.bool true] 4)))
  have hsz : w.heap.size ≤ (w1.alloc (.cells #[.bool true] 4)).heap.size := HBA.out.size
  clear k1 o1 g1
  go_wp2_with (at_builtin; refine wpList_appK rfl _ _ rfl w.heap.size _ n (bcs ks) true w1.heap.size rfl (by exact OA.out) rfl (by exact cell1_new w1 _ _) (by omega) hsz ?_; intro v2 w2 o2 G2; have HB2 := hid (bel_own HBA.out OA.out G2.out); obtain ⟨g, cx, rfl, q1, q2, q3, q4, q5, q6⟩ := own1_form hl o2.out; clear o2 G2)
  have P2 := HP.out.below HB2.out
  have c0 := P2.c0
  have hql := HP.out.dev.lt
  have hpw := HP.out.lt
  have hnQ : ¬ Q g := fun hq => by have := hql g hq; omega
  have hpg : p ≠ g := by omega
  have kc : ∀ wx, Drawn w2 wx → Calls Try.prog 17 #[.pointer (some ⟨d, 0, none⟩), .slice (some ⟨g, 0, none⟩) n (n + 1)] wx fun en w' => en = .returned (.tuple #[]) ∧ Dev w' d (crS s ks) (fun b => Q b ∨ (w2.heap.size ≤ b ∧ b < w'.heap.size)) ∧ Fr Q w2 w' := fun wx hx =>
    (crash_ d s Q (some ⟨g, 0, none⟩) n (n + 1) ks wx (P2.dev.below hx.below) (by omega) (q5.below hx.below) (fun ad ha _ => by obtain rfl := Option.some.inj ha; exact hnQ) (by omega)).mono (fun en w' ⟨a, b, c⟩ => ⟨a, by rw [hx.heap] at b; exact b, ⟨c.os.trans hx.os, c.tape.trans hx.tape, c.output.trans hx.output, by rw [← hx.heap]; exact c.size, fun b hb hn => by
      have := c.same b (by rw [hx.heap]; exact hb) hn
      rw [hx.heap] at this
      exact this⟩⟩)
  have HPR := hid P2.pr
  have HPL := hid P2.lt
  have HX4 := hid q4
  have HX5 := hid q5
  have HX6 := hid q6
  have hX4 := q4.lt
  have nI : (n : Int) ≤ ((n + 1 : Nat) : Int) := by omega
  have nC : ((n + 1 : Nat) : Int) ≤ (cx : Int) := by omega
  clear P2 q4 q5 q6
  go_wp2_with fail
  go_region_held (fun wx => wx.cell? ⟨p, 0, none⟩ = some (.pointer (some ⟨d, 0, none⟩))) (go_keep) (first | (go_at_call 17; refine (kc _ (by exact ⟨rfl, rfl, rfl, rfl⟩)).mono ?_; rintro en w3 ⟨rfl, D3, F3⟩; have u := (F3.same p HPL.out HP.out.nq).trans HPR.out; have u0 : w3.cell? ⟨p, 0, none⟩ = some (.pointer (some ⟨d, 0, none⟩)) := (cell_of_row _ _ 0 _ _ (0, 0) u).trans rfl))
  have HD3 := hid D3
  have HF3 := hid F3
  have X4 := HX4.out.at (F3.same g hX4 hnQ)
  have X5 : Bl w3 (some ⟨g, 0, none⟩) n ks := HX5.out.fr F3 (fun ad ha _ => by obtain rfl := Option.some.inj ha; exact hnQ)
  have X6 : w3.cell? ⟨g, n, none⟩ = some (.bool true) := (World.cell?_of_block (w := w2) (a := ⟨g, n, none⟩) (F3.same g hX4 hnQ)).trans HX6.out
  have B3 : Bl w3 a1 n ks := (HB.out.below HB2.out).fr F3 (fun ad ha h0 => (HQ.out ad ha h0).1)
  have ksm := rsameBools_ (some ⟨g, 0, none⟩) a1 n cx c1 ks w3 X5 B3 (by omega)
  have HU := hid u
  have HX := hid X4
  have HB3 := hid B3
  have hnn1 : (n : Int) < ((n + 1 : Nat) : Int) := by omega
  clear kc D3 F3 X5 B3 u0 u c0 X4
  go_wp2_with fail
  refine ksm.mono ?_
  rintro en w4 ⟨rfl, d4⟩
  have X6' := (d4.below.cell (p := ⟨g, n, none⟩) HX.out.lt).trans X6
  have HX' := hid (HX.out.at (congrArg (·[g]?) d4.heap))
  have HFR : Hid (Fr (fun b => b = g) w3 w4) := Fr.ofB d4.below
  clear ksm d4 X6 HX
  go_wp2_with fail
  go_loopw [8] (fun i wr => ∃ j : Nat, j ≤ n ∧ i = .int .i64 j ∧ Xk wr g (n + 1) ∧ Fr (fun b => b = g) w3 wr) (fun i _ => n - (intOf i).toNat)
  case atStart => exact ⟨0, Nat.zero_le _, rfl, HX'.out, HFR.out⟩
  case round =>
    clear HX' HFR X6'
    obtain ⟨j, hj, rfl, hx, hf⟩ := hrel
    by_cases hlt : j < n
    · have hjI : (j : Int) < (n : Int) := by omega
      have hjJ : (j : Int) < ((n + 1 : Nat) : Int) := by omega
      obtain ⟨b, xb⟩ := hx.cell (show j < n + 1 by omega)
      have fj := hx.fz j
      have HXN := hid (hx.set j (!b))
      have HFN := hid (hf.trans (Fr.of (Q := fun b => b = g) (grown_set (grown_refl wr (some g)) j (.bool (!b))) rfl))
      clear hx hf hlt
      go_wp2_with fail
      go_roundw
      case rel => exact ⟨j + 1, by omega, by go_num, HXN.out, HFN.out⟩
      case measure => simp [intOf]; omega
    · have hjI : ¬ (j : Int) < (n : Int) := by omega
      have hXX : ∀ b, (fun b => b = g) b → w.heap.size ≤ b := fun b hb => by have : b = g := hb; omega
      obtain ⟨r1, r2, r3, r4, r5, r6, r7, r8, R⟩ := pa_ref HP.out HB2.out HF3.out hXX hf
      have s2 := HB2.out.size
      have s3 := HF3.out.size
      have s4 := hf.size
      have hpr := (hf.same p (by have := HPL.out; omega) hpg).trans HU.out
      have cp1 : wr.cell? ⟨p, 1, none⟩ = some (.pointer (some ⟨e, 0, none⟩)) := (cell_of_row _ _ 1 _ _ (0, 0) hpr).trans rfl
      have BR : Bl wr a1 n ks := HB3.out.fr hf (fun ad ha h0 hg => by
        have h1 : ad.block = g := hg
        have h2 := HB.out
        rw [ha] at h2
        have := h2.lt h0
        omega)
      have kr := rcrash_ e s _ r1 r2 r3 r4 r5 r6 r7 r8 a1 n c1 ks wr R (by omega) BR (fun ad ha h0 hg => by
        rcases hg with hg | hg
        · exact (HQ.out ad ha h0).2 hg
        · have h2 := HB.out
          rw [ha] at h2
          have := h2.lt h0
          omega) (by omega)
      have HFE := hid hf
      have HHX : Hid (∀ b, (fun b => b = g) b → w.heap.size ≤ b ∧ ¬ (fun b => Q b ∨ (w2.heap.size ≤ b ∧ b < w3.heap.size)) b) := fun b hb => by
        have e1 : b = g := hb
        subst e1
        refine ⟨q3, fun q => ?_⟩
        rcases q with q | q
        · exact hnQ q
        · omega
      clear hx hf R BR
      go_wp2_with fail
      refine kr.mono ?_
      rintro en w5 ⟨rfl, R5, F5⟩
      have EN := hid (pa_end HP.out HB2.out HD3.out HF3.out HHX.out HFE.out R5 F5)
      clear kr R5 F5
      go_wp2_with fail
      go_ret
      exact ⟨rfl, EN.out⟩
end Go.Proofs.Ythjfgdldclhbhaa
namespace Go.Proofs.Ythjfgdldclhbhaa
set_option maxRecDepth 100000
open Go.RowKit Go.Shelf
set_option linter.unusedVariables false

/-- A row of faults of one's own, of which n can be read. -/
def Xf (w : World) (g n : Nat) : Prop := ∃ cur, w.heap[g]? = some (.cells cur 71 (0, 0)) ∧ n * 2 ≤ cur.size ∧ ∀ i, i < n * 2 → ∃ x, cur[i]? = some (.int .i64 x)
theorem own2_form {w : World} {B n : Nat} {v : Value} {fs : List (Int × Int)} {x y : Int} (hl : fs.length = n) (h : w.ownsRow B 71 2 v (n + 1) (fcs fs ++ [.int .i64 x, .int .i64 y])) : ∃ g cap, v = .slice (some ⟨g, 0, none⟩) (n + 1) cap ∧ n + 1 ≤ cap ∧ cap ≤ maxLen ∧ B ≤ g ∧ Xf w g (n + 1) ∧ Fs w (some ⟨g, 0, none⟩) n fs ∧ w.cell? ⟨g, n * 2, none⟩ = some (.int .i64 x) ∧ w.cell? ⟨g, n * 2 + 1, none⟩ = some (.int .i64 y) := by
  obtain ⟨h1, h2⟩ := h
  rcases h2 with ⟨_, h⟩ | ⟨g, cap, cur, rfl, hb, hg, hnc, hcm, hs, ht⟩
  · omega
  · have hfl := fcs_length fs
    have key : ∀ i u, (fcs fs ++ [.int .i64 x, .int .i64 y])[i]? = some u → cur[i]? = some u := fun i u hu => by
      have hi : i < (fcs fs ++ [Value.int .i64 x, .int .i64 y]).length := (List.getElem?_eq_some_iff.1 hu).1
      rw [← ht, List.getElem?_take, if_pos (by omega)] at hu
      simpa using hu
    have kb : ∀ i, i < n → cur[i * 2]? = some (.int .i64 (fs.getD i (0, 0)).1) ∧ cur[i * 2 + 1]? = some (.int .i64 (fs.getD i (0, 0)).2) := fun i hi => by
      obtain ⟨g1, g2⟩ := fcs_get fs i (by omega)
      exact ⟨key _ _ (by rw [List.getElem?_append_left (by omega)]; exact g1), key _ _ (by rw [List.getElem?_append_left (by omega)]; exact g2)⟩
    have kx : cur[n * 2]? = some (.int .i64 x) := key _ _ (by rw [List.getElem?_append_right (by omega), show n * 2 - (fcs fs).length = 0 by omega]; rfl)
    have ky : cur[n * 2 + 1]? = some (.int .i64 y) := key _ _ (by rw [List.getElem?_append_right (by omega), show n * 2 + 1 - (fcs fs).length = 1 by omega]; rfl)
    refine ⟨g, cap, rfl, hnc, hcm, hb, ⟨cur, hg, by omega, fun i hi => ?_⟩, ⟨hl, .inr ⟨g, 0, rfl, fun i hi => ?_⟩⟩, (cell_of_row w g _ cur _ (0, 0) hg).trans kx, (cell_of_row w g _ cur _ (0, 0) hg).trans ky⟩
    · by_cases q : i = n * 2
      · rw [q]; exact ⟨_, kx⟩
      · by_cases q2 : i = n * 2 + 1
        · rw [q2]; exact ⟨_, ky⟩
        · have := kb (i / 2) (by omega)
          by_cases h2 : i % 2 = 0
          · exact ⟨_, by rw [show i = i / 2 * 2 by omega]; exact this.1⟩
          · exact ⟨_, by rw [show i = i / 2 * 2 + 1 by omega]; exact this.2⟩
    · rw [Nat.zero_add, cell_of_row w g _ cur _ (0, 0) hg, cell_of_row w g _ cur _ (0, 0) hg]
      exact kb i hi
theorem Xf.set {w : World} {g n : Nat} (h : Xf w g n) (i : Nat) (b : Int) : Xf (w.setCell ⟨g, i, none⟩ (.int .i64 b)) g n := by
  obtain ⟨cur, h1, h2, h3⟩ := h
  refine ⟨cur.setIfInBounds i (.int .i64 b), by simp [World.setCell, Array.getElem?_modify, h1], by simpa using h2, fun j hj => ?_⟩
  by_cases q : j = i
  · subst q
    exact ⟨b, by rw [Array.getElem?_setIfInBounds_self_of_lt (by omega)]⟩
  · obtain ⟨c, hc⟩ := h3 j hj
    exact ⟨c, by rw [Array.getElem?_setIfInBounds_ne (Ne.symm q)]; exact hc⟩
theorem Xf.cell {w : World} {g n i : Nat} (h : Xf w g n) (hi : i < n * 2) : ∃ b, w.cell? ⟨g, i, none⟩ = some (.int .i64 b) := by
  obtain ⟨cur, h1, h2, h3⟩ := h
  obtain ⟨b, hb⟩ := h3 i hi
  exact ⟨b, (cell_of_row w g i cur _ (0, 0) h1).trans hb⟩
theorem Xf.fz {w : World} {g n : Nat} (h : Xf w g n) (i : Nat) : w.frozen? ⟨g, i, none⟩ = false := by
  obtain ⟨cur, h1, _⟩ := h
  simp [World.frozen?, h1]
theorem Xf.at {w w' : World} {g n : Nat} (h : Xf w g n) (e : w'.heap[g]? = w.heap[g]?) : Xf w' g n := by
  obtain ⟨cur, h1, h2⟩ := h
  exact ⟨cur, e.trans h1, h2⟩
theorem Xf.lt {w : World} {g n : Nat} (h : Xf w g n) : g < w.heap.size := by
  obtain ⟨cur, h1, _⟩ := h
  exact (Array.getElem?_eq_some_iff.1 h1).1
theorem Fs.fr {Q : Nat → Prop} {w w' : World} {a : Option Addr} {n : Nat} {fs : List (Int × Int)} (h : Fs w a n fs) (hf : Fr Q w w') (hq : ∀ ad, a = some ad → 0 < n → ¬ Q ad.block) : Fs w' a n fs := by
  refine ⟨h.1, ?_⟩
  rcases h.2 with h0 | ⟨b, off, rfl, hc⟩
  · exact .inl h0
  · by_cases hn : n = 0
    · exact .inl hn
    · have hl := World.block_lt_of_cell? w _ (hc 0 (by omega)).1
      have hs := hf.same b hl (hq _ rfl (by omega))
      exact .inr ⟨b, off, rfl, fun i hi => ⟨(World.cell?_of_block (w := w) (a := ⟨b, off + i * 2, none⟩) hs).trans (hc i hi).1, (World.cell?_of_block (w := w) (a := ⟨b, off + i * 2 + 1, none⟩) hs).trans (hc i hi).2⟩⟩
theorem Fs.lt {w : World} {ad : Addr} {n : Nat} {fs : List (Int × Int)} (h : Fs w (some ad) n fs) (hn : 0 < n) : ad.block < w.heap.size := by
  rcases h.2 with h0 | ⟨b, off, q, hc⟩
  · omega
  · obtain rfl := Option.some.inj q
    exact World.block_lt_of_cell? w _ (hc 0 hn).1
set_option maxHeartbeats 4000000 in
theorem parm_ (p d e k : Nat) (s : St) (Q N : Nat → Prop) (a1 : Option Addr) (n c1 : Nat) (fs : List (Int × Int)) (w : World) (h : Pa w p d e k s Q N) (hb : Fs w a1 n fs) (hq : ∀ ad, a1 = some ad → 0 < n → ¬ Q ad.block ∧ ¬ N ad.block) (hn : n ≤ 65536) :
    Calls Try.prog 40 #[.pointer (some ⟨p, 0, none⟩), .slice a1 n c1] w fun en w' => en = .returned (.bool true) ∧ Ps w w' p d e k (arS s fs) Q N := by
  have HP := hid h
  have HB := hid hb
  have HQ := hid hq
  have hl := hb.1
  have k1 := rfaults_ a1 n c1 fs w hb (by omega)
  obtain ⟨E, HE⟩ : ∃ E, Hid (arE s fs = E) := ⟨_, rfl⟩
  have tE : (E == E) = true := by simp
  clear h hb hq
  go_enter Try.func40, Try.ntmps40
  go_wp2_with fail
  refine k1.mono ?_
  rintro en w1 ⟨v1, rfl, o1, g1⟩
  have OA := hid (o1.alloc (.cells #[.int .i64 1, .int .i64 1] 71))
  have HBA := hid (bel_bel g1 g1.size ((Below.refl w1.heap.size w1).alloc (Nat.le_refl _) (.cells #[.int .i64 1, .int .i64 1] 71)))
  have hsz : w.heap.size ≤ (w1.alloc (.cells #[.int .i64 1, .int .i64 1] 71)).heap.size := HBA.out.size
  clear k1 o1 g1
  go_wp2_with (at_builtin; refine wpList_appF rfl _ _ rfl w.heap.size _ n (fcs fs) 1 1 w1.heap.size rfl (by exact OA.out) rfl (by exact (cells2_new w1 _ _ _).1) (by exact (cells2_new w1 _ _ _).2) (by omega) hsz ?_; intro v2 w2 o2 G2; have HB2 := hid (bel_own HBA.out OA.out G2.out); obtain ⟨g, cx, rfl, q1, q2, q3, q4, q5, q6, q7⟩ := own2_form hl o2.out; clear o2 G2)
  have P2 := HP.out.below HB2.out
  have c0 := P2.c0
  have hql := HP.out.dev.lt
  have hpw := HP.out.lt
  have hnQ : ¬ Q g := fun hq => by have := hql g hq; omega
  have hpg : p ≠ g := by omega
  have kc : ∀ wx, Drawn w2 wx → Calls Try.prog 29 #[.pointer (some ⟨d, 0, none⟩), .slice (some ⟨g, 0, none⟩) n (n + 1)] wx fun en w' => en = .returned (.int .i64 E) ∧ Dev w' d (arS s fs) (fun b => Q b ∨ (w2.heap.size ≤ b ∧ b < w'.heap.size)) ∧ Fr Q w2 w' := fun wx hx => by
    have := arm_ d s Q (some ⟨g, 0, none⟩) n (n + 1) fs wx (P2.dev.below hx.below) (q5.below hx.below) (by omega)
    rw [HE.out] at this
    exact this.mono (fun en w' ⟨a, b, c⟩ => ⟨a, by rw [hx.heap] at b; exact b, ⟨c.os.trans hx.os, c.tape.trans hx.tape, c.output.trans hx.output, by rw [← hx.heap]; exact c.size, fun b hb hn => by
      have := c.same b (by rw [hx.heap]; exact hb) hn
      rw [hx.heap] at this
      exact this⟩⟩)
  have HPR := hid P2.pr
  have HPL := hid P2.lt
  have HX4 := hid q4
  have HX5 := hid q5
  have HX6 := hid q6
  have HX7 := hid q7
  have hX4 := q4.lt
  have nI : (n : Int) ≤ ((n + 1 : Nat) : Int) := by omega
  have nC : ((n + 1 : Nat) : Int) ≤ (cx : Int) := by omega
  clear P2 q4 q5 q6 q7
  go_wp2_with fail
  go_region_held (fun wx => wx.cell? ⟨p, 0, none⟩ = some (.pointer (some ⟨d, 0, none⟩))) (go_keep) (first | (go_at_call 29; refine (kc _ (by exact ⟨rfl, rfl, rfl, rfl⟩)).mono ?_; rintro en w3 ⟨rfl, D3, F3⟩; have u := (F3.same p HPL.out HP.out.nq).trans HPR.out; have u0 : w3.cell? ⟨p, 0, none⟩ = some (.pointer (some ⟨d, 0, none⟩)) := (cell_of_row _ _ 0 _ _ (0, 0) u).trans rfl))
  have HD3 := hid D3
  have HF3 := hid F3
  have X4 := HX4.out.at (F3.same g hX4 hnQ)
  have X5 : Fs w3 (some ⟨g, 0, none⟩) n fs := HX5.out.fr F3 (fun ad ha _ => by obtain rfl := Option.some.inj ha; exact hnQ)
  have X6 : w3.cell? ⟨g, n * 2, none⟩ = some (.int .i64 1) := (World.cell?_of_block (w := w2) (a := ⟨g, n * 2, none⟩) (F3.same g hX4 hnQ)).trans HX6.out
  have X7 : w3.cell? ⟨g, n * 2 + 1, none⟩ = some (.int .i64 1) := (World.cell?_of_block (w := w2) (a := ⟨g, n * 2 + 1, none⟩) (F3.same g hX4 hnQ)).trans HX7.out
  have B3 : Fs w3 a1 n fs := (HB.out.below HB2.out).fr F3 (fun ad ha h0 => (HQ.out ad ha h0).1)
  have ksm := rsameFaults_ (some ⟨g, 0, none⟩) a1 n cx c1 fs w3 X5 B3 (by omega)
  have HU := hid u
  have HX := hid X4
  have HB3 := hid B3
  have hnn1 : (n : Int) < ((n + 1 : Nat) : Int) := by omega
  clear kc D3 F3 X5 B3 u0 u c0 X4
  go_wp2_with fail
  refine ksm.mono ?_
  rintro en w4 ⟨rfl, d4⟩
  have X6' := (d4.below.cell (p := ⟨g, n * 2, none⟩) HX.out.lt).trans X6
  have X7' := (d4.below.cell (p := ⟨g, n * 2 + 1, none⟩) HX.out.lt).trans X7
  have HX' := hid (HX.out.at (congrArg (·[g]?) d4.heap))
  have HFR : Hid (Fr (fun b => b = g) w3 w4) := Fr.ofB d4.below
  clear ksm d4 X6 X7 HX
  go_wp2_with fail
  go_loopw [9] (fun i wr => ∃ j : Nat, j ≤ n ∧ i = .int .i64 j ∧ Xf wr g (n + 1) ∧ Fr (fun b => b = g) w3 wr) (fun i _ => n - (intOf i).toNat)
  case atStart => exact ⟨0, Nat.zero_le _, rfl, HX'.out, HFR.out⟩
  case round =>
    clear HX' HFR X6' X7'
    obtain ⟨j, hj, rfl, hx, hf⟩ := hrel
    by_cases hlt : j < n
    · have hjI : (j : Int) < (n : Int) := by omega
      have hjJ : (j : Int) < ((n + 1 : Nat) : Int) := by omega
      obtain ⟨x0, xb0⟩ := hx.cell (show j * 2 < (n + 1) * 2 by omega)
      obtain ⟨x1, xb1⟩ := hx.cell (show j * 2 + 1 < (n + 1) * 2 by omega)
      have fj := hx.fz (j * 2)
      have fj1 := hx.fz (j * 2 + 1)
      have HXN := hid ((hx.set (j * 2) ((j : Int) + 1)).set (j * 2 + 1) 1)
      have HFN := hid (hf.trans (Fr.of (Q := fun b => b = g) (grown_set (grown_set (grown_refl wr (some g)) (j * 2) (.int .i64 ((j : Int) + 1))) (j * 2 + 1) (.int .i64 1)) rfl))
      clear hx hf hlt
      go_wp2_with fail
      go_roundw
      case rel => exact ⟨j + 1, by omega, by go_num, HXN.out, HFN.out⟩
      case measure => simp [intOf]; omega
    · have hjI : ¬ (j : Int) < (n : Int) := by omega
      have hXX : ∀ b, (fun b => b = g) b → w.heap.size ≤ b := fun b hb => by have : b = g := hb; omega
      obtain ⟨r1, r2, r3, r4, r5, r6, r7, r8, R⟩ := pa_ref HP.out HB2.out HF3.out hXX hf
      have s2 := HB2.out.size
      have s3 := HF3.out.size
      have s4 := hf.size
      have hpr := (hf.same p (by have := HPL.out; omega) hpg).trans HU.out
      have cp1 : wr.cell? ⟨p, 1, none⟩ = some (.pointer (some ⟨e, 0, none⟩)) := (cell_of_row _ _ 1 _ _ (0, 0) hpr).trans rfl
      have BR : Fs wr a1 n fs := HB3.out.fr hf (fun ad ha h0 hg => by
        have h1 : ad.block = g := hg
        have h2 := HB.out
        rw [ha] at h2
        have := h2.lt h0
        omega)
      have kr := rarm_ e s _ r1 r2 r3 r4 r5 r6 r7 r8 a1 n c1 fs wr R (fun b hb => .inr hb) BR (by omega)
      rw [HE.out] at kr
      have HFE := hid hf
      have HHX : Hid (∀ b, (fun b => b = g) b → w.heap.size ≤ b ∧ ¬ (fun b => Q b ∨ (w2.heap.size ≤ b ∧ b < w3.heap.size)) b) := fun b hb => by
        have e1 : b = g := hb
        subst e1
        refine ⟨q3, fun q => ?_⟩
        rcases q with q | q
        · exact hnQ q
        · omega
      clear hx hf R BR
      go_wp2_with fail
      refine kr.mono ?_
      rintro en w5 ⟨rfl, R5, F5⟩
      have EN := hid (pa_end HP.out HB2.out HD3.out HF3.out HHX.out HFE.out R5 F5)
      clear kr R5 F5
      go_wp2_with (go_at_call 19; refine (num_ _ _).mono ?_; rintro e w' ⟨rfl, hw⟩; obtain rfl := hw.symm; clear hw)
      go_ret
      exact ⟨rfl, EN.out⟩
end Go.Proofs.Ythjfgdldclhbhaa
