import Derived.Test.YthjfgdldclhbhaaD3
import Derived.Deep.RegionHeld
namespace Go.Proofs.Ythjfgdldclhbhaa
open Go.RowKit Go.Shelf
set_option linter.unusedVariables false
set_option maxRecDepth 100000

/-- The function over the list at go says F. -/
structure Ft (w : World) (go : Nat) (F : Int → Int) (a : Option Addr) (m cp : Nat) (fs : List (Int × Int)) : Prop where
  bx : w.heap[go]? = some (.cells #[.slice a m cp] 31 (0, 0))
  rw : ∀ ad, a = some ad → ∃ cur, w.heap[ad.block]? = some (.cells cur 71 (0, 0))
  hfs : Fs w a m fs
  hsr : srt fs
  hm : m ≤ 140737488355328
  hF : F = lookF fs
section
variable {w w' : World} {go : Nat} {F : Int → Int} {a : Option Addr} {m cp : Nat} {fs : List (Int × Int)}
theorem Fs.at (h : Fs w a m fs) (e : ∀ ad, a = some ad → w'.heap[ad.block]? = w.heap[ad.block]?) : Fs w' a m fs := by
  refine ⟨h.1, ?_⟩
  rcases h.2 with h0 | ⟨b, off, rfl, hc⟩
  · exact .inl h0
  · refine .inr ⟨b, off, rfl, fun i hi => ?_⟩
    have := e _ rfl
    exact ⟨(World.cell?_of_block (w := w) (a := ⟨b, off + i * 2, none⟩) this).trans (hc i hi).1, (World.cell?_of_block (w := w) (a := ⟨b, off + i * 2 + 1, none⟩) this).trans (hc i hi).2⟩
theorem Ft.at (h : Ft w go F a m cp fs) (e1 : w'.heap[go]? = w.heap[go]?) (e2 : ∀ ad, a = some ad → w'.heap[ad.block]? = w.heap[ad.block]?) : Ft w' go F a m cp fs :=
  ⟨e1.trans h.bx, fun ad ha => by obtain ⟨cur, hc⟩ := h.rw ad ha; exact ⟨cur, (e2 ad ha).trans hc⟩, h.hfs.at e2, h.hsr, h.hm, h.hF⟩
theorem Ft.grown {d : Nat} {lv pv fv : Value} {c : Int} {on : Bool} {k : Int} (h : Ft w go F a m cp fs) (hd : Dm w d lv pv fv c on k) (hg : w.grownBy w' (some d)) : Ft w' go F a m cp fs := by
  refine h.at (hg.block _ (Array.getElem?_eq_some_iff.1 h.bx).1 (fun e => ?_)) (fun ad ha => ?_)
  · have h1 := h.bx
    rw [Option.some.inj e] at h1
    unfold Dm at hd
    rw [hd] at h1
    simp at h1
  · obtain ⟨cur, hc⟩ := h.rw ad ha
    refine hg.block _ (Array.getElem?_eq_some_iff.1 hc).1 (fun e => ?_)
    rw [Option.some.inj e] at hc
    unfold Dm at hd
    rw [hd] at hc
    simp at hc
end
set_option maxHeartbeats 1000000 in
theorem operate_ (d : Nat) (lv pv : Value) (go c : Nat) (on : Bool) (k : Int) (F : Int → Int) (a : Option Addr) (m cp : Nat) (fs : List (Int × Int)) (w : World) (h : Dm w d lv pv (fnv go) c on k) (hf : Ft w go F a m cp fs) (hc : c ≤ 1000000) :
    Calls Try.prog 50 #[.pointer (some ⟨d, 0, none⟩)] w fun e w' => e = .returned (.int .i64 (if on then (if F ((c : Int) + 1) = 1 then 104 else if F ((c : Int) + 1) = 2 then 103 else 0) else 104)) ∧ Dm w' d lv pv (fnv go) (if on then (c : Int) + 1 else c) (on && decide (F ((c : Int) + 1) ≠ 1)) k ∧ w.grownBy w' (some d) := by
  cases on with
  | false =>
    have m4 := h.c4
    have H := hid h
    clear h hf
    simp only [Bool.false_and]
    go_enter Try.func50, Try.ntmps50
    go_wp2_with fail
    go_ret
    exact ⟨rfl, H.out, grown_refl _ _⟩
  | true =>
    have m4 := h.c4
    have m3 := h.c3
    have f3 := h.fz 3
    have M1 := h.s3 ((c : Int) + 1)
    have G1 := grown_set (grown_refl w (some d)) 3 (.int .i64 ((c : Int) + 1))
    have FT := hf.grown h G1
    have n3 := M1.c3
    have n2 := M1.c2
    unfold fnv at n2
    have hlt := M1.lt
    have HM := hid M1
    have HG := hid G1
    have HFT := hid FT
    have ho : w.heap.size = (w.setCell ⟨d, 3, none⟩ (.int .i64 ((c : Int) + 1))).heap.size := by simp [World.setCell]
    obtain ⟨R, HR⟩ : ∃ R, Hid (F ((c : Int) + 1) = R) := ⟨_, rfl⟩
    simp only [Bool.true_and, if_true]
    rw [HR.out]
    have kM : ∀ wx : World, wx.heap = (w.setCell ⟨d, 3, none⟩ (.int .i64 ((c : Int) + 1))).heap → Calls Try.prog 80 #[.int .i64 ((c : Int) + 1), .pointer (some ⟨go, 0, none⟩)] wx fun e w' => e = .returned (.int .i64 R) ∧ Below wx.heap.size wx w' := fun wx hw => by
      have FX := HFT.out.at (w' := wx) (congrArg (fun z => z[go]?) hw) (fun ad _ => congrArg (fun z => z[ad.block]?) hw)
      have := meets_ go a m cp fs ((c : Int) + 1) wx FX.bx FX.hfs FX.hsr FX.hm
      rw [← FX.hF, HR.out] at this
      exact this
    obtain ⟨E, HE0⟩ : ∃ E, Hid ((if R = 1 then (104 : Int) else if R = 2 then 103 else 0) = E) := ⟨_, rfl⟩
    obtain ⟨D, HD0⟩ : ∃ D, Hid (decide (R ≠ 1) = D) := ⟨_, rfl⟩
    rw [HE0.out, HD0.out]
    clear h hf FT M1 G1 ho
    go_enter Try.func50, Try.ntmps50
    go_wp2_with fail
    go_region_held (fun wx => wx.cell? ⟨d, 2, none⟩ = some (.func (.func 80) #[] #[.pointer (some ⟨go, 0, none⟩)]) ∧ wx.cell? ⟨d, 3, none⟩ = some (.int .i64 ((c : Int) + 1))) (go_keep) (first | (go_at_call 80; refine (kM _ (by rfl)).mono ?_; rintro e w2 ⟨rfl, g2⟩; have u2 := (g2.cell (p := ⟨d, 2, none⟩) hlt).trans n2; have u3 := (g2.cell (p := ⟨d, 3, none⟩) hlt).trans n3))
    have hsz : w.heap.size ≤ w2.heap.size := Nat.le_trans HG.out.size g2.size
    have M2 := HM.out.at (g2.block d HM.out.lt)
    have G2 : w.grownBy w2 (some d) := ⟨g2.os.trans HG.out.os, g2.tape.trans HG.out.tape, g2.output.trans HG.out.output, hsz, fun b hb hn => (g2.block b (Nat.lt_of_lt_of_le hb HG.out.size)).trans (HG.out.block b hb hn)⟩
    clear g2 u2 u3 n2 n3 kM m3 m4 f3 hlt HM HG HFT
    by_cases h1 : R = 1
    · have e1 : (R == 1) = true := by simpa using h1
      have v4 := M2.c4
      have f4 := M2.fz 4
      have HM := hid (M2.s4 false)
      have HG := hid (grown_set G2 4 (.bool false))
      have HE : Hid ((if R = 1 then (104 : Int) else if R = 2 then 103 else 0) = 104) := if_pos h1
      have HD : Hid (decide (R ≠ 1) = false) := by show _ = _; simp [h1]
      clear h1 M2 G2
      go_wp2_with fail
      go_ret
      exact ⟨by rw [← HE0.out, HE.out]; rfl, by rw [← HD0.out, HD.out]; exact HM.out, HG.out⟩
    · have e1 : (R == 1) = false := by simpa using h1
      have HD : Hid (decide (R ≠ 1) = true) := by show _ = _; simp [h1]
      have HM := hid M2
      have HG := hid G2
      by_cases h2 : R = 2
      · have e2 : (R == 2) = true := by simpa using h2
        have HE : Hid ((if R = 1 then (104 : Int) else if R = 2 then 103 else 0) = 103) := by show _ = _; rw [if_neg h1, if_pos h2]
        clear h1 h2 M2 G2
        go_wp2_with fail
        go_ret
        exact ⟨by rw [← HE0.out, HE.out]; rfl, by rw [← HD0.out, HD.out]; exact HM.out, HG.out⟩
      · have e2 : (R == 2) = false := by simpa using h2
        have HE : Hid ((if R = 1 then (104 : Int) else if R = 2 then 103 else 0) = 0) := by show _ = _; rw [if_neg h1, if_neg h2]
        clear h1 h2 M2 G2
        go_wp2_with fail
        go_ret
        exact ⟨by rw [← HE0.out, HE.out]; rfl, by rw [← HD0.out, HD.out]; exact HM.out, HG.out⟩
end Go.Proofs.Ythjfgdldclhbhaa
