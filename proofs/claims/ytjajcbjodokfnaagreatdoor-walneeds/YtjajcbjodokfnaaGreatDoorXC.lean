import Derived.Test.YtjajcbjodokfnaaGreatDoorXB
namespace Go.Proofs.YtjajcbjodokfnaaGreatDoor
set_option maxRecDepth 100000
open Go.RowKit Go.Shelf
set_option linter.unusedVariables false
set_option linter.unusedSimpArgs false

theorem hom_ne {N e p : Nat} {T : ByteArray} {q : Int} {l : List Int} (hT : T ≠ t1) : hom N ⟨T, e, q, p, l⟩ = sct N e p := by unfold hom; rw [if_neg hT]; simp only [Int.toNat_natCast]
theorem t4_t1 : t4 ≠ t1 := by decide
theorem t3_t1 : t3 ≠ t1 := by decide
theorem sct_lt' {n e p : Nat} (h : p < roo n) (hn : 32 ≤ n) : sct n e p < n := by
  unfold sct
  have hr : 2 + 2 * roo n ≤ n := by unfold roo; omega
  rcases (show e % 2 = 0 ∨ e % 2 = 1 by omega) with q | q
  · rw [q]; omega
  · rw [q]; omega
set_option maxHeartbeats 4000000 in
/-- A transaction of one sector is laid. -/
theorem wtx_1 (g d mi ep nx pl : Nat) (se re : Bool) (s : St) (Q : Nat → Prop) (a : Option Addr) (m c : Nat) (tx : List Int) (w : World) (h : Wq w g d mi ep nx pl se re s Q) (hb : Bs w a m tx) (hqb : ∀ ad, a = some ad → 0 < m → ¬ Q ad.block) (h1 : m ≤ 480) (he : mq ep) (hn : mq nx) (hp : pl < roo s.n) (hsc : s.c ≤ 50000) (hP : s.P.length ≤ 50000) :
    Calls Tryz.prog 83 #[.pointer (some ⟨g, 0, none⟩), .slice a m c] w fun en w' => en = .returned (.int .i64 (apR s s.n ep nx pl tx).1) ∧ Wz w w' g d mi ep nx pl se (re || (apR s s.n ep nx pl tx).1 != 0) (apR s s.n ep nx pl tx).2 Q := by
  have hN := h.dv.n
  have hR : roo s.n ≤ 4095 := by unfold roo; omega
  have hl := hb.1
  have HAP : Hid (apR s s.n ep nx pl tx = wfl s [(sct s.n ep pl, ps ⟨t4, ep, nx, pl, tx⟩)]) := by show _ = _; unfold apR; rw [if_pos (by omega)]
  have kl : ∀ wx, Drawn w wx → Calls Tryz.prog 87 #[.pointer (some ⟨g, 0, none⟩), .slice (some ⟨wx.heap.size, 0, none⟩) 1 1] (wx.alloc (.cells #[.string t4, .int .i64 ep, .int .i64 nx, .int .i64 pl, .slice a m c] 40)) fun en w' => en = .returned (.int .i64 (apR s s.n ep nx pl tx).1) ∧ Wz w w' g d mi ep nx pl se (re || (apR s s.n ep nx pl tx).1 != 0) (apR s s.n ep nx pl tx).2 Q := fun wx hx => by
    have := wlay1_ g d mi ep nx pl se re s Q t4 ep nx pl a m c tx wx (h.below hx.below) (hb.below hx.below) ⟨.inr (.inr (.inr rfl)), ⟨by have := he.1; omega, by have := he.2; omega⟩, ⟨by have := hn.1; omega, by have := hn.2; omega⟩, ⟨by omega, by omega⟩, h1⟩ hqb (by rw [hom_ne t4_t1]; exact sct_lt' hp hN.1) hsc hP
    rw [hom_ne t4_t1, ← HAP.out] at this
    exact this.mono (fun en w' ⟨x, y⟩ => ⟨x, Wz.first h hx.below y⟩)
  generalize apR s s.n ep nx pl tx = r at *
  obtain ⟨E, s'⟩ := r
  simp only at *
  have c2 := h.lm.c2
  have c3 := h.lm.c3
  have c4 := h.lm.c4
  have hm : (m : Int) ≤ 480 := by omega
  have kl2 : Calls Tryz.prog 87 #[.pointer (some ⟨g, 0, none⟩), .slice (some ⟨w.heap.size, 0, none⟩) 1 1] (w.alloc (.cells #[.string ⟨#[67, 86, 79, 49]⟩, .int .i64 ep, .int .i64 nx, .int .i64 pl, .slice a m c] 40)).drew fun en w' => en = .returned (.int .i64 E) ∧ Wz w w' g d mi ep nx pl se (re || E != 0) s' Q := kl w.drew ⟨rfl, rfl, rfl, rfl⟩
  clear h hb HAP kl
  go_enter Tryz.func83, Tryz.ntmps83
  go_wp2_with fail
  go_region_law (first | (go_simp; go_at_call 87; refine kl2.mono ?_; rintro en w3 ⟨rfl, Z3⟩; have HZ3 := hid Z3; clear Z3))
  all_goals
    clear kl2
    go_wp2_with fail
    go_ret
    exact ⟨rfl, HZ3.out⟩
end Go.Proofs.YtjajcbjodokfnaaGreatDoor
