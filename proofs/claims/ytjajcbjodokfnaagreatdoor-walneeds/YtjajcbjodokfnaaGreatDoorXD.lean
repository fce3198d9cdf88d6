import Derived.Test.YtjajcbjodokfnaaGreatDoorXC
namespace Go.Proofs.YtjajcbjodokfnaaGreatDoor
set_option maxRecDepth 100000
open Go.RowKit Go.Shelf
set_option linter.unusedVariables false
set_option linter.unusedSimpArgs false

set_option maxHeartbeats 8000000 in
/-- A transaction of several sectors is laid. -/
theorem wtx_n (g d mi ep nx pl : Nat) (se re : Bool) (s : St) (Q : Nat → Prop) (a : Option Addr) (m c : Nat) (tx : List Int) (w : World) (h : Wq w g d mi ep nx pl se re s Q) (hb : Bs w a m tx) (hqb : ∀ ad, a = some ad → 0 < m → ¬ Q ad.block ∧ ad.block ≠ g) (hmc : m ≤ c) (hcm : c ≤ maxLen) (h1 : 480 < m) (h2 : m ≤ 4800) (he : mq ep) (hn : mq nx) (hp : pl + pcN m < roo s.n) (hsc : s.c ≤ 40000) (hP : s.P.length ≤ 40000) :
    Calls Tryz.prog 83 #[.pointer (some ⟨g, 0, none⟩), .slice a m c] w fun en w' => en = .returned (.int .i64 (apR s s.n ep nx pl tx).1) ∧ Wz w w' g d mi ep nx pl se (re || (apR s s.n ep nx pl tx).1 != 0) (apR s s.n ep nx pl tx).2 Q := by
  have hN := h.dv.n
  have hR : roo s.n ≤ 4095 := by unfold roo; omega
  have hl := hb.1
  have HAP : Hid (apR s s.n ep nx pl tx = two s (pw s.n ep nx pl tx (pcN m)) [(sct s.n ep (pl + pcN m), ps ⟨t3, ep, nx, (pl + pcN m : Nat), edb tx⟩)]) := by show _ = _; unfold apR; rw [if_neg (by omega), hl]
  have kp : ∀ wx, Drawn w wx → Calls Tryz.prog 88 #[.int .i64 ep, .int .i64 nx, .int .i64 pl, .slice a m c] wx fun en w' => ∃ bb c', en = .returned (.slice bb (pcN m) c') ∧ Below w.heap.size w w' ∧ Calls Tryz.prog 87 #[.pointer (some ⟨g, 0, none⟩), .slice bb (pcN m) c'] w' fun en w'' => en = .returned (.int .i64 (wfl s (pw s.n ep nx pl tx (pcN m))).1) ∧ Wz w w'' g d mi ep nx pl se (re || (wfl s (pw s.n ep nx pl tx (pcN m))).1 != 0) (wfl s (pw s.n ep nx pl tx (pcN m))).2 Q := fun wx hx => by
    refine (pieces_ ep nx pl a m c tx wx (hb.below hx.below) (by omega) hmc hcm he hn (by omega)).mono ?_
    rintro en w' ⟨bb, c', xs, rfl, k1, k2, k3, k4, k5, k6, k7, k8⟩
    have B2 := bel_bel hx.below hx.below.size k8
    have hs : w.heap.size = wx.heap.size := by rw [hx.heap]
    refine ⟨bb, c', rfl, B2, ?_⟩
    have := wlayL_ g d mi ep nx pl se re s Q bb (pcN m) c' xs w' (h.below B2) k3 k5 (fun ad ha _ q => by have := h.dv.lt _ q; have := k7 ad ha; omega) (fun y hy ad ha _ q => by
      obtain ⟨ad0, h3, h4, h5⟩ := k6 y hy ad ha
      rw [h5] at q
      exact (hqb ad0 h3 h4).1 q) (fun y hy => by
      obtain ⟨i, hi, h3⟩ := pcl_mem k4.out hy
      rw [h3, hom_t2]
      exact sct_lt' (by omega) hN.1) k1 k2 (by omega) (by omega) (by omega)
    rw [wrl_pcl k4.out] at this
    exact this.mono (fun en w'' ⟨x, y⟩ => ⟨x, Wz.first h B2 y⟩)
  have kN := fun w => pieces0_ (m : Int) w (by omega)
  simp only [Int.toNat_natCast] at kN
  have hK : pcN m ≤ 10 := by unfold pcN; omega
  have wn := wfl_n s (pw s.n ep nx pl tx (pcN m))
  have hpl : (pw s.n ep nx pl tx (pcN m)).length = pcN m := by unfold pw; simp
  rw [hpl] at wn
  have HTW : Hid (apR s s.n ep nx pl tx = if (wfl s (pw s.n ep nx pl tx (pcN m))).1 = 0 then wfl (wfl s (pw s.n ep nx pl tx (pcN m))).2 [(sct s.n ep (pl + pcN m), ps ⟨t3, ep, nx, (pl + pcN m : Nat), edb tx⟩)] else wfl s (pw s.n ep nx pl tx (pcN m))) := HAP.out
  generalize apR s s.n ep nx pl tx = r2 at *
  generalize wfl s (pw s.n ep nx pl tx (pcN m)) = r at *
  obtain ⟨E1, s1⟩ := r
  obtain ⟨E, s'⟩ := r2
  simp only at *
  obtain ⟨K, HK⟩ : ∃ K, Hid (pcN m = K) := ⟨_, rfl⟩
  rw [HK.out] at hp hK wn HTW
  simp only [HK.out] at kp kN
  have c2 := h.lm.c2
  have c3 := h.lm.c3
  have c4 := h.lm.c4
  have hm : ¬ (m : Int) ≤ 480 := by omega
  have HQ := hid h
  have HB := hid hb
  have HQB := hid hqb
  have hgl := h.lm.lt
  clear h hb HAP hpl hqb
  go_enter Tryz.func83, Tryz.ntmps83
  go_wp2_with fail
  go_region_held (fun wx => wx.cell? ⟨g, 2, none⟩ = some (.int .i64 ep) ∧ wx.cell? ⟨g, 3, none⟩ = some (.int .i64 nx) ∧ wx.cell? ⟨g, 4, none⟩ = some (.int .i64 pl)) (go_keep) (first | (go_at_call 88; refine (kp _ (by exact ⟨rfl, rfl, rfl, rfl⟩)).mono ?_; rintro en w2 ⟨bb, cb, rfl, B2, kl⟩; have y2 := (B2.cell (p := ⟨g, 2, none⟩) hgl).trans c2; have y3 := (B2.cell (p := ⟨g, 3, none⟩) hgl).trans c3; have y4 := (B2.cell (p := ⟨g, 4, none⟩) hgl).trans c4; clear B2) | (go_at_call 87; refine kl.mono ?_; rintro en w3 ⟨rfl, Z3⟩; have HZ3 := hid Z3; have z2 := Z3.q.lm.c2; have z3 := Z3.q.lm.c3; have z4 := Z3.q.lm.c4; clear Z3))
  clear kp kl y2 y3 y4
  by_cases hE : E1 = 0
  · subst hE
    rw [if_pos rfl] at HTW
    rw [show (re || (0 : Int) != 0) = re from by simp] at HZ3
    obtain ⟨P3, HP3⟩ : ∃ P3 : Nat, Hid (pl + K = P3) := ⟨_, rfl⟩
    have hP3' : P3 < roo s.n := by have := HP3.out; omega
    have hP3w : IntKind.i64.wrap ((pl : Int) + (K : Int)) = (P3 : Int) := by rw [IntKind.wrap_i64]; have := HP3.out; omega
    rw [HP3.out] at HTW
    have hs3 : s1.c ≤ 50000 ∧ s1.P.length ≤ 50000 := ⟨by omega, by omega⟩
    have ke : ∀ wx, Drawn w3 wx → Calls Tryz.prog 122 #[.slice a m c] wx fun en w' => ∃ g4, en = .returned (.slice (some ⟨g4, 0, none⟩) 10 10) ∧ Below w3.heap.size w3 w' ∧ Calls Tryz.prog 87 #[.pointer (some ⟨g, 0, none⟩), .slice (some ⟨w'.heap.size, 0, none⟩) 1 1] (w'.alloc (.cells #[.string ⟨#[67, 86, 67, 49]⟩, .int .i64 ep, .int .i64 nx, .int .i64 P3, .slice (some ⟨g4, 0, none⟩) 10 10] 40)) fun en w'' => en = .returned (.int .i64 E) ∧ Wz w w'' g d mi ep nx pl se (re || E != 0) s' Q := fun wx hx => by
      have Q3 := HZ3.out.q
      have b3 : Bs w3 a m tx := HB.out.fr HZ3.out.f (fun ad ha h0 q => by
        rcases q with q | q
        · exact (HQB.out ad ha h0).1 q
        · exact (HQB.out ad ha h0).2 q)
      refine (endOf_ a m c tx wx (Q3.tb.drawn hx) (b3.below hx.below) (by omega)).mono ?_
      rintro en w' ⟨g4, rfl, hg4, r4, B4⟩
      have B5 := bel_bel hx.below hx.below.size B4
      have hsx : w3.heap.size = wx.heap.size := by rw [hx.heap]
      refine ⟨g4, rfl, B5, ?_⟩
      have := wlay1_ g d mi ep nx pl se re s1 (Qn Q w w3) t3 ep nx P3 (some ⟨g4, 0, none⟩) 10 10 (edb tx) w' (Q3.below B5) (r4.bs12 (edb_length tx) (edb_by tx)) ⟨.inr (.inr (.inl rfl)), ⟨by have := he.1; omega, by have := he.2; omega⟩, ⟨by have := hn.1; omega, by have := hn.2; omega⟩, ⟨by omega, by omega⟩, by omega⟩ (fun ad ha _ q => by
        obtain rfl := Option.some.inj ha
        have := Q3.dv.lt _ q
        simp only at this
        omega) (by rw [hom_ne t3_t1, wn.1]; exact sct_lt' hP3' hN.1) hs3.1 hs3.2
      rw [hom_ne t3_t1, wn.1] at this
      have hE' := HTW.out
      rw [← hE'] at this
      exact this.mono (fun en w'' ⟨x, y⟩ => ⟨x, HZ3.out.trans HQ.out.dv.lt HQ.out.lm.lt HQ.out.tb.1 (Wz.first Q3 B5 y)⟩)
    clear HQ HB HQB
    have hgl3 := HZ3.out.q.lm.lt
    go_wp2_with fail
    go_region_held (fun wx => wx.cell? ⟨g, 2, none⟩ = some (.int .i64 ep) ∧ wx.cell? ⟨g, 3, none⟩ = some (.int .i64 nx) ∧ wx.cell? ⟨g, 4, none⟩ = some (.int .i64 pl)) (go_keep) (first | (go_at_call 11; refine (kN _).mono ?_; rintro en wy ⟨rfl, hw⟩; obtain rfl := hw.symm; clear hw) | (go_at_call 122; refine (ke _ (by exact ⟨rfl, rfl, rfl, rfl⟩)).mono ?_; rintro en w4 ⟨g4, rfl, B4, kl⟩; have y2 := (B4.cell (p := ⟨g, 2, none⟩) hgl3).trans z2; have y3 := (B4.cell (p := ⟨g, 3, none⟩) hgl3).trans z3; have y4 := (B4.cell (p := ⟨g, 4, none⟩) hgl3).trans z4; have hgl4 := Nat.lt_of_lt_of_le hgl3 B4.size; have u2 := ((Below.refl w4.heap.size w4).alloc (Nat.le_refl _) (.cells #[.string ⟨#[67, 86, 67, 49]⟩, .int .i64 ep, .int .i64 nx, .int .i64 P3, .slice (some ⟨g4, 0, none⟩) 10 10] 40)).cell (p := ⟨g, 2, none⟩) hgl4; rw [y2] at u2; have u3 := ((Below.refl w4.heap.size w4).alloc (Nat.le_refl _) (.cells #[.string ⟨#[67, 86, 67, 49]⟩, .int .i64 ep, .int .i64 nx, .int .i64 P3, .slice (some ⟨g4, 0, none⟩) 10 10] 40)).cell (p := ⟨g, 3, none⟩) hgl4; rw [y3] at u3; have u4 := ((Below.refl w4.heap.size w4).alloc (Nat.le_refl _) (.cells #[.string ⟨#[67, 86, 67, 49]⟩, .int .i64 ep, .int .i64 nx, .int .i64 P3, .slice (some ⟨g4, 0, none⟩) 10 10] 40)).cell (p := ⟨g, 4, none⟩) hgl4; rw [y4] at u4; clear B4) | (go_at_call 87; refine kl.mono ?_; rintro en w5 ⟨rfl, Z5⟩; have HZ5 := hid Z5; have x2 := Z5.q.lm.c2; have x3 := Z5.q.lm.c3; have x4 := Z5.q.lm.c4; clear Z5))
    clear ke kl y2 y3 y4 u2 u3 u4
    go_wp2_with fail
    go_ret
    exact ⟨rfl, HZ5.out⟩
  · have hEb : (E1 != 0) = true := by rw [bne_iff_ne]; exact hE
    rw [if_neg hE] at HTW
    obtain ⟨rfl, rfl⟩ : E = E1 ∧ s' = s1 := by simpa using HTW.out
    go_wp2_with fail
    go_ret
    exact ⟨rfl, by simpa [hEb] using HZ3.out⟩
end Go.Proofs.YtjajcbjodokfnaaGreatDoor
