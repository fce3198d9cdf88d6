import Derived.Test.YthjfgdldclhbhaaRZ
namespace Go.Proofs.Ythjfgdldclhbhaa
set_option maxRecDepth 100000
open Go.RowKit Go.Shelf
set_option linter.unusedVariables false

set_option maxHeartbeats 8000000 in
theorem wide_no (n : Int) (a1 a2 a3 : Option Addr) (n1 c1 n2 c2 n3 c3 : Nat) (w : World) (hn : n < 32 ∨ 8192 < n) :
    Calls Try.prog 5 #[.int .i64 n, .slice a1 n1 c1, .slice a2 n2 c2, .slice a3 n3 c3] w fun en w' => en = .returned (.bool true) ∧ Below w.heap.size w w' := by
  have k1 := first_ w
  go_enter Try.func5, Try.ntmps5
  go_wp2_with fail
  refine k1.mono ?_
  rintro en w1 ⟨rfl, B1⟩
  go_wp2_with fail
  refine (new_no n w1 hn).mono ?_
  rintro en w2 ⟨rfl, hw⟩
  obtain rfl := hw.symm
  clear hw
  go_wp2_with fail
  refine (rnew_no n w1 hn).mono ?_
  rintro en w3 ⟨rfl, hw⟩
  obtain rfl := hw.symm
  clear hw
  have B2 : Below w.heap.size w (w1.alloc (.cells #[.slice none 0 0] 27)) := B1.alloc B1.size _
  have B3 : Below w.heap.size w ((w1.alloc (.cells #[.slice none 0 0] 27)).alloc (.cells #[.pointer none, .pointer none, .pointer (some ⟨w1.heap.size, 0, none⟩)] 56)) := B2.alloc B2.size _
  have hp5 := heap_alloc_new (w1.alloc (.cells #[.slice none 0 0] 27)) (.cells #[.pointer none, .pointer none, .pointer (some ⟨w1.heap.size, 0, none⟩)] 56)
  rw [show (w1.alloc (.cells #[.slice none 0 0] 27)).heap.size = w1.heap.size + 1 from by simp] at hp5
  have c0 := (cell_of_row _ _ 0 _ _ (0, 0) hp5).trans rfl
  have c1' := (cell_of_row _ _ 1 _ _ (0, 0) hp5).trans rfl
  have HB3 := hid B3
  clear B1 B2 B3 k1 hp5
  go_wp2_with fail
  generalize w1.heap.size + 1 = p at *
  generalize w1.heap.size = k at *
  generalize World.alloc _ _ = w5 at *
  go_region_held (fun wx => wx.cell? ⟨p, 0, none⟩ = some (.pointer none) ∧ wx.cell? ⟨p, 1, none⟩ = some (.pointer none)) (go_keep) (fail)
  have BD : Below w.heap.size w w5.drew := ⟨HB3.out.os, HB3.out.tape, HB3.out.output, HB3.out.size, HB3.out.block⟩
  have c0' : w5.drew.cell? ⟨p, 0, none⟩ = some (.pointer none) := c0
  have HB4 := hid BD
  clear c0 c1' HB3 BD
  generalize w5.drew = w6 at *
  go_wp2_with fail
  go_ret
  exact ⟨rfl, HB4.out⟩
theorem wide_py {w w1 w2 w3 : World} {d e m : Nat} (B1 : Below w.heap.size w w1) (D : Dev w2 d (st0 m) (fun b => w1.heap.size ≤ b ∧ b < w2.heap.size)) (B2 : Below w1.heap.size w1 w2) (R : Rd w3 e (st0 m) (fun b => w2.heap.size ≤ b ∧ b < w3.heap.size)) (B3 : Below w2.heap.size w2 w3) :
    Py w ((w3.alloc (.cells #[.slice none 0 0] 27)).alloc (.cells #[.pointer (some ⟨d, 0, none⟩), .pointer (some ⟨e, 0, none⟩), .pointer (some ⟨w3.heap.size, 0, none⟩)] 56)) (w3.heap.size + 1) d e w3.heap.size (st0 m) (fun b => w1.heap.size ≤ b ∧ b < w2.heap.size) (fun b => w2.heap.size ≤ b ∧ b < w3.heap.size) (fun b => b = w3.heap.size) := by
  have s1 := B1.size
  have s2 := B2.size
  have s3 := B3.size
  have A4 : Below w3.heap.size w3 (w3.alloc (.cells #[.slice none 0 0] 27)) := (Below.refl _ _).alloc (Nat.le_refl _) _
  have hz4 : (w3.alloc (.cells #[.slice none 0 0] 27)).heap.size = w3.heap.size + 1 := by simp
  have hk4 : (w3.alloc (.cells #[.slice none 0 0] 27)).heap[w3.heap.size]? = some (.cells #[.slice none 0 0] 27 (0, 0)) := heap_alloc_new w3 _
  have D4 := (D.below B3).below A4
  have R4 := R.below A4
  have F4 := bel_bel (bel_bel (bel_bel B1 B1.size B2) (bel_bel B1 B1.size B2).size B3) (bel_bel (bel_bel B1 B1.size B2) (bel_bel B1 B1.size B2).size B3).size A4
  generalize w3.alloc (.cells #[.slice none 0 0] 27) = w4 at *
  have A5 : Below w4.heap.size w4 (w4.alloc (.cells #[.pointer (some ⟨d, 0, none⟩), .pointer (some ⟨e, 0, none⟩), .pointer (some ⟨w3.heap.size, 0, none⟩)] 56)) := (Below.refl _ _).alloc (Nat.le_refl _) _
  have hz5 : (w4.alloc (.cells #[.pointer (some ⟨d, 0, none⟩), .pointer (some ⟨e, 0, none⟩), .pointer (some ⟨w3.heap.size, 0, none⟩)] 56)).heap.size = w4.heap.size + 1 := by simp
  have hp5 := heap_alloc_new w4 (.cells #[.pointer (some ⟨d, 0, none⟩), .pointer (some ⟨e, 0, none⟩), .pointer (some ⟨w3.heap.size, 0, none⟩)] 56)
  rw [hz4] at hp5
  have D5 := D4.below A5
  have R5 := R4.below A5
  have F5 := bel_bel F4 F4.size A5
  have hk5 := (A5.block w3.heap.size (by omega)).trans hk4
  generalize w4.alloc _ = w5 at *
  refine ⟨⟨hp5, D5, R5, fun b h1 h2 => by omega, fun b h => by omega, fun h => by omega, fun h => by omega⟩, ⟨.slice none 0 0, 0, [], ⟨hk5, ⟨rfl, .inl ⟨rfl, rfl⟩⟩, rfl, fun q hq => by simp [Value.ownBlock] at hq, by omega⟩⟩, fun b hb => ?_, fun b hb => ?_, F5⟩
  · subst hb
    exact ⟨by omega, fun h => by omega, fun h => by omega, by omega⟩
  · rcases hb with h | h | h
    · omega
    · omega
    · subst h; omega
theorem crS_le (s : St) (ks : List Bool) : (crS s ks).c ≤ s.c ∧ (crS s ks).P.length ≤ s.P.length ∧ (crS s ks).k ≤ s.k + 1 ∧ (crS s ks).n = s.n := by
  refine ⟨?_, ?_, ?_, ?_⟩ <;> simp [crS]
theorem step6x_ (w0 w : World) (p d e k : Nat) (s : St) (Q N T : Nat → Prop) (Ka : Option Addr) (Kn Kc : Nat) (ks : List Bool) (h : Py w0 w p d e k s Q N T) (hb : Bl w0 Ka Kn ks) (hn : Kn ≤ 140737488355328) (hc : s.c ≤ 100000) (hp : s.P.length ≤ 100000) (hk : s.k ≤ 100000) :
    Calls Try.prog 12 #[.pointer (some ⟨p, 0, none⟩), .agg #[.int .i64 6, .int .i64 0, .bool false, .slice none 0 0, .slice none 0 0, .slice Ka Kn Kc]] w fun en w' => en = .returned (.bool true) ∧ ∃ s', Pz w0 w w' p d e k s' Q N T ∧ s'.c ≤ s.c ∧ s'.P.length ≤ s.P.length ∧ s'.k ≤ s.k + 1 ∧ s'.n = s.n := by
  have ho : OpIn w0 none 0 0 [] none 0 0 [] Ka Kn Kc ks := ⟨⟨rfl, by simp, .inl rfl⟩, by omega, ⟨rfl, .inl rfl⟩, by omega, hb, hn⟩
  by_cases hk3 : Kn ≤ 65536
  · exact (step6_ w0 w p d e k s Q N T 0 false none 0 0 [] none 0 0 [] Ka Kn Kc ks h ho hc hp hk ⟨by omega, by omega, hk3⟩).mono (fun en w' ⟨a, b⟩ => ⟨a, _, b, crS_le s ks⟩)
  · exact (stepL_ w0 w p d e k s Q N T 6 0 false none 0 0 [] none 0 0 [] Ka Kn Kc ks h ho hc hp hk (fun q => hk3 q.2.2)).mono (fun en w' ⟨a, b⟩ => ⟨a, _, b, Nat.le_refl _, Nat.le_refl _, Nat.le_succ _, rfl⟩)
set_option maxHeartbeats 16000000 in
theorem wide_yes (m : Nat) (a1 a2 a3 : Option Addr) (n1 c1 n2 c2 n3 c3 : Nat) (O1 O2 : Nat → Pv) (ks : List Bool) (w : World) (hm1 : 32 ≤ m) (hm2 : m ≤ 8192) (h1 : IsPuts w a1 n1 O1) (s1 : n1 ≤ 140737488355328) (h2 : IsPuts w a2 n2 O2) (s2 : n2 ≤ 140737488355328) (h3 : Bl w a3 n3 ks) (s3 : n3 ≤ 140737488355328) :
    Calls Try.prog 5 #[.int .i64 m, .slice a1 n1 c1, .slice a2 n2 c2, .slice a3 n3 c3] w fun en w' => en = .returned (.bool true) ∧ Below w.heap.size w w' := by
  have k1 := first_ w
  have H1 := hid h1
  have H2 := hid h2
  have H3 := hid h3
  clear h1 h2 h3
  go_enter Try.func5, Try.ntmps5
  go_wp2_with fail
  refine k1.mono ?_
  rintro en w1 ⟨rfl, B1⟩
  go_wp2_with fail
  refine (new_ m w1 hm1 hm2).mono ?_
  rintro en w2 ⟨d, rfl, D2, B2⟩
  go_wp2_with fail
  refine (rnew_ m w2 hm1 hm2).mono ?_
  rintro en w3 ⟨e, rfl, R3, B3⟩
  have Y := wide_py B1 D2 B2 R3 B3
  have c0 := Y.pa.c0
  have c1' := Y.pa.c1
  have HY := hid Y
  clear k1 B1 D2 B2 R3 B3 Y
  go_wp2_with fail
  generalize w3.heap.size + 1 = p at *
  generalize w3.heap.size = k at *
  generalize World.alloc _ _ = w5 at *
  go_region_held (fun wx => wx.cell? ⟨p, 0, none⟩ = some (.pointer (some ⟨d, 0, none⟩)) ∧ wx.cell? ⟨p, 1, none⟩ = some (.pointer (some ⟨e, 0, none⟩))) (go_keep) (fail)
  have BD : Below w5.heap.size w5 w5.drew := ⟨rfl, rfl, rfl, Nat.le_refl _, fun _ _ => rfl⟩
  have HY6 := hid (HY.out.below BD)
  clear c0 c1' BD HY
  generalize w5.drew = w6 at *
  have c0 := HY6.out.pa.c0
  generalize (fun b => w1.heap.size ≤ b ∧ b < w2.heap.size) = Q at *
  generalize (fun b => w2.heap.size ≤ b ∧ b < k) = N at *
  generalize (fun b => b = k) = T at *
  go_wp2_with fail
  clear c0
  have k2 := writes_ w w6 p d e k (st0 m) Q N T a1 n1 c1 O1 HY6.out H1.out s1 (by show 0 ≤ 1000; omega) (by show 0 ≤ 1000; omega) (by show 0 ≤ 1000; omega)
  refine k2.mono ?_
  rintro en w7 ⟨rfl, s_a, ⟨Q_a, N_a, T_a, y_a, -, -⟩, ca, pa, ka, na⟩
  have c_a : s_a.c ≤ 120 := by have q : (st0 m).c = 0 := rfl; omega
  have p_a : s_a.P.length ≤ 60 := by have q : (st0 m).P.length = 0 := rfl; omega
  have k_a : s_a.k = 0 := ka
  have n_a : s_a.n = m := na
  clear k2 ca pa ka na HY6
  have k3 := step4_ w w7 p d e k s_a Q_a N_a T_a 0 false none 0 0 [] none 0 0 [] none 0 0 [] y_a (opIn_nil w) (by omega) (by omega) (by omega) ⟨by omega, by omega, by omega⟩
  have HLE := flS_le s_a
  obtain ⟨s_b, HS⟩ : ∃ x, Hid (flS s_a = x) := ⟨_, rfl⟩
  rw [HS.out] at k3 HLE
  have c_b : s_b.c ≤ 121 := by omega
  have p_b : s_b.P.length ≤ 60 := by omega
  have k_b : s_b.k ≤ 0 := by omega
  clear HS HLE
  go_wp2_with fail
  refine k3.mono ?_
  rintro en w8 ⟨rfl, Q_b, N_b, T_b, y_b, -, -⟩
  clear k3 y_a
  have k2 := writes_ w w8 p d e k s_b Q_b N_b T_b a2 n2 c2 O2 y_b H2.out s2 (by omega) (by omega) (by omega)
  go_wp2_with fail
  refine k2.mono ?_
  rintro en w9 ⟨rfl, s_c, ⟨Q_c, N_c, T_c, y_c, -, -⟩, ca, pa, ka, na⟩
  have c_c : s_c.c ≤ 241 := by omega
  have p_c : s_c.P.length ≤ 120 := by omega
  have k_c : s_c.k ≤ 0 := by omega
  clear k2 ca pa ka na y_b
  have k3 := step8_ w w9 p d e k s_c Q_c N_c T_c 0 false none 0 0 [] none 0 0 [] none 0 0 [] y_c (opIn_nil w) (by omega) (by omega) (by omega) ⟨by omega, by omega, by omega⟩
  go_wp2_with fail
  refine k3.mono ?_
  rintro en w10 ⟨rfl, Q_d, N_d, T_d, y_d, -, -⟩
  clear k3 y_c
  have k3 := step6x_ w w10 p d e k s_c Q_d N_d T_d a3 n3 c3 ks y_d H3.out s3 (by omega) (by omega) (by omega)
  go_wp2_with fail
  refine k3.mono ?_
  rintro en w11 ⟨rfl, s_e, ⟨Q_e, N_e, T_e, y_e, -, -⟩, ca, pa, ka, na⟩
  have c_e : s_e.c ≤ 241 := by omega
  have p_e : s_e.P.length ≤ 120 := by omega
  have k_e : s_e.k ≤ 1 := by omega
  clear k3 ca pa ka na y_d
  have k3 := step9_ w w11 p d e k s_e Q_e N_e T_e 0 false none 0 0 [] none 0 0 [] none 0 0 [] y_e (opIn_nil w) (by omega) (by omega) (by omega) ⟨by omega, by omega, by omega⟩
  go_wp2_with fail
  refine k3.mono ?_
  rintro en w12 ⟨rfl, Q_f, N_f, T_f, y_f, -, -⟩
  clear k3 y_e
  have k3 := step10_ w w12 p d e k s_e Q_f N_f T_f 0 false none 0 0 [] none 0 0 [] none 0 0 [] y_f (opIn_nil w) (by omega) (by omega) (by omega) ⟨by omega, by omega, by omega⟩
  go_wp2_with fail
  refine k3.mono ?_
  rintro en w13 ⟨rfl, Q_g, N_g, T_g, y_g, -, -⟩
  clear k3 y_f
  have k3 := step13_ w w13 p d e k s_e Q_g N_g T_g 0 false none 0 0 [] none 0 0 [] none 0 0 [] y_g (opIn_nil w) (by omega) (by omega) (by omega) ⟨by omega, by omega, by omega⟩
  go_wp2_with fail
  refine k3.mono ?_
  rintro en w14 ⟨rfl, Q_h, N_h, T_h, y_h, -, -⟩
  clear k3 y_g
  have hm1' : (0 : Int) ≤ (m : Int) - 1 := by omega
  have k3 := step1_ w w14 p d e k s_e Q_h N_h T_h ((m : Int) - 1) false none 0 0 [] none 0 0 [] none 0 0 [] y_h (opIn_nil w) (by omega) (by omega) (by omega) ⟨by omega, by omega, by omega⟩
  have HLE := rdS_le s_e ((m : Int) - 1)
  obtain ⟨s_i, HS⟩ : ∃ x, Hid (rdS s_e ((m : Int) - 1) = x) := ⟨_, rfl⟩
  rw [HS.out] at k3 HLE
  have c_i : s_i.c ≤ 242 := by omega
  have p_i : s_i.P.length ≤ 120 := by omega
  have k_i : s_i.k ≤ 1 := by omega
  clear HS HLE
  go_wp2_with fail
  refine k3.mono ?_
  rintro en w15 ⟨rfl, Q_i, N_i, T_i, y_i, -, -⟩
  clear k3 y_h
  have k3 := step1_ w w15 p d e k s_i Q_i N_i T_i (m : Int) false none 0 0 [] none 0 0 [] none 0 0 [] y_i (opIn_nil w) (by omega) (by omega) (by omega) ⟨by omega, by omega, by omega⟩
  have HLE := rdS_le s_i (m : Int)
  obtain ⟨s_j, HS⟩ : ∃ x, Hid (rdS s_i (m : Int) = x) := ⟨_, rfl⟩
  rw [HS.out] at k3 HLE
  have c_j : s_j.c ≤ 243 := by omega
  have p_j : s_j.P.length ≤ 120 := by omega
  have k_j : s_j.k ≤ 1 := by omega
  clear HS HLE
  go_wp2_with fail
  refine k3.mono ?_
  rintro en w16 ⟨rfl, Q_j, N_j, T_j, y_j, -, -⟩
  clear k3 y_i
  have B := y_j.bl
  go_wp2_with fail
  go_ret
  exact ⟨rfl, B⟩
theorem diskWide_ (n : Int) (a1 a2 a3 : Option Addr) (n1 c1 n2 c2 n3 c3 : Nat) (O1 O2 : Nat → Pv) (ks : List Bool) (w : World) (h1 : IsPuts w a1 n1 O1) (s1 : n1 ≤ 140737488355328) (h2 : IsPuts w a2 n2 O2) (s2 : n2 ≤ 140737488355328) (h3 : Bl w a3 n3 ks) (s3 : n3 ≤ 140737488355328) :
    Calls Try.prog 5 #[.int .i64 n, .slice a1 n1 c1, .slice a2 n2 c2, .slice a3 n3 c3] w fun en w' => en = .returned (.bool true) ∧ Below w.heap.size w w' := by
  by_cases hn : n < 32 ∨ 8192 < n
  · exact wide_no n a1 a2 a3 n1 c1 n2 c2 n3 c3 w hn
  · obtain ⟨m, rfl⟩ : ∃ m : Nat, n = m := ⟨n.toNat, by omega⟩
    exact wide_yes m a1 a2 a3 n1 c1 n2 c2 n3 c3 O1 O2 ks w (by omega) (by omega) h1 s1 h2 s2 h3 s3
end Go.Proofs.Ythjfgdldclhbhaa
