import Derived.Test.YtacjhbhmhgekhaaLA
import Derived.Laws.BitsAllLaws
namespace Go.Proofs.Ytacjhbhmhgekhaa
open Go.RowKit
set_option linter.unusedVariables false
set_option maxRecDepth 100000

def fl (d : List Int) (i : Nat) (v : Int) : List Int := d.set i (bits .xor .u8 (d.getD i 0) v)
theorem fl_len (d : List Int) (i : Nat) (v : Int) : (fl d i v).length = d.length := by simp [fl]
theorem fl_okb {d : List Int} (h : Okb d) (i : Nat) (v : Int) : Okb (fl d i v) := okb_set h _ _ (xor_byte _ _)
theorem xor_u8 {z x : Int} (hz : 0 ≤ z ∧ z ≤ 255) (hx : 0 ≤ x ∧ x ≤ 255) : bits .xor .u8 z x = ((z.toNat ^^^ x.toNat : Nat) : Int) := u8_xor z x hz.1 (by omega) hx.1 (by omega)
theorem xor_swap {z x y : Int} (hz : 0 ≤ z ∧ z ≤ 255) (hx : 0 ≤ x ∧ x ≤ 255) (hy : 0 ≤ y ∧ y ≤ 255) : bits .xor .u8 (bits .xor .u8 z x) y = bits .xor .u8 (bits .xor .u8 z y) x := by
  rw [xor_u8 (xor_byte z x) hy, xor_u8 (xor_byte z y) hx, xor_u8 hz hx, xor_u8 hz hy]
  congr 1
  simp only [Int.toNat_natCast]
  rw [Nat.xor_assoc, Nat.xor_assoc, Nat.xor_comm x.toNat]
theorem xor_back {z x : Int} (hz : 0 ≤ z ∧ z ≤ 255) (hx : 0 ≤ x ∧ x ≤ 255) : bits .xor .u8 (bits .xor .u8 z x) x = z := by
  rw [xor_u8 (xor_byte z x) hx, xor_u8 hz hx]
  simp only [Int.toNat_natCast]
  rw [Nat.xor_assoc, Nat.xor_self, Nat.xor_zero]
  omega
theorem okb_get {d : List Int} (h : Okb d) {i : Nat} (hi : i < d.length) : 0 ≤ d.getD i 0 ∧ d.getD i 0 ≤ 255 := by
  rw [show d.getD i 0 = d[i] from by simp [List.getD, hi]]
  exact h _ (List.getElem_mem hi)
theorem fl_comm {d : List Int} (h : Okb d) {i k : Nat} (hi : i < d.length) (hk : k < d.length) {v w : Int} (hv : 0 ≤ v ∧ v ≤ 255) (hw : 0 ≤ w ∧ w ≤ 255) : fl (fl d i v) k w = fl (fl d k w) i v := by
  unfold fl
  by_cases e : i = k
  · subst e
    rw [List.set_set, List.set_set]
    congr 1
    rw [show (d.set i (bits .xor .u8 (d.getD i 0) v)).getD i 0 = bits .xor .u8 (d.getD i 0) v from by simp [List.getD, hi], show (d.set i (bits .xor .u8 (d.getD i 0) w)).getD i 0 = bits .xor .u8 (d.getD i 0) w from by simp [List.getD, hi]]
    exact xor_swap (okb_get h hi) hv hw
  · rw [show (d.set i (bits .xor .u8 (d.getD i 0) v)).getD k 0 = d.getD k 0 from by simp [List.getD, List.getElem?_set_ne e], show (d.set k (bits .xor .u8 (d.getD k 0) w)).getD i 0 = d.getD i 0 from by simp [List.getD, List.getElem?_set_ne (Ne.symm e)]]
    exact List.set_comm _ _ e
theorem fl_back {d : List Int} (h : Okb d) {i : Nat} (hi : i < d.length) {v : Int} (hv : 0 ≤ v ∧ v ≤ 255) : fl (fl d i v) i v = d := by
  unfold fl
  rw [List.set_set, show (d.set i (bits .xor .u8 (d.getD i 0) v)).getD i 0 = bits .xor .u8 (d.getD i 0) v from by simp [List.getD, hi], xor_back (okb_get h hi) hv]
  rw [show d.getD i 0 = d[i] from by simp [List.getD, hi]]
  exact List.set_getElem_self hi
theorem place13 (x : Int) (n : Nat) (h0 : 0 < n) (hn : n ≤ 4611686018427387904) : ∃ (r : Int) (k : Nat), x.tmod n = r ∧ -(n : Int) < r ∧ r < n ∧ k < n ∧ (r + n).tmod n = k ∧ (r + n) % n = k := by
  have h1 := Int.tmod_lt_of_pos x (show (0 : Int) < n by omega)
  have h2 := Int.lt_tmod_of_pos x (show (0 : Int) < n by omega)
  have h3 := Int.emod_nonneg (x.tmod n + n) (show (n : Int) ≠ 0 by omega)
  have h4 := Int.emod_lt_of_pos (x.tmod n + n) (show (0 : Int) < n by omega)
  refine ⟨x.tmod n, ((x.tmod n + n) % n).toNat, rfl, h2, h1, by omega, ?_, by omega⟩
  rw [Int.tmod_eq_emod_of_nonneg (by omega)]
  omega
/-- A flight in a variable. -/
def Bx (w : World) (K : Nat → Prop) (v : Nat) (n t : Int) (a : Option Addr) (m c : Nat) (d : List Int) : Prop := Fm w v n t a m c ∧ K v ∧ ∃ V, Vs w V a m c d ∧ ∀ k, V k → K k
section
variable {w0 w w' : World} {K K' : Nat → Prop} {p v : Nat} {n t : Int} {a : Option Addr} {m c : Nat} {d : List Int} {L : List Fl} {g : Int}
theorem Bx.kx (h : Bx w K v n t a m c d) (hk : Kx K w w') : Bx w' K v n t a m c d := by
  obtain ⟨h1, h2, V, h3, h4⟩ := h
  exact ⟨h1.kx hk h2, h2, V, h3.kx hk h4, h4⟩
theorem Bx.wide (h : Bx w K v n t a m c d) (hK : ∀ k, K k → K' k) : Bx w K' v n t a m c d := by
  obtain ⟨h1, h2, V, h3, h4⟩ := h
  exact ⟨h1, hK _ h2, V, h3, fun k e => hK k (h4 k e)⟩
theorem Bx.bs (h : Bx w K v n t a m c d) : Bs w a m d := by
  obtain ⟨h1, h2, V, h3, h4⟩ := h
  exact h3.bs
theorem Hk.set (h : Hk w0 w K p L g) {q i : Nat} (hq : K q) (h0 : w0.heap.size ≤ q) (x : Value) : Hk w0 (w.setCell ⟨q, i, none⟩ x) K p L g := by
  obtain ⟨F, h1, h2⟩ := h.net
  have hf : Fx (fun k => k = q) w (w.setCell ⟨q, i, none⟩ x) := (Fx.refl (fun k => k = q) w).set (g := q) rfl _
  exact ⟨⟨F, h1.fx hf (fun k e q' => (h2 k e).2 (by rw [q']; exact hq)), h2⟩, fun k e => Nat.lt_of_lt_of_le (h.kl k e) hf.size, hf.below h.bel h.bel.size fun k e => by rw [e]; exact h0⟩
/-- Take into a variable. -/
theorem takeB (h : Hk w0 w K p L g) {k : Int} (hk : i64r k) {f : Fl} {n : Nat} {E : Int} {L' : List Fl} (hf : (fnd L k).getD fl0 = f) (hn : f.d.length = n) (hE : erN L k = E) (hL : outL L k = L') :
    Calls Try.prog 23 #[.pointer (some ⟨p, 0, none⟩), .int .i64 k] w fun e w' => ∃ a c, e = .returned (.tuple #[.agg #[.int .i64 f.no, .int .i64 f.to, .slice a n c], .int .i64 E]) ∧ ∃ K', (∀ k, K k → K' k) ∧ (∀ k, K' k → k < (w'.alloc (.cells #[.int .i64 f.no, .int .i64 f.to, .slice a n c] 49)).heap.size) ∧ Bx (w'.alloc (.cells #[.int .i64 f.no, .int .i64 f.to, .slice a n c] 49)) K' w'.heap.size f.no f.to a n c f.d ∧ Hk w0 (w'.alloc (.cells #[.int .i64 f.no, .int .i64 f.to, .slice a n c] 49)) K' p L' g ∧ Kx K w (w'.alloc (.cells #[.int .i64 f.no, .int .i64 f.to, .slice a n c] 49)) := by
  refine (takeK h hk hf hn hE hL).mono ?_
  rintro e w1 ⟨a, c, V, rfl, hv, h1, hx⟩
  have hb : Below w1.heap.size w1 (w1.alloc (.cells #[.int .i64 f.no, .int .i64 f.to, .slice a n c] 49)) := (Below.refl _ _).alloc (Nat.le_refl _) _
  have h2 := h1.on hb
  refine ⟨a, c, rfl, _, fun k e => .inl (.inl e), h2.kl, ⟨Fm.new w1 _ _ _ _ _, .inr ⟨Nat.le_refl _, by simp⟩, V, hv.step fun k hk _ _ => hb.block k hk, fun k e => .inl (.inr e)⟩, h2, hx.trans fun k e => hb.block k (h1.kl k (.inl e))⟩
end
theorem fl_e {L : List Fl} {k v : Int} {i n : Nat} {f : Fl} (hf : fnd L k = some f) (hn : f.d.length = n) (hi : i < n) (hv : 1 ≤ v ∧ v ≤ 255) : flE L k i v = 0 ∧ flL L k i v = flipL L k i v := by
  have e1 : flE L k i v = 0 := by
    unfold flE
    rw [hf]
    simp only [hn]
    rw [if_neg (by omega)]
  exact ⟨e1, by unfold flL; rw [e1]; rfl⟩
set_option maxHeartbeats 8000000 in
/-- NetFlips. -/
theorem netFlips_ (a : Option Addr) (n c : Nat) (d : List Int) (at' also v u : Int) (w : World) (hd : Vs w (fun x => x < w.heap.size) a n c d) (hat : i64r at') (hal : i64r also) (hv : i64r v) (hu : i64r u) :
    Calls Try.prog 7 #[.slice a n c, .int .i64 at', .int .i64 also, .int .i64 v, .int .i64 u] w fun e w' => e = .returned (.bool true) ∧ Below w.heap.size w w' := by
  have HD := hid hd
  have hdl : d.length = n := hd.bs.1
  have hok : Okb d := hd.bs.2.1
  have HDL := hid hdl
  have HOK := hid hok
  unfold i64r at hat hal hv hu
  clear hd hdl hok
  have h7 : n = 0 ∨ (n ≠ 0 ∧ (4096 : Int) < n) ∨ (n ≠ 0 ∧ ¬ (4096 : Int) < n ∧ v < 1) ∨ (n ≠ 0 ∧ ¬ (4096 : Int) < n ∧ ¬ v < 1 ∧ 255 < v) ∨ (n ≠ 0 ∧ ¬ (4096 : Int) < n ∧ ¬ v < 1 ∧ ¬ 255 < v ∧ u < 1) ∨ (n ≠ 0 ∧ ¬ (4096 : Int) < n ∧ ¬ v < 1 ∧ ¬ 255 < v ∧ ¬ u < 1 ∧ 255 < u) ∨ (n ≠ 0 ∧ ¬ (4096 : Int) < n ∧ ¬ v < 1 ∧ ¬ 255 < v ∧ ¬ u < 1 ∧ ¬ 255 < u) := by omega
  go_enter Try.func7, Try.ntmps7
  go_wp2_with fail
  refine (known_ w).mono ?_
  rintro e w1 ⟨rfl, g1⟩
  have k1 := newK (w0 := w) (K := fun _ => False) g1 (fun _ e => e.elim)
  clear g1
  go_wp2_with fail
  refine k1.mono ?_
  rintro e w2 ⟨p, rfl, h, -⟩
  have HB := hid h.bel
  have HH := hid h
  clear k1 h
  rcases h7 with rfl | ⟨q0, q1⟩ | ⟨q0, q1, q2⟩ | ⟨q0, q1, q2, q3⟩ | ⟨q0, q1, q2, q3, q4⟩ | ⟨q0, q1, q2, q3, q4, q5⟩ | ⟨q0, q1, q2, q3, q4, q5⟩
  · go_wp2_with fail
    go_ret
    exact ⟨rfl, HB.out⟩
  · have q0b : ((n : Int) == 0) = false := by simp; omega
    clear q0
    go_wp2_with fail
    go_ret
    exact ⟨rfl, HB.out⟩
  · have q0b : ((n : Int) == 0) = false := by simp; omega
    clear q0
    go_wp2_with fail
    go_ret
    exact ⟨rfl, HB.out⟩
  · have q0b : ((n : Int) == 0) = false := by simp; omega
    clear q0
    go_wp2_with fail
    go_ret
    exact ⟨rfl, HB.out⟩
  · have q0b : ((n : Int) == 0) = false := by simp; omega
    clear q0
    go_wp2_with fail
    go_ret
    exact ⟨rfl, HB.out⟩
  · have q0b : ((n : Int) == 0) = false := by simp; omega
    clear q0
    go_wp2_with fail
    go_ret
    exact ⟨rfl, HB.out⟩
  have q0b : ((n : Int) == 0) = false := by simp; omega
  obtain ⟨ra, i, ha1, ha2, ha3, hi, ha4, ha5⟩ := place13 at' n (by omega) (by omega)
  obtain ⟨rb, k, hb1, hb2, hb3, hk, hb4, hb5⟩ := place13 also n (by omega) (by omega)
  have hni : (n : Int) ≠ 0 := by omega
  have HP : Hid (∀ k, k < w.heap.size → k ≠ p) := fun k hk e => by have := HH.out.p0.1; omega
  have HV : Hid (1 ≤ v ∧ v ≤ 255) := by show _ ∧ _; omega
  have HU : Hid (1 ≤ u ∧ u ≤ 255) := by show _ ∧ _; omega
  have HI := hid hi
  have HK := hid hk
  have HN : Hid (n ≤ 4096) := by show _ ≤ _; omega
  have HLI : Hid (i64r i) := by show _ ∧ _; omega
  have HLK : Hid (i64r k) := by show _ ∧ _; omega
  have HLV : Hid (i64r v) := hv
  have HLU : Hid (i64r u) := hu
  have k2 := sendK HH.out (to := 3) (A := 1) (G := 1) (L' := [⟨1, 3, d⟩]) (in_vs HD.out HB.out) HP.out (by have := HN.out; omega) (i64c 3 (by decide)) (by omega) rfl rfl rfl
  clear HH HB q0
  go_wp2_with fail
  refine k2.mono ?_
  rintro e w3 ⟨rfl, h, -⟩
  have k3 := sendK h (to := 4) (A := 2) (G := 2) (L' := [⟨1, 3, d⟩, ⟨2, 4, d⟩]) (in_vs HD.out h.bel) HP.out (by have := HN.out; omega) (i64c 4 (by decide)) (by omega) rfl rfl rfl
  clear k2 h
  go_wp2_with fail
  refine k3.mono ?_
  rintro e w4 ⟨rfl, h, -⟩
  have f1 := fl_e (L := [⟨1, 3, d⟩, ⟨2, 4, d⟩]) (k := 1) (v := v) (f := ⟨1, 3, d⟩) rfl HDL.out HI.out HV.out
  have k4 := flipK h (k := 1) (t := i) (x := v) (E := 0) (L' := [⟨1, 3, fl d i v⟩, ⟨2, 4, d⟩]) (i64c 1 (by decide)) HLI.out HLV.out f1.1 f1.2
  clear k3 h f1
  go_wp2_with fail
  refine k4.mono ?_
  rintro e w5 ⟨rfl, h, -⟩
  have k5 := copyK h (k := 1) (A := 3) (E := 0) (G := 3) (L' := [⟨1, 3, fl d i v⟩, ⟨2, 4, d⟩, ⟨3, 3, fl d i v⟩]) (i64c 1 (by decide)) (by omega) rfl rfl rfl rfl
  clear k4 h
  go_wp2_with fail
  refine k5.mono ?_
  rintro e w6 ⟨rfl, h, -⟩
  have f2 := fl_e (L := [⟨1, 3, fl d i v⟩, ⟨2, 4, d⟩, ⟨3, 3, fl d i v⟩]) (k := 1) (v := u) (f := ⟨1, 3, fl d i v⟩) rfl ((fl_len d i v).trans HDL.out) HK.out HU.out
  have k6 := flipK h (k := 1) (t := k) (x := u) (E := 0) (L' := [⟨1, 3, fl (fl d i v) k u⟩, ⟨2, 4, d⟩, ⟨3, 3, fl d i v⟩]) (i64c 1 (by decide)) HLK.out HLU.out f2.1 f2.2
  clear k5 h f2
  go_wp2_with fail
  refine k6.mono ?_
  rintro e w7 ⟨rfl, h, -⟩
  have f3 := fl_e (L := [⟨1, 3, fl (fl d i v) k u⟩, ⟨2, 4, d⟩, ⟨3, 3, fl d i v⟩]) (k := 2) (v := u) (f := ⟨2, 4, d⟩) rfl HDL.out HK.out HU.out
  have k7 := flipK h (k := 2) (t := k) (x := u) (E := 0) (L' := [⟨1, 3, fl (fl d i v) k u⟩, ⟨2, 4, fl d k u⟩, ⟨3, 3, fl d i v⟩]) (i64c 2 (by decide)) HLK.out HLU.out f3.1 f3.2
  clear k6 h f3
  go_wp2_with fail
  refine k7.mono ?_
  rintro e w8 ⟨rfl, h, -⟩
  have f4 := fl_e (L := [⟨1, 3, fl (fl d i v) k u⟩, ⟨2, 4, fl d k u⟩, ⟨3, 3, fl d i v⟩]) (k := 2) (v := v) (f := ⟨2, 4, fl d k u⟩) rfl ((fl_len d k u).trans HDL.out) HI.out HV.out
  have k8 := flipK h (k := 2) (t := i) (x := v) (E := 0) (L' := [⟨1, 3, fl (fl d i v) k u⟩, ⟨2, 4, fl (fl d k u) i v⟩, ⟨3, 3, fl d i v⟩]) (i64c 2 (by decide)) HLI.out HLV.out f4.1 f4.2
  clear k7 h f4
  go_wp2_with fail
  refine k8.mono ?_
  rintro e w9 ⟨rfl, h, -⟩
  have HCM : Hid (fl (fl d k u) i v = fl (fl d i v) k u) := (fl_comm HOK.out (by rw [HDL.out]; exact HI.out) (by rw [HDL.out]; exact HK.out) (by have := HV.out; omega) (by have := HU.out; omega)).symm
  rw [HCM.out] at h
  obtain ⟨d1, HD1⟩ : ∃ z, Hid (fl d i v = z) := ⟨_, rfl⟩
  rw [HD1.out] at h
  obtain ⟨d2, HD2⟩ : ∃ z, Hid (fl d1 k u = z) := ⟨_, rfl⟩
  rw [HD2.out] at h
  have HL1 : Hid (d1.length = n) := by show _ = _; rw [← HD1.out, fl_len]; exact HDL.out
  have HL2 : Hid (d2.length = n) := by show _ = _; rw [← HD2.out, fl_len]; exact HL1.out
  have k9 := takeB h (k := 1) (f := ⟨1, 3, d2⟩) (n := n) (E := 0) (L' := [⟨2, 4, d2⟩, ⟨3, 3, d1⟩]) (i64c 1 (by decide)) rfl HL2.out rfl rfl
  clear k8 h HCM
  go_wp2_with fail
  refine k9.mono ?_
  rintro e w10 ⟨a1, c1, rfl, K1, -, hkl1, b1, h, -⟩
  obtain ⟨v1, HV1⟩ : ∃ z, Hid (w10.heap.size = z) := ⟨_, rfl⟩
  obtain ⟨w11, HW11⟩ : ∃ z, Hid (w10.alloc (.cells #[.int .i64 1, .int .i64 3, .slice a1 n c1] 49) = z) := ⟨_, rfl⟩
  try simp only [] at b1 h hkl1
  rw [HW11.out] at b1 h hkl1
  rw [HV1.out] at b1
  have B1 := hid b1
  have k10 := takeB h (k := 2) (f := ⟨2, 4, d2⟩) (n := n) (E := 0) (L' := [⟨3, 3, d1⟩]) (i64c 2 (by decide)) rfl HL2.out rfl rfl
  clear k9 h b1 hkl1
  go_wp2_with fail
  rw [HW11.out, HV1.out]
  refine k10.mono ?_
  rintro e w12 ⟨a2, c2, rfl, K2, hK2, hkl2, b2, h, hx⟩
  obtain ⟨v2, HV2⟩ : ∃ z, Hid (w12.heap.size = z) := ⟨_, rfl⟩
  obtain ⟨w13, HW13⟩ : ∃ z, Hid (w12.alloc (.cells #[.int .i64 2, .int .i64 4, .slice a2 n c2] 49) = z) := ⟨_, rfl⟩
  try simp only [] at b2 h hkl2 hx
  rw [HW13.out] at b2 h hkl2 hx
  rw [HV2.out] at b2
  have B2 := hid b2
  have B1' := hid ((B1.out.kx hx).wide hK2)
  clear B1
  have B1 := B1'
  have k11 := takeB h (k := 3) (f := ⟨3, 3, d1⟩) (n := n) (E := 0) (L' := []) (i64c 3 (by decide)) rfl HL1.out rfl rfl
  clear k10 h b2 hkl2 hx hK2 HW11 HV1 B1'
  go_wp2_with fail
  rw [HW13.out, HV2.out]
  refine k11.mono ?_
  rintro e w14 ⟨a3, c3, rfl, K3, hK3, hkl3, b3, h, hx⟩
  obtain ⟨v3, HV3⟩ : ∃ z, Hid (w14.heap.size = z) := ⟨_, rfl⟩
  obtain ⟨w15, HW15⟩ : ∃ z, Hid (w14.alloc (.cells #[.int .i64 3, .int .i64 3, .slice a3 n c3] 49) = z) := ⟨_, rfl⟩
  try simp only [] at b3 h hkl3 hx
  rw [HW15.out] at b3 h hkl3 hx
  rw [HV3.out] at b3
  have B3 := hid b3
  have B1' := hid ((B1.out.kx hx).wide hK3)
  have B2' := hid ((B2.out.kx hx).wide hK3)
  clear B1 B2
  have HKL := hid hkl3
  have HH := hid h
  have k12 := refBytes a n c d w15 (in_vs HD.out h.bel).bs (by have := HN.out; omega)
  clear k11 h b3 hkl3 hx hK3 HW13 HV2
  go_wp2_with fail
  rw [HW15.out, HV3.out]
  refine k12.mono ?_
  rintro e w16 ⟨vw, rfl, o16, g16⟩
  obtain ⟨gw, cw, e16, p1, p2, p3, p4, p5⟩ := own_head o16 (by have := HI.out; omega)
  subst e16
  have hx16 : Kx K3 w15 w16 := fun k e => g16.block k (HKL.out k e)
  have B1 := hid (B1'.out.kx hx16)
  have B2 := hid (B2'.out.kx hx16)
  have B3' := hid (B3.out.kx hx16)
  clear B3
  have HGW : Hid (∀ k, K3 k → k ≠ gw) := fun k e q => by have := HKL.out k e; omega
  have HG0 : Hid (w.heap.size ≤ gw) := Nat.le_trans HH.out.bel.size p3
  have HH16 : Hid (Hk w w16 (fun k => K3 k ∨ (w15.heap.size ≤ k ∧ k < w16.heap.size)) p [] 3) := HH.out.on g16
  have HQW : Hid (w15.heap.size ≤ gw ∧ gw < w16.heap.size) := ⟨p3, p4.lt⟩
  have HHD := hid p4
  have e0 := p4.cell i (by rw [p5]; exact HI.out)
  have z0 := p4.unfrozen i
  have y3 := B3'.out.1.c2
  have hcv : IntKind.u8.wrap v = v := by rw [IntKind.wrap_u8]; have := HV.out; omega
  have hcu : IntKind.u8.wrap u = u := by rw [IntKind.wrap_u8]; have := HU.out; omega
  have HX1 : Hid (∀ x, Kx K3 w16 (w16.setCell ⟨gw, i, none⟩ x)) := fun x k e => Below.heap_setCell _ _ _ _ (HGW.out k e)
  have HHD2 := hid (p4.set i (bits .xor .u8 (d.getD i 0) v))
  have HH17 := hid (HH16.out.set (i := i) (.inr HQW.out) HG0.out (.int .u8 (bits .xor .u8 (d.getD i 0) v)))
  have B1x := hid (B1.out.kx (HX1.out (.int .u8 (bits .xor .u8 (d.getD i 0) v))))
  have B2x := hid (B2.out.kx (HX1.out (.int .u8 (bits .xor .u8 (d.getD i 0) v))))
  have B3x := hid (B3'.out.kx (HX1.out (.int .u8 (bits .xor .u8 (d.getD i 0) v))))
  have hd1 : d.set i (bits .xor .u8 (d.getD i 0) v) = d1 := HD1.out
  rw [hd1] at HHD2
  obtain ⟨z, HZ⟩ : ∃ z, Hid (d.getD i 0 = z) := ⟨_, rfl⟩
  rw [HZ.out] at e0 HHD2 HH17 B1x B2x B3x
  have y3x := B3x.out.1.c2
  obtain ⟨w17, HW17⟩ : ∃ q, Hid (w16.setCell ⟨gw, i, none⟩ (.int .u8 (bits .xor .u8 z v)) = q) := ⟨_, rfl⟩
  rw [HW17.out] at HHD2 HH17 B1x B2x B3x
  have HOK1 : Hid (Okb d1) := by rw [← HD1.out]; exact fl_okb HOK.out i v
  have HOK2 : Hid (Okb d2) := by rw [← HD2.out]; exact fl_okb HOK1.out k u
  have k13 := same_yes a3 (some ⟨gw, 0, none⟩) n c3 n cw d1 w17 B3x.out.bs (HHD2.out.all HL1.out HOK1.out) (by have := HN.out; omega) (by have := HN.out; omega)
  clear k12 o16 g16 p1 p2 p3 p4 p5 hx16 HH HH16 B1' B2' B1 B2 hd1 HX1 HKL
  go_wp2_with fail
  rw [HW17.out]
  refine k13.mono ?_
  rintro e w18 ⟨rfl, hdr⟩
  have hx18 : ∀ K : Nat → Prop, Kx K w17 w18 := fun K k e => hdr.at k
  have C1 := hid (B1x.out.kx (hx18 _))
  have C2 := hid (B2x.out.kx (hx18 _))
  have C3 := hid (B3x.out.kx (hx18 _))
  have HH18 : Hid (Hk w w18 (fun k => K3 k ∨ (w15.heap.size ≤ k ∧ k < w16.heap.size)) p [] 3) := (HH17.out.on hdr.below).less fun k e => .inl e
  have HHD3 := hid (HHD2.out.below hdr.below)
  have e1 := HHD3.out.cell k (by rw [HL1.out]; exact HK.out)
  have z1 := HHD3.out.unfrozen k
  obtain ⟨zk, HZK⟩ : ∃ z, Hid (d1.getD k 0 = z) := ⟨_, rfl⟩
  have hd2 : d1.set k (bits .xor .u8 (d1.getD k 0) u) = d2 := HD2.out
  have HHD4 := hid (HHD3.out.set k (bits .xor .u8 (d1.getD k 0) u))
  rw [hd2] at HHD4
  rw [HZK.out] at e1 HHD4
  have HX2 : Hid (∀ x, Kx K3 w18 (w18.setCell ⟨gw, k, none⟩ x)) := fun x j e => Below.heap_setCell _ _ _ _ (HGW.out j e)
  have HH19 := hid (HH18.out.set (i := k) (.inr HQW.out) HG0.out (.int .u8 (bits .xor .u8 zk u)))
  have C1x := hid (C1.out.kx (HX2.out (.int .u8 (bits .xor .u8 zk u))))
  have C2x := hid (C2.out.kx (HX2.out (.int .u8 (bits .xor .u8 zk u))))
  have C3x := hid (C3.out.kx (HX2.out (.int .u8 (bits .xor .u8 zk u))))
  have y1x := C1x.out.1.c2
  obtain ⟨w19, HW19⟩ : ∃ q, Hid (w18.setCell ⟨gw, k, none⟩ (.int .u8 (bits .xor .u8 zk u)) = q) := ⟨_, rfl⟩
  rw [HW19.out] at HHD4 HH19 C1x C2x C3x
  have k14 := same_yes a1 (some ⟨gw, 0, none⟩) n c1 n cw d2 w19 C1x.out.bs (HHD4.out.all HL2.out HOK2.out) (by have := HN.out; omega) (by have := HN.out; omega)
  clear k13 hdr hx18 B1x B2x B3x HHD2 HHD HHD3 HH17 HH18 hd2 y3x HW17 C1 C2 C3 HX2
  go_wp2_with fail
  rw [HW19.out]
  refine k14.mono ?_
  rintro e w20 ⟨rfl, hdr⟩
  have hx20 : ∀ K : Nat → Prop, Kx K w19 w20 := fun K k e => hdr.at k
  have D1 := hid (C1x.out.kx (hx20 _))
  have D2 := hid (C2x.out.kx (hx20 _))
  have D3 := hid (C3x.out.kx (hx20 _))
  have HH20 : Hid (Hk w w20 K3 p [] 3) := (HH19.out.on hdr.below).less fun k e => .inl (.inl e)
  have y1 := D1.out.1.c2
  have y2 := D2.out.1.c2
  have k15 := same_yes a1 a2 n c1 n c2 d2 w20 D1.out.bs D2.out.bs (by have := HN.out; omega) (by have := HN.out; omega)
  clear k14 hdr hx20 C1x C2x C3x HHD4 HH19 y1x HW19
  go_wp2_with fail
  refine k15.mono ?_
  rintro e w21 ⟨rfl, hdr⟩
  have hx21 : Kx K3 w20 w21 := fun k e => hdr.at k
  have E1 := hid (D1.out.kx hx21)
  have E2 := hid (D2.out.kx hx21)
  have E3 := hid (D3.out.kx hx21)
  have h : Hk w w21 K3 p [] 3 := (HH20.out.on hdr.below).less fun k e => .inl e
  have k16 := sendK h (to := 5) (A := 4) (G := 4) (L' := [⟨4, 5, d⟩]) (in_vs HD.out h.bel) HP.out (by have := HN.out; omega) (i64c 5 (by decide)) (by omega) rfl rfl rfl
  clear k15 hdr hx21 D1 D2 D3 HH20 y1 y2 h
  go_wp2_with fail
  refine k16.mono ?_
  rintro e w22 ⟨rfl, h, hx⟩
  have D1 := hid (E1.out.kx hx)
  have D2 := hid (E2.out.kx hx)
  have D3 := hid (E3.out.kx hx)
  have f5 := fl_e (L := [⟨4, 5, d⟩]) (k := 4) (v := v) (f := ⟨4, 5, d⟩) rfl HDL.out HI.out HV.out
  have k17 := flipK h (k := 4) (t := i) (x := v) (E := 0) (L' := [⟨4, 5, fl d i v⟩]) (i64c 4 (by decide)) HLI.out HLV.out f5.1 f5.2
  clear k16 h hx E1 E2 E3 f5
  go_wp2_with fail
  refine k17.mono ?_
  rintro e w23 ⟨rfl, h, hx⟩
  have E1 := hid (D1.out.kx hx)
  have E2 := hid (D2.out.kx hx)
  have E3 := hid (D3.out.kx hx)
  have f6 := fl_e (L := [⟨4, 5, fl d i v⟩]) (k := 4) (v := v) (f := ⟨4, 5, fl d i v⟩) rfl ((fl_len d i v).trans HDL.out) HI.out HV.out
  have HBK : Hid (fl (fl d i v) i v = d) := fl_back HOK.out (by rw [HDL.out]; exact HI.out) (by have := HV.out; omega)
  have k18 := flipK h (k := 4) (t := i) (x := v) (E := 0) (L' := [⟨4, 5, fl (fl d i v) i v⟩]) (i64c 4 (by decide)) HLI.out HLV.out f6.1 f6.2
  rw [HBK.out] at k18
  clear k17 h hx D1 D2 D3 f6 HBK
  go_wp2_with fail
  refine k18.mono ?_
  rintro e w24 ⟨rfl, h, hx⟩
  have D1 := hid (E1.out.kx hx)
  have D2 := hid (E2.out.kx hx)
  have D3 := hid (E3.out.kx hx)
  have k19 := takeB h (k := 4) (f := ⟨4, 5, d⟩) (n := n) (E := 0) (L' := []) (i64c 4 (by decide)) rfl HDL.out rfl rfl
  clear k18 h hx E1 E2 E3
  go_wp2_with fail
  refine k19.mono ?_
  rintro e w25 ⟨a4, c4, rfl, K4, hK4, hkl4, b4, h, hx⟩
  obtain ⟨v4, HV4⟩ : ∃ z, Hid (w25.heap.size = z) := ⟨_, rfl⟩
  obtain ⟨w26, HW26⟩ : ∃ z, Hid (w25.alloc (.cells #[.int .i64 4, .int .i64 5, .slice a4 n c4] 49) = z) := ⟨_, rfl⟩
  try simp only [] at b4 h hkl4 hx
  rw [HW26.out] at b4 h hkl4 hx
  rw [HV4.out] at b4
  have E4 := hid b4
  have E1 := hid (D1.out.kx hx)
  have E2 := hid (D2.out.kx hx)
  have E3 := hid (D3.out.kx hx)
  have HB26 := hid h.bel
  have k20 := same_yes a4 a n c4 n c d w26 b4.bs (in_vs HD.out h.bel).bs (by have := HN.out; omega) (by have := HN.out; omega)
  clear k19 h hx b4 hkl4 hK4 D1 D2 D3
  go_wp2_with fail
  rw [HW26.out, HV4.out]
  refine k20.mono ?_
  rintro e w27 ⟨rfl, hdr⟩
  have hx27 : ∀ K : Nat → Prop, Kx K w26 w27 := fun K k e => hdr.at k
  have r1 := (E1.out.kx (hx27 _)).1.c1
  have r2 := (E2.out.kx (hx27 _)).1.c1
  have r3 := (E3.out.kx (hx27 _)).1.c1
  have r4 := (E4.out.kx (hx27 _)).1.c1
  have HBZ : Hid (Below w.heap.size w w27) := bel_bel HB26.out HB26.out.size hdr.below
  have kn := num_ 0 w27
  clear k20 hdr hx27 E1 E2 E3 E4 HB26 HW26 HV4
  go_wp2_with (go_at_call 16; refine kn.mono ?_; rintro e wz ⟨rfl, hwz⟩; subst hwz)
  go_ret
  exact ⟨rfl, HBZ.out⟩
end Go.Proofs.Ytacjhbhmhgekhaa
