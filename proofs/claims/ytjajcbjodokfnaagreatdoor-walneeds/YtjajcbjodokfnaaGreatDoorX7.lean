import Derived.Test.YtjajcbjodokfnaaGreatDoorX5
namespace Go.Proofs.YtjajcbjodokfnaaGreatDoor
set_option maxRecDepth 100000
open Go.RowKit Go.Shelf
set_option linter.unusedVariables false
set_option linter.unusedSimpArgs false

theorem opE_vals (s : St) : opE s = 0 ∨ opE s = 103 ∨ opE s = 104 := by
  unfold opE
  split
  · split
    · exact .inr (.inr rfl)
    · split
      · exact .inr (.inl rfl)
      · exact .inl rfl
  · exact .inr (.inr rfl)
theorem wrs_vals : ∀ (ws : List (Nat × List Int)) (s : St), (wrs s ws).1 = 0 ∨ (wrs s ws).1 = 103 ∨ (wrs s ws).1 = 104
  | [], s => .inl rfl
  | (i, z) :: r, s => by
    unfold wrs
    split
    · exact wrs_vals r _
    · exact opE_vals s
theorem wfl_vals (s : St) (ws : List (Nat × List Int)) : (wfl s ws).1 = 0 ∨ (wfl s ws).1 = 103 ∨ (wfl s ws).1 = 104 := by
  unfold wfl
  split
  · exact opE_vals _
  · exact wrs_vals ws s
theorem wfl_n (s : St) (ws : List (Nat × List Int)) : (wfl s ws).2.n = s.n ∧ (wfl s ws).2.k = s.k ∧ (wfl s ws).2.c ≤ s.c + ws.length + 1 ∧ (wfl s ws).2.P.length ≤ s.P.length + ws.length := by
  obtain ⟨h1, h2, h3, h4⟩ := wrs_n' ws s
  unfold wfl
  have o1 := opS_c (wrs s ws).2
  have o2 := opS_n (wrs s ws).2
  have o3 := opS_k (wrs s ws).2
  have o4 := opS_P (wrs s ws).2
  split
  · simp only
    split
    · exact ⟨o2.trans h1, o3.trans h2, by show (opS _).c ≤ _; omega, Nat.zero_le _⟩
    · exact ⟨o2.trans h1, o3.trans h2, by omega, by rw [o4]; exact h4⟩
  · exact ⟨h1, h2, by omega, h4⟩
set_option maxHeartbeats 4000000 in
/-- The log's own lay: a refusal ends it. -/
theorem wlayL_ (g d mi ep nx pl : Nat) (se re : Bool) (s : St) (Q : Nat → Prop) (b : Option Addr) (m c : Nat) (xs : List Sx) (w : World) (h : Wq w g d mi ep nx pl se re s Q) (hs : Sl w b m xs) (hx : Sb w xs) (hqb : ∀ ad, b = some ad → 0 < m → ¬ Q ad.block) (hqx : ∀ y ∈ xs, ∀ ad, y.a = some ad → 0 < y.n → ¬ Q ad.block) (hh : ∀ y ∈ xs, hom s.n y.x < s.n) (hm : m ≤ c) (hcm : c ≤ maxLen) (hm5 : m ≤ 5000) (hsc : s.c ≤ 50000) (hP : s.P.length ≤ 50000) :
    Calls Tryz.prog 87 #[.pointer (some ⟨g, 0, none⟩), .slice b m c] w fun en w' => en = .returned (.int .i64 (wfl s (wrl s.n xs)).1) ∧ Wz w w' g d mi ep nx pl se (re || (wfl s (wrl s.n xs)).1 != 0) (wfl s (wrl s.n xs)).2 Q := by
  have c0 := h.lm.c0
  have kl := wlay_ d s Q b m c xs w h.dv h.tb h.n0 hs hx hqb hqx hh hm hcm hm5 hsc hP
  have hv := wfl_vals s (wrl s.n xs)
  generalize wfl s (wrl s.n xs) = r at *
  obtain ⟨E, s'⟩ := r
  simp only at *
  have HQ := hid h
  clear h hs hx hqb hqx hh
  go_enter Tryz.func87, Tryz.ntmps87
  go_wp2_with fail
  refine kl.mono ?_
  rintro en w1 ⟨rfl, D1, F1⟩
  have Q1 := HQ.out.devn D1 F1
  have Z1 : Wz w w1 g d mi ep nx pl se re s' Q := ⟨Q1, F1.weak (fun b _ q => .inl q)⟩
  have c6 := Q1.lm.c6
  have f6 := Q1.lm.fz 6
  have Z2 := Z1.turn (Q1.lm.s6 true) (grown_set (grown_refl w1 (some g)) 6 (.bool true))
  have HZ1 := hid Z1
  have HZ2 := hid Z2
  clear kl D1 F1 Q1 Z1 Z2 c0
  rcases hv with rfl | rfl | rfl
  · go_wp2_with fail
    go_ret
    exact ⟨rfl, by simpa using HZ1.out⟩
  · go_wp2_with fail
    go_ret
    exact ⟨rfl, by simpa using HZ2.out⟩
  · go_wp2_with fail
    go_ret
    exact ⟨rfl, by simpa using HZ2.out⟩
/-- A list of one sector that was just made. -/
theorem Sl.one (w : World) (T : ByteArray) (e q p : Int) (a : Option Addr) (n c : Nat) (l : List Int) : Sl (w.alloc (.cells #[.string T, .int .i64 e, .int .i64 q, .int .i64 p, .slice a n c] 40)) (some ⟨w.heap.size, 0, none⟩) 1 [⟨⟨T, e, q, p, l⟩, a, n, c⟩] := by
  refine ⟨rfl, .inr ⟨_, _, rfl, fun i u hu => ?_⟩⟩
  have m0 := Sm.new w T e q p (.slice a n c)
  rw [Nat.zero_add]
  match i, hu with
  | 0, hu => simp [scs] at hu; subst hu; exact m0.c0
  | 1, hu => simp [scs] at hu; subst hu; exact m0.c1
  | 2, hu => simp [scs] at hu; subst hu; exact m0.c2
  | 3, hu => simp [scs] at hu; subst hu; exact m0.c3
  | 4, hu => simp [scs] at hu; subst hu; exact m0.c4
  | i + 5, hu => simp [scs] at hu
theorem Sb.one {w : World} {T : ByteArray} {e q p : Int} {a : Option Addr} {n c : Nat} {l : List Int} (hb : Bs w a n l) (hM : MayN T e q p n) : Sb w [⟨⟨T, e, q, p, l⟩, a, n, c⟩] := fun y hy => by
  obtain rfl := List.mem_singleton.1 hy
  exact ⟨hb, hM⟩
/-- One sector, in a list that was just made. -/
theorem wlay1_ (g d mi ep nx pl : Nat) (se re : Bool) (s : St) (Q : Nat → Prop) (T : ByteArray) (e q p : Int) (a : Option Addr) (n c : Nat) (l : List Int) (w : World) (h : Wq w g d mi ep nx pl se re s Q) (hb : Bs w a n l) (hM : MayN T e q p n) (hqx : ∀ ad, a = some ad → 0 < n → ¬ Q ad.block) (hh : hom s.n ⟨T, e, q, p, l⟩ < s.n) (hsc : s.c ≤ 50000) (hP : s.P.length ≤ 50000) :
    Calls Tryz.prog 87 #[.pointer (some ⟨g, 0, none⟩), .slice (some ⟨w.heap.size, 0, none⟩) 1 1] (w.alloc (.cells #[.string T, .int .i64 e, .int .i64 q, .int .i64 p, .slice a n c] 40)) fun en w' => en = .returned (.int .i64 (wfl s [(hom s.n ⟨T, e, q, p, l⟩, ps ⟨T, e, q, p, l⟩)]).1) ∧ Wz w w' g d mi ep nx pl se (re || (wfl s [(hom s.n ⟨T, e, q, p, l⟩, ps ⟨T, e, q, p, l⟩)]).1 != 0) (wfl s [(hom s.n ⟨T, e, q, p, l⟩, ps ⟨T, e, q, p, l⟩)]).2 Q := by
  have B0 := snew w T e q p (.slice a n c)
  have := wlayL_ g d mi ep nx pl se re s Q (some ⟨w.heap.size, 0, none⟩) 1 1 [⟨⟨T, e, q, p, l⟩, a, n, c⟩] _ (h.below B0) (Sl.one w T e q p a n c l) (Sb.one (hb.below B0) hM) (fun ad ha _ hq => by
    obtain rfl := Option.some.inj ha
    have := h.dv.lt _ hq
    simp only at this
    omega) (fun y hy => by
    obtain rfl := List.mem_singleton.1 hy
    exact hqx) (fun y hy => by
    obtain rfl := List.mem_singleton.1 hy
    exact hh) (Nat.le_refl _) (by unfold maxLen; omega) (by omega) hsc hP
  exact this.mono (fun en w' ⟨x, y⟩ => ⟨x, Wz.first h B0 y⟩)
set_option maxHeartbeats 4000000 in
theorem wsafe_e (g d mi ep nx pl : Nat) (se re : Bool) (s : St) (Q : Nat → Prop) (w : World) (h : Wq w g d mi ep nx pl se re s Q) (he : edd mi re s = true) :
    Calls Tryz.prog 45 #[.pointer (some ⟨g, 0, none⟩)] w fun en w' => en = .returned (.int .i64 115) ∧ Drawn w w' := by
  have ke := wended_ h
  rw [he] at ke
  clear h he
  go_enter Tryz.func45, Tryz.ntmps45
  go_wp2_with fail
  refine ke.mono ?_
  rintro en w1 ⟨rfl, d1⟩
  have HD := hid d1
  clear ke d1
  go_wp2_with fail
  go_ret
  exact ⟨rfl, HD.out⟩
theorem wsafe_s (g d mi ep nx pl : Nat) (re : Bool) (s : St) (Q : Nat → Prop) (w : World) (h : Wq w g d mi ep nx pl true re s Q) (he : edd mi re s = false) :
    Calls Tryz.prog 45 #[.pointer (some ⟨g, 0, none⟩)] w fun en w' => en = .returned (.int .i64 0) ∧ Drawn w w' := by
  have ke := wended_ h
  rw [he] at ke
  have HL := hid h.lm
  clear h he
  go_enter Tryz.func45, Tryz.ntmps45
  go_wp2_with fail
  refine ke.mono ?_
  rintro en w1 ⟨rfl, d1⟩
  have HD := hid d1
  have c5 := (HL.out.below d1.below).c5
  clear ke d1 HL
  go_wp2_with fail
  go_ret
  exact ⟨rfl, HD.out⟩
set_option maxHeartbeats 4000000 in
theorem wsafe_f (g d mi ep nx pl : Nat) (re : Bool) (s : St) (Q : Nat → Prop) (w : World) (h : Wq w g d mi ep nx pl false re s Q) (he : edd mi re s = false) (hsc : s.c ≤ 50000) (hP : s.P.length ≤ 50000) :
    Calls Tryz.prog 45 #[.pointer (some ⟨g, 0, none⟩)] w fun en w' => en = .returned (.int .i64 (opE s)) ∧ Wz w w' g d mi ep nx pl (opE s == 0) (re || opE s != 0) (flS s) Q := by
  have ke := wended_ h
  rw [he] at ke
  have HQ := hid h
  have HW : Hid (wfl s (wrl s.n []) = (opE s, flS s)) := by show _ = _; unfold wfl wrl; simp [wrs, flS]
  have kl : ∀ wx, Drawn w wx → Calls Tryz.prog 87 #[.pointer (some ⟨g, 0, none⟩), .slice none 0 0] wx fun en w' => en = .returned (.int .i64 (opE s)) ∧ Wz w w' g d mi ep nx pl false (re || opE s != 0) (flS s) Q := fun wx hx => by
    have := wlayL_ g d mi ep nx pl false re s Q none 0 0 [] wx (HQ.out.below hx.below) ⟨rfl, .inl rfl⟩ (fun y hy => by cases hy) (fun ad ha => by cases ha) (fun y hy => by cases hy) (fun y hy => by cases hy) (Nat.le_refl _) (by unfold maxLen; omega) (by omega) hsc hP
    rw [HW.out] at this
    exact this.mono (fun en w' ⟨x, y⟩ => ⟨x, Wz.first HQ.out hx.below y⟩)
  obtain ⟨E, HE⟩ : ∃ E, Hid (opE s = E) := ⟨_, rfl⟩
  simp only [HE.out] at kl
  rw [HE.out]
  clear h he
  go_enter Tryz.func45, Tryz.ntmps45
  go_wp2_with fail
  refine ke.mono ?_
  rintro en w1 ⟨rfl, d1⟩
  have c5 := (HQ.out.lm.below d1.below).c5
  have kl1 := kl w1 d1
  clear ke d1 kl
  go_wp2_with fail
  refine kl1.mono ?_
  rintro en w2 ⟨rfl, Z2⟩
  have f5 := Z2.q.lm.fz 5
  have c5 := Z2.q.lm.c5
  have HZ := hid (Z2.turn (Z2.q.lm.s5 (E == 0)) (grown_set (grown_refl w2 (some g)) 5 (.bool (E == 0))))
  clear Z2 kl1
  go_wp2_with fail
  go_ret
  exact ⟨rfl, HZ.out⟩
end Go.Proofs.YtjajcbjodokfnaaGreatDoor
namespace Go.Proofs.YtjajcbjodokfnaaGreatDoor
set_option maxRecDepth 100000
open Go.RowKit Go.Shelf
set_option linter.unusedVariables false
set_option linter.unusedSimpArgs false
attribute [local go_sem] Oper.semAt_some

/-- What a round must keep of the two boxes that Chunk reads. -/
def Kp2 (B1 B2 : Nat) (W W' : World) : Prop := W'.heap[B1]? = W.heap[B1]? ∧ W'.heap[B2]? = W.heap[B2]?
theorem Kp2.trans {B1 B2 : Nat} {A B C : World} (h : Kp2 B1 B2 A B) (k : Kp2 B1 B2 B C) : Kp2 B1 B2 A C := ⟨k.1.trans h.1, k.2.trans h.2⟩
/-- The i-th piece of n bytes. -/
def ckv (b off n i : Nat) : Value := .slice (some ⟨b, off + 480 * i, none⟩) (min 480 (n - 480 * i)) (min 480 (n - 480 * i))
set_option maxHeartbeats 2000000 in
theorem chunk1_in (m : Nat) (hm : 1 ≤ m) (lp B1 B2 b off n c : Nat) (hn : n ≤ 4000000) (hnc : n ≤ c) (hcm : c ≤ maxLen) (J Jx : List Nat → World → Prop) (hA : ∀ pre W W', J pre W → W.grownBy W' none → J pre W')
    (hY : ∀ pre x W, J pre W → pre.length < pcN n → YieldAt Fence.wide (m - 1) Tryz.prog lp #[ckv b off n x] W fun e W' => (e = .returned (.bool true) ∧ J (pre ++ [x]) W' ∧ Kp2 B1 B2 W W') ∨ (e = .returned (.bool false) ∧ Jx (pre ++ [x]) W'))
    (W : World) (c1 : W.cell? ⟨B1, 0, none⟩ = some (.slice (some ⟨b, off, none⟩) n c)) (c2 : W.cell? ⟨B2, 0, none⟩ = some (.int .i64 480)) (h0 : J [] W) :
    CallsIn Fence.wide m Tryz.prog 151 #[.func (.yield lp) #[] #[], .pointer (some ⟨B1, 0, none⟩), .pointer (some ⟨B2, 0, none⟩)] W fun e W' => (∃ v, e = .returned v) ∧
      ((∃ ys, ys = List.range (pcN n) ∧ J ys W') ∨ (∃ pre, True ∧ Jx pre W')) := by
  unfold maxLen at hcm
  obtain ⟨K, HK⟩ : ∃ K, Hid (pcN n = K) := ⟨_, rfl⟩
  have hlt : ∀ i, i < K → 480 * i < n := fun i hi => pcN_lt (by rw [HK.out]; exact hi)
  have hge : n ≤ 480 * K := pcN_ge (by rw [HK.out]; exact Nat.le_refl _)
  rw [HK.out] at hY ⊢
  have hK : K ≤ 8334 := by have := HK.out; unfold pcN at this; omega
  have hmx : Tryz.prog.follows .mixedOrders = true := by kernel_rfl
  refine callsIn_of_wp Tryz.func151 rfl trivial ?_ rfl
  simp only [Tryz.ntmps151, List.size_toArray, List.length_cons, List.length_nil, Nat.reduceAdd, Nat.reduceSub, Array.replicate_succ, Array.replicate_zero, List.push_toArray, List.append_toArray, List.nil_append, List.cons_append]
  gi_wp2
  gi_loopw [4, 5] (fun i _ wr => ∃ k : Nat, k ≤ K ∧ i = .int .i64 ((480 * k : Nat) : Int) ∧ J (List.range k) wr ∧ Kp2 B1 B2 W wr) (fun i _ _ => (480 * K + 480 - intOf i).toNat)
  case atStart => exact ⟨0, Nat.zero_le _, rfl, h0, ⟨rfl, rfl⟩⟩
  case round =>
    obtain ⟨k, hk, rfl, hJs, hnx⟩ := hrel
    have d1 := (World.cell?_of_block (w := W) (a := ⟨B1, 0, none⟩) hnx.1).trans c1
    have d2 := (World.cell?_of_block (w := W) (a := ⟨B2, 0, none⟩) hnx.2).trans c2
    obtain ⟨M, HM⟩ : ∃ M, Hid (480 * k = M) := ⟨_, rfl⟩
    rw [HM.out]
    have hM := HM.out
    by_cases hl : k < K
    · have hMn : (M : Int) < (n : Int) := by have := hlt k hl; omega
      have hMc : ¬ c = M := by omega
      have i1 : (M : Int) ≤ (n : Int) := by omega
      have i2 : (n : Int) ≤ (c : Int) := by omega
      obtain ⟨L, HL⟩ : ∃ L : Nat, Hid (min 480 (n - M) = L) := ⟨_, rfl⟩
      have hL := HL.out
      have e3 : min (480 : Int) ((n - M : Nat) : Int) = (L : Int) := by omega
      obtain ⟨T, HT⟩ : ∃ T : Nat, Hid (M + L = T) := ⟨_, rfl⟩
      have hT := HT.out
      have e4 : (M : Int) + (L : Int) = (T : Int) := by omega
      have i3 : (M : Int) ≤ (T : Int) := by omega
      have i4 : (T : Int) ≤ (c : Int) := by omega
      have i5 : ((T : Int) - (M : Int)).toNat = L := by omega
      have i6 : T - M = L := by omega
      have hTM : ¬ T = M := by omega
      clear hM hlt hge hL hT
      have hJd := hA _ _ wr.drew hJs ⟨rfl, rfl, rfl, Nat.le_refl _, fun _ _ _ => rfl⟩
      have HB1 : Hid (Kp2 B1 B2 W wr.drew) := hnx
      gi_wp2
      gi_region
      obtain ⟨fn, tmps, assign, body, hy, hR⟩ := hY _ k wr.drew hJd (by rw [List.length_range]; exact hl)
      unfold ckv at hy
      rw [HM.out, HL.out] at hy
      clear hJd
      gi_wp2
      refine hR.mono ?_
      rintro e W3 (⟨rfl, hJ3, hk3⟩ | ⟨rfl, hJx3⟩)
      · have z2 := (World.cell?_of_block (w := wr.drew) (a := ⟨B2, 0, none⟩) hk3.2).trans d2
        obtain ⟨M2, HM2⟩ : ∃ M2 : Nat, Hid (480 * (k + 1) = M2) := ⟨_, rfl⟩
        have hM2 : (M : Int) + 480 = (M2 : Int) := by have := HM.out; have := HM2.out; omega
        have hM3 : M2 ≤ 480 * K := by have := HM2.out; omega
        clear hR hy d1 d2 e3 e4 i1 i2 i3 i4 i5 i6
        gi_wp2
        go_roundw
        case rel => exact ⟨k + 1, by omega, by rw [HM2.out], by rw [List.range_succ]; exact hJ3, Kp2.trans HB1.out hk3⟩
        case measure => simp [intOf]; omega
      · clear hR hy
        gi_wp2
        refine bodyPost_ret (results_none rfl _ _ _) rfl ?_
        exact ⟨⟨_, rfl⟩, .inr ⟨_, trivial, hJx3⟩⟩
    · obtain rfl : k = K := by omega
      have hMn : ¬ (M : Int) < (n : Int) := by omega
      clear hlt hge hM
      gi_wp2
      go_end0
      exact ⟨⟨_, rfl⟩, .inl hJs⟩
set_option maxHeartbeats 1000000 in
theorem chunk1_nil (m : Nat) (lp B1 B2 : Nat) (a : Option Addr) (c : Nat) (J : List Nat → World → Prop) (W : World) (c1 : W.cell? ⟨B1, 0, none⟩ = some (.slice a 0 c)) (h0 : J [] W) :
    CallsIn Fence.wide m Tryz.prog 151 #[.func (.yield lp) #[] #[], .pointer (some ⟨B1, 0, none⟩), .pointer (some ⟨B2, 0, none⟩)] W fun e W' => (∃ v, e = .returned v) ∧ J [] W' := by
  refine callsIn_of_wp Tryz.func151 rfl trivial ?_ rfl
  simp only [Tryz.ntmps151, List.size_toArray, List.length_cons, List.length_nil, Nat.reduceAdd, Nat.reduceSub, Array.replicate_succ, Array.replicate_zero, List.push_toArray, List.append_toArray, List.nil_append, List.cons_append]
  gi_wp2
  gi_loopw [4, 5] (fun i _ wr => i = .int .i64 0 ∧ J [] wr ∧ wr.cell? ⟨B1, 0, none⟩ = some (.slice a 0 c)) (fun _ _ _ => 0)
  case atStart => exact ⟨rfl, h0, c1⟩
  case round =>
    obtain ⟨rfl, hJs, d1⟩ := hrel
    gi_wp2
    go_end0
    exact ⟨⟨_, rfl⟩, hJs⟩
theorem chunk_ (a : Option Addr) (n c : Nat) (w : World) :
    Calls Tryz.prog 124 #[.slice a n c, .int .i64 480] w fun e w' => e = .returned (.func (.func 151) #[] #[.pointer (some ⟨w.heap.size, 0, none⟩), .pointer (some ⟨w.heap.size + 1, 0, none⟩)]) ∧ w' = (w.alloc (.cells #[.slice a n c] 33)).alloc (.cells #[.int .i64 480] 3) := by
  have hmf : ∀ fn first cap w, (Instr.makeFunc fn first cap).run Tryz.prog w = .ok (.func fn first cap) w := fun _ _ _ _ => rfl
  have b2 := (Boxed.new (w.alloc (.cells #[.slice a n c] 33)) 3 (.int .i64 480)).cell
  rw [World.size_alloc] at b2
  go_enter Tryz.func124, Tryz.ntmps124
  go_wp2_with fail
  go_ret
  exact ⟨rfl, rfl⟩
end Go.Proofs.YtjajcbjodokfnaaGreatDoor
