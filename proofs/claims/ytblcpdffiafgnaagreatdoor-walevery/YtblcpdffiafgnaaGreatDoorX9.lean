import Derived.Test.YtblcpdffiafgnaaGreatDoorX5
namespace Go.Proofs.YtblcpdffiafgnaaGreatDoor
set_option maxRecDepth 100000
open Go.RowKit Go.Shelf
set_option linter.unusedVariables false

theorem opE_vals (s : St) : opE s = 0 ∨ opE s = 103 ∨ opE s = 104 := by
  unfold opE
  split
  · split
    · exact .inr (.inr rfl)
    · split
      · exact .inr (.inl rfl)
      · exact .inl rfl
  · exact .inr (.inr rfl)
theorem wrs_vals : ∀ (ws : List (Nat × List Int)) (s : St), (wrs s ws).1 = 0 ∨ (wrs s ws).1 = 103 ∨ (wrs s ws).1 = 104
  | [], s => .inl rfl
  | (i, z) :: r, s => by
    unfold wrs
    split
    · exact wrs_vals r _
    · exact opE_vals s
theorem wfl_vals (s : St) (ws : List (Nat × List Int)) : (wfl s ws).1 = 0 ∨ (wfl s ws).1 = 103 ∨ (wfl s ws).1 = 104 := by
  unfold wfl
  split
  · exact opE_vals _
  · exact wrs_vals ws s
theorem wfl_n (s : St) (ws : List (Nat × List Int)) : (wfl s ws).2.n = s.n ∧ (wfl s ws).2.k = s.k ∧ (wfl s ws).2.c ≤ s.c + ws.length + 1 ∧ (wfl s ws).2.P.length ≤ s.P.length + ws.length := by
  obtain ⟨h1, h2, h3, h4⟩ := wrs_n' ws s
  unfold wfl
  have o1 := opS_c (wrs s ws).2
  have o2 := opS_n (wrs s ws).2
  have o3 := opS_k (wrs s ws).2
  have o4 := opS_P (wrs s ws).2
  split
  · simp only
    split
    · exact ⟨o2.trans h1, o3.trans h2, by show (opS _).c ≤ _; omega, Nat.zero_le _⟩
    · exact ⟨o2.trans h1, o3.trans h2, by omega, by rw [o4]; exact h4⟩
  · exact ⟨h1, h2, by omega, h4⟩
set_option maxHeartbeats 4000000 in
/-- The log's own lay: a refusal ends it. -/
theorem wlayL_ (g d mi ep nx pl : Nat) (se re : Bool) (s : St) (Q : Nat → Prop) (b : Option Addr) (m c : Nat) (xs : List Sx) (w : World) (h : Wq w g d mi ep nx pl se re s Q) (hs : Sl w b m xs) (hx : Sb w xs) (hqb : ∀ ad, b = some ad → 0 < m → ¬ Q ad.block) (hqx : ∀ y ∈ xs, ∀ ad, y.a = some ad → 0 < y.n → ¬ Q ad.block) (hh : ∀ y ∈ xs, hom s.n y.x < s.n) (hm : m ≤ c) (hcm : c ≤ maxLen) (hm5 : m ≤ 5000) (hsc : s.c ≤ 50000) (hP : s.P.length ≤ 50000) :
    Calls Tryz.prog 51 #[.pointer (some ⟨g, 0, none⟩), .slice b m c] w fun en w' => en = .returned (.int .i64 (wfl s (wrl s.n xs)).1) ∧ Wz w w' g d mi ep nx pl se (re || (wfl s (wrl s.n xs)).1 != 0) (wfl s (wrl s.n xs)).2 Q := by
  have c0 := h.lm.c0
  have kl := wlay_ d s Q b m c xs w h.dv h.tb h.n0 hs hx hqb hqx hh hm hcm hm5 hsc hP
  have hv := wfl_vals s (wrl s.n xs)
  generalize wfl s (wrl s.n xs) = r at *
  obtain ⟨E, s'⟩ := r
  simp only at *
  have HQ := hid h
  clear h hs hx hqb hqx hh
  go_enter Tryz.func51, Tryz.ntmps51
  go_wp2_with fail
  refine kl.mono ?_
  rintro en w1 ⟨rfl, D1, F1⟩
  have Q1 := HQ.out.devn D1 F1
  have Z1 : Wz w w1 g d mi ep nx pl se re s' Q := ⟨Q1, F1.weak (fun b _ q => .inl q)⟩
  have c6 := Q1.lm.c6
  have f6 := Q1.lm.fz 6
  have Z2 := Z1.turn (Q1.lm.s6 true) (grown_set (grown_refl w1 (some g)) 6 (.bool true))
  have HZ1 := hid Z1
  have HZ2 := hid Z2
  clear kl D1 F1 Q1 Z1 Z2 c0
  rcases hv with rfl | rfl | rfl
  · go_wp2_with fail
    go_ret
    exact ⟨rfl, by simpa using HZ1.out⟩
  · go_wp2_with fail
    go_ret
    exact ⟨rfl, by simpa using HZ2.out⟩
  · go_wp2_with fail
    go_ret
    exact ⟨rfl, by simpa using HZ2.out⟩
/-- A list of one sector that was just made. -/
theorem Sl.one (w : World) (T : ByteArray) (e q p : Int) (a : Option Addr) (n c : Nat) (l : List Int) : Sl (w.alloc (.cells #[.string T, .int .i64 e, .int .i64 q, .int .i64 p, .slice a n c] 31)) (some ⟨w.heap.size, 0, none⟩) 1 [⟨⟨T, e, q, p, l⟩, a, n, c⟩] := by
  refine ⟨rfl, .inr ⟨_, _, rfl, fun i u hu => ?_⟩⟩
  have m0 := Sm.new w T e q p (.slice a n c)
  rw [Nat.zero_add]
  match i, hu with
  | 0, hu => simp [scs] at hu; subst hu; exact m0.c0
  | 1, hu => simp [scs] at hu; subst hu; exact m0.c1
  | 2, hu => simp [scs] at hu; subst hu; exact m0.c2
  | 3, hu => simp [scs] at hu; subst hu; exact m0.c3
  | 4, hu => simp [scs] at hu; subst hu; exact m0.c4
  | i + 5, hu => simp [scs] at hu
theorem Sb.one {w : World} {T : ByteArray} {e q p : Int} {a : Option Addr} {n c : Nat} {l : List Int} (hb : Bs w a n l) (hM : MayN T e q p n) : Sb w [⟨⟨T, e, q, p, l⟩, a, n, c⟩] := fun y hy => by
  obtain rfl := List.mem_singleton.1 hy
  exact ⟨hb, hM⟩
/-- One sector, in a list that was just made. -/
theorem wlay1_ (g d mi ep nx pl : Nat) (se re : Bool) (s : St) (Q : Nat → Prop) (T : ByteArray) (e q p : Int) (a : Option Addr) (n c : Nat) (l : List Int) (w : World) (h : Wq w g d mi ep nx pl se re s Q) (hb : Bs w a n l) (hM : MayN T e q p n) (hqx : ∀ ad, a = some ad → 0 < n → ¬ Q ad.block) (hh : hom s.n ⟨T, e, q, p, l⟩ < s.n) (hsc : s.c ≤ 50000) (hP : s.P.length ≤ 50000) :
    Calls Tryz.prog 51 #[.pointer (some ⟨g, 0, none⟩), .slice (some ⟨w.heap.size, 0, none⟩) 1 1] (w.alloc (.cells #[.string T, .int .i64 e, .int .i64 q, .int .i64 p, .slice a n c] 31)) fun en w' => en = .returned (.int .i64 (wfl s [(hom s.n ⟨T, e, q, p, l⟩, ps ⟨T, e, q, p, l⟩)]).1) ∧ Wz w w' g d mi ep nx pl se (re || (wfl s [(hom s.n ⟨T, e, q, p, l⟩, ps ⟨T, e, q, p, l⟩)]).1 != 0) (wfl s [(hom s.n ⟨T, e, q, p, l⟩, ps ⟨T, e, q, p, l⟩)]).2 Q := by
  have B0 := snew w T e q p (.slice a n c)
  have := wlayL_ g d mi ep nx pl se re s Q (some ⟨w.heap.size, 0, none⟩) 1 1 [⟨⟨T, e, q, p, l⟩, a, n, c⟩] _ (h.below B0) (Sl.one w T e q p a n c l) (Sb.one (hb.below B0) hM) (fun ad ha _ hq => by
    obtain rfl := Option.some.inj ha
    have := h.dv.lt _ hq
    simp only at this
    omega) (fun y hy => by
    obtain rfl := List.mem_singleton.1 hy
    exact hqx) (fun y hy => by
    obtain rfl := List.mem_singleton.1 hy
    exact hh) (Nat.le_refl _) (by unfold maxLen; omega) (by omega) hsc hP
  exact this.mono (fun en w' ⟨x, y⟩ => ⟨x, Wz.first h B0 y⟩)
set_option maxHeartbeats 4000000 in
theorem wsafe_e (g d mi ep nx pl : Nat) (se re : Bool) (s : St) (Q : Nat → Prop) (w : World) (h : Wq w g d mi ep nx pl se re s Q) (he : edd mi re s = true) :
    Calls Tryz.prog 28 #[.pointer (some ⟨g, 0, none⟩)] w fun en w' => en = .returned (.int .i64 115) ∧ Drawn w w' := by
  have ke := wended_ h
  rw [he] at ke
  clear h he
  go_enter Tryz.func28, Tryz.ntmps28
  go_wp2_with fail
  refine ke.mono ?_
  rintro en w1 ⟨rfl, d1⟩
  have HD := hid d1
  clear ke d1
  go_wp2_with fail
  go_ret
  exact ⟨rfl, HD.out⟩
theorem wsafe_s (g d mi ep nx pl : Nat) (re : Bool) (s : St) (Q : Nat → Prop) (w : World) (h : Wq w g d mi ep nx pl true re s Q) (he : edd mi re s = false) :
    Calls Tryz.prog 28 #[.pointer (some ⟨g, 0, none⟩)] w fun en w' => en = .returned (.int .i64 0) ∧ Drawn w w' := by
  have ke := wended_ h
  rw [he] at ke
  have HL := hid h.lm
  clear h he
  go_enter Tryz.func28, Tryz.ntmps28
  go_wp2_with fail
  refine ke.mono ?_
  rintro en w1 ⟨rfl, d1⟩
  have HD := hid d1
  have c5 := (HL.out.below d1.below).c5
  clear ke d1 HL
  go_wp2_with fail
  go_ret
  exact ⟨rfl, HD.out⟩
set_option maxHeartbeats 4000000 in
theorem wsafe_f (g d mi ep nx pl : Nat) (re : Bool) (s : St) (Q : Nat → Prop) (w : World) (h : Wq w g d mi ep nx pl false re s Q) (he : edd mi re s = false) (hsc : s.c ≤ 50000) (hP : s.P.length ≤ 50000) :
    Calls Tryz.prog 28 #[.pointer (some ⟨g, 0, none⟩)] w fun en w' => en = .returned (.int .i64 (opE s)) ∧ Wz w w' g d mi ep nx pl (opE s == 0) (re || opE s != 0) (flS s) Q := by
  have ke := wended_ h
  rw [he] at ke
  have HQ := hid h
  have HW : Hid (wfl s (wrl s.n []) = (opE s, flS s)) := by show _ = _; unfold wfl wrl; simp [wrs, flS]
  have kl : ∀ wx, Drawn w wx → Calls Tryz.prog 51 #[.pointer (some ⟨g, 0, none⟩), .slice none 0 0] wx fun en w' => en = .returned (.int .i64 (opE s)) ∧ Wz w w' g d mi ep nx pl false (re || opE s != 0) (flS s) Q := fun wx hx => by
    have := wlayL_ g d mi ep nx pl false re s Q none 0 0 [] wx (HQ.out.below hx.below) ⟨rfl, .inl rfl⟩ (fun y hy => by cases hy) (fun ad ha => by cases ha) (fun y hy => by cases hy) (fun y hy => by cases hy) (Nat.le_refl _) (by unfold maxLen; omega) (by omega) hsc hP
    rw [HW.out] at this
    exact this.mono (fun en w' ⟨x, y⟩ => ⟨x, Wz.first HQ.out hx.below y⟩)
  obtain ⟨E, HE⟩ : ∃ E, Hid (opE s = E) := ⟨_, rfl⟩
  simp only [HE.out] at kl
  rw [HE.out]
  clear h he
  go_enter Tryz.func28, Tryz.ntmps28
  go_wp2_with fail
  refine ke.mono ?_
  rintro en w1 ⟨rfl, d1⟩
  have c5 := (HQ.out.lm.below d1.below).c5
  have kl1 := kl w1 d1
  clear ke d1 kl
  go_wp2_with fail
  refine kl1.mono ?_
  rintro en w2 ⟨rfl, Z2⟩
  have f5 := Z2.q.lm.fz 5
  have c5 := Z2.q.lm.c5
  have HZ := hid (Z2.turn (Z2.q.lm.s5 (E == 0)) (grown_set (grown_refl w2 (some g)) 5 (.bool (E == 0))))
  clear Z2 kl1
  go_wp2_with fail
  go_ret
  exact ⟨rfl, HZ.out⟩
end Go.Proofs.YtblcpdffiafgnaaGreatDoor
namespace Go.Proofs.YtblcpdffiafgnaaGreatDoor
set_option maxRecDepth 100000
open Go.RowKit Go.Shelf
set_option linter.unusedVariables false
attribute [local go_sem] Oper.semAt_some

/-- What a round must keep of the two boxes that Chunk reads. -/
def Kp2 (B1 B2 : Nat) (W W' : World) : Prop := W'.heap[B1]? = W.heap[B1]? ∧ W'.heap[B2]? = W.heap[B2]?
theorem Kp2.trans {B1 B2 : Nat} {A B C : World} (h : Kp2 B1 B2 A B) (k : Kp2 B1 B2 B C) : Kp2 B1 B2 A C := ⟨k.1.trans h.1, k.2.trans h.2⟩
/-- The i-th piece of n bytes. -/
def ckv (b off n i : Nat) : Value := .slice (some ⟨b, off + 480 * i, none⟩) (min 480 (n - 480 * i)) (min 480 (n - 480 * i))
set_option maxHeartbeats 2000000 in
theorem chunk1_in (m : Nat) (hm : 1 ≤ m) (lp B1 B2 b off n c : Nat) (hn : n ≤ 4000000) (hnc : n ≤ c) (hcm : c ≤ maxLen) (J Jx : List Nat → World → Prop) (hA : ∀ pre W W', J pre W → W.grownBy W' none → J pre W')
    (hY : ∀ pre x W, J pre W → pre.length < pcN n → YieldAt Fence.wide (m - 1) Tryz.prog lp #[ckv b off n x] W fun e W' => (e = .returned (.bool true) ∧ J (pre ++ [x]) W' ∧ Kp2 B1 B2 W W') ∨ (e = .returned (.bool false) ∧ Jx (pre ++ [x]) W'))
    (W : World) (c1 : W.cell? ⟨B1, 0, none⟩ = some (.slice (some ⟨b, off, none⟩) n c)) (c2 : W.cell? ⟨B2, 0, none⟩ = some (.int .i64 480)) (h0 : J [] W) :
    CallsIn Fence.wide m Tryz.prog 100 #[.func (.yield lp) #[] #[], .pointer (some ⟨B1, 0, none⟩), .pointer (some ⟨B2, 0, none⟩)] W fun e W' => (∃ v, e = .returned v) ∧
      ((∃ ys, ys = List.range (pcN n) ∧ J ys W') ∨ (∃ pre, True ∧ Jx pre W')) := by
  unfold maxLen at hcm
  obtain ⟨K, HK⟩ : ∃ K, Hid (pcN n = K) := ⟨_, rfl⟩
  have hlt : ∀ i, i < K → 480 * i < n := fun i hi => pcN_lt (by rw [HK.out]; exact hi)
  have hge : n ≤ 480 * K := pcN_ge (by rw [HK.out]; exact Nat.le_refl _)
  rw [HK.out] at hY ⊢
  have hK : K ≤ 8334 := by have := HK.out; unfold pcN at this; omega
  have hmx : Tryz.prog.follows .mixedOrders = true := by kernel_rfl
  refine callsIn_of_wp Tryz.func100 rfl trivial ?_ rfl
  simp only [Tryz.ntmps100, List.size_toArray, List.length_cons, List.length_nil, Nat.reduceAdd, Nat.reduceSub, Array.replicate_succ, Array.replicate_zero, List.push_toArray, List.append_toArray, List.nil_append, List.cons_append]
  gi_wp2
  gi_loopw [4, 5] (fun i _ wr => ∃ k : Nat, k ≤ K ∧ i = .int .i64 ((480 * k : Nat) : Int) ∧ J (List.range k) wr ∧ Kp2 B1 B2 W wr) (fun i _ _ => (480 * K + 480 - intOf i).toNat)
  case atStart => exact ⟨0, Nat.zero_le _, rfl, h0, ⟨rfl, rfl⟩⟩
  case round =>
    obtain ⟨k, hk, rfl, hJs, hnx⟩ := hrel
    have d1 := (World.cell?_of_block (w := W) (a := ⟨B1, 0, none⟩) hnx.1).trans c1
    have d2 := (World.cell?_of_block (w := W) (a := ⟨B2, 0, none⟩) hnx.2).trans c2
    obtain ⟨M, HM⟩ : ∃ M, Hid (480 * k = M) := ⟨_, rfl⟩
    rw [HM.out]
    have hM := HM.out
    by_cases hl : k < K
    · have hMn : (M : Int) < (n : Int) := by have := hlt k hl; omega
      have hMc : ¬ c = M := by omega
      have i1 : (M : Int) ≤ (n : Int) := by omega
      have i2 : (n : Int) ≤ (c : Int) := by omega
      obtain ⟨L, HL⟩ : ∃ L : Nat, Hid (min 480 (n - M) = L) := ⟨_, rfl⟩
      have hL := HL.out
      have e3 : min (480 : Int) ((n - M : Nat) : Int) = (L : Int) := by omega
      obtain ⟨T, HT⟩ : ∃ T : Nat, Hid (M + L = T) := ⟨_, rfl⟩
      have hT := HT.out
      have e4 : (M : Int) + (L : Int) = (T : Int) := by omega
      have i3 : (M : Int) ≤ (T : Int) := by omega
      have i4 : (T : Int) ≤ (c : Int) := by omega
      have i5 : ((T : Int) - (M : Int)).toNat = L := by omega
      have i6 : T - M = L := by omega
      have hTM : ¬ T = M := by omega
      clear hM hlt hge hL hT
      have hJd := hA _ _ wr.drew hJs ⟨rfl, rfl, rfl, Nat.le_refl _, fun _ _ _ => rfl⟩
      have HB1 : Hid (Kp2 B1 B2 W wr.drew) := hnx
      gi_wp2
      gi_region
      obtain ⟨fn, tmps, assign, body, hy, hR⟩ := hY _ k wr.drew hJd (by rw [List.length_range]; exact hl)
      unfold ckv at hy
      rw [HM.out, HL.out] at hy
      clear hJd
      gi_wp2
      refine hR.mono ?_
      rintro e W3 (⟨rfl, hJ3, hk3⟩ | ⟨rfl, hJx3⟩)
      · have z2 := (World.cell?_of_block (w := wr.drew) (a := ⟨B2, 0, none⟩) hk3.2).trans d2
        obtain ⟨M2, HM2⟩ : ∃ M2 : Nat, Hid (480 * (k + 1) = M2) := ⟨_, rfl⟩
        have hM2 : (M : Int) + 480 = (M2 : Int) := by have := HM.out; have := HM2.out; omega
        have hM3 : M2 ≤ 480 * K := by have := HM2.out; omega
        clear hR hy d1 d2 e3 e4 i1 i2 i3 i4 i5 i6
        gi_wp2
        go_roundw
        case rel => exact ⟨k + 1, by omega, by rw [HM2.out], by rw [List.range_succ]; exact hJ3, Kp2.trans HB1.out hk3⟩
        case measure => simp [intOf]; omega
      · clear hR hy
        gi_wp2
        refine bodyPost_ret (results_none rfl _ _ _) rfl ?_
        exact ⟨⟨_, rfl⟩, .inr ⟨_, trivial, hJx3⟩⟩
    · obtain rfl : k = K := by omega
      have hMn : ¬ (M : Int) < (n : Int) := by omega
      clear hlt hge hM
      gi_wp2
      go_end0
      exact ⟨⟨_, rfl⟩, .inl hJs⟩
set_option maxHeartbeats 1000000 in
theorem chunk1_nil (m : Nat) (lp B1 B2 : Nat) (a : Option Addr) (c : Nat) (J : List Nat → World → Prop) (W : World) (c1 : W.cell? ⟨B1, 0, none⟩ = some (.slice a 0 c)) (h0 : J [] W) :
    CallsIn Fence.wide m Tryz.prog 100 #[.func (.yield lp) #[] #[], .pointer (some ⟨B1, 0, none⟩), .pointer (some ⟨B2, 0, none⟩)] W fun e W' => (∃ v, e = .returned v) ∧ J [] W' := by
  refine callsIn_of_wp Tryz.func100 rfl trivial ?_ rfl
  simp only [Tryz.ntmps100, List.size_toArray, List.length_cons, List.length_nil, Nat.reduceAdd, Nat.reduceSub, Array.replicate_succ, Array.replicate_zero, List.push_toArray, List.append_toArray, List.nil_append, List.cons_append]
  gi_wp2
  gi_loopw [4, 5] (fun i _ wr => i = .int .i64 0 ∧ J [] wr ∧ wr.cell? ⟨B1, 0, none⟩ = some (.slice a 0 c)) (fun _ _ _ => 0)
  case atStart => exact ⟨rfl, h0, c1⟩
  case round =>
    obtain ⟨rfl, hJs, d1⟩ := hrel
    gi_wp2
    go_end0
    exact ⟨⟨_, rfl⟩, hJs⟩
theorem chunk_ (a : Option Addr) (n c : Nat) (w : World) :
    Calls Tryz.prog 72 #[.slice a n c, .int .i64 480] w fun e w' => e = .returned (.func (.func 100) #[] #[.pointer (some ⟨w.heap.size, 0, none⟩), .pointer (some ⟨w.heap.size + 1, 0, none⟩)]) ∧ w' = (w.alloc (.cells #[.slice a n c] 27)).alloc (.cells #[.int .i64 480] 3) := by
  have hmf : ∀ fn first cap w, (Instr.makeFunc fn first cap).run Tryz.prog w = .ok (.func fn first cap) w := fun _ _ _ _ => rfl
  have b2 := (Boxed.new (w.alloc (.cells #[.slice a n c] 27)) 3 (.int .i64 480)).cell
  rw [World.size_alloc] at b2
  go_enter Tryz.func72, Tryz.ntmps72
  go_wp2_with fail
  go_ret
  exact ⟨rfl, rfl⟩
end Go.Proofs.YtblcpdffiafgnaaGreatDoor
namespace Go.Proofs.YtblcpdffiafgnaaGreatDoor
set_option maxRecDepth 100000
open Go.RowKit Go.Shelf
set_option linter.unusedVariables false
attribute [local go_sem] Oper.semAt_some

theorem infoS : (Tryz.prog.info? 31).map (fun i => (i.zero, i.size, i.bytes)) = some (some (.agg #[.string ⟨#[]⟩, .int .i64 0, .int .i64 0, .int .i64 0, .slice none 0 0]), 5, 64) := by kernel_rfl
theorem own_slice {w : World} {B n sz : Nat} {t : TypeId} {v : Value} {xs : List Value} (h : w.ownsRow B t sz v n xs) : ∃ a c, v = .slice a n c ∧ n ≤ c ∧ c ≤ maxLen ∧ (∀ ad, a = some ad → ad = ⟨ad.block, 0, none⟩ ∧ B ≤ ad.block) := by
  obtain ⟨h1, h2⟩ := h
  rcases h2 with ⟨rfl, h⟩ | ⟨g, cap, cur, rfl, hb, hg, hnc, hcm, hs, ht⟩
  · subst h
    exact ⟨none, 0, rfl, Nat.le_refl _, by unfold maxLen; omega, fun ad ha => by cases ha⟩
  · exact ⟨some ⟨g, 0, none⟩, cap, rfl, hnc, hcm, fun ad ha => by obtain rfl := Option.some.inj ha; exact ⟨rfl, hb⟩⟩
/-- The j-th sector of a list of pieces, of the piece x. -/
def pent (b off e q p n : Nat) (tx : List Int) (j x : Nat) : Sx := ⟨⟨t2, e, q, (p + j : Nat), pce tx x⟩, some ⟨b, off + 480 * x, none⟩, min 480 (n - 480 * x), min 480 (n - 480 * x)⟩
def plst (b off e q p n : Nat) (tx : List Int) (pre : List Nat) : List Sx := pre.zipIdx.map fun y => pent b off e q p n tx y.2 y.1
theorem plst_snoc (b off e q p n : Nat) (tx : List Int) (pre : List Nat) (x : Nat) : plst b off e q p n tx (pre ++ [x]) = plst b off e q p n tx pre ++ [pent b off e q p n tx pre.length x] := by
  unfold plst
  rw [List.zipIdx_append, List.map_append]
  simp
theorem plst_length (b off e q p n : Nat) (tx : List Int) (pre : List Nat) : (plst b off e q p n tx pre).length = pre.length := by unfold plst; simp
theorem plst_range (b off e q p n : Nat) (tx : List Int) (K : Nat) : plst b off e q p n tx (List.range K) = (List.range K).map fun i => pent b off e q p n tx i i := by
  induction K with
  | zero => rfl
  | succ K ih => rw [List.range_succ, plst_snoc, ih, List.map_append, List.length_range]; rfl
/-- The sectors that the pieces of a string are. -/
def pcl (e q p : Nat) (tx : List Int) (k : Nat) : List Sec := (List.range k).map fun i => ⟨t2, e, q, (p + i : Nat), pce tx i⟩
theorem plst_sec (b off e q p n : Nat) (tx : List Int) (K : Nat) : (plst b off e q p n tx (List.range K)).map (·.x) = pcl e q p tx K := by
  rw [plst_range, List.map_map]
  rfl
/-- While the pieces are gathered. -/
structure Pi (w : World) (S B0 B1 B2 B3 e q p : Nat) (L : List Sx) (W : World) : Prop where
  b0 : Boxed W B0 3 (.int .i64 e)
  b1 : Boxed W B1 3 (.int .i64 q)
  b2 : Boxed W B2 3 (.int .i64 p)
  out : ∃ v, Boxed W B3 91 v ∧ W.ownsRow S 31 5 v L.length (scs L)
  bel : Below w.heap.size w W
  sz : S ≤ W.heap.size
theorem own_non {X Y : World} {B S n sz : Nat} {t : TypeId} {v : Value} {xs : List Value} {row : Option Nat} (h : X.ownsRow S t sz v n xs) (hg : X.grownBy Y row) (hr : ∀ r, row = some r → B ≤ r ∧ ∃ o : Obj, X.heap[r]? = some o ∧ o.isCells = false) : Y.ownsRow S t sz v n xs :=
  own_at' h (fun g e => by
    obtain ⟨cur, hc⟩ := own_ty h e
    refine hg.block g (Array.getElem?_eq_some_iff.1 hc).1 (fun q => ?_)
    obtain ⟨_, o, ho, hoc⟩ := hr g q.symm
    rw [hc] at ho
    cases ho
    cases hoc)
theorem boxed_non {X Y : World} {B b : Nat} {t : TypeId} {v : Value} {row : Option Nat} (h : Boxed X b t v) (hg : X.grownBy Y row) (hr : ∀ r, row = some r → B ≤ r ∧ ∃ o : Obj, X.heap[r]? = some o ∧ o.isCells = false) : Boxed Y b t v :=
  h.kept hg (fun q => by
    obtain ⟨_, o, ho, hoc⟩ := hr b q.symm
    rw [show X.heap[b]? = _ from h] at ho
    cases ho
    cases hoc)
theorem Pi.non {w X Y : World} {B S B0 B1 B2 B3 e q p : Nat} {L : List Sx} {row : Option Nat} (h : Pi w S B0 B1 B2 B3 e q p L X) (hB : w.heap.size ≤ B) (hg : X.grownBy Y row) (hr : ∀ r, row = some r → B ≤ r ∧ ∃ o : Obj, X.heap[r]? = some o ∧ o.isCells = false) : Pi w S B0 B1 B2 B3 e q p L Y := by
  obtain ⟨v, o1, o2⟩ := h.out
  exact ⟨boxed_non h.b0 hg hr, boxed_non h.b1 hg hr, boxed_non h.b2 hg hr, ⟨v, boxed_non o1 hg hr, own_non o2 hg hr⟩, h.bel.grown hg h.bel.size (fun k e => Nat.le_trans hB (hr k e).1), Nat.le_trans h.sz hg.size⟩
set_option maxHeartbeats 4000000 in
theorem pieces_some (e q p b off n c : Nat) (tx : List Int) (w : World) (hb : Bs w (some ⟨b, off, none⟩) n tx) (h0 : 0 < n) (hn : n ≤ 2000000) (hnc : n ≤ c) (hcm : c ≤ maxLen) (he : mq e) (hq : mq q) (hp : p ≤ 10000) :
    Calls Tryz.prog 52 #[.int .i64 e, .int .i64 q, .int .i64 p, .slice (some ⟨b, off, none⟩) n c] w fun en w' => ∃ v, en = .returned v ∧ w'.ownsRow w.heap.size 31 5 v (pcN n) (scs (plst b off e q p n tx (List.range (pcN n)))) ∧ Below w.heap.size w w' := by
  have hmx : Tryz.prog.follows .mixedOrders = true := by kernel_rfl
  have hK5 : pcN n ≤ 4200 := by unfold pcN; omega
  refine (callsIn_wide (n := 9)).1 ?_
  refine callsIn_of_wp_marks Tryz.func52 rfl trivial ?_ rfl
  simp only [Tryz.ntmps52, List.size_toArray, List.length_cons, List.length_nil, Nat.reduceAdd, Nat.reduceSub, Array.replicate_succ, Array.replicate_zero, List.push_toArray, List.append_toArray, List.nil_append, List.cons_append]
  gi_wp2_with (refine ⟨trivial, ?_⟩; gi_at_call 72; refine (callsIn_wide.2 (chunk_ _ _ _ _)).mono ?_; rintro e0 w2 ⟨rfl, hw2⟩)
  clear hw2
  obtain ⟨W2, HW2⟩ : ∃ W2, Hid ((((((w.alloc (.cells #[.int .i64 e] 3)).alloc (.cells #[.int .i64 q] 3)).alloc (.cells #[.int .i64 p] 3)).alloc (.cells #[.slice none 0 0] 91)).alloc (.cells #[.slice (some ⟨b, off, none⟩) n c] 27)).alloc (.cells #[.int .i64 480] 3) = W2) := ⟨_, rfl⟩
  have sz2 : W2.heap.size = w.heap.size + 1 + 1 + 1 + 1 + 1 + 1 := by rw [← HW2.out]; simp
  have bel2 : Below w.heap.size w W2 := by
    rw [← HW2.out]
    exact ((((((Below.refl _ _).alloc (Nat.le_refl _) _).alloc (by simp) _).alloc (by simp; omega) _).alloc (by simp; omega) _).alloc (by simp; omega) _).alloc (by simp; omega) _
  have b0 : Boxed W2 w.heap.size 3 (.int .i64 e) := by
    rw [← HW2.out]
    exact (((((Boxed.new w 3 (.int .i64 e)).alloc _).alloc _).alloc _).alloc _).alloc _
  have b1 : Boxed W2 (w.heap.size + 1) 3 (.int .i64 q) := by
    rw [← HW2.out]
    have := ((((Boxed.new (w.alloc (.cells #[.int .i64 e] 3)) 3 (.int .i64 q)).alloc (.cells #[.int .i64 p] 3)).alloc (.cells #[.slice none 0 0] 91)).alloc (.cells #[.slice (some ⟨b, off, none⟩) n c] 27)).alloc (.cells #[.int .i64 480] 3)
    simpa using this
  have b2 : Boxed W2 (w.heap.size + 1 + 1) 3 (.int .i64 p) := by
    rw [← HW2.out]
    have := (((Boxed.new ((w.alloc (.cells #[.int .i64 e] 3)).alloc (.cells #[.int .i64 q] 3)) 3 (.int .i64 p)).alloc (.cells #[.slice none 0 0] 91)).alloc (.cells #[.slice (some ⟨b, off, none⟩) n c] 27)).alloc (.cells #[.int .i64 480] 3)
    simpa using this
  have b3 : Boxed W2 (w.heap.size + 1 + 1 + 1) 91 (.slice none 0 0) := by
    rw [← HW2.out]
    have := ((Boxed.new (((w.alloc (.cells #[.int .i64 e] 3)).alloc (.cells #[.int .i64 q] 3)).alloc (.cells #[.int .i64 p] 3)) 91 (.slice none 0 0)).alloc (.cells #[.slice (some ⟨b, off, none⟩) n c] 27)).alloc (.cells #[.int .i64 480] 3)
    simpa using this
  have b4 : Boxed W2 (w.heap.size + 1 + 1 + 1 + 1) 27 (.slice (some ⟨b, off, none⟩) n c) := by
    rw [← HW2.out]
    have := (Boxed.new ((((w.alloc (.cells #[.int .i64 e] 3)).alloc (.cells #[.int .i64 q] 3)).alloc (.cells #[.int .i64 p] 3)).alloc (.cells #[.slice none 0 0] 91)) 27 (.slice (some ⟨b, off, none⟩) n c)).alloc (.cells #[.int .i64 480] 3)
    simpa using this
  have b5 : Boxed W2 (w.heap.size + 1 + 1 + 1 + 1 + 1) 3 (.int .i64 480) := by
    rw [← HW2.out]
    have := Boxed.new (((((w.alloc (.cells #[.int .i64 e] 3)).alloc (.cells #[.int .i64 q] 3)).alloc (.cells #[.int .i64 p] 3)).alloc (.cells #[.slice none 0 0] 91)).alloc (.cells #[.slice (some ⟨b, off, none⟩) n c] 27)) 3 (.int .i64 480)
    simpa using this
  rw [HW2.out]
  clear HW2
  generalize g5 : w.heap.size + 1 + 1 + 1 + 1 + 1 = B5 at *
  generalize g4 : w.heap.size + 1 + 1 + 1 + 1 = B4 at *
  generalize g3 : w.heap.size + 1 + 1 + 1 = B3 at *
  generalize g2 : w.heap.size + 1 + 1 = B2 at *
  generalize g1 : w.heap.size + 1 = B1 at *
  obtain ⟨B0, HB0⟩ : ∃ B0, Hid (w.heap.size = B0) := ⟨_, rfl⟩
  have hB0 := HB0.out
  rw [hB0] at b0 ⊢
  have hB3 : B3 < W2.heap.size := by omega
  have hB03 : B0 < B3 ∧ B1 < B3 ∧ B2 < B3 := by omega
  have P2 : Pi w W2.heap.size B0 B1 B2 B3 e q p [] W2 := ⟨b0, b1, b2, ⟨_, b3, World.ownsRow_nil _ _ _ _⟩, bel2, Nat.le_refl _⟩
  have c4 := b4.cell
  have c5 := b5.cell
  have hB45 : B4 < W2.heap.size ∧ B5 < W2.heap.size ∧ B3 < B4 ∧ B3 < B5 := by omega
  have hseq : SeqStopsK Fence.wide 8 Tryz.prog 100 #[.pointer (some ⟨B4, 0, none⟩), .pointer (some ⟨B5, 0, none⟩)] (fun x : Nat => #[ckv b off n x]) (Kp2 B4 B5) (fun ys => ys = List.range (pcN n)) (fun _ => True) (pcN n) W2 := fun lp J Jx W hW hA _ hY hJ0 =>
    chunk1_in 8 (by omega) lp B4 B5 b off n c (by omega) hnc hcm J Jx (fun pre X Y hj hg => hA pre X Y none hj hg (fun r e => by cases e)) hY W ((hW.cell (p := ⟨B4, 0, none⟩) hB45.1).trans c4) ((hW.cell (p := ⟨B5, 0, none⟩) hB45.2.1).trans c5) hJ0
  have hs2 := bel2.size
  clear b0 b1 b2 b3 b4 b5 c4 c5 g1 g2 g3 g4 g5 sz2
  refine with_act (fun A hA => ?_)
  refine wpIn_rangeFunc_ownH rfl (by omega) (gf := 100) (lb := #[.pointer (some ⟨B4, 0, none⟩), .pointer (some ⟨B5, 0, none⟩)]) (by rw [hA]; rfl) trivial (enters_of Tryz.func100 (by kernel_rfl) rfl) hseq Kp2.trans
    (fun W l o o' hl ho _ _ => ⟨World.putObj_heap_other (by omega), World.putObj_heap_other (by omega)⟩) (Below.refl _ _) (fun _ => rfl)
    (fun pre W => Pi w W2.heap.size B0 B1 B2 B3 e q p (plst b off e q p n tx pre) W)
    (fun c pre W => False)
    (fun pre X Y row hs hg hr => hs.non bel2.size hg hr)
    (fun c pre X Y row hs hg hr => hs)
    P2
    (fun x a' W => a' = { tmps := (A.tmps.setIfInBounds 13 (ckv b off n x)).setIfInBounds 10 (ckv b off n x), defers := [] })
    (fun x a' _ X Y row hs hg hr => hs)
    ?assign ?body ?done ?stop
  case assign =>
    subst hA
    rintro lp pre x W K hI hK
    gi_wp2
    refine hK _ _ (KeepsFrom.refl _ _) ⟨rfl, rfl⟩ hI ?_
    simp only [List.setIfInBounds_toArray, List.set_cons_zero, List.set_cons_succ]
  case body =>
    subst hA
    rintro lp pre x a' W hlp _ hI ha hlt'
    simp only [List.setIfInBounds_toArray, List.set_cons_zero, List.set_cons_succ, ckv] at ha
    subst ha
    obtain ⟨b0, b1, b2, ⟨v, b3, ho⟩, bel, hsz⟩ := hI
    have hpl := plst_length b off e q p n tx pre
    have HSN := hid (plst_snoc b off e q p n tx pre x)
    rw [hpl] at ho
    obtain ⟨av, cv, rfl, hvc, hvm, hva⟩ := own_slice ho
    generalize plst b off e q p n tx pre = L at *
    obtain ⟨m, Hm⟩ : ∃ m, Hid (pre.length = m) := ⟨_, rfl⟩
    rw [Hm.out] at ho hvc hlt' HSN hpl b3
    obtain ⟨i, hi, hz0, hz1, hz2⟩ := info_parts infoS
    have c0 := b0.cell
    have c1 := b1.cell
    have c2 := b2.cell
    have c3 := b3.cell
    obtain ⟨pj, Hpj⟩ : ∃ pj : Nat, Hid (p + m = pj) := ⟨_, rfl⟩
    have hpj : (p : Int) + (m : Int) = (pj : Int) := by have := Hpj.out; omega
    have hpj2 : pj ≤ 20000 := by have := Hpj.out; omega
    obtain ⟨ox, Hox⟩ : ∃ ox, Hid (off + 480 * x = ox) := ⟨_, rfl⟩
    obtain ⟨mn, Hmn⟩ : ∃ mn, Hid (min 480 (n - 480 * x) = mn) := ⟨_, rfl⟩
    have HSN2 : Hid (plst b off e q p n tx (pre ++ [x]) = L ++ [⟨⟨t2, e, q, pj, pce tx x⟩, some ⟨b, ox, none⟩, mn, mn⟩]) := by
      show _ = _
      rw [HSN.out]
      unfold pent
      rw [Hpj.out, Hox.out, Hmn.out]
    rw [Hox.out, Hmn.out]
    have ho2 : (W.alloc (.cells #[.string t2, .int .i64 e, .int .i64 q, .int .i64 pj, .slice (some ⟨b, ox, none⟩) mn mn] 31)).ownsRow W2.heap.size 31 5 (.slice av m cv) m (scs L) := own_at' ho (fun g eg => by
      obtain ⟨cur, hc⟩ := own_ty ho eg
      exact Below.heap_alloc _ _ _ (Array.getElem?_eq_some_iff.1 hc).1)
    have mn0 := Sm.new W t2 e q pj (.slice (some ⟨b, ox, none⟩) mn mn)
    have hwsz : W2.heap.size ≤ (W.alloc (.cells #[.string t2, .int .i64 e, .int .i64 q, .int .i64 pj, .slice (some ⟨b, ox, none⟩) mn mn] 31)).heap.size := by rw [World.size_alloc]; omega
    have HT2 : Hid ((⟨#[67, 86, 68, 49]⟩ : ByteArray) = t2) := rfl
    have HMN := hid mn0
    have HO2 := hid ho2
    have HWS := hid hwsz
    clear mn0 ho2 hwsz
    gi_wp2_with (gi_at_builtin; refine wpListIn_append_own _ rfl _ _ 91 rfl W2.heap.size 31 i _ 5 64 Tryz.underlying91 hi hz0 hz1 hz2 rfl (by decide) (.slice av m cv) m (scs L) rfl (by exact HO2.out) ⟨W.heap.size, 0, none⟩ 1 1 [.string t2, .int .i64 e, .int .i64 q, .int .i64 pj, .slice (some ⟨b, ox, none⟩) mn mn] rfl rfl ?c1 ?c2 (by unfold maxLen at *; omega) (by omega) (by exact HWS.out) ?_)
    case c1 =>
      intro j u hj
      rw [Addr.add_lit, Nat.zero_add]
      match j, hj with
      | 0, hj => simp at hj; subst hj; exact HMN.out.c0
      | 1, hj => simp at hj; subst hj; exact HMN.out.c1
      | 2, hj => simp at hj; subst hj; exact HMN.out.c2
      | 3, hj => simp at hj; subst hj; exact HMN.out.c3
      | 4, hj => simp at hj; subst hj; exact HMN.out.c4
      | j + 5, hj => simp at hj
    case c2 =>
      intro u hu
      simp at hu
      rcases hu with rfl | rfl | rfl | rfl | rfl <;> rfl
    intro v' w1 hown hg hv
    obtain ⟨a7, c7, rfl, _, _, _⟩ := own_slice hown
    clear hv
    have gal : W.grownBy (W.alloc (.cells #[.string t2, .int .i64 e, .int .i64 q, .int .i64 pj, .slice (some ⟨b, ox, none⟩) mn mn] 31)) none := World.grownBy_alloc W _ _
    have hnb : ∀ k, (Value.slice av m cv).ownBlock = some k → W2.heap.size ≤ k := fun k ek => (ho.lt k ek).1
    have kp : ∀ k, k < W2.heap.size → w1.heap[k]? = W.heap[k]? := fun k hk => (hg.block k (by rw [World.size_alloc]; omega) (fun ek => by have := hnb k ek.symm; omega)).trans (Below.heap_alloc _ _ _ (by omega))
    have x0 : Boxed w1 B0 3 (.int .i64 e) := (kp B0 (by omega)).trans b0
    have x1 : Boxed w1 B1 3 (.int .i64 q) := (kp B1 (by omega)).trans b1
    have x2 : Boxed w1 B2 3 (.int .i64 p) := (kp B2 (by omega)).trans b2
    have x3 : Boxed w1 B3 91 (.slice av m cv) := (kp B3 hB3).trans b3
    have y3 := x3.cell
    have f3 := x3.frozen
    have sz1 : W2.heap.size ≤ w1.heap.size := by have := hg.size; rw [World.size_alloc] at this; omega
    have HKF : Hid (KeepsFrom W2.heap.size W w1) := by
      refine (KeepsOthers.alloc W _).from _ |>.trans (KeepsOthers.of_grownBy hg (fun j o ej hj => ?_) |>.from _)
      obtain ⟨cur, hc⟩ := own_ty HO2.out ej
      have h2 : some o = some (Obj.cells cur 31 (0, 0)) := hj.symm.trans hc
      cases h2
      rfl
    have HFIN : Hid (Pi w W2.heap.size B0 B1 B2 B3 e q p (plst b off e q p n tx (pre ++ [x])) (w1.setCell ⟨B3, 0, none⟩ (.slice a7 (m + 1) c7))) := by
      show Pi _ _ _ _ _ _ _ _ _ _ _
      rw [HSN2.out]
      refine ⟨x0.other (by omega) _, x1.other (by omega) _, x2.other (by omega) _, ⟨_, x3.set _, ?_⟩, ?_, by simpa using sz1⟩
      · rw [List.length_append, hpl, scs_app]
        refine own_at' hown (fun g eg => Below.heap_setCell _ _ _ _ (fun e2 => ?_))
        have h1 := (hown.lt g eg).1
        simp only at e2
        omega
      · refine Below.setCell (bel.trans ⟨hg.os.trans gal.os, hg.tape.trans gal.tape, hg.output.trans gal.output, Nat.le_trans gal.size hg.size, fun k hk => kp k (by have := bel2.size; omega)⟩) ?_ _
        show w.heap.size ≤ B3
        omega
    have HK4 : Hid (Kp2 B4 B5 W (w1.setCell ⟨B3, 0, none⟩ (.slice a7 (m + 1) c7))) := ⟨(Below.heap_setCell _ _ _ _ (by show B4 ≠ B3; omega)).trans (kp B4 (by omega)), (Below.heap_setCell _ _ _ _ (by show B5 ≠ B3; omega)).trans (kp B5 (by omega))⟩
    have HKG := hid (HKF.out.trans ((KeepsOthers.setCell w1 ⟨B3, 0, none⟩ (.slice a7 (m + 1) c7)).from _))
    clear hg hown kp x0 x1 x2 x3 b0 b1 b2 b3 bel HKF ho c0 c1 c2 c3
    gi_wp2
    exact ⟨HKG.out, HK4.out, HFIN.out⟩
  case done =>
    subst hA
    rintro D ys W hD hys hI hK
    subst hys
    obtain ⟨b0, b1, b2, ⟨v, b3, ho⟩, bel, hsz⟩ := hI
    have c3 := b3.cell
    rw [plst_length, List.length_range] at ho
    have HO := hid ho
    have HBEL := hid bel
    clear ho b0 b1 b2 bel
    gi_wp2
    refine ⟨by simp, .inl ⟨_, _, rfl, run_takeDeferred hK, ?_⟩⟩
    have BF := HBEL.out.trans (belowK_b (w := w) (Nat.le_refl _) _ D _ (.deferred none) (by omega) hK rfl rfl)
    refine ⟨v, ?_, ⟨_, rfl, ?_, BF⟩⟩
    · simp [results, Tryz.f52, go_sem]
    · exact own_mono (own_non (B := 0) HO.out (grownBy_putObj' _ D (.deferred none)) (fun r er => by cases er; exact ⟨Nat.zero_le _, _, hK, rfl⟩)) (by have := bel2.size; omega)
  case stop =>
    rintro D c pre W hD _ hf
    exact hf.elim
end Go.Proofs.YtblcpdffiafgnaaGreatDoor
namespace Go.Proofs.YtblcpdffiafgnaaGreatDoor
set_option maxRecDepth 100000
open Go.RowKit Go.Shelf
set_option linter.unusedVariables false
attribute [local go_sem] Oper.semAt_some

set_option maxHeartbeats 4000000 in
theorem pieces_nil (e q p : Nat) (ad : Option Addr) (c : Nat) (w : World) :
    Calls Tryz.prog 52 #[.int .i64 e, .int .i64 q, .int .i64 p, .slice ad 0 c] w fun en w' => ∃ v, en = .returned v ∧ w'.ownsRow w.heap.size 31 5 v 0 [] ∧ Below w.heap.size w w' := by
  have hmx : Tryz.prog.follows .mixedOrders = true := by kernel_rfl
  refine (callsIn_wide (n := 9)).1 ?_
  refine callsIn_of_wp_marks Tryz.func52 rfl trivial ?_ rfl
  simp only [Tryz.ntmps52, List.size_toArray, List.length_cons, List.length_nil, Nat.reduceAdd, Nat.reduceSub, Array.replicate_succ, Array.replicate_zero, List.push_toArray, List.append_toArray, List.nil_append, List.cons_append]
  gi_wp2_with (refine ⟨trivial, ?_⟩; gi_at_call 72; refine (callsIn_wide.2 (chunk_ _ _ _ _)).mono ?_; rintro e0 w2 ⟨rfl, hw2⟩)
  clear hw2
  obtain ⟨W2, HW2⟩ : ∃ W2, Hid ((((((w.alloc (.cells #[.int .i64 e] 3)).alloc (.cells #[.int .i64 q] 3)).alloc (.cells #[.int .i64 p] 3)).alloc (.cells #[.slice none 0 0] 91)).alloc (.cells #[.slice ad 0 c] 27)).alloc (.cells #[.int .i64 480] 3) = W2) := ⟨_, rfl⟩
  have sz2 : W2.heap.size = w.heap.size + 1 + 1 + 1 + 1 + 1 + 1 := by rw [← HW2.out]; simp
  have bel2 : Below w.heap.size w W2 := by
    rw [← HW2.out]
    exact ((((((Below.refl _ _).alloc (Nat.le_refl _) _).alloc (by simp) _).alloc (by simp; omega) _).alloc (by simp; omega) _).alloc (by simp; omega) _).alloc (by simp; omega) _
  have b0 : Boxed W2 w.heap.size 3 (.int .i64 e) := by
    rw [← HW2.out]
    exact (((((Boxed.new w 3 (.int .i64 e)).alloc _).alloc _).alloc _).alloc _).alloc _
  have b1 : Boxed W2 (w.heap.size + 1) 3 (.int .i64 q) := by
    rw [← HW2.out]
    have := ((((Boxed.new (w.alloc (.cells #[.int .i64 e] 3)) 3 (.int .i64 q)).alloc (.cells #[.int .i64 p] 3)).alloc (.cells #[.slice none 0 0] 91)).alloc (.cells #[.slice ad 0 c] 27)).alloc (.cells #[.int .i64 480] 3)
    simpa using this
  have b2 : Boxed W2 (w.heap.size + 1 + 1) 3 (.int .i64 p) := by
    rw [← HW2.out]
    have := (((Boxed.new ((w.alloc (.cells #[.int .i64 e] 3)).alloc (.cells #[.int .i64 q] 3)) 3 (.int .i64 p)).alloc (.cells #[.slice none 0 0] 91)).alloc (.cells #[.slice ad 0 c] 27)).alloc (.cells #[.int .i64 480] 3)
    simpa using this
  have b3 : Boxed W2 (w.heap.size + 1 + 1 + 1) 91 (.slice none 0 0) := by
    rw [← HW2.out]
    have := ((Boxed.new (((w.alloc (.cells #[.int .i64 e] 3)).alloc (.cells #[.int .i64 q] 3)).alloc (.cells #[.int .i64 p] 3)) 91 (.slice none 0 0)).alloc (.cells #[.slice ad 0 c] 27)).alloc (.cells #[.int .i64 480] 3)
    simpa using this
  have b4 : Boxed W2 (w.heap.size + 1 + 1 + 1 + 1) 27 (.slice ad 0 c) := by
    rw [← HW2.out]
    have := (Boxed.new ((((w.alloc (.cells #[.int .i64 e] 3)).alloc (.cells #[.int .i64 q] 3)).alloc (.cells #[.int .i64 p] 3)).alloc (.cells #[.slice none 0 0] 91)) 27 (.slice ad 0 c)).alloc (.cells #[.int .i64 480] 3)
    simpa using this
  have b5 : Boxed W2 (w.heap.size + 1 + 1 + 1 + 1 + 1) 3 (.int .i64 480) := by
    rw [← HW2.out]
    have := Boxed.new (((((w.alloc (.cells #[.int .i64 e] 3)).alloc (.cells #[.int .i64 q] 3)).alloc (.cells #[.int .i64 p] 3)).alloc (.cells #[.slice none 0 0] 91)).alloc (.cells #[.slice ad 0 c] 27)) 3 (.int .i64 480)
    simpa using this
  rw [HW2.out]
  clear HW2
  generalize g5 : w.heap.size + 1 + 1 + 1 + 1 + 1 = B5 at *
  generalize g4 : w.heap.size + 1 + 1 + 1 + 1 = B4 at *
  generalize g3 : w.heap.size + 1 + 1 + 1 = B3 at *
  generalize g2 : w.heap.size + 1 + 1 = B2 at *
  generalize g1 : w.heap.size + 1 = B1 at *
  obtain ⟨B0, HB0⟩ : ∃ B0, Hid (w.heap.size = B0) := ⟨_, rfl⟩
  have hB0 := HB0.out
  rw [hB0] at b0 ⊢
  have hB3 : B3 < W2.heap.size := by omega
  have hB03 : B0 < B3 ∧ B1 < B3 ∧ B2 < B3 := by omega
  have P2 : Pi w W2.heap.size B0 B1 B2 B3 e q p [] W2 := ⟨b0, b1, b2, ⟨_, b3, World.ownsRow_nil _ _ _ _⟩, bel2, Nat.le_refl _⟩
  have c4 := b4.cell
  have c5 := b5.cell
  have hB45 : B4 < W2.heap.size ∧ B5 < W2.heap.size ∧ B3 < B4 ∧ B3 < B5 := by omega
  have hseq : SeqStopsK Fence.wide 8 Tryz.prog 100 #[.pointer (some ⟨B4, 0, none⟩), .pointer (some ⟨B5, 0, none⟩)] (fun x : Nat => #[ckv 0 0 0 x]) (Kp2 B4 B5) (fun ys => ys = []) (fun _ => True) 0 W2 := fun lp J Jx W hW hA _ hY hJ0 =>
    (chunk1_nil 8 lp B4 B5 ad c J W ((hW.cell (p := ⟨B4, 0, none⟩) hB45.1).trans c4) hJ0).mono fun e W' ⟨he, hj⟩ => ⟨he, .inl ⟨_, rfl, hj⟩⟩
  clear b0 b1 b2 b3 b4 b5 c4 c5 g1 g2 g3 g4 g5 sz2
  refine with_act (fun A hA => ?_)
  refine wpIn_rangeFunc_ownH rfl (by omega) (gf := 100) (lb := #[.pointer (some ⟨B4, 0, none⟩), .pointer (some ⟨B5, 0, none⟩)]) (by rw [hA]; rfl) trivial (enters_of Tryz.func100 (by kernel_rfl) rfl) hseq Kp2.trans
    (fun W l o o' hl ho _ _ => ⟨World.putObj_heap_other (by omega), World.putObj_heap_other (by omega)⟩) (Below.refl _ _) (fun _ => rfl)
    (fun pre W => Pi w W2.heap.size B0 B1 B2 B3 e q p [] W)
    (fun c pre W => False)
    (fun pre X Y row hs hg hr => hs.non bel2.size hg hr)
    (fun c pre X Y row hs hg hr => hs)
    P2
    (fun x a' W => a' = { tmps := (A.tmps.setIfInBounds 13 (ckv 0 0 0 x)).setIfInBounds 10 (ckv 0 0 0 x), defers := [] })
    (fun x a' _ X Y row hs hg hr => hs)
    ?assign ?body ?done ?stop
  case assign =>
    subst hA
    rintro lp pre x W K hI hK
    gi_wp2
    refine hK _ _ (KeepsFrom.refl _ _) ⟨rfl, rfl⟩ hI ?_
    simp only [List.setIfInBounds_toArray, List.set_cons_zero, List.set_cons_succ]
  case body =>
    rintro lp pre x a' W hlp _ hI ha hlt'
    omega
  case done =>
    subst hA
    rintro D ys W hD hys hI hK
    obtain ⟨b0, b1, b2, ⟨v, b3, ho⟩, bel, hsz⟩ := hI
    have c3 := b3.cell
    have HO := hid ho
    have HBEL := hid bel
    clear ho b0 b1 b2 bel
    gi_wp2
    refine ⟨by simp, .inl ⟨_, _, rfl, run_takeDeferred hK, ?_⟩⟩
    have BF := HBEL.out.trans (belowK_b (w := w) (Nat.le_refl _) _ D _ (.deferred none) (by omega) hK rfl rfl)
    refine ⟨v, ?_, ⟨_, rfl, ?_, BF⟩⟩
    · simp [results, Tryz.f52, go_sem]
    · exact own_mono (own_non (B := 0) HO.out (grownBy_putObj' _ D (.deferred none)) (fun r er => by cases er; exact ⟨Nat.zero_le _, _, hK, rfl⟩)) (by have := bel2.size; omega)
  case stop =>
    rintro D c pre W hD _ hf
    exact hf.elim
theorem plst_mem {b off e q p n K : Nat} {tx : List Int} {y : Sx} (h : y ∈ plst b off e q p n tx (List.range K)) : ∃ i, i < K ∧ y = pent b off e q p n tx i i := by
  rw [plst_range] at h
  obtain ⟨i, hi, rfl⟩ := List.mem_map.1 h
  exact ⟨i, by simpa using hi, rfl⟩
theorem bs_piece {w : World} {b off n : Nat} {tx : List Int} (h : Bs w (some ⟨b, off, none⟩) n tx) (i : Nat) (hi : i < pcN n) : Bs w (some ⟨b, off + 480 * i, none⟩) (min 480 (n - 480 * i)) (pce tx i) := by
  have hlt := pcN_lt hi
  have := bs_sl h (480 * i) (min 480 (n - 480 * i)) (by omega)
  have e1 : sl tx (480 * i) (min 480 (n - 480 * i)) = pce tx i := by
    unfold sl pce
    apply List.ext_getElem?
    intro j
    have hl := h.1
    simp only [List.getElem?_take, List.getElem?_drop]
    by_cases h1 : j < min 480 (n - 480 * i)
    · rw [if_pos h1, if_pos (by omega)]
    · rw [if_neg h1]
      by_cases h2 : j < 480
      · rw [if_pos h2, List.getElem?_eq_none (by omega)]
      · rw [if_neg h2]
  rw [e1] at this
  exact this
/-- The sectors of a string, as a list. -/
theorem pieces_ (e q p : Nat) (a : Option Addr) (n c : Nat) (tx : List Int) (w : World) (hb : Bs w a n tx) (hn : n ≤ 2000000) (hnc : n ≤ c) (hcm : c ≤ maxLen) (he : mq e) (hq : mq q) (hp : p + pcN n ≤ 8192) :
    Calls Tryz.prog 52 #[.int .i64 e, .int .i64 q, .int .i64 p, .slice a n c] w fun en w' => ∃ bb c' xs, en = .returned (.slice bb (pcN n) c') ∧ pcN n ≤ c' ∧ c' ≤ maxLen ∧ Sl w' bb (pcN n) xs ∧ Hid (xs.map (·.x) = pcl e q p tx (pcN n)) ∧ Sb w' xs ∧ (∀ y ∈ xs, ∀ ad, y.a = some ad → ∃ ad0, a = some ad0 ∧ 0 < n ∧ ad.block = ad0.block) ∧ (∀ ad, bb = some ad → w.heap.size ≤ ad.block) ∧ Below w.heap.size w w' := by
  by_cases h0 : n = 0
  · subst h0
    refine (pieces_nil e q p a c w).mono ?_
    rintro en w' ⟨v, rfl, o, g⟩
    obtain ⟨bb, c', rfl, h1, h2, h3⟩ := own_slice o
    exact ⟨bb, c', [], rfl, h1, h2, ⟨rfl, .inl rfl⟩, rfl, (fun y hy => by cases hy), (fun y hy => by cases hy), fun ad ha => (h3 ad ha).2, g⟩
  · obtain ⟨b, off, rfl⟩ : ∃ b off, a = some ⟨b, off, none⟩ := by
      rcases hb.2.2 with h | ⟨b, off, h, _⟩
      · exact absurd h h0
      · exact ⟨b, off, h⟩
    refine (pieces_some e q p b off n c tx w hb (by omega) hn hnc hcm he hq (by omega)).mono ?_
    rintro en w' ⟨v, rfl, o, g⟩
    obtain ⟨bb, c', rfl, h1, h2, h3⟩ := own_slice o
    refine ⟨bb, c', plst b off e q p n tx (List.range (pcN n)), rfl, h1, h2, ⟨by rw [plst_length, List.length_range], ?_⟩, plst_sec _ _ _ _ _ _ _ _, fun y hy => ?_, fun y hy ad ha => ?_, fun ad ha => (h3 ad ha).2, g⟩
    · obtain ⟨o1, o2⟩ := o
      rcases o2 with ⟨_, o2⟩ | ⟨g0, cap, cur, e0, hb0, hg0, hnc0, hcm0, hs0, ht0⟩
      · exact .inl o2
      · obtain ⟨rfl, -, rfl⟩ : bb = some ⟨g0, 0, none⟩ ∧ True ∧ c' = cap := by simpa using e0
        refine .inr ⟨g0, 0, rfl, fun i u hu => ?_⟩
        rw [Nat.zero_add, cell_of_row w' g0 i cur _ (0, 0) hg0]
        have hi : i < (scs (plst b off e q p n tx (List.range (pcN n)))).length := (List.getElem?_eq_some_iff.1 hu).1
        rw [← ht0, List.getElem?_take, if_pos (by rw [scs_length, plst_length, List.length_range] at hi; exact hi)] at hu
        simpa using hu
    · obtain ⟨i, hi, rfl⟩ := plst_mem hy
      refine ⟨(bs_piece hb i hi).below g, isT2, ⟨?_, ?_⟩, ⟨?_, ?_⟩, ⟨?_, ?_⟩, ?_⟩ <;> simp only [pent] <;> unfold mq at * <;> omega
    · obtain ⟨i, hi, rfl⟩ := plst_mem hy
      simp only [pent] at ha
      obtain rfl := Option.some.inj ha
      exact ⟨_, rfl, by omega, rfl⟩
theorem wrl_pcl {N e q p k : Nat} {tx : List Int} {xs : List Sx} (h : xs.map (·.x) = pcl e q p tx k) : wrl N xs = pw N e q p tx k := by
  have e1 : wrl N xs = (xs.map (·.x)).map (fun x => (hom N x, ps x)) := by unfold wrl; rw [List.map_map]; rfl
  rw [e1, h]
  unfold pcl pw
  rw [List.map_map]
  refine List.map_congr_left (fun i _ => ?_)
  simp only [Function.comp, hom]
  rw [if_neg t1_t2.symm]
  simp only [Int.toNat_natCast]
theorem pcl_mem {e q p k : Nat} {tx : List Int} {xs : List Sx} (h : xs.map (·.x) = pcl e q p tx k) {y : Sx} (hy : y ∈ xs) : ∃ i, i < k ∧ y.x = ⟨t2, e, q, (p + i : Nat), pce tx i⟩ := by
  have : y.x ∈ pcl e q p tx k := by rw [← h]; exact List.mem_map_of_mem hy
  unfold pcl at this
  obtain ⟨i, hi, h2⟩ := List.mem_map.1 this
  exact ⟨i, by simpa using hi, h2.symm⟩
theorem hom_t2 (N e p : Nat) (q : Int) (l : List Int) : hom N ⟨t2, e, q, p, l⟩ = sct N e p := by unfold hom; rw [if_neg t1_t2.symm]; simp only [Int.toNat_natCast]
end Go.Proofs.YtblcpdffiafgnaaGreatDoor
