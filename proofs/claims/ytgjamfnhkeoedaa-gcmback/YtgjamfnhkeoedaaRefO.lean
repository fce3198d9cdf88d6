import Derived.Test.YtgjamfnhkeoedaaRefZ
namespace Go.Proofs.Ytgjamfnhkeoedaa
open Go.RowKit
set_option linter.unusedVariables false

/-- What Open does not look at. -/
theorem refOpen_bad (a0 a1 a2 a3 : Option Addr) (n0 c0 n1 c1 n2 c2 n3 c3 : Nat) (w : World) (h0 : n0 ≤ maxLen) (h1 : n1 ≤ maxLen) (h2 : n2 ≤ maxLen) (h3 : n3 ≤ maxLen) (hn : n0 ≠ 32 ∨ n1 ≠ 12 ∨ 65536 < n2 ∨ n3 < 16 ∨ 65552 < n3) :
    Calls Try.prog 15 #[.slice a0 n0 c0, .slice a1 n1 c1, .slice a2 n2 c2, .slice a3 n3 c3] w fun e w' => e = .returned (.tuple #[.slice none 0 0, .bool false]) ∧ w' = w := by
  unfold maxLen at h0 h1 h2 h3
  by_cases e0 : n0 = 32
  · have b0 : ((n0 : Int) != 32) = false := by simp [e0]
    by_cases e1 : n1 = 12
    · have b1 : ((n1 : Int) != 12) = false := by simp [e1]
      by_cases e2 : 65536 < n2
      · have b2 : decide ((65536 : Int) < (n2 : Int)) = true := decide_eq_true (by omega)
        clear e0 e1 e2 hn
        go_enter Try.func15, Try.ntmps15
        go_wp2_with fail
        go_ret2
        exact ⟨rfl, rfl⟩
      · have b2 : decide ((65536 : Int) < (n2 : Int)) = false := decide_eq_false (by omega)
        by_cases e3 : n3 < 16
        · have b3 : decide ((n3 : Int) - 16 < 0) = true := decide_eq_true (by omega)
          clear e0 e1 e2 e3 hn
          go_enter Try.func15, Try.ntmps15
          go_wp2_with fail
          go_ret2
          exact ⟨rfl, rfl⟩
        · have b3 : decide ((n3 : Int) - 16 < 0) = false := decide_eq_false (by omega)
          have b4 : decide ((65536 : Int) < (n3 : Int) - 16) = true := decide_eq_true (by omega)
          clear e0 e1 e2 e3 hn
          go_enter Try.func15, Try.ntmps15
          go_wp2_with fail
          go_ret2
          exact ⟨rfl, rfl⟩
    · have b1 : ((n1 : Int) != 12) = true := by simpa using fun h => e1 (by omega)
      clear e0 e1 hn
      go_enter Try.func15, Try.ntmps15
      go_wp2_with fail
      go_ret2
      exact ⟨rfl, rfl⟩
  · have b0 : ((n0 : Int) != 32) = true := by simpa using fun h => e0 (by omega)
    clear e0 hn
    go_enter Try.func15, Try.ntmps15
    go_wp2_with fail
    go_ret2
    exact ⟨rfl, rfl⟩

theorem Bs.take {w : World} {b off n m : Nat} {s : List Nat} (h : Bs w (some ⟨b, off, none⟩) m (ic s)) (hy : ∀ x ∈ s, x < 256) (hn : n ≤ m) (h0 : 0 < m) : Bs w (some ⟨b, off, none⟩) n (ic (s.take n)) := by
  have hl : s.length = m := by have := h.1; rwa [ic_length] at this
  refine ⟨by rw [ic_length, List.length_take]; omega, ic_bytes fun x hx => hy x (List.mem_of_mem_take hx), .inr ⟨b, off, rfl, fun i hi => ?_⟩⟩
  rcases h.2.2 with e | ⟨b', off', e, hc⟩
  · omega
  · simp at e
    obtain ⟨rfl, rfl⟩ := e
    rw [hc i (by omega), ic_get, ic_get]
    simp only [List.getD, List.getElem?_take, if_pos hi]
theorem tl_eq {G : Nat → Nat} {L s : List Nat} {n : Nat} (hs : s.length = n + 16) (hL : L.length = 16) (hg : ∀ j, j < 16 → L.getD j 0 = G j) (h : ∀ i, i < 16 → G i = s.getD (n + i) 0) : s.drop n = L := by
  refine list_ext (by rw [List.length_drop, hL]; omega) fun i hi => ?_
  rw [List.length_drop] at hi
  rw [hg i (by omega), h i (by omega)]
  simp only [List.getD, List.getElem?_drop]
theorem tl_ne {G : Nat → Nat} {L s : List Nat} {n j : Nat} (hg : ∀ j, j < 16 → L.getD j 0 = G j) (hj : j < 16) (h : G j ≠ s.getD (n + j) 0) : s.drop n ≠ L := fun e => h (by
  rw [← hg j hj, ← e]
  simp only [List.getD, List.getElem?_drop])

set_option maxRecDepth 100000 in
set_option maxHeartbeats 2000000 in
theorem refOpen_ (a0 a1 a2 a3 : Option Addr) (c0 c1 n2 c2 n c3 : Nat) (key nz ad s : List Nat) (w : World) (hb0 : Bs w a0 32 (ic key)) (hb1 : Bs w a1 12 (ic nz)) (hb2 : Bs w a2 n2 (ic ad)) (hb3 : Bs w a3 (n + 16) (ic s)) (hy0 : ∀ x ∈ key, x < 256) (hy1 : ∀ x ∈ nz, x < 256) (hy2 : ∀ x ∈ ad, x < 256) (hy3 : ∀ x ∈ s, x < 256) (hn2 : n2 ≤ 65536) (hn3 : n ≤ 65536) (hcap : n + 16 ≤ c3) :
    Calls Try.prog 15 #[.slice a0 32 c0, .slice a1 12 c1, .slice a2 n2 c2, .slice a3 (n + 16 : Nat) c3] w fun e w' => Below w.heap.size w w' ∧ ((s.drop n = tl (kf key) nz ad (s.take n) ∧ ∃ v, e = .returned (.tuple #[v, .bool true]) ∧ w'.ownsRow w.heap.size 5 1 v n (cells (ic (st (kf key) nz (s.take n))))) ∨ (s.drop n ≠ tl (kf key) nz ad (s.take n) ∧ e = .returned (.tuple #[.slice none 0 0, .bool false]))) := by
  have HK : Hid (∀ j, kf key j < 256) := kf_lt hy0
  have HL : Hid (s.length = n + 16) := by have := hb3.1; rw [ic_length] at this; exact this
  obtain ⟨b, off, rfl, hcs⟩ : ∃ b off, a3 = some ⟨b, off, none⟩ ∧ ∀ i, i < n + 16 → w.cell? ⟨b, off + i, none⟩ = some (.int .u8 (s.getD i 0 : Nat)) := by
    rcases hb3.2.2 with h | ⟨b, off, e, hc⟩
    · omega
    · exact ⟨b, off, e, fun i hi => by rw [hc i hi, ic_get]⟩
  have HCS := hid hcs
  have hbl : b < w.heap.size := World.block_lt_of_cell? w _ (hcs 0 (by omega))
  clear hcs
  have b2 : decide ((65536 : Int) < (n2 : Int)) = false := decide_eq_false (by omega)
  have b4 : decide ((65536 : Int) < (n : Int)) = false := decide_eq_false (by omega)
  have b3 : decide ((n : Int) < 0) = false := decide_eq_false (by omega)
  have k0 := fun w hb => refNewN_ a0 c0 key w hb
  generalize kf key = k at *
  have hyt : ∀ x ∈ s.take n, x < 256 := fun x hx => hy3 x (List.mem_of_mem_take hx)
  have hbt := hb3.take hy3 (n := n) (by omega) (by omega)
  have ks := fun g w hc hb ht => streamed_ g k a1 c1 nz (some ⟨b, off, none⟩) n c3 (s.take n) w hc HK.out hb hy1 ht hyt (by omega)
  have kt := fun g w hc hb had hct => tag_ g k a1 c1 nz a2 n2 c2 ad (some ⟨b, off, none⟩) n c3 (s.take n) w hc HK.out hb hy1 had hy2 hct hyt (by omega) (by omega)
  have HTG : Hid (∀ j, j < 16 → (tl k nz ad (s.take n)).getD j 0 = tg k nz ad (s.take n) j) := fun j hj => tl_get _ _ _ _ j hj
  have HTL : Hid ((tl k nz ad (s.take n)).length = 16) := tl_length _ _ _ _
  have HGL := hid (tg_lt HK.out hy1 ad (s.take n))
  generalize tg k nz ad (s.take n) = G at *
  generalize tl k nz ad (s.take n) = L at *
  generalize st k nz (s.take n) = p at *
  have hcI : (n : Int) ≤ (c3 : Int) := by omega
  have hc0 : ¬ c3 = 0 := by omega
  go_enter Try.func15, Try.ntmps15
  go_wp2_with fail
  refine (k0 _ hb0).mono ?_
  rintro e w1 ⟨g, rfl, _, hc, B0⟩
  clear k0 b2 b3 b4
  go_wp2_with fail
  refine (kt g _ hc (hb1.below B0) (hb2.below B0) (hbt.below B0)).mono ?_
  rintro e w2 ⟨rfl, g2⟩
  have hc := (hc.kept g2)
  have hcl := hc.lt
  have B0 := bel_bel B0 B0.size g2
  have A0 := Ar.new w2 (av G)
  have hc := hc.keep ((Below.refl _ _).alloc (Nat.le_refl _) (.cells (av G) 44)) hcl
  have B0 := B0.alloc B0.size (.cells (av G) 44)
  clear g2 kt hcl
  go_wp2_with (refine wpList_stna rfl rfl _ _ rfl _ _ _ rfl rfl rfl (by rfl) ?_)
  generalize w2.heap.size = gt at *
  generalize w2.alloc (.cells (av G) 44) = w4 at *
  go_loopw [14] (fun i wr => ∃ j nq : Nat, j ≤ 16 ∧ i = .int .i64 j ∧ Hid (∀ i, i < j → G i = s.getD (n + i) 0) ∧ wr = w4.drewN nq) (fun i _ => 16 - (intOf i).toNat)
  case atStart => exact ⟨0, 0, by omega, rfl, fun i hi => by omega, rfl⟩
  case round =>
    obtain ⟨j, nq, hj, rfl, HE, rfl⟩ := hrel
    by_cases hlt : j < 16
    · have c0' := A0.byte j hlt
      have c1' := (B0.cell hbl).trans (HCS.out (n + j) (by omega))
      have ew : IntKind.i64.wrap ((n : Int) + (j : Int)) = (n : Int) + (j : Int) := by rw [IntKind.wrap_i64]; omega
      have ei : (n : Int) + (j : Int) < (n : Int) + 16 := by omega
      by_cases hq : G j = s.getD (n + j) 0
      · have HE2 : Hid (∀ i, i < j + 1 → G i = s.getD (n + i) 0) := fun i hi => by
          by_cases h : i = j
          · rw [h]; exact hq
          · exact HE.out i (by omega)
        rw [hq] at c0'
        generalize s.getD (n + j) 0 = y at *
        have hb : ((y : Int) != (y : Int)) = false := by simp
        clear hq HE
        go_wp2_with fail
        go_quiet (fail)
        go_wp2_with fail
        go_roundw
        case rel => exact ⟨j + 1, _, by omega, by go_num, HE2, rfl⟩
        case measure => simp [intOf]; omega
      · have hne := tl_ne HTG.out hlt hq
        have HNE := hid hne
        have hb : ((G j : Int) != (s.getD (n + j) 0 : Int)) = true := by rw [bne_iff_ne]; exact fun h => hq (by exact_mod_cast h)
        generalize s.getD (n + j) 0 = y at *
        generalize G j = x at *
        clear hq HE hne
        go_wp2_with fail
        go_quiet (fail)
        go_wp2_with fail
        go_ret2
        exact ⟨by rw [World.drewN_drewN]; exact bel_drawn B0 _, .inr ⟨HNE.out, rfl⟩⟩
    · have hge : ¬ (j : Int) < 16 := by omega
      have HEQ := hid (tl_eq HL.out HTL.out HTG.out fun i hi => HE.out i (by omega))
      have D := drawnN w4 nq
      have B1 : Below w.heap.size w (w4.drewN nq) := bel_drawn B0 nq
      have hc := hc.keep D.below hc.lt
      go_wp2_with fail
      refine (ks g _ hc (hb1.below B1) (hbt.below B1)).mono ?_
      rintro e w5 ⟨v, rfl, hown, g5⟩
      have hown := own_le hown B1.size
      have B2 := bel_bel B1 B1.size g5
      clear g5 ks B1 D
      go_wp2_with fail
      go_ret2
      exact ⟨B2, .inl ⟨HEQ.out, _, rfl, hown⟩⟩
end Go.Proofs.Ytgjamfnhkeoedaa
