import Derived.Test.YtnjfckijpbgagaaRefA
import Derived.Test.YtnjfckijpbgagaaRefN
import Derived.Test.YtnjfckijpbgagaaNA
import Derived.Test.YtnjfckijpbgagaaN1
namespace Go.Proofs.Ytnjfckijpbgagaa
set_option maxRecDepth 100000
open Go.RowKit
set_option linter.unusedVariables false

theorem ic_back (l : List Nat) : (ic l).map Int.toNat = l := by
  unfold ic
  rw [List.map_map]
  conv => rhs; rw [← List.map_id l]
  apply List.map_congr_left
  intro x _
  rfl
theorem refNewN_ (a : Option Addr) (cap : Nat) (key : List Nat) (w : World) (hb : Bs w a 32 (ic key)) :
    Calls Try.prog 56 #[.slice a 32 cap] w fun e w' => ∃ g, e = .returned (.tuple #[.pointer (some ⟨g, 0, none⟩), .int .i64 0]) ∧ w.heap.size ≤ g ∧ Ci w' g (kf key) ∧ Below w.heap.size w w' := by
  have := refNew_ a 32 cap (ic key) w hb rfl
  rw [ic_back] at this
  exact this

/-- What Seal refuses. -/
theorem refSeal_bad (a0 a1 a2 a3 : Option Addr) (n0 c0 n1 c1 n2 c2 n3 c3 : Nat) (w : World) (h0 : n0 ≤ maxLen) (h1 : n1 ≤ maxLen) (h2 : n2 ≤ maxLen) (h3 : n3 ≤ maxLen) (hn : n0 ≠ 32 ∨ n1 ≠ 12 ∨ 65536 < n2 ∨ 65536 < n3) :
    Calls Try.prog 31 #[.slice a0 n0 c0, .slice a1 n1 c1, .slice a2 n2 c2, .slice a3 n3 c3] w fun e w' => e = .returned (.tuple #[.slice none 0 0, .int .i64 (if n0 ≠ 32 then 40 else if n1 ≠ 12 then 50 else 51)]) ∧ w' = w := by
  unfold maxLen at h0 h1 h2 h3
  by_cases e0 : n0 = 32
  · have b0 : ((n0 : Int) != 32) = false := by simp [e0]
    rw [if_neg (by omega)]
    by_cases e1 : n1 = 12
    · have b1 : ((n1 : Int) != 12) = false := by simp [e1]
      rw [if_neg (by omega)]
      by_cases e2 : 65536 < n2
      · have b2 : decide ((65536 : Int) < (n2 : Int)) = true := decide_eq_true (by omega)
        clear e0 e1 e2 hn
        go_enter Try.func31, Try.ntmps31
        go_wp2_with fail
        go_ret2
        exact ⟨rfl, rfl⟩
      · have b2 : decide ((65536 : Int) < (n2 : Int)) = false := decide_eq_false (by omega)
        have b3 : decide ((65536 : Int) < (n3 : Int)) = true := decide_eq_true (by omega)
        clear e0 e1 e2 hn
        go_enter Try.func31, Try.ntmps31
        go_wp2_with fail
        go_ret2
        exact ⟨rfl, rfl⟩
    · have b1 : ((n1 : Int) != 12) = true := by simpa using fun h => e1 (by omega)
      rw [if_pos (by omega)]
      clear e0 e1 hn
      go_enter Try.func31, Try.ntmps31
      go_wp2_with fail
      go_ret2
      exact ⟨rfl, rfl⟩
  · have b0 : ((n0 : Int) != 32) = true := by simpa using fun h => e0 (by omega)
    rw [if_pos (by omega)]
    clear e0 hn
    go_enter Try.func31, Try.ntmps31
    go_wp2_with fail
    go_ret2
    exact ⟨rfl, rfl⟩

set_option maxHeartbeats 2000000 in
theorem refSeal_ (a0 a1 a2 a3 : Option Addr) (c0 c1 n2 c2 n3 c3 : Nat) (key nz ad t : List Nat) (w : World) (hb0 : Bs w a0 32 (ic key)) (hb1 : Bs w a1 12 (ic nz)) (hb2 : Bs w a2 n2 (ic ad)) (hb3 : Bs w a3 n3 (ic t)) (hy0 : ∀ x ∈ key, x < 256) (hy1 : ∀ x ∈ nz, x < 256) (hy2 : ∀ x ∈ ad, x < 256) (hy3 : ∀ x ∈ t, x < 256) (hn2 : n2 ≤ 65536) (hn3 : n3 ≤ 65536) :
    Calls Try.prog 31 #[.slice a0 32 c0, .slice a1 12 c1, .slice a2 n2 c2, .slice a3 n3 c3] w fun e w' => ∃ v, e = .returned (.tuple #[v, .int .i64 0]) ∧ w'.ownsRow w.heap.size 5 1 v (n3 + 16) (cells (ic (sl (kf key) nz ad t))) ∧ Below w.heap.size w w' := by
  obtain ⟨i, hi, hz0, hz1, hz2⟩ := info_parts info5
  have HK : Hid (∀ j, kf key j < 256) := kf_lt hy0
  have HL : Hid (t.length = n3) := by have := hb3.1; rw [ic_length] at this; exact this
  have b2 : decide ((65536 : Int) < (n2 : Int)) = false := decide_eq_false (by omega)
  have b3 : decide ((65536 : Int) < (n3 : Int)) = false := decide_eq_false (by omega)
  have k0 := fun w hb => refNewN_ a0 c0 key w hb
  generalize kf key = k at *
  have ks := fun g w hc hb ht => streamed_ g k a1 c1 nz a3 n3 c3 t w hc HK.out hb hy1 ht hy3 (by omega)
  have kt := fun g a cap w hc hb had hct => tag_ g k a1 c1 nz a2 n2 c2 ad a n3 cap (st k nz t) w hc HK.out hb hy1 had hy2 hct (st_lt HK.out hy1 hy3) (by omega) (by omega)
  have HSL : Hid (sl k nz ad t = st k nz t ++ tl k nz ad (st k nz t)) := rfl
  have HSB : Hid (∀ x ∈ st k nz t, x < 256) := st_lt HK.out hy1 hy3
  have HTG : Hid (∀ j, j < 16 → (tl k nz ad (st k nz t)).getD j 0 = tg k nz ad (st k nz t) j) := fun j hj => tl_get _ _ _ _ j hj
  have HTL : Hid ((tl k nz ad (st k nz t)).length = 16) := tl_length _ _ _ _
  generalize tg k nz ad (st k nz t) = G at *
  generalize tl k nz ad (st k nz t) = L at *
  generalize st k nz t = s at *
  go_enter Try.func31, Try.ntmps31
  go_wp2_with fail
  refine (k0 _ hb0).mono ?_
  rintro e w1 ⟨g, rfl, _, hc, B0⟩
  clear k0 b2 b3
  go_wp2_with fail
  refine (ks g _ hc (hb1.below B0) (hb3.below B0)).mono ?_
  rintro e w2 ⟨v, rfl, hown, g2⟩
  have hc := hc.kept g2
  have hown := own_le hown B0.size
  have B0 := bel_bel B0 B0.size g2
  obtain ⟨ka, kcap, rfl, kbs, _⟩ := own_form hown (ic_bytes HSB.out)
  clear g2 ks
  go_wp2_with fail
  refine (kt g ka kcap _ hc (hb1.below B0) (hb2.below B0) kbs).mono ?_
  rintro e w3 ⟨rfl, g2⟩
  have hown := own_kept hown g2
  have hob : ∀ q, (Value.slice ka n3 kcap).ownBlock = some q → q ≠ w3.heap.size := fun q hq => by have := (hown.lt q hq).2; omega
  have hown := hown.alloc (.cells (av G) 96)
  have B0 := bel_bel B0 B0.size g2
  have A0 := Ar.new w3 (av G)
  have hgt := B0.size
  have B0 := B0.alloc B0.size (.cells (av G) 96)
  clear g2 kt kbs hc
  go_wp2_with (refine wpList_stna rfl rfl _ _ rfl _ _ _ rfl rfl rfl (by rfl) ?_)
  generalize w3.heap.size = gt at *
  generalize w3.alloc (.cells (av G) 96) = w4 at *
  generalize Value.slice ka n3 kcap = v0 at *
  go_loopw [12, 14] (fun v i wr => ∃ j : Nat, j ≤ 16 ∧ i = .int .i64 j ∧ wr.ownsRow w.heap.size 5 1 v (n3 + j) (cells (ic (s ++ L.take j))) ∧ Hid (∀ q, v.ownBlock = some q → q ≠ gt) ∧ Ar wr gt (av G) ∧ Below w.heap.size w wr) (fun _ i _ => 16 - (intOf i).toNat)
  case atStart => exact ⟨0, by omega, rfl, by rw [List.take_zero, List.append_nil]; exact hown, hob, A0, B0⟩
  case round =>
    clear hown hob A0 B0
    obtain ⟨j, hj, rfl, hown, hob, A0, B0⟩ := hrel
    obtain ⟨v, rfl⟩ : ∃ v, v = u12 := ⟨_, rfl⟩
    have hsz := B0.size
    have hgl := A0.lt
    by_cases hlt : j < 16
    · have HN : Hid (cells (ic (s ++ L.take j)) ++ [.int .u8 (L.getD j 0 : Nat)] = cells (ic (s ++ L.take (j + 1)))) := ic_more s L j (by rw [HTL.out]; exact hlt)
      rw [HTG.out j hlt] at HN
      have c0 := A0.byte j hlt
      have l0 : n3 + j ≤ 70000 := by omega
      generalize (s ++ L.take j) = lj at *
      generalize G j = x at *
      go_wp2_with (at_builtin; refine wpList_append_lies _ rfl _ _ 22 rfl w.heap.size 5 i (.int .u8 0) 1 1 Try.underlying22 hi hz0 hz1 hz2 rfl (by decide) _ _ _ rfl (hown.alloc _) ⟨wr.heap.size, 0, none⟩ 1 1 [.int .u8 (x : Nat)] rfl rfl ?c1 ?c2 (by omega) ?c3 ?c4 ?c5 (wr.heap.size + 1) ?c6 ?_)
      case c1 =>
        intro j u hj
        match j, hj with
        | 0, hj => simp at hj; subst hj; simp [Addr.add]
      case c2 => intro u hu; simp at hu; subst hu; rfl
      case c3 => unfold maxLen; omega
      case c4 => omega
      case c5 => simp; omega
      case c6 => simp
      intro g' cap' w5 hown' hgrow hat hltg
      have hown2 : w5.ownsRow w.heap.size 5 1 (.slice (some ⟨g', 0, none⟩) (n3 + j + 1) cap') (n3 + (j + 1)) (cells (ic (s ++ L.take (j + 1)))) := by rw [← HN.out]; exact hown'
      have B2 : Below w.heap.size w w5 := (B0.alloc hsz _).grown hgrow (by simp; omega) fun q hq => (hown.lt q hq).1
      have A2 : Ar w5 gt (av G) := by
        have h0 := A0.alloc (.cells #[.int .u8 (x : Nat)] 5)
        unfold Ar at *
        rw [hgrow.block gt (by simp; omega) (fun e => hob.out gt e.symm rfl)]
        exact h0
      have ho2 : Hid (∀ q, (Value.slice (some ⟨g', 0, none⟩) (n3 + j + 1) cap').ownBlock = some q → q ≠ gt) := fun q hq => by
        obtain rfl : g' = q := by simpa [Value.ownBlock] using hq
        rcases hat with h | h
        · exact hob.out _ h
        · omega
      clear hown' hgrow hown HN hat hltg A0 B0 hob c0
      go_wp2_with fail
      go_roundw
      case rel => exact ⟨j + 1, by omega, by go_num, hown2, ho2, A2, B2⟩
      case measure => simp [intOf]; omega
    · have hge : ¬ (j : Int) < 16 := by omega
      have e : j = 16 := by omega
      rw [e, List.take_of_length_le (by rw [HTL.out]; omega), ← HSL.out] at hown
      clear e
      go_wp2_with fail
      go_ret2
      exact ⟨_, rfl, hown, B0⟩
end Go.Proofs.Ytnjfckijpbgagaa
namespace Go.Proofs.Ytnjfckijpbgagaa
set_option maxRecDepth 100000
open Go.RowKit
set_option linter.unusedVariables false

/-- What Open does not look at. -/
theorem refOpen_bad (a0 a1 a2 a3 : Option Addr) (n0 c0 n1 c1 n2 c2 n3 c3 : Nat) (w : World) (h0 : n0 ≤ maxLen) (h1 : n1 ≤ maxLen) (h2 : n2 ≤ maxLen) (h3 : n3 ≤ maxLen) (hn : n0 ≠ 32 ∨ n1 ≠ 12 ∨ 65536 < n2 ∨ n3 < 16 ∨ 65552 < n3) :
    Calls Try.prog 36 #[.slice a0 n0 c0, .slice a1 n1 c1, .slice a2 n2 c2, .slice a3 n3 c3] w fun e w' => e = .returned (.tuple #[.slice none 0 0, .bool false]) ∧ w' = w := by
  unfold maxLen at h0 h1 h2 h3
  by_cases e0 : n0 = 32
  · have b0 : ((n0 : Int) != 32) = false := by simp [e0]
    by_cases e1 : n1 = 12
    · have b1 : ((n1 : Int) != 12) = false := by simp [e1]
      by_cases e2 : 65536 < n2
      · have b2 : decide ((65536 : Int) < (n2 : Int)) = true := decide_eq_true (by omega)
        clear e0 e1 e2 hn
        go_enter Try.func36, Try.ntmps36
        go_wp2_with fail
        go_ret2
        exact ⟨rfl, rfl⟩
      · have b2 : decide ((65536 : Int) < (n2 : Int)) = false := decide_eq_false (by omega)
        by_cases e3 : n3 < 16
        · have b3 : decide ((n3 : Int) - 16 < 0) = true := decide_eq_true (by omega)
          clear e0 e1 e2 e3 hn
          go_enter Try.func36, Try.ntmps36
          go_wp2_with fail
          go_ret2
          exact ⟨rfl, rfl⟩
        · have b3 : decide ((n3 : Int) - 16 < 0) = false := decide_eq_false (by omega)
          have b4 : decide ((65536 : Int) < (n3 : Int) - 16) = true := decide_eq_true (by omega)
          clear e0 e1 e2 e3 hn
          go_enter Try.func36, Try.ntmps36
          go_wp2_with fail
          go_ret2
          exact ⟨rfl, rfl⟩
    · have b1 : ((n1 : Int) != 12) = true := by simpa using fun h => e1 (by omega)
      clear e0 e1 hn
      go_enter Try.func36, Try.ntmps36
      go_wp2_with fail
      go_ret2
      exact ⟨rfl, rfl⟩
  · have b0 : ((n0 : Int) != 32) = true := by simpa using fun h => e0 (by omega)
    clear e0 hn
    go_enter Try.func36, Try.ntmps36
    go_wp2_with fail
    go_ret2
    exact ⟨rfl, rfl⟩

theorem Bs.take {w : World} {b off n m : Nat} {s : List Nat} (h : Bs w (some ⟨b, off, none⟩) m (ic s)) (hy : ∀ x ∈ s, x < 256) (hn : n ≤ m) (h0 : 0 < m) : Bs w (some ⟨b, off, none⟩) n (ic (s.take n)) := by
  have hl : s.length = m := by have := h.1; rwa [ic_length] at this
  refine ⟨by rw [ic_length, List.length_take]; omega, ic_bytes fun x hx => hy x (List.mem_of_mem_take hx), .inr ⟨b, off, rfl, fun i hi => ?_⟩⟩
  rcases h.2.2 with e | ⟨b', off', e, hc⟩
  · omega
  · simp at e
    obtain ⟨rfl, rfl⟩ := e
    rw [hc i (by omega), ic_get, ic_get]
    simp only [List.getD, List.getElem?_take, if_pos hi]
theorem tl_eq5 {G : Nat → Nat} {L s : List Nat} {n : Nat} (hs : s.length = n + 16) (hL : L.length = 16) (hg : ∀ j, j < 16 → L.getD j 0 = G j) (h : ∀ i, i < 16 → G i = s.getD (n + i) 0) : s.drop n = L := by
  refine list_ext (by rw [List.length_drop, hL]; omega) fun i hi => ?_
  rw [List.length_drop] at hi
  rw [hg i (by omega), h i (by omega)]
  simp only [List.getD, List.getElem?_drop]
theorem tl_ne {G : Nat → Nat} {L s : List Nat} {n j : Nat} (hg : ∀ j, j < 16 → L.getD j 0 = G j) (hj : j < 16) (h : G j ≠ s.getD (n + j) 0) : s.drop n ≠ L := fun e => h (by
  rw [← hg j hj, ← e]
  simp only [List.getD, List.getElem?_drop])

set_option maxRecDepth 100000 in
set_option maxHeartbeats 2000000 in
theorem refOpen_ (a0 a1 a2 a3 : Option Addr) (c0 c1 n2 c2 n c3 : Nat) (key nz ad s : List Nat) (w : World) (hb0 : Bs w a0 32 (ic key)) (hb1 : Bs w a1 12 (ic nz)) (hb2 : Bs w a2 n2 (ic ad)) (hb3 : Bs w a3 (n + 16) (ic s)) (hy0 : ∀ x ∈ key, x < 256) (hy1 : ∀ x ∈ nz, x < 256) (hy2 : ∀ x ∈ ad, x < 256) (hy3 : ∀ x ∈ s, x < 256) (hn2 : n2 ≤ 65536) (hn3 : n ≤ 65536) (hcap : n + 16 ≤ c3) :
    Calls Try.prog 36 #[.slice a0 32 c0, .slice a1 12 c1, .slice a2 n2 c2, .slice a3 (n + 16 : Nat) c3] w fun e w' => Below w.heap.size w w' ∧ ((s.drop n = tl (kf key) nz ad (s.take n) ∧ ∃ v, e = .returned (.tuple #[v, .bool true]) ∧ w'.ownsRow w.heap.size 5 1 v n (cells (ic (st (kf key) nz (s.take n))))) ∨ (s.drop n ≠ tl (kf key) nz ad (s.take n) ∧ e = .returned (.tuple #[.slice none 0 0, .bool false]))) := by
  have HK : Hid (∀ j, kf key j < 256) := kf_lt hy0
  have HL : Hid (s.length = n + 16) := by have := hb3.1; rw [ic_length] at this; exact this
  obtain ⟨b, off, rfl, hcs⟩ : ∃ b off, a3 = some ⟨b, off, none⟩ ∧ ∀ i, i < n + 16 → w.cell? ⟨b, off + i, none⟩ = some (.int .u8 (s.getD i 0 : Nat)) := by
    rcases hb3.2.2 with h | ⟨b, off, e, hc⟩
    · omega
    · exact ⟨b, off, e, fun i hi => by rw [hc i hi, ic_get]⟩
  have HCS := hid hcs
  have hbl : b < w.heap.size := World.block_lt_of_cell? w _ (hcs 0 (by omega))
  clear hcs
  have b2 : decide ((65536 : Int) < (n2 : Int)) = false := decide_eq_false (by omega)
  have b4 : decide ((65536 : Int) < (n : Int)) = false := decide_eq_false (by omega)
  have b3 : decide ((n : Int) < 0) = false := decide_eq_false (by omega)
  have k0 := fun w hb => refNewN_ a0 c0 key w hb
  generalize kf key = k at *
  have hyt : ∀ x ∈ s.take n, x < 256 := fun x hx => hy3 x (List.mem_of_mem_take hx)
  have hbt := hb3.take hy3 (n := n) (by omega) (by omega)
  have ks := fun g w hc hb ht => streamed_ g k a1 c1 nz (some ⟨b, off, none⟩) n c3 (s.take n) w hc HK.out hb hy1 ht hyt (by omega)
  have kt := fun g w hc hb had hct => tag_ g k a1 c1 nz a2 n2 c2 ad (some ⟨b, off, none⟩) n c3 (s.take n) w hc HK.out hb hy1 had hy2 hct hyt (by omega) (by omega)
  have HTG : Hid (∀ j, j < 16 → (tl k nz ad (s.take n)).getD j 0 = tg k nz ad (s.take n) j) := fun j hj => tl_get _ _ _ _ j hj
  have HTL : Hid ((tl k nz ad (s.take n)).length = 16) := tl_length _ _ _ _
  have HGL := hid (tg_lt HK.out hy1 ad (s.take n))
  generalize tg k nz ad (s.take n) = G at *
  generalize tl k nz ad (s.take n) = L at *
  generalize st k nz (s.take n) = p at *
  have hcI : (n : Int) ≤ (c3 : Int) := by omega
  have hc0 : ¬ c3 = 0 := by omega
  go_enter Try.func36, Try.ntmps36
  go_wp2_with fail
  refine (k0 _ hb0).mono ?_
  rintro e w1 ⟨g, rfl, _, hc, B0⟩
  clear k0 b2 b3 b4
  go_wp2_with fail
  refine (kt g _ hc (hb1.below B0) (hb2.below B0) (hbt.below B0)).mono ?_
  rintro e w2 ⟨rfl, g2⟩
  have hc := (hc.kept g2)
  have hcl := hc.lt
  have B0 := bel_bel B0 B0.size g2
  have A0 := Ar.new w2 (av G)
  have hc := hc.keep ((Below.refl _ _).alloc (Nat.le_refl _) (.cells (av G) 96)) hcl
  have B0 := B0.alloc B0.size (.cells (av G) 96)
  clear g2 kt hcl
  go_wp2_with (refine wpList_stna rfl rfl _ _ rfl _ _ _ rfl rfl rfl (by rfl) ?_)
  generalize w2.heap.size = gt at *
  generalize w2.alloc (.cells (av G) 96) = w4 at *
  go_loopw [14] (fun i wr => ∃ j nq : Nat, j ≤ 16 ∧ i = .int .i64 j ∧ Hid (∀ i, i < j → G i = s.getD (n + i) 0) ∧ wr = w4.drewN nq) (fun i _ => 16 - (intOf i).toNat)
  case atStart => exact ⟨0, 0, by omega, rfl, fun i hi => by omega, rfl⟩
  case round =>
    obtain ⟨j, nq, hj, rfl, HE, rfl⟩ := hrel
    by_cases hlt : j < 16
    · have c0' := A0.byte j hlt
      have c1' := (B0.cell hbl).trans (HCS.out (n + j) (by omega))
      have ew : IntKind.i64.wrap ((n : Int) + (j : Int)) = (n : Int) + (j : Int) := by rw [IntKind.wrap_i64]; omega
      have ei : (n : Int) + (j : Int) < (n : Int) + 16 := by omega
      by_cases hq : G j = s.getD (n + j) 0
      · have HE2 : Hid (∀ i, i < j + 1 → G i = s.getD (n + i) 0) := fun i hi => by
          by_cases h : i = j
          · rw [h]; exact hq
          · exact HE.out i (by omega)
        rw [hq] at c0'
        generalize s.getD (n + j) 0 = y at *
        have hb : ((y : Int) != (y : Int)) = false := by simp
        clear hq HE
        go_wp2_with fail
        go_quiet (fail)
        go_wp2_with fail
        go_roundw
        case rel => exact ⟨j + 1, _, by omega, by go_num, HE2, rfl⟩
        case measure => simp [intOf]; omega
      · have hne := tl_ne HTG.out hlt hq
        have HNE := hid hne
        have hb : ((G j : Int) != (s.getD (n + j) 0 : Int)) = true := by rw [bne_iff_ne]; exact fun h => hq (by exact_mod_cast h)
        generalize s.getD (n + j) 0 = y at *
        generalize G j = x at *
        clear hq HE hne
        go_wp2_with fail
        go_quiet (fail)
        go_wp2_with fail
        go_ret2
        exact ⟨by rw [World.drewN_drewN]; exact bel_drawn B0 _, .inr ⟨HNE.out, rfl⟩⟩
    · have hge : ¬ (j : Int) < 16 := by omega
      have HEQ := hid (tl_eq5 HL.out HTL.out HTG.out fun i hi => HE.out i (by omega))
      have D := drawnN w4 nq
      have B1 : Below w.heap.size w (w4.drewN nq) := bel_drawn B0 nq
      have hc := hc.keep D.below hc.lt
      go_wp2_with fail
      refine (ks g _ hc (hb1.below B1) (hbt.below B1)).mono ?_
      rintro e w5 ⟨v, rfl, hown, g5⟩
      have hown := own_le hown B1.size
      have B2 := bel_bel B1 B1.size g5
      clear g5 ks B1 D
      go_wp2_with fail
      go_ret2
      exact ⟨B2, .inl ⟨HEQ.out, _, rfl, hown⟩⟩
end Go.Proofs.Ytnjfckijpbgagaa
namespace Go.Proofs.Ytnjfckijpbgagaa
set_option maxRecDepth 100000
open Go.RowKit
set_option linter.unusedVariables false

theorem as_nat {zs : List Int} (h : ∀ z ∈ zs, 0 ≤ z ∧ z ≤ 255) : ∃ t : List Nat, zs = ic t ∧ Hid (∀ x ∈ t, x < 256) := by
  refine ⟨zs.map Int.toNat, (ic_toNat h).symm, ?_⟩
  intro x hx
  obtain ⟨z, hz, rfl⟩ := List.mem_map.1 hx
  have := h z hz
  omega
theorem Bs.none0 (w : World) (a : Option Addr) : Bs w a 0 [] := ⟨rfl, by simp, .inl rfl⟩
/-- Does it open, and to what? -/
def oB (t0 t1 t2 t3 : List Nat) : Bool := decide (t0.length = 32 ∧ t1.length = 12 ∧ t2.length ≤ 65536 ∧ 16 ≤ t3.length ∧ t3.length ≤ 65552 ∧ t3.drop (t3.length - 16) = tl (kf t0) t1 t2 (t3.take (t3.length - 16)))
def oP (t0 t1 t2 t3 : List Nat) : List Nat := if oB t0 t1 t2 t3 then st (kf t0) t1 (t3.take (t3.length - 16)) else []
set_option maxHeartbeats 1000000 in
theorem refOpenAny_ (a0 : Option Addr) (n0 c0 : Nat) (t0 : List Nat) (a1 : Option Addr) (n1 c1 : Nat) (t1 : List Nat) (a2 : Option Addr) (n2 c2 : Nat) (t2 : List Nat) (a3 : Option Addr) (n3 c3 : Nat) (t3 : List Nat) (w : World) (hb0 : Bs w a0 n0 (ic t0)) (hb1 : Bs w a1 n1 (ic t1)) (hb2 : Bs w a2 n2 (ic t2)) (hb3 : Bs w a3 n3 (ic t3)) (hy0 : ∀ x ∈ t0, x < 256) (hy1 : ∀ x ∈ t1, x < 256) (hy2 : ∀ x ∈ t2, x < 256) (hy3 : ∀ x ∈ t3, x < 256) (hn0 : n0 ≤ maxLen) (hn1 : n1 ≤ maxLen) (hn2 : n2 ≤ maxLen) (hn3 : n3 ≤ maxLen) (hc3 : n3 ≤ c3) :
    Calls Try.prog 36 #[.slice a0 n0 c0, .slice a1 n1 c1, .slice a2 n2 c2, .slice a3 n3 c3] w fun e w' => ∃ a m cap, e = .returned (.tuple #[.slice a m cap, .bool (oB t0 t1 t2 t3)]) ∧ Bs w' a m (ic (oP t0 t1 t2 t3)) ∧ m ≤ 65536 ∧ Below w.heap.size w w' := by
  have l0 : t0.length = n0 := by have := hb0.1; rwa [ic_length] at this
  have l1 : t1.length = n1 := by have := hb1.1; rwa [ic_length] at this
  have l2 : t2.length = n2 := by have := hb2.1; rwa [ic_length] at this
  have l3 : t3.length = n3 := by have := hb3.1; rwa [ic_length] at this
  by_cases hg : n0 = 32 ∧ n1 = 12 ∧ n2 ≤ 65536 ∧ 16 ≤ n3 ∧ n3 ≤ 65552
  · obtain ⟨rfl, rfl, h2, h3, h4⟩ := hg
    obtain ⟨n, rfl⟩ : ∃ n, n3 = n + 16 := ⟨n3 - 16, by omega⟩
    refine (refOpen_ a0 a1 a2 a3 c0 c1 n2 c2 n c3 t0 t1 t2 t3 w hb0 hb1 hb2 hb3 hy0 hy1 hy2 hy3 h2 (by omega) hc3).mono ?_
    rintro e w' ⟨g, h⟩
    have en : t3.length - 16 = n := by omega
    rcases h with ⟨h, v, rfl, ho⟩ | ⟨h, rfl⟩
    · have eb : oB t0 t1 t2 t3 = true := by unfold oB; rw [en]; exact decide_eq_true ⟨l0, l1, by omega, by omega, by omega, h⟩
      have ep : oP t0 t1 t2 t3 = st (kf t0) t1 (t3.take n) := by unfold oP; rw [eb, en]; rfl
      obtain ⟨a, cap, rfl, hb, _⟩ := own_form ho (ic_bytes (st_lt (kf_lt hy0) hy1 fun x hx => hy3 x (List.mem_of_mem_take hx)))
      exact ⟨a, n, cap, by rw [eb], by rw [ep]; exact hb, by omega, g⟩
    · have eb : oB t0 t1 t2 t3 = false := by unfold oB; rw [en]; exact decide_eq_false fun hh => h hh.2.2.2.2.2
      have ep : oP t0 t1 t2 t3 = [] := by unfold oP; rw [eb]; rfl
      exact ⟨none, 0, 0, by rw [eb], by rw [ep]; exact Bs.none0 _ _, by omega, g⟩
  · have eb : oB t0 t1 t2 t3 = false := by unfold oB; exact decide_eq_false fun hh => hg ⟨by omega, by omega, by omega, by omega, by omega⟩
    have ep : oP t0 t1 t2 t3 = [] := by unfold oP; rw [eb]; rfl
    refine (refOpen_bad a0 a1 a2 a3 n0 c0 n1 c1 n2 c2 n3 c3 w hn0 hn1 hn2 hn3 (by omega)).mono ?_
    rintro e w' ⟨rfl, rfl⟩
    exact ⟨none, 0, 0, by rw [eb], by rw [ep]; exact Bs.none0 _ _, by omega, Below.refl _ _⟩
/-- Bytes as numbers. -/
def nt (zs : List Int) : List Nat := zs.map Int.toNat
theorem nt_length (zs : List Int) : (nt zs).length = zs.length := by simp [nt]
theorem ic_nt {zs : List Int} (h : ∀ z ∈ zs, 0 ≤ z ∧ z ≤ 255) : ic (nt zs) = zs := ic_toNat h
theorem nt_ic (l : List Nat) : nt (ic l) = l := ic_back l
theorem nt_lt {zs : List Int} (h : ∀ z ∈ zs, 0 ≤ z ∧ z ≤ 255) : ∀ x ∈ nt zs, x < 256 := by
  intro x hx
  obtain ⟨z, hz, rfl⟩ := List.mem_map.1 hx
  have := h z hz
  omega
/-- A sealed packet. -/
def kOk (ks : List Int) (S T K G C : Int) (n : Int) : Bool := decide (S = 0 ∨ S = 1) && (hOk T K G C && fit T n)
def sealt (ks : List Int) (S T K G C : Int) (zs : List Int) : List Int := ic (sl (kf (nt ks)) (nt (nRow S G C)) (nt (hRow T K G C)) (nt zs))
def sB (ks : List Int) (S T K G C : Int) (zs : List Int) : List Int := if ks.length = 32 ∧ kOk ks S T K G C zs.length = true then hRow T K G C ++ sealt ks S T K G C zs else []
def sE (ks : List Int) (S T K G C : Int) (zs : List Int) : Int := if ks.length = 32 then if kOk ks S T K G C zs.length then 0 else 90 else 40
/-- Does a packet open, and to what? -/
def uOk (ks : List Int) (S : Int) (zs : List Int) : Bool := decide (ks.length = 32 ∧ (S = 0 ∨ S = 1)) && (gOk zs && oB (nt ks) (nt (nRow S (gG zs) (gC zs))) (nt (zs.take 20)) (nt (zs.drop 20)))
def uZ (ks : List Int) (S : Int) (zs : List Int) (x : Int) : Int := if uOk ks S zs then x else 0
def uB (ks : List Int) (S : Int) (zs : List Int) : List Int := if uOk ks S zs then ic (oP (nt ks) (nt (nRow S (gG zs) (gC zs))) (nt (zs.take 20)) (nt (zs.drop 20))) else []
end Go.Proofs.Ytnjfckijpbgagaa
