import Derived.Test.YtmnmmkonkimjeaaGreatDoorRefA
import Derived.Test.YtmnmmkonkimjeaaGreatDoorRefN
namespace Go.Proofs.YtmnmmkonkimjeaaGreatDoor
open Go.RowKit
set_option linter.unusedVariables false
set_option maxRecDepth 100000

theorem ic_back (l : List Nat) : (ic l).map Int.toNat = l := by
  unfold ic
  rw [List.map_map]
  conv => rhs; rw [← List.map_id l]
  apply List.map_congr_left
  intro x _
  rfl
theorem refNewN_ (a : Option Addr) (cap : Nat) (key : List Nat) (w : World) (hb : Bs w a 32 (ic key)) :
    Calls Tryz.prog 23 #[.slice a 32 cap] w fun e w' => ∃ g, e = .returned (.tuple #[.pointer (some ⟨g, 0, none⟩), .int .i64 0]) ∧ w.heap.size ≤ g ∧ Ci w' g (kf key) ∧ Below w.heap.size w w' := by
  have := refNew_ a 32 cap (ic key) w hb rfl
  rw [ic_back] at this
  exact this

/-- What Seal refuses. -/
theorem refSeal_bad (a0 a1 a2 a3 : Option Addr) (n0 c0 n1 c1 n2 c2 n3 c3 : Nat) (w : World) (h0 : n0 ≤ maxLen) (h1 : n1 ≤ maxLen) (h2 : n2 ≤ maxLen) (h3 : n3 ≤ maxLen) (hn : n0 ≠ 32 ∨ n1 ≠ 12 ∨ 65536 < n2 ∨ 65536 < n3) :
    Calls Tryz.prog 13 #[.slice a0 n0 c0, .slice a1 n1 c1, .slice a2 n2 c2, .slice a3 n3 c3] w fun e w' => e = .returned (.tuple #[.slice none 0 0, .int .i64 (if n0 ≠ 32 then 40 else if n1 ≠ 12 then 50 else 51)]) ∧ w' = w := by
  unfold maxLen at h0 h1 h2 h3
  by_cases e0 : n0 = 32
  · have b0 : ((n0 : Int) != 32) = false := by simp [e0]
    rw [if_neg (by omega)]
    by_cases e1 : n1 = 12
    · have b1 : ((n1 : Int) != 12) = false := by simp [e1]
      rw [if_neg (by omega)]
      by_cases e2 : 65536 < n2
      · have b2 : decide ((65536 : Int) < (n2 : Int)) = true := decide_eq_true (by omega)
        clear e0 e1 e2 hn
        go_enter Tryz.func13, Tryz.ntmps13
        go_wp2_with fail
        go_ret2
        exact ⟨rfl, rfl⟩
      · have b2 : decide ((65536 : Int) < (n2 : Int)) = false := decide_eq_false (by omega)
        have b3 : decide ((65536 : Int) < (n3 : Int)) = true := decide_eq_true (by omega)
        clear e0 e1 e2 hn
        go_enter Tryz.func13, Tryz.ntmps13
        go_wp2_with fail
        go_ret2
        exact ⟨rfl, rfl⟩
    · have b1 : ((n1 : Int) != 12) = true := by simpa using fun h => e1 (by omega)
      rw [if_pos (by omega)]
      clear e0 e1 hn
      go_enter Tryz.func13, Tryz.ntmps13
      go_wp2_with fail
      go_ret2
      exact ⟨rfl, rfl⟩
  · have b0 : ((n0 : Int) != 32) = true := by simpa using fun h => e0 (by omega)
    rw [if_pos (by omega)]
    clear e0 hn
    go_enter Tryz.func13, Tryz.ntmps13
    go_wp2_with fail
    go_ret2
    exact ⟨rfl, rfl⟩

set_option maxHeartbeats 2000000 in
theorem refSeal_ (a0 a1 a2 a3 : Option Addr) (c0 c1 n2 c2 n3 c3 : Nat) (key nz ad t : List Nat) (w : World) (hb0 : Bs w a0 32 (ic key)) (hb1 : Bs w a1 12 (ic nz)) (hb2 : Bs w a2 n2 (ic ad)) (hb3 : Bs w a3 n3 (ic t)) (hy0 : ∀ x ∈ key, x < 256) (hy1 : ∀ x ∈ nz, x < 256) (hy2 : ∀ x ∈ ad, x < 256) (hy3 : ∀ x ∈ t, x < 256) (hn2 : n2 ≤ 65536) (hn3 : n3 ≤ 65536) :
    Calls Tryz.prog 13 #[.slice a0 32 c0, .slice a1 12 c1, .slice a2 n2 c2, .slice a3 n3 c3] w fun e w' => ∃ v, e = .returned (.tuple #[v, .int .i64 0]) ∧ w'.ownsRow w.heap.size 5 1 v (n3 + 16) (cells (ic (sl (kf key) nz ad t))) ∧ Below w.heap.size w w' := by
  obtain ⟨i, hi, hz0, hz1, hz2⟩ := info_parts info5
  have HK : Hid (∀ j, kf key j < 256) := kf_lt hy0
  have HL : Hid (t.length = n3) := by have := hb3.1; rw [ic_length] at this; exact this
  have b2 : decide ((65536 : Int) < (n2 : Int)) = false := decide_eq_false (by omega)
  have b3 : decide ((65536 : Int) < (n3 : Int)) = false := decide_eq_false (by omega)
  have k0 := fun w hb => refNewN_ a0 c0 key w hb
  generalize kf key = k at *
  have ks := fun g w hc hb ht => streamed_ g k a1 c1 nz a3 n3 c3 t w hc HK.out hb hy1 ht hy3 (by omega)
  have kt := fun g a cap w hc hb had hct => tag_ g k a1 c1 nz a2 n2 c2 ad a n3 cap (st k nz t) w hc HK.out hb hy1 had hy2 hct (st_lt HK.out hy1 hy3) (by omega) (by omega)
  have HSL : Hid (sl k nz ad t = st k nz t ++ tl k nz ad (st k nz t)) := rfl
  have HSB : Hid (∀ x ∈ st k nz t, x < 256) := st_lt HK.out hy1 hy3
  have HTG : Hid (∀ j, j < 16 → (tl k nz ad (st k nz t)).getD j 0 = tg k nz ad (st k nz t) j) := fun j hj => tl_get _ _ _ _ j hj
  have HTL : Hid ((tl k nz ad (st k nz t)).length = 16) := tl_length _ _ _ _
  generalize tg k nz ad (st k nz t) = G at *
  generalize tl k nz ad (st k nz t) = L at *
  generalize st k nz t = s at *
  go_enter Tryz.func13, Tryz.ntmps13
  go_wp2_with fail
  refine (k0 _ hb0).mono ?_
  rintro e w1 ⟨g, rfl, _, hc, B0⟩
  clear k0 b2 b3
  go_wp2_with fail
  refine (ks g _ hc (hb1.below B0) (hb3.below B0)).mono ?_
  rintro e w2 ⟨v, rfl, hown, g2⟩
  have hc := hc.kept g2
  have hown := own_le hown B0.size
  have B0 := bel_bel B0 B0.size g2
  obtain ⟨ka, kcap, rfl, kbs, _⟩ := own_form hown (ic_bytes HSB.out)
  clear g2 ks
  go_wp2_with fail
  refine (kt g ka kcap _ hc (hb1.below B0) (hb2.below B0) kbs).mono ?_
  rintro e w3 ⟨rfl, g2⟩
  have hown := own_kept hown g2
  have hob : ∀ q, (Value.slice ka n3 kcap).ownBlock = some q → q ≠ w3.heap.size := fun q hq => by have := (hown.lt q hq).2; omega
  have hown := hown.alloc (.cells (av G) 63)
  have B0 := bel_bel B0 B0.size g2
  have A0 := Ar.new w3 (av G)
  have hgt := B0.size
  have B0 := B0.alloc B0.size (.cells (av G) 63)
  clear g2 kt kbs hc
  go_wp2_with (refine wpList_stna rfl rfl _ _ rfl _ _ _ rfl rfl rfl (by rfl) ?_)
  generalize w3.heap.size = gt at *
  generalize w3.alloc (.cells (av G) 63) = w4 at *
  generalize Value.slice ka n3 kcap = v0 at *
  go_loopw [12, 14] (fun v i wr => ∃ j : Nat, j ≤ 16 ∧ i = .int .i64 j ∧ wr.ownsRow w.heap.size 5 1 v (n3 + j) (cells (ic (s ++ L.take j))) ∧ Hid (∀ q, v.ownBlock = some q → q ≠ gt) ∧ Ar wr gt (av G) ∧ Below w.heap.size w wr) (fun _ i _ => 16 - (intOf i).toNat)
  case atStart => exact ⟨0, by omega, rfl, by rw [List.take_zero, List.append_nil]; exact hown, hob, A0, B0⟩
  case round =>
    clear hown hob A0 B0
    obtain ⟨j, hj, rfl, hown, hob, A0, B0⟩ := hrel
    obtain ⟨v, rfl⟩ : ∃ v, v = u12 := ⟨_, rfl⟩
    have hsz := B0.size
    have hgl := A0.lt
    by_cases hlt : j < 16
    · have HN : Hid (cells (ic (s ++ L.take j)) ++ [.int .u8 (L.getD j 0 : Nat)] = cells (ic (s ++ L.take (j + 1)))) := ic_more s L j (by rw [HTL.out]; exact hlt)
      rw [HTG.out j hlt] at HN
      have c0 := A0.byte j hlt
      have l0 : n3 + j ≤ 70000 := by omega
      generalize (s ++ L.take j) = lj at *
      generalize G j = x at *
      go_wp2_with (at_builtin; refine wpList_append_lies _ rfl _ _ 22 rfl w.heap.size 5 i (.int .u8 0) 1 1 Tryz.underlying22 hi hz0 hz1 hz2 rfl (by decide) _ _ _ rfl (hown.alloc _) ⟨wr.heap.size, 0, none⟩ 1 1 [.int .u8 (x : Nat)] rfl rfl ?c1 ?c2 (by omega) ?c3 ?c4 ?c5 (wr.heap.size + 1) ?c6 ?_)
      case c1 =>
        intro j u hj
        match j, hj with
        | 0, hj => simp at hj; subst hj; simp [Addr.add]
      case c2 => intro u hu; simp at hu; subst hu; rfl
      case c3 => unfold maxLen; omega
      case c4 => omega
      case c5 => simp; omega
      case c6 => simp
      intro g' cap' w5 hown' hgrow hat hltg
      have hown2 : w5.ownsRow w.heap.size 5 1 (.slice (some ⟨g', 0, none⟩) (n3 + j + 1) cap') (n3 + (j + 1)) (cells (ic (s ++ L.take (j + 1)))) := by rw [← HN.out]; exact hown'
      have B2 : Below w.heap.size w w5 := (B0.alloc hsz _).grown hgrow (by simp; omega) fun q hq => (hown.lt q hq).1
      have A2 : Ar w5 gt (av G) := by
        have h0 := A0.alloc (.cells #[.int .u8 (x : Nat)] 5)
        unfold Ar at *
        rw [hgrow.block gt (by simp; omega) (fun e => hob.out gt e.symm rfl)]
        exact h0
      have ho2 : Hid (∀ q, (Value.slice (some ⟨g', 0, none⟩) (n3 + j + 1) cap').ownBlock = some q → q ≠ gt) := fun q hq => by
        obtain rfl : g' = q := by simpa [Value.ownBlock] using hq
        rcases hat with h | h
        · exact hob.out _ h
        · omega
      clear hown' hgrow hown HN hat hltg A0 B0 hob c0
      go_wp2_with fail
      go_roundw
      case rel => exact ⟨j + 1, by omega, by go_num, hown2, ho2, A2, B2⟩
      case measure => simp [intOf]; omega
    · have hge : ¬ (j : Int) < 16 := by omega
      have e : j = 16 := by omega
      rw [e, List.take_of_length_le (by rw [HTL.out]; omega), ← HSL.out] at hown
      clear e
      go_wp2_with fail
      go_ret2
      exact ⟨_, rfl, hown, B0⟩
end Go.Proofs.YtmnmmkonkimjeaaGreatDoor
