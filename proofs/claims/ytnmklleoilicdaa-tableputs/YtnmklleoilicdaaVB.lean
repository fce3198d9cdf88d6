import Derived.Test.YtnmklleoilicdaaUJ
namespace Go.Proofs.Ytnmklleoilicdaa
set_option maxRecDepth 100000
open Go.RowKit Go.Shelf Go.Maps
set_option linter.unusedVariables false

set_option maxHeartbeats 1000000 in
/-- The document's May. -/
theorem rmay_ (ka va : Option Addr) (kc vc : Nat) (s : Sx) (w : World) (hk : s.k.length ≤ maxLen) (hv : s.v.length ≤ maxLen) :
    Calls Try.prog 42 #[.agg #[.slice ka s.k.length kc, .slice va s.v.length vc, .bool s.g]] w fun e w' => e = .returned (.bool (mayS s)) ∧ Below w.heap.size w w' := by
  obtain ⟨k, v, g⟩ := s
  unfold mayS
  simp only at hk hv ⊢
  obtain ⟨n, hn⟩ : ∃ n, k.length = n := ⟨_, rfl⟩
  obtain ⟨m, hm⟩ : ∃ m, v.length = m := ⟨_, rfl⟩
  rw [hn, hm] at *
  unfold maxLen at hk hv
  clear hn hm
  have B := fun o => (Below.refl w.heap.size w).alloc (Nat.le_refl _) o
  by_cases h1 : n < 1
  · obtain rfl : n = 0 := by omega
    rw [show (decide (1 ≤ 0)) = false from rfl]
    simp only [Bool.false_and]
    go_enter Try.func42, Try.ntmps42
    go_wp2_with fail
    go_ret
    exact ⟨rfl, B _⟩
  have e1 : ¬ (n : Int) < 1 := by omega
  rw [show (decide (1 ≤ n)) = true from decide_eq_true (by omega)]
  by_cases h2 : 40 < n
  · have e2 : (n : Int) > 40 := by omega
    rw [show (decide (n ≤ 40)) = false from decide_eq_false (by omega)]
    simp only [Bool.and_false, Bool.false_and]
    go_enter Try.func42, Try.ntmps42
    go_wp2_with fail
    go_ret
    exact ⟨rfl, B _⟩
  have e2 : ¬ (n : Int) > 40 := by omega
  rw [show (decide (n ≤ 40)) = true from decide_eq_true (by omega)]
  by_cases h3 : 480 < m
  · have e3 : (m : Int) > 480 := by omega
    rw [show (if g = true then decide (m = 0) else decide (m ≤ 480)) = false by
      cases g
      · exact decide_eq_false (by omega)
      · exact decide_eq_false (by omega)]
    simp only [Bool.and_false]
    go_enter Try.func42, Try.ntmps42
    go_wp2_with fail
    go_ret
    exact ⟨rfl, B _⟩
  have e3 : ¬ (m : Int) > 480 := by omega
  cases g
  · rw [show (if false = true then decide (m = 0) else decide (m ≤ 480)) = true from decide_eq_true (by omega)]
    simp only [Bool.and_true]
    go_enter Try.func42, Try.ntmps42
    go_wp2_with fail
    go_ret
    exact ⟨rfl, B _⟩
  · by_cases h0 : m = 0
    · subst h0
      simp only [if_true, Bool.and_true, decide_true]
      go_enter Try.func42, Try.ntmps42
      go_wp2_with fail
      go_ret
      exact ⟨rfl, B _⟩
    · have e4 : ¬ (m : Int) = 0 := by omega
      simp only [if_true, decide_eq_false h0, Bool.and_false]
      go_enter Try.func42, Try.ntmps42
      go_wp2_with fail
      go_ret
      exact ⟨congrArg (fun b => Ending.returned (Value.bool b)) (beq_eq_false_iff_ne.2 e4), B _⟩
theorem be_get (x : Int) : ∀ (n k : Nat), k < n → (be n x).getD k 0 = x / 256 ^ (n - 1 - k) % 256
  | n + 1, 0, _ => by simp [be]
  | n + 1, k + 1, h => by
    have := be_get x n k (by omega)
    rw [show n + 1 - 1 - (k + 1) = n - 1 - k by omega]
    simpa [be] using this
theorem pow256 (e : Nat) : (256 : Int) ^ e = 2 ^ (8 * e) := by
  rw [show (256 : Int) = 2 ^ 8 by decide, ← Int.pow_mul]
set_option maxHeartbeats 1000000 in
theorem rnumber_ (B m n : Nat) (v : Value) (X : List Int) (x : Int) (w : World) (ho : w.ownsRow B 5 1 v m (cells X)) (hX : X.length = m) (hB : B ≤ w.heap.size) (hx : 0 ≤ x ∧ x ≤ 1000000) (hn : n ≤ 2) (hm : m ≤ 100000000) :
    Calls Try.prog 64 #[v, .int .i64 x, .int .i64 n] w fun e w' => ∃ v', e = .returned v' ∧ w'.ownsRow B 5 1 v' (m + n) (cells (X ++ be n x)) ∧ Below B w w' := by
  obtain ⟨i5, hi, hz0, hz1, hz2⟩ := info_parts info5
  have HT := hid (be_get x n)
  have HTL : Hid ((be n x).length = n) := be_length n x
  generalize be n x = T at *
  have HO0 := hid ho
  clear ho
  go_enter Try.func64, Try.ntmps64
  go_wp2_with fail
  go_loopw [0, 7] (fun v i wr => ∃ k : Nat, k ≤ n ∧ i = .int .i64 ((n : Int) - 1 - k) ∧ Hid (wr.ownsRow B 5 1 v (m + k) (cells (X ++ T.take k))) ∧ Hid (Below B w wr)) (fun _ i _ => (intOf i + 1).toNat)
  case atStart => exact ⟨0, by omega, by simp, (by simpa [Hid] using HO0.out), Below.refl _ _⟩
  case round =>
    obtain ⟨k, hk, rfl, HO, HB⟩ := hrel
    have hsz : B ≤ wr.heap.size := Nat.le_trans hB HB.out.size
    by_cases hlt : k < n
    · obtain ⟨e, he⟩ : ∃ e : Nat, n = e + 1 + k := ⟨n - 1 - k, by omega⟩
      have hIe : ((n : Int) - 1 - k) = (e : Int) := by omega
      have he8 : e < 2 := by omega
      have HZ : Hid (x / 2 ^ (8 * e) % 256 = T.getD k 0) := by
        show _ = _
        rw [HT.out k hlt, pow256, show n - 1 - k = e from by omega]
      have HS : Hid (cells (X ++ T.take k) ++ [.int .u8 (x / 2 ^ (8 * e) % 256)] = cells (X ++ T.take (k + 1))) := by
        show _ = _
        rw [HZ.out, cells_append, cells_append, List.append_assoc]
        congr 1
        exact cells_take_succ T k (by rw [HTL.out]; omega)
      have HNX : Hid ((e : Int) - 1 = (n : Int) - 1 - ((k + 1 : Nat) : Int)) := by
        show _ = _
        omega
      have he0 : (0 : Int) ≤ (e : Int) := by omega
      have heI : (e : Int) < 8 := by omega
      obtain ⟨z, hz⟩ : ∃ z, x / 2 ^ (8 * e) % 256 = z := ⟨_, rfl⟩
      have hzb : 0 ≤ z ∧ z ≤ 255 := by rw [← hz]; omega
      rw [hz] at HS
      have HOA := hid (HO.out.alloc (.cells #[.int .u8 z] 5))
      have HBS : Hid (Bs (wr.alloc (.cells #[.int .u8 z] 5)) (some ⟨wr.heap.size, 0, none⟩) 1 [z]) := bs_lit wr [z] (0, 0) (Okb1 z hzb)
      have HSZ : Hid (B ≤ (wr.alloc (.cells #[.int .u8 z] 5)).heap.size) := by show _ ≤ _; simp; omega
      clear HZ he hlt
      simp only [hIe]
      go_wp2_with (at_builtin; refine wpList_appT rfl _ _ rfl B _ (m + k) (X ++ T.take k) rfl (by exact HOA.out) (some ⟨wr.heap.size, 0, none⟩) 1 1 [z] rfl (by exact HBS.out) (by omega) (by exact HSZ.out) ?_; intro v5 w5 o5 g5; have HO5 := hid o5; have HG5 := hid g5; clear o5 g5)
      have HO6 : Hid (w5.ownsRow B 5 1 v5 (m + (k + 1)) (cells (X ++ T.take (k + 1)))) := by
        have h := HO5.out
        rw [cells_append (X ++ T.take k) [z]] at h
        have e : cells (X ++ T.take k) ++ cells [z] = cells (X ++ T.take (k + 1)) := HS.out
        rw [e] at h
        exact h
      have HB5 : Hid (Below B w w5) := (HB.out.alloc hsz (.cells #[.int .u8 z] 5)).grown HG5.out (by exact HSZ.out) (fun p hp => (HO.out.lt p hp).1)
      clear HO5 HG5 HOA HBS
      go_roundw
      case rel => exact ⟨k + 1, by omega, by rw [← HNX.out], HO6, HB5⟩
      case measure => simp [intOf]
    · obtain rfl : k = n := by omega
      have hIe : ((k : Int) - 1 - k) = -1 := by omega
      have hfull : T.take k = T := List.take_of_length_le (by rw [HTL.out]; exact Nat.le_refl _)
      rw [hfull] at HO
      simp only [hIe]
      clear hlt hk
      go_wp2_with fail
      go_ret
      exact ⟨_, rfl, HO.out, HB.out⟩
end Go.Proofs.Ytnmklleoilicdaa
namespace Go.Proofs.Ytnmklleoilicdaa
set_option maxRecDepth 100000
open Go.RowKit Go.Shelf Go.Maps
set_option linter.unusedVariables false

theorem Vs.belowB {w w' : World} {B : Nat} {a : Option Addr} {n c : Nat} {v : List Int} (h : Vs w (fun x => x < B) a n c v) (hb : Below B w w') : Vs w' (fun x => x < B) a n c v := h.step fun x _ hx _ => hb.block x hx
set_option maxHeartbeats 2000000 in
/-- The document's row: one set's bytes behind b. -/
theorem rrow_ (B m : Nat) (v : Value) (X : List Int) (ka va : Option Addr) (kn kc vn vc : Nat) (s : Sx) (w : World) (ho : w.ownsRow B 5 1 v m (cells X)) (hX : X.length = m) (hB : B ≤ w.heap.size) (hk : Vs w (fun x => x < B) ka kn kc s.k) (hv : Vs w (fun x => x < B) va vn vc s.v) (hkn : kn ≤ 1000000) (hvn : vn ≤ 1000000) (hm : m ≤ 90000000) :
    Calls Try.prog 44 #[v, .slice ka kn kc, .slice va vn vc, .bool s.g] w fun e w' => ∃ v', e = .returned v' ∧ w'.ownsRow B 5 1 v' (m + (4 + kn + vn)) (cells (X ++ enc1 s)) ∧ Below B w w' := by
  have HO := hid ho
  have HK := hid hk
  have HV := hid hv
  have HKL : Hid (s.k.length = kn) := hk.bs.1
  have HVL : Hid (s.v.length = vn) := hv.bs.1
  have HE : Hid (enc1 s = (if s.g then 0 else 1) :: (be 1 kn ++ be 2 vn ++ s.k ++ s.v)) := by show _ = _; unfold enc1; rw [HKL.out, HVL.out]
  obtain ⟨g, HG⟩ : ∃ g, Hid (s.g = g) := ⟨_, rfl⟩
  rw [HG.out] at HE ⊢
  clear ho hk hv
  have HSZ : ∀ z : Int, Hid (B ≤ (w.alloc (.cells #[.int .u8 z] 5)).heap.size) := fun z => by show _ ≤ _; simp; omega
  have step : ∀ z : Int, 0 ≤ z ∧ z ≤ 255 → Hid ((w.alloc (.cells #[.int .u8 z] 5)).ownsRow B 5 1 v m (cells X)) ∧ Hid (Bs (w.alloc (.cells #[.int .u8 z] 5)) (some ⟨w.heap.size, 0, none⟩) 1 [z]) := fun z hz => ⟨HO.out.alloc _, bs_lit w [z] (0, 0) (Okb1 z hz)⟩
  cases g with
  | true =>
    obtain ⟨HOA, HBS⟩ := step 0 (by omega)
    have HS0 := HSZ 0
    clear step HSZ
    have HE' : Hid (enc1 s = [0] ++ be 1 kn ++ be 2 vn ++ s.k ++ s.v) := by rw [HE.out]; simp [Hid]
    clear HE
    go_enter Try.func44, Try.ntmps44
    go_wp2_with (at_builtin; refine wpList_appT rfl _ _ rfl B _ m X rfl (by exact HOA.out) (some ⟨w.heap.size, 0, none⟩) 1 1 [0] rfl (by exact HBS.out) (by omega) (by exact HS0.out) ?_; intro v5 w5 o5 g5; have HO5 := hid o5; have HG5 := hid g5; clear o5 g5; refine Hid.out ?_)
    refine hid ?_
    have HB5 : Hid (Below B w w5) := ((Below.refl B w).alloc hB (.cells #[.int .u8 0] 5)).grown HG5.out (by exact HS0.out) (fun p hp => (HO.out.lt p hp).1)
    have k1 := rnumber_ B (m + 1) 1 v5 (X ++ [0]) kn w5 HO5.out (by simp [hX]) (Nat.le_trans hB HB5.out.size) (by omega) (by omega) (by omega)
    clear HOA HBS HS0 HG5
    go_wp2_with fail
    refine k1.mono ?_
    rintro e w6 ⟨v6, rfl, o6, b6⟩
    have HB6 := hid (HB5.out.trans b6)
    have k2 := rnumber_ B (m + 1 + 1) 2 v6 (X ++ [0] ++ be 1 kn) vn w6 o6 (by simp [hX, be_length]) (Nat.le_trans hB HB6.out.size) (by omega) (by omega) (by omega)
    clear k1 o6 b6
    go_wp2_with fail
    refine k2.mono ?_
    rintro e w7 ⟨v7, rfl, o7, b7⟩
    have HB7 := hid (HB6.out.trans b7)
    have HO7 := hid o7
    have HK7 := hid (HK.out.belowB HB7.out).bs
    have HS7 : Hid (B ≤ w7.heap.size) := Nat.le_trans hB HB7.out.size
    clear k2 o7 b7
    go_wp2_with (at_builtin; refine wpList_appT rfl _ _ rfl B _ (m + 1 + 1 + 2) (X ++ [0] ++ be 1 kn ++ be 2 vn) rfl (by exact HO7.out) ka kn kc s.k rfl (by exact HK7.out) (by omega) (by exact HS7.out) ?_; intro v8 w8 o8 g8; have HO8 := hid o8; have HG8 := hid g8; clear o8 g8; refine Hid.out ?_)
    refine hid ?_
    have HB8 : Hid (Below B w w8) := HB7.out.grown HG8.out HS7.out (fun p hp => (HO7.out.lt p hp).1)
    have HV8 := hid (HV.out.belowB HB8.out).bs
    have HS8 : Hid (B ≤ w8.heap.size) := Nat.le_trans hB HB8.out.size
    clear HK7 HG8
    go_wp2_with (at_builtin; refine wpList_appT rfl _ _ rfl B _ (m + 1 + 1 + 2 + kn) (X ++ [0] ++ be 1 kn ++ be 2 vn ++ s.k) rfl (by exact HO8.out) va vn vc s.v rfl (by exact HV8.out) (by omega) (by exact HS8.out) ?_; intro v9 w9 o9 g9; have HO9 := hid o9; have HG9 := hid g9; clear o9 g9; refine Hid.out ?_)
    refine hid ?_
    have HB9 : Hid (Below B w w9) := HB8.out.grown HG9.out HS8.out (fun p hp => (HO8.out.lt p hp).1)
    have HOF : Hid (w9.ownsRow B 5 1 v9 (m + (4 + kn + vn)) (cells (X ++ enc1 s))) := by
      have h := HO9.out
      rw [show m + 1 + 1 + 2 + kn + vn = m + (4 + kn + vn) by omega] at h
      rw [HE'.out]
      refine hid ?_
      simpa only [List.append_assoc] using h
    clear HO9 HG9 HV8
    go_wp2_with fail
    go_ret
    exact ⟨_, rfl, HOF.out, HB9.out⟩
  | false =>
    obtain ⟨HOA, HBS⟩ := step 1 (by omega)
    have HS0 := HSZ 1
    clear step HSZ
    have HE' : Hid (enc1 s = [1] ++ be 1 kn ++ be 2 vn ++ s.k ++ s.v) := by rw [HE.out]; simp [Hid]
    clear HE
    go_enter Try.func44, Try.ntmps44
    go_wp2_with (at_builtin; refine wpList_appT rfl _ _ rfl B _ m X rfl (by exact HOA.out) (some ⟨w.heap.size, 0, none⟩) 1 1 [1] rfl (by exact HBS.out) (by omega) (by exact HS0.out) ?_; intro v5 w5 o5 g5; have HO5 := hid o5; have HG5 := hid g5; clear o5 g5; refine Hid.out ?_)
    refine hid ?_
    have HB5 : Hid (Below B w w5) := ((Below.refl B w).alloc hB (.cells #[.int .u8 1] 5)).grown HG5.out (by exact HS0.out) (fun p hp => (HO.out.lt p hp).1)
    have k1 := rnumber_ B (m + 1) 1 v5 (X ++ [1]) kn w5 HO5.out (by simp [hX]) (Nat.le_trans hB HB5.out.size) (by omega) (by omega) (by omega)
    clear HOA HBS HS0 HG5
    go_wp2_with fail
    refine k1.mono ?_
    rintro e w6 ⟨v6, rfl, o6, b6⟩
    have HB6 := hid (HB5.out.trans b6)
    have k2 := rnumber_ B (m + 1 + 1) 2 v6 (X ++ [1] ++ be 1 kn) vn w6 o6 (by simp [hX, be_length]) (Nat.le_trans hB HB6.out.size) (by omega) (by omega) (by omega)
    clear k1 o6 b6
    go_wp2_with fail
    refine k2.mono ?_
    rintro e w7 ⟨v7, rfl, o7, b7⟩
    have HB7 := hid (HB6.out.trans b7)
    have HO7 := hid o7
    have HK7 := hid (HK.out.belowB HB7.out).bs
    have HS7 : Hid (B ≤ w7.heap.size) := Nat.le_trans hB HB7.out.size
    clear k2 o7 b7
    go_wp2_with (at_builtin; refine wpList_appT rfl _ _ rfl B _ (m + 1 + 1 + 2) (X ++ [1] ++ be 1 kn ++ be 2 vn) rfl (by exact HO7.out) ka kn kc s.k rfl (by exact HK7.out) (by omega) (by exact HS7.out) ?_; intro v8 w8 o8 g8; have HO8 := hid o8; have HG8 := hid g8; clear o8 g8; refine Hid.out ?_)
    refine hid ?_
    have HB8 : Hid (Below B w w8) := HB7.out.grown HG8.out HS7.out (fun p hp => (HO7.out.lt p hp).1)
    have HV8 := hid (HV.out.belowB HB8.out).bs
    have HS8 : Hid (B ≤ w8.heap.size) := Nat.le_trans hB HB8.out.size
    clear HK7 HG8
    go_wp2_with (at_builtin; refine wpList_appT rfl _ _ rfl B _ (m + 1 + 1 + 2 + kn) (X ++ [1] ++ be 1 kn ++ be 2 vn ++ s.k) rfl (by exact HO8.out) va vn vc s.v rfl (by exact HV8.out) (by omega) (by exact HS8.out) ?_; intro v9 w9 o9 g9; have HO9 := hid o9; have HG9 := hid g9; clear o9 g9; refine Hid.out ?_)
    refine hid ?_
    have HB9 : Hid (Below B w w9) := HB8.out.grown HG9.out HS8.out (fun p hp => (HO8.out.lt p hp).1)
    have HOF : Hid (w9.ownsRow B 5 1 v9 (m + (4 + kn + vn)) (cells (X ++ enc1 s))) := by
      have h := HO9.out
      rw [show m + 1 + 1 + 2 + kn + vn = m + (4 + kn + vn) by omega] at h
      rw [HE'.out]
      refine hid ?_
      simpa only [List.append_assoc] using h
    clear HO9 HG9 HV8
    go_wp2_with fail
    go_ret
    exact ⟨_, rfl, HOF.out, HB9.out⟩
end Go.Proofs.Ytnmklleoilicdaa
