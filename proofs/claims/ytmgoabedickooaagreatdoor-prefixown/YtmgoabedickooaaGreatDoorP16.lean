import Derived.Test.YtmgoabedickooaaGreatDoorP15
namespace Go.Proofs.YtmgoabedickooaaGreatDoor
set_option maxRecDepth 100000
open Go.RowKit
set_option linter.unusedVariables false

/-! The guess of an address's text is that address. -/
theorem cq_skip (c : Nat) (x : List Nat) (hx : ∀ z ∈ x, z ≠ c) (l : List Nat) : ∀ cur, cq c cur (x ++ l) = cq c (cur ++ x) l := by
  induction x with
  | nil => intro cur; simp
  | cons a x ih =>
    intro cur
    rw [List.cons_append, cq, if_neg (hx a (List.mem_cons_self ..)), ih (fun z hz => hx z (List.mem_cons_of_mem _ hz))]
    simp
theorem cu_cons (c : Nat) (x l : List Nat) (hx : ∀ z ∈ x, z ≠ c) : cu c (x ++ c :: l) = x :: cu c l := by
  unfold cu
  rw [cq_skip c x hx, cq, if_pos rfl]
  rfl
theorem cu_one (c : Nat) (x : List Nat) (hx : ∀ z ∈ x, z ≠ c) : cu c x = [x] := by
  have := cq_skip c x hx [] []
  rw [List.append_nil] at this
  unfold cu
  rw [this]
  rfl
theorem nr_dec (l : List Nat) (hl : ∀ z ∈ l, 48 ≤ z ∧ z ≤ 57) : ∀ n, nr 10 n l = some (l.foldl (fun x z => x * 10 + (z - 48)) n) := by
  induction l with
  | nil => intro n; rfl
  | cons a l ih =>
    intro n
    have ha := hl a (List.mem_cons_self ..)
    have e : dg a = (a : Int) - 48 := by unfold dg; rw [if_pos ha]
    rw [nr, e, if_pos (by omega), ih (fun z hz => hl z (List.mem_cons_of_mem _ hz)), List.foldl_cons]
    rw [show ((a : Int) - 48).toNat = a - 48 by omega]
theorem nm_dgs (a : Nat) (h : a < 1000) : nm 10 (dgs a 1) = a := by
  have h1 : (dgs a 1).length ≤ 3 ∧ 0 < (dgs a 1).length := by
    have := (cnt_lt 3 a).2 (by omega)
    unfold dgs
    rw [dl_length]
    unfold dn
    rw [Nat.max_def]
    split <;> omega
  unfold nm
  rw [if_neg (by omega), nr_dec (dgs a 1) (dl_digit _ _)]
  have := dv_dgs a 1
  unfold dv at this
  rw [this]
theorem e1_dgs (a : Nat) (h : a < 256) : e1 (dgs a 1) = a := by
  unfold e1
  rw [nm_dgs a (by omega)]
  omega
theorem dgs_not (a c : Nat) (h : c < 48) : ∀ z ∈ dgs a 1, z ≠ c := fun z hz => by
  have := dl_digit _ _ z hz
  omega
theorem dg_hd : ∀ y, y < 16 → dg (hd y) = y := by decide
theorem e2_hx (a b : Nat) (ha : a < 256) (hb : b < 256) : e2 (hx a ++ hx b) = [(a : Int), (b : Int)] := by
  have q1 := dg_hd (a / 16) (by omega)
  have q2 := dg_hd (a % 16) (by omega)
  have q3 := dg_hd (b / 16) (by omega)
  have q4 := dg_hd (b % 16) (by omega)
  have e : nm 16 (hx a ++ hx b) = (a : Int) * 256 + b := by
    unfold hx
    show nm 16 [hd (a / 16), hd (a % 16), hd (b / 16), hd (b % 16)] = _
    generalize hd (a / 16) = w1 at *
    generalize hd (a % 16) = w2 at *
    generalize hd (b / 16) = w3 at *
    generalize hd (b % 16) = w4 at *
    unfold nm
    rw [if_neg (by simp)]
    unfold nr
    rw [q1, if_pos (by omega)]
    unfold nr
    rw [q2, if_pos (by omega)]
    unfold nr
    rw [q3, if_pos (by omega)]
    unfold nr
    rw [q4, if_pos (by omega)]
    unfold nr
    show ((_ : Nat) : Int) = _
    omega
  unfold e2
  rw [e, Int.tdiv_eq_ediv_of_nonneg (by omega)]
  rw [show ((a : Int) * 256 + b) / 256 = a by omega, show ((a : Int) * 256 + b) % 256 = b by omega]
theorem hx_not (a c : Nat) (h : a < 256) (hc : c < 48 ∨ c = 58) : ∀ z ∈ hx a, z ≠ c := fun z hz => by
  have b1 := hd_lt (a / 16) (by omega)
  have b2 := hd_lt (a % 16) (by omega)
  unfold hx at hz
  simp at hz
  rcases hz with rfl | rfl <;> omega
theorem hx2_not (a b c : Nat) (h : a < 256) (h' : b < 256) (hc : c < 48 ∨ c = 58) : ∀ z ∈ hx a ++ hx b, z ≠ c := fun z hz => by
  rcases List.mem_append.1 hz with q | q
  · exact hx_not a c h hc z q
  · exact hx_not b c h' hc z q
theorem not_cons (c d : Nat) (x l : List Nat) (hd : d ≠ c) (h1 : ∀ z ∈ x, z ≠ c) (h2 : ∀ z ∈ l, z ≠ c) : ∀ z ∈ x ++ d :: l, z ≠ c := fun z hz => by
  rcases List.mem_append.1 hz with q | q
  · exact h1 z q
  · rcases List.mem_cons.1 q with rfl | q
    · exact hd
    · exact h2 z q
theorem tx4 (a b c d : Nat) : tx [a, b, c, d] = dgs a 1 ++ 46 :: (dgs b 1 ++ 46 :: (dgs c 1 ++ 46 :: dgs d 1)) := by
  unfold tx txj
  show (List.range 4).flatMap (pc 4 [a, b, c, d]) = _
  rw [show List.range 4 = [0, 1, 2, 3] from rfl]
  simp [pc]
theorem tx16 (a0 a1 a2 a3 a4 a5 a6 a7 a8 a9 a10 a11 a12 a13 a14 a15 : Nat) : tx [a0, a1, a2, a3, a4, a5, a6, a7, a8, a9, a10, a11, a12, a13, a14, a15] = (hx a0 ++ hx a1) ++ 58 :: ((hx a2 ++ hx a3) ++ 58 :: ((hx a4 ++ hx a5) ++ 58 :: ((hx a6 ++ hx a7) ++ 58 :: ((hx a8 ++ hx a9) ++ 58 :: ((hx a10 ++ hx a11) ++ 58 :: ((hx a12 ++ hx a13) ++ 58 :: ((hx a14 ++ hx a15)))))))) := by
  unfold tx txj
  show (List.range 16).flatMap (pc 16 [a0, a1, a2, a3, a4, a5, a6, a7, a8, a9, a10, a11, a12, a13, a14, a15]) = _
  rw [show List.range 16 = [0, 1, 2, 3, 4, 5, 6, 7, 8, 9, 10, 11, 12, 13, 14, 15] from rfl]
  simp [pc]
theorem gB4 (a b c d : Nat) (ha : a < 256) (hb : b < 256) (hc : c < 256) (hd : d < 256) : gB (tx [a, b, c, d]) = [(a : Int), (b : Int), (c : Int), (d : Int)] := by
  have e : cu 46 (tx [a, b, c, d]) = [dgs a 1, dgs b 1, dgs c 1, dgs d 1] := by
    rw [tx4, cu_cons _ _ _ (dgs_not a 46 (by decide)), cu_cons _ _ _ (dgs_not b 46 (by decide)), cu_cons _ _ _ (dgs_not c 46 (by decide)), cu_one _ _ (dgs_not d 46 (by decide))]
  unfold gB
  rw [e, if_pos (by simp)]
  simp only [List.map_cons, List.map_nil, e1_dgs a ha, e1_dgs b hb, e1_dgs c hc, e1_dgs d hd]
theorem gB16 (a0 a1 a2 a3 a4 a5 a6 a7 a8 a9 a10 a11 a12 a13 a14 a15 : Nat) (h0 : a0 < 256) (h1 : a1 < 256) (h2 : a2 < 256) (h3 : a3 < 256) (h4 : a4 < 256) (h5 : a5 < 256) (h6 : a6 < 256) (h7 : a7 < 256) (h8 : a8 < 256) (h9 : a9 < 256) (h10 : a10 < 256) (h11 : a11 < 256) (h12 : a12 < 256) (h13 : a13 < 256) (h14 : a14 < 256) (h15 : a15 < 256) : gB (tx [a0, a1, a2, a3, a4, a5, a6, a7, a8, a9, a10, a11, a12, a13, a14, a15]) = [(a0 : Int), (a1 : Int), (a2 : Int), (a3 : Int), (a4 : Int), (a5 : Int), (a6 : Int), (a7 : Int), (a8 : Int), (a9 : Int), (a10 : Int), (a11 : Int), (a12 : Int), (a13 : Int), (a14 : Int), (a15 : Int)] := by
  have e : cu 58 (tx [a0, a1, a2, a3, a4, a5, a6, a7, a8, a9, a10, a11, a12, a13, a14, a15]) = [hx a0 ++ hx a1, hx a2 ++ hx a3, hx a4 ++ hx a5, hx a6 ++ hx a7, hx a8 ++ hx a9, hx a10 ++ hx a11, hx a12 ++ hx a13, hx a14 ++ hx a15] := by
    rw [tx16, cu_cons _ _ _ (hx2_not a0 a1 58 h0 h1 (.inr rfl)), cu_cons _ _ _ (hx2_not a2 a3 58 h2 h3 (.inr rfl)), cu_cons _ _ _ (hx2_not a4 a5 58 h4 h5 (.inr rfl)), cu_cons _ _ _ (hx2_not a6 a7 58 h6 h7 (.inr rfl)), cu_cons _ _ _ (hx2_not a8 a9 58 h8 h9 (.inr rfl)), cu_cons _ _ _ (hx2_not a10 a11 58 h10 h11 (.inr rfl)), cu_cons _ _ _ (hx2_not a12 a13 58 h12 h13 (.inr rfl)), cu_one _ _ (hx2_not a14 a15 58 h14 h15 (.inr rfl))]
  have e' : cu 46 (tx [a0, a1, a2, a3, a4, a5, a6, a7, a8, a9, a10, a11, a12, a13, a14, a15]) = [tx [a0, a1, a2, a3, a4, a5, a6, a7, a8, a9, a10, a11, a12, a13, a14, a15]] := by
    apply cu_one
    rw [tx16]
    exact not_cons 46 58 _ _ (by decide) (hx2_not a0 a1 46 h0 h1 (.inl (by decide))) <| not_cons 46 58 _ _ (by decide) (hx2_not a2 a3 46 h2 h3 (.inl (by decide))) <| not_cons 46 58 _ _ (by decide) (hx2_not a4 a5 46 h4 h5 (.inl (by decide))) <| not_cons 46 58 _ _ (by decide) (hx2_not a6 a7 46 h6 h7 (.inl (by decide))) <| not_cons 46 58 _ _ (by decide) (hx2_not a8 a9 46 h8 h9 (.inl (by decide))) <| not_cons 46 58 _ _ (by decide) (hx2_not a10 a11 46 h10 h11 (.inl (by decide))) <| not_cons 46 58 _ _ (by decide) (hx2_not a12 a13 46 h12 h13 (.inl (by decide))) <| hx2_not a14 a15 46 h14 h15 (.inl (by decide))
  unfold gB
  rw [e', if_neg (by simp), e, if_pos (by simp)]
  simp only [List.take_succ_cons, List.take_nil, List.flatMap_cons, List.flatMap_nil, e2_hx a0 a1 h0 h1, e2_hx a2 a3 h2 h3, e2_hx a4 a5 h4 h5, e2_hx a6 a7 h6 h7, e2_hx a8 a9 h8 h9, e2_hx a10 a11 h10 h11, e2_hx a12 a13 h12 h13, e2_hx a14 a15 h14 h15, List.cons_append, List.nil_append]
theorem ic_nl {l : List Int} (h : ∀ z ∈ l, 0 ≤ z ∧ z ≤ 255) : ic (nl l) = l := by
  unfold ic nl
  rw [List.map_map]
  induction l with
  | nil => rfl
  | cons a l ih =>
    rw [List.map_cons, ih (fun z hz => h z (List.mem_cons_of_mem _ hz))]
    have := h a (List.mem_cons_self ..)
    congr 1
    show ((a.toNat : Nat) : Int) = a
    omega
theorem gB_tx (p : List Nat) (hp : ∀ x ∈ p, x < 256) (hl : p.length = 4 ∨ p.length = 16) : gB (tx p) = ic p := by
  rcases hl with hl | hl
  · match p, hl, hp with
    | [a, b, c, d], _, hp => exact gB4 a b c d (hp a (by simp)) (hp b (by simp)) (hp c (by simp)) (hp d (by simp))
  · match p, hl, hp with
    | [a0, a1, a2, a3, a4, a5, a6, a7, a8, a9, a10, a11, a12, a13, a14, a15], _, hp => exact gB16 a0 a1 a2 a3 a4 a5 a6 a7 a8 a9 a10 a11 a12 a13 a14 a15 (hp a0 (by simp)) (hp a1 (by simp)) (hp a2 (by simp)) (hp a3 (by simp)) (hp a4 (by simp)) (hp a5 (by simp)) (hp a6 (by simp)) (hp a7 (by simp)) (hp a8 (by simp)) (hp a9 (by simp)) (hp a10 (by simp)) (hp a11 (by simp)) (hp a12 (by simp)) (hp a13 (by simp)) (hp a14 (by simp)) (hp a15 (by simp))
theorem guess_ta (F H L : Int) (hv : va F H L = true) (hH : InU H) (hL : InU L) : gB (ta F H L) = pa F H L ∧ gF (ta F H L) = F ∧ ah (gB (ta F H L)) = H ∧ al (gB (ta F H L)) = L := by
  obtain ⟨hn, hA⟩ := va_in hv hH hL
  have hl : (pa F H L).length = nb F / 8 := by rw [pa_length, hv]; rfl
  have e : gB (ta F H L) = pa F H L := by
    unfold ta
    rw [gB_tx _ (nl_lt (pa_byte F H L)) (by rw [nl_length, hl]; omega), ic_nl (pa_byte F H L)]
  have eF : gF (ta F H L) = F := by
    unfold gF
    rw [e, hl]
    have hF := of_decide_eq_true (show decide _ = true from hv)
    rcases hF with rfl | ⟨rfl, _⟩ <;> rfl
  have eV : val (pa F H L) = ad H L := by
    unfold pa
    rw [hv, if_pos rfl, val_be]
    apply Int.emod_eq_of_lt hA.1
    rcases hn with h | h <;> rw [h] at hA ⊢ <;> exact hA.2
  refine ⟨e, eF, ?_, ?_⟩
  · rw [e]; unfold ah; rw [eV]; unfold ad; unfold InU at *; omega
  · rw [e]; unfold al; rw [eV]; unfold ad; unfold InU at *; omega
end Go.Proofs.YtmgoabedickooaaGreatDoor
