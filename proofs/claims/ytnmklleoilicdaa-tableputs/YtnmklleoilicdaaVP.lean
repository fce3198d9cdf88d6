import Derived.Test.YtnmklleoilicdaaTG
namespace Go.Proofs.Ytnmklleoilicdaa
set_option maxRecDepth 100000
set_option linter.unusedVariables false

/-! Sets read one by one: what the document's GetSets does. -/
theorem enc_pre : ∀ (d l : List Sx) (r : List Int), allMay d = true → allMay l = true → enc d ++ r = enc l → ∃ l', l = d ++ l' ∧ enc l' = r
  | [], l, r, _, _, h => ⟨l, rfl, by simpa [enc] using h.symm⟩
  | s :: d, [], r, _, _, h => by
    have := congrArg List.length h
    have e : enc (s :: d) = enc1 s ++ enc d := by simp [enc]
    rw [e, List.length_append, List.length_append, enc1_len] at this
    simp [enc] at this
  | s :: d, s' :: l, r, hd, hl, h => by
    unfold allMay at hd hl
    rw [List.all_cons, Bool.and_eq_true] at hd hl
    have e : ∀ (s : Sx) (d : List Sx), enc (s :: d) = enc1 s ++ enc d := fun s d => by simp [enc]
    rw [e, e, List.append_assoc] at h
    have h1 := rd1_enc hd.1 (enc d ++ r)
    rw [h, rd1_enc hl.1] at h1
    simp only [Prod.mk.injEq, Option.some.injEq] at h1
    obtain ⟨l', h2, h3⟩ := enc_pre d l r hd.2 hl.2 h1.2.symm
    exact ⟨l', by rw [h1.1, h2]; rfl, h3⟩
theorem okFrom_at {d l2 : List Sx} {s : Sx} {last : List Int} (h : okFrom last (d ++ s :: l2) = true) : mayS s = true ∧ lx (lkey last d) s.k = true := by
  have h1 : okFrom last (d ++ [s]) = true := okFrom_pre (d ++ [s]) l2 last (by simpa using h)
  rw [okFrom_snoc, Bool.and_eq_true, Bool.and_eq_true] at h1
  exact h1.2
theorem dg_none {d : List Sx} {r zs : List Int} (hd : okFrom [] d = true) (hz : enc d ++ r = zs) (hr : r ≠ []) (h : ∀ s r', r = enc1 s ++ r' → mayS s = true → lx (lkey [] d) s.k = true → False) : gs zs = none := by
  cases e : gs zs with
  | none => rfl
  | some l =>
    obtain ⟨h1, h2, _⟩ := gs_some e
    obtain ⟨l', h3, h4⟩ := enc_pre d l r (okFrom_may hd) (okFrom_may h1) (hz.trans h2.symm)
    cases l' with
    | nil => exact absurd h4.symm hr
    | cons s l2 =>
      unfold okS at h1
      rw [h3] at h1
      obtain ⟨k1, k2⟩ := okFrom_at h1
      exact (h s (enc l2) (by rw [← h4]; simp [enc]) k1 k2).elim
/-- What is read at the head of r. -/
def dgK (r : List Int) : Nat := (r.getD 1 0).toNat
def dgV (r : List Int) : Nat := (r.getD 2 0 * 256 + r.getD 3 0).toNat
def dgS (r : List Int) : Sx := ⟨(r.drop 4).take (dgK r), ((r.drop 4).drop (dgK r)).take (dgV r), decide (r.getD 0 0 = 0)⟩
theorem dg_form {s : Sx} {r r' : List Int} (h : r = enc1 s ++ r') (hm : mayS s = true) : 4 + dgK r + dgV r ≤ r.length ∧ r.getD 0 0 ≤ 1 ∧ dgS r = s := by
  have hk := mayS_key hm
  have hv := mayS_val hm
  have e1 : ((s.k.length : Int) % 256).toNat = s.k.length := by omega
  have e2 : ((s.v.length : Int) / 256 % 256 * 256 + (s.v.length : Int) % 256).toNat = s.v.length := by omega
  unfold enc1 at h
  rw [be1, be2] at h
  simp only [List.cons_append, List.nil_append, List.append_assoc] at h
  have hK : dgK r = s.k.length := by rw [h]; unfold dgK; simpa using e1
  have hV : dgV r = s.v.length := by rw [h]; unfold dgV; simpa using e2
  have hD : r.drop 4 = s.k ++ (s.v ++ r') := by rw [h]; rfl
  refine ⟨?_, ?_, ?_⟩
  · rw [hK, hV, h]
    simp only [List.length_cons, List.length_append]
    omega
  · rw [h]
    simp only [List.getD_cons_zero]
    split <;> omega
  · unfold dgS
    rw [hD, hK, hV]
    have f1 : (s.k ++ (s.v ++ r')).drop s.k.length = s.v ++ r' := by simp
    have f2 : (s.k ++ (s.v ++ r')).take s.k.length = s.k := by simp
    have f3 : (s.v ++ r').take s.v.length = s.v := by simp
    rw [f1, f2, f3, h]
    obtain ⟨k, v, g⟩ := s
    cases g <;> simp
theorem dg_yes {r : List Int} (hb : Okb r) (h4 : 4 + dgK r + dgV r ≤ r.length) (h0 : r.getD 0 0 ≤ 1) : r = enc1 (dgS r) ++ r.drop (4 + dgK r + dgV r) := by
  match r, hb, h4, h0 with
  | [], _, h4, _ => simp only [List.length_nil] at h4; omega
  | [_], _, h4, _ => simp only [List.length_cons, List.length_nil] at h4; omega
  | [_, _], _, h4, _ => simp only [List.length_cons, List.length_nil] at h4; omega
  | [_, _, _], _, h4, _ => simp only [List.length_cons, List.length_nil] at h4; omega
  | x :: a :: b :: c :: t, hb, h4, h0 =>
    have hx := hb x (by simp)
    have ha := hb a (by simp)
    have hbb := hb b (by simp)
    have hc := hb c (by simp)
    have eK : dgK (x :: a :: b :: c :: t) = a.toNat := rfl
    have eV : dgV (x :: a :: b :: c :: t) = (b * 256 + c).toNat := rfl
    have eS : dgS (x :: a :: b :: c :: t) = ⟨t.take a.toNat, (t.drop a.toNat).take (b * 256 + c).toNat, decide (x = 0)⟩ := rfl
    rw [eK, eV] at h4 ⊢
    rw [eS]
    simp only [List.length_cons] at h4
    unfold enc1
    have l1 : (t.take a.toNat).length = a.toNat := by rw [List.length_take]; omega
    have l2 : ((t.drop a.toNat).take (b * 256 + c).toNat).length = (b * 256 + c).toNat := by rw [List.length_take, List.length_drop]; omega
    simp only [l1, l2]
    rw [be1, be2]
    have hx' : (if decide (x = 0) = true then (0 : Int) else 1) = x := by
      have h0 : x ≤ 1 := h0
      by_cases e : x = 0
      · simp [e]
      · rw [if_neg (by simpa using e)]
        omega
    have ea : ((a.toNat : Nat) : Int) % 256 = a := by omega
    have eb : (((b * 256 + c).toNat : Nat) : Int) / 256 % 256 = b := by omega
    have ec : (((b * 256 + c).toNat : Nat) : Int) % 256 = c := by omega
    rw [hx', ea, eb, ec]
    have e4 : (x :: a :: b :: c :: t).drop (4 + a.toNat + (b * 256 + c).toNat) = (t.drop a.toNat).drop (b * 256 + c).toNat := by
      rw [show 4 + a.toNat + (b * 256 + c).toNat = (a.toNat + (b * 256 + c).toNat) + 4 by omega, List.drop_drop]
      rfl
    rw [e4]
    simp only [List.cons_append, List.nil_append, List.append_assoc]
    rw [List.take_append_drop, List.take_append_drop]
/-- It is refused. -/
theorem dg_short {d : List Sx} {r zs : List Int} (hd : okFrom [] d = true) (hz : enc d ++ r = zs) (hr : r ≠ []) (h : r.length < 4 + dgK r + dgV r ∨ 1 < r.getD 0 0) : gs zs = none :=
  dg_none hd hz hr fun s r' e hm _ => by
    obtain ⟨h1, h2, _⟩ := dg_form e hm
    rcases h with h | h <;> omega
theorem dg_few {d : List Sx} {r zs : List Int} (hd : okFrom [] d = true) (hz : enc d ++ r = zs) (hr : r ≠ []) (h : r.length < 4) : gs zs = none := dg_short hd hz hr (.inl (by omega))
theorem dg_bad {d : List Sx} {r zs : List Int} (hd : okFrom [] d = true) (hz : enc d ++ r = zs) (hr : r ≠ []) (h : (mayS (dgS r) && lx (lkey [] d) (dgS r).k) = false) : gs zs = none :=
  dg_none hd hz hr fun s r' e hm hl => by
    obtain ⟨_, _, h3⟩ := dg_form e hm
    rw [h3, hm, hl] at h
    cases h
theorem dg_end {d : List Sx} {zs : List Int} (hd : okFrom [] d = true) (hz : enc d ++ [] = zs) : gs zs = some d := by
  rw [← hz, List.append_nil]
  exact gs_enc hd
theorem dg_on {d : List Sx} {r zs : List Int} (hb : Okb r) (hd : okFrom [] d = true) (hz : enc d ++ r = zs) (h4 : 4 + dgK r + dgV r ≤ r.length) (h0 : r.getD 0 0 ≤ 1) (h : (mayS (dgS r) && lx (lkey [] d) (dgS r).k) = true) : okFrom [] (d ++ [dgS r]) = true ∧ enc (d ++ [dgS r]) ++ r.drop (4 + dgK r + dgV r) = zs := by
  refine ⟨by rw [okFrom_snoc, hd, h]; rfl, ?_⟩
  rw [enc_snoc, List.append_assoc, ← dg_yes hb h4 h0, hz]
theorem dg_len {r : List Int} (h4 : 4 + dgK r + dgV r ≤ r.length) : (dgS r).k.length = dgK r ∧ (dgS r).v.length = dgV r := by
  unfold dgS
  simp only [List.length_take, List.length_drop]
  omega
theorem lkey_at : ∀ {l : List Sx} {i : Nat}, i < l.length → lkey [] (l.take (i + 1)) = (l.getD i default).k := by
  intro l i hi
  rw [take_snoc hi, lkey_snoc]
end Go.Proofs.Ytnmklleoilicdaa
