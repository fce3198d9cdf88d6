import Derived.Test.YtlepbncaicpmjaaWO
namespace Go.Proofs.Ytlepbncaicpmjaa
set_option maxRecDepth 100000
set_option linter.unusedVariables false

/-! What was with the changes done is what is. -/
theorem rct_all {ps : List Pr} {ls : List Ln} (h : rct ps ls = true) : (∀ x ∈ ps, (prow x).isSome) ∧ (∀ x ∈ ls, (lrw x).isSome) ∧ (rws ps ls).length = ps.length + ls.length ∧ (gth (rws ps ls)).length = (rws ps ls).length := by
  have h := of_decide_eq_true (show decide _ = true from h)
  have h1 := gth_len (rws ps ls)
  have h2 := List.length_filterMap_le prow ps
  have h3 := List.length_filterMap_le lrw ls
  have h4 : (rws ps ls).length = (ps.filterMap prow).length + (ls.filterMap lrw).length := List.length_append
  refine ⟨?_, ?_, by omega, by omega⟩
  · exact List.filterMap_length_eq_length.1 (by omega)
  · exact List.filterMap_length_eq_length.1 (by omega)
theorem ins_perm (k v : List Int) : ∀ (M : Tab), look M k = none → (ins k v M).Perm ((k, v) :: M)
  | [], _ => List.Perm.refl _
  | p :: M, h => by
    have hn := look_none.1 h
    have hp : p.1 ≠ k := hn p (by simp)
    have hM : look M k = none := look_none.2 fun q hq => hn q (by simp [hq])
    rw [ins, if_neg hp]
    split
    · exact List.Perm.refl _
    · exact ((ins_perm k v M hM).cons p).trans (List.Perm.swap _ _ _)
/-- Every row of the list lies in the table, if no two have one key. -/
theorem gth_perm : ∀ (n : Nat) (l : Tab), l.length = n → Rok l → (gth l).length = l.length → (gth l).Perm l
  | 0, l, hl, hr, h => by
    have : l = [] := List.length_eq_zero_iff.1 hl
    subst this
    exact List.Perm.refl _
  | n + 1, l, hl, hr, h => by
    have hne : l ≠ [] := fun e => by rw [e] at hl; cases hl
    obtain ⟨l', p, rfl⟩ : ∃ l' p, l = l' ++ [p] := ⟨l.dropLast, l.getLast hne, (List.dropLast_concat_getLast hne).symm⟩
    have hr' : Rok l' := fun q hq => hr q (by simp [hq])
    rw [gth_snoc] at h ⊢
    have hs := (gth_tok l' hr').srt
    have h1 := len_ins p.1 p.2 (gth l') hs
    have h2 := gth_len l'
    rw [List.length_append, List.length_singleton] at h hl
    have h3 : look (gth l') p.1 = none := by
      cases e : look (gth l') p.1 with
      | none => rfl
      | some z => rw [e] at h1; simp at h1; omega
    rw [h3] at h1
    simp at h1
    have h4 := gth_perm n l' (by omega) hr' (by omega)
    exact ((ins_perm p.1 p.2 _ h3).trans (h4.cons _)).trans (List.perm_append_singleton _ _).symm
theorem trn_perm {L L' : Tab} (s : List Sx) (h : L.Perm L') : (trn L s).Perm (trn L' s) := (h.filter _).append_right _
theorem hitS_iff {s : List Sx} {p : List Int × List Int} : hitS s p = true ↔ ∃ x ∈ s, x.k = p.1 := by
  unfold hitS
  rw [List.any_eq_true]
  constructor
  · rintro ⟨x, hx, h⟩
    exact ⟨x, hx, (of_decide_eq_true (show decide _ = true from h)).symm⟩
  · rintro ⟨x, hx, h⟩
    exact ⟨x, hx, by show decide _ = true; exact decide_eq_true h.symm⟩
/-- Every new row is one of those that were, the changes done. -/
theorem trn_mem {W I : Tab} (hW : Srt W) (hI : Srt I) (p : List Int × List Int) : p ∈ trn W (chg W I) ↔ p ∈ I := by
  obtain ⟨k, v⟩ := p
  unfold trn
  rw [List.mem_append, List.mem_filter, List.mem_filterMap]
  constructor
  · rintro (⟨h1, h2⟩ | ⟨x, hx, h⟩)
    · have hk := mem_look hW h1
      have hn : ¬ ∃ x ∈ chg W I, x.k = k := fun e => by
        have := hitS_iff (p := (k, v)).2 e
        rw [this] at h2
        cases h2
      apply look_mem
      cases hi : look I k with
      | none => exact absurd ⟨⟨k, [], true⟩, (mem_chg hW).2 (by show chg1 k (look W k) (look I k) = _; rw [hk, hi]; rfl), rfl⟩ hn
      | some u =>
        by_cases e : v = u
        · rw [e]
        · exact absurd ⟨⟨k, u, false⟩, (mem_chg hW).2 (by show chg1 k (look W k) (look I k) = _; rw [hk, hi]; simp [chg1, e]), rfl⟩ hn
    · have h0 := (mem_chg hW).1 hx
      unfold newS at h
      split at h
      · cases h
      · rename_i hg
        have h := Option.some.inj h
        have e1 : x.k = k := congrArg Prod.fst h
        have e2 : x.v = v := congrArg Prod.snd h
        apply look_mem
        rw [e1] at h0
        rw [← e2]
        cases hw : look W k with
        | none =>
          cases hi : look I k with
          | none => rw [hw, hi] at h0; cases h0
          | some u => rw [hw, hi] at h0; have := Option.some.inj h0; rw [← this]
        | some t =>
          cases hi : look I k with
          | none => rw [hw, hi] at h0; have := Option.some.inj h0; rw [← this] at hg; exact absurd rfl hg
          | some u =>
            rw [hw, hi] at h0
            simp only [chg1] at h0
            split at h0
            · cases h0
            · have := Option.some.inj h0; rw [← this]
  · intro h
    have hi := mem_look hI h
    by_cases hw : look W k = some v
    · left
      refine ⟨look_mem hw, ?_⟩
      cases hh : hitS (chg W I) (k, v) with
      | false => rfl
      | true =>
        obtain ⟨x, hx, e⟩ := hitS_iff.1 hh
        have h0 := (mem_chg hW).1 hx
        rw [show x.k = k from e, hw, hi] at h0
        simp [chg1] at h0
    · right
      refine ⟨⟨k, v, false⟩, (mem_chg hW).2 ?_, rfl⟩
      show chg1 k (look W k) (look I k) = _
      rw [hi]
      cases e : look W k with
      | none => rfl
      | some t =>
        have : t ≠ v := fun f => hw (by rw [e, f])
        simp [chg1, this]
theorem chg_self {W : Tab} (hW : Srt W) : chg W W = [] := by
  apply List.eq_nil_iff_forall_not_mem.2
  intro x hx
  have h0 := (mem_chg hW).1 hx
  cases e : look W x.k with
  | none => rw [e] at h0; cases h0
  | some t => rw [e] at h0; simp [chg1] at h0
end Go.Proofs.Ytlepbncaicpmjaa
namespace Go.Proofs.Ytlepbncaicpmjaa
set_option maxRecDepth 100000
set_option linter.unusedVariables false

/-! As many rows. -/
theorem len_sub : ∀ (l l' : Tab), l.Nodup → (∀ x ∈ l, x ∈ l') → l.length ≤ l'.length
  | [], l', _, _ => Nat.zero_le _
  | a :: l, l', hn, hs => by
    have hn := List.nodup_cons.1 hn
    have h1 := len_sub l (l'.erase a) hn.2 fun x hx => (List.mem_erase_of_ne (fun e => hn.1 (by rw [← e]; exact hx))).2 (hs x (by simp [hx]))
    have ha : a ∈ l' := hs a (by simp)
    rw [List.length_erase_of_mem ha] at h1
    have : 0 < l'.length := List.length_pos_of_mem ha
    rw [List.length_cons]
    omega
theorem len_same {l l' : Tab} (h : l.Nodup) (h' : l'.Nodup) (hs : ∀ x, x ∈ l ↔ x ∈ l') : l.length = l'.length :=
  Nat.le_antisymm (len_sub l l' h fun x hx => (hs x).1 hx) (len_sub l' l h' fun x hx => (hs x).2 hx)
theorem lx_irr (k : List Int) : lx k k = false := by
  cases h : lx k k with
  | false => rfl
  | true => exact absurd rfl (lx_ne h)
theorem srt_nodup {M : Tab} (h : Srt M) : M.Nodup := by
  refine List.Pairwise.imp ?_ h
  intro a b hab e
  rw [e, lx_irr] at hab
  cases hab
theorem trn_nodup {W I : Tab} (hW : Srt W) : (trn W (chg W I)).Nodup := by
  unfold trn
  refine List.nodup_append.2 ⟨(srt_nodup hW).filter _, ?_, ?_⟩
  · have h := chg_rises (W := W) (I := I) hW
    refine List.Pairwise.filterMap newS (R := fun x y => lx x.k y.k = true) ?_ h
    intro x y hxy p hp q hq e
    subst e
    unfold newS at hp hq
    split at hp
    · cases hp
    · split at hq
      · cases hq
      · have e1 := congrArg Prod.fst (Option.some.inj hp)
        have e2 := congrArg Prod.fst (Option.some.inj hq)
        simp only at e1 e2
        rw [e1, e2, lx_irr] at hxy
        cases hxy
  · intro a ha b hb e
    subst e
    obtain ⟨-, h2⟩ := List.mem_filter.1 ha
    obtain ⟨x, hx, h⟩ := List.mem_filterMap.1 hb
    have : hitS (chg W I) a = true := hitS_iff.2 ⟨x, hx, by
      unfold newS at h
      split at h
      · cases h
      · exact congrArg Prod.fst (Option.some.inj h)⟩
    rw [this] at h2
    cases h2
/-- What was with the changes done, as the law does it: as many rows as are, each of them there. -/
theorem turn_all {W I : Tab} (rW : Rok W) (rI : Rok I) (hW : (gth W).length = W.length) (hI : (gth I).length = I.length) :
    (trn W (chg (gth W) (gth I))).length = I.length ∧ ∀ p ∈ I, p ∈ trn W (chg (gth W) (gth I)) := by
  have sW := (gth_tok W rW).srt
  have sI := (gth_tok I rI).srt
  have p1 := gth_perm _ W rfl rW hW
  have p2 := gth_perm _ I rfl rI hI
  have p3 := trn_perm (chg (gth W) (gth I)) p1
  refine ⟨?_, fun p hp => p3.mem_iff.1 ((trn_mem sW sI p).2 (p2.mem_iff.2 hp))⟩
  rw [← p3.length_eq, len_same (trn_nodup sW) (srt_nodup sI) (trn_mem sW sI), p2.length_eq]
theorem uni_len : ∀ (I W : Tab), Srt W → (uni W I).length ≤ W.length + I.length
  | [], W, h => by simp [uni]
  | p :: I, W, h => by
    have h1 := uni_len I (ins p.1 p.2 W) (srt_ins p.1 p.2 W h)
    have h2 := len_ins p.1 p.2 W h
    have h3 : uni W (p :: I) = uni (ins p.1 p.2 W) I := rfl
    rw [h3, List.length_cons]
    split at h2 <;> omega
theorem chg_len {W I : Tab} (hW : Srt W) : (chg W I).length ≤ W.length + I.length := Nat.le_trans (List.length_filterMap_le _ _) (uni_len I W hW)
end Go.Proofs.Ytlepbncaicpmjaa
