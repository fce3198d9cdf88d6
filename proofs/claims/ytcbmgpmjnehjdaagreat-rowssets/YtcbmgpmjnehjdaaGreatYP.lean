import Derived.Test.YtcbmgpmjnehjdaaGreatWO
namespace Go.Proofs.YtcbmgpmjnehjdaaGreat
set_option maxRecDepth 100000
set_option linter.unusedVariables false

/-! What was with the changes done is what is. -/
theorem rct_all {ps : List Pr} {ls : List Ln} (h : rct ps ls = true) : (∀ x ∈ ps, (prow x).isSome) ∧ (∀ x ∈ ls, (lrw x).isSome) ∧ (rws ps ls).length = ps.length + ls.length ∧ (gth (rws ps ls)).length = (rws ps ls).length := by
  have h := of_decide_eq_true (show decide _ = true from h)
  have h1 := gth_len (rws ps ls)
  have h2 := List.length_filterMap_le prow ps
  have h3 := List.length_filterMap_le lrw ls
  have h4 : (rws ps ls).length = (ps.filterMap prow).length + (ls.filterMap lrw).length := List.length_append
  refine ⟨?_, ?_, by omega, by omega⟩
  · exact List.filterMap_length_eq_length.1 (by omega)
  · exact List.filterMap_length_eq_length.1 (by omega)
theorem ins_perm (k v : List Int) : ∀ (M : Tab), look M k = none → (ins k v M).Perm ((k, v) :: M)
  | [], _ => List.Perm.refl _
  | p :: M, h => by
    have hn := look_none.1 h
    have hp : p.1 ≠ k := hn p (by simp)
    have hM : look M k = none := look_none.2 fun q hq => hn q (by simp [hq])
    rw [ins, if_neg hp]
    split
    · exact List.Perm.refl _
    · exact ((ins_perm k v M hM).cons p).trans (List.Perm.swap _ _ _)
/-- Every row of the list lies in the table, if no two have one key. -/
theorem gth_perm : ∀ (n : Nat) (l : Tab), l.length = n → Rok l → (gth l).length = l.length → (gth l).Perm l
  | 0, l, hl, hr, h => by
    have : l = [] := List.length_eq_zero_iff.1 hl
    subst this
    exact List.Perm.refl _
  | n + 1, l, hl, hr, h => by
    have hne : l ≠ [] := fun e => by rw [e] at hl; cases hl
    obtain ⟨l', p, rfl⟩ : ∃ l' p, l = l' ++ [p] := ⟨l.dropLast, l.getLast hne, (List.dropLast_concat_getLast hne).symm⟩
    have hr' : Rok l' := fun q hq => hr q (by simp [hq])
    rw [gth_snoc] at h ⊢
    have hs := (gth_tok l' hr').srt
    have h1 := len_ins p.1 p.2 (gth l') hs
    have h2 := gth_len l'
    rw [List.length_append, List.length_singleton] at h hl
    have h3 : look (gth l') p.1 = none := by
      cases e : look (gth l') p.1 with
      | none => rfl
      | some z => rw [e] at h1; simp at h1; omega
    rw [h3] at h1
    simp at h1
    have h4 := gth_perm n l' (by omega) hr' (by omega)
    exact ((ins_perm p.1 p.2 _ h3).trans (h4.cons _)).trans (List.perm_append_singleton _ _).symm
theorem trn_perm {L L' : Tab} (s : List Sx) (h : L.Perm L') : (trn L s).Perm (trn L' s) := (h.filter _).append_right _
theorem hitS_iff {s : List Sx} {p : List Int × List Int} : hitS s p = true ↔ ∃ x ∈ s, x.k = p.1 := by
  unfold hitS
  rw [List.any_eq_true]
  constructor
  · rintro ⟨x, hx, h⟩
    exact ⟨x, hx, (of_decide_eq_true (show decide _ = true from h)).symm⟩
  · rintro ⟨x, hx, h⟩
    exact ⟨x, hx, by show decide _ = true; exact decide_eq_true h.symm⟩
/-- Every new row is one of those that were, the changes done. -/
theorem trn_mem {W I : Tab} (hW : Srt W) (hI : Srt I) (p : List Int × List Int) : p ∈ trn W (chg W I) ↔ p ∈ I := by
  obtain ⟨k, v⟩ := p
  unfold trn
  rw [List.mem_append, List.mem_filter, List.mem_filterMap]
  constructor
  · rintro (⟨h1, h2⟩ | ⟨x, hx, h⟩)
    · have hk := mem_look hW h1
      have hn : ¬ ∃ x ∈ chg W I, x.k = k := fun e => by
        have := hitS_iff (p := (k, v)).2 e
        rw [this] at h2
        cases h2
      apply look_mem
      cases hi : look I k with
      | none => exact absurd ⟨⟨k, [], true⟩, (mem_chg hW).2 (by show chg1 k (look W k) (look I k) = _; rw [hk, hi]; rfl), rfl⟩ hn
      | some u =>
        by_cases e : v = u
        · rw [e]
        · exact absurd ⟨⟨k, u, false⟩, (mem_chg hW).2 (by show chg1 k (look W k) (look I k) = _; rw [hk, hi]; simp [chg1, e]), rfl⟩ hn
    · have h0 := (mem_chg hW).1 hx
      unfold newS at h
      split at h
      · cases h
      · rename_i hg
        have h := Option.some.inj h
        have e1 : x.k = k := congrArg Prod.fst h
        have e2 : x.v = v := congrArg Prod.snd h
        apply look_mem
        rw [e1] at h0
        rw [← e2]
        cases hw : look W k with
        | none =>
          cases hi : look I k with
          | none => rw [hw, hi] at h0; cases h0
          | some u => rw [hw, hi] at h0; have := Option.some.inj h0; rw [← this]
        | some t =>
          cases hi : look I k with
          | none => rw [hw, hi] at h0; have := Option.some.inj h0; rw [← this] at hg; exact absurd rfl hg
          | some u =>
            rw [hw, hi] at h0
            simp only [chg1] at h0
            split at h0
            · cases h0
            · have := Option.some.inj h0; rw [← this]
  · intro h
    have hi := mem_look hI h
    by_cases hw : look W k = some v
    · left
      refine ⟨look_mem hw, ?_⟩
      cases hh : hitS (chg W I) (k, v) with
      | false => rfl
      | true =>
        obtain ⟨x, hx, e⟩ := hitS_iff.1 hh
        have h0 := (mem_chg hW).1 hx
        rw [show x.k = k from e, hw, hi] at h0
        simp [chg1] at h0
    · right
      refine ⟨⟨k, v, false⟩, (mem_chg hW).2 ?_, rfl⟩
      show chg1 k (look W k) (look I k) = _
      rw [hi]
      cases e : look W k with
      | none => rfl
      | some t =>
        have : t ≠ v := fun f => hw (by rw [e, f])
        simp [chg1, this]
theorem chg_self {W : Tab} (hW : Srt W) : chg W W = [] := by
  apply List.eq_nil_iff_forall_not_mem.2
  intro x hx
  have h0 := (mem_chg hW).1 hx
  cases e : look W x.k with
  | none => rw [e] at h0; cases h0
  | some t => rw [e] at h0; simp [chg1] at h0
end Go.Proofs.YtcbmgpmjnehjdaaGreat
namespace Go.Proofs.YtcbmgpmjnehjdaaGreat
set_option maxRecDepth 100000
set_option linter.unusedVariables false

/-! As many rows. -/
theorem len_sub : ∀ (l l' : Tab), l.Nodup → (∀ x ∈ l, x ∈ l') → l.length ≤ l'.length
  | [], l', _, _ => Nat.zero_le _
  | a :: l, l', hn, hs => by
    have hn := List.nodup_cons.1 hn
    have h1 := len_sub l (l'.erase a) hn.2 fun x hx => (List.mem_erase_of_ne (fun e => hn.1 (by rw [← e]; exact hx))).2 (hs x (by simp [hx]))
    have ha : a ∈ l' := hs a (by simp)
    rw [List.length_erase_of_mem ha] at h1
    have : 0 < l'.length := List.length_pos_of_mem ha
    rw [List.length_cons]
    omega
theorem len_same {l l' : Tab} (h : l.Nodup) (h' : l'.Nodup) (hs : ∀ x, x ∈ l ↔ x ∈ l') : l.length = l'.length :=
  Nat.le_antisymm (len_sub l l' h fun x hx => (hs x).1 hx) (len_sub l' l h' fun x hx => (hs x).2 hx)
theorem lx_irr (k : List Int) : lx k k = false := by
  cases h : lx k k with
  | false => rfl
  | true => exact absurd rfl (lx_ne h)
theorem srt_nodup {M : Tab} (h : Srt M) : M.Nodup := by
  refine List.Pairwise.imp ?_ h
  intro a b hab e
  rw [e, lx_irr] at hab
  cases hab
theorem trn_nodup {W I : Tab} (hW : Srt W) : (trn W (chg W I)).Nodup := by
  unfold trn
  refine List.nodup_append.2 ⟨(srt_nodup hW).filter _, ?_, ?_⟩
  · have h := chg_rises (W := W) (I := I) hW
    refine List.Pairwise.filterMap newS (R := fun x y => lx x.k y.k = true) ?_ h
    intro x y hxy p hp q hq e
    subst e
    unfold newS at hp hq
    split at hp
    · cases hp
    · split at hq
      · cases hq
      · have e1 := congrArg Prod.fst (Option.some.inj hp)
        have e2 := congrArg Prod.fst (Option.some.inj hq)
        simp only at e1 e2
        rw [e1, e2, lx_irr] at hxy
        cases hxy
  · intro a ha b hb e
    subst e
    obtain ⟨-, h2⟩ := List.mem_filter.1 ha
    obtain ⟨x, hx, h⟩ := List.mem_filterMap.1 hb
    have : hitS (chg W I) a = true := hitS_iff.2 ⟨x, hx, by
      unfold newS at h
      split at h
      · cases h
      · exact congrArg Prod.fst (Option.some.inj h)⟩
    rw [this] at h2
    cases h2
/-- What was with the changes done, as the law does it: as many rows as are, each of them there. -/
theorem turn_all {W I : Tab} (rW : Rok W) (rI : Rok I) (hW : (gth W).length = W.length) (hI : (gth I).length = I.length) :
    (trn W (chg (gth W) (gth I))).length = I.length ∧ ∀ p ∈ I, p ∈ trn W (chg (gth W) (gth I)) := by
  have sW := (gth_tok W rW).srt
  have sI := (gth_tok I rI).srt
  have p1 := gth_perm _ W rfl rW hW
  have p2 := gth_perm _ I rfl rI hI
  have p3 := trn_perm (chg (gth W) (gth I)) p1
  refine ⟨?_, fun p hp => p3.mem_iff.1 ((trn_mem sW sI p).2 (p2.mem_iff.2 hp))⟩
  rw [← p3.length_eq, len_same (trn_nodup sW) (srt_nodup sI) (trn_mem sW sI), p2.length_eq]
theorem uni_len : ∀ (I W : Tab), Srt W → (uni W I).length ≤ W.length + I.length
  | [], W, h => by simp [uni]
  | p :: I, W, h => by
    have h1 := uni_len I (ins p.1 p.2 W) (srt_ins p.1 p.2 W h)
    have h2 := len_ins p.1 p.2 W h
    have h3 : uni W (p :: I) = uni (ins p.1 p.2 W) I := rfl
    rw [h3, List.length_cons]
    split at h2 <;> omega
theorem chg_len {W I : Tab} (hW : Srt W) : (chg W I).length ≤ W.length + I.length := Nat.le_trans (List.length_filterMap_le _ _) (uni_len I W hW)
end Go.Proofs.YtcbmgpmjnehjdaaGreat
namespace Go.Proofs.YtcbmgpmjnehjdaaGreat
set_option maxRecDepth 100000
set_option linter.unusedVariables false

/-! The document's sets, laid one behind the other, are the changes. -/
def lay (s : Sx) : List Sx → List Sx
  | [] => [s]
  | x :: l => if lx s.k x.k then s :: x :: l else x :: lay s l
def layB (s : Sx) (l : List Sx) : Bool := l.any fun x => lx s.k x.k
theorem lay_no {s : Sx} : ∀ {l : List Sx}, layB s l = false → lay s l = l ++ [s]
  | [], _ => rfl
  | x :: l, h => by
    unfold layB at h
    rw [List.any_cons, Bool.or_eq_false_iff] at h
    rw [lay, h.1, if_neg (by decide), lay_no (l := l) h.2]
    rfl
theorem lay_yes {s : Sx} (y : Sx) : ∀ {l : List Sx}, layB s l = true → lay s (l ++ [y]) = lay s l ++ [y]
  | [], h => by cases h
  | x :: l, h => by
    unfold layB at h
    rw [List.cons_append, lay, lay]
    by_cases e : lx s.k x.k = true
    · rw [if_pos e, if_pos e]; rfl
    · rw [if_neg e, if_neg e]
      have h2 : layB s l = true := by
        rw [List.any_cons] at h
        cases f : lx s.k x.k with
        | true => exact absurd f e
        | false => rw [f] at h; exact h
      rw [lay_yes y h2]
      rfl
theorem lay_at {s y : Sx} (hy : lx s.k y.k = true) : ∀ {l : List Sx}, layB s l = false → lay s (l ++ [y]) = l ++ [s] ++ [y]
  | [], _ => by show (if lx s.k y.k then _ else _) = _; rw [if_pos hy]; rfl
  | x :: l, h => by
    unfold layB at h
    rw [List.any_cons, Bool.or_eq_false_iff] at h
    rw [List.cons_append, lay, h.1, if_neg (by decide), lay_at hy (l := l) h.2]
    rfl
theorem layB_snoc (s y : Sx) (l : List Sx) : layB s (l ++ [y]) = (layB s l || lx s.k y.k) := by simp [layB]
theorem mem_lay {s x : Sx} : ∀ {l : List Sx}, x ∈ lay s l ↔ x = s ∨ x ∈ l
  | [] => by simp [lay]
  | y :: l => by
    rw [lay]
    split
    · simp
    · rw [List.mem_cons, mem_lay, List.mem_cons]
      constructor
      · rintro (h | h | h)
        · exact .inr (.inl h)
        · exact .inl h
        · exact .inr (.inr h)
      · rintro (h | h | h)
        · exact .inr (.inl h)
        · exact .inl h
        · exact .inr (.inr h)
theorem lay_len (s : Sx) : ∀ l : List Sx, (lay s l).length = l.length + 1
  | [] => rfl
  | x :: l => by rw [lay]; split <;> simp [lay_len s l]
abbrev Rs (l : List Sx) : Prop := l.Pairwise (fun x y => lx x.k y.k = true)
theorem lay_rs {s : Sx} : ∀ {l : List Sx}, Rs l → (∀ x ∈ l, x.k ≠ s.k) → Rs (lay s l)
  | [], _, _ => List.pairwise_singleton _ _
  | y :: l, h, hn => by
    have h' := List.pairwise_cons.1 h
    rw [lay]
    split
    · rename_i e
      refine List.pairwise_cons.2 ⟨fun x hx => ?_, h⟩
      rcases List.mem_cons.1 hx with rfl | hx
      · exact e
      · exact lx_trans e (h'.1 x hx)
    · rename_i e
      refine List.pairwise_cons.2 ⟨fun x hx => ?_, lay_rs h'.2 fun x hx => hn x (List.mem_cons_of_mem _ hx)⟩
      rcases mem_lay.1 hx with rfl | hx
      · exact lx_of_ne (Ne.symm (hn y (List.mem_cons_self))) (by simpa using e)
      · exact h'.1 x hx
def layAll (m l : List Sx) : List Sx := l.foldl (fun a s => lay s a) m
theorem layAll_snoc (m l : List Sx) (s : Sx) : layAll m (l ++ [s]) = lay s (layAll m l) := by simp [layAll]
theorem layAll_len : ∀ (l m : List Sx), (layAll m l).length = m.length + l.length
  | [], m => rfl
  | s :: l, m => by
    show (layAll (lay s m) l).length = _
    rw [layAll_len l, lay_len, List.length_cons]
    omega
theorem mem_layAll : ∀ (l m : List Sx) (x : Sx), x ∈ layAll m l ↔ x ∈ m ∨ x ∈ l
  | [], m, x => by simp [layAll]
  | s :: l, m, x => by
    show x ∈ layAll (lay s m) l ↔ _
    rw [mem_layAll l, mem_lay, List.mem_cons]
    constructor
    · rintro ((h | h) | h)
      · exact .inr (.inl h)
      · exact .inl h
      · exact .inr (.inr h)
    · rintro (h | h | h)
      · exact .inl (.inr h)
      · exact .inl (.inl h)
      · exact .inr h
theorem layAll_rs : ∀ (l m : List Sx), Rs m → (∀ x ∈ m, ∀ s ∈ l, x.k ≠ s.k) → l.Pairwise (fun x y => x.k ≠ y.k) → Rs (layAll m l)
  | [], m, h, _, _ => h
  | s :: l, m, h, ha, hl => by
    have hl' := List.pairwise_cons.1 hl
    refine layAll_rs l (lay s m) (lay_rs h fun x hx => ha x hx s (List.mem_cons_self)) (fun x hx t ht => ?_) hl'.2
    rcases mem_lay.1 hx with rfl | hx
    · exact hl'.1 t ht
    · exact ha x hx t (List.mem_cons_of_mem _ ht)
/-- What a row of the new state sets; what a row that was sets. -/
def st1 (W : Tab) (p : List Int × List Int) : Option Sx := if look W p.1 = some p.2 then none else some ⟨p.1, p.2, false⟩
def st2 (I : Tab) (p : List Int × List Int) : Option Sx := if (look I p.1).isSome then none else some ⟨p.1, [], true⟩
def dsets (W I : Tab) : List Sx := layAll (layAll [] (I.filterMap (st1 W))) (W.filterMap (st2 I))
abbrev Kn (l : Tab) : Prop := l.Pairwise (fun p q => p.1 ≠ q.1)
theorem kn_of_srt {M : Tab} (h : Srt M) : Kn M := h.imp fun h => lx_ne h
theorem kn_perm {l l' : Tab} (h : l.Perm l') : Kn l ↔ Kn l' := h.pairwise_iff fun h => Ne.symm h
theorem look_kn : ∀ {M : Tab}, Kn M → ∀ {k v : List Int}, (k, v) ∈ M → look M k = some v
  | [], _, k, v, h => by cases h
  | p :: M, hk, k, v, h => by
    have hk' := List.pairwise_cons.1 hk
    rw [look]
    rcases List.mem_cons.1 h with e | h
    · rw [← e]; simp
    · rw [if_neg (hk'.1 _ h), look_kn hk'.2 h]
theorem look_perm {M N : Tab} (h : M.Perm N) (hk : Kn M) (k : List Int) : look M k = look N k := by
  have hk2 := (kn_perm h).1 hk
  cases e : look M k with
  | none =>
    have h1 := look_none.1 e
    rw [look_none.2 fun p hp => h1 p (h.mem_iff.2 hp)]
  | some v => rw [look_kn hk2 (h.mem_iff.1 (look_mem e))]
/-- No two rows have one key, just where each has a place of its own. -/
theorem kn_gth {l : Tab} (hr : Rok l) : Kn l ↔ (gth l).length = l.length := by
  constructor
  · have key : ∀ (n : Nat) (l : Tab), l.length = n → Rok l → Kn l → (gth l).length = l.length := by
      intro n
      induction n with
      | zero =>
        intro l hl _ _
        obtain rfl := List.length_eq_zero_iff.1 hl
        rfl
      | succ n ih =>
        intro l hl hr hk
        have hne : l ≠ [] := fun e => by rw [e] at hl; cases hl
        obtain ⟨l', p, rfl⟩ : ∃ l' p, l = l' ++ [p] := ⟨l.dropLast, l.getLast hne, (List.dropLast_concat_getLast hne).symm⟩
        have hr' : Rok l' := fun q hq => hr q (by simp [hq])
        rw [List.length_append, List.length_singleton] at hl
        obtain ⟨hk1, -, hk2⟩ := List.pairwise_append.1 hk
        have h1 := ih l' (by omega) hr' hk1
        have h2 := gth_perm _ l' rfl hr' h1
        have h3 : look (gth l') p.1 = none := look_none.2 fun q hq => hk2 q (h2.mem_iff.1 hq) p (List.mem_singleton.2 rfl)
        have h4 := len_ins p.1 p.2 (gth l') (gth_tok l' hr').srt
        rw [h3] at h4
        rw [gth_snoc, h4, h1]
        simp
    exact key l.length l rfl hr
  · intro h
    exact (kn_perm (gth_perm _ l rfl hr h)).1 (kn_of_srt (gth_tok l hr).srt)
/-- The document's sets are the changes. -/
theorem dsets_chg {W I : Tab} (rW : Rok W) (rI : Rok I) (hW : Kn W) (hI : Kn I) : dsets W I = chg (gth W) (gth I) := by
  have pW := gth_perm _ W rfl rW ((kn_gth rW).1 hW)
  have pI := gth_perm _ I rfl rI ((kn_gth rI).1 hI)
  have sW := (gth_tok W rW).srt
  have lW : ∀ k, look (gth W) k = look W k := fun k => (look_perm pW.symm hW k).symm
  have lI : ∀ k, look (gth I) k = look I k := fun k => (look_perm pI.symm hI k).symm
  have m1 : ∀ s, s ∈ I.filterMap (st1 W) ↔ T1 I W s := fun s => by
    rw [List.mem_filterMap]
    unfold st1 T1
    constructor
    · rintro ⟨p, hp, h⟩
      split at h
      · cases h
      · rename_i hn
        obtain rfl := Option.some.inj h
        exact ⟨rfl, look_kn hI hp, hn⟩
    · rintro ⟨h1, h2, h3⟩
      obtain ⟨k, v, g⟩ := s
      simp only at h1 h2 h3
      subst h1
      exact ⟨(k, v), look_mem h2, by rw [if_neg h3]⟩
  have m2 : ∀ s, s ∈ W.filterMap (st2 I) ↔ T2 I W s := fun s => by
    rw [List.mem_filterMap]
    unfold st2 T2
    constructor
    · rintro ⟨p, hp, h⟩
      split at h
      · cases h
      · rename_i hn
        obtain rfl := Option.some.inj h
        refine ⟨rfl, rfl, ?_, ?_⟩
        · show (look W p.1).isSome = true
          rw [look_kn hW (k := p.1) (v := p.2) hp]; rfl
        · show look I p.1 = none
          cases e : look I p.1 with
          | none => rfl
          | some z => rw [e] at hn; exact absurd rfl hn
    · rintro ⟨h1, h2, h3, h4⟩
      obtain ⟨k, v, g⟩ := s
      simp only at h1 h2 h3 h4
      subst h1 h2
      obtain ⟨z, hz⟩ := Option.isSome_iff_exists.1 h3
      refine ⟨(k, z), look_mem hz, ?_⟩
      show (if (look I k).isSome then _ else _) = _
      rw [h4]
      rfl
  have a1 : (I.filterMap (st1 W)).Pairwise (fun x y => x.k ≠ y.k) := by
    refine List.Pairwise.filterMap _ (fun p q h s hs t ht => ?_) hI
    unfold st1 at hs ht
    split at hs
    · cases hs
    · split at ht
      · cases ht
      · obtain rfl := Option.some.inj hs
        obtain rfl := Option.some.inj ht
        exact h
  have a2 : (W.filterMap (st2 I)).Pairwise (fun x y => x.k ≠ y.k) := by
    refine List.Pairwise.filterMap _ (fun p q h s hs t ht => ?_) hW
    unfold st2 at hs ht
    split at hs
    · cases hs
    · split at ht
      · cases ht
      · obtain rfl := Option.some.inj hs
        obtain rfl := Option.some.inj ht
        exact h
  have r1 : Rs (layAll [] (I.filterMap (st1 W))) := layAll_rs _ _ List.Pairwise.nil (by simp) a1
  have r2 : Rs (dsets W I) := layAll_rs _ _ r1 (fun x hx s hs => by
    rcases (mem_layAll _ _ _).1 hx with h | h
    · cases h
    · exact T12 x s ((m1 x).1 h) ((m2 s).1 hs)) a2
  refine srt_ext Sx.k _ _ r2 (chg_rises sW) fun s => ?_
  rw [mem_chg sW, lW, lI, chg_T]
  unfold dsets
  rw [mem_layAll, mem_layAll, m1, m2]
  simp
/-- Is all of a state as it may be, and no key there twice? -/
theorem rct_kn {w : World} {a a' : Option Addr} {n n' : Nat} {ps : List Pr} {ls : List Ln} (hp : Pls w a n ps) (hl : Lls w a' n' ls) : (rct ps ls = true) ↔ ((∀ x ∈ ps, (prow x).isSome) ∧ (∀ x ∈ ls, (lrw x).isSome)) ∧ Kn (rws ps ls) := by
  constructor
  · intro h
    obtain ⟨h1, h2, h3, h4⟩ := rct_all h
    exact ⟨⟨h1, h2⟩, (kn_gth (rws_ok hp hl)).2 h4⟩
  · rintro ⟨⟨h1, h2⟩, h3⟩
    refine decide_eq_true ?_
    have h4 : (rws ps ls).length = (ps.filterMap prow).length + (ls.filterMap lrw).length := List.length_append
    rw [(kn_gth (rws_ok hp hl)).1 h3, h4, List.filterMap_length_eq_length.2 h1, List.filterMap_length_eq_length.2 h2]
end Go.Proofs.YtcbmgpmjnehjdaaGreat
