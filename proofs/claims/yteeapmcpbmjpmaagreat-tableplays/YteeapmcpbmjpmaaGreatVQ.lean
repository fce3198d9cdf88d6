import Derived.Test.YteeapmcpbmjpmaaGreatZA
import Derived.Test.YteeapmcpbmjpmaaGreatTQ
import Derived.Test.YteeapmcpbmjpmaaGreatTG
import Derived.Test.YteeapmcpbmjpmaaGreatVA
import Derived.BigQuiet
import Derived.Deep.DrawnRows
namespace Go.Proofs.YteeapmcpbmjpmaaGreat
set_option maxRecDepth 100000
set_option linter.unusedVariables false

/-! The changes by two fingers. -/
def gn (p : List Int × List Int) : Sx := ⟨p.1, [], true⟩
def st (p : List Int × List Int) : Sx := ⟨p.1, p.2, false⟩
def mg : Tab → Tab → List Sx
  | [], [] => []
  | [], q :: B => st q :: mg [] B
  | p :: A, [] => gn p :: mg A []
  | p :: A, q :: B => if lx p.1 q.1 = true then gn p :: mg A (q :: B) else if lx q.1 p.1 = true then st q :: mg (p :: A) B else if p.2 = q.2 then mg A B else st q :: mg A B
termination_by A B => A.length + B.length
theorem mg_key : ∀ (A B : Tab) (s : Sx), s ∈ mg A B → (∃ p ∈ A, p.1 = s.k) ∨ ∃ q ∈ B, q.1 = s.k
  | [], [], s, h => by simp [mg] at h
  | [], q :: B, s, h => by
    rw [mg] at h
    rcases List.mem_cons.1 h with rfl | h
    · exact .inr ⟨q, List.mem_cons_self .., rfl⟩
    · rcases mg_key [] B s h with ⟨p, hp, e⟩ | ⟨p, hp, e⟩
      · simp at hp
      · exact .inr ⟨p, List.mem_cons_of_mem _ hp, e⟩
  | p :: A, [], s, h => by
    rw [mg] at h
    rcases List.mem_cons.1 h with rfl | h
    · exact .inl ⟨p, List.mem_cons_self .., rfl⟩
    · rcases mg_key A [] s h with ⟨p, hp, e⟩ | ⟨p, hp, e⟩
      · exact .inl ⟨p, List.mem_cons_of_mem _ hp, e⟩
      · simp at hp
  | p :: A, q :: B, s, h => by
    rw [mg] at h
    split at h
    · rcases List.mem_cons.1 h with rfl | h
      · exact .inl ⟨p, List.mem_cons_self .., rfl⟩
      · rcases mg_key A (q :: B) s h with ⟨p, hp, e⟩ | hh
        · exact .inl ⟨p, List.mem_cons_of_mem _ hp, e⟩
        · exact .inr hh
    · split at h
      · rcases List.mem_cons.1 h with rfl | h
        · exact .inr ⟨q, List.mem_cons_self .., rfl⟩
        · rcases mg_key (p :: A) B s h with hh | ⟨p, hp, e⟩
          · exact .inl hh
          · exact .inr ⟨p, List.mem_cons_of_mem _ hp, e⟩
      · have key : s ∈ mg A B → (∃ r ∈ p :: A, r.1 = s.k) ∨ ∃ r ∈ q :: B, r.1 = s.k := fun h => by
          rcases mg_key A B s h with ⟨p, hp, e⟩ | ⟨p, hp, e⟩
          · exact .inl ⟨p, List.mem_cons_of_mem _ hp, e⟩
          · exact .inr ⟨p, List.mem_cons_of_mem _ hp, e⟩
        split at h
        · exact key h
        · rcases List.mem_cons.1 h with rfl | h
          · exact .inr ⟨q, List.mem_cons_self .., rfl⟩
          · exact key h
termination_by A B => A.length + B.length
theorem srt_low {p : List Int × List Int} {A : Tab} (h : Srt (p :: A)) : ∀ q ∈ A, lx p.1 q.1 = true := (List.pairwise_cons.1 h).1
theorem srt_tl {p : List Int × List Int} {A : Tab} (h : Srt (p :: A)) : Srt A := (List.pairwise_cons.1 h).2
theorem chg_nil : chg [] [] = [] := rfl
theorem look_low {p : List Int × List Int} {A : Tab} (h : Srt (p :: A)) {k : List Int} (hk : k = p.1 ∨ lx k p.1 = true) : look A k = none := look_none.2 fun q hq e => by
  have h1 := srt_low h q hq
  rcases hk with rfl | hk
  · exact lx_ne h1 e.symm
  · exact lx_ne (lx_trans hk h1) e.symm
/-- One step of the changes. -/
theorem chg_step {A B A' B' : Tab} (hA : Srt A) (hA' : Srt A') (k : List Int) (hlo : ∀ s ∈ chg A' B', lx k s.k = true) (hsame : ∀ k', k' ≠ k → look A k' = look A' k' ∧ look B k' = look B' k') (hno : look A' k = none ∧ look B' k = none) : chg A B = (chg1 k (look A k) (look B k)).toList ++ chg A' B' := by
  refine srt_ext Sx.k _ _ (chg_rises hA) ?_ fun s => ?_
  · rw [List.pairwise_append]
    refine ⟨?_, chg_rises hA', fun x hx y hy => ?_⟩
    · cases chg1 k (look A k) (look B k) <;> simp
    · rw [Option.mem_toList] at hx
      rw [chg1_key hx]
      exact hlo y hy
  · rw [List.mem_append, Option.mem_toList, mem_chg hA, mem_chg hA']
    by_cases e : s.k = k
    · rw [e, hno.1, hno.2]
      simp [chg1]
    · rw [(hsame _ e).1, (hsame _ e).2]
      constructor
      · exact .inr
      · rintro (h | h)
        · exact absurd (chg1_key h) e
        · exact h
theorem chg_low {A B : Tab} (hA : Srt A) {k : List Int} (h1 : ∀ p ∈ A, lx k p.1 = true) (h2 : ∀ p ∈ B, lx k p.1 = true) : ∀ s ∈ chg A B, lx k s.k = true := fun s hs => by
  rw [mem_chg hA] at hs
  cases e : look A s.k with
  | some v => exact h1 _ (look_mem e)
  | none => cases f : look B s.k with
    | some v => exact h2 _ (look_mem f)
    | none => rw [e, f] at hs; cases hs
theorem look_cons_ne {p : List Int × List Int} {A : Tab} {k : List Int} (h : k ≠ p.1) : look (p :: A) k = look A k := by
  obtain ⟨a, b⟩ := p
  rw [look, if_neg (Ne.symm h)]
theorem look_cons_eq (p : List Int × List Int) (A : Tab) : look (p :: A) p.1 = some p.2 := by
  obtain ⟨a, b⟩ := p
  rw [look, if_pos rfl]
theorem mg_chg : ∀ (A B : Tab), Srt A → Srt B → mg A B = chg A B
  | [], [], _, _ => by rw [mg, chg_nil]
  | [], q :: B, hA, hB => by
    rw [mg, mg_chg [] B hA (srt_tl hB), chg_step (A' := []) (B' := B) hA hA q.1 (chg_low hA (fun p hp => by simp at hp) (srt_low hB)) (fun k' e => ⟨rfl, look_cons_ne e⟩) ⟨rfl, look_low hB (.inl rfl)⟩, look_cons_eq]
    simp [look, chg1, st]
  | p :: A, [], hA, hB => by
    rw [mg, mg_chg A [] (srt_tl hA) hB, chg_step (A' := A) (B' := []) hA (srt_tl hA) p.1 (chg_low (srt_tl hA) (srt_low hA) (fun p hp => by simp at hp)) (fun k' e => ⟨look_cons_ne e, rfl⟩) ⟨look_low hA (.inl rfl), rfl⟩, look_cons_eq]
    simp [look, chg1, gn]
  | p :: A, q :: B, hA, hB => by
    rw [mg]
    by_cases h1 : lx p.1 q.1 = true
    · have h2 : p.1 ≠ q.1 := lx_ne h1
      rw [if_pos h1, mg_chg A (q :: B) (srt_tl hA) hB, chg_step (A' := A) (B' := q :: B) hA (srt_tl hA) p.1 (chg_low (srt_tl hA) (srt_low hA) (fun r hr => by
        rcases List.mem_cons.1 hr with rfl | hr
        · exact h1
        · exact lx_trans h1 (srt_low hB r hr))) (fun k' e => ⟨look_cons_ne e, rfl⟩) ⟨look_low hA (.inl rfl), by rw [look_cons_ne h2]; exact look_low hB (.inr h1)⟩, look_cons_eq, look_cons_ne h2, look_low hB (.inr h1)]
      simp [chg1, gn]
    · rw [if_neg h1]
      by_cases h2 : lx q.1 p.1 = true
      · have h3 : q.1 ≠ p.1 := lx_ne h2
        rw [if_pos h2, mg_chg (p :: A) B hA (srt_tl hB), chg_step (A' := p :: A) (B' := B) hA hA q.1 (chg_low hA (fun r hr => by
          rcases List.mem_cons.1 hr with rfl | hr
          · exact h2
          · exact lx_trans h2 (srt_low hA r hr)) (srt_low hB)) (fun k' e => ⟨rfl, look_cons_ne e⟩) ⟨by rw [look_cons_ne h3]; exact look_low hA (.inr h2), look_low hB (.inl rfl)⟩, look_cons_eq, look_cons_ne h3, look_low hA (.inr h2)]
        simp [chg1, st]
      · rw [if_neg h2]
        have h3 : p.1 = q.1 := lx_tot (by simpa using h1) (by simpa using h2)
        have key : chg (p :: A) (q :: B) = (chg1 p.1 (some p.2) (some q.2)).toList ++ chg A B := by
          rw [chg_step (A := p :: A) (B := q :: B) (A' := A) (B' := B) hA (srt_tl hA) p.1 (chg_low (srt_tl hA) (srt_low hA) (by rw [h3]; exact srt_low hB)) (fun k' e => ⟨look_cons_ne e, look_cons_ne (by rw [← h3]; exact e)⟩) ⟨look_low hA (.inl rfl), look_low hB (.inl h3)⟩, look_cons_eq]
          rw [h3, look_cons_eq]
        rw [key, ← mg_chg A B (srt_tl hA) (srt_tl hB)]
        by_cases h4 : p.2 = q.2
        · simp [chg1, h4]
        · simp [chg1, h4, st, h3]
termination_by A B => A.length + B.length
theorem drop_cons {α : Type} (l : List α) (i : Nat) (h : i < l.length) : l.drop i = l[i] :: l.drop (i + 1) := List.drop_eq_getElem_cons h
theorem mg_len : ∀ (A B : Tab), (mg A B).length ≤ A.length + B.length
  | [], [] => by simp [mg]
  | [], q :: B => by
    have := mg_len [] B
    rw [mg]
    simp at this ⊢
    omega
  | p :: A, [] => by
    have := mg_len A []
    rw [mg]
    simp at this ⊢
    omega
  | p :: A, q :: B => by
    have h1 := mg_len A (q :: B)
    have h2 := mg_len (p :: A) B
    have h3 := mg_len A B
    rw [mg]
    split
    · simp at h1 ⊢; omega
    · split
      · simp at h2 ⊢; omega
      · split
        · simp at h3 ⊢; omega
        · simp at h3 ⊢; omega
termination_by A B => A.length + B.length
end Go.Proofs.YteeapmcpbmjpmaaGreat
namespace Go.Proofs.YteeapmcpbmjpmaaGreat
set_option maxRecDepth 100000
set_option linter.unusedVariables false

/-! Sets read one by one: what the document's GetSets does. -/
theorem enc_pre : ∀ (d l : List Sx) (r : List Int), allMay d = true → allMay l = true → enc d ++ r = enc l → ∃ l', l = d ++ l' ∧ enc l' = r
  | [], l, r, _, _, h => ⟨l, rfl, by simpa [enc] using h.symm⟩
  | s :: d, [], r, _, _, h => by
    have := congrArg List.length h
    have e : enc (s :: d) = enc1 s ++ enc d := by simp [enc]
    rw [e, List.length_append, List.length_append, enc1_len] at this
    simp [enc] at this
  | s :: d, s' :: l, r, hd, hl, h => by
    unfold allMay at hd hl
    rw [List.all_cons, Bool.and_eq_true] at hd hl
    have e : ∀ (s : Sx) (d : List Sx), enc (s :: d) = enc1 s ++ enc d := fun s d => by simp [enc]
    rw [e, e, List.append_assoc] at h
    have h1 := rd1_enc hd.1 (enc d ++ r)
    rw [h, rd1_enc hl.1] at h1
    simp only [Prod.mk.injEq, Option.some.injEq] at h1
    obtain ⟨l', h2, h3⟩ := enc_pre d l r hd.2 hl.2 h1.2.symm
    exact ⟨l', by rw [h1.1, h2]; rfl, h3⟩
theorem okFrom_at {d l2 : List Sx} {s : Sx} {last : List Int} (h : okFrom last (d ++ s :: l2) = true) : mayS s = true ∧ lx (lkey last d) s.k = true := by
  have h1 : okFrom last (d ++ [s]) = true := okFrom_pre (d ++ [s]) l2 last (by simpa using h)
  rw [okFrom_snoc, Bool.and_eq_true, Bool.and_eq_true] at h1
  exact h1.2
theorem dg_none {d : List Sx} {r zs : List Int} (hd : okFrom [] d = true) (hz : enc d ++ r = zs) (hr : r ≠ []) (h : ∀ s r', r = enc1 s ++ r' → mayS s = true → lx (lkey [] d) s.k = true → False) : gs zs = none := by
  cases e : gs zs with
  | none => rfl
  | some l =>
    obtain ⟨h1, h2, _⟩ := gs_some e
    obtain ⟨l', h3, h4⟩ := enc_pre d l r (okFrom_may hd) (okFrom_may h1) (hz.trans h2.symm)
    cases l' with
    | nil => exact absurd h4.symm hr
    | cons s l2 =>
      unfold okS at h1
      rw [h3] at h1
      obtain ⟨k1, k2⟩ := okFrom_at h1
      exact (h s (enc l2) (by rw [← h4]; simp [enc]) k1 k2).elim
/-- What is read at the head of r. -/
def dgK (r : List Int) : Nat := (r.getD 1 0).toNat
def dgV (r : List Int) : Nat := (r.getD 2 0 * 256 + r.getD 3 0).toNat
def dgS (r : List Int) : Sx := ⟨(r.drop 4).take (dgK r), ((r.drop 4).drop (dgK r)).take (dgV r), decide (r.getD 0 0 = 0)⟩
theorem dg_form {s : Sx} {r r' : List Int} (h : r = enc1 s ++ r') (hm : mayS s = true) : 4 + dgK r + dgV r ≤ r.length ∧ r.getD 0 0 ≤ 1 ∧ dgS r = s := by
  have hk := mayS_key hm
  have hv := mayS_val hm
  have e1 : ((s.k.length : Int) % 256).toNat = s.k.length := by omega
  have e2 : ((s.v.length : Int) / 256 % 256 * 256 + (s.v.length : Int) % 256).toNat = s.v.length := by omega
  unfold enc1 at h
  rw [be1, be2] at h
  simp only [List.cons_append, List.nil_append, List.append_assoc] at h
  have hK : dgK r = s.k.length := by rw [h]; unfold dgK; simpa using e1
  have hV : dgV r = s.v.length := by rw [h]; unfold dgV; simpa using e2
  have hD : r.drop 4 = s.k ++ (s.v ++ r') := by rw [h]; rfl
  refine ⟨?_, ?_, ?_⟩
  · rw [hK, hV, h]
    simp only [List.length_cons, List.length_append]
    omega
  · rw [h]
    simp only [List.getD_cons_zero]
    split <;> omega
  · unfold dgS
    rw [hD, hK, hV]
    have f1 : (s.k ++ (s.v ++ r')).drop s.k.length = s.v ++ r' := by simp
    have f2 : (s.k ++ (s.v ++ r')).take s.k.length = s.k := by simp
    have f3 : (s.v ++ r').take s.v.length = s.v := by simp
    rw [f1, f2, f3, h]
    obtain ⟨k, v, g⟩ := s
    cases g <;> simp
theorem dg_yes {r : List Int} (hb : Okb r) (h4 : 4 + dgK r + dgV r ≤ r.length) (h0 : r.getD 0 0 ≤ 1) : r = enc1 (dgS r) ++ r.drop (4 + dgK r + dgV r) := by
  match r, hb, h4, h0 with
  | [], _, h4, _ => simp only [List.length_nil] at h4; omega
  | [_], _, h4, _ => simp only [List.length_cons, List.length_nil] at h4; omega
  | [_, _], _, h4, _ => simp only [List.length_cons, List.length_nil] at h4; omega
  | [_, _, _], _, h4, _ => simp only [List.length_cons, List.length_nil] at h4; omega
  | x :: a :: b :: c :: t, hb, h4, h0 =>
    have hx := hb x (by simp)
    have ha := hb a (by simp)
    have hbb := hb b (by simp)
    have hc := hb c (by simp)
    have eK : dgK (x :: a :: b :: c :: t) = a.toNat := rfl
    have eV : dgV (x :: a :: b :: c :: t) = (b * 256 + c).toNat := rfl
    have eS : dgS (x :: a :: b :: c :: t) = ⟨t.take a.toNat, (t.drop a.toNat).take (b * 256 + c).toNat, decide (x = 0)⟩ := rfl
    rw [eK, eV] at h4 ⊢
    rw [eS]
    simp only [List.length_cons] at h4
    unfold enc1
    have l1 : (t.take a.toNat).length = a.toNat := by rw [List.length_take]; omega
    have l2 : ((t.drop a.toNat).take (b * 256 + c).toNat).length = (b * 256 + c).toNat := by rw [List.length_take, List.length_drop]; omega
    simp only [l1, l2]
    rw [be1, be2]
    have hx' : (if decide (x = 0) = true then (0 : Int) else 1) = x := by
      have h0 : x ≤ 1 := h0
      by_cases e : x = 0
      · simp [e]
      · rw [if_neg (by simpa using e)]
        omega
    have ea : ((a.toNat : Nat) : Int) % 256 = a := by omega
    have eb : (((b * 256 + c).toNat : Nat) : Int) / 256 % 256 = b := by omega
    have ec : (((b * 256 + c).toNat : Nat) : Int) % 256 = c := by omega
    rw [hx', ea, eb, ec]
    have e4 : (x :: a :: b :: c :: t).drop (4 + a.toNat + (b * 256 + c).toNat) = (t.drop a.toNat).drop (b * 256 + c).toNat := by
      rw [show 4 + a.toNat + (b * 256 + c).toNat = (a.toNat + (b * 256 + c).toNat) + 4 by omega, List.drop_drop]
      rfl
    rw [e4]
    simp only [List.cons_append, List.nil_append, List.append_assoc]
    rw [List.take_append_drop, List.take_append_drop]
/-- It is refused. -/
theorem dg_short {d : List Sx} {r zs : List Int} (hd : okFrom [] d = true) (hz : enc d ++ r = zs) (hr : r ≠ []) (h : r.length < 4 + dgK r + dgV r ∨ 1 < r.getD 0 0) : gs zs = none :=
  dg_none hd hz hr fun s r' e hm _ => by
    obtain ⟨h1, h2, _⟩ := dg_form e hm
    rcases h with h | h <;> omega
theorem dg_few {d : List Sx} {r zs : List Int} (hd : okFrom [] d = true) (hz : enc d ++ r = zs) (hr : r ≠ []) (h : r.length < 4) : gs zs = none := dg_short hd hz hr (.inl (by omega))
theorem dg_bad {d : List Sx} {r zs : List Int} (hd : okFrom [] d = true) (hz : enc d ++ r = zs) (hr : r ≠ []) (h : (mayS (dgS r) && lx (lkey [] d) (dgS r).k) = false) : gs zs = none :=
  dg_none hd hz hr fun s r' e hm hl => by
    obtain ⟨_, _, h3⟩ := dg_form e hm
    rw [h3, hm, hl] at h
    cases h
theorem dg_end {d : List Sx} {zs : List Int} (hd : okFrom [] d = true) (hz : enc d ++ [] = zs) : gs zs = some d := by
  rw [← hz, List.append_nil]
  exact gs_enc hd
theorem dg_on {d : List Sx} {r zs : List Int} (hb : Okb r) (hd : okFrom [] d = true) (hz : enc d ++ r = zs) (h4 : 4 + dgK r + dgV r ≤ r.length) (h0 : r.getD 0 0 ≤ 1) (h : (mayS (dgS r) && lx (lkey [] d) (dgS r).k) = true) : okFrom [] (d ++ [dgS r]) = true ∧ enc (d ++ [dgS r]) ++ r.drop (4 + dgK r + dgV r) = zs := by
  refine ⟨by rw [okFrom_snoc, hd, h]; rfl, ?_⟩
  rw [enc_snoc, List.append_assoc, ← dg_yes hb h4 h0, hz]
theorem dg_len {r : List Int} (h4 : 4 + dgK r + dgV r ≤ r.length) : (dgS r).k.length = dgK r ∧ (dgS r).v.length = dgV r := by
  unfold dgS
  simp only [List.length_take, List.length_drop]
  omega
theorem lkey_at : ∀ {l : List Sx} {i : Nat}, i < l.length → lkey [] (l.take (i + 1)) = (l.getD i default).k := by
  intro l i hi
  rw [take_snoc hi, lkey_snoc]
end Go.Proofs.YteeapmcpbmjpmaaGreat
namespace Go.Proofs.YteeapmcpbmjpmaaGreat
set_option maxRecDepth 100000
open Go.RowKit Go.Shelf Go.Maps
set_option linter.unusedVariables false

/-- The worlds that have but grown since W. -/
def Bw (W wx : World) : Prop := Below W.heap.size W wx
theorem Bw.cell {W wx : World} (h : Bw W wx) {p : Addr} {v : Value} (hc : W.cell? p = some v) : wx.cell? p = some v := (Below.cell h (World.block_lt_of_cell? W p hc)).trans hc
theorem Bw.on {W wx wy : World} (h : Bw W wx) (hb : Below wx.heap.size wx wy) : Bw W wy := bel_bel h (Below.size h) hb
theorem Bw.drew (W : World) : Bw W { W with drawn := W.drawn + 1 } := below_drew W
/-- A region that draws its order and whose callees make memory, walked once. -/
theorem wp_quietC {P : Program} {id : Nat} {Q : Exit → Act → World → Prop} {a : Act} {w : World} {l : List Oper} (C : World → Prop) (hm : P.follows .mixedOrders = true) (hB : Region.lexB .any l.toArray = true) (hC : C { w with drawn := w.drawn + 1 })
    (h : wpQuiet P l.toArray C (fun a' => ∀ w', C w' → Q .normal a' w') l a) : (Code.region id l.toArray true).wp P Q a w := wp_region_quiet (C := C) hm hB hC (by simpa using h)
theorem r_less {W wx : World} {a b : Option Addr} {n m : Nat} (c d : Nat) {xs ys : List Int} (q : Bool) (B : Bw W wx) (h1 : Bs W a n xs) (h2 : Bs W b m ys) (h01 : 0 < n) (h02 : 0 < m) (hn : n ≤ 1000000000) (hm : m ≤ 1000000000) (hq : lx xs ys = q) :
    Calls Tryz.prog 69 #[.slice a n c, .slice b m d] wx fun e w' => e = .returned (.bool q) ∧ Bw W w' := by
  obtain ⟨e1, _, h3⟩ := h1.below B
  obtain ⟨e2, _, h4⟩ := h2.below B
  rcases h3 with h3 | ⟨b1, o1, rfl, k1⟩
  · omega
  rcases h4 with h4 | ⟨b2, o2, rfl, k2⟩
  · omega
  refine (refLess_some b1 o1 c b2 o2 d n m xs ys wx e1 e2 hn hm k1 k2).mono ?_
  rintro e w1 ⟨rfl, nq, rfl⟩
  subst hq
  exact ⟨rfl, B.on (drawnN wx nq).below⟩
end Go.Proofs.YteeapmcpbmjpmaaGreat
