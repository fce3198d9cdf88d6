import Derived.Test.YteeapmcpbmjpmaaGreatTP
namespace Go.Proofs.YteeapmcpbmjpmaaGreat
set_option maxRecDepth 100000
set_option linter.unusedVariables false

/-! Sets read. -/
/-- One set as it comes; what is left, if the reader is whole still. -/
def rd1 (zs : List Int) : Sx × Option (List Int) :=
  match zs with
  | [] => (⟨[], [], true⟩, none)
  | [x] => (⟨[], [], decide (x = 0)⟩, none)
  | [x, _] => (⟨[], [], decide (x = 0)⟩, none)
  | [x, _, _] => (⟨[], [], decide (x = 0)⟩, none)
  | x :: a :: b :: c :: r =>
    if r.length < a.toNat then (⟨[], [], decide (x = 0)⟩, none)
    else if (r.drop a.toNat).length < (b * 256 + c).toNat then (⟨r.take a.toNat, [], decide (x = 0)⟩, none)
    else (⟨r.take a.toNat, (r.drop a.toNat).take (b * 256 + c).toNat, decide (x = 0)⟩, some ((r.drop a.toNat).drop (b * 256 + c).toNat))
def rdS : Nat → List Int → List Sx
  | 0, _ => []
  | n + 1, zs => if zs = [] then [] else
    match rd1 zs with
    | (s, none) => [s]
    | (s, some r) => s :: rdS n r
def gs (b : List Int) : Option (List Sx) := if okS (rdS b.length b) && decide (enc (rdS b.length b) = b) then some (rdS b.length b) else none
theorem rd1_left {zs r : List Int} {s : Sx} (h : rd1 zs = (s, some r)) : r.length + 4 ≤ zs.length := by
  unfold rd1 at h
  split at h
  · simp at h
  · simp at h
  · simp at h
  · simp at h
  · split at h
    · simp at h
    · split at h
      · simp at h
      · simp only [Prod.mk.injEq, Option.some.injEq] at h
        rw [← h.2]
        simp
theorem rd1_ok {zs : List Int} (hb : Okb zs) : OkS (rd1 zs).1 ∧ ∀ r, (rd1 zs).2 = some r → Okb r := by
  unfold rd1
  have e : Okb ([] : List Int) := by intro z hz; simp at hz
  split
  · exact ⟨⟨e, e⟩, fun r h => by simp at h⟩
  · exact ⟨⟨e, e⟩, fun r h => by simp at h⟩
  · exact ⟨⟨e, e⟩, fun r h => by simp at h⟩
  · exact ⟨⟨e, e⟩, fun r h => by simp at h⟩
  · rename_i x a b c r
    have hr : Okb r := fun z hz => hb z (by simp [hz])
    split
    · exact ⟨⟨e, e⟩, fun r h => by simp at h⟩
    · split
      · exact ⟨⟨fun z hz => hr z (List.mem_of_mem_take hz), e⟩, fun r h => by simp at h⟩
      · refine ⟨⟨fun z hz => hr z (List.mem_of_mem_take hz), fun z hz => hr z (List.mem_of_mem_drop (List.mem_of_mem_take hz))⟩, fun r' h => ?_⟩
        obtain rfl := Option.some.inj h
        exact fun z hz => hr z (List.mem_of_mem_drop (List.mem_of_mem_drop hz))
theorem rdS_ok : ∀ (n : Nat) (zs : List Int), Okb zs → ∀ s ∈ rdS n zs, OkS s
  | 0, zs, _, s, hs => by simp [rdS] at hs
  | n + 1, zs, hb, s, hs => by
    rw [rdS] at hs
    split at hs
    · simp at hs
    · have h1 := rd1_ok hb
      split at hs
      · rename_i e
        rw [e] at h1
        simp at hs
        subst hs
        exact h1.1
      · rename_i e
        rw [e] at h1
        rcases List.mem_cons.1 hs with e | hs
        · subst e; exact h1.1
        · exact rdS_ok n _ (h1.2 _ rfl) s hs
theorem rd1_enc {s : Sx} (h : mayS s = true) (r : List Int) : rd1 (enc1 s ++ r) = (s, some r) := by
  have hk := mayS_key h
  have hv := mayS_val h
  have e1 : ((s.k.length : Int) % 256).toNat = s.k.length := by omega
  have e2 : ((s.v.length : Int) / 256 % 256 * 256 + (s.v.length : Int) % 256).toNat = s.v.length := by omega
  unfold enc1
  rw [be1, be2]
  simp only [List.cons_append, List.nil_append, List.append_assoc]
  unfold rd1
  simp only
  rw [e1, e2]
  have f1 : (s.k ++ (s.v ++ r)).drop s.k.length = s.v ++ r := by simp
  have f2 : (s.k ++ (s.v ++ r)).take s.k.length = s.k := by simp
  rw [f1, f2, if_neg (by simp), if_neg (by simp)]
  have f3 : (s.v ++ r).take s.v.length = s.v := by simp
  have f4 : (s.v ++ r).drop s.v.length = r := by simp
  rw [f3, f4]
  obtain ⟨k, v, g⟩ := s
  cases g <;> simp
theorem enc1_ne (s : Sx) (r : List Int) : enc1 s ++ r ≠ [] := by simp [enc1]
theorem rdS_enc : ∀ (l : List Sx) (n : Nat), l.length ≤ n → allMay l = true → rdS n (enc l) = l
  | [], n, _, _ => by cases n <;> simp [rdS, enc]
  | s :: l, 0, h, _ => by simp at h
  | s :: l, n + 1, h, hm => by
    unfold allMay at hm
    rw [List.all_cons, Bool.and_eq_true] at hm
    have e : enc (s :: l) = enc1 s ++ enc l := by simp [enc]
    rw [e, rdS, if_neg (enc1_ne _ _), rd1_enc hm.1]
    simp only
    rw [rdS_enc l n (by simpa using h) hm.2]
theorem enc_len_le (l : List Sx) : l.length ≤ (enc l).length := by
  induction l with
  | nil => simp
  | cons s l ih =>
    have e : enc (s :: l) = enc1 s ++ enc l := by simp [enc]
    rw [e, List.length_append, enc1_len]
    simp only [List.length_cons]
    omega
theorem gs_enc {l : List Sx} (h : okS l = true) : gs (enc l) = some l := by
  unfold gs
  rw [rdS_enc l _ (enc_len_le l) (okFrom_may h), h]
  simp
theorem gs_some {b : List Int} {l : List Sx} (h : gs b = some l) : okS l = true ∧ enc l = b ∧ l = rdS b.length b := by
  unfold gs at h
  split at h
  · rename_i e
    rw [Bool.and_eq_true] at e
    obtain rfl := Option.some.inj h
    exact ⟨e.1, of_decide_eq_true e.2, rfl⟩
  · cases h
theorem gs_byte {b : List Int} {l : List Sx} (hb : Okb b) (h : gs b = some l) : ∀ s ∈ l, OkS s := by
  rw [(gs_some h).2.2]
  exact rdS_ok _ _ hb
theorem enc_inj {l m : List Sx} (hl : okS l = true) (hm : okS m = true) (h : enc l = enc m) : l = m := by
  have h1 := gs_enc hl
  have h2 := gs_enc hm
  rw [h, h2] at h1
  exact (Option.some.inj h1).symm

/-! The last set of a key. -/
def lastS : List Sx → List Int → Option Sx
  | [], _ => none
  | s :: l, k => match lastS l k with
    | some x => some x
    | none => if s.k = k then some s else none
theorem lastS_mem : ∀ {l : List Sx} {k : List Int} {s : Sx}, lastS l k = some s → s ∈ l ∧ s.k = k
  | x :: l, k, s, h => by
    rw [lastS] at h
    cases e : lastS l k with
    | some y =>
      rw [e] at h
      obtain rfl := Option.some.inj h
      exact ⟨List.mem_cons_of_mem _ (lastS_mem e).1, (lastS_mem e).2⟩
    | none =>
      rw [e] at h
      simp only at h
      split at h
      · obtain rfl := Option.some.inj h
        exact ⟨by simp, by assumption⟩
      · cases h
theorem lastS_none : ∀ {l : List Sx} {k : List Int}, lastS l k = none → ∀ s ∈ l, s.k ≠ k
  | x :: l, k, h, s, hs => by
    rw [lastS] at h
    cases e : lastS l k with
    | some y => rw [e] at h; cases h
    | none =>
      rw [e] at h
      simp only at h
      split at h
      · cases h
      · rcases List.mem_cons.1 hs with e' | hs
        · subst e'; assumption
        · exact lastS_none e s hs
theorem lastS_snoc (l : List Sx) (s : Sx) (k : List Int) : lastS (l ++ [s]) k = if s.k = k then some s else lastS l k := by
  induction l with
  | nil => simp [lastS]
  | cons x l ih =>
    rw [List.cons_append, lastS, ih, lastS]
    split
    · rename_i e
      by_cases hs : s.k = k
      · rw [if_pos hs] at e ⊢; exact e.symm ▸ rfl
      · rw [if_neg hs] at e ⊢; rw [e]
    · rename_i e
      by_cases hs : s.k = k
      · rw [if_pos hs] at e; cases e
      · rw [if_neg hs] at e ⊢; rw [e]
def afterS (o : Option Sx) (was : Option (List Int)) : Option (List Int) := match o with
  | some s => if s.g then none else some s.v
  | none => was
theorem look_doS {M : Tab} (h : Srt M) (s : Sx) (k : List Int) : look (doS M s) k = afterS (if s.k = k then some s else none) (look M k) := by
  unfold doS afterS
  cases hg : s.g
  · rw [if_neg (by decide), look_ins _ _ _ h]
    by_cases e : s.k = k
    · rw [if_pos e, if_pos e]; simp [hg]
    · rw [if_neg e, if_neg e]
  · rw [if_pos rfl, look_del]
    by_cases e : s.k = k
    · rw [if_pos e, if_pos e]; simp [hg]
    · rw [if_neg e, if_neg e]
theorem srt_doS {M : Tab} (h : Srt M) (s : Sx) : Srt (doS M s) := by
  unfold doS
  split
  · exact srt_del _ h
  · exact srt_ins _ _ _ h
theorem srt_doAll {l : List Sx} : ∀ {M : Tab}, Srt M → Srt (doAll M l) := by
  induction l with
  | nil => intro M h; exact h
  | cons s l ih => intro M h; exact ih (srt_doS h s)
theorem look_doAll (l : List Sx) : ∀ {M : Tab} (h : Srt M) (k : List Int), look (doAll M l) k = afterS (lastS l k) (look M k) := by
  induction l with
  | nil => intro M h k; rfl
  | cons s l ih =>
    intro M h k
    show look (doAll (doS M s) l) k = _
    rw [ih (srt_doS h s) k, look_doS h, lastS]
    cases e : lastS l k with
    | some x => rfl
    | none => by_cases f : s.k = k <;> simp [f, afterS]
theorem lastS_uniq : ∀ {l : List Sx}, l.Pairwise (fun x y => lx x.k y.k = true) → ∀ {s : Sx}, s ∈ l → lastS l s.k = some s
  | x :: l, h, s, hs => by
    rw [List.pairwise_cons] at h
    rw [lastS]
    rcases List.mem_cons.1 hs with e | hs
    · subst e
      cases e : lastS l s.k with
      | none => simp
      | some y =>
        have hy := lastS_mem e
        have := h.1 y hy.1
        rw [hy.2, lx_self] at this
        exact absurd this (by decide)
    · rw [lastS_uniq h.2 hs]
/-- Sets with rising keys, none gone, are a table. -/
def asT (l : List Sx) : Tab := l.map fun s => (s.k, s.v)
theorem asT_asS (M : Tab) : asT (asS M) = M := by simp [asT, asS, Function.comp_def]
theorem asS_asT {l : List Sx} (h : ∀ s ∈ l, s.g = false) : asS (asT l) = l := by
  unfold asS asT
  rw [List.map_map]
  conv => rhs; rw [← List.map_id l]
  refine List.map_congr_left fun s hs => ?_
  have := h s hs
  obtain ⟨k, v, g⟩ := s
  simp at this ⊢
  exact this
theorem srt_asT {l : List Sx} (h : l.Pairwise (fun x y => lx x.k y.k = true)) : Srt (asT l) := by
  unfold Srt asT
  rw [List.pairwise_map]
  exact h
theorem doAll_asT {l : List Sx} (h : l.Pairwise (fun x y => lx x.k y.k = true)) (hg : ∀ s ∈ l, s.g = false) : doAll [] l = asT l := by
  refine tab_ext (srt_doAll List.Pairwise.nil) (srt_asT h) fun k => ?_
  rw [look_doAll l List.Pairwise.nil]
  cases e : lastS l k with
  | none =>
    symm
    show look (asT l) k = none
    rw [look_none]
    intro p hp
    obtain ⟨s, hs, rfl⟩ := List.mem_map.1 hp
    exact lastS_none e s hs
  | some s =>
    have hs := lastS_mem e
    unfold afterS
    simp only
    rw [hg s hs.1, if_neg (by decide)]
    symm
    refine mem_look (srt_asT h) ?_
    rw [← hs.2]
    exact List.mem_map.2 ⟨s, hs.1, rfl⟩
theorem doAll_asS {M : Tab} (h : Srt M) : doAll [] (asS M) = M := by
  rw [doAll_asT, asT_asS]
  · unfold asS; rw [List.pairwise_map]; exact h
  · intro s hs
    obtain ⟨p, hp, rfl⟩ := List.mem_map.1 hs
    rfl
theorem tok_asT {l : List Sx} (h : okS l = true) (hb : ∀ s ∈ l, OkS s) : Tok (asT l) := by
  refine ⟨srt_asT (okFrom_rises h), fun p hp => ?_, fun p hp => ?_⟩ <;> obtain ⟨s, hs, rfl⟩ := List.mem_map.1 hp
  · exact ⟨(hb s hs).1, mayS_key (List.all_eq_true.1 (okFrom_may h) s hs)⟩
  · exact ⟨(hb s hs).2, mayS_val (List.all_eq_true.1 (okFrom_may h) s hs)⟩

/-! What turns one table into another. -/
def uni (W I : Tab) : Tab := I.foldl (fun U p => ins p.1 p.2 U) W
def chg1 (k : List Int) : Option (List Int) → Option (List Int) → Option Sx
  | none, some v => some ⟨k, v, false⟩
  | some v', some v => if v' = v then none else some ⟨k, v, false⟩
  | some _, none => some ⟨k, [], true⟩
  | none, none => none
def chg (W I : Tab) : List Sx := (uni W I).filterMap fun p => chg1 p.1 (look W p.1) (look I p.1)
theorem srt_uni : ∀ (I : Tab) {W : Tab}, Srt W → Srt (uni W I)
  | [], W, h => h
  | p :: I, W, h => srt_uni I (srt_ins p.1 p.2 W h)
theorem look_uni : ∀ (I : Tab) {W : Tab} (h : Srt W) (k : List Int), (look (uni W I) k).isSome = ((look W k).isSome || (look I k).isSome)
  | [], W, h, k => by simp [uni, look]
  | p :: I, W, h, k => by
    show (look (uni (ins p.1 p.2 W) I) k).isSome = _
    rw [look_uni I (srt_ins _ _ _ h), look_ins _ _ _ h, look]
    by_cases e : p.1 = k
    · rw [if_pos e, if_pos e]; simp
    · rw [if_neg e, if_neg e]
theorem chg1_key {k : List Int} {a b : Option (List Int)} {s : Sx} (h : chg1 k a b = some s) : s.k = k := by
  unfold chg1 at h
  split at h
  · obtain rfl := Option.some.inj h; rfl
  · split at h
    · cases h
    · obtain rfl := Option.some.inj h; rfl
  · obtain rfl := Option.some.inj h; rfl
  · cases h
theorem mem_chg {W I : Tab} (hW : Srt W) {s : Sx} : s ∈ chg W I ↔ chg1 s.k (look W s.k) (look I s.k) = some s := by
  unfold chg
  rw [List.mem_filterMap]
  constructor
  · rintro ⟨p, hp, h⟩
    have := chg1_key h
    rw [this]
    exact h
  · intro h
    have hU := look_uni I hW s.k
    have : (look (uni W I) s.k).isSome = true := by
      rw [hU]
      cases e : look W s.k with
      | some _ => simp
      | none => cases f : look I s.k with
        | some _ => simp
        | none => rw [e, f] at h; cases h
    obtain ⟨v, hv⟩ := Option.isSome_iff_exists.1 this
    exact ⟨(s.k, v), look_mem hv, h⟩
theorem chg_rises {W I : Tab} (hW : Srt W) : (chg W I).Pairwise (fun x y => lx x.k y.k = true) := by
  unfold chg
  rw [List.pairwise_filterMap]
  refine List.Pairwise.imp ?_ (srt_uni I hW)
  intro p q h s hs t ht
  rw [chg1_key hs, chg1_key ht]
  exact h
theorem lastS_chg {W I : Tab} (hW : Srt W) (k : List Int) : lastS (chg W I) k = chg1 k (look W k) (look I k) := by
  cases e : chg1 k (look W k) (look I k) with
  | some s =>
    have hk := chg1_key e
    have : s ∈ chg W I := (mem_chg hW).2 (by rw [hk]; exact e)
    rw [← hk]
    exact lastS_uniq (chg_rises hW) this
  | none =>
    cases f : lastS (chg W I) k with
    | none => rfl
    | some s =>
      have hs := lastS_mem f
      have := (mem_chg hW).1 hs.1
      rw [hs.2, e] at this
      cases this
theorem doAll_chg {W I : Tab} (hW : Srt W) (hI : Srt I) : doAll W (chg W I) = I := by
  refine tab_ext (srt_doAll hW) hI fun k => ?_
  rw [look_doAll _ hW, lastS_chg hW]
  cases e : look W k with
  | none => cases f : look I k <;> simp [chg1, afterS]
  | some v => cases f : look I k with
    | none => simp [chg1, afterS]
    | some v' =>
      simp only [chg1]
      split
      · rename_i h; rw [h]; rfl
      · simp [afterS]
theorem chg_may {W I : Tab} (hW : Tok W) (hI : Tok I) : allMay (chg W I) = true := by
  unfold allMay
  rw [List.all_eq_true]
  intro s hs
  have h := (mem_chg hW.srt).1 hs
  unfold chg1 at h
  split at h
  · rename_i v _ e
    have hm := look_mem e
    have h1 := hI.key _ hm
    have h2 := hI.val _ hm
    rw [← Option.some.inj h]
    simp [mayS]; simp at h1 h2; omega
  · rename_i v' v _ e
    split at h
    · cases h
    · have hm := look_mem e
      have h1 := hI.key _ hm
      have h2 := hI.val _ hm
      rw [← Option.some.inj h]
      simp [mayS]; simp at h1 h2; omega
  · rename_i v e _
    have hm := look_mem e
    have h1 := hW.key _ hm
    rw [← Option.some.inj h]
    simp [mayS]; simp at h1; omega
  · cases h
theorem chg_byte {W I : Tab} (hW : Tok W) (hI : Tok I) : ∀ s ∈ chg W I, OkS s := by
  intro s hs
  have h := (mem_chg hW.srt).1 hs
  have e0 : Okb ([] : List Int) := by intro z hz; simp at hz
  unfold chg1 at h
  split at h
  · rename_i v _ e
    have hm := look_mem e
    rw [← Option.some.inj h]
    exact ⟨(hI.key _ hm).1, (hI.val _ hm).1⟩
  · rename_i v' v _ e
    split at h
    · cases h
    · have hm := look_mem e
      rw [← Option.some.inj h]
      exact ⟨(hI.key _ hm).1, (hI.val _ hm).1⟩
  · rename_i v e _
    have hm := look_mem e
    rw [← Option.some.inj h]
    exact ⟨(hW.key _ hm).1, e0⟩
  · cases h
theorem chg_ok {W I : Tab} (hW : Tok W) (hI : Tok I) : okS (chg W I) = true := okS_of (chg_may hW hI) (chg_rises hW.srt)
end Go.Proofs.YteeapmcpbmjpmaaGreat
