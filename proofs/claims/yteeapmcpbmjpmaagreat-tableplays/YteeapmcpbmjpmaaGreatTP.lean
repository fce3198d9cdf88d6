import Derived.Test.YteeapmcpbmjpmaaGreatPTxt
namespace Go.Proofs.YteeapmcpbmjpmaaGreat
set_option maxRecDepth 100000
set_option linter.unusedVariables false

/-! Bytes in order. -/
def lx : List Int → List Int → Bool
  | [], [] => false
  | [], _ :: _ => true
  | _ :: _, [] => false
  | a :: l, b :: r => if a = b then lx l r else decide (a < b)
theorem lx_self : ∀ l : List Int, lx l l = false
  | [] => rfl
  | a :: l => by rw [lx, if_pos rfl]; exact lx_self l
theorem lx_nil (l : List Int) : lx [] l = decide (0 < l.length) := by cases l <;> simp [lx]
theorem lx_nil_r (l : List Int) : lx l [] = false := by cases l <;> rfl
theorem lx_trans : ∀ {a b c : List Int}, lx a b = true → lx b c = true → lx a c = true
  | [], [], c, h, _ => by simp [lx] at h
  | [], _ :: _, [], _, h => by simp [lx] at h
  | [], _ :: _, _ :: _, _, _ => rfl
  | _ :: _, [], _, h, _ => by simp [lx] at h
  | _ :: _, _ :: _, [], _, h => by simp [lx] at h
  | a :: l, b :: m, c :: n, h, h' => by
    rw [lx] at h h' ⊢
    by_cases e : a = b
    · subst e
      rw [if_pos rfl] at h
      by_cases f : a = c
      · rw [if_pos f] at h' ⊢
        exact lx_trans h h'
      · rw [if_neg f] at h' ⊢
        exact h'
    · rw [if_neg e] at h
      have h1 := of_decide_eq_true h
      by_cases f : b = c
      · subst f
        rw [if_neg e]
        exact h
      · rw [if_neg f] at h'
        have h2 := of_decide_eq_true h'
        rw [if_neg (by omega)]
        exact decide_eq_true (by omega)
theorem lx_asym {a b : List Int} (h : lx a b = true) : lx b a = false := by
  cases e : lx b a with
  | false => rfl
  | true => have := lx_trans h e; rw [lx_self] at this; exact absurd this (by decide)
theorem lx_tot : ∀ {a b : List Int}, lx a b = false → lx b a = false → a = b
  | [], [], _, _ => rfl
  | [], _ :: _, h, _ => by simp [lx] at h
  | _ :: _, [], _, h => by simp [lx] at h
  | a :: l, b :: r, h, h' => by
    rw [lx] at h h'
    by_cases e : a = b
    · rw [if_pos e] at h
      rw [if_pos e.symm] at h'
      rw [e, lx_tot h h']
    · rw [if_neg e] at h
      rw [if_neg (Ne.symm e)] at h'
      have h1 := of_decide_eq_false h
      have h2 := of_decide_eq_false h'
      omega
theorem lx_ne {a b : List Int} (h : lx a b = true) : a ≠ b := fun e => by rw [e, lx_self] at h; exact absurd h (by decide)
theorem lx_of_ne {a b : List Int} (hn : a ≠ b) (h : lx a b = false) : lx b a = true := by
  cases e : lx b a with
  | true => rfl
  | false => exact absurd (lx_tot h e) hn
theorem lx_at : ∀ (l r : List Int) (j : Nat), j < l.length → j < r.length → (∀ i, i < j → l.getD i 0 = r.getD i 0) → l.getD j 0 ≠ r.getD j 0 → lx l r = decide (l.getD j 0 < r.getD j 0)
  | [], r, j, h, _, _, _ => by simp at h
  | a :: l, [], j, _, h, _, _ => by simp at h
  | a :: l, b :: r, 0, _, _, _, h4 => by
    have h4 : a ≠ b := by simpa using h4
    rw [lx, if_neg h4]
    simp
  | a :: l, b :: r, j + 1, h1, h2, h3, h4 => by
    rw [lx, if_pos (by simpa using h3 0 (by omega)), lx_at l r j (by simpa using h1) (by simpa using h2) (fun i hi => by simpa using h3 (i + 1) (by omega)) (by simpa using h4)]
    simp
theorem lx_all : ∀ (l r : List Int), (∀ i, i < l.length → i < r.length → l.getD i 0 = r.getD i 0) → lx l r = decide (l.length < r.length)
  | [], [], _ => rfl
  | [], b :: r, _ => by simp [lx]
  | a :: l, [], _ => by simp [lx]
  | a :: l, b :: r, h => by
    rw [lx, if_pos (by simpa using h 0 (by simp) (by simp)), lx_all l r (fun i hi hi' => by simpa using h (i + 1) (by simpa using hi) (by simpa using hi'))]
    simp

/-- Lists whose keys rise and that have the same members are one. -/
theorem srt_ext {α : Type} (key : α → List Int) : ∀ (l l' : List α), l.Pairwise (fun x y => lx (key x) (key y) = true) → l'.Pairwise (fun x y => lx (key x) (key y) = true) → (∀ x, x ∈ l ↔ x ∈ l') → l = l'
  | [], [], _, _, _ => rfl
  | [], y :: l', _, _, h => absurd ((h y).2 (by simp)) (by simp)
  | x :: l, [], _, _, h => absurd ((h x).1 (by simp)) (by simp)
  | x :: l, y :: l', h1, h2, h => by
    rw [List.pairwise_cons] at h1 h2
    have exy : x = y := by
      rcases List.mem_cons.1 ((h x).1 (by simp)) with e | hx
      · exact e
      rcases List.mem_cons.1 ((h y).2 (by simp)) with e | hy
      · exact e.symm
      have a := h2.1 x hx
      have b := h1.1 y hy
      rw [lx_asym a] at b
      exact absurd b (by decide)
    subst exy
    rw [srt_ext key l l' h1.2 h2.2 fun z => ?_]
    constructor
    · intro hz
      rcases List.mem_cons.1 ((h z).1 (by simp [hz])) with e | hz'
      · subst e
        have := h1.1 z hz
        rw [lx_self] at this
        exact absurd this (by decide)
      · exact hz'
    · intro hz
      rcases List.mem_cons.1 ((h z).2 (by simp [hz])) with e | hz'
      · subst e
        have := h2.1 z hz
        rw [lx_self] at this
        exact absurd this (by decide)
      · exact hz'

/-! Tables. -/
abbrev Tab := List (List Int × List Int)
def Srt (M : Tab) : Prop := M.Pairwise (fun p q => lx p.1 q.1 = true)
def look : Tab → List Int → Option (List Int)
  | [], _ => none
  | p :: M, k => if p.1 = k then some p.2 else look M k
def ins (k v : List Int) : Tab → Tab
  | [] => [(k, v)]
  | p :: M => if p.1 = k then (k, v) :: M else if lx k p.1 then (k, v) :: p :: M else p :: ins k v M
def del (k : List Int) (M : Tab) : Tab := M.filter (fun p => p.1 != k)
theorem look_mem : ∀ {M : Tab} {k v : List Int}, look M k = some v → (k, v) ∈ M
  | p :: M, k, v, h => by
    rw [look] at h
    split at h
    · rename_i e
      obtain rfl := Option.some.inj h
      subst e
      simp
    · exact List.mem_cons_of_mem _ (look_mem h)
theorem look_none : ∀ {M : Tab} {k : List Int}, look M k = none ↔ ∀ p ∈ M, p.1 ≠ k
  | [], k => by simp [look]
  | p :: M, k => by
    rw [look]
    split
    · rename_i e; simp [e]
    · rename_i e; rw [look_none (M := M)]; simp [e]
theorem mem_look : ∀ {M : Tab} (hS : Srt M) {k v : List Int}, (k, v) ∈ M → look M k = some v
  | p :: M, hS, k, v, h => by
    unfold Srt at hS
    rw [List.pairwise_cons] at hS
    rw [look]
    rcases List.mem_cons.1 h with e | h
    · subst e
      rw [if_pos rfl]
    · rw [if_neg (lx_ne (hS.1 _ h))]
      exact mem_look hS.2 h
theorem srt_mem {M : Tab} (hS : Srt M) {k v : List Int} : (k, v) ∈ M ↔ look M k = some v := ⟨mem_look hS, look_mem⟩
theorem look_ins (k v : List Int) : ∀ (M : Tab), Srt M → ∀ k', look (ins k v M) k' = if k = k' then some v else look M k'
  | [], _, k' => by simp [ins, look]
  | p :: M, hS, k' => by
    unfold Srt at hS
    rw [List.pairwise_cons] at hS
    rw [ins]
    split
    · rename_i e
      rw [look, look]
      split
      · rfl
      · rename_i hn
        rw [if_neg (by rw [e]; exact hn)]
    · rename_i e
      split
      · rw [look]
      · rw [look, look_ins k v M hS.2 k', look]
        by_cases h1 : p.1 = k'
        · rw [if_pos h1, if_neg (fun h => e (by rw [h1, h])), if_pos h1]
        · rw [if_neg h1, if_neg h1]
theorem mem_ins {k v : List Int} : ∀ {M : Tab} {x : List Int × List Int}, x ∈ ins k v M → x = (k, v) ∨ x ∈ M
  | [], x, h => by simp [ins] at h; exact .inl h
  | p :: M, x, h => by
    rw [ins] at h
    split at h
    · rcases List.mem_cons.1 h with e | h
      · exact .inl e
      · exact .inr (List.mem_cons_of_mem _ h)
    · split at h
      · rcases List.mem_cons.1 h with e | h
        · exact .inl e
        · exact .inr h
      · rcases List.mem_cons.1 h with e | h
        · exact .inr (by rw [e]; simp)
        · rcases mem_ins h with e | h
          · exact .inl e
          · exact .inr (List.mem_cons_of_mem _ h)
theorem srt_ins (k v : List Int) : ∀ (M : Tab), Srt M → Srt (ins k v M)
  | [], _ => by simp [ins, Srt]
  | p :: M, hS => by
    have hS' := hS
    unfold Srt at hS'
    rw [List.pairwise_cons] at hS'
    rw [ins]
    split
    · rename_i e
      unfold Srt
      rw [List.pairwise_cons]
      exact ⟨fun q hq => by rw [← e]; exact hS'.1 q hq, hS'.2⟩
    · rename_i e
      split
      · rename_i hl
        unfold Srt
        rw [List.pairwise_cons]
        refine ⟨fun q hq => ?_, hS⟩
        rcases List.mem_cons.1 hq with h | h
        · subst h; exact hl
        · exact lx_trans hl (hS'.1 q h)
      · rename_i hl
        unfold Srt
        rw [List.pairwise_cons]
        refine ⟨fun q hq => ?_, srt_ins k v M hS'.2⟩
        rcases mem_ins hq with h | h
        · subst h
          exact lx_of_ne (Ne.symm e) (by simpa using hl)
        · exact hS'.1 q h
theorem srt_del (k : List Int) {M : Tab} (h : Srt M) : Srt (del k M) := List.Pairwise.filter _ h
theorem look_del (k : List Int) : ∀ (M : Tab) (k' : List Int), look (del k M) k' = if k = k' then none else look M k'
  | [], k' => by simp [del, look]
  | p :: M, k' => by
    have ih := look_del k M k'
    unfold del at ih ⊢
    rw [List.filter_cons]
    by_cases e : p.1 = k
    · rw [if_neg (by simp [e]), ih, look]
      by_cases f : k = k'
      · rw [if_pos f, if_pos f]
      · rw [if_neg f, if_neg f, if_neg (by rw [e]; exact f)]
    · rw [if_pos (by simpa using e), look, ih, look]
      by_cases f : k = k'
      · rw [if_pos f, if_neg (by rw [← f]; exact e)]
        rw [if_pos f]
      · rw [if_neg f, if_neg f]
theorem len_del (k : List Int) : ∀ (M : Tab), Srt M → (del k M).length + (if (look M k).isSome then 1 else 0) = M.length
  | [], _ => by simp [del, look]
  | p :: M, hS => by
    unfold Srt at hS
    rw [List.pairwise_cons] at hS
    have ih := len_del k M hS.2
    rw [look]
    by_cases e : p.1 = k
    · rw [if_pos e]
      have hz : look M k = none := look_none.2 fun q hq f => lx_ne (hS.1 q hq) (by rw [f, e])
      rw [hz] at ih
      unfold del at ih ⊢
      rw [List.filter_cons, if_neg (by simp [e])]
      simp at ih ⊢
      exact ih
    · rw [if_neg e]
      unfold del at ih ⊢
      rw [List.filter_cons, if_pos (by simpa using e)]
      simp only [List.length_cons]
      omega
theorem len_ins (k v : List Int) : ∀ (M : Tab), Srt M → (ins k v M).length = M.length + (if (look M k).isSome then 0 else 1)
  | [], _ => by simp [ins, look]
  | p :: M, hS => by
    unfold Srt at hS
    rw [List.pairwise_cons] at hS
    have ih := len_ins k v M hS.2
    rw [ins, look]
    by_cases e : p.1 = k
    · rw [if_pos e, if_pos e]; simp
    · rw [if_neg e, if_neg e]
      split
      · rename_i hl
        have hz : look M k = none := look_none.2 fun q hq f => by
          have := lx_trans hl (hS.1 q hq)
          rw [f, lx_self] at this
          exact absurd this (by decide)
        rw [hz]
        simp
      · simp only [List.length_cons]
        omega
theorem tab_ext {M N : Tab} (hM : Srt M) (hN : Srt N) (h : ∀ k, look M k = look N k) : M = N := by
  refine srt_ext Prod.fst M N hM hN fun x => ?_
  obtain ⟨k, v⟩ := x
  rw [srt_mem hM, srt_mem hN, h]
/-- Bytes. -/
def Okb (l : List Int) : Prop := ∀ z ∈ l, 0 ≤ z ∧ z ≤ 255
/-- A table of a Go program. -/
structure Tok (M : Tab) : Prop where
  srt : Srt M
  key : ∀ p ∈ M, Okb p.1 ∧ 1 ≤ p.1.length ∧ p.1.length ≤ 40
  val : ∀ p ∈ M, Okb p.2 ∧ p.2.length ≤ 480
theorem tok_nil : Tok [] := ⟨List.Pairwise.nil, by simp, by simp⟩
theorem Tok.ins {M : Tab} (h : Tok M) {k v : List Int} (hk : Okb k ∧ 1 ≤ k.length ∧ k.length ≤ 40) (hv : Okb v ∧ v.length ≤ 480) : Tok (ins k v M) :=
  ⟨srt_ins k v M h.srt, fun p hp => by
    rcases mem_ins hp with e | hp
    · subst e; exact hk
    · exact h.key p hp, fun p hp => by
    rcases mem_ins hp with e | hp
    · subst e; exact hv
    · exact h.val p hp⟩
theorem mem_del {k : List Int} {M : Tab} {p : List Int × List Int} (h : p ∈ del k M) : p ∈ M := (List.mem_filter.1 h).1
theorem Tok.del {M : Tab} (h : Tok M) (k : List Int) : Tok (del k M) :=
  ⟨srt_del k h.srt, fun p hp => h.key p (mem_del hp), fun p hp => h.val p (mem_del hp)⟩

/-! Sets. -/
structure Sx where
  k : List Int
  v : List Int
  g : Bool
  deriving DecidableEq
def mayS (s : Sx) : Bool := decide (1 ≤ s.k.length) && decide (s.k.length ≤ 40) && (if s.g then decide (s.v.length = 0) else decide (s.v.length ≤ 480))
def doS (M : Tab) (s : Sx) : Tab := if s.g then del s.k M else ins s.k s.v M
def doAll (M : Tab) (l : List Sx) : Tab := l.foldl doS M
def allMay (l : List Sx) : Bool := l.all mayS
def OkS (s : Sx) : Prop := Okb s.k ∧ Okb s.v
theorem mayS_key {s : Sx} (h : mayS s = true) : 1 ≤ s.k.length ∧ s.k.length ≤ 40 := by
  simp [mayS] at h; exact h.1
theorem mayS_val {s : Sx} (h : mayS s = true) : s.v.length ≤ 480 := by
  unfold mayS at h
  cases hg : s.g <;> simp [hg] at h
  · exact h.2
  · rw [h.2]; simp
theorem Tok.doS {M : Tab} (h : Tok M) {s : Sx} (hs : mayS s = true) (ho : OkS s) : Tok (doS M s) := by
  unfold Go.Proofs.YteeapmcpbmjpmaaGreat.doS
  split
  · exact h.del _
  · exact h.ins ⟨ho.1, mayS_key hs⟩ ⟨ho.2, mayS_val hs⟩
theorem Tok.doAll {l : List Sx} : ∀ {M : Tab} (h : Tok M) (hs : allMay l = true) (ho : ∀ s ∈ l, OkS s), Tok (doAll M l) := by
  induction l with
  | nil => intro M h _ _; exact h
  | cons s l ih =>
    intro M h hs ho
    unfold allMay at hs
    rw [List.all_cons, Bool.and_eq_true] at hs
    exact ih (h.doS hs.1 (ho s (by simp))) hs.2 (fun x hx => ho x (by simp [hx]))
theorem len_doS {M : Tab} (h : Srt M) (s : Sx) : (doS M s).length ≤ M.length + 1 := by
  unfold doS
  split
  · have := len_del s.k M h; omega
  · have := len_ins s.k s.v M h
    rw [this]
    split <;> omega
/-- A set's bytes. -/
def enc1 (s : Sx) : List Int := (if s.g then 0 else 1) :: (be 1 s.k.length ++ be 2 s.v.length ++ s.k ++ s.v)
def enc (l : List Sx) : List Int := l.flatMap enc1
theorem be1 (x : Int) : be 1 x = [x % 256] := by simp [be]
theorem be2 (x : Int) : be 2 x = [x / 256 % 256, x % 256] := by simp [be]
theorem enc1_len (s : Sx) : (enc1 s).length = 4 + s.k.length + s.v.length := by
  unfold enc1
  rw [List.length_cons, List.length_append, List.length_append, List.length_append, be_length, be_length]
  omega
theorem enc1_byte {s : Sx} (h : OkS s) : Okb (enc1 s) := by
  intro z hz
  unfold enc1 at hz
  rcases List.mem_cons.1 hz with e | hz
  · subst e; split <;> omega
  · rcases List.mem_append.1 hz with hz | hz
    · rcases List.mem_append.1 hz with hz | hz
      · rcases List.mem_append.1 hz with hz | hz
        · exact be_byte _ _ z hz
        · exact be_byte _ _ z hz
      · exact h.1 z hz
    · exact h.2 z hz
theorem enc_snoc (l : List Sx) (s : Sx) : enc (l ++ [s]) = enc l ++ enc1 s := by simp [enc]
theorem enc_app (l m : List Sx) : enc (l ++ m) = enc l ++ enc m := by simp [enc]
theorem enc_byte {l : List Sx} (h : ∀ s ∈ l, OkS s) : Okb (enc l) := by
  intro z hz
  obtain ⟨s, hs, hz⟩ := List.mem_flatMap.1 hz
  exact enc1_byte (h s hs) z hz
/-- May these be written, behind the key 'last'? -/
def okFrom : List Int → List Sx → Bool
  | _, [] => true
  | last, s :: l => mayS s && lx last s.k && okFrom s.k l
def okS (l : List Sx) : Bool := okFrom [] l
theorem okFrom_may : ∀ {l : List Sx} {last : List Int}, okFrom last l = true → allMay l = true
  | [], _, _ => rfl
  | s :: l, last, h => by
    rw [okFrom, Bool.and_eq_true, Bool.and_eq_true] at h
    unfold allMay
    rw [List.all_cons, h.1.1]
    exact okFrom_may h.2
theorem okFrom_low : ∀ {l : List Sx} {last : List Int}, okFrom last l = true → ∀ s ∈ l, lx last s.k = true
  | [], _, _, s, hs => by simp at hs
  | x :: l, last, h, s, hs => by
    rw [okFrom, Bool.and_eq_true, Bool.and_eq_true] at h
    rcases List.mem_cons.1 hs with e | hs
    · subst e; exact h.1.2
    · exact lx_trans h.1.2 (okFrom_low h.2 s hs)
theorem okFrom_rises : ∀ {l : List Sx} {last : List Int}, okFrom last l = true → l.Pairwise (fun x y => lx x.k y.k = true)
  | [], _, _ => List.Pairwise.nil
  | x :: l, last, h => by
    rw [okFrom, Bool.and_eq_true, Bool.and_eq_true] at h
    exact List.Pairwise.cons (fun y hy => okFrom_low h.2 y hy) (okFrom_rises h.2)
theorem okFrom_of : ∀ {l : List Sx} {last : List Int}, allMay l = true → l.Pairwise (fun x y => lx x.k y.k = true) → (∀ s ∈ l, lx last s.k = true) → okFrom last l = true
  | [], _, _, _, _ => rfl
  | x :: l, last, h1, h2, h3 => by
    unfold allMay at h1
    rw [List.all_cons, Bool.and_eq_true] at h1
    rw [List.pairwise_cons] at h2
    rw [okFrom, h1.1, h3 x (by simp), okFrom_of h1.2 h2.2 h2.1]
    rfl
theorem okS_of {l : List Sx} (h1 : allMay l = true) (h2 : l.Pairwise (fun x y => lx x.k y.k = true)) : okS l = true :=
  okFrom_of h1 h2 fun s hs => by
    rw [lx_nil]
    have := mayS_key (List.all_eq_true.1 h1 s hs)
    exact decide_eq_true (by omega)
/-- A table as sets. -/
def asS (M : Tab) : List Sx := M.map fun p => ⟨p.1, p.2, false⟩
theorem asS_may {M : Tab} (h : Tok M) : allMay (asS M) = true := by
  unfold allMay
  rw [List.all_eq_true]
  intro s hs
  obtain ⟨p, hp, rfl⟩ := List.mem_map.1 hs
  have h1 := h.key p hp
  have h2 := h.val p hp
  simp [mayS]
  omega
theorem asS_ok {M : Tab} (h : Tok M) : okS (asS M) = true := by
  refine okS_of (asS_may h) ?_
  unfold asS
  rw [List.pairwise_map]
  exact h.srt
theorem asS_byte {M : Tab} (h : Tok M) : ∀ s ∈ asS M, OkS s := by
  intro s hs
  obtain ⟨p, hp, rfl⟩ := List.mem_map.1 hs
  exact ⟨(h.key p hp).1, (h.val p hp).1⟩
end Go.Proofs.YteeapmcpbmjpmaaGreat
