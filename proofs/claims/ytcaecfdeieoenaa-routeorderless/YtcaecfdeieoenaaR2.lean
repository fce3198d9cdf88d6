import Derived.Test.YtcaecfdeieoenaaR1
namespace Go.Proofs.Ytcaecfdeieoenaa
set_option linter.unusedVariables false

/-- What With and Without tell. -/
def wE (p : Wy) (l : List Wy) : Int := if vp p.F p.H p.L p.B = false then 70 else if p.K < 1 ∨ 4294967295 < p.K then 81 else if has p l = true then 80 else 0
def oE (p : Wy) (l : List Wy) : Int := if vp p.F p.H p.L p.B = false then 70 else if has p l = false then 82 else 0
theorem wE_zero {p : Wy} {l : List Wy} (hp : p.In) : wE p l = 0 ↔ p.Ok ∧ has p l = false := by
  unfold wE Wy.Ok
  cases h1 : vp p.F p.H p.L p.B with
  | false => simp
  | true =>
    by_cases h2 : p.K < 1 ∨ 4294967295 < p.K
    · simp only [if_pos h2, Bool.true_eq_false, if_false]
      constructor
      · intro h; cases h
      · rintro ⟨⟨_, _, h⟩, _⟩
        omega
    · simp only [if_neg h2, Bool.true_eq_false, if_false]
      cases h3 : has p l with
      | true => simp
      | false =>
        simp only [Bool.false_eq_true, if_false, and_true, true_and, true_iff]
        exact ⟨hp, by omega⟩
theorem oE_zero {p : Wy} {l : List Wy} (hl : Tl l) (hp : p.In) : oE p l = 0 ↔ has p l = true := by
  unfold oE
  cases h1 : vp p.F p.H p.L p.B with
  | false =>
    simp only [if_true]
    constructor
    · intro h; cases h
    · intro h
      obtain ⟨x, hx, hs⟩ := has_true.1 h
      have := (hl.2 x hx).2.1
      obtain ⟨e1, e2, e3, e4⟩ := (sm_iff _ _).1 hs
      rw [e1, e2, e3, e4, h1] at this
      cases this
  | true =>
    cases h3 : has p l with
    | true => simp
    | false => simp
/-- The ways of a list that a table takes, one behind the other. -/
def lay1 (l : List Wy) (x : Wy) : List Wy := if wE x l = 0 then ins x l else l
def layL (m : List Wy) : List Wy := m.foldl lay1 []
theorem tl_lay1 {l : List Wy} {x : Wy} (hl : Tl l) (hx : x.In) : Tl (lay1 l x) := by
  unfold lay1
  split
  · rename_i h
    obtain ⟨h1, h2⟩ := (wE_zero hx).1 h
    exact tl_ins hl h1 h2
  · exact hl
theorem tl_fold : ∀ (m : List Wy) (l : List Wy), Tl l → (∀ x ∈ m, x.In) → Tl (m.foldl lay1 l)
  | [], l, h, _ => h
  | x :: m, l, h, hm => by
    rw [List.foldl_cons]
    exact tl_fold m _ (tl_lay1 h (hm x List.mem_cons_self)) (fun y hy => hm y (List.mem_cons_of_mem _ hy))
theorem tl_lay {m : List Wy} (hm : ∀ x ∈ m, x.In) : Tl (layL m) := tl_fold m [] tl_nil hm
theorem lay_snoc (m : List Wy) (x : Wy) : layL (m ++ [x]) = lay1 (layL m) x := by
  unfold layL
  rw [List.foldl_append]
  rfl
theorem mem_fold (z : Wy) : ∀ (m : List Wy) (l : List Wy), m.Pairwise (fun x y => x.sm y = false) → (∀ x ∈ m, x.In) → (∀ x ∈ m, ∀ y ∈ l, y.sm x = false) → (z ∈ m.foldl lay1 l ↔ z ∈ l ∨ (z ∈ m ∧ z.Ok))
  | [], l, _, _, _ => by simp
  | x :: m, l, hd, hm, hl => by
    rw [List.pairwise_cons] at hd
    rw [List.foldl_cons]
    have hn : has x l = false := has_false.2 (fun y hy => hl x List.mem_cons_self y hy)
    have hsub : ∀ y, y ∈ lay1 l x → y = x ∨ y ∈ l := by
      intro y hy
      unfold lay1 at hy
      split at hy
      · exact (mem_ins x y l).1 hy
      · exact .inr hy
    rw [mem_fold z m (lay1 l x) hd.2 (fun y hy => hm y (List.mem_cons_of_mem _ hy)) (fun y hy u hu => by
      rcases hsub u hu with rfl | hu
      · exact hd.1 y hy
      · exact hl y (List.mem_cons_of_mem _ hy) u hu)]
    have key : z ∈ lay1 l x ↔ (z = x ∧ x.Ok) ∨ z ∈ l := by
      unfold lay1
      split
      · rename_i h
        rw [mem_ins]
        constructor
        · rintro (rfl | h')
          · exact .inl ⟨rfl, ((wE_zero (hm z List.mem_cons_self)).1 h).1⟩
          · exact .inr h'
        · rintro (⟨h', _⟩ | h')
          · exact .inl h'
          · exact .inr h'
      · rename_i h
        constructor
        · exact .inr
        · rintro (⟨_, h'⟩ | h')
          · exact absurd ((wE_zero (hm x List.mem_cons_self)).2 ⟨h', hn⟩) h
          · exact h'
    rw [key, List.mem_cons]
    constructor
    · rintro ((⟨rfl, h⟩ | h) | ⟨h, h'⟩)
      · exact .inr ⟨.inl rfl, h⟩
      · exact .inl h
      · exact .inr ⟨.inr h, h'⟩
    · rintro (h | ⟨rfl | h, h'⟩)
      · exact .inl (.inr h)
      · exact .inl (.inl ⟨rfl, h'⟩)
      · exact .inr ⟨h, h'⟩
/-- A table hangs on what it has alone. -/
theorem lay_reverse {m : List Wy} (hm : ∀ x ∈ m, x.In) (hd : m.Pairwise (fun x y => x.sm y = false)) : layL m.reverse = layL m := by
  have hm' : ∀ x ∈ m.reverse, x.In := fun x hx => hm x (List.mem_reverse.1 hx)
  have hd' : m.reverse.Pairwise (fun x y => x.sm y = false) := by
    rw [List.pairwise_reverse]
    exact hd.imp (fun {a b} h => by rw [sm_comm]; exact h)
  refine srt_ext _ _ (tl_lay hm').1 (tl_lay hm).1 (fun z => ?_)
  unfold layL
  rw [mem_fold z _ [] hd' hm' (fun x hx y hy => by cases hy), mem_fold z _ [] hd hm (fun x hx y hy => by cases hy), List.mem_reverse]
/-- One of each prefix, the first one. -/
def uniq1 (m : List Wy) (x : Wy) : Bool := m.any (fun y => x.sm y)
/-- The longest one, kept as its bits and its link. -/
def fb (F H L : Int) (s : Int × Int) (x : Wy) : Int × Int := if x.ho F H L && decide (s.1 < x.B) then (x.B, x.K) else s
theorem fb_fold (F H L : Int) : ∀ (l : List Wy) (b : Option Wy) (s : Int × Int), (∀ x ∈ l, x.Ok) → (match b with | none => s = (-1, 0) | some y => s = (y.B, y.K)) →
    match l.foldl (fstep F H L) b with | none => l.foldl (fb F H L) s = (-1, 0) | some y => l.foldl (fb F H L) s = (y.B, y.K)
  | [], b, s, _, h => h
  | x :: l, b, s, ho, h => by
    rw [List.foldl_cons, List.foldl_cons]
    refine fb_fold F H L l _ _ (fun y hy => ho y (List.mem_cons_of_mem _ hy)) ?_
    have hB := (vp_in (ho x List.mem_cons_self).2.1).2.1
    unfold fstep fb
    cases b with
    | none =>
      simp only at h
      subst h
      cases x.ho F H L with
      | true =>
        simp only [bet, Bool.and_self, if_true, Bool.true_and, decide_eq_true_eq]
        rw [if_pos (by omega)]
      | false => rfl
    | some y =>
      simp only at h
      subst h
      cases x.ho F H L with
      | true =>
        simp only [bet, Bool.true_and]
        by_cases hb : y.B < x.B
        · rw [if_pos (decide_eq_true hb), if_pos (decide_eq_true hb)]
        · rw [if_neg (by simpa using hb), if_neg (by simpa using hb)]
      | false => rfl
theorem fb_fnd {l : List Wy} (F H L : Int) (hl : ∀ x ∈ l, x.Ok) : match fnd l F H L with | none => l.foldl (fb F H L) (-1, 0) = (-1, 0) | some y => l.foldl (fb F H L) (-1, 0) = (y.B, y.K) :=
  fb_fold F H L l none (-1, 0) hl rfl
end Go.Proofs.Ytcaecfdeieoenaa
