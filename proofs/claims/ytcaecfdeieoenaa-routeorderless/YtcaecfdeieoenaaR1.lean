import Derived.Test.YtcaecfdeieoenaaP6
namespace Go.Proofs.Ytcaecfdeieoenaa
set_option linter.unusedVariables false

/-- A way: a prefix with its link. -/
structure Wy where
  F : Int
  H : Int
  L : Int
  B : Int
  K : Int
/-- As Go's numbers. -/
def Wy.In (x : Wy) : Prop := InI x.F ∧ InU x.H ∧ InU x.L ∧ InI x.B ∧ InI x.K
/-- A way that a table may have. -/
def Wy.Ok (x : Wy) : Prop := x.In ∧ vp x.F x.H x.L x.B = true ∧ 1 ≤ x.K ∧ x.K ≤ 4294967295
/-- Two ways of one prefix. -/
def Wy.sm (x y : Wy) : Bool := decide (x.F = y.F ∧ x.H = y.H ∧ x.L = y.L ∧ x.B = y.B)
def Wy.cm (x y : Wy) : Int := cp x.F x.H x.L x.B y.F y.H y.L y.B
def Wy.ho (x : Wy) (F H L : Int) : Bool := Go.Proofs.Ytcaecfdeieoenaa.ho x.F x.H x.L x.B F H L
/-- In order. -/
def Srt (l : List Wy) : Prop := l.Pairwise (fun x y => x.cm y < 0)
/-- What a table has. -/
def Tl (l : List Wy) : Prop := Srt l ∧ ∀ x ∈ l, x.Ok
def ins (p : Wy) : List Wy → List Wy
  | [] => [p]
  | x :: r => if p.cm x < 0 then p :: x :: r else x :: ins p r
def has (p : Wy) (l : List Wy) : Bool := l.any (fun x => x.sm p)
def del (p : Wy) (l : List Wy) : List Wy := l.filter (fun x => !x.sm p)
/-- Is this one to be taken rather than that one? -/
def bet (b : Option Wy) (x : Wy) : Bool := match b with
  | none => true
  | some y => decide (y.B < x.B)
def fstep (F H L : Int) (b : Option Wy) (x : Wy) : Option Wy := if x.ho F H L && bet b x then some x else b
def fnd (l : List Wy) (F H L : Int) : Option Wy := l.foldl (fstep F H L) none

theorem od_lt (a b : Int) : od a b < 0 ↔ a < b := by
  unfold od
  split
  · omega
  · split <;> omega
theorem cm_lt (x y : Wy) : x.cm y < 0 ↔ x.F < y.F ∨ (x.F = y.F ∧ (x.B < y.B ∨ (x.B = y.B ∧ (x.H < y.H ∨ (x.H = y.H ∧ x.L < y.L))))) := by
  unfold Wy.cm cp
  split
  · rw [od_lt]; omega
  · split
    · rw [od_lt]; omega
    · split
      · rw [od_lt]; omega
      · rw [od_lt]; omega
theorem cm_trans {x y z : Wy} (h : x.cm y < 0) (k : y.cm z < 0) : x.cm z < 0 := by
  rw [cm_lt] at *
  omega
theorem sm_iff (x y : Wy) : x.sm y = true ↔ x.F = y.F ∧ x.H = y.H ∧ x.L = y.L ∧ x.B = y.B := by
  unfold Wy.sm
  rw [decide_eq_true_iff]
theorem sm_comm (x y : Wy) : x.sm y = y.sm x := by
  rw [Bool.eq_iff_iff, sm_iff, sm_iff]
  omega
theorem cm_tri (x y : Wy) : x.cm y < 0 ∨ x.sm y = true ∨ y.cm x < 0 := by
  rw [cm_lt, cm_lt, sm_iff]
  omega
theorem cm_not {x y : Wy} (h : x.cm y < 0) : x.sm y = false ∧ ¬ y.cm x < 0 := by
  rw [cm_lt] at *
  constructor
  · rw [Bool.eq_false_iff, ne_eq, sm_iff]
    omega
  · omega
theorem mem_ins (p x : Wy) : ∀ l, x ∈ ins p l ↔ x = p ∨ x ∈ l
  | [] => by simp [ins]
  | y :: r => by
    rw [ins]
    split
    · simp
    · rw [List.mem_cons, mem_ins p x r, List.mem_cons]
      constructor
      · rintro (h | h | h)
        · exact .inr (.inl h)
        · exact .inl h
        · exact .inr (.inr h)
      · rintro (h | h | h)
        · exact .inr (.inl h)
        · exact .inl h
        · exact .inr (.inr h)
theorem srt_ins (p : Wy) : ∀ l, Srt l → (∀ x ∈ l, x.sm p = false) → Srt (ins p l)
  | [], _, _ => by simp [ins, Srt]
  | y :: r, h, hn => by
    unfold Srt at h ⊢
    rw [List.pairwise_cons] at h
    rw [ins]
    split
    · rename_i hc
      rw [List.pairwise_cons, List.pairwise_cons]
      refine ⟨fun x hx => ?_, h⟩
      rcases List.mem_cons.1 hx with rfl | hx
      · exact hc
      · exact cm_trans hc (h.1 x hx)
    · rename_i hc
      rw [List.pairwise_cons]
      refine ⟨fun x hx => ?_, srt_ins p r h.2 (fun x hx => hn x (List.mem_cons_of_mem _ hx))⟩
      rcases (mem_ins p x r).1 hx with rfl | hx
      · rcases cm_tri x y with h' | h' | h'
        · exact absurd h' hc
        · rw [sm_comm, hn y List.mem_cons_self] at h'
          cases h'
        · exact h'
      · exact h.1 x hx
theorem has_false {p : Wy} {l : List Wy} : has p l = false ↔ ∀ x ∈ l, x.sm p = false := by
  unfold has
  rw [List.any_eq_false]
  constructor
  · intro h x hx
    exact Bool.eq_false_iff.2 (h x hx)
  · intro h x hx
    rw [h x hx]
    simp
theorem has_true {p : Wy} {l : List Wy} : has p l = true ↔ ∃ x ∈ l, x.sm p = true := by
  unfold has
  rw [List.any_eq_true]
theorem tl_ins {p : Wy} {l : List Wy} (h : Tl l) (hp : p.Ok) (hn : has p l = false) : Tl (ins p l) :=
  ⟨srt_ins p l h.1 (has_false.1 hn), fun x hx => by
    rcases (mem_ins p x l).1 hx with rfl | hx
    · exact hp
    · exact h.2 x hx⟩
theorem tl_del {p : Wy} {l : List Wy} (h : Tl l) : Tl (del p l) := ⟨h.1.filter _, fun x hx => h.2 x (List.mem_filter.1 hx).1⟩
theorem tl_nil : Tl [] := ⟨List.Pairwise.nil, fun x hx => by cases hx⟩
theorem mem_del (p x : Wy) (l : List Wy) : x ∈ del p l ↔ x ∈ l ∧ x.sm p = false := by
  unfold del
  rw [List.mem_filter]
  simp
/-- Two lists in order that have the same ways are one list. -/
theorem srt_ext : ∀ (l m : List Wy), Srt l → Srt m → (∀ x, x ∈ l ↔ x ∈ m) → l = m
  | [], m, _, _, h => by
    cases m with
    | nil => rfl
    | cons y r => exact absurd ((h y).2 List.mem_cons_self) (by simp)
  | x :: l, [], _, _, h => absurd ((h x).1 List.mem_cons_self) (by simp)
  | x :: l, y :: m, hl, hm, h => by
    unfold Srt at hl hm
    rw [List.pairwise_cons] at hl hm
    have e : x = y := by
      rcases List.mem_cons.1 ((h x).1 List.mem_cons_self) with e | hx
      · exact e
      · rcases List.mem_cons.1 ((h y).2 List.mem_cons_self) with e | hy
        · exact e.symm
        · exact absurd (hl.1 y hy) (cm_not (hm.1 x hx)).2
    subst e
    congr 1
    refine srt_ext l m hl.2 hm.2 (fun z => ⟨fun hz => ?_, fun hz => ?_⟩)
    · rcases List.mem_cons.1 ((h z).1 (List.mem_cons_of_mem _ hz)) with rfl | hz'
      · exact absurd (hl.1 z hz) (fun hh => (cm_not hh).2 hh)
      · exact hz'
    · rcases List.mem_cons.1 ((h z).2 (List.mem_cons_of_mem _ hz)) with rfl | hz'
      · exact absurd (hm.1 z hz) (fun hh => (cm_not hh).2 hh)
      · exact hz'
theorem sm_self (x : Wy) : x.sm x = true := by rw [sm_iff]; exact ⟨rfl, rfl, rfl, rfl⟩
theorem srt_uni : ∀ {l : List Wy}, Srt l → ∀ {x y : Wy}, x ∈ l → y ∈ l → x.sm y = true → x = y
  | [], _, x, y, hx, _, _ => by cases hx
  | z :: l, h, x, y, hx, hy, e => by
    unfold Srt at h
    rw [List.pairwise_cons] at h
    rcases List.mem_cons.1 hx with rfl | hx'
    · rcases List.mem_cons.1 hy with rfl | hy'
      · rfl
      · rw [(cm_not (h.1 y hy')).1] at e
        cases e
    · rcases List.mem_cons.1 hy with rfl | hy'
      · rw [sm_comm, (cm_not (h.1 x hx')).1] at e
        cases e
      · exact srt_uni h.2 hx' hy' e
theorem del_ins {p : Wy} {l : List Wy} (h : Tl l) (hp : p.Ok) (hn : has p l = false) : del p (ins p l) = l := by
  refine srt_ext _ _ (tl_del (tl_ins h hp hn)).1 h.1 (fun x => ?_)
  rw [mem_del, mem_ins]
  constructor
  · rintro ⟨rfl | hx, hs⟩
    · rw [sm_self] at hs
      cases hs
    · exact hx
  · intro hx
    exact ⟨.inr hx, has_false.1 hn x hx⟩
theorem length_ins (p : Wy) : ∀ l, (ins p l).length = l.length + 1
  | [] => rfl
  | x :: r => by
    rw [ins]
    split
    · rfl
    · rw [List.length_cons, length_ins p r, List.length_cons]

/-! The longest one. -/
theorem fnd_fold (F H L : Int) : ∀ (l : List Wy) (b : Option Wy), (l.foldl (fstep F H L) b = none ↔ b = none ∧ ∀ y ∈ l, y.ho F H L = false) ∧
    ∀ x, l.foldl (fstep F H L) b = some x → ((b = some x ∧ ∀ y ∈ l, y.ho F H L = true → y.B ≤ x.B) ∨ (x ∈ l ∧ x.ho F H L = true ∧ (∀ y ∈ l, y.ho F H L = true → y.B ≤ x.B) ∧ ∀ z, b = some z → z.B ≤ x.B))
  | [], b => by
    constructor
    · simp
    · intro x hx
      exact .inl ⟨hx, fun y hy => by cases hy⟩
  | y :: l, b => by
    rw [List.foldl_cons]
    obtain ⟨h1, h2⟩ := fnd_fold F H L l (fstep F H L b y)
    by_cases hy : y.ho F H L = true
    · by_cases hb : bet b y = true
      · have e : fstep F H L b y = some y := by unfold fstep; rw [hy, hb]; rfl
        rw [e] at h1 h2
        rw [e]
        constructor
        · rw [h1]
          constructor
          · rintro ⟨h, _⟩
            cases h
          · rintro ⟨_, h⟩
            rw [h y List.mem_cons_self] at hy
            cases hy
        · intro x hx
          have hz : ∀ z, b = some z → z.B ≤ y.B := by
            rintro z rfl
            have := of_decide_eq_true hb
            omega
          rcases h2 x hx with ⟨e2, h3⟩ | ⟨m, hh, h3, h4⟩
          · obtain rfl := Option.some.inj e2
            refine .inr ⟨List.mem_cons_self, hy, fun z hz' hh => ?_, hz⟩
            rcases List.mem_cons.1 hz' with rfl | hz'
            · exact Int.le_refl _
            · exact h3 z hz' hh
          · have hyx := h4 y rfl
            refine .inr ⟨List.mem_cons_of_mem _ m, hh, fun z hz' hh' => ?_, fun z hb' => Int.le_trans (hz z hb') hyx⟩
            rcases List.mem_cons.1 hz' with rfl | hz'
            · exact hyx
            · exact h3 z hz' hh'
      · have hb' : bet b y = false := Bool.eq_false_iff.2 hb
        have e : fstep F H L b y = b := by unfold fstep; rw [hy, hb']; rfl
        rw [e] at h1 h2
        rw [e]
        cases b with
        | none => exact absurd rfl hb
        | some z0 =>
          have hz0 : y.B ≤ z0.B := by
            have := of_decide_eq_false hb'
            omega
          constructor
          · rw [h1]
            constructor
            · rintro ⟨h, _⟩
              cases h
            · rintro ⟨h, _⟩
              cases h
          · intro x hx
            rcases h2 x hx with ⟨e2, h3⟩ | ⟨m, hh, h3, h4⟩
            · obtain rfl := Option.some.inj e2
              refine .inl ⟨rfl, fun z hz' hh => ?_⟩
              rcases List.mem_cons.1 hz' with rfl | hz'
              · exact hz0
              · exact h3 z hz' hh
            · refine .inr ⟨List.mem_cons_of_mem _ m, hh, fun z hz' hh' => ?_, h4⟩
              rcases List.mem_cons.1 hz' with rfl | hz'
              · exact Int.le_trans hz0 (h4 z0 rfl)
              · exact h3 z hz' hh'
    · have hy' : y.ho F H L = false := Bool.eq_false_iff.2 hy
      have e : fstep F H L b y = b := by unfold fstep; rw [hy']; rfl
      rw [e] at h1 h2
      rw [e]
      constructor
      · rw [h1]
        constructor
        · rintro ⟨h, h'⟩
          refine ⟨h, fun z hz => ?_⟩
          rcases List.mem_cons.1 hz with rfl | hz
          · exact hy'
          · exact h' z hz
        · rintro ⟨h, h'⟩
          exact ⟨h, fun z hz => h' z (List.mem_cons_of_mem _ hz)⟩
      · intro x hx
        rcases h2 x hx with ⟨e2, h3⟩ | ⟨m, hh, h3, h4⟩
        · refine .inl ⟨e2, fun z hz hh => ?_⟩
          rcases List.mem_cons.1 hz with rfl | hz
          · rw [hy'] at hh
            cases hh
          · exact h3 z hz hh
        · refine .inr ⟨List.mem_cons_of_mem _ m, hh, fun z hz hh' => ?_, h4⟩
          rcases List.mem_cons.1 hz with rfl | hz
          · rw [hy'] at hh'
            cases hh'
          · exact h3 z hz hh'
theorem fnd_none {l : List Wy} {F H L : Int} : fnd l F H L = none ↔ ∀ y ∈ l, y.ho F H L = false := by
  unfold fnd
  rw [(fnd_fold F H L l none).1]
  simp
theorem fnd_some {l : List Wy} {F H L : Int} {x : Wy} (h : fnd l F H L = some x) : x ∈ l ∧ x.ho F H L = true ∧ ∀ y ∈ l, y.ho F H L = true → y.B ≤ x.B := by
  rcases (fnd_fold F H L l none).2 x h with ⟨e, _⟩ | ⟨h1, h2, h3, _⟩
  · cases e
  · exact ⟨h1, h2, h3⟩
/-- Two prefixes of as many bits that hold one address are one prefix. -/
theorem ho_same {x y : Wy} {F H L : Int} (hx : x.Ok) (hy : y.Ok) (h1 : x.ho F H L = true) (h2 : y.ho F H L = true) (hB : x.B = y.B) : x.sm y = true := by
  obtain ⟨⟨_, _, xL, _⟩, xv, _⟩ := hx
  obtain ⟨⟨_, _, yL, _⟩, yv, _⟩ := hy
  have a1 := (vp_in xv).2.2.2
  have a2 := (vp_in yv).2.2.2
  unfold Wy.ho Go.Proofs.Ytcaecfdeieoenaa.ho at h1 h2
  simp only [Bool.and_eq_true, decide_eq_true_eq] at h1 h2
  obtain ⟨_, _, rfl, e1⟩ := h1
  obtain ⟨_, _, e2, e3⟩ := h2
  rw [e2] at e3 a2
  rw [← hB] at e3 a2
  rw [← e3] at e1
  have d1 := Int.mul_ediv_add_emod (ad x.H x.L) (2 ^ (nb x.F - x.B.toNat))
  have d2 := Int.mul_ediv_add_emod (ad y.H y.L) (2 ^ (nb x.F - x.B.toNat))
  rw [a1] at d1
  rw [a2] at d2
  rw [e1] at d1
  have e : ad x.H x.L = ad y.H y.L := d1.symm.trans d2
  unfold ad at e
  unfold InU at xL yL
  rw [sm_iff]
  omega
theorem fnd_uni {l : List Wy} {F H L : Int} {x : Wy} (hl : Tl l) (hx : x ∈ l) (hh : x.ho F H L = true) (hm : ∀ y ∈ l, y.ho F H L = true → y.B ≤ x.B) : fnd l F H L = some x := by
  cases h : fnd l F H L with
  | none =>
    rw [fnd_none.1 h x hx] at hh
    cases hh
  | some z =>
    obtain ⟨h1, h2, h3⟩ := fnd_some h
    have e1 := h3 x hx hh
    have e2 := hm z h1 h2
    rw [srt_uni hl.1 h1 hx (ho_same (hl.2 z h1) (hl.2 x hx) h2 hh (by omega))]
/-- Behind With. -/
theorem fnd_ins {l : List Wy} {F H L : Int} {p : Wy} (hl : Tl l) (hp : p.Ok) (hn : has p l = false) :
    fnd (ins p l) F H L = if p.ho F H L = true ∧ ∀ y ∈ l, y.ho F H L = true → y.B ≤ p.B then some p else fnd l F H L := by
  have ht := tl_ins hl hp hn
  split
  · rename_i h
    refine fnd_uni ht ((mem_ins p p l).2 (.inl rfl)) h.1 (fun y hy hh => ?_)
    rcases (mem_ins p y l).1 hy with rfl | hy
    · exact Int.le_refl _
    · exact h.2 y hy hh
  · rename_i h
    cases hf : fnd l F H L with
    | none =>
      rw [fnd_none]
      intro y hy
      rcases (mem_ins p y l).1 hy with rfl | hy
      · refine Bool.eq_false_iff.2 (fun hh => h ⟨hh, fun z hz hz' => ?_⟩)
        rw [fnd_none.1 hf z hz] at hz'
        cases hz'
      · exact fnd_none.1 hf y hy
    | some x =>
      obtain ⟨h1, h2, h3⟩ := fnd_some hf
      refine fnd_uni ht ((mem_ins p x l).2 (.inr h1)) h2 (fun y hy hh => ?_)
      rcases (mem_ins p y l).1 hy with rfl | hy
      · refine Int.not_lt.1 (fun hlt => h ⟨hh, fun z hz hz' => ?_⟩)
        have := h3 z hz hz'
        omega
      · exact h3 y hy hh
end Go.Proofs.Ytcaecfdeieoenaa
