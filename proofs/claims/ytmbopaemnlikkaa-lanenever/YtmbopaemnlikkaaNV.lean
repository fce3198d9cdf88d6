import Derived.Test.YtmbopaemnlikkaaLQ
namespace Go.Proofs.Ytmbopaemnlikkaa
set_option maxRecDepth 100000
set_option linter.unusedVariables false

/-! What a user of a lane has used: pairs of a generation and a counter. -/
structure Nv (C N D t : Int) (P : List (Int × Int)) : Prop where
  all : ∀ p ∈ P, (p.1 ≤ C ∨ p.1 ≤ N) ∧ (C < p.1 → p.2 = 0) ∧ (p.1 = C → p.2 < t)
  lo : 0 ≤ t
  hi : t ≤ D
section
variable {C N D t : Int} {P : List (Int × Int)}
theorem nv_start (C N D : Int) (hD : 0 ≤ D) : Nv C N D 0 [] := ⟨fun p hp => (by cases hp), by omega, hD⟩
theorem Nv.propose (h : Nv C N D t P) {g : Int} (h1 : C < g) (h2 : N < g) : (g, 0) ∉ P ∧ Nv C g D t (P ++ [(g, 0)]) := by
  refine ⟨fun hm => by have := (h.all _ hm).1; simp only at this; omega, ⟨fun p hp => ?_, h.lo, h.hi⟩⟩
  rcases List.mem_append.1 hp with hp | hp
  · have := h.all p hp
    exact ⟨by omega, this.2.1, this.2.2⟩
  · obtain rfl := List.mem_singleton.1 hp
    exact ⟨by simp only; omega, fun _ => rfl, fun e => by simp only at e; omega⟩
theorem Nv.again (h : Nv C N D t P) {C' D' : Int} (h1 : C < C') (h2 : N < C') (hD : 0 ≤ D') : Nv C' N D' 0 P := by
  refine ⟨fun p hp => ?_, by omega, hD⟩
  have := h.all p hp
  exact ⟨by omega, fun e => this.2.1 (by omega), fun e => by omega⟩
theorem Nv.answered (h : Nv C N D t P) {C' D' u : Int} (h1 : C < C') (hu : u = if C' ≤ N then 1 else 0) (hD : u < D') : (C', u) ∉ P ∧ Nv C' N D' (u + 1) (P ++ [(C', u)]) := by
  have hu0 : 0 ≤ u ∧ u ≤ 1 ∧ (u = 0 → N < C') := by rw [hu]; split <;> omega
  refine ⟨fun hm => ?_, ⟨fun p hp => ?_, by omega, by omega⟩⟩
  · have h3 := h.all _ hm
    simp only at h3
    have := h3.2.1 h1
    omega
  · rcases List.mem_append.1 hp with hp | hp
    · have h3 := h.all p hp
      refine ⟨by omega, fun e => h3.2.1 (by omega), fun e => ?_⟩
      have := h3.2.1 (by omega)
      omega
    · obtain rfl := List.mem_singleton.1 hp
      exact ⟨by simp only; omega, fun e => by simp only at e; omega, fun _ => by simp only; omega⟩
theorem Nv.opened (h : Nv C N D t P) {C' D' : Int} (h1 : C < C') (hD : 1 ≤ D') : Nv C' N D' 1 P := by
  refine ⟨fun p hp => ?_, by omega, hD⟩
  have h3 := h.all p hp
  refine ⟨by omega, fun e => h3.2.1 (by omega), fun e => ?_⟩
  have := h3.2.1 (by omega)
  omega
theorem Nv.stay (h : Nv C N D t P) {N' D' : Int} (hN : N ≤ N') (hD : D ≤ D') : Nv C N' D' t P :=
  ⟨fun p hp => by have h3 := h.all p hp; exact ⟨by omega, h3.2.1, h3.2.2⟩, h.lo, by have := h.hi; omega⟩
theorem Nv.skip (h : Nv C N D t P) : Nv C N D D P :=
  ⟨fun p hp => by have h3 := h.all p hp; exact ⟨h3.1, h3.2.1, fun e => by have := h3.2.2 e; have := h.hi; omega⟩, by have := h.lo; have := h.hi; omega, Int.le_refl _⟩
theorem Nv.use (h : Nv C N D t P) (ht : t < D) : (C, t) ∉ P ∧ Nv C N D (t + 1) (P ++ [(C, t)]) := by
  refine ⟨fun hm => by have := (h.all _ hm).2.2 rfl; simp only at this; omega, ⟨fun p hp => ?_, by have := h.lo; omega, by omega⟩⟩
  rcases List.mem_append.1 hp with hp | hp
  · have h3 := h.all p hp
    exact ⟨h3.1, h3.2.1, fun e => by have := h3.2.2 e; omega⟩
  · obtain rfl := List.mem_singleton.1 hp
    exact ⟨.inl (by simp only; omega), fun e => by simp only at e; omega, fun _ => by simp only; omega⟩
end
/-- What one call does to a lane that may be, as its user sees it. -/
structure Nn (l z : Ln) (kd g u : Int) : Prop where
  stay : z.C = l.C → l.N ≤ z.N ∧ l.D ≤ z.D
  giv : 0 ≤ g → z.C = l.C ∧ l.C < g ∧ l.N < g ∧ g = z.N
  turn : z.C ≠ l.C → l.C < z.C ∧ z.N = l.N ∧ ((kd = 1 ∧ l.N < z.C ∧ z.D = 0) ∨ (kd = 4 ∧ u = (if z.C ≤ l.N then 1 else 0) ∧ u < z.D) ∨ (kd = 5 ∧ 1 ≤ z.D))
theorem nx_never {l : Ln} {kd G B X Y T U : Int} (h : lokL l = true) (hD : u64r l.D) (hE : u64r l.E) (hs : i64r l.s) (hn : i64r l.n) (hX : u64r X) (hT : i64r T) (hU : i64r U) : Nn l (nxL l kd G B X Y T U) kd (nxG l kd G B X Y T U) (nxA l kd G B X Y T U) := by
  have hf := nx_facts (kd := kd) (G := G) (B := B) (Y := Y) h hD hE hs hn hX hT hU
  obtain ⟨v, hk, hS, c1, c2, n1, n2⟩ := lokL_of h
  have hab := abN_i64 h
  refine ⟨fun e => ⟨hf.N, (hf.same e).1⟩, fun hg => ?_, fun hc => ?_⟩
  · have hgv := hf.giv hg
    refine ⟨?_, hgv⟩
    by_cases e : (nxL l kd G B X Y T U).C = l.C
    · exact e
    · exfalso
      have hne : nxL l kd G B X Y T U ≠ l := fun e2 => e (by rw [e2])
      have hlt : l.C < (nxL l kd G B X Y T U).C := by have := hf.C; omega
      have k3 := (hf.props hne).2 (by omega)
      have := (hf.turns hne).2 hlt
      omega
  · have hne : nxL l kd G B X Y T U ≠ l := fun e => hc (by rw [e])
    have hlt : l.C < (nxL l kd G B X Y T U).C := by have := hf.C; omega
    have kk := (hf.turns hne).2 hlt
    have hN : (nxL l kd G B X Y T U).N = l.N := by
      by_cases e : l.N < (nxL l kd G B X Y T U).N
      · have := (hf.props hne).2 e
        omega
      · have := hf.N
        omega
    refine ⟨hlt, hN, ?_⟩
    rcases kk with k | k | k
    · subst k
      by_cases q : agnB l = true
      · have e : nxR l 1 G B X Y T U = ⟨l.k, l.S, abN l, l.N, 0, 0, l.s, l.n⟩ := by unfold nxR; rw [if_pos rfl]; unfold agnL; rw [if_pos q]
        obtain ⟨e1, -, -⟩ := nx_taken e (by show abN l ≠ 0; omega)
        rw [e1]
        exact .inl ⟨rfl, by show l.N < abN l; omega, rfl⟩
      · exact absurd (nx_refused (show nxR l 1 G B X Y T U = lzero from by unfold nxR; rw [if_pos rfl]; unfold agnL; rw [if_neg q])).1 hne
    · subst k
      by_cases q : ansB l (wi (l.C + G)) X T U B = true
      · have e : nxR l 4 G B X Y T U = ⟨l.k, l.S, wi (l.C + G), l.N, upN (ansC l (wi (l.C + G))) B, upN X B, T, U⟩ := by unfold nxR; rw [if_neg (by decide), if_neg (by decide), if_neg (by decide), if_pos rfl]; unfold ansL; rw [if_pos q]
        obtain ⟨q1, q2⟩ := Bool.and_eq_true_iff.1 q
        obtain ⟨q3, q4⟩ := Bool.and_eq_true_iff.1 q1
        obtain ⟨q5, q6⟩ := Bool.and_eq_true_iff.1 q3
        have q2 := of_decide_eq_true q2
        obtain ⟨e1, -, e3⟩ := nx_taken e (by show wi (l.C + G) ≠ 0; omega)
        rw [if_pos rfl] at e3
        have e4 : ansN l (wi (l.C + G)) X T U B = ansC l (wi (l.C + G)) := by unfold ansN; rw [if_pos q]
        rw [e1, e3, e4]
        refine .inr (.inl ⟨rfl, rfl, ?_⟩)
        exact upN_up (Bool.and_eq_true_iff.1 q5).2 (by unfold ansC; split <;> omega)
      · exact absurd (nx_refused (show nxR l 4 G B X Y T U = lzero from by unfold nxR; rw [if_neg (by decide), if_neg (by decide), if_neg (by decide), if_pos rfl]; unfold ansL; rw [if_neg q])).1 hne
    · subst k
      by_cases q : opnB l (wi (l.C + G)) X B = true
      · have e : nxR l 5 G B X Y T U = ⟨l.k, l.S, wi (l.C + G), l.N, upN 1 B, upN X B, l.s, l.n⟩ := by unfold nxR; rw [if_neg (by decide), if_neg (by decide), if_neg (by decide), if_neg (by decide), if_pos rfl]; unfold opnL; rw [if_pos q]
        obtain ⟨q1, q2⟩ := Bool.and_eq_true_iff.1 q
        have q2 := of_decide_eq_true q2
        obtain ⟨e1, -, -⟩ := nx_taken e (by show wi (l.C + G) ≠ 0; omega)
        rw [e1]
        exact .inr (.inr ⟨rfl, by have := upN_up (c := 1) (Bool.and_eq_true_iff.1 q1).2 (by omega); show 1 ≤ upN 1 B; omega⟩)
      · exact absurd (nx_refused (show nxR l 5 G B X Y T U = lzero from by unfold nxR; rw [if_neg (by decide), if_neg (by decide), if_neg (by decide), if_neg (by decide), if_pos rfl]; unfold opnL; rw [if_neg q])).1 hne
end Go.Proofs.Ytmbopaemnlikkaa
