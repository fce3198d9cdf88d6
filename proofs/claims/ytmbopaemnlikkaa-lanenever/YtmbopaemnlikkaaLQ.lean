import Derived.Test.YtmbopaemnlikkaaLN0
namespace Go.Proofs.Ytmbopaemnlikkaa
set_option maxRecDepth 100000
set_option linter.unusedVariables false

/-! What one call makes of a lane that may be. -/
structure Nf (l z : Ln) (kd g : Int) : Prop where
  ok : lokL z = true
  k : z.k = l.k
  S : z.S = l.S
  C : l.C ≤ z.C
  N : l.N ≤ z.N
  seen : lss z.s z.n l.s l.n = false
  same : z.C = l.C → l.D ≤ z.D ∧ l.E ≤ z.E
  turns : z ≠ l → ((kd = 1 ∨ kd = 4 ∨ kd = 5) ↔ l.C < z.C)
  props : z ≠ l → (kd = 3 ↔ l.N < z.N)
  sees : z ≠ l → (kd = 4 ↔ lss l.s l.n z.s z.n = true)
  giv : 0 ≤ g → l.C < g ∧ l.N < g ∧ g = z.N
  D : u64r z.D
  E : u64r z.E
  s : i64r z.s
  n : i64r z.n
theorem lss_self (s n : Int) : lss s n s n = false := decide_eq_false (by omega)
theorem Nf.refl {l : Ln} (h : lokL l = true) (hD : u64r l.D) (hE : u64r l.E) (hs : i64r l.s) (hn : i64r l.n) (kd : Int) : Nf l l kd (-1) :=
  ⟨h, rfl, rfl, Int.le_refl _, Int.le_refl _, lss_self _ _, fun _ => ⟨Int.le_refl _, Int.le_refl _⟩, fun h => absurd rfl h, fun h => absurd rfl h, fun h => absurd rfl h, fun h => by omega, hD, hE, hs, hn⟩
theorem lzero_C : lzero.C = 0 := rfl
theorem upN_up {c b : Int} (hb : blk b = true) (hc : c ≤ 18446744073709551614) : c < upN c b := by
  have h := of_decide_eq_true (show decide _ = true from hb)
  unfold upN
  rw [hb, if_pos rfl]
  split <;> omega
theorem nx_refused {l : Ln} {kd G B X Y T U : Int} (h : nxR l kd G B X Y T U = lzero) : nxL l kd G B X Y T U = l ∧ nxG l kd G B X Y T U = -1 ∧ nxA l kd G B X Y T U = 0 := by
  have h0 : (nxR l kd G B X Y T U).C = 0 := by rw [h]; rfl
  exact ⟨by unfold nxL; rw [if_pos h0], by unfold nxG; rw [if_pos h0], by unfold nxA; rw [if_pos h0]⟩
theorem nx_taken {l z : Ln} {kd G B X Y T U : Int} (h : nxR l kd G B X Y T U = z) (hz : z.C ≠ 0) : nxL l kd G B X Y T U = z ∧ nxG l kd G B X Y T U = (if kd = 3 then prpG l else -1) ∧ nxA l kd G B X Y T U = (if kd = 4 then ansN l (wi (l.C + G)) X T U B else 0) := by
  have h0 : ¬ (nxR l kd G B X Y T U).C = 0 := by rw [h]; exact hz
  exact ⟨by unfold nxL; rw [if_neg h0, h], by unfold nxG; rw [if_neg h0], by unfold nxA; rw [if_neg h0]⟩
theorem lok_mk {l : Ln} (h1 : vld l.s l.n = true) (h2 : l.k.length = 32) (h3 : l.S = 0 ∨ l.S = 1) (h4 : 1 ≤ l.C) (h5 : l.C ≤ 2147483647) (h6 : 0 ≤ l.N) (h7 : l.N ≤ 2147483647) : lokL l = true := decide_eq_true ⟨h1, h2, h3, h4, h5, h6, h7⟩
/-- Every call keeps what must be kept. -/
theorem nx_facts {l : Ln} {kd G B X Y T U : Int} (h : lokL l = true) (hD : u64r l.D) (hE : u64r l.E) (hs : i64r l.s) (hn : i64r l.n) (hX : u64r X) (hT : i64r T) (hU : i64r U) : Nf l (nxL l kd G B X Y T U) kd (nxG l kd G B X Y T U) := by
  obtain ⟨v, hk, hS, c1, c2, n1, n2⟩ := lokL_of h
  have hab := abN_i64 h
  have ref : nxR l kd G B X Y T U = lzero → Nf l (nxL l kd G B X Y T U) kd (nxG l kd G B X Y T U) := fun e => by
    obtain ⟨e1, e2, -⟩ := nx_refused e
    rw [e1, e2]
    exact Nf.refl h hD hE hs hn kd
  by_cases k1 : kd = 1
  · subst k1
    by_cases q : agnB l = true
    · have e : nxR l 1 G B X Y T U = ⟨l.k, l.S, abN l, l.N, 0, 0, l.s, l.n⟩ := by unfold nxR; rw [if_pos rfl]; unfold agnL; rw [if_pos q]
      have qq := of_decide_eq_true (Bool.and_eq_true_iff.1 q).2
      obtain ⟨e1, e2, -⟩ := nx_taken e (by show abN l ≠ 0; omega)
      rw [if_neg (by decide)] at e2
      rw [e1, e2]
      exact ⟨lok_mk v hk hS (by show 1 ≤ abN l; omega) qq n1 n2, rfl, rfl, by show l.C ≤ abN l; omega, Int.le_refl _, lss_self _ _, fun e => by have : abN l = l.C := e; omega, fun _ => ⟨fun _ => by show l.C < abN l; omega, fun _ => .inl rfl⟩, fun _ => ⟨fun e => absurd e (by decide), fun e => absurd e (Int.lt_irrefl _)⟩, fun _ => ⟨fun e => absurd e (by decide), fun e => by rw [show lss l.s l.n l.s l.n = false from lss_self _ _] at e; cases e⟩, fun e => by omega, by show u64r 0; unfold u64r; omega, by show u64r 0; unfold u64r; omega, hs, hn⟩
    · exact ref (by unfold nxR; rw [if_pos rfl]; unfold agnL; rw [if_neg q])
  by_cases k2 : kd = 2
  · subst k2
    by_cases q : resB l (wu (l.D + Y)) B = true
    · have e : nxR l 2 G B X Y T U = ⟨l.k, l.S, l.C, l.N, upN (wu (l.D + Y)) B, l.E, l.s, l.n⟩ := by unfold nxR; rw [if_neg (by decide), if_pos rfl]; unfold resL; rw [if_pos q]
      obtain ⟨q1, q2⟩ := Bool.and_eq_true_iff.1 q
      have q3 := (Bool.and_eq_true_iff.1 q1).2
      have q2 := of_decide_eq_true q2
      have hu := upN_up q3 q2.2
      obtain ⟨e1, e2, -⟩ := nx_taken e (by show l.C ≠ 0; omega)
      rw [if_neg (by decide)] at e2
      rw [e1, e2]
      exact ⟨lok_mk v hk hS c1 c2 n1 n2, rfl, rfl, Int.le_refl _, Int.le_refl _, lss_self _ _, fun _ => ⟨by show l.D ≤ upN (wu (l.D + Y)) B; omega, Int.le_refl _⟩, fun _ => ⟨fun e => absurd e (by decide), fun e => absurd e (Int.lt_irrefl _)⟩, fun _ => ⟨fun e => absurd e (by decide), fun e => absurd e (Int.lt_irrefl _)⟩, fun _ => ⟨fun e => absurd e (by decide), fun e => by rw [show lss l.s l.n l.s l.n = false from lss_self _ _] at e; cases e⟩, fun e => by omega, upN_u64 B (wu_r _), hE, hs, hn⟩
    · exact ref (by unfold nxR; rw [if_neg (by decide), if_pos rfl]; unfold resL; rw [if_neg q])
  by_cases k3 : kd = 3
  · subst k3
    by_cases q : agnB l = true
    · have e : nxR l 3 G B X Y T U = ⟨l.k, l.S, l.C, abN l, l.D, l.E, l.s, l.n⟩ := by unfold nxR; rw [if_neg (by decide), if_neg (by decide), if_pos rfl]; unfold prpL; rw [if_pos q]
      have qq := of_decide_eq_true (Bool.and_eq_true_iff.1 q).2
      obtain ⟨e1, e2, -⟩ := nx_taken e (by show l.C ≠ 0; omega)
      rw [if_pos rfl] at e2
      have e3 : prpG l = abN l := by unfold prpG; rw [if_pos q]
      rw [e1, e2, e3]
      exact ⟨lok_mk v hk hS c1 c2 (by show 0 ≤ abN l; omega) qq, rfl, rfl, Int.le_refl _, by show l.N ≤ abN l; omega, lss_self _ _, fun _ => ⟨Int.le_refl _, Int.le_refl _⟩, fun _ => ⟨fun e => absurd e (by decide), fun e => absurd e (Int.lt_irrefl _)⟩, fun _ => ⟨fun _ => by show l.N < abN l; omega, fun _ => rfl⟩, fun _ => ⟨fun e => absurd e (by decide), fun e => by rw [show lss l.s l.n l.s l.n = false from lss_self _ _] at e; cases e⟩, fun _ => ⟨by omega, by omega, rfl⟩, hD, hE, hs, hn⟩
    · exact ref (by unfold nxR; rw [if_neg (by decide), if_neg (by decide), if_pos rfl]; unfold prpL; rw [if_neg q])
  by_cases k4 : kd = 4
  · subst k4
    by_cases q : ansB l (wi (l.C + G)) X T U B = true
    · have e : nxR l 4 G B X Y T U = ⟨l.k, l.S, wi (l.C + G), l.N, upN (ansC l (wi (l.C + G))) B, upN X B, T, U⟩ := by unfold nxR; rw [if_neg (by decide), if_neg (by decide), if_neg (by decide), if_pos rfl]; unfold ansL; rw [if_pos q]
      obtain ⟨q1, q2⟩ := Bool.and_eq_true_iff.1 q
      obtain ⟨q3, q4⟩ := Bool.and_eq_true_iff.1 q1
      obtain ⟨q5, q6⟩ := Bool.and_eq_true_iff.1 q3
      have q2 := of_decide_eq_true q2
      have q7 := of_decide_eq_true (show decide _ = true from q4)
      obtain ⟨e1, e2, -⟩ := nx_taken e (by show wi (l.C + G) ≠ 0; omega)
      rw [if_neg (by decide)] at e2
      rw [e1, e2]
      exact ⟨lok_mk q6 hk hS (by show 1 ≤ wi (l.C + G); omega) q2.2.1 n1 n2, rfl, rfl, by show l.C ≤ wi (l.C + G); omega, Int.le_refl _, decide_eq_false (by show ¬ (T < l.s ∨ T = l.s ∧ U < l.n); omega), fun e => by have : wi (l.C + G) = l.C := e; omega, fun _ => ⟨fun _ => q2.1, fun _ => .inr (.inl rfl)⟩, fun _ => ⟨fun e => absurd e (by decide), fun e => absurd e (Int.lt_irrefl _)⟩, fun _ => ⟨fun _ => q4, fun _ => rfl⟩, fun e => by omega, upN_u64 B (by unfold ansC u64r; split <;> omega), upN_u64 B hX, hT, hU⟩
    · exact ref (by unfold nxR; rw [if_neg (by decide), if_neg (by decide), if_neg (by decide), if_pos rfl]; unfold ansL; rw [if_neg q])
  by_cases k5 : kd = 5
  · subst k5
    by_cases q : opnB l (wi (l.C + G)) X B = true
    · have e : nxR l 5 G B X Y T U = ⟨l.k, l.S, wi (l.C + G), l.N, upN 1 B, upN X B, l.s, l.n⟩ := by unfold nxR; rw [if_neg (by decide), if_neg (by decide), if_neg (by decide), if_neg (by decide), if_pos rfl]; unfold opnL; rw [if_pos q]
      obtain ⟨q1, q2⟩ := Bool.and_eq_true_iff.1 q
      have q2 := of_decide_eq_true q2
      obtain ⟨e1, e2, -⟩ := nx_taken e (by show wi (l.C + G) ≠ 0; omega)
      rw [if_neg (by decide)] at e2
      rw [e1, e2]
      exact ⟨lok_mk v hk hS (by show 1 ≤ wi (l.C + G); omega) (by show wi (l.C + G) ≤ 2147483647; omega) n1 n2, rfl, rfl, by show l.C ≤ wi (l.C + G); omega, Int.le_refl _, lss_self _ _, fun e => by have : wi (l.C + G) = l.C := e; omega, fun _ => ⟨fun _ => q2.1, fun _ => .inr (.inr rfl)⟩, fun _ => ⟨fun e => absurd e (by decide), fun e => absurd e (Int.lt_irrefl _)⟩, fun _ => ⟨fun e => absurd e (by decide), fun e => by rw [show lss l.s l.n l.s l.n = false from lss_self _ _] at e; cases e⟩, fun e => by omega, upN_u64 B (by unfold u64r; omega), upN_u64 B hX, hs, hn⟩
    · exact ref (by unfold nxR; rw [if_neg (by decide), if_neg (by decide), if_neg (by decide), if_neg (by decide), if_pos rfl]; unfold opnL; rw [if_neg q])
  by_cases k6 : kd = 6
  · subst k6
    by_cases q : rseB l (wu (l.E + X)) B = true
    · have e : nxR l 6 G B X Y T U = ⟨l.k, l.S, l.C, l.N, l.D, upN (wu (l.E + X)) B, l.s, l.n⟩ := by unfold nxR; rw [if_neg (by decide), if_neg (by decide), if_neg (by decide), if_neg (by decide), if_neg (by decide), if_pos rfl]; unfold rseL; rw [if_pos q]
      obtain ⟨q1, q2⟩ := Bool.and_eq_true_iff.1 q
      have q3 := (Bool.and_eq_true_iff.1 q1).2
      have q2 := of_decide_eq_true q2
      have hu := upN_up q3 q2.2
      obtain ⟨e1, e2, -⟩ := nx_taken e (by show l.C ≠ 0; omega)
      rw [if_neg (by decide)] at e2
      rw [e1, e2]
      exact ⟨lok_mk v hk hS c1 c2 n1 n2, rfl, rfl, Int.le_refl _, Int.le_refl _, lss_self _ _, fun _ => ⟨Int.le_refl _, by show l.E ≤ upN (wu (l.E + X)) B; omega⟩, fun _ => ⟨fun e => absurd e (by decide), fun e => absurd e (Int.lt_irrefl _)⟩, fun _ => ⟨fun e => absurd e (by decide), fun e => absurd e (Int.lt_irrefl _)⟩, fun _ => ⟨fun e => absurd e (by decide), fun e => by rw [show lss l.s l.n l.s l.n = false from lss_self _ _] at e; cases e⟩, fun e => by omega, hD, upN_u64 B (wu_r _), hs, hn⟩
    · exact ref (by unfold nxR; rw [if_neg (by decide), if_neg (by decide), if_neg (by decide), if_neg (by decide), if_neg (by decide), if_pos rfl]; unfold rseL; rw [if_neg q])
  exact ref (by unfold nxR; rw [if_neg k1, if_neg k2, if_neg k3, if_neg k4, if_neg k5, if_neg k6])
end Go.Proofs.Ytmbopaemnlikkaa
