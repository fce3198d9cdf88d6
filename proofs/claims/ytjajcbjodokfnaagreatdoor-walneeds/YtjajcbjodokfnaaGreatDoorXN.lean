import Derived.Test.YtjajcbjodokfnaaGreatDoorXM
import Derived.Test.YtjajcbjodokfnaaGreatDoorDB
namespace Go.Proofs.YtjajcbjodokfnaaGreatDoor
set_option maxRecDepth 100000
open Go.RowKit Go.Shelf
set_option linter.unusedVariables false
set_option linter.unusedSimpArgs false

theorem cnX_some {zs : List Int} {N i : Nat} {x : Sp} (hb : By zs) (h : cnX (gs zs) N i = some x) : x.K = pcN x.L ∧ x.K + 11 ≤ roo N ∧ mq x.e ∧ mq x.s ∧ x.m < 4294967296 ∧ x.e % 2 = i ∧ ∃ l : List Int, gs zs = some ⟨t1, x.e, x.s, i, l⟩ := by
  cases hg : gs zs with
  | none => rw [hg] at h; cases h
  | some y =>
    rw [hg] at h
    have hM := (gs_some hg).2.1
    have hy : By y.l := by rw [(gs_some hg).2.2.2]; exact sl_by hb _ _
    obtain ⟨T, e, q, p, l⟩ := y
    obtain ⟨_, ⟨e1, e2⟩, ⟨q1, q2⟩, ⟨p1, p2⟩, hl⟩ := hM
    unfold cnX at h
    simp only at h e1 e2 q1 q2 p1 p2 hl hy
    split at h
    · rename_i k
      obtain ⟨rfl, rfl, k3, k4, k5, k6, k7⟩ := k
      obtain rfl := Option.some.inj h
      have b8 := val_bd hy (i := 8) (n := 4) (by omega)
      have b12 := val_bd hy (i := 12) (n := 4) (by omega)
      refine ⟨by simp only; omega, by simp only; omega, ⟨by simp only; omega, by simp only; omega⟩, ⟨by simp only; omega, by simp only; omega⟩, ?_, by simp only; omega, l, ?_⟩
      · simp only
        have := b12.2
        omega
      · simp only
        rw [show ((e.toNat : Nat) : Int) = e from by omega, show ((q.toNat : Nat) : Int) = q from by omega]
    · cases h
theorem getSuper_ {w : World} {d : Nat} {s : St} {Q : Nat → Prop} {a : Option Addr} {n c : Nat} {zs : List Int} (i : Nat) (h : Dev w d s Q) (hT : Tab w) (hb : Bs w a n zs) (hc : n ≤ c) (hm : c ≤ maxLen) :
    Calls Tryz.prog 153 #[.pointer (some ⟨d, 0, none⟩), .int .i64 i, .slice a n c] w fun en w' => ∃ e q l m : Int, en = .returned (.tuple #[.agg #[.int .i64 e, .int .i64 q, .int .i64 l, .int .u32 m], .bool (cnX (gs zs) s.n i).isSome]) ∧ (∀ x, cnX (gs zs) s.n i = some x → e = x.e ∧ q = x.s ∧ l = x.L ∧ m = x.m) ∧ Below w.heap.size w w' := by
  have no : cnX (gs zs) s.n i = none → Calls Tryz.prog 153 #[.pointer (some ⟨d, 0, none⟩), .int .i64 i, .slice a n c] w (fun en w' => noSup w w' en) → Calls Tryz.prog 153 #[.pointer (some ⟨d, 0, none⟩), .int .i64 i, .slice a n c] w fun en w' => ∃ e q l m : Int, en = .returned (.tuple #[.agg #[.int .i64 e, .int .i64 q, .int .i64 l, .int .u32 m], .bool (cnX (gs zs) s.n i).isSome]) ∧ (∀ x, cnX (gs zs) s.n i = some x → e = x.e ∧ q = x.s ∧ l = x.L ∧ m = x.m) ∧ Below w.heap.size w w' := fun h1 h2 => by
    rw [h1]
    refine h2.mono ?_
    rintro en w' ⟨e, q, l, m, rfl, hB⟩
    exact ⟨e, q, l, m, rfl, fun x hx => (by cases hx), hB⟩
  cases hg : gs zs with
  | none =>
    rw [hg] at no
    exact no rfl (gsup_0 i hT hb hc hm hg)
  | some y =>
    have hM := (gs_some hg).2.1
    have hy : By y.l := by rw [(gs_some hg).2.2.2]; exact sl_by hb.2.1 _ _
    obtain ⟨T, e, q, p, l⟩ := y
    obtain ⟨_, ⟨e1, e2⟩, ⟨q1, q2⟩, ⟨p1, p2⟩, hl⟩ := hM
    simp only at e1 e2 q1 q2 p1 p2 hl hy
    obtain ⟨e', rfl⟩ : ∃ k : Nat, (k : Int) = e := ⟨e.toNat, by omega⟩
    obtain ⟨q', rfl⟩ : ∃ k : Nat, (k : Int) = q := ⟨q.toNat, by omega⟩
    rw [hg] at no
    by_cases h1 : T = t1
    · subst h1
      by_cases h2 : e' % 2 = i
      · by_cases h3 : p = i
        · subst h3
          by_cases h4 : l.length = 16
          · obtain ⟨v1, v2, v3, v4⟩ := vz4 h4
            have b4 := val_bd hy (i := 4) (n := 4) (by omega)
            have b8 := val_bd hy (i := 8) (n := 4) (by omega)
            have b12 := val_bd hy (i := 12) (n := 4) (by omega)
            have k5 := gsup_5 i h hT hb hc hm e' q' l hg h2 h4
            rw [v1, v2, v3, v4] at k5
            refine k5.mono ?_
            rintro en w' ⟨rfl, hB⟩
            by_cases hc7 : val (sl l 0 4) = s.n ∧ val (sl l 4 4) = pcN (val (sl l 8 4)).toNat ∧ val (sl l 4 4) + 11 ≤ roo s.n
            · have ec : cnX (some ⟨t1, e', q', i, l⟩) s.n i = some ⟨e', q', (val (sl l 4 4)).toNat, (val (sl l 8 4)).toNat, (val (sl l 12 4)).toNat⟩ := by
                unfold cnX
                simp only
                rw [if_pos ⟨trivial, trivial, by omega, h4, hc7.1, hc7.2.1, hc7.2.2⟩]
                simp
              rw [ec]
              refine ⟨e', q', val (sl l 8 4), val (sl l 12 4), ?_, fun x hx => ?_, hB⟩
              · rw [decide_eq_true hc7.1, decide_eq_true hc7.2.1, decide_eq_true (by omega)]
                rfl
              · obtain rfl := Option.some.inj hx
                exact ⟨rfl, rfl, by simp only; omega, by simp only; omega⟩
            · have ec : cnX (some ⟨t1, e', q', i, l⟩) s.n i = none := by
                unfold cnX
                simp only
                rw [if_neg (fun k => hc7 ⟨k.2.2.2.2.1, k.2.2.2.2.2.1, k.2.2.2.2.2.2⟩)]
              rw [ec]
              refine ⟨e', q', val (sl l 8 4), val (sl l 12 4), ?_, fun x hx => (by cases hx), hB⟩
              have : (decide (val (sl l 0 4) = (s.n : Int)) && (decide (val (sl l 4 4) = ((pcN (val (sl l 8 4)).toNat : Nat) : Int)) && decide (pcN (val (sl l 8 4)).toNat + 11 ≤ roo s.n))) = false := by
                by_cases a1 : val (sl l 0 4) = (s.n : Int)
                · by_cases a2 : val (sl l 4 4) = ((pcN (val (sl l 8 4)).toNat : Nat) : Int)
                  · rw [decide_eq_false (p := pcN (val (sl l 8 4)).toNat + 11 ≤ roo s.n) (fun a3 => hc7 ⟨a1, a2, by omega⟩), Bool.and_false, Bool.and_false]
                  · rw [decide_eq_false a2, Bool.false_and, Bool.and_false]
                · rw [decide_eq_false a1, Bool.false_and]
              rw [this]
              rfl
          · refine no ?_ (gsup_4 i h hT hb hc hm e' q' l hg h2 h4)
            unfold cnX
            simp only
            rw [if_neg (fun k => h4 k.2.2.2.1)]
        · refine no ?_ (gsup_3 i hT hb hc hm e' q' p l hg h2 h3)
          unfold cnX
          simp only
          rw [if_neg (fun k => h3 k.2.1)]
      · refine no ?_ (gsup_2 i hT hb hc hm e' q' p l hg h2)
        unfold cnX
        simp only
        rw [if_neg (fun k => h2 (by have := k.2.2.1; omega))]
    · refine no ?_ (gsup_1 i hT hb hc hm T e' q' p l hg h1)
      unfold cnX
      simp only
      rw [if_neg (fun k => h1 k.1)]
end Go.Proofs.YtjajcbjodokfnaaGreatDoor
