import Derived.RangeFuncFrom
import Derived.RangeFuncNested
import Derived.RangeFuncBound
import Derived.RangeFuncCalls
import Derived.RangeFuncLeaves
import Derived.Shelf.Abstract
import Derived.Shelf.RegionOpen
import Derived.WalkKit
import Derived.OwnWalkIn
import Derived.TacticsInMore
import Derived.LoopNIn
import Derived.LoopIn
import Derived.Test.YtmgoabedickooaaGreatDoorL9
namespace Go.Proofs.YtmgoabedickooaaGreatDoor
set_option maxRecDepth 100000
open Go.RowKit Go.Shelf
set_option linter.unusedVariables false
attribute [local go_sem] Oper.semAt_some

theorem cq_ix (c : Nat) (l : List Nat) : ∀ cur, cq c cur l = (cur ++ l.take (ix c l)) :: (if ix c l < l.length then cu c (l.drop (ix c l + 1)) else []) := by
  induction l with
  | nil => intro cur; simp [cq, ix]
  | cons x r ih =>
    intro cur
    by_cases e : x = c
    · subst e
      simp [cq, ix, cu]
    · rw [cq, if_neg e, ih, ix, if_neg e]
      simp
theorem cu_ix (c : Nat) (l : List Nat) : cu c l = l.take (ix c l) :: (if ix c l < l.length then cu c (l.drop (ix c l + 1)) else []) := by
  have := cq_ix c l []
  rw [List.nil_append] at this
  exact this
/-- A part of a text. -/
abbrev Pt := { x : List Nat // (∀ z ∈ x, z < 256) ∧ x.length ≤ 140737488355328 }
theorem cu_pts (c : Nat) (k : Nat) : ∀ l : List Nat, l.length ≤ k → (∀ z ∈ l, z < 256) → l.length ≤ 140737488355328 → ∃ xs : List Pt, xs.map (·.1) = cu c l := by
  induction k with
  | zero =>
    intro l hl hy hb
    obtain rfl : l = [] := List.eq_nil_of_length_eq_zero (by omega)
    exact ⟨[⟨[], by simp, by simp⟩], by rw [cu_ix]; rfl⟩
  | succ k ih =>
    intro l hl hy hb
    have hx : (∀ z ∈ l.take (ix c l), z < 256) ∧ (l.take (ix c l)).length ≤ 140737488355328 := ⟨fun z hz => hy z (List.mem_of_mem_take hz), by rw [List.length_take]; omega⟩
    rw [cu_ix]
    by_cases h : ix c l < l.length
    · obtain ⟨xs, he⟩ := ih (l.drop (ix c l + 1)) (by rw [List.length_drop]; omega) (fun z hz => hy z (List.mem_of_mem_drop hz)) (by rw [List.length_drop]; omega)
      rw [if_pos h]
      exact ⟨⟨_, hx⟩ :: xs, by rw [List.map_cons, he]⟩
    · rw [if_neg h]
      exact ⟨[⟨_, hx⟩], rfl⟩
def msr : Value → Value → Nat
  | .string s, .bool true => s.size + 1
  | _, _ => 0
theorem msr_lt (s : ByteArray) : msr (.string s) (.bool true) = s.size + 1 ∧ msr (.string s) (.bool false) = 0 := ⟨rfl, rfl⟩
set_option maxHeartbeats 2000000 in
theorem parts1_in (n : Nat) (hn : 1 ≤ n) (lp bt bs n₀ c : Nat) (hc : c < 256) (l : List Nat) (hy : ∀ z ∈ l, z < 256) (hl : l.length ≤ 140737488355328) (xs : List Pt) (hx : xs.map (·.1) = cu c l) (J Jx : List Pt → World → Prop)
    (hJ : ∀ pre W k, J pre W → J pre (W.drewN k))
    (hY : ∀ pre x W, J pre W → pre.length < xs.length → YieldAt Fence.wide (n - 1) Tryz.prog lp #[.string (sb x.1)] W fun e W' =>
      (e = .returned (.bool true) ∧ J (pre ++ [x]) W' ∧ Below n₀ W W') ∨ (e = .returned (.bool false) ∧ Jx (pre ++ [x]) W'))
    (W : World) (hbt : bt < n₀) (hbs : bs < n₀) (hct : W.cell? ⟨bt, 0, none⟩ = some (.string (sb l))) (hcs : W.cell? ⟨bs, 0, none⟩ = some (.string ⟨#[UInt8.ofNat c]⟩)) (h0 : J [] W) :
    CallsIn Fence.wide n Tryz.prog 208 #[.func (.yield lp) #[] #[], .pointer (some ⟨bt, 0, none⟩), .pointer (some ⟨bs, 0, none⟩)] W fun e W' => (∃ v, e = .returned v) ∧
      ((∃ ys, ys = xs ∧ J ys W') ∨ (∃ pre, pre <+: xs ∧ Jx pre W')) := by
  have k1 := fun (l : List Nat) (hy : ∀ z ∈ l, z < 256) (hl : l.length ≤ 140737488355328) w => cut_ c l w hc hy (by unfold maxLen; omega)
  refine callsIn_of_wp Tryz.func208 rfl trivial ?_ rfl
  simp only [Tryz.ntmps208, List.size_toArray, List.length_cons, List.length_nil, Nat.reduceAdd, Nat.reduceSub, Array.replicate_succ, Array.replicate_zero, List.push_toArray, List.append_toArray, List.nil_append, List.cons_append]
  gi_wp2_with (refine ⟨trivial, ?_⟩; gi_at_call 54; refine (callsIn_wide.2 (k1 l hy hl _)).mono ?_; rintro e w' ⟨rfl, nq, rfl⟩)
  have hc0 : ∀ k, (W.drewN k).cell? ⟨bs, 0, none⟩ = some (.string ⟨#[UInt8.ofNat c]⟩) := fun k => hcs
  have h00 := hJ [] W nq h0
  have hcs0 := hc0 nq
  clear h0 hc0 hcs hct
  generalize W.drewN nq = W0 at *
  gi_loopw [4, 5, 6] (fun p r m wr => ∃ (pre : List Pt) (x : Pt) (post : List Pt) (rl : List Nat) (mo : Bool), p = .string (sb x.1) ∧ r = .string (sb rl) ∧ m = .bool mo ∧ xs = pre ++ x :: post ∧ (mo = true → post.map (·.1) = cu c rl ∧ (∀ z ∈ rl, z < 256) ∧ rl.length ≤ 140737488355328) ∧ (mo = false → post = []) ∧ J pre wr ∧ wr.cell? ⟨bs, 0, none⟩ = some (.string ⟨#[UInt8.ofNat c]⟩)) (fun _ r m _ => msr r m)
  case atStart =>
    rw [cu_ix] at hx
    cases xs with
    | nil => simp at hx
    | cons x0 post =>
      rw [List.map_cons] at hx
      obtain ⟨e1, e2⟩ := List.cons.inj hx
      refine ⟨[], x0, post, l.drop (ix c l + 1), decide (ix c l < l.length), by rw [e1], rfl, rfl, rfl, fun h => ?_, fun h => ?_, h00, hcs0⟩
      · have h := of_decide_eq_true h
        rw [if_pos h] at e2
        exact ⟨e2, fun z hz => hy z (List.mem_of_mem_drop hz), by rw [List.length_drop]; omega⟩
      · have h := of_decide_eq_false h
        rw [if_neg h] at e2
        exact List.map_eq_nil_iff.1 e2
  case round =>
    clear h00 hcs0
    obtain ⟨pre, x, post, rl, mo, rfl, rfl, rfl, hxs, hm1, hm2, hJs, hcs⟩ := hrel
    obtain ⟨fn, tmps, assign, body, hy', hR⟩ := hY pre x wr hJs (by rw [hxs]; simp)
    have HM1 := hid hm1
    have HM2 := hid hm2
    have HXS := hid hxs
    have HMS := hid (msr_lt (sb rl))
    clear hm1 hm2 hxs hx hY
    generalize hX : sb x.1 = X at *
    have hX' := hid hX
    clear hX
    cases mo with
    | true =>
      obtain ⟨hpost, hry, hrl⟩ := HM1.out rfl
      have HP := hid hpost
      have kc := k1 rl hry hrl
      clear hpost k1
      gi_wp2
      refine hR.mono ?_
      rintro e W3 (⟨rfl, hJ3, hk3⟩ | ⟨rfl, hJx3⟩)
      · have hcs3 := (hk3.cell (p := ⟨bs, 0, none⟩) hbs).trans hcs
        gi_wp2_with (refine ⟨trivial, ?_⟩; gi_at_call 54; refine (callsIn_wide.2 (kc _)).mono ?_; rintro e w' ⟨rfl, nq, rfl⟩)
        have hp := HP.out
        rw [cu_ix] at hp
        cases post with
        | nil => simp at hp
        | cons y post =>
          rw [List.map_cons] at hp
          obtain ⟨e1, e2⟩ := List.cons.inj hp
          go_roundw
          case rel =>
            refine ⟨pre ++ [x], y, post, rl.drop (ix c rl + 1), decide (ix c rl < rl.length), by rw [e1], rfl, rfl, by rw [HXS.out]; simp, fun h => ?_, fun h => ?_, hJ _ _ nq hJ3, hcs3⟩
            · have h := of_decide_eq_true h
              rw [if_pos h] at e2
              exact ⟨e2, fun z hz => hry z (List.mem_of_mem_drop hz), by rw [List.length_drop]; omega⟩
            · have h := of_decide_eq_false h
              rw [if_neg h] at e2
              exact List.map_eq_nil_iff.1 e2
          case measure =>
            show msr (.string (sb (rl.drop (ix c rl + 1)))) (.bool (decide (ix c rl < rl.length))) < msr (.string (sb rl)) (.bool true)
            rw [HMS.out.1, sb_size]
            by_cases h : ix c rl < rl.length
            · rw [decide_eq_true h, (msr_lt _).1, sb_size, List.length_drop]
              omega
            · rw [decide_eq_false h, (msr_lt _).2]
              omega
      · gi_wp2
        go_end0
        exact ⟨⟨_, rfl⟩, .inr ⟨pre ++ [x], ⟨post, by rw [HXS.out]; simp⟩, hJx3⟩⟩
    | false =>
      obtain rfl := HM2.out rfl
      gi_wp2
      refine hR.mono ?_
      rintro e W3 (⟨rfl, hJ3, hk3⟩ | ⟨rfl, hJx3⟩)
      · gi_wp2
        go_end0
        exact ⟨⟨_, rfl⟩, .inl ⟨pre ++ [x], HXS.out.symm, hJ3⟩⟩
      · gi_wp2
        go_end0
        exact ⟨⟨_, rfl⟩, .inr ⟨pre ++ [x], ⟨[], by rw [HXS.out]; simp⟩, hJx3⟩⟩
end Go.Proofs.YtmgoabedickooaaGreatDoor
