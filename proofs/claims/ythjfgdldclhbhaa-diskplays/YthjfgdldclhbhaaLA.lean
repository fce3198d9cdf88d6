import Derived.Test.YthjfgdldclhbhaaDD
namespace Go.Proofs.Ythjfgdldclhbhaa
set_option maxRecDepth 100000
open Go.RowKit Go.Shelf
set_option linter.unusedVariables false

section
variable {w w' : World} {d : Nat} {s : St} {Q : Nat → Prop}
theorem Dev.lt (h : Dev w d s Q) : ∀ b, Q b → b < w.heap.size := by
  obtain ⟨_, _, _, _, _, _, _, _, _, _, h⟩ := h
  exact h.lt
theorem Dev.below (h : Dev w d s Q) (hb : Below w.heap.size w w') : Dev w' d s Q := by
  obtain ⟨_, _, _, _, _, _, _, _, _, _, h⟩ := h
  exact ⟨_, _, _, _, _, _, _, _, _, _, h.below hb⟩
theorem Dev.fr {R : Nat → Prop} (h : Dev w d s Q) (hf : Fr R w w') (hq : ∀ b, Q b → ¬ R b) : Dev w' d s Q := by
  obtain ⟨_, _, _, _, _, _, _, _, _, _, h⟩ := h
  exact ⟨_, _, _, _, _, _, _, _, _, _, h.keep hf.size (fun b hb => hf.same b (h.lt b hb) (hq b hb))⟩
theorem Dev.n (h : Dev w d s Q) : 32 ≤ s.n ∧ s.n ≤ 8192 := by
  obtain ⟨_, _, _, _, _, _, _, _, _, _, h⟩ := h
  exact h.n0
theorem Dev.sec (h : Dev w d s Q) : ∀ i, i < s.n → Sec (s.S i) := by
  obtain ⟨_, _, _, _, _, _, _, _, _, _, h⟩ := h
  exact h.ls.2
theorem Dev.pen (h : Dev w d s Q) : ∀ p ∈ s.P, p.1 < s.n ∧ Sec p.2 := by
  obtain ⟨_, _, _, _, _, _, _, _, _, I, h⟩ := h
  intro p hp
  rw [h.ip] at hp
  obtain ⟨x, hx, rfl⟩ := List.mem_map.1 hp
  exact ⟨(h.it x hx).s, (h.it x hx).bs.1, (h.it x hx).bs.2.1⟩
theorem powerD (h : Dev w d s Q) : Calls Try.prog 31 #[.pointer (some ⟨d, 0, none⟩)] w fun e w' => e = .returned (.bool s.on) ∧ w' = w := by
  obtain ⟨_, _, _, _, _, _, _, _, _, _, h⟩ := h
  exact power_ d _ _ _ _ _ _ w h.dm
theorem doneD (h : Dev w d s Q) : Calls Try.prog 32 #[.pointer (some ⟨d, 0, none⟩)] w fun e w' => e = .returned (.int .i64 s.c) ∧ w' = w := by
  obtain ⟨_, _, _, _, _, _, _, _, _, _, h⟩ := h
  exact done_ d _ _ _ _ _ _ w h.dm
theorem claimedD (h : Dev w d s Q) : Calls Try.prog 46 #[.pointer (some ⟨d, 0, none⟩)] w fun e w' => e = .returned (.int .i64 s.k) ∧ w' = w := by
  obtain ⟨_, _, _, _, _, _, _, _, _, _, h⟩ := h
  exact claimed_ d _ _ _ _ _ _ w h.dm
theorem sectorsD (h : Dev w d s Q) : Calls Try.prog 47 #[.pointer (some ⟨d, 0, none⟩)] w fun e w' => e = .returned (.int .i64 s.n) ∧ w' = w := by
  obtain ⟨_, _, _, _, _, _, _, _, _, _, h⟩ := h
  exact sectors_ d _ _ _ _ _ _ _ _ w h.dm h.n0.2
theorem claimD (h : Dev w d s Q) (hk : s.k ≤ 1000000) : Calls Try.prog 44 #[.pointer (some ⟨d, 0, none⟩)] w fun e w' => e = .returned (.int .i64 ((s.k + 1 : Nat) : Int)) ∧ Dev w' d { s with k := s.k + 1 } Q ∧ Fr Q w w' := by
  obtain ⟨_, _, _, _, _, _, _, _, _, _, h⟩ := h
  refine (claim_ d _ _ _ _ _ s.k w h.dm hk).mono ?_
  rintro e w' ⟨rfl, h1, h2⟩
  exact ⟨rfl, ⟨_, _, _, _, _, _, _, _, _, _, h.turn h1 h2⟩, .of h2 h.qd⟩
end
/-- Bytes that lie outside a device. -/
structure Ro (w : World) (Q : Nat → Prop) (a : Option Addr) (n : Nat) (zs : List Int) : Prop where
  bs : Bs w a n zs
  nq : ∀ ad, a = some ad → 0 < n → ¬ Q ad.block
theorem Bs.lt {w : World} {ad : Addr} {n : Nat} {zs : List Int} (h : Bs w (some ad) n zs) (hn : 0 < n) : ad.block < w.heap.size := by
  rcases h.2.2 with h0 | ⟨b, off, e, hc⟩
  · omega
  · obtain rfl := Option.some.inj e
    exact World.block_lt_of_cell? w _ (hc 0 hn)
section
variable {w w' : World} {Q : Nat → Prop} {a : Option Addr} {n : Nat} {zs : List Int}
theorem Ro.dev (h : Ro w Q a n zs) (hf : Fr Q w w') : Ro w' (fun b => Q b ∨ (w.heap.size ≤ b ∧ b < w'.heap.size)) a n zs :=
  ⟨h.bs.fr hf h.nq, fun ad ha hn hq => by
    subst ha
    rcases hq with hq | hq
    · exact h.nq ad rfl hn hq
    · have := h.bs.lt hn
      omega⟩
theorem Ro.fr (h : Ro w Q a n zs) (hf : Fr Q w w') : Ro w' Q a n zs := ⟨h.bs.fr hf h.nq, h.nq⟩
theorem Ro.below (h : Ro w Q a n zs) (hb : Below w.heap.size w w') : Ro w' Q a n zs := ⟨h.bs.below hb, h.nq⟩
/-- New bytes. -/
theorem Ro.new {v : Value} (ho : w'.ownsRow w.heap.size 5 1 v n (cells zs)) (hz : ∀ z ∈ zs, 0 ≤ z ∧ z ≤ 255) (hq : ∀ b, Q b → b < w.heap.size) : ∃ a c, v = .slice a n c ∧ Ro w' Q a n zs ∧ n ≤ c ∧ c ≤ maxLen := by
  obtain ⟨a, c, rfl, h1, h2, h3, _⟩ := own_form ho hz
  refine ⟨a, c, rfl, ⟨h1, fun ad ha hn hqq => ?_⟩, h2, h3⟩
  subst ha
  rcases ho.2 with ⟨e, h0⟩ | ⟨g, cap, cur, e, hb, _⟩
  · omega
  · simp at e
    obtain ⟨rfl, rfl⟩ := e
    have := hq _ hqq
    simp only at this
    omega
end
theorem made_zeros (n : Nat) : (madeCells (Value.int .u8 0).cells (n * 1)).toList = cells (List.replicate n 0) := by
  simp [madeCells, cells, Value.cells, Nat.mod_one, List.map_const']
theorem own1_cell {w : World} {B n : Nat} {v : Value} {xs : List Int} (h : w.ownsRow B 5 1 v n (cells xs)) (hn : 0 < n) : ∃ g cap, v = .slice (some ⟨g, 0, none⟩) n cap ∧ B ≤ g ∧ (∃ cur, w.heap[g]? = some (.cells cur 5 (0, 0))) ∧ ∀ i, i < n → w.cell? ⟨g, i, none⟩ = some (.int .u8 (xs.getD i 0)) := by
  obtain ⟨h1, h2⟩ := h
  rw [cells_length] at h1
  rcases h2 with ⟨_, h⟩ | ⟨g, cap, cur, rfl, hb, hg, hnc, hcm, hs, ht⟩
  · omega
  · refine ⟨g, cap, rfl, hb, ⟨cur, hg⟩, fun i hi => ?_⟩
    rw [cell_of_row w g i cur _ (0, 0) hg]
    have hq := cells_get xs i (by omega)
    rw [← ht, List.getElem?_take, if_pos (by omega)] at hq
    simpa using hq
theorem num_ (e : Int) (w : World) : Calls Try.prog 19 #[.int .i64 e] w fun en w' => en = .returned (.int .i64 e) ∧ w' = w := by
  go_enter Try.func19, Try.ntmps19
  go_wp2_with fail
  go_ret
  exact ⟨rfl, rfl⟩
/-- A sector of one byte. -/
def ful (x : Int) : List Int := List.replicate 512 x
theorem ful_sec {x : Int} (h : 0 ≤ x ∧ x ≤ 255) : Sec (ful x) := ⟨List.length_replicate, fun y hy => by obtain rfl := List.eq_of_mem_replicate hy; exact h⟩
theorem ful_zero : ful 0 = zer := rfl
set_option maxHeartbeats 1000000 in
theorem full_ (x : Int) (w : World) (hx : 0 ≤ x ∧ x ≤ 255) :
    Calls Try.prog 16 #[.int .u8 x] w fun e w' => ∃ v, e = .returned v ∧ w'.ownsRow w.heap.size 5 1 v 512 (cells (ful x)) ∧ Below w.heap.size w w' := by
  obtain ⟨i, hi, hz0, hz1, hz2⟩ := info_parts info5
  go_enter Try.func16, Try.ntmps16
  go_wp2_with (at_make; refine wpList_make_full _ rfl _ _ 25 rfl w.heap.size 5 i (.int .u8 0) 1 Try.underlying25 hi hz0 hz1 .i64 .i64 _ _ 512 rfl rfl rfl rfl (by rw [hz2]; omega) (by unfold maxLen; omega) (Nat.le_refl _) ?_; intro w1 hown hg1; rw [made_zeros] at hown; have HO := hid hown; have HG := hid (below_of_grown hg1); clear hown hg1)
  go_loopw [4] (fun i wr => ∃ j : Nat, j ≤ 512 ∧ i = .int .i64 j ∧ wr.ownsRow w.heap.size 5 1 (.slice (some ⟨w.heap.size, 0, none⟩) 512 512) 512 (cells (List.replicate j x ++ List.replicate (512 - j) 0)) ∧ Below w.heap.size w wr) (fun i _ => 512 - (intOf i).toNat)
  case atStart => exact ⟨0, by omega, rfl, by simpa using HO.out, HG.out⟩
  case round =>
    clear HO HG
    obtain ⟨j, hj, rfl, hown, hbl⟩ := hrel
    by_cases hlt : j < 512
    · have hI : (j : Int) < 512 := by omega
      obtain ⟨g, cap, e, _, ⟨cur, hg⟩, hc⟩ := own1_cell hown (by omega)
      obtain ⟨rfl, rfl⟩ : w.heap.size = g ∧ 512 = cap := by simpa using e
      have c0 := hc j hlt
      have f0 : wr.frozen? ⟨w.heap.size, j, none⟩ = false := by simp [World.frozen?, hg]
      have HO : Hid ((wr.setCell ⟨w.heap.size, j, none⟩ (.int .u8 x)).ownsRow w.heap.size 5 1 (.slice (some ⟨w.heap.size, 0, none⟩) 512 512) 512 (cells (List.replicate (j + 1) x ++ List.replicate (512 - (j + 1)) 0))) := by
        have h1 := own_set hown j (.int .u8 x)
        have e1 : (cells (List.replicate j x ++ List.replicate (512 - j) 0)).set j (.int .u8 x) = cells (List.replicate (j + 1) x ++ List.replicate (512 - (j + 1)) 0) := by
          rw [show 512 - j = (512 - (j + 1)) + 1 from by omega, List.replicate_succ (n := 512 - (j + 1))]
          unfold cells
          rw [List.map_append, List.set_append_right _ _ (by simp)]
          simp [List.replicate_succ', List.append_assoc]
        rw [e1] at h1
        exact h1
      have HB := hid (hbl.setCell (p := ⟨w.heap.size, j, none⟩) (Nat.le_refl _) (.int .u8 x))
      generalize (List.replicate j x ++ List.replicate (512 - j) 0).getD j 0 = y at *
      clear hown hc hbl e hg hlt
      go_wp2_with fail
      go_roundw
      case rel => exact ⟨j + 1, by omega, by go_num, HO.out, HB.out⟩
      case measure => simp [intOf]; omega
    · have hI : ¬ (j : Int) < 512 := by omega
      obtain rfl : j = 512 := by omega
      have HO : Hid (wr.ownsRow w.heap.size 5 1 (.slice (some ⟨w.heap.size, 0, none⟩) 512 512) 512 (cells (ful x))) := by
        have := hown
        simp only [Nat.sub_self, List.replicate_zero, List.append_nil] at this
        exact this
      have HB := hid hbl
      clear hown hbl hlt
      go_wp2_with fail
      go_ret
      exact ⟨_, rfl, HO.out, HB.out⟩
end Go.Proofs.Ythjfgdldclhbhaa
