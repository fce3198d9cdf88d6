import Derived.Test.YtnmklleoilicdaaUH
namespace Go.Proofs.Ytnmklleoilicdaa
set_option maxRecDepth 100000
open Go.RowKit Go.Shelf Go.Maps
set_option linter.unusedVariables false

set_option maxHeartbeats 1000000 in
theorem may_ (ka va : Option Addr) (kc vc : Nat) (s : Sx) (w : World) (hk : s.k.length ≤ maxLen) (hv : s.v.length ≤ maxLen) :
    Calls Try.prog 51 #[.agg #[.slice ka s.k.length kc, .slice va s.v.length vc, .bool s.g]] w fun e w' => e = .returned (.bool (mayS s)) ∧ Below w.heap.size w w' := by
  obtain ⟨k, v, g⟩ := s
  unfold mayS
  simp only at hk hv ⊢
  obtain ⟨n, hn⟩ : ∃ n, k.length = n := ⟨_, rfl⟩
  obtain ⟨m, hm⟩ : ∃ m, v.length = m := ⟨_, rfl⟩
  rw [hn, hm] at *
  unfold maxLen at hk hv
  clear hn hm
  have B := fun o => (Below.refl w.heap.size w).alloc (Nat.le_refl _) o
  by_cases h1 : n < 1
  · obtain rfl : n = 0 := by omega
    rw [show (decide (1 ≤ 0)) = false from rfl]
    simp only [Bool.false_and]
    go_enter Try.func51, Try.ntmps51
    go_wp2_with fail
    go_ret
    exact ⟨rfl, B _⟩
  have e1 : (n : Int) ≥ 1 := by omega
  rw [show (decide (1 ≤ n)) = true from decide_eq_true (by omega)]
  by_cases h2 : 40 < n
  · have e2 : ¬ (n : Int) ≤ 40 := by omega
    rw [show (decide (n ≤ 40)) = false from decide_eq_false (by omega)]
    simp only [Bool.and_false, Bool.false_and]
    go_enter Try.func51, Try.ntmps51
    go_wp2_with fail
    go_ret
    exact ⟨rfl, B _⟩
  have e2 : (n : Int) ≤ 40 := by omega
  rw [show (decide (n ≤ 40)) = true from decide_eq_true (by omega)]
  by_cases h3 : 480 < m
  · have e3 : ¬ (m : Int) ≤ 480 := by omega
    rw [show (if g = true then decide (m = 0) else decide (m ≤ 480)) = false by
      cases g
      · exact decide_eq_false (by omega)
      · exact decide_eq_false (by omega)]
    simp only [Bool.and_false]
    go_enter Try.func51, Try.ntmps51
    go_wp2_with fail
    go_ret
    exact ⟨rfl, B _⟩
  have e3 : (m : Int) ≤ 480 := by omega
  cases g
  · rw [show (if false = true then decide (m = 0) else decide (m ≤ 480)) = true from decide_eq_true (by omega)]
    simp only [Bool.and_true]
    go_enter Try.func51, Try.ntmps51
    go_wp2_with fail
    go_ret
    exact ⟨rfl, B _⟩
  · by_cases h0 : m = 0
    · subst h0
      simp only [if_true, Bool.and_true, decide_true]
      go_enter Try.func51, Try.ntmps51
      go_wp2_with fail
      go_ret
      exact ⟨rfl, B _⟩
    · have e4 : ¬ (m : Int) = 0 := by omega
      simp only [if_true, decide_eq_false h0, Bool.and_false]
      go_enter Try.func51, Try.ntmps51
      go_wp2_with fail
      go_ret
      exact ⟨congrArg (fun b => Ending.returned (Value.bool b)) (beq_eq_false_iff_ne.2 e4), B _⟩
def fitL (l : List Sx) (N : Nat) : List Sx := (l.filter mayS).take N
theorem cell_blk {w : World} {b o : Nat} {v : Value} (h : w.cell? ⟨b, o, none⟩ = some v) : b < w.heap.size := by
  rcases Nat.lt_or_ge b w.heap.size with h' | h'
  · exact h'
  · simp [World.cell?, Array.getElem?_eq_none h'] at h
theorem fitL_may (l : List Sx) (N : Nat) : allMay (fitL l N) = true := by
  unfold allMay fitL
  rw [List.all_eq_true]
  intro s hs
  exact (List.mem_filter.1 (List.mem_of_mem_take hs)).2
theorem fitL_len (l : List Sx) (N : Nat) : (fitL l N).length ≤ N := by unfold fitL; simp; omega
theorem fitL_mem {l : List Sx} {N : Nat} {s : Sx} (h : s ∈ fitL l N) : s ∈ l := (List.mem_filter.1 (List.mem_of_mem_take h)).1
theorem fitL_full {l : List Sx} {N k : Nat} (h : ((l.take k).filter mayS).length = N) : fitL l N = (l.take k).filter mayS := by
  unfold fitL
  conv => lhs; rw [← List.take_append_drop k l, List.filter_append]
  rw [List.take_append_of_le_length (by omega), List.take_of_length_le (by omega)]
theorem fitL_all {l : List Sx} {N k : Nat} (hk : l.length ≤ k) (h : ((l.take k).filter mayS).length ≤ N) : fitL l N = (l.take k).filter mayS := by
  unfold fitL
  rw [List.take_of_length_le hk] at h ⊢
  rw [List.take_of_length_le h]
theorem filt_yes {l : List Sx} {k : Nat} (hk : k < l.length) (h : mayS (l.getD k default) = true) : (l.take (k + 1)).filter mayS = (l.take k).filter mayS ++ [l.getD k default] := by
  have e : l.getD k default = l[k] := by simp [List.getD, hk]
  rw [List.take_succ_eq_append_getElem hk, List.filter_append]
  rw [e] at h ⊢
  simp [h]
theorem filt_no {l : List Sx} {k : Nat} (hk : k < l.length) (h : mayS (l.getD k default) = false) : (l.take (k + 1)).filter mayS = (l.take k).filter mayS := by
  have e : l.getD k default = l[k] := by simp [List.getD, hk]
  rw [List.take_succ_eq_append_getElem hk, List.filter_append]
  rw [e] at h
  simp [h]
/-- What fit has gathered. -/
structure Ft (w : World) (U : Nat → Prop) (l : List Sx) (k : Nat) (W : World) (v : Value) (ds : List SD) : Prop where
  own : W.ownsRow w.heap.size 37 3 v ds.length (sds ds)
  is : ds.map (·.s) = (l.take k).filter mayS
  sv : ∀ d ∈ ds, SV W U d
  src : ∀ x, U x → x < w.heap.size
  bel : Below w.heap.size w W
set_option maxHeartbeats 2000000 in
theorem fit_ (U : Nat → Prop) (a : Option Addr) (n c N : Nat) (l : List Sx) (w : World) (h : Sl w U a n l) (hU : ∀ x, U x → x < w.heap.size) (hn : n ≤ maxLen) (hN : N ≤ 100000) :
    Calls Try.prog 23 #[.slice a n c, .int .i64 N] w fun e w' => ∃ a' m c', e = .returned (.slice a' m c') ∧ Sl w' (fun x => U x ∨ w.heap.size ≤ x) a' m (fitL l N) ∧ m ≤ c' ∧ c' ≤ maxLen ∧ (a' = none → c' = 0) ∧ Below w.heap.size w w' := by
  have HL := hid h
  have HLN : Hid (l.length = n) := h.len
  have HU := hid hU
  unfold maxLen at hn
  clear h hU
  go_enter Try.func23, Try.ntmps23
  go_wp2_with fail
  go_loopw [5, 6] (fun v i wr => ∃ (k : Nat) (ds : List SD), i = .int .i64 k ∧ Hid (Ft w U l k wr v ds) ∧ ds.length ≤ N ∧ k ≤ n) (fun _ i _ => n - (intOf i).toNat)
  case atStart => exact ⟨0, [], rfl, ⟨World.ownsRow_nil _ _ _ _, by simp, fun d hd => by simp at hd, HU.out, Below.refl _ _⟩, Nat.zero_le _, Nat.zero_le _⟩
  case round =>
    obtain ⟨k, ds, rfl, HF, hdN, hk⟩ := hrel
    obtain ⟨am, cm, hv, _⟩ := Sl.ofOwn (V := fun _ => True) HF.out.own (fun d hd => (HF.out.sv d hd).wide (fun _ _ _ => trivial)) (fun _ _ => trivial)
    subst hv
    by_cases hlt : k < n
    · have hI : (k : Int) < n := by omega
      obtain ⟨q, HQ⟩ : ∃ q, Hid (ds.length = q) := ⟨_, rfl⟩
      by_cases hfull : q < N
      · have hJ : (q : Int) < N := by omega
        obtain ⟨bl, off, ka, kc, va, vc, kn, vn, rfl, hkn, hvn, c0, c1, c2, v1, v2⟩ := (HL.out.below HF.out.bel).at hlt
        obtain ⟨s, HS⟩ : ∃ s, Hid (l.getD k default = s) := ⟨_, rfl⟩
        rw [HS.out] at hkn hvn c2 v1 v2
        have hm := fun wx => may_ ka va kc vc s wx (by rw [← hkn]; exact Nat.le_trans v1.nc v1.cm) (by rw [← hvn]; exact Nat.le_trans v2.nc v2.cm)
        rw [← hkn, ← hvn] at hm
        obtain ⟨g, HG⟩ : ∃ g, Hid (s.g = g) := ⟨_, rfl⟩
        rw [HG.out] at c2 hm
        have HC : Hid (∀ wx, Below wr.heap.size wr wx → wx.cell? ⟨bl, off + k * 3, none⟩ = some (.slice ka kn kc) ∧ wx.cell? ⟨bl, off + k * 3 + 1, none⟩ = some (.slice va vn vc) ∧ wx.cell? ⟨bl, off + k * 3 + 2, none⟩ = some (.bool g)) := by
          intro wx hb
          have hlb : bl < wr.heap.size := cell_blk c0
          have e := hb.block bl hlb
          have f : ∀ o, wx.cell? ⟨bl, o, none⟩ = wr.cell? ⟨bl, o, none⟩ := fun o => World.cell?_of_block e
          exact ⟨(f _).trans c0, (f _).trans c1, (f _).trans c2⟩
        have HV1 := hid v1
        have HV2 := hid v2
        have HKN := hid hkn
        have HVN := hid hvn
        rw [HQ.out]
        clear hkn hvn v1 v2 hlt
        go_wp2_with fail
        refine (hm _).mono ?_
        rintro e w1 ⟨rfl, g1⟩
        have HBW : Hid (Below w.heap.size w w1) := bel_bel HF.out.bel HF.out.bel.size g1
        have HO1 := hid (own_bel HF.out.own g1)
        have HSV1 : Hid (∀ d ∈ ds, SV w1 U d) := fun d hd => (HF.out.sv d hd).below g1
        obtain ⟨x0, x1, x2⟩ := HC.out w1 g1
        have HV1 := hid (HV1.out.lift g1 (fun _ _ h => h))
        have HV2 := hid (HV2.out.lift g1 (fun _ _ h => h))
        have HIS := hid HF.out.is
        clear g1 hm c0 c1 c2 HC
        cases hmay : mayS s with
        | false =>
          have HIS1 : Hid (ds.map (·.s) = (l.take (k + 1)).filter mayS) := HIS.out.trans (filt_no (by rw [HLN.out]; omega) (by rw [HS.out]; exact hmay)).symm
          clear hmay
          go_wp2_with fail
          go_roundw
          case rel => exact ⟨k + 1, ds, by go_num, ⟨by rw [← HQ.out]; exact HO1.out, HIS1.out, HSV1.out, HU.out, HBW.out⟩, hdN, by omega⟩
          case measure => simp [intOf]; omega
        | true =>
          have HIS1 : Hid ((ds ++ [⟨ka, kc, va, vc, s⟩] : List SD).map (·.s) = (l.take (k + 1)).filter mayS) := by
            show _ = _
            rw [filt_yes (by rw [HLN.out]; omega) (by rw [HS.out]; exact hmay), List.map_append, HIS.out, HS.out]
            rfl
          clear hmay HIS
          obtain ⟨o, HOB⟩ : ∃ o, Hid (Obj.cells #[.slice ka kn kc, .slice va vn vc, .bool g] 37 = o) := ⟨_, rfl⟩
          have HO4 := hid (HO1.out.alloc o)
          have HNW : Hid (∀ j u, (sdc ⟨ka, kc, va, vc, s⟩)[j]? = some u → (w1.alloc o).cell? ⟨w1.heap.size, j, none⟩ = some u) := fun j u hj => by
            rw [cell_of_row (w1.alloc o) w1.heap.size j _ 37 (0, 0) ((heap_alloc_new w1 o).trans (by rw [← HOB.out]))]
            simp only [sdc, ← HKN.out, ← HVN.out, HG.out] at hj
            simpa using hj
          have HSZ4 : Hid (w.heap.size ≤ (w1.alloc o).heap.size) := by have := HBW.out.size; show _ ≤ _; simp; omega
          have HBA : Hid (Below w1.heap.size w1 (w1.alloc o)) := (Below.refl w1.heap.size w1).alloc (Nat.le_refl _) o
          rw [← HOB.out] at HO4 HNW HSZ4 HBA
          rw [HQ.out] at HO4
          clear HO1
          go_wp2_with (first | (at_builtin; refine wpList_appSet rfl _ _ rfl w.heap.size _ ds rfl (by rw [HQ.out]; exact HO4.out) w1.heap.size ⟨ka, kc, va, vc, s⟩ rfl (by exact HNW.out) (by have := HQ.out; omega) (by exact HSZ4.out) ?_; intro v5 w5 o5 g5 _; have HO5 := hid o5; have HG5 := hid g5; clear o5 g5 HNW) | fail)
          have hown : ∀ x, (Value.slice am q cm).ownBlock = some x → w.heap.size ≤ x := fun x e => (HO4.out.lt x e).1
          have hsame : ∀ x, x < w.heap.size → x < w1.heap.size → w5.heap[x]? = w1.heap[x]? := fun x hx hx3 => (HG5.out.block x (Nat.lt_of_lt_of_le hx3 HBA.out.size) (fun e => by have := hown x e.symm; omega)).trans (HBA.out.block x hx3)
          have hst : ∀ {d : SD}, SV w1 U d → SV w5 U d := fun h => h.step fun x hx e _ => hsame x (HU.out x e) hx
          go_roundw
          case rel =>
            refine ⟨k + 1, ds ++ [⟨ka, kc, va, vc, s⟩], by go_num, ⟨HO5.out, HIS1.out, ?_, HU.out, ?_⟩, by rw [List.length_append, HQ.out]; simp; omega, by omega⟩
            · intro d hd
              rcases List.mem_append.1 hd with hd | hd
              · exact hst (HSV1.out d hd)
              · rw [List.mem_singleton] at hd
                subst hd
                refine hst ⟨?_, ?_⟩
                · show Vs _ _ _ s.k.length _ _
                  rw [← HKN.out]; exact HV1.out
                · show Vs _ _ _ s.v.length _ _
                  rw [← HVN.out]; exact HV2.out
            · exact ((HBW.out).trans ⟨HBA.out.os, HBA.out.tape, HBA.out.output, HBA.out.size, fun x hx => HBA.out.block x (by have := HBW.out.size; omega)⟩).grown HG5.out (by exact HSZ4.out) (fun x e => hown x e)
          case measure => simp [intOf]; omega
      · have hJ : ¬ (q : Int) < N := by omega
        have HX : Hid (ds.map (·.s) = fitL l N) := by
          have hlen : ((l.take k).filter mayS).length = N := by rw [← HF.out.is, List.length_map, HQ.out]; have := HQ.out; omega
          exact HF.out.is.trans (fitL_full hlen).symm
        obtain ⟨a', c', hv, hsl, h1, h2, h3⟩ := Sl.ofOwn (V := fun x => U x ∨ w.heap.size ≤ x) HF.out.own (fun d hd => (HF.out.sv d hd).wide (fun _ _ h => .inl h)) (fun _ h => .inr h)
        have HFF := hid (show _ ∧ _ ∧ _ ∧ _ ∧ _ from ⟨hv, hsl, h1, h2, h3⟩)
        clear hv hsl h1 h2 h3
        rw [HX.out, HQ.out] at HFF
        rw [HQ.out]
        clear hlt
        go_wp2_with fail
        go_ret
        obtain ⟨hv, hsl, h1, h2, h3⟩ := HFF.out
        exact ⟨a', q, c', hv ▸ rfl, hsl, h1, h2, h3, HF.out.bel⟩
    · have hI : ¬ (k : Int) < n := by omega
      obtain ⟨q, HQ⟩ : ∃ q, Hid (ds.length = q) := ⟨_, rfl⟩
      have HX : Hid (ds.map (·.s) = fitL l N) := HF.out.is.trans (fitL_all (by rw [HLN.out]; omega) (by rw [← HF.out.is, List.length_map]; exact hdN)).symm
      obtain ⟨a', c', hv, hsl, h1, h2, h3⟩ := Sl.ofOwn (V := fun x => U x ∨ w.heap.size ≤ x) HF.out.own (fun d hd => (HF.out.sv d hd).wide (fun _ _ h => .inl h)) (fun _ h => .inr h)
      have HFF := hid (show _ ∧ _ ∧ _ ∧ _ ∧ _ from ⟨hv, hsl, h1, h2, h3⟩)
      clear hv hsl h1 h2 h3
      rw [HX.out, HQ.out] at HFF
      rw [HQ.out]
      clear hlt
      go_wp2_with fail
      go_ret
      obtain ⟨hv, hsl, h1, h2, h3⟩ := HFF.out
      exact ⟨a', q, c', hv ▸ rfl, hsl, h1, h2, h3, HF.out.bel⟩
end Go.Proofs.Ytnmklleoilicdaa
