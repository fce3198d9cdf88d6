import Derived.Test.YteeapmcpbmjpmaaGreatZZi
namespace Go.Proofs.YteeapmcpbmjpmaaGreat
set_option maxRecDepth 100000
open Go.RowKit Go.Shelf Go.Maps
set_option linter.unusedVariables false

/-! TablePlays. -/
theorem Tt.cellA {w0 w : World} {pa pb N : Nat} {F G : Nat → Prop} (h : Tt w0 w pa pb F G N) : ∃ t, w.cell? ⟨pa, 0, none⟩ = some (.pointer (some ⟨t, 0, none⟩)) := by
  obtain ⟨Z, t, b, r, x1, x3, M, K, hN, hc, hx⟩ := h.a
  exact ⟨t, (cell_of_row _ _ 0 _ _ (0, 0) hc.obj).trans rfl⟩
/-- Two pairs beside an op of one's own. -/
structure Tk (w0 w : World) (pa pb : Nat) (F G : Nat → Prop) (N kb ob : Nat) (j : Int) : Prop where
  t : Tt w0 w pa pb F G N
  k : w.heap[kb]? = some (.cells #[.int .u8 97] 5 (1, 2))
  o : w.heap[ob]? = some (.cells #[.int .i64 j, .bool false, .slice (some ⟨kb, 0, none⟩) 1 1, .slice none 0 0, .slice none 0 0] 38 (0, 0))
  nk : ¬ F kb ∧ ¬ G kb
  no : ¬ F ob ∧ ¬ G ob
theorem Tk.swap {w0 w : World} {pa pb N kb ob : Nat} {F G : Nat → Prop} {j : Int} (h : Tk w0 w pa pb F G N kb ob j) : Tk w0 w pb pa G F N kb ob j := ⟨h.t.swap, h.k, h.o, ⟨h.nk.2, h.nk.1⟩, ⟨h.no.2, h.no.1⟩⟩
theorem Tk.lt {w0 w : World} {pa pb N kb ob : Nat} {F G : Nat → Prop} {j : Int} (h : Tk w0 w pa pb F G N kb ob j) : kb < w.heap.size ∧ ob < w.heap.size := ⟨(Array.getElem?_eq_some_iff.1 h.k).1, (Array.getElem?_eq_some_iff.1 h.o).1⟩
theorem Tk.step {w0 w w' : World} {pa pb N N' kb ob : Nat} {F G : Nat → Prop} {j : Int} (h : Tk w0 w pa pb F G N kb ob j) (s : Stp w w' F pa N') (hN : N ≤ N') : ∃ F', Tk w0 w' pa pb F' G N' kb ob j := by
  obtain ⟨F', h1, h2, h3⟩ := s
  have hl := h.lt
  refine ⟨F', ⟨h1, (h.t.b.other h2 (fun x hg hf => h.t.d x hf hg)).more hN, fun x hf hg => ?_, fun x hf => ?_, h.t.fb, ?_⟩, (h2.same kb hl.1 h.nk.1).trans h.k, (h2.same ob hl.2 h.no.1).trans h.o, ⟨fun e => ?_, h.nk.2⟩, ⟨fun e => ?_, h.no.2⟩⟩
  · rcases h3 x hf with hf | hf
    · exact h.t.d x hf hg
    · have := h.t.b.lt x hg; omega
  · rcases h3 x hf with hf | hf
    · exact h.t.fa x hf
    · have := h.t.bel.size; omega
  · have hb : Below w0.heap.size w w' := h2.below h.t.bel.size h.t.fa
    exact h.t.bel.trans hb
  · rcases h3 kb e with e | e
    · exact h.nk.1 e
    · omega
  · rcases h3 ob e with e | e
    · exact h.no.1 e
    · omega
theorem Tk.oi {w0 w : World} {pa pb N kb ob : Nat} {F G : Nat → Prop} {j : Int} (h : Tk w0 w pa pb F G N kb ob j) : Oi w F (some ⟨kb, 0, none⟩) none none 1 1 0 0 0 [97] [] [] := by
  refine ⟨⟨⟨rfl, fun z hz => by rw [List.mem_singleton] at hz; omega, .inr ⟨kb, 0, rfl, fun i hi => ?_⟩⟩, Nat.le_refl _, by unfold maxLen; omega, (fun e => by cases e), fun ad e _ => by obtain rfl := Option.some.inj e; exact h.nk.1⟩, vs_none _ _, ⟨rfl, .inl rfl⟩, by omega, by omega, by omega, fun s hs => by simp at hs⟩
  obtain rfl : i = 0 := by omega
  exact (cell_of_row _ _ 0 _ _ (1, 2) h.k).trans rfl
theorem Tk.cs {w0 w : World} {pa pb N kb ob : Nat} {F G : Nat → Prop} {j : Int} (h : Tk w0 w pa pb F G N kb ob j) : w.cell? ⟨ob, 0, none⟩ = some (.int .i64 j) ∧ w.cell? ⟨ob, 1, none⟩ = some (.bool false) ∧ w.cell? ⟨ob, 2, none⟩ = some (.slice (some ⟨kb, 0, none⟩) 1 1) ∧ w.cell? ⟨ob, 3, none⟩ = some (.slice none 0 0) ∧ w.cell? ⟨ob, 4, none⟩ = some (.slice none 0 0) :=
  ⟨(cell_of_row _ _ 0 _ _ (0, 0) h.o).trans rfl, (cell_of_row _ _ 1 _ _ (0, 0) h.o).trans rfl, (cell_of_row _ _ 2 _ _ (0, 0) h.o).trans rfl, (cell_of_row _ _ 3 _ _ (0, 0) h.o).trans rfl, (cell_of_row _ _ 4 _ _ (0, 0) h.o).trans rfl⟩
theorem Tk.made {w0 w : World} {pa pb N : Nat} {F G : Nat → Prop} (j : Int) (h : Tt w0 w pa pb F G N) : Tk w0 ((w.alloc (.cells #[.int .u8 97] 5 (1, 2))).alloc (.cells #[.int .i64 j, .bool false, .slice (some ⟨w.heap.size, 0, none⟩) 1 1, .slice none 0 0, .slice none 0 0] 38)) pa pb F G N w.heap.size (w.heap.size + 1) j := by
  have hb : Below w.heap.size w ((w.alloc (.cells #[.int .u8 97] 5 (1, 2))).alloc (.cells #[.int .i64 j, .bool false, .slice (some ⟨w.heap.size, 0, none⟩) 1 1, .slice none 0 0, .slice none 0 0] 38)) := ((Below.refl _ _).alloc (Nat.le_refl _) _).alloc (by simp) _
  have ho := heap_alloc_new (w.alloc (.cells #[.int .u8 97] 5 (1, 2))) (.cells #[.int .i64 j, .bool false, .slice (some ⟨w.heap.size, 0, none⟩) 1 1, .slice none 0 0, .slice none 0 0] 38)
  rw [World.size_alloc] at ho
  exact ⟨h.on hb, (Below.heap_alloc _ _ _ (by simp)).trans (heap_alloc_new w _), ho, ⟨fun e => by have := h.a.lt _ e; omega, fun e => by have := h.b.lt _ e; omega⟩, ⟨fun e => by have := h.a.lt _ e; omega, fun e => by have := h.b.lt _ e; omega⟩⟩
set_option maxHeartbeats 16000000 in
theorem tablePlays_ (a : Option Addr) (n c : Nat) (O : Nat → OpX) (w : World) (h : IsOps13 w a n O) (hn : n ≤ c) (hcm : c ≤ maxLen) :
    Calls Tryz.prog 3 #[.slice a n c] w fun e w' => e = .returned (.bool true) ∧ Below w.heap.size w w' := by
  have HO := hid h
  unfold maxLen at hcm
  clear h
  go_enter Tryz.func3, Tryz.ntmps3
  go_wp2_with fail
  refine (first_ _).mono ?_
  rintro e w1 ⟨rfl, B1⟩
  have HB1 := hid B1
  clear B1
  go_wp2_with fail
  refine (new_ _).mono ?_
  rintro e w2 ⟨t1, b1, rfl, tw1, hb1, ht1, B2⟩
  have HQA := hid (Pq.made tw1)
  have HBA : Hid (Below w.heap.size w ((w2.alloc (.cells #[.slice none 0 0] 30)).alloc (.cells #[.pointer (some ⟨t1, 0, none⟩), .pointer none, .pointer (some ⟨w2.heap.size, 0, none⟩), .pointer none] 34))) := by
    have h1 := bel_bel HB1.out HB1.out.size B2
    exact (h1.alloc h1.size _).alloc (by have := h1.size; simp; omega) _
  have HFA : Hid (∀ x, (x = w2.heap.size + 1 ∨ x = t1 ∨ x = b1 ∨ x = w2.heap.size) → w.heap.size ≤ x) := fun x hx => by
    have := HB1.out.size
    have := B2.size
    rcases hx with rfl | rfl | rfl | rfl <;> omega
  clear tw1 hb1 ht1 B2
  go_wp2_with fail
  obtain ⟨wa, HWA⟩ : ∃ y, Hid ((w2.alloc (.cells #[.slice none 0 0] 30)).alloc (.cells #[.pointer (some ⟨t1, 0, none⟩), .pointer none, .pointer (some ⟨w2.heap.size, 0, none⟩), .pointer none] 34) = y) := ⟨_, rfl⟩
  obtain ⟨FA, HFE⟩ : ∃ y : Nat → Prop, Hid ((fun x => x = w2.heap.size + 1 ∨ x = t1 ∨ x = b1 ∨ x = w2.heap.size) = y) := ⟨_, rfl⟩
  have HFA2 : Hid (∀ x, FA x → w.heap.size ≤ x) := by rw [← HFE.out]; exact HFA.out
  rw [HWA.out] at HQA HBA ⊢
  rw [HFE.out] at HQA
  obtain ⟨pa, HPA⟩ : ∃ y, Hid (w2.heap.size + 1 = y) := ⟨_, rfl⟩
  rw [HPA.out] at HQA ⊢
  clear HFA
  refine (new_ _).mono ?_
  rintro e w3 ⟨t2, b2, rfl, tw2, hb2, ht2, B3⟩
  have HQB := hid (Pq.made tw2)
  have B4 : Below wa.heap.size wa ((w3.alloc (.cells #[.slice none 0 0] 30)).alloc (.cells #[.pointer (some ⟨t2, 0, none⟩), .pointer none, .pointer (some ⟨w3.heap.size, 0, none⟩), .pointer none] 34)) := (B3.alloc B3.size _).alloc (by have := B3.size; simp; omega) _
  have HT : Hid (Tt w ((w3.alloc (.cells #[.slice none 0 0] 30)).alloc (.cells #[.pointer (some ⟨t2, 0, none⟩), .pointer none, .pointer (some ⟨w3.heap.size, 0, none⟩), .pointer none] 34)) pa (w3.heap.size + 1) FA (fun x => x = w3.heap.size + 1 ∨ x = t2 ∨ x = b2 ∨ x = w3.heap.size) 0) := by
    refine ⟨HQA.out.below B4, HQB.out, fun x hf hg => ?_, HFA2.out, fun x hg => ?_, bel_bel HBA.out HBA.out.size B4⟩
    · have h1 := HQA.out.lt x hf
      have h2 := B3.size
      rcases hg with rfl | rfl | rfl | rfl <;> omega
    · have h1 := HBA.out.size
      have h2 := B3.size
      rcases hg with rfl | rfl | rfl | rfl <;> omega
  obtain ⟨tA, pa0⟩ := HT.out.cellA
  obtain ⟨tB, pb0⟩ := HT.out.swap.cellA
  clear tw2 hb2 ht2 B3 B4 HQA HQB
  go_wp2_with fail
  obtain ⟨wb, HWB⟩ : ∃ y, Hid ((w3.alloc (.cells #[.slice none 0 0] 30)).alloc (.cells #[.pointer (some ⟨t2, 0, none⟩), .pointer none, .pointer (some ⟨w3.heap.size, 0, none⟩), .pointer none] 34) = y) := ⟨_, rfl⟩
  obtain ⟨G0, HG0⟩ : ∃ y : Nat → Prop, Hid ((fun x => x = w3.heap.size + 1 ∨ x = t2 ∨ x = b2 ∨ x = w3.heap.size) = y) := ⟨_, rfl⟩
  rw [HWB.out] at HT ⊢
  rw [HG0.out] at HT
  obtain ⟨pb, HPB⟩ : ∃ y, Hid (w3.heap.size + 1 = y) := ⟨_, rfl⟩
  rw [HPB.out] at HT ⊢
  clear pa0 pb0
  go_loopw [3, 6, 7, 8] (fun u3 i u7 u8 wr => ∃ (j : Nat) (F G : Nat → Prop), j ≤ n ∧ i = .int .i64 j ∧ j ≤ 300 ∧ Hid (Tt w wr pa pb F G (2001 * j))) (fun _ i _ _ _ => n - (intOf i).toNat)
  case atStart => exact ⟨0, FA, G0, by omega, rfl, by omega, HT.out⟩
  case round =>
    obtain ⟨j, F, G, hj, rfl, h300, HR⟩ := hrel
    by_cases hlt : j < n
    case neg =>
      have i1 : ¬ (j : Int) < n := by omega
      go_wp2_with fail
      go_loopw [3, 9, 10, 11] (fun u3 i u10 u11 wr => ∃ (z : Nat) (F G : Nat → Prop), i = .int .i64 z ∧ 2 ≤ z ∧ z ≤ 11 ∧ Hid (Tt w wr pa pb F G (592996 + 4002 * z))) (fun _ i _ _ _ => 11 - (intOf i).toNat)
      case atStart => exact ⟨2, F, G, rfl, by omega, by omega, HR.out.more (by omega)⟩
      case round =>
        clear HR
        obtain ⟨z, F, G, rfl, hz1, hz2, HR⟩ := hrel
        by_cases hz : (z : Int) < 11
        case neg =>
          have HB := hid HR.out.bel
          go_wp2_with fail
          go_ret
          exact ⟨rfl, HB.out⟩
        have HM := hid (Tk.made (z : Int) HR.out)
        obtain ⟨wx, HWX⟩ : ∃ y, Hid ((wr.alloc (.cells #[.int .u8 97] 5 (1, 2))).alloc (.cells #[.int .i64 z, .bool false, .slice (some ⟨wr.heap.size, 0, none⟩) 1 1, .slice none 0 0, .slice none 0 0] 38) = y) := ⟨_, rfl⟩
        obtain ⟨kb, HKB⟩ : ∃ y, Hid (wr.heap.size = y) := ⟨_, rfl⟩
        obtain ⟨ob, HOB⟩ : ∃ y, Hid (kb + 1 = y) := ⟨_, rfl⟩
        rw [HWX.out, HKB.out, HOB.out] at HM
        have kc : (convert 35 35 (.slice (some ⟨wr.heap.size, 0, none⟩) 1 1)).run Tryz.prog (wr.alloc (.cells #[.int .u8 97] 5)) = .ok (.slice (some ⟨wr.heap.size, 0, none⟩) 1 1) (wr.alloc (.cells #[.int .u8 97] 5 (1, 2))) := conv_lit wr _ rfl #[.int .u8 97] 1 1
        by_cases h46 : (z : Int) = 4 ∨ (z : Int) = 6
        · have q46 : ((z : Int) == 4) = true ∨ (((z : Int) == 4) = false ∧ ((z : Int) == 6) = true) := by
            rcases h46 with e | e
            · exact .inl (by simp [e])
            · exact .inr ⟨by simp [e], by simp [e]⟩
          have HT4 := hid (HM.out.t.more (N' := 592996 + 4002 * (z + 1)) (by omega))
          clear h46
          rcases q46 with q4 | ⟨q4, q6⟩
          all_goals
            go_wp2_with fail
            rw [HWX.out]
            go_roundw
            case rel => exact ⟨z + 1, F, G, by go_num, by omega, by omega, HT4⟩
            case measure => simp [intOf]; omega
        have q4 : ((z : Int) == 4) = false := by
          simp
          omega
        have q6 : ((z : Int) == 6) = false := by
          simp
          omega
        clear h46
        have kt := onTableA_ _ pa _ (z : Int) false (some ⟨kb, 0, none⟩) none none 1 1 0 0 0 0 [97] [] [] _ HM.out.t.a (by omega) HM.out.oi
        obtain ⟨s0, s1, s2, s3, s4⟩ := HM.out.cs
        go_wp2_with fail
        rw [HWX.out, HKB.out, HOB.out]
        refine kt.mono ?_
        rintro e w5 ⟨rfl, st⟩
        obtain ⟨F', ht⟩ := HM.out.step st (by omega)
        have H5 := hid ht
        clear kt st ht s0 s1 s2 s3 s4
        have kt := onOverA_ _ pa _ (z : Int) false (some ⟨kb, 0, none⟩) none none 1 1 0 0 0 0 [97] [] [] _ H5.out.t.a (by omega) H5.out.oi
        obtain ⟨s0, s1, s2, s3, s4⟩ := H5.out.cs
        go_wp2_with fail
        refine kt.mono ?_
        rintro e w6 ⟨rfl, st⟩
        obtain ⟨F', ht⟩ := H5.out.step st (by omega)
        have H6 := hid ht
        clear kt st ht s0 s1 s2 s3 s4
        have kt := onTableA_ _ pb _ (z : Int) false (some ⟨kb, 0, none⟩) none none 1 1 0 0 0 0 [97] [] [] _ H6.out.swap.t.a (by omega) H6.out.swap.oi
        obtain ⟨s0, s1, s2, s3, s4⟩ := H6.out.cs
        go_wp2_with fail
        refine kt.mono ?_
        rintro e w7 ⟨rfl, st⟩
        obtain ⟨F', ht⟩ := H6.out.swap.step st (by omega)
        have H7 := hid ht.swap
        clear kt st ht s0 s1 s2 s3 s4
        have kt := onOverA_ _ pb _ (z : Int) false (some ⟨kb, 0, none⟩) none none 1 1 0 0 0 0 [97] [] [] _ H7.out.swap.t.a (by omega) H7.out.swap.oi
        obtain ⟨s0, s1, s2, s3, s4⟩ := H7.out.cs
        go_wp2_with fail
        refine kt.mono ?_
        rintro e w8 ⟨rfl, st⟩
        obtain ⟨F', ht⟩ := H7.out.swap.step st (by omega)
        have H8 := hid ht.swap
        clear kt st ht s0 s1 s2 s3 s4
        have HT8 := hid (H8.out.t.more (N' := 592996 + 4002 * (z + 1)) (by omega))
        clear H5 H6 H7 H8
        go_wp2_with fail
        go_roundw
        case rel => exact ⟨z + 1, _, _, by go_num, by omega, by omega, HT8⟩
        case measure => simp [intOf]; omega
    by_cases h3 : j < 300
    case neg =>
      have i1 : (j : Int) < n := by omega
      have i3 : ¬ (j : Int) < 300 := by omega
      go_wp2_with fail
      go_loopw [3, 9, 10, 11] (fun u3 i u10 u11 wr => ∃ (z : Nat) (F G : Nat → Prop), i = .int .i64 z ∧ 2 ≤ z ∧ z ≤ 11 ∧ Hid (Tt w wr pa pb F G (592996 + 4002 * z))) (fun _ i _ _ _ => 11 - (intOf i).toNat)
      case atStart => exact ⟨2, F, G, rfl, by omega, by omega, HR.out.more (by omega)⟩
      case round =>
        clear HR
        obtain ⟨z, F, G, rfl, hz1, hz2, HR⟩ := hrel
        by_cases hz : (z : Int) < 11
        case neg =>
          have HB := hid HR.out.bel
          go_wp2_with fail
          go_ret
          exact ⟨rfl, HB.out⟩
        have HM := hid (Tk.made (z : Int) HR.out)
        obtain ⟨wx, HWX⟩ : ∃ y, Hid ((wr.alloc (.cells #[.int .u8 97] 5 (1, 2))).alloc (.cells #[.int .i64 z, .bool false, .slice (some ⟨wr.heap.size, 0, none⟩) 1 1, .slice none 0 0, .slice none 0 0] 38) = y) := ⟨_, rfl⟩
        obtain ⟨kb, HKB⟩ : ∃ y, Hid (wr.heap.size = y) := ⟨_, rfl⟩
        obtain ⟨ob, HOB⟩ : ∃ y, Hid (kb + 1 = y) := ⟨_, rfl⟩
        rw [HWX.out, HKB.out, HOB.out] at HM
        have kc : (convert 35 35 (.slice (some ⟨wr.heap.size, 0, none⟩) 1 1)).run Tryz.prog (wr.alloc (.cells #[.int .u8 97] 5)) = .ok (.slice (some ⟨wr.heap.size, 0, none⟩) 1 1) (wr.alloc (.cells #[.int .u8 97] 5 (1, 2))) := conv_lit wr _ rfl #[.int .u8 97] 1 1
        by_cases h46 : (z : Int) = 4 ∨ (z : Int) = 6
        · have q46 : ((z : Int) == 4) = true ∨ (((z : Int) == 4) = false ∧ ((z : Int) == 6) = true) := by
            rcases h46 with e | e
            · exact .inl (by simp [e])
            · exact .inr ⟨by simp [e], by simp [e]⟩
          have HT4 := hid (HM.out.t.more (N' := 592996 + 4002 * (z + 1)) (by omega))
          clear h46
          rcases q46 with q4 | ⟨q4, q6⟩
          all_goals
            go_wp2_with fail
            rw [HWX.out]
            go_roundw
            case rel => exact ⟨z + 1, F, G, by go_num, by omega, by omega, HT4⟩
            case measure => simp [intOf]; omega
        have q4 : ((z : Int) == 4) = false := by
          simp
          omega
        have q6 : ((z : Int) == 6) = false := by
          simp
          omega
        clear h46
        have kt := onTableA_ _ pa _ (z : Int) false (some ⟨kb, 0, none⟩) none none 1 1 0 0 0 0 [97] [] [] _ HM.out.t.a (by omega) HM.out.oi
        obtain ⟨s0, s1, s2, s3, s4⟩ := HM.out.cs
        go_wp2_with fail
        rw [HWX.out, HKB.out, HOB.out]
        refine kt.mono ?_
        rintro e w5 ⟨rfl, st⟩
        obtain ⟨F', ht⟩ := HM.out.step st (by omega)
        have H5 := hid ht
        clear kt st ht s0 s1 s2 s3 s4
        have kt := onOverA_ _ pa _ (z : Int) false (some ⟨kb, 0, none⟩) none none 1 1 0 0 0 0 [97] [] [] _ H5.out.t.a (by omega) H5.out.oi
        obtain ⟨s0, s1, s2, s3, s4⟩ := H5.out.cs
        go_wp2_with fail
        refine kt.mono ?_
        rintro e w6 ⟨rfl, st⟩
        obtain ⟨F', ht⟩ := H5.out.step st (by omega)
        have H6 := hid ht
        clear kt st ht s0 s1 s2 s3 s4
        have kt := onTableA_ _ pb _ (z : Int) false (some ⟨kb, 0, none⟩) none none 1 1 0 0 0 0 [97] [] [] _ H6.out.swap.t.a (by omega) H6.out.swap.oi
        obtain ⟨s0, s1, s2, s3, s4⟩ := H6.out.cs
        go_wp2_with fail
        refine kt.mono ?_
        rintro e w7 ⟨rfl, st⟩
        obtain ⟨F', ht⟩ := H6.out.swap.step st (by omega)
        have H7 := hid ht.swap
        clear kt st ht s0 s1 s2 s3 s4
        have kt := onOverA_ _ pb _ (z : Int) false (some ⟨kb, 0, none⟩) none none 1 1 0 0 0 0 [97] [] [] _ H7.out.swap.t.a (by omega) H7.out.swap.oi
        obtain ⟨s0, s1, s2, s3, s4⟩ := H7.out.cs
        go_wp2_with fail
        refine kt.mono ?_
        rintro e w8 ⟨rfl, st⟩
        obtain ⟨F', ht⟩ := H7.out.swap.step st (by omega)
        have H8 := hid ht.swap
        clear kt st ht s0 s1 s2 s3 s4
        have HT8 := hid (H8.out.t.more (N' := 592996 + 4002 * (z + 1)) (by omega))
        clear H5 H6 H7 H8
        go_wp2_with fail
        go_roundw
        case rel => exact ⟨z + 1, _, _, by go_num, by omega, by omega, HT8⟩
        case measure => simp [intOf]; omega
    have i1 : (j : Int) < n := by omega
    have i3 : (j : Int) < 300 := by omega
    have HJN : Hid (2001 * j ≤ 690000 ∧ 2001 * j + 2000 ≤ 690000) := by show _ ∧ _; omega
    obtain ⟨q, off, rfl, hops⟩ : ∃ q off, a = some ⟨q, off, none⟩ ∧ OpAt w q (off + j * 5) (O j) := by
      rcases HO.out with h0 | ⟨q, off, e, hh⟩
      · omega
      · exact ⟨q, off, e, hh j hlt⟩
    have HOP := hid hops
    obtain ⟨x, HX⟩ : ∃ x, Hid (O j = x) := ⟨_, rfl⟩
    rw [HX.out] at HOP
    obtain ⟨kd, sec, ka, kn, kc, va, vn, vc, sa, sn, sc, k, v, l⟩ := x
    have HCE : Hid (∀ wx, Below w.heap.size w wx → wx.cell? ⟨q, off + j * 5, none⟩ = some (.int .i64 kd) ∧ wx.cell? ⟨q, off + j * 5 + 1, none⟩ = some (.bool sec) ∧ wx.cell? ⟨q, off + j * 5 + 2, none⟩ = some (.slice ka kn kc) ∧ wx.cell? ⟨q, off + j * 5 + 3, none⟩ = some (.slice va vn vc) ∧ wx.cell? ⟨q, off + j * 5 + 4, none⟩ = some (.slice sa sn sc)) := fun wx hb => ⟨(hb.cell (World.block_lt_of_cell? w _ HOP.out.c0)).trans HOP.out.c0, (hb.cell (World.block_lt_of_cell? w _ HOP.out.c1)).trans HOP.out.c1, (hb.cell (World.block_lt_of_cell? w _ HOP.out.c2)).trans HOP.out.c2, (hb.cell (World.block_lt_of_cell? w _ HOP.out.c3)).trans HOP.out.c3, (hb.cell (World.block_lt_of_cell? w _ HOP.out.c4)).trans HOP.out.c4⟩
    have ks := oshort_ (fun y => y < w.heap.size) kd sec ka va sa kn kc vn vc sn sc l wr (HOP.out.vl.below HR.out.bel) (Nat.le_trans HOP.out.vk.nc HOP.out.vk.cm) (Nat.le_trans HOP.out.vv.nc HOP.out.vv.cm) HOP.out.ln
    clear hops
    obtain ⟨s, HS⟩ : ∃ s, Hid ((decide (kn ≤ 2000) && decide (vn ≤ 2000) && shortS l) = s) := ⟨_, rfl⟩
    rw [HS.out] at ks
    obtain ⟨e0, e1, e2, e3, e4⟩ := HCE.out _ HR.out.bel
    cases sec
    case false =>
      go_wp2_with fail
      refine ks.mono ?_
      rintro e w5 ⟨rfl, hb5⟩
      have HT5 := hid (HR.out.on hb5)
      clear ks hb5 e0 e1 e2 e3 e4
      cases s
      · go_wp2_with fail
        go_roundw
        case rel => exact ⟨j + 1, F, G, by omega, by go_num, by omega, HT5.out.more (by omega)⟩
        case measure => simp [intOf]; omega
      · have HOI := hid (HOP.out.oi HS.out)
        obtain ⟨e0, e1, e2, e3, e4⟩ := HCE.out _ HT5.out.bel
        have kt := onTableA_ F pa (2001 * j) kd false ka va sa kn kc vn vc sn sc k v l w5 HT5.out.a HJN.out.1 (HOI.out.on HT5.out.bel HT5.out.fa)
        go_wp2_with fail
        refine kt.mono ?_
        rintro e w6 ⟨rfl, st⟩
        obtain ⟨F', ht⟩ := HT5.out.step st (by omega)
        have HT6 := hid ht
        clear kt st ht e0 e1 e2 e3 e4
        obtain ⟨e0, e1, e2, e3, e4⟩ := HCE.out _ HT6.out.bel
        have ko := onOverA_ F' pa (2001 * j + 2000) kd false ka va sa kn kc vn vc sn sc k v l w6 HT6.out.a HJN.out.2 (HOI.out.on HT6.out.bel HT6.out.fa)
        go_wp2_with fail
        refine ko.mono ?_
        rintro e w7 ⟨rfl, st⟩
        obtain ⟨F2, ht⟩ := HT6.out.step st (by omega)
        have HT7 := hid ht
        clear ko st ht e0 e1 e2 e3 e4
        go_wp2_with fail
        go_roundw
        case rel => exact ⟨j + 1, F2, G, by omega, by go_num, by omega, HT7.out.more (by omega)⟩
        case measure => simp [intOf]; omega
    case true =>
      go_wp2_with fail
      refine ks.mono ?_
      rintro e w5 ⟨rfl, hb5⟩
      have HT5 := hid (HR.out.on hb5)
      clear ks hb5 e0 e1 e2 e3 e4
      cases s
      · go_wp2_with fail
        go_roundw
        case rel => exact ⟨j + 1, F, G, by omega, by go_num, by omega, HT5.out.more (by omega)⟩
        case measure => simp [intOf]; omega
      · have HOI := hid (HOP.out.oi HS.out)
        obtain ⟨e0, e1, e2, e3, e4⟩ := HCE.out _ HT5.out.bel
        have kt := onTableA_ G pb (2001 * j) kd true ka va sa kn kc vn vc sn sc k v l w5 HT5.out.swap.a HJN.out.1 (HOI.out.on HT5.out.bel HT5.out.swap.fa)
        go_wp2_with fail
        refine kt.mono ?_
        rintro e w6 ⟨rfl, st⟩
        obtain ⟨F', ht⟩ := HT5.out.swap.step st (by omega)
        have HT6 := hid ht
        clear kt st ht e0 e1 e2 e3 e4
        obtain ⟨e0, e1, e2, e3, e4⟩ := HCE.out _ HT6.out.bel
        have ko := onOverA_ F' pb (2001 * j + 2000) kd true ka va sa kn kc vn vc sn sc k v l w6 HT6.out.a HJN.out.2 (HOI.out.on HT6.out.bel HT6.out.fa)
        go_wp2_with fail
        refine ko.mono ?_
        rintro e w7 ⟨rfl, st⟩
        obtain ⟨F2, ht⟩ := HT6.out.step st (by omega)
        have HT7 := hid ht
        clear ko st ht e0 e1 e2 e3 e4
        go_wp2_with fail
        go_roundw
        case rel => exact ⟨j + 1, F, F2, by omega, by go_num, by omega, HT7.out.swap.more (by omega)⟩
        case measure => simp [intOf]; omega
end Go.Proofs.YteeapmcpbmjpmaaGreat
