import Derived.Test.YthjfgdldclhbhaaRA
namespace Go.Proofs.Ythjfgdldclhbhaa
set_option maxRecDepth 100000
open Go.RowKit Go.Shelf
set_option linter.unusedVariables false

/-- The document's device, one claim more. -/
theorem rclaim_ (e : Nat) (s : St) (N : Nat → Prop) (gl : Nat) (cur : Array Value) (pa : Option Addr) (pc : Nat) (I : List It) (fa : Option Addr) (fc : Nat) (fs : List (Int × Int)) (w : World) (h : Rk w e s N gl cur pa pc I fa fc fs) (hk : s.k ≤ 1000000) :
    Calls Try.prog 45 #[.pointer (some ⟨e, 0, none⟩)] w fun en w' => en = .returned (.int .i64 ((s.k + 1 : Nat) : Int)) ∧ Rk w' e { s with k := s.k + 1 } N gl cur pa pc I fa fc fs ∧ w.grownBy w' (some e) := by
  have c6 := h.c6
  have f6 := h.fz 6
  have H6 := hid (h.s6 (s.k + 1))
  have d6 := H6.out.c6
  have HG := hid (grown_set (grown_refl w (some e)) 6 (.int .i64 ((s.k + 1 : Nat) : Int)))
  rw [show ((s.k + 1 : Nat) : Int) = (s.k : Int) + 1 by omega] at *
  clear h
  go_enter Try.func45, Try.ntmps45
  go_wp2_with fail
  go_ret
  exact ⟨rfl, H6.out, HG.out⟩
set_option maxHeartbeats 4000000 in
/-- What the next operation meets. -/
theorem rmeets_ (e : Nat) (s : St) (N : Nat → Prop) (gl : Nat) (cur : Array Value) (pa : Option Addr) (pc : Nat) (I : List It) (fa : Option Addr) (fc : Nat) (fs : List (Int × Int)) (w : World) (h : Rk w e s N gl cur pa pc I fa fc fs) (hc : s.c ≤ 1000000) :
    Calls Try.prog 64 #[.pointer (some ⟨e, 0, none⟩)] w fun en w' => en = .returned (.int .i64 (opE s)) ∧ Rk w' e (opS s) N gl cur pa pc I fa fc fs ∧ w.grownBy w' (some e) := by
  have c3 := h.c3
  cases hon : s.on with
  | false =>
    rw [opE_off hon, opS_off hon]
    rw [hon] at c3
    have H := hid h
    clear h
    go_enter Try.func64, Try.ntmps64
    go_wp2_with fail
    go_ret
    exact ⟨rfl, H.out, grown_refl _ _⟩
  | true =>
    rw [opE_on hon, h.fF]
    rw [hon] at c3
    have c5 := h.c5
    have f5 := h.fz 5
    have H1 := h.s5 (s.c + 1)
    have HG1 := grown_set (grown_refl w (some e)) 5 (.int .i64 ((s.c + 1 : Nat) : Int))
    rw [show ((s.c + 1 : Nat) : Int) = (s.c : Int) + 1 by omega] at H1 HG1
    have HR := hid H1
    have HG := hid HG1
    have HOS : Hid (opS s = { s with c := s.c + 1, on := decide (lookF fs ((s.c : Int) + 1) ≠ 1) }) := by
      show _ = _
      unfold opS
      rw [if_pos hon, h.fF]
    have hfl := h.fl
    have HFK := hid h.fk
    clear h H1 HG1
    go_enter Try.func64, Try.ntmps64
    go_wp2_with fail
    generalize hW : w.setCell ⟨e, 5, none⟩ (.int .i64 ((s.c : Int) + 1)) = w1 at *
    clear hW c3 c5 f5
    go_loopw [3] (fun i wr => ∃ j : Nat, j ≤ fs.length ∧ i = .int .i64 j ∧ Drawn w1 wr ∧ ∀ k, k < j → (fs.getD k (0, 0)).1 ≠ (s.c : Int) + 1) (fun i _ => fs.length - (intOf i).toNat)
    case atStart => exact ⟨0, Nat.zero_le _, rfl, ⟨rfl, rfl, rfl, rfl⟩, fun k hk => by omega⟩
    case round =>
      obtain ⟨j, hj, rfl, hd, hno⟩ := hrel
      have R1 := HR.out.below hd.below
      have c4 := R1.c4
      have c5 : wr.cell? ⟨e, 5, none⟩ = some (.int .i64 ((s.c : Int) + 1)) := R1.c5
      have HD := hid hd
      have HNO := hid hno
      by_cases hlt : j < fs.length
      · have hjI : (j : Int) < (fs.length : Int) := by omega
        obtain ⟨gf, rfl, q1, q2, x0, x1⟩ := R1.fcell hlt
        have hk12 := HFK.out _ (fget_mem hlt)
        have HHIT := hid (lookF_hit fs j ((s.c : Int) + 1) hlt hno)
        have f3 := R1.fz 3
        have c3 : wr.cell? ⟨e, 3, none⟩ = some (.bool true) := by rw [← hon]; exact R1.c3
        have HR1 := hid R1
        have HJ : Hid ((fs.getD j (0, 0)).1 ≠ (s.c : Int) + 1 → ∀ k, k < j + 1 → (fs.getD k (0, 0)).1 ≠ (s.c : Int) + 1) := fun h k hk => by
          by_cases q : k = j
          · rw [q]; exact h
          · exact hno k (by omega)
        generalize fs.getD j (0, 0) = f at *
        obtain ⟨A, K⟩ := f
        simp only at *
        clear hd hno R1 hlt
        by_cases hA : A = (s.c : Int) + 1
        · have ta : (A == (s.c : Int) + 1) = true := by simpa using hA
          have HL := hid (HHIT.out hA)
          rcases hk12 with rfl | rfl
          · have HS3 := hid (HR1.out.s3 false)
            have HG3 := hid (grown_set (grown_refl wr (some e)) 3 (.bool false))
            go_wp2_with fail
            go_quiet (fail)
            go_wp2_with fail
            go_ret
            refine ⟨by rw [HL.out]; rfl, ?_, ?_⟩
            · rw [HOS.out, HL.out]
              exact HS3.out.keep (fun _ _ _ => rfl) (fun _ h _ => h)
            · exact ⟨HG3.out.os.trans (HD.out.os.trans HG.out.os), HG3.out.tape.trans (HD.out.tape.trans HG.out.tape), HG3.out.output.trans (HD.out.output.trans HG.out.output), Nat.le_trans HG.out.size (Nat.le_trans (Nat.le_of_eq (by rw [HD.out.heap])) HG3.out.size), fun b hb hn => (HG3.out.block b (by have := HG.out.size; rw [HD.out.heap]; omega) hn).trans ((congrArg (·[b]?) HD.out.heap).trans (HG.out.block b hb hn))⟩
          · go_wp2_with fail
            go_quiet (fail)
            go_wp2_with fail
            go_quiet (fail)
            go_wp2_with fail
            go_ret
            refine ⟨by rw [HL.out]; rfl, ?_, ?_⟩
            · rw [HOS.out, HL.out]
              have hq : Rk wr e { s with c := s.c + 1, on := true } N gl cur pa pc I (some ⟨gf, 0, none⟩) fc fs := by rw [← hon]; exact HR1.out
              exact hq.keep (fun _ _ _ => rfl) (fun _ h _ => h)
            · exact ⟨HD.out.os.trans HG.out.os, HD.out.tape.trans HG.out.tape, HD.out.output.trans HG.out.output, Nat.le_trans HG.out.size (Nat.le_of_eq (by show _ = wr.heap.size; rw [HD.out.heap])), fun b hb hn => (congrArg (·[b]?) HD.out.heap).trans (HG.out.block b hb hn)⟩
        · have ta : (A == (s.c : Int) + 1) = false := by simpa using hA
          go_wp2_with fail
          go_quiet (fail)
          go_wp2_with fail
          go_quiet (fail)
          go_wp2_with fail
          go_roundw
          case rel => exact ⟨j + 1, by omega, by go_num, ⟨HD.out.os, HD.out.tape, HD.out.output, HD.out.heap⟩, HJ.out hA⟩
          case measure => simp [intOf]; omega
      · have hjI : ¬ (j : Int) < (fs.length : Int) := by omega
        have HL := hid (lookF_no fs ((s.c : Int) + 1) (fun k hk => hno k (by omega)))
        have HR1 := hid R1
        clear hd hno R1
        go_wp2_with fail
        go_ret
        refine ⟨by rw [HL.out]; rfl, ?_, ?_⟩
        · rw [HOS.out, HL.out]
          have hq : Rk wr e { s with c := s.c + 1, on := true } N gl cur pa pc I fa fc fs := by rw [← hon]; exact HR1.out
          exact hq
        · exact ⟨HD.out.os.trans HG.out.os, HD.out.tape.trans HG.out.tape, HD.out.output.trans HG.out.output, Nat.le_trans HG.out.size (Nat.le_of_eq (by rw [HD.out.heap])), fun b hb hn => (congrArg (·[b]?) HD.out.heap).trans (HG.out.block b hb hn)⟩
end Go.Proofs.Ythjfgdldclhbhaa
namespace Go.Proofs.Ythjfgdldclhbhaa
set_option maxRecDepth 100000
open Go.RowKit Go.Shelf
set_option linter.unusedVariables false

theorem info25 : (Try.prog.info? 25).map (fun i => (i.zero, i.size, i.bytes)) = some (some (.slice none 0 0), 1, 24) := by kernel_rfl
theorem made_rowS {w : World} {B g n : Nat} (h : w.ownsRow B 25 1 (.slice (some ⟨g, 0, none⟩) n n) n (madeCells (Value.slice none 0 0).cells (n * 1)).toList) : w.heap[g]? = some (.cells (Array.replicate n (.slice none 0 0)) 25 (0, 0)) := by
  obtain ⟨h1, h2⟩ := h
  have e : (madeCells (Value.slice none 0 0).cells (n * 1)).toList = List.replicate n (.slice none 0 0) := by
    simp [madeCells, Value.cells, Nat.mod_one, List.map_const']
  rw [e] at h1 h2
  rcases h2 with ⟨h, _⟩ | ⟨g', cap, cur, e', _, hg, _, _, hs, ht⟩
  · simp at h
  · simp at e'
    obtain ⟨rfl, rfl⟩ := e'
    have hl : cur.toList = List.replicate n (.slice none 0 0) := by
      rw [← ht]
      refine (List.take_of_length_le ?_).symm
      simp
      omega
    rw [hg]
    congr 2
    apply Array.ext'
    rw [hl, Array.toList_replicate]
theorem rnew_no (n : Int) (w : World) (h : n < 32 ∨ 8192 < n) : Calls Try.prog 23 #[.int .i64 n] w fun e w' => e = .returned (.pointer none) ∧ w' = w := by
  by_cases h1 : n < 32
  · clear h
    go_enter Try.func23, Try.ntmps23
    go_wp2_with fail
    go_ret
    exact ⟨rfl, rfl⟩
  · have h2 : 8192 < n := by omega
    clear h
    go_enter Try.func23, Try.ntmps23
    go_wp2_with fail
    go_ret
    exact ⟨rfl, rfl⟩
set_option maxHeartbeats 1000000 in
theorem rnew_ (n : Nat) (w : World) (h1 : 32 ≤ n) (h2 : n ≤ 8192) :
    Calls Try.prog 23 #[.int .i64 n] w fun e w' => ∃ d, e = .returned (.pointer (some ⟨d, 0, none⟩)) ∧ Rd w' d (st0 n) (fun b => w.heap.size ≤ b ∧ b < w'.heap.size) ∧ Below w.heap.size w w' := by
  obtain ⟨i, hi, hz0, hz1, hz2⟩ := info_parts info25
  have e1 : ¬ (n : Int) < 32 := by omega
  have e2 : ¬ (8192 : Int) < n := by omega
  go_enter Try.func23, Try.ntmps23
  go_wp2_with (at_make; refine wpList_make_full _ rfl _ _ 85 rfl w.heap.size 25 i (.slice none 0 0) 1 Try.underlying85 hi hz0 hz1 .i64 .i64 _ _ n rfl rfl (by first | rfl | omega) (by first | rfl | omega) (by rw [hz2]; omega) (by unfold maxLen; omega) (Nat.le_refl _) ?_; intro w1 hown hg1; have HR := hid (made_rowS hown); have HG1 := hid (below_of_grown hg1); clear hown hg1)
  go_ret
  have BA : Below w1.heap.size w1 (w1.alloc (.cells #[.int .i64 n, .slice (some ⟨w.heap.size, 0, none⟩) n n, .slice none 0 0, .bool true, .slice none 0 0, .int .i64 0, .int .i64 0] 87)) := (Below.refl _ _).alloc (Nat.le_refl _) _
  have hr1 := (Array.getElem?_eq_some_iff.1 HR.out).1
  have sA := World.size_alloc w1 (.cells #[.int .i64 n, .slice (some ⟨w.heap.size, 0, none⟩) n n, .slice none 0 0, .bool true, .slice none 0 0, .int .i64 0, .int .i64 0] 87)
  have hs := HG1.out.size
  refine ⟨_, rfl, ⟨w.heap.size, Array.replicate n (.slice none 0 0), none, 0, [], none, 0, [], ⟨heap_alloc_new w1 _, (BA.block _ hr1).trans HR.out, by simp [st0], fun i hi => ⟨.slice none 0 0, by rw [Array.getElem?_replicate, if_pos (by exact hi)], .inl ⟨rfl, rfl⟩⟩, World.ownsRow_nil _ _ _ _, fun x hx => by simp at hx, rfl, World.ownsRow_nil _ _ _ _, by decide, fun f hf => by simp at hf, rfl, ⟨by omega, by omega⟩, ⟨by omega, by omega⟩, fun q hq => by simp [Value.ownBlock] at hq, fun q hq => by simp [Value.ownBlock] at hq, h1, h2⟩⟩, bel_bel HG1.out HG1.out.size BA⟩
end Go.Proofs.Ythjfgdldclhbhaa
