import Derived.Test.YthjfgdldclhbhaaRJ
namespace Go.Proofs.Ythjfgdldclhbhaa
set_option maxRecDepth 100000
open Go.RowKit Go.Shelf
set_option linter.unusedVariables false

theorem step_appB {ops : Array Oper} {o : Oper} {a : Act} {w : World} {K : Act → World → Prop} {Q : Exit → Act → World → Prop} {E : Prop} (hgd : o.guard = none) (s x : Operand)
    (ho : o.op = .call { callee := .builtin .append, args := #[s, x], argTypes := #[61, 61] }) (B : Nat) (v : Value) (I : List It) (y : It) (gb : Nat)
    (hs : a.eval s = v) (hown : w.ownsRow B 94 2 v I.length (pcs I)) (hx : a.eval x = .slice (some ⟨gb, 0, none⟩) 1 1) (hc0 : w.cell? ⟨gb, 0, none⟩ = some (.int .i64 y.S)) (hc1 : w.cell? ⟨gb, 1, none⟩ = some (.slice (some ⟨y.g, 0, none⟩) 512 y.c)) (hI : I.length ≤ 1000000) (hB : B ≤ w.heap.size)
    (h : ∀ v' w', Hid (w'.ownsRow B 94 2 v' (I ++ [y]).length (pcs (I ++ [y]))) → Hid (w.grownBy w' v.ownBlock) → K (a.put o.dst v') w') :
    if Region.wanted o (yielded ops a.tmps) = true then Oper.wp Try.prog o a w K Q else E := by
  have hw : Region.wanted o (yielded ops a.tmps) = true := by simp [Region.wanted, hgd]
  rw [if_pos hw]
  obtain ⟨i, hi, hz0, hz1, hz2⟩ := info_parts info94
  refine wp_append_lies _ s x 61 ho B 94 i _ 2 32 Try.underlying61 hi hz0 hz1 hz2 rfl (by decide) v I.length (pcs I) hs hown ⟨gb, 0, none⟩ 1 1 [.int .i64 y.S, .slice (some ⟨y.g, 0, none⟩) 512 y.c] hx rfl ?_ ?_ (by decide) (by unfold maxLen; omega) (by omega) hB _ rfl ?_
  · intro j u hj
    match j, hj with
    | 0, hj => simp at hj; subst hj; exact hc0
    | 1, hj => simp at hj; subst hj; exact hc1
  · intro u hu
    simp at hu
    rcases hu with rfl | rfl <;> rfl
  · intro g cap w' h1 h2 h3 h4
    refine h _ w' ?_ h2
    show World.ownsRow _ _ _ _ _ _ _
    rw [pcs_app]
    simpa [pcs] using h1
theorem pl_end {w wr w4 w5 : World} {v v' : Value} {P : List (Nat × List Int)} {J : List It} {i gz cz : Nat} {zs : List Int} (h : Pl wr w.heap.size v P J) (Bw : Below w.heap.size w wr) (g4 : Below wr.heap.size wr w4) (o4 : w4.ownsRow wr.heap.size 5 1 (.slice (some ⟨gz, 0, none⟩) 512 cz) 512 (cells zs)) (hz : ∀ z ∈ zs, 0 ≤ z ∧ z ≤ 255)
    (G5 : (w4.alloc (.cells #[.int .i64 i, .slice (some ⟨gz, 0, none⟩) 512 cz] 94)).grownBy w5 v.ownBlock) (o5 : w5.ownsRow w.heap.size 94 2 v' (J ++ [(⟨i, gz, cz, zs⟩ : It)]).length (pcs (J ++ [(⟨i, gz, cz, zs⟩ : It)]))) :
    Pl w5 w.heap.size v' (P ++ [(i, zs)]) (J ++ [(⟨i, gz, cz, zs⟩ : It)]) ∧ Below w.heap.size w w5 := by
  have BA : Below w4.heap.size w4 (w4.alloc (.cells #[.int .i64 i, .slice (some ⟨gz, 0, none⟩) 512 cz] 94)) := (Below.refl _ _).alloc (Nat.le_refl _) _
  have g5 := bel_bel g4 g4.size BA
  obtain ⟨a', c', e', zb, zc1, zc2, _⟩ := own_form o4 hz
  obtain ⟨rfl, -, rfl⟩ : some (⟨gz, 0, none⟩ : Addr) = a' ∧ 512 = 512 ∧ cz = c' := by simpa using e'
  obtain ⟨curz, hgz⟩ := own_ty o4 (g := gz) rfl
  have hgz1 : wr.heap.size ≤ gz := (o4.lt gz rfl).1
  replace zb := zb.below BA
  have hgz2 := (BA.block gz (Array.getElem?_eq_some_iff.1 hgz).1).trans hgz
  have oW := own_at' h.own (fun q hq => g5.block q (h.own.lt q hq).2)
  have Bw2 := bel_bel Bw Bw.size g5
  have sw := Bw.size
  generalize w4.alloc (.cells #[.int .i64 i, .slice (some ⟨gz, 0, none⟩) 512 cz] 94) = W at *
  have ne94 : ∀ {b : Nat} {c : Array Value} {t : TypeId}, W.heap[b]? = some (.cells c t (0, 0)) → t ≠ 94 → w5.heap[b]? = W.heap[b]? := fun hb ht => G5.block _ (Array.getElem?_eq_some_iff.1 hb).1 (fun q => by
    obtain ⟨c, hc⟩ := own_ty oW q.symm
    rw [hb] at hc
    simp at hc
    exact ht hc.2)
  refine ⟨⟨o5, fun x hx => ?_, by rw [h.ip, List.map_append]; rfl⟩, bel_own Bw2 oW G5⟩
  rcases List.mem_append.1 hx with hx | hx
  · obtain ⟨h1, ⟨c, h2⟩, h3⟩ := h.it x hx
    have hl := (Array.getElem?_eq_some_iff.1 h2).1
    have hW := (g5.block _ hl).trans h2
    have := ne94 hW (by decide)
    exact ⟨(h1.at (g5.block _ hl)).at this, ⟨c, this.trans hW⟩, h3⟩
  · rw [List.mem_singleton] at hx
    subst hx
    have := ne94 hgz2 (by decide)
    exact ⟨zb.at this, ⟨curz, this.trans hgz2⟩, by show w.heap.size ≤ gz; omega, zc1, zc2⟩
set_option maxHeartbeats 4000000 in
/-- What pends, in new memory. -/
theorem rpending_ (e : Nat) (s : St) (N : Nat → Prop) (gl : Nat) (cur : Array Value) (pa : Option Addr) (pc : Nat) (I : List It) (fa : Option Addr) (fc : Nat) (fs : List (Int × Int)) (w : World) (h : Rk w e s N gl cur pa pc I fa fc fs) (hp : s.P.length ≤ 1000000) :
    Calls Try.prog 42 #[.pointer (some ⟨e, 0, none⟩)] w fun en w' => (∃ v J, en = .returned v ∧ Pl w' w.heap.size v s.P J) ∧ Below w.heap.size w w' := by
  have HR := hid h
  have HIP := hid h.ip
  have hIl : I.length ≤ 1000000 := by have := congrArg List.length h.ip; rw [List.length_map] at this; omega
  have c2 := h.c2
  clear h
  go_enter Try.func42, Try.ntmps42
  go_wp2_with fail
  go_loopw [3, 4] (fun u i wr => ∃ (j : Nat) (J : List It), j ≤ I.length ∧ i = .int .i64 j ∧ Pl wr w.heap.size u (s.P.take j) J ∧ Below w.heap.size w wr) (fun _ i _ => I.length - (intOf i).toNat)
  case atStart => exact ⟨0, [], Nat.zero_le _, rfl, ⟨World.ownsRow_nil _ _ _ _, fun x hx => by simp at hx, rfl⟩, Below.refl _ _⟩
  case round =>
    clear c2
    obtain ⟨j, J, hj, rfl, hPl, hb⟩ := hrel
    rename_i u3 _
    have R1 := HR.out.below hb
    have c2 := R1.c2
    by_cases hlt : j < I.length
    · have hjI : (j : Int) < (I.length : Int) := by omega
      obtain ⟨x, HX⟩ : ∃ x, Hid (I[j]? = some x) := ⟨I[j]'hlt, by show _ = _; simp [hlt]⟩
      obtain ⟨gp, rfl, hpp, hpm, d0, d1⟩ := R1.cellI HX.out
      have hit := (R1.it x (List.mem_of_getElem? HX.out)).2.1
      have HTK : Hid (s.P.take (j + 1) = s.P.take j ++ [(x.S, x.Z)]) := by
        show _ = _
        rw [List.take_add_one, HIP.out, List.getElem?_map, HX.out]
        rfl
      have kb : ∀ wx : World, wx.heap = wr.heap → Calls Try.prog 20 #[.slice (some ⟨x.g, 0, none⟩) 512 x.c] wx fun en w' => ∃ v, en = .returned v ∧ w'.ownsRow wx.heap.size 5 1 v 512 (cells x.Z) ∧ Below wx.heap.size wx w' := fun wx hw => refBytes (some ⟨x.g, 0, none⟩) 512 x.c x.Z wx (hit.heap hw) (by omega)
      have HZ := hid hit.2.1
      have HPL := hid hPl
      have HB := hid hb
      have hlt2 := R1.lt
      have hltp := World.block_lt_of_cell? wr _ d0
      have hJl : J.length ≤ 1000000 := by have := congrArg List.length hPl.ip; rw [List.length_map, List.length_take] at this; omega
      clear hPl hb R1 hit
      obtain ⟨xS, xg, xc, xZ⟩ := x
      simp only at *
      go_wp2_with fail
      go_region_law (first
        | (go_simp; go_at_call 20; refine (kb _ (by rfl)).mono ?_; rintro en w4 ⟨v4, rfl, o4, g4⟩; obtain ⟨gz, cz, rfl, _, _, _, _, _⟩ := own_head o4 (by decide); have O4 := hid o4; have G4 : Hid (Below wr.heap.size wr w4) := (⟨g4.os, g4.tape, g4.output, g4.size, g4.block⟩ : Below wr.heap.size wr w4); have u1 := (G4.out.cell (p := ⟨e, 2, none⟩) hlt2).trans c2; have u2 := (G4.out.cell (p := ⟨gp, j * 2, none⟩) hltp).trans d0; have u3' := (G4.out.cell (p := ⟨gp, j * 2 + 1, none⟩) hltp).trans d1; clear o4 g4)
        | (refine step_appB rfl (.tmp 14) (.tmp 33) rfl w.heap.size u3 J ⟨xS, gz, cz, xZ⟩ w4.heap.size rfl (by exact own_at' HPL.out.own (fun q hq => (bel_bel G4.out G4.out.size ((Below.refl w4.heap.size w4).alloc (Nat.le_refl _) _)).block q (HPL.out.own.lt q hq).2)) rfl (by exact (cells2_new w4 _ _ _).1) (by exact (cells2_new w4 _ _ _).2) (by omega) (by exact (bel_bel HB.out HB.out.size (bel_bel G4.out G4.out.size ((Below.refl w4.heap.size w4).alloc (Nat.le_refl _) _))).size) ?_; intro v5 w5 o5 G5))
      all_goals
        have EN := pl_end HPL.out HB.out G4.out O4.out HZ.out G5.out o5.out
        have HPN := hid EN.1
        have HBN := hid EN.2
        clear EN u1 u2 u3' kb c2 d0 d1
        go_wp2_with fail
        go_roundw
        case rel => exact ⟨j + 1, _, by omega, by go_num, by rw [HTK.out]; exact HPN.out, HBN.out⟩
        case measure => simp [intOf]; omega
    · have hjI : ¬ (j : Int) < (I.length : Int) := by omega
      rw [List.take_of_length_le (by rw [HIP.out, List.length_map]; omega)] at hPl
      have HPL := hid hPl
      have HB := hid hb
      clear hPl hb R1
      go_wp2_with fail
      go_ret
      first | exact ⟨⟨_, _, rfl, HPL.out⟩, HB.out⟩ | exact ⟨⟨_, rfl, _, HPL.out⟩, HB.out⟩ | exact ⟨⟨_, HPL.out⟩, HB.out⟩
end Go.Proofs.Ythjfgdldclhbhaa
