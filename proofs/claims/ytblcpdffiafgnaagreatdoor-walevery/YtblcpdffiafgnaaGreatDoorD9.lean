import Derived.Test.YtblcpdffiafgnaaGreatDoorD7
import Derived.Deep.AppendLies
import Derived.Lib.Walk
namespace Go.Proofs.YtblcpdffiafgnaaGreatDoor
open Go.RowKit Go.Shelf
set_option linter.unusedVariables false
set_option maxRecDepth 100000

theorem Bs.fr {Q : Nat → Prop} {w w' : World} {a : Option Addr} {n : Nat} {zs : List Int} (h : Bs w a n zs) (hf : Fr Q w w') (hq : ∀ ad, a = some ad → 0 < n → ¬ Q ad.block) : Bs w' a n zs := by
  refine ⟨h.1, h.2.1, ?_⟩
  rcases h.2.2 with h0 | ⟨b, off, rfl, hc⟩
  · exact .inl h0
  · by_cases hn : n = 0
    · exact .inl hn
    · refine .inr ⟨b, off, rfl, fun i hi => ?_⟩
      have hlt := World.block_lt_of_cell? w _ (hc i hi)
      exact (World.cell?_of_block (w := w) (a := ⟨b, off + i, none⟩) (hf.same b hlt (hq _ rfl (by omega)))).trans (hc i hi)
theorem info94 : (Tryz.prog.info? 95).map (fun i => (i.zero, i.size, i.bytes)) = some (some (.agg #[.int .i64 0, .slice none 0 0]), 2, 32) := by kernel_rfl
theorem info71 : (Tryz.prog.info? 50).map (fun i => (i.zero, i.size, i.bytes)) = some (some (.agg #[.int .i64 0, .int .i64 0]), 2, 16) := by kernel_rfl
theorem grown_past' {w w1 : World} {o : Obj} (hg : (w.alloc o).grownBy w1 (some w.heap.size)) : Below w.heap.size w w1 :=
  ⟨hg.os, hg.tape, hg.output, by have := hg.size; rw [World.size_alloc] at this; omega, fun k hk => (hg.block k (by rw [World.size_alloc]; omega) (fun e => by have := Option.some.inj e; omega)).trans (Below.heap_alloc _ _ _ hk)⟩
set_option maxHeartbeats 400000 in
/-- bytes.Clone of a slice that is not nil. -/
theorem bclone_ (x : Addr) (n c : Nat) (zs : List Int) (w : World) (hb : Bs w (some x) n zs) (hn : n ≤ 4194304) :
    Calls Tryz.prog 58 #[.slice (some x) n c] w fun en w' => ∃ v, en = .returned v ∧ w'.ownsRow w.heap.size 5 1 v n (cells zs) ∧ Below w.heap.size w w' := by
  obtain ⟨i, hi, hz0, hz1, hz2⟩ := info_parts info5
  have heq := Go.Lib.run_eql_slice_nil (P := Tryz.prog) w 27 5 (some x) n c 0 0 Tryz.underlying27
  simp only [Option.isNone] at heq
  go_enter Tryz.func58, Tryz.ntmps58
  go_wp2_with (at_builtin; (refine wpList_append_own _ rfl _ _ 27 rfl w.heap.size 5 i (.int .u8 0) 1 1 Tryz.underlying27 hi hz0 hz1 hz2 rfl (by decide) _ 0 [] rfl (World.ownsRow_made w _ 0 (Nat.le_refl _) (by unfold maxLen; omega) (by simp)) x n c (cells zs) rfl (by rw [cells_length, hb.1, Nat.mul_one]) (hb.src1 (World.grownBy_alloc w _ _)) (cells_one zs) (by unfold maxLen; omega) (by omega) (by simp) ?_); intro v' w1 hown hg hv)
  have hg' : (w.alloc (.cells #[] 5)).grownBy w1 (some w.heap.size) := hg
  go_ret
  refine ⟨_, rfl, by simpa using hown, grown_past' hg'⟩
/-- What a Write answers, and how the device stands behind it. -/
def wrE (s : St) (i : Int) (m : Nat) : Int := if 0 ≤ i ∧ i < s.n then (if m = 512 then opE s else 102) else 101
def wrS (s : St) (i : Int) (z : List Int) : St := if 0 ≤ i ∧ i < s.n ∧ z.length = 512 then (if opE s = 0 then { opS s with P := s.P ++ [(i.toNat, z)] } else opS s) else s
theorem step_app10 {ops : Array Oper} {o : Oper} {a : Act} {w : World} {K : Act → World → Prop} {Q : Exit → Act → World → Prop} {E : Prop} (hgd : o.guard = none) (s x : Operand)
    (ho : o.op = .call { callee := .builtin .append, args := #[s, x], argTypes := #[78, 78] }) (v : Value) (I : List It) (y : It) (gb : Nat)
    (hs : a.eval s = v) (hown : w.ownsRow 0 95 2 v I.length (pcs I)) (hx : a.eval x = .slice (some ⟨gb, 0, none⟩) 1 1) (hc0 : w.cell? ⟨gb, 0, none⟩ = some (.int .i64 y.S)) (hc1 : w.cell? ⟨gb, 1, none⟩ = some (.slice (some ⟨y.g, 0, none⟩) 512 y.c)) (hI : I.length ≤ 1000000)
    (h : ∀ g cap w', Hid (w'.ownsRow 0 95 2 (.slice (some ⟨g, 0, none⟩) (I.length + 1) cap) (I ++ [y]).length (pcs (I ++ [y]))) → Hid (w.grownBy w' v.ownBlock) → Hid (v.ownBlock = some g ∨ g = w.heap.size) → Hid (g < w'.heap.size) → K (a.put o.dst (.slice (some ⟨g, 0, none⟩) (I.length + 1) cap)) w') :
    if Region.wanted o (yielded ops a.tmps) = true then Oper.wp Tryz.prog o a w K Q else E := by
  have hw : Region.wanted o (yielded ops a.tmps) = true := by simp [Region.wanted, hgd]
  rw [if_pos hw]
  obtain ⟨i, hi, hz0, hz1, hz2⟩ := info_parts info94
  refine wp_append_lies _ s x 78 ho 0 95 i _ 2 32 Tryz.underlying78 hi hz0 hz1 hz2 rfl (by decide) v I.length (pcs I) hs hown ⟨gb, 0, none⟩ 1 1 [.int .i64 y.S, .slice (some ⟨y.g, 0, none⟩) 512 y.c] hx rfl ?_ ?_ (by decide) (by unfold maxLen; omega) (by omega) (Nat.zero_le _) _ rfl ?_
  · intro j u hj
    match j, hj with
    | 0, hj => simp at hj; subst hj; exact hc0
    | 1, hj => simp at hj; subst hj; exact hc1
  · intro u hu
    simp at hu
    rcases hu with rfl | rfl <;> rfl
  · intro g cap w' h1 h2 h3 h4
    refine h g cap w' ?_ h2 h3 h4
    show World.ownsRow _ _ _ _ _ _ _
    rw [pcs_app]
    simpa [pcs] using h1
theorem Dk.past {W w3 : World} {d : Nat} {s : St} {Q : Nat → Prop} {gl : Nat} {pa : Option Addr} {pn pc go : Nat} {a : Option Addr} {m cp : Nat} {fs : List (Int × Int)} {I : List It} (K : Dk W d s Q gl pa pn pc go a m cp fs I) (G : W.grownBy w3 (Value.slice pa pn pc).ownBlock) :
    Dm w3 d (.slice (some ⟨gl, 0, Option.none⟩) (512 * s.n) (512 * s.n)) (.slice pa pn pc) (fnv go) s.c s.on s.k :=
  K.dm.at (G.block d K.dm.lt (fun e => by
    obtain ⟨cur, hc⟩ := own_ty K.own e.symm
    have := K.dm
    unfold Dm at this
    rw [this] at hc
    simp at hc))
theorem cells2_new (w : World) (u v : Value) (t : TypeId) : (w.alloc (.cells #[u, v] t)).cell? ⟨w.heap.size, 0, none⟩ = some u ∧ (w.alloc (.cells #[u, v] t)).cell? ⟨w.heap.size, 1, none⟩ = some v := by
  have h : (w.alloc (.cells #[u, v] t)).heap[w.heap.size]? = some (.cells #[u, v] t (0, 0)) := heap_alloc_new w _
  exact ⟨(cell_of_row _ _ 0 _ t (0, 0) h).trans rfl, (cell_of_row _ _ 1 _ t (0, 0) h).trans rfl⟩
theorem Bs.heap {w w' : World} {a : Option Addr} {n : Nat} {zs : List Int} (h : Bs w a n zs) (e : w'.heap = w.heap) : Bs w' a n zs := by
  refine ⟨h.1, h.2.1, ?_⟩
  rcases h.2.2 with h0 | ⟨b, off, rfl, hc⟩
  · exact .inl h0
  · refine .inr ⟨b, off, rfl, fun i hi => ?_⟩
    have h2 : w'.heap[b]? = w.heap[b]? := by rw [e]
    exact (World.cell?_of_block (w := w) (a := ⟨b, off + i, none⟩) h2).trans (hc i hi)
theorem wr_end {w w1 w2 w3 : World} {d : Nat} {s : St} {Q : Nat → Prop} {gl : Nat} {pa : Option Addr} {pc go : Nat} {a : Option Addr} {m cp : Nat} {fs : List (Int × Int)} {I : List It} {i gz cz g3 cap3 : Nat} {zs : List Int}
    (h1 : Dk w1 d s Q gl pa I.length pc go a m cp fs I) (F1 : Fr Q w w1) (g2 : Below w1.heap.size w1 w2) (o2 : w2.ownsRow w1.heap.size 5 1 (.slice (some ⟨gz, 0, none⟩) 512 cz) 512 (cells zs)) (hz : ∀ z ∈ zs, 0 ≤ z ∧ z ≤ 255) (hi : i < s.n)
    (G3 : (w2.alloc (.cells #[.int .i64 i, .slice (some ⟨gz, 0, none⟩) 512 cz] 95)).grownBy w3 (Value.slice pa I.length pc).ownBlock) (o3 : w3.ownsRow 0 95 2 (.slice (some ⟨g3, 0, none⟩) (I.length + 1) cap3) (I ++ [(⟨i, gz, cz, zs⟩ : It)]).length (pcs (I ++ [(⟨i, gz, cz, zs⟩ : It)])))
    (L3 : (Value.slice pa I.length pc).ownBlock = some g3 ∨ g3 = (w2.alloc (.cells #[.int .i64 i, .slice (some ⟨gz, 0, none⟩) 512 cz] 95)).heap.size) (T3 : g3 < w3.heap.size) :
    Dev (w3.setCell ⟨d, 1, none⟩ (.slice (some ⟨g3, 0, none⟩) (I.length + 1) cap3)) d { s with P := s.P ++ [(i, zs)] } (fun b => Q b ∨ (w.heap.size ≤ b ∧ b < (w3.setCell ⟨d, 1, none⟩ (.slice (some ⟨g3, 0, none⟩) (I.length + 1) cap3)).heap.size)) ∧ Fr Q w (w3.setCell ⟨d, 1, none⟩ (.slice (some ⟨g3, 0, none⟩) (I.length + 1) cap3)) := by
  have BA : Below w2.heap.size w2 (w2.alloc (.cells #[.int .i64 i, .slice (some ⟨gz, 0, none⟩) 512 cz] 95)) := (Below.refl _ _).alloc (Nat.le_refl _) _
  have K2 := (h1.below g2).below BA
  obtain ⟨a', c', e', zb, zc1, zc2, _⟩ := own_form o2 hz
  obtain ⟨rfl, -, rfl⟩ : some (⟨gz, 0, none⟩ : Addr) = a' ∧ 512 = 512 ∧ cz = c' := by simpa using e'
  obtain ⟨curz, hgz⟩ := own_ty o2 (g := gz) rfl
  have hgz1 : w1.heap.size ≤ gz := (o2.lt gz rfl).1
  replace zb := zb.below BA
  have hgz2 := (BA.block gz (Array.getElem?_eq_some_iff.1 hgz).1).trans hgz
  have hsA : w2.heap.size < (w2.alloc (.cells #[.int .i64 i, .slice (some ⟨gz, 0, none⟩) 512 cz] 95)).heap.size := by rw [World.size_alloc]; omega
  have hgz3 : gz < w2.heap.size := (Array.getElem?_eq_some_iff.1 hgz).1
  have hglt := h1.lt gl h1.ql
  have s12 := g2.size
  have F2 : Fr Q w (w2.alloc (.cells #[.int .i64 i, .slice (some ⟨gz, 0, none⟩) 512 cz] 95)) := (F1.below g2).below BA
  generalize w2.alloc (.cells #[.int .i64 i, .slice (some ⟨gz, 0, none⟩) 512 cz] 95) = W at *
  have sW := G3.size
  have sF := F2.size
  have s1 := F1.size
  have ne94 : ∀ {g : Nat} {cur : Array Value} {t : TypeId}, W.heap[g]? = some (.cells cur t (0, 0)) → t ≠ 95 → w3.heap[g]? = W.heap[g]? := fun hg ht => G3.block _ (Array.getElem?_eq_some_iff.1 hg).1 (fun e => by
    obtain ⟨cur, hc⟩ := own_ty K2.own e.symm
    rw [hg] at hc
    simp at hc
    exact ht hc.2)
  have hsz : (w3.setCell ⟨d, 1, none⟩ (.slice (some ⟨g3, 0, none⟩) (I.length + 1) cap3)).heap.size = w3.heap.size := by simp [World.setCell]
  have D3 := K2.dm.at (ne94 K2.dm (by decide))
  have both : ∀ {g : Nat} {cur : Array Value} {t : TypeId}, W.heap[g]? = some (.cells cur t (0, 0)) → t ≠ 95 → t ≠ 80 → (w3.setCell ⟨d, 1, none⟩ (.slice (some ⟨g3, 0, none⟩) (I.length + 1) cap3)).heap[g]? = W.heap[g]? := fun hg h1 h2 => (Below.heap_setCell _ _ _ _ (fun e => K2.nd hg h2 e)).trans (ne94 hg h1)
  have hg3d : g3 ≠ d := fun e => by
    obtain ⟨cur, hc⟩ := own_ty o3 (g := g3) rfl
    unfold Dm at D3
    rw [e, D3] at hc
    simp at hc
  have fin : Fr Q w (w3.setCell ⟨d, 1, none⟩ (.slice (some ⟨g3, 0, none⟩) (I.length + 1) cap3)) := (F2.trans (.ofN G3 (fun g e => K2.qp g e))).trans (.of (grown_set (grown_refl w3 (some d)) 1 _) K2.qd)
  refine ⟨⟨gl, _, _, _, go, a, m, cp, fs, I ++ [⟨i, gz, cz, zs⟩], ⟨D3.s1 _, K2.ls.at (both K2.ls.1 (by decide) (by decide)), ?_, by simp, fun x hx => ?_, ?_, K2.ft.at (both K2.ft.bx (by decide) (by decide)) (fun ad ha => ?_), .inl K2.qd, .inl K2.ql, fun g e => ?_, .inl K2.qo, fun ad e => .inl (K2.qf ad e), fun b hb => ?_, K2.n0⟩⟩, fin⟩
  · exact own_at' o3 (fun g e => Below.heap_setCell _ _ _ _ (fun e2 => hg3d (by
      have : g3 = g := by simpa [Value.ownBlock] using e
      rw [this]
      exact e2)))
  · rcases List.mem_append.1 hx with hx | hx
    · obtain ⟨cur, hc⟩ := (K2.it x hx).ty
      exact ((K2.it x hx).at (both hc (by decide) (by decide))).weak (fun _ h => .inl h)
    · obtain rfl : x = ⟨i, gz, cz, zs⟩ := by simpa using hx
      refine ⟨hi, zb.at (both hgz2 (by decide) (by decide)), ⟨curz, (both hgz2 (by decide) (by decide)).trans hgz2⟩, ?_, zc1, zc2, .inr ?_⟩
      · show gz ≠ gl
        omega
      · show w.heap.size ≤ gz ∧ gz < _
        rw [hsz]
        omega
  · show s.P ++ [(i, zs)] = _
    rw [K2.ip, List.map_append]
    rfl
  · obtain ⟨cur, hc⟩ := K2.ft.rw ad ha
    exact both hc (by decide) (by decide)
  · have hg : g3 = g := by simpa [Value.ownBlock] using e
    subst hg
    rcases L3 with L3 | L3
    · exact .inl (K2.qp _ L3)
    · right
      rw [hsz]
      omega
  · rcases hb with hb | hb
    · rw [hsz]
      have := K2.lt b hb
      omega
    · exact hb.2
set_option maxHeartbeats 4000000 in
theorem write_ (d : Nat) (s : St) (Q : Nat → Prop) (i : Int) (ab : Option Addr) (nb cb : Nat) (zs : List Int) (w : World) (h : Dev w d s Q) (hc : s.c ≤ 1000000) (hp : s.P.length ≤ 999999) (hb : Bs w ab nb zs) (hq : ∀ ad, ab = some ad → 0 < nb → ¬ Q ad.block) :
    Calls Tryz.prog 85 #[.pointer (some ⟨d, 0, none⟩), .int .i64 i, .slice ab nb cb] w fun e w' => e = .returned (.int .i64 (wrE s i nb)) ∧ Dev w' d (wrS s i zs) (fun b => Q b ∨ (w.heap.size ≤ b ∧ b < w'.heap.size)) ∧ Fr Q w w' := by
  obtain ⟨gl, pa, pn, pc, go, a, m, cp, fs, I, h⟩ := h
  have hI : I.length ≤ 999999 := by have := hp; rw [h.ip, List.length_map] at this; exact this
  have hpn : pn = I.length := h.hpn
  subst hpn
  have HD := hid h
  have HB := hid hb
  have HQ := hid hq
  have hzl := hb.1
  have kh := has_ d gl s.n (512 * s.n) (.slice pa I.length pc) (fnv go) s.c s.on s.k i w h.dm h.n0.2
  have same : ∀ {s' : St}, s' = s → ∀ w', Below w.heap.size w w' → Dev w' d s' (fun b => Q b ∨ (w.heap.size ≤ b ∧ b < w'.heap.size)) := fun e w' hw => by
    subst e
    have h2 := HD.out.below hw
    exact ⟨gl, pa, _, pc, go, a, m, cp, fs, I, ⟨h2.dm, h2.ls, h2.own, h2.hpn, fun x hx => (h2.it x hx).weak (fun _ h => .inl h), h2.ip, h2.ft, .inl h2.qd, .inl h2.ql, fun g e => .inl (h2.qp g e), .inl h2.qo, fun ad e => .inl (h2.qf ad e), fun b hb => by
      rcases hb with hb | hb
      · exact h2.lt b hb
      · exact hb.2, h2.n0⟩⟩
  by_cases hin : 0 ≤ i ∧ i < (s.n : Int)
  case neg =>
    have HE : Hid (wrE s i nb = 101) := by show _ = _; unfold wrE; rw [if_neg hin]
    have HS : Hid (wrS s i zs = s) := by show _ = _; unfold wrS; rw [if_neg (fun h => hin ⟨h.1, h.2.1⟩)]
    rw [show decide (0 ≤ i ∧ i < (s.n : Int)) = false from decide_eq_false hin] at kh
    rw [HE.out]
    have HSM := hid (same HS.out w (Below.refl _ _))
    clear h hb hq hin same
    go_enter Tryz.func85, Tryz.ntmps85
    go_wp2_with (go_at_call 81; refine kh.mono ?_; rintro e w' ⟨rfl, hw⟩; obtain rfl := hw.symm; clear hw)
    go_ret
    exact ⟨rfl, HSM.out, .refl _ _⟩
  case pos =>
    rw [show decide (0 ≤ i ∧ i < (s.n : Int)) = true from decide_eq_true hin] at kh
    by_cases hnb : nb = 512
    case neg =>
      have HE : Hid (wrE s i nb = 102) := by show _ = _; unfold wrE; rw [if_pos hin, if_neg hnb]
      have HS : Hid (wrS s i zs = s) := by show _ = _; unfold wrS; rw [if_neg (fun h => hnb (by have := h.2.2; omega))]
      have e1 : ((nb : Int) != 512) = true := by rw [bne_iff_ne]; omega
      rw [HE.out]
      have HSM := hid (same HS.out w (Below.refl _ _))
      clear h hb hq hin same hnb
      go_enter Tryz.func85, Tryz.ntmps85
      go_wp2_with (go_at_call 81; refine kh.mono ?_; rintro e w' ⟨rfl, hw⟩; obtain rfl := hw.symm; clear hw)
      go_ret
      exact ⟨rfl, HSM.out, .refl _ _⟩
    case pos =>
      subst hnb
      obtain ⟨E, HE0⟩ : ∃ E, Hid (opE s = E) := ⟨_, rfl⟩
      have HE : Hid (wrE s i 512 = E) := by show _ = _; unfold wrE; rw [if_pos hin, if_pos rfl]; exact HE0.out
      have ko := opr_ d s Q gl pa I.length pc go a m cp fs I w h hc
      rw [HE0.out] at ko
      rw [HE.out]
      obtain ⟨ad, rfl⟩ : ∃ ad, ab = some ad := by
        rcases hb.2.2 with h0 | ⟨b, off, e, _⟩
        · omega
        · exact ⟨_, e⟩
      by_cases hE : E = 0
      case neg =>
        have HS : Hid (wrS s i zs = opS s) := by show _ = _; unfold wrS; rw [if_pos ⟨hin.1, hin.2, hzl⟩, HE0.out, if_neg hE]
        have e1 : (E != 0) = true := by rw [bne_iff_ne]; exact hE
        clear h hb hq hin same hE
        go_enter Tryz.func85, Tryz.ntmps85
        go_wp2_with (first | (go_at_call 81; refine kh.mono ?_; rintro e w' ⟨rfl, hw⟩; obtain rfl := hw.symm; clear hw) | (go_at_call 82; refine ko.mono ?_; rintro e w1 ⟨rfl, h1, g1⟩))
        go_ret
        refine ⟨rfl, ?_, .of g1 h1.qd⟩
        rw [HS.out]
        exact ⟨gl, pa, _, pc, go, a, m, cp, fs, I, ⟨h1.dm, h1.ls, h1.own, h1.hpn, fun x hx => (h1.it x hx).weak (fun _ h => .inl h), h1.ip, h1.ft, .inl h1.qd, .inl h1.ql, fun g e => .inl (h1.qp g e), .inl h1.qo, fun ad e => .inl (h1.qf ad e), fun b hb => by
          rcases hb with hb | hb
          · exact h1.lt b hb
          · exact hb.2, h1.n0⟩⟩
      case pos =>
        subst hE
        have HS : Hid (wrS s i zs = { opS s with P := s.P ++ [(i.toNat, zs)] }) := by show _ = _; unfold wrS; rw [if_pos ⟨hin.1, hin.2, hzl⟩, HE0.out, if_pos rfl]
        obtain ⟨i, rfl⟩ := Int.eq_ofNat_of_zero_le hin.1
        have HIN : Hid (i < s.n) := by have := hin.2; show _ < _; omega
        clear h hb hq hin same
        go_enter Tryz.func85, Tryz.ntmps85
        go_wp2_with (first | (go_at_call 81; refine kh.mono ?_; rintro e w' ⟨rfl, hw⟩; obtain rfl := hw.symm; clear hw) | (go_at_call 82; refine ko.mono ?_; rintro e w1 ⟨rfl, h1, g1⟩))
        have m1 := h1.dm.c1
        have hlt := h1.lt d h1.qd
        have H1 := hid h1
        have G1 := hid (Fr.of (Q := Q) g1 h1.qd)
        have B1 := hid (HB.out.fr G1.out HQ.out)
        have kb : ∀ wx : World, wx.heap = w1.heap → Calls Tryz.prog 58 #[.slice (some ad) 512 cb] wx fun en w' => ∃ v, en = .returned v ∧ w'.ownsRow wx.heap.size 5 1 v 512 (cells zs) ∧ Below wx.heap.size wx w' := fun wx hw => bclone_ ad 512 cb zs wx (B1.out.heap hw) (by decide)
        have HZ := hid HB.out.2.1
        have HSN := hid (opS_n s)
        clear g1 h1 ko kh
        go_region_law (first
          | (go_simp; go_at_call 58; refine (kb _ (by rfl)).mono ?_; rintro e w2 ⟨v2, rfl, o2, g2⟩; obtain ⟨gz, cz, rfl, _, _, _, _, _⟩ := own_head o2 (by decide); have O2 := hid o2; have u1 := (g2.cell (p := ⟨d, 1, none⟩) hlt).trans m1; have G2 : Hid (Below w1.heap.size w1 w2) := (⟨g2.os, g2.tape, g2.output, g2.size, g2.block⟩ : Below w1.heap.size w1 w2); have K2 := hid ((H1.out.below G2.out).below ((Below.refl w2.heap.size w2).alloc (Nat.le_refl _) (.cells #[.int .i64 i, .slice (some ⟨gz, 0, none⟩) 512 cz] 95))); have u2 := K2.out.dm.c1; clear o2 g2)
          | (refine step_app10 rfl (.tmp 24) (.tmp 29) rfl (.slice pa I.length pc) I ⟨i, gz, cz, zs⟩ w2.heap.size rfl (by exact K2.out.own) rfl (by exact (cells2_new w2 _ _ _).1) (by exact (cells2_new w2 _ _ _).2) (by omega) ?_; intro g3 cap3 w3 o3 G3 L3 T3; have D3 := hid (K2.out.past G3.out); have y1 := D3.out.c1; have yf := D3.out.fz 1))
        all_goals
          have HZN : Hid (i < (opS s).n) := by rw [HSN.out]; exact HIN.out
          have EN := wr_end H1.out G1.out G2.out O2.out HZ.out HZN.out G3.out o3.out L3.out T3.out
          rw [show (opS s).P = s.P from opS_P s] at EN
          have HEN := hid EN
          clear EN D3 y1 yf u1 u2 m1 K2 kb
          go_wp2_with fail
          go_ret
          refine ⟨rfl, ?_, HEN.out.2⟩
          rw [HS.out]
          exact HEN.out.1
end Go.Proofs.YtblcpdffiafgnaaGreatDoor
namespace Go.Proofs.YtblcpdffiafgnaaGreatDoor
open Go.RowKit Go.Shelf
set_option linter.unusedVariables false
set_option maxRecDepth 100000

/-- A sector of zeros. -/
def zer : List Int := List.replicate 512 0
theorem zer_sec : Sc5 zer := by
  constructor
  · exact List.length_replicate
  · intro x hx
    obtain rfl := List.eq_of_mem_replicate hx
    omega
/-- A new device. -/
def st0 (n : Nat) : St := ⟨n, fun _ => zer, [], fun _ => 0, 0, true, 0⟩
theorem flat_zer : ∀ n, flat (fun _ => zer) n = List.replicate (512 * n) 0
  | 0 => rfl
  | n + 1 => by
    rw [flat, flat_zer n]
    unfold zer
    rw [List.replicate_append_replicate]
    congr 1
theorem made_row {w : World} {B g n : Nat} (h : w.ownsRow B 5 1 (.slice (some ⟨g, 0, none⟩) n n) n (madeCells (Value.int .u8 0).cells (n * 1)).toList) : w.heap[g]? = some (.cells (cells (List.replicate n 0)).toArray 5 (0, 0)) := by
  obtain ⟨h1, h2⟩ := h
  have e : (madeCells (Value.int .u8 0).cells (n * 1)).toList = cells (List.replicate n 0) := by
    simp [madeCells, cells, Value.cells, Nat.mod_one, List.map_const']
  rw [e] at h1 h2
  rcases h2 with ⟨h, _⟩ | ⟨g', cap, cur, e', _, hg, _, _, hs, ht⟩
  · simp at h
  · simp at e'
    obtain ⟨rfl, rfl⟩ := e'
    have hl : cur.toList = cells (List.replicate n 0) := by
      rw [← ht]
      refine (List.take_of_length_le ?_).symm
      simp
      omega
    rw [hg, ← hl]
theorem new_no (n : Int) (w : World) (h : n < 32 ∨ 8192 < n) : Calls Tryz.prog 32 #[.int .i64 n] w fun e w' => e = .returned (.pointer none) ∧ w' = w := by
  by_cases h1 : n < 32
  · clear h
    go_enter Tryz.func32, Tryz.ntmps32
    go_wp2_with fail
    go_ret
    exact ⟨rfl, rfl⟩
  · have h2 : 8192 < n := by omega
    clear h
    go_enter Tryz.func32, Tryz.ntmps32
    go_wp2_with fail
    go_ret
    exact ⟨rfl, rfl⟩
set_option maxHeartbeats 1000000 in
theorem new_ (n : Nat) (w : World) (h1 : 32 ≤ n) (h2 : n ≤ 8192) :
    Calls Tryz.prog 32 #[.int .i64 n] w fun e w' => ∃ d, e = .returned (.pointer (some ⟨d, 0, none⟩)) ∧ Dev w' d (st0 n) (fun b => w.heap.size ≤ b ∧ b < w'.heap.size) ∧ Below w.heap.size w w' := by
  obtain ⟨i, hi, hz0, hz1, hz2⟩ := info_parts info5
  have e1 : ¬ (n : Int) < 32 := by omega
  have e2 : ¬ (8192 : Int) < n := by omega
  have e3 : (n : Int) * 512 = ((512 * n : Nat) : Int) := by omega
  obtain ⟨N, HN⟩ : ∃ N, Hid (512 * n = N) := ⟨_, rfl⟩
  have hN1 : N ≤ 4194304 := by have := HN.out; omega
  rw [HN.out] at e3
  have hnn : (n : Int) ≤ 8192 := by omega
  go_enter Tryz.func32, Tryz.ntmps32
  go_wp2_with (at_make; refine wpList_make_full _ rfl _ _ 27 rfl w.heap.size 5 i (.int .u8 0) 1 Tryz.underlying27 hi hz0 hz1 .i64 .i64 _ _ N rfl rfl (by first | rfl | omega) (by first | rfl | omega) (by rw [hz2]; omega) (by unfold maxLen; omega) (Nat.le_refl _) ?_; intro w1 hown hg1; have HR := hid (made_row hown); have HG1 := hid (below_of_grown hg1); clear hown hg1)
  have DN : Dm (w1.alloc (.cells #[.slice (some ⟨w.heap.size, 0, none⟩) N N, .slice none 0 0, .nilFunc, .int .i64 0, .bool false, .int .i64 0] 80)) w1.heap.size (.slice (some ⟨w.heap.size, 0, none⟩) N N) (.slice none 0 0) .nilFunc 0 false 0 := Dm.new w1
  refine (start_ w1.heap.size _ _ _ _ _ _ _ DN).mono ?_
  rintro e w2 ⟨rfl, hM, hB, hG⟩
  have BA : Below w1.heap.size w1 (w1.alloc (.cells #[.slice (some ⟨w.heap.size, 0, none⟩) N N, .slice none 0 0, .nilFunc, .int .i64 0, .bool false, .int .i64 0] 80)) := (Below.refl _ _).alloc (Nat.le_refl _) _
  have hr1 := (Array.getElem?_eq_some_iff.1 HR.out).1
  have sA := World.size_alloc w1 (.cells #[.slice (some ⟨w.heap.size, 0, none⟩) N N, .slice none 0 0, .nilFunc, .int .i64 0, .bool false, .int .i64 0] 80)
  have hr2 := (BA.block _ hr1).trans HR.out
  generalize w1.alloc (.cells #[.slice (some ⟨w.heap.size, 0, none⟩) N N, .slice none 0 0, .nilFunc, .int .i64 0, .bool false, .int .i64 0] 80) = W at *
  have hr3 := (hG.block w.heap.size (by omega) (fun e => by have := Option.some.inj e; omega)).trans hr2
  have sG := hG.size
  have sw := HG1.out.size
  have hB2 := (Array.getElem?_eq_some_iff.1 hB).1
  have hft : Ft w2 W.heap.size (fun _ => 0) none 0 0 [] := ⟨hB, fun ad ha => (by cases ha), ⟨rfl, .inl rfl⟩, List.Pairwise.nil, by omega, rfl⟩
  have hL : Ls w2 w.heap.size n (fun _ => zer) := ⟨by rw [flat_zer, HN.out]; exact hr3, fun _ _ => zer_sec⟩
  have hM' := hM
  rw [← HN.out] at hM'
  have KD : Hid (Dev w2 w1.heap.size (st0 n) (fun b => w.heap.size ≤ b ∧ b < w2.heap.size)) :=
    ⟨w.heap.size, none, 0, 0, W.heap.size, none, 0, 0, [], [], ⟨hM', hL, World.ownsRow_nil _ _ _ _, rfl, fun x hx => by simp at hx, rfl, hft, ⟨by omega, by omega⟩, ⟨by omega, by omega⟩, fun g e => by simp [Value.ownBlock] at e, ⟨by omega, by omega⟩, fun ad e => (by cases e), fun b hb => hb.2, ⟨h1, h2⟩⟩⟩
  have BF : Hid (Below w.heap.size w w2) := (⟨hG.os.trans (BA.os.trans HG1.out.os), hG.tape.trans (BA.tape.trans HG1.out.tape), hG.output.trans (BA.output.trans HG1.out.output), by omega, fun b hb => (hG.block b (by omega) (fun e => by have := Option.some.inj e; omega)).trans ((BA.block b (by omega)).trans (HG1.out.block b hb))⟩ : Below w.heap.size w w2)
  clear hM hM' hB hG hft hL hr1 hr2 hr3 BA DN HR HG1
  go_wp2_with fail
  go_ret
  exact ⟨_, rfl, KD.out, BF.out⟩
/-- Bytes as sectors. -/
def secs (zs : List Int) (i : Nat) : List Int := (zs.drop (512 * i)).take 512
theorem flat_secs (zs : List Int) : ∀ n, 512 * n ≤ zs.length → flat (secs zs) n = zs.take (512 * n)
  | 0, _ => by simp [flat]
  | n + 1, h => by
    rw [flat, flat_secs zs n (by omega)]
    unfold secs
    rw [show 512 * (n + 1) = 512 * n + 512 from by omega, List.take_add]
theorem secs_sec {zs : List Int} {n : Nat} (h : 512 * n ≤ zs.length) (hb : ∀ z ∈ zs, 0 ≤ z ∧ z ≤ 255) (i : Nat) (hi : i < n) : Sc5 (secs zs i) := by
  unfold secs
  refine ⟨by rw [List.length_take, List.length_drop]; omega, fun x hx => hb x (List.mem_of_mem_drop (List.mem_of_mem_take hx))⟩
theorem wpList_cpA {ops : Array Oper} {rest : List Oper} {o : Oper} {act : Act} {w : World} {Q : Exit → Act → World → Prop} (hgd : o.guard = none) (d s : Operand)
    (ho : o.op = .call { callee := .builtin .copy, args := #[d, s], argTypes := #[27, 27] }) (gl n N sc : Nat) (x : Addr) (S : Nat → List Int) (zs : List Int) (hN : 512 * n = N)
    (hd : act.eval d = .slice (some ⟨gl, 0, none⟩) N N) (hs : act.eval s = .slice (some x) N sc) (hL : Ls w gl n S) (hz : Bs w (some x) N zs)
    (h : ∀ w', Hid (Ls w' gl n (secs zs)) → Hid (w.grownBy w' (some gl)) → wpList Tryz.prog ops Q rest (act.put o.dst (goInt N)) w') : wpList Tryz.prog ops Q (o :: rest) act w := by
  subst hN
  have hzl : (cells zs).length = 512 * n := by rw [cells_length, hz.1]
  have hl := hL.len
  refine wpList_copy_own hgd d s 27 27 ho 5 Tryz.underlying27 size1 gl 0 (512 * n) (512 * n) x (512 * n) sc hd hs (cells (flat S n)).toArray 5 hL.1 (cells zs) (by rw [hzl]; exact (Nat.min_self _).symm) (hz.src1 (grown_of_below (Below.refl _ _))) (by rw [hzl]; simp [cells_length, hl]) (cells_one zs) ?_
  rw [hzl]
  refine h _ ?_ ?_
  · refine ⟨?_, secs_sec (by rw [hz.1]; exact Nat.le_refl _) hz.2.1⟩
    have e2 : zs.take (512 * n) = zs := List.take_of_length_le (by rw [hz.1]; exact Nat.le_refl _)
    rw [setRow_heap w gl _ _ 5 _ hL.1, flat_secs zs n (by rw [hz.1]; exact Nat.le_refl _), e2]
    have e : ((cells (flat S n)).toArray.toList.take 0 ++ (cells zs ++ (cells (flat S n)).toArray.toList.drop (0 + 512 * n))) = cells zs := by
      simp [cells_length, hl]
    rw [e]
  · exact ⟨rfl, rfl, rfl, by simp [World.setRow], fun b hb hn => setRow_other w gl b _ (fun e => hn (by rw [e]))⟩
theorem durable_ (d : Nat) (s : St) (Q : Nat → Prop) (w : World) (h : Dev w d s Q) :
    Calls Tryz.prog 31 #[.pointer (some ⟨d, 0, none⟩)] w fun e w' => ∃ v, e = .returned v ∧ w'.ownsRow w.heap.size 5 1 v (512 * s.n) (cells (flat s.S s.n)) ∧ Below w.heap.size w w' := by
  obtain ⟨gl, pa, pn, pc, go, a, m, cp, fs, I, h⟩ := h
  have m0 := h.dm.c0
  have kb := bclone_ ⟨gl, 0, none⟩ (512 * s.n) (512 * s.n) (flat s.S s.n) w h.ls.all (by have := h.n0.2; omega)
  obtain ⟨N, HN⟩ : ∃ N, Hid (512 * s.n = N) := ⟨_, rfl⟩
  rw [HN.out] at m0 kb ⊢
  clear h
  go_enter Tryz.func31, Tryz.ntmps31
  go_wp2_with fail
  refine kb.mono ?_
  rintro e w1 ⟨v, rfl, o1, g1⟩
  clear kb
  go_wp2_with fail
  go_ret
  exact ⟨_, rfl, o1, g1⟩
end Go.Proofs.YtblcpdffiafgnaaGreatDoor
