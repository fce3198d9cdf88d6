import Derived.Test.YthjfgdldclhbhaaD7
import Derived.Deep.AppendLies
import Derived.Lib.Walk
namespace Go.Proofs.Ythjfgdldclhbhaa
open Go.RowKit Go.Shelf
set_option linter.unusedVariables false
set_option maxRecDepth 100000

theorem Bs.fr {Q : Nat → Prop} {w w' : World} {a : Option Addr} {n : Nat} {zs : List Int} (h : Bs w a n zs) (hf : Fr Q w w') (hq : ∀ ad, a = some ad → 0 < n → ¬ Q ad.block) : Bs w' a n zs := by
  refine ⟨h.1, h.2.1, ?_⟩
  rcases h.2.2 with h0 | ⟨b, off, rfl, hc⟩
  · exact .inl h0
  · by_cases hn : n = 0
    · exact .inl hn
    · refine .inr ⟨b, off, rfl, fun i hi => ?_⟩
      have hlt := World.block_lt_of_cell? w _ (hc i hi)
      exact (World.cell?_of_block (w := w) (a := ⟨b, off + i, none⟩) (hf.same b hlt (hq _ rfl (by omega)))).trans (hc i hi)
theorem info94 : (Try.prog.info? 94).map (fun i => (i.zero, i.size, i.bytes)) = some (some (.agg #[.int .i64 0, .slice none 0 0]), 2, 32) := by kernel_rfl
theorem info71 : (Try.prog.info? 71).map (fun i => (i.zero, i.size, i.bytes)) = some (some (.agg #[.int .i64 0, .int .i64 0]), 2, 16) := by kernel_rfl
theorem grown_past' {w w1 : World} {o : Obj} (hg : (w.alloc o).grownBy w1 (some w.heap.size)) : Below w.heap.size w w1 :=
  ⟨hg.os, hg.tape, hg.output, by have := hg.size; rw [World.size_alloc] at this; omega, fun k hk => (hg.block k (by rw [World.size_alloc]; omega) (fun e => by have := Option.some.inj e; omega)).trans (Below.heap_alloc _ _ _ hk)⟩
set_option maxHeartbeats 400000 in
/-- bytes.Clone of a slice that is not nil. -/
theorem bclone_ (x : Addr) (n c : Nat) (zs : List Int) (w : World) (hb : Bs w (some x) n zs) (hn : n ≤ 4194304) :
    Calls Try.prog 51 #[.slice (some x) n c] w fun en w' => ∃ v, en = .returned v ∧ w'.ownsRow w.heap.size 5 1 v n (cells zs) ∧ Below w.heap.size w w' := by
  obtain ⟨i, hi, hz0, hz1, hz2⟩ := info_parts info5
  have heq := Go.Lib.run_eql_slice_nil (P := Try.prog) w 25 5 (some x) n c 0 0 Try.underlying25
  simp only [Option.isNone] at heq
  go_enter Try.func51, Try.ntmps51
  go_wp2_with (at_builtin; (refine wpList_append_own _ rfl _ _ 25 rfl w.heap.size 5 i (.int .u8 0) 1 1 Try.underlying25 hi hz0 hz1 hz2 rfl (by decide) _ 0 [] rfl (World.ownsRow_made w _ 0 (Nat.le_refl _) (by unfold maxLen; omega) (by simp)) x n c (cells zs) rfl (by rw [cells_length, hb.1, Nat.mul_one]) (hb.src1 (World.grownBy_alloc w _ _)) (cells_one zs) (by unfold maxLen; omega) (by omega) (by simp) ?_); intro v' w1 hown hg hv)
  have hg' : (w.alloc (.cells #[] 5)).grownBy w1 (some w.heap.size) := hg
  go_ret
  refine ⟨_, rfl, by simpa using hown, grown_past' hg'⟩
/-- What a Write answers, and how the device stands behind it. -/
def wrE (s : St) (i : Int) (m : Nat) : Int := if 0 ≤ i ∧ i < s.n then (if m = 512 then opE s else 102) else 101
def wrS (s : St) (i : Int) (z : List Int) : St := if 0 ≤ i ∧ i < s.n ∧ z.length = 512 then (if opE s = 0 then { opS s with P := s.P ++ [(i.toNat, z)] } else opS s) else s
theorem step_app10 {ops : Array Oper} {o : Oper} {a : Act} {w : World} {K : Act → World → Prop} {Q : Exit → Act → World → Prop} {E : Prop} (hgd : o.guard = none) (s x : Operand)
    (ho : o.op = .call { callee := .builtin .append, args := #[s, x], argTypes := #[61, 61] }) (v : Value) (I : List It) (y : It) (gb : Nat)
    (hs : a.eval s = v) (hown : w.ownsRow 0 94 2 v I.length (pcs I)) (hx : a.eval x = .slice (some ⟨gb, 0, none⟩) 1 1) (hc0 : w.cell? ⟨gb, 0, none⟩ = some (.int .i64 y.S)) (hc1 : w.cell? ⟨gb, 1, none⟩ = some (.slice (some ⟨y.g, 0, none⟩) 512 y.c)) (hI : I.length ≤ 1000000)
    (h : ∀ g cap w', Hid (w'.ownsRow 0 94 2 (.slice (some ⟨g, 0, none⟩) (I.length + 1) cap) (I ++ [y]).length (pcs (I ++ [y]))) → Hid (w.grownBy w' v.ownBlock) → Hid (v.ownBlock = some g ∨ g = w.heap.size) → Hid (g < w'.heap.size) → K (a.put o.dst (.slice (some ⟨g, 0, none⟩) (I.length + 1) cap)) w') :
    if Region.wanted o (yielded ops a.tmps) = true then Oper.wp Try.prog o a w K Q else E := by
  have hw : Region.wanted o (yielded ops a.tmps) = true := by simp [Region.wanted, hgd]
  rw [if_pos hw]
  obtain ⟨i, hi, hz0, hz1, hz2⟩ := info_parts info94
  refine wp_append_lies _ s x 61 ho 0 94 i _ 2 32 Try.underlying61 hi hz0 hz1 hz2 rfl (by decide) v I.length (pcs I) hs hown ⟨gb, 0, none⟩ 1 1 [.int .i64 y.S, .slice (some ⟨y.g, 0, none⟩) 512 y.c] hx rfl ?_ ?_ (by decide) (by unfold maxLen; omega) (by omega) (Nat.zero_le _) _ rfl ?_
  · intro j u hj
    match j, hj with
    | 0, hj => simp at hj; subst hj; exact hc0
    | 1, hj => simp at hj; subst hj; exact hc1
  · intro u hu
    simp at hu
    rcases hu with rfl | rfl <;> rfl
  · intro g cap w' h1 h2 h3 h4
    refine h g cap w' ?_ h2 h3 h4
    show World.ownsRow _ _ _ _ _ _ _
    rw [pcs_app]
    simpa [pcs] using h1
theorem Dk.past {W w3 : World} {d : Nat} {s : St} {Q : Nat → Prop} {gl : Nat} {pa : Option Addr} {pn pc go : Nat} {a : Option Addr} {m cp : Nat} {fs : List (Int × Int)} {I : List It} (K : Dk W d s Q gl pa pn pc go a m cp fs I) (G : W.grownBy w3 (Value.slice pa pn pc).ownBlock) :
    Dm w3 d (.slice (some ⟨gl, 0, Option.none⟩) (512 * s.n) (512 * s.n)) (.slice pa pn pc) (fnv go) s.c s.on s.k :=
  K.dm.at (G.block d K.dm.lt (fun e => by
    obtain ⟨cur, hc⟩ := own_ty K.own e.symm
    have := K.dm
    unfold Dm at this
    rw [this] at hc
    simp at hc))
theorem cells2_new (w : World) (u v : Value) (t : TypeId) : (w.alloc (.cells #[u, v] t)).cell? ⟨w.heap.size, 0, none⟩ = some u ∧ (w.alloc (.cells #[u, v] t)).cell? ⟨w.heap.size, 1, none⟩ = some v := by
  have h : (w.alloc (.cells #[u, v] t)).heap[w.heap.size]? = some (.cells #[u, v] t (0, 0)) := heap_alloc_new w _
  exact ⟨(cell_of_row _ _ 0 _ t (0, 0) h).trans rfl, (cell_of_row _ _ 1 _ t (0, 0) h).trans rfl⟩
theorem Bs.heap {w w' : World} {a : Option Addr} {n : Nat} {zs : List Int} (h : Bs w a n zs) (e : w'.heap = w.heap) : Bs w' a n zs := by
  refine ⟨h.1, h.2.1, ?_⟩
  rcases h.2.2 with h0 | ⟨b, off, rfl, hc⟩
  · exact .inl h0
  · refine .inr ⟨b, off, rfl, fun i hi => ?_⟩
    have h2 : w'.heap[b]? = w.heap[b]? := by rw [e]
    exact (World.cell?_of_block (w := w) (a := ⟨b, off + i, none⟩) h2).trans (hc i hi)
theorem wr_end {w w1 w2 w3 : World} {d : Nat} {s : St} {Q : Nat → Prop} {gl : Nat} {pa : Option Addr} {pc go : Nat} {a : Option Addr} {m cp : Nat} {fs : List (Int × Int)} {I : List It} {i gz cz g3 cap3 : Nat} {zs : List Int}
    (h1 : Dk w1 d s Q gl pa I.length pc go a m cp fs I) (F1 : Fr Q w w1) (g2 : Below w1.heap.size w1 w2) (o2 : w2.ownsRow w1.heap.size 5 1 (.slice (some ⟨gz, 0, none⟩) 512 cz) 512 (cells zs)) (hz : ∀ z ∈ zs, 0 ≤ z ∧ z ≤ 255) (hi : i < s.n)
    (G3 : (w2.alloc (.cells #[.int .i64 i, .slice (some ⟨gz, 0, none⟩) 512 cz] 94)).grownBy w3 (Value.slice pa I.length pc).ownBlock) (o3 : w3.ownsRow 0 94 2 (.slice (some ⟨g3, 0, none⟩) (I.length + 1) cap3) (I ++ [(⟨i, gz, cz, zs⟩ : It)]).length (pcs (I ++ [(⟨i, gz, cz, zs⟩ : It)])))
    (L3 : (Value.slice pa I.length pc).ownBlock = some g3 ∨ g3 = (w2.alloc (.cells #[.int .i64 i, .slice (some ⟨gz, 0, none⟩) 512 cz] 94)).heap.size) (T3 : g3 < w3.heap.size) :
    Dev (w3.setCell ⟨d, 1, none⟩ (.slice (some ⟨g3, 0, none⟩) (I.length + 1) cap3)) d { s with P := s.P ++ [(i, zs)] } (fun b => Q b ∨ (w.heap.size ≤ b ∧ b < (w3.setCell ⟨d, 1, none⟩ (.slice (some ⟨g3, 0, none⟩) (I.length + 1) cap3)).heap.size)) ∧ Fr Q w (w3.setCell ⟨d, 1, none⟩ (.slice (some ⟨g3, 0, none⟩) (I.length + 1) cap3)) := by
  have BA : Below w2.heap.size w2 (w2.alloc (.cells #[.int .i64 i, .slice (some ⟨gz, 0, none⟩) 512 cz] 94)) := (Below.refl _ _).alloc (Nat.le_refl _) _
  have K2 := (h1.below g2).below BA
  obtain ⟨a', c', e', zb, zc1, zc2, _⟩ := own_form o2 hz
  obtain ⟨rfl, -, rfl⟩ : some (⟨gz, 0, none⟩ : Addr) = a' ∧ 512 = 512 ∧ cz = c' := by simpa using e'
  obtain ⟨curz, hgz⟩ := own_ty o2 (g := gz) rfl
  have hgz1 : w1.heap.size ≤ gz := (o2.lt gz rfl).1
  replace zb := zb.below BA
  have hgz2 := (BA.block gz (Array.getElem?_eq_some_iff.1 hgz).1).trans hgz
  have hsA : w2.heap.size < (w2.alloc (.cells #[.int .i64 i, .slice (some ⟨gz, 0, none⟩) 512 cz] 94)).heap.size := by rw [World.size_alloc]; omega
  have hgz3 : gz < w2.heap.size := (Array.getElem?_eq_some_iff.1 hgz).1
  have hglt := h1.lt gl h1.ql
  have s12 := g2.size
  have F2 : Fr Q w (w2.alloc (.cells #[.int .i64 i, .slice (some ⟨gz, 0, none⟩) 512 cz] 94)) := (F1.below g2).below BA
  generalize w2.alloc (.cells #[.int .i64 i, .slice (some ⟨gz, 0, none⟩) 512 cz] 94) = W at *
  have sW := G3.size
  have sF := F2.size
  have s1 := F1.size
  have ne94 : ∀ {g : Nat} {cur : Array Value} {t : TypeId}, W.heap[g]? = some (.cells cur t (0, 0)) → t ≠ 94 → w3.heap[g]? = W.heap[g]? := fun hg ht => G3.block _ (Array.getElem?_eq_some_iff.1 hg).1 (fun e => by
    obtain ⟨cur, hc⟩ := own_ty K2.own e.symm
    rw [hg] at hc
    simp at hc
    exact ht hc.2)
  have hsz : (w3.setCell ⟨d, 1, none⟩ (.slice (some ⟨g3, 0, none⟩) (I.length + 1) cap3)).heap.size = w3.heap.size := by simp [World.setCell]
  have D3 := K2.dm.at (ne94 K2.dm (by decide))
  have both : ∀ {g : Nat} {cur : Array Value} {t : TypeId}, W.heap[g]? = some (.cells cur t (0, 0)) → t ≠ 94 → t ≠ 90 → (w3.setCell ⟨d, 1, none⟩ (.slice (some ⟨g3, 0, none⟩) (I.length + 1) cap3)).heap[g]? = W.heap[g]? := fun hg h1 h2 => (Below.heap_setCell _ _ _ _ (fun e => K2.nd hg h2 e)).trans (ne94 hg h1)
  have hg3d : g3 ≠ d := fun e => by
    obtain ⟨cur, hc⟩ := own_ty o3 (g := g3) rfl
    unfold Dm at D3
    rw [e, D3] at hc
    simp at hc
  have fin : Fr Q w (w3.setCell ⟨d, 1, none⟩ (.slice (some ⟨g3, 0, none⟩) (I.length + 1) cap3)) := (F2.trans (.ofN G3 (fun g e => K2.qp g e))).trans (.of (grown_set (grown_refl w3 (some d)) 1 _) K2.qd)
  refine ⟨⟨gl, _, _, _, go, a, m, cp, fs, I ++ [⟨i, gz, cz, zs⟩], ⟨D3.s1 _, K2.ls.at (both K2.ls.1 (by decide) (by decide)), ?_, by simp, fun x hx => ?_, ?_, K2.ft.at (both K2.ft.bx (by decide) (by decide)) (fun ad ha => ?_), .inl K2.qd, .inl K2.ql, fun g e => ?_, .inl K2.qo, fun ad e => .inl (K2.qf ad e), fun b hb => ?_, K2.n0⟩⟩, fin⟩
  · exact own_at' o3 (fun g e => Below.heap_setCell _ _ _ _ (fun e2 => hg3d (by
      have : g3 = g := by simpa [Value.ownBlock] using e
      rw [this]
      exact e2)))
  · rcases List.mem_append.1 hx with hx | hx
    · obtain ⟨cur, hc⟩ := (K2.it x hx).ty
      exact ((K2.it x hx).at (both hc (by decide) (by decide))).weak (fun _ h => .inl h)
    · obtain rfl : x = ⟨i, gz, cz, zs⟩ := by simpa using hx
      refine ⟨hi, zb.at (both hgz2 (by decide) (by decide)), ⟨curz, (both hgz2 (by decide) (by decide)).trans hgz2⟩, ?_, zc1, zc2, .inr ?_⟩
      · show gz ≠ gl
        omega
      · show w.heap.size ≤ gz ∧ gz < _
        rw [hsz]
        omega
  · show s.P ++ [(i, zs)] = _
    rw [K2.ip, List.map_append]
    rfl
  · obtain ⟨cur, hc⟩ := K2.ft.rw ad ha
    exact both hc (by decide) (by decide)
  · have hg : g3 = g := by simpa [Value.ownBlock] using e
    subst hg
    rcases L3 with L3 | L3
    · exact .inl (K2.qp _ L3)
    · right
      rw [hsz]
      omega
  · rcases hb with hb | hb
    · rw [hsz]
      have := K2.lt b hb
      omega
    · exact hb.2
set_option maxHeartbeats 4000000 in
theorem write_ (d : Nat) (s : St) (Q : Nat → Prop) (i : Int) (ab : Option Addr) (nb cb : Nat) (zs : List Int) (w : World) (h : Dev w d s Q) (hc : s.c ≤ 1000000) (hp : s.P.length ≤ 999999) (hb : Bs w ab nb zs) (hq : ∀ ad, ab = some ad → 0 < nb → ¬ Q ad.block) :
    Calls Try.prog 33 #[.pointer (some ⟨d, 0, none⟩), .int .i64 i, .slice ab nb cb] w fun e w' => e = .returned (.int .i64 (wrE s i nb)) ∧ Dev w' d (wrS s i zs) (fun b => Q b ∨ (w.heap.size ≤ b ∧ b < w'.heap.size)) ∧ Fr Q w w' := by
  obtain ⟨gl, pa, pn, pc, go, a, m, cp, fs, I, h⟩ := h
  have hI : I.length ≤ 999999 := by have := hp; rw [h.ip, List.length_map] at this; exact this
  have hpn : pn = I.length := h.hpn
  subst hpn
  have HD := hid h
  have HB := hid hb
  have HQ := hid hq
  have hzl := hb.1
  have kh := has_ d gl s.n (512 * s.n) (.slice pa I.length pc) (fnv go) s.c s.on s.k i w h.dm h.n0.2
  have same : ∀ {s' : St}, s' = s → ∀ w', Below w.heap.size w w' → Dev w' d s' (fun b => Q b ∨ (w.heap.size ≤ b ∧ b < w'.heap.size)) := fun e w' hw => by
    subst e
    have h2 := HD.out.below hw
    exact ⟨gl, pa, _, pc, go, a, m, cp, fs, I, ⟨h2.dm, h2.ls, h2.own, h2.hpn, fun x hx => (h2.it x hx).weak (fun _ h => .inl h), h2.ip, h2.ft, .inl h2.qd, .inl h2.ql, fun g e => .inl (h2.qp g e), .inl h2.qo, fun ad e => .inl (h2.qf ad e), fun b hb => by
      rcases hb with hb | hb
      · exact h2.lt b hb
      · exact hb.2, h2.n0⟩⟩
  by_cases hin : 0 ≤ i ∧ i < (s.n : Int)
  case neg =>
    have HE : Hid (wrE s i nb = 101) := by show _ = _; unfold wrE; rw [if_neg hin]
    have HS : Hid (wrS s i zs = s) := by show _ = _; unfold wrS; rw [if_neg (fun h => hin ⟨h.1, h.2.1⟩)]
    rw [show decide (0 ≤ i ∧ i < (s.n : Int)) = false from decide_eq_false hin] at kh
    rw [HE.out]
    have HSM := hid (same HS.out w (Below.refl _ _))
    clear h hb hq hin same
    go_enter Try.func33, Try.ntmps33
    go_wp2_with (go_at_call 49; refine kh.mono ?_; rintro e w' ⟨rfl, hw⟩; obtain rfl := hw.symm; clear hw)
    go_ret
    exact ⟨rfl, HSM.out, .refl _ _⟩
  case pos =>
    rw [show decide (0 ≤ i ∧ i < (s.n : Int)) = true from decide_eq_true hin] at kh
    by_cases hnb : nb = 512
    case neg =>
      have HE : Hid (wrE s i nb = 102) := by show _ = _; unfold wrE; rw [if_pos hin, if_neg hnb]
      have HS : Hid (wrS s i zs = s) := by show _ = _; unfold wrS; rw [if_neg (fun h => hnb (by have := h.2.2; omega))]
      have e1 : ((nb : Int) != 512) = true := by rw [bne_iff_ne]; omega
      rw [HE.out]
      have HSM := hid (same HS.out w (Below.refl _ _))
      clear h hb hq hin same hnb
      go_enter Try.func33, Try.ntmps33
      go_wp2_with (go_at_call 49; refine kh.mono ?_; rintro e w' ⟨rfl, hw⟩; obtain rfl := hw.symm; clear hw)
      go_ret
      exact ⟨rfl, HSM.out, .refl _ _⟩
    case pos =>
      subst hnb
      obtain ⟨E, HE0⟩ : ∃ E, Hid (opE s = E) := ⟨_, rfl⟩
      have HE : Hid (wrE s i 512 = E) := by show _ = _; unfold wrE; rw [if_pos hin, if_pos rfl]; exact HE0.out
      have ko := opr_ d s Q gl pa I.length pc go a m cp fs I w h hc
      rw [HE0.out] at ko
      rw [HE.out]
      obtain ⟨ad, rfl⟩ : ∃ ad, ab = some ad := by
        rcases hb.2.2 with h0 | ⟨b, off, e, _⟩
        · omega
        · exact ⟨_, e⟩
      by_cases hE : E = 0
      case neg =>
        have HS : Hid (wrS s i zs = opS s) := by show _ = _; unfold wrS; rw [if_pos ⟨hin.1, hin.2, hzl⟩, HE0.out, if_neg hE]
        have e1 : (E != 0) = true := by rw [bne_iff_ne]; exact hE
        clear h hb hq hin same hE
        go_enter Try.func33, Try.ntmps33
        go_wp2_with (first | (go_at_call 49; refine kh.mono ?_; rintro e w' ⟨rfl, hw⟩; obtain rfl := hw.symm; clear hw) | (go_at_call 50; refine ko.mono ?_; rintro e w1 ⟨rfl, h1, g1⟩))
        go_ret
        refine ⟨rfl, ?_, .of g1 h1.qd⟩
        rw [HS.out]
        exact ⟨gl, pa, _, pc, go, a, m, cp, fs, I, ⟨h1.dm, h1.ls, h1.own, h1.hpn, fun x hx => (h1.it x hx).weak (fun _ h => .inl h), h1.ip, h1.ft, .inl h1.qd, .inl h1.ql, fun g e => .inl (h1.qp g e), .inl h1.qo, fun ad e => .inl (h1.qf ad e), fun b hb => by
          rcases hb with hb | hb
          · exact h1.lt b hb
          · exact hb.2, h1.n0⟩⟩
      case pos =>
        subst hE
        have HS : Hid (wrS s i zs = { opS s with P := s.P ++ [(i.toNat, zs)] }) := by show _ = _; unfold wrS; rw [if_pos ⟨hin.1, hin.2, hzl⟩, HE0.out, if_pos rfl]
        obtain ⟨i, rfl⟩ := Int.eq_ofNat_of_zero_le hin.1
        have HIN : Hid (i < s.n) := by have := hin.2; show _ < _; omega
        clear h hb hq hin same
        go_enter Try.func33, Try.ntmps33
        go_wp2_with (first | (go_at_call 49; refine kh.mono ?_; rintro e w' ⟨rfl, hw⟩; obtain rfl := hw.symm; clear hw) | (go_at_call 50; refine ko.mono ?_; rintro e w1 ⟨rfl, h1, g1⟩))
        have m1 := h1.dm.c1
        have hlt := h1.lt d h1.qd
        have H1 := hid h1
        have G1 := hid (Fr.of (Q := Q) g1 h1.qd)
        have B1 := hid (HB.out.fr G1.out HQ.out)
        have kb : ∀ wx : World, wx.heap = w1.heap → Calls Try.prog 51 #[.slice (some ad) 512 cb] wx fun en w' => ∃ v, en = .returned v ∧ w'.ownsRow wx.heap.size 5 1 v 512 (cells zs) ∧ Below wx.heap.size wx w' := fun wx hw => bclone_ ad 512 cb zs wx (B1.out.heap hw) (by decide)
        have HZ := hid HB.out.2.1
        have HSN := hid (opS_n s)
        clear g1 h1 ko kh
        go_region_law (first
          | (go_simp; go_at_call 51; refine (kb _ (by rfl)).mono ?_; rintro e w2 ⟨v2, rfl, o2, g2⟩; obtain ⟨gz, cz, rfl, _, _, _, _, _⟩ := own_head o2 (by decide); have O2 := hid o2; have u1 := (g2.cell (p := ⟨d, 1, none⟩) hlt).trans m1; have G2 : Hid (Below w1.heap.size w1 w2) := (⟨g2.os, g2.tape, g2.output, g2.size, g2.block⟩ : Below w1.heap.size w1 w2); have K2 := hid ((H1.out.below G2.out).below ((Below.refl w2.heap.size w2).alloc (Nat.le_refl _) (.cells #[.int .i64 i, .slice (some ⟨gz, 0, none⟩) 512 cz] 94))); have u2 := K2.out.dm.c1; clear o2 g2)
          | (refine step_app10 rfl (.tmp 24) (.tmp 29) rfl (.slice pa I.length pc) I ⟨i, gz, cz, zs⟩ w2.heap.size rfl (by exact K2.out.own) rfl (by exact (cells2_new w2 _ _ _).1) (by exact (cells2_new w2 _ _ _).2) (by omega) ?_; intro g3 cap3 w3 o3 G3 L3 T3; have D3 := hid (K2.out.past G3.out); have y1 := D3.out.c1; have yf := D3.out.fz 1))
        all_goals
          have HZN : Hid (i < (opS s).n) := by rw [HSN.out]; exact HIN.out
          have EN := wr_end H1.out G1.out G2.out O2.out HZ.out HZN.out G3.out o3.out L3.out T3.out
          rw [show (opS s).P = s.P from opS_P s] at EN
          have HEN := hid EN
          clear EN D3 y1 yf u1 u2 m1 K2 kb
          go_wp2_with fail
          go_ret
          refine ⟨rfl, ?_, HEN.out.2⟩
          rw [HS.out]
          exact HEN.out.1
end Go.Proofs.Ythjfgdldclhbhaa
