import Derived.Test.YthjfgdldclhbhaaRF
namespace Go.Proofs.Ythjfgdldclhbhaa
set_option maxRecDepth 100000
open Go.RowKit Go.Shelf
set_option linter.unusedVariables false

theorem Rk.past {W w3 : World} {e : Nat} {s : St} {N : Nat → Prop} {gl : Nat} {cur : Array Value} {pa : Option Addr} {pc : Nat} {I : List It} {fa : Option Addr} {fc : Nat} {fs : List (Int × Int)} (K : Rk W e s N gl cur pa pc I fa fc fs) (G : W.grownBy w3 (Value.slice pa I.length pc).ownBlock) : w3.cell? ⟨e, 2, none⟩ = some (.slice pa I.length pc) ∧ w3.frozen? ⟨e, 2, none⟩ = false := by
  have hb : w3.heap[e]? = some (.cells (rcs s gl (.slice pa I.length pc) (.slice fa fs.length fc)) 87 (0, 0)) := (G.block e K.lt (fun q => by
    obtain ⟨c, hc⟩ := own_ty K.own q.symm
    rw [K.blk] at hc
    simp at hc)).trans K.blk
  exact ⟨(cell_of_row _ _ 2 _ _ (0, 0) hb).trans rfl, by simp [World.frozen?, hb]⟩
theorem rk_end {w1 w2 w3 : World} {e : Nat} {s : St} {N : Nat → Prop} {gl : Nat} {cur : Array Value} {pa : Option Addr} {pc : Nat} {I : List It} {fa : Option Addr} {fc : Nat} {fs : List (Int × Int)} {i gz cz g3 cap3 : Nat} {zs : List Int}
    (h1 : Rk w1 e s N gl cur pa pc I fa fc fs) (hN : ∀ b, w1.heap.size ≤ b → N b) (g2 : Below w1.heap.size w1 w2) (o2 : w2.ownsRow w1.heap.size 5 1 (.slice (some ⟨gz, 0, none⟩) 512 cz) 512 (cells zs)) (hz : ∀ z ∈ zs, 0 ≤ z ∧ z ≤ 255) (hi : i < s.n)
    (G3 : (w2.alloc (.cells #[.int .i64 i, .slice (some ⟨gz, 0, none⟩) 512 cz] 94)).grownBy w3 (Value.slice pa I.length pc).ownBlock) (o3 : w3.ownsRow 0 94 2 (.slice (some ⟨g3, 0, none⟩) (I.length + 1) cap3) (I ++ [(⟨i, gz, cz, zs⟩ : It)]).length (pcs (I ++ [(⟨i, gz, cz, zs⟩ : It)])))
    (L3 : (Value.slice pa I.length pc).ownBlock = some g3 ∨ g3 = (w2.alloc (.cells #[.int .i64 i, .slice (some ⟨gz, 0, none⟩) 512 cz] 94)).heap.size) :
    Rk (w3.setCell ⟨e, 2, none⟩ (.slice (some ⟨g3, 0, none⟩) (I.length + 1) cap3)) e { s with P := s.P ++ [(i, zs)] } N gl cur (some ⟨g3, 0, none⟩) cap3 (I ++ [(⟨i, gz, cz, zs⟩ : It)]) fa fc fs ∧ Fr N w1 (w3.setCell ⟨e, 2, none⟩ (.slice (some ⟨g3, 0, none⟩) (I.length + 1) cap3)) := by
  have BA : Below w2.heap.size w2 (w2.alloc (.cells #[.int .i64 i, .slice (some ⟨gz, 0, none⟩) 512 cz] 94)) := (Below.refl _ _).alloc (Nat.le_refl _) _
  have K2 := (h1.below g2).below BA
  obtain ⟨a', c', e', zb, zc1, zc2, _⟩ := own_form o2 hz
  obtain ⟨rfl, -, rfl⟩ : some (⟨gz, 0, none⟩ : Addr) = a' ∧ 512 = 512 ∧ cz = c' := by simpa using e'
  obtain ⟨curz, hgz⟩ := own_ty o2 (g := gz) rfl
  have hgz1 : w1.heap.size ≤ gz := (o2.lt gz rfl).1
  replace zb := zb.below BA
  have hgz2 := (BA.block gz (Array.getElem?_eq_some_iff.1 hgz).1).trans hgz
  have s12 := g2.size
  have F1 : Fr N w1 (w2.alloc (.cells #[.int .i64 i, .slice (some ⟨gz, 0, none⟩) 512 cz] 94)) := (Fr.ofB g2).below BA
  have sA : (w2.alloc (.cells #[.int .i64 i, .slice (some ⟨gz, 0, none⟩) 512 cz] 94)).heap.size = w2.heap.size + 1 := World.size_alloc _ _
  generalize w2.alloc (.cells #[.int .i64 i, .slice (some ⟨gz, 0, none⟩) 512 cz] 94) = W at *
  have ne94 : ∀ {b : Nat} {c : Array Value} {t : TypeId}, W.heap[b]? = some (.cells c t (0, 0)) → t ≠ 94 → w3.heap[b]? = W.heap[b]? := fun hb ht => G3.block _ (Array.getElem?_eq_some_iff.1 hb).1 (fun q => by
    obtain ⟨c, hc⟩ := own_ty K2.own q.symm
    rw [hb] at hc
    simp at hc
    exact ht hc.2)
  have K3b := (ne94 K2.blk (by decide)).trans K2.blk
  have both : ∀ {b : Nat} {c : Array Value} {t : TypeId}, W.heap[b]? = some (.cells c t (0, 0)) → t ≠ 94 → t ≠ 87 → (w3.setCell ⟨e, 2, none⟩ (.slice (some ⟨g3, 0, none⟩) (I.length + 1) cap3)).heap[b]? = W.heap[b]? := fun hb h1 h2 => (Below.heap_setCell _ _ _ _ (fun q => K2.neq hb h2 q)).trans (ne94 hb h1)
  have hg3g : g3 ≠ e := fun q => by
    obtain ⟨c, hc⟩ := own_ty o3 (g := g3) rfl
    rw [q, K3b] at hc
    simp at hc
  have hl : (I ++ [(⟨i, gz, cz, zs⟩ : It)]).length = I.length + 1 := by simp
  have o4 := own_at' o3 (w' := w3.setCell ⟨e, 2, none⟩ (.slice (some ⟨g3, 0, none⟩) (I.length + 1) cap3)) (fun q eq => Below.heap_setCell _ _ _ _ (fun e2 => hg3g (by
    have : some g3 = some q := eq
    exact (Option.some.inj this).trans e2)))
  have hb4 : (w3.setCell ⟨e, 2, none⟩ (.slice (some ⟨g3, 0, none⟩) (I.length + 1) cap3)).heap[e]? = some (.cells (rcs { s with P := s.P ++ [(i, zs)] } gl (.slice (some ⟨g3, 0, none⟩) (I.length + 1) cap3) (.slice fa fs.length fc)) 87 (0, 0)) := by
    simp [World.setCell, Array.getElem?_modify, K3b, rcs]
  rw [← hl] at o4 hb4
  rw [← hl]
  rw [← hl] at both
  refine ⟨K2.re (s' := { s with P := s.P ++ [(i, zs)] }) hb4 (fun b hb hbe _ hbt => (Below.heap_setCell _ _ _ _ hbe).trans (G3.block b hb (fun q => ?_))) rfl rfl o4 (fun x hx => ?_) ?_ (own_at' K2.ownF (fun q hq => ?_)) K2.fl K2.fk K2.fF (fun q hq => ?_) K2.nf, ?_⟩
  · obtain ⟨c, hc⟩ := own_ty K2.own q.symm
    exact hbt c hc
  · rcases List.mem_append.1 hx with hx | hx
    · obtain ⟨h0, h1, ⟨c, h2⟩, h3⟩ := K2.it x hx
      have := both h2 (by decide) (by decide)
      exact ⟨h0, h1.at this, ⟨c, this.trans h2⟩, h3⟩
    · rw [List.mem_singleton] at hx
      subst hx
      have := both hgz2 (by decide) (by decide)
      exact ⟨hi, zb.at this, ⟨curz, this.trans hgz2⟩, hN _ hgz1, zc1, zc2⟩
  · show s.P ++ [(i, zs)] = _
    rw [K2.ip, List.map_append]
    rfl
  · obtain ⟨c, hc⟩ := own_ty K2.ownF hq
    exact both hc (by decide) (by decide)
  · have q1 : some g3 = some q := hq
    obtain rfl := Option.some.inj q1
    rcases L3 with L | L
    · exact K2.np _ L
    · exact hN _ (by omega)
  · exact (F1.trans (Fr.ofN G3 (fun q hq => K2.np q hq))).trans (.of (grown_set (grown_refl w3 (some e)) 2 _) K2.ne)
set_option maxHeartbeats 4000000 in
theorem rwrite_ (e : Nat) (i : Int) (s : St) (N : Nat → Prop) (gl : Nat) (cur : Array Value) (pa : Option Addr) (pc : Nat) (I : List It) (fa : Option Addr) (fc : Nat) (fs : List (Int × Int)) (ab : Option Addr) (nb cb : Nat) (zs : List Int) (w : World) (h : Rk w e s N gl cur pa pc I fa fc fs) (hN : ∀ b, w.heap.size ≤ b → N b) (hc : s.c ≤ 1000000) (hp : s.P.length ≤ 999999) (hb : Bs w ab nb zs) (hq : ∀ ad, ab = some ad → 0 < nb → ¬ N ad.block) :
    Calls Try.prog 67 #[.pointer (some ⟨e, 0, none⟩), .int .i64 i, .slice ab nb cb] w fun en w' => en = .returned (.int .i64 (wrE s i nb)) ∧ Rd w' e (wrS s i zs) N ∧ Fr N w w' := by
  have c0 := h.c0
  have HNE := hid h.ne
  have HNN := hid hN
  have hIl : I.length ≤ 999999 := by have := congrArg List.length h.ip; rw [List.length_map] at this; omega
  have hzl := hb.1
  by_cases hin : 0 ≤ i ∧ i < (s.n : Int)
  case neg =>
    have E1 : wrE s i nb = 101 := by unfold wrE; rw [if_neg hin]
    have E2 : wrS s i zs = s := by unfold wrS; rw [if_neg (fun q => hin ⟨q.1, q.2.1⟩)]
    rw [E1, E2]
    have HR := hid h
    have hcs : i < 0 ∨ (¬ i < 0 ∧ ¬ i < (s.n : Int)) := by omega
    clear h hin E1 E2 hb hq
    rcases hcs with q | ⟨q1, q2⟩
    all_goals
      go_enter Try.func67, Try.ntmps67
      go_wp2_with fail
      go_ret
      exact ⟨rfl, ⟨_, _, _, _, _, _, _, _, HR.out⟩, .refl _ _⟩
  case pos =>
    obtain ⟨hi0, hin⟩ := hin
    obtain ⟨k, rfl⟩ := Int.eq_ofNat_of_zero_le hi0
    have hi0' : ¬ (k : Int) < 0 := by omega
    by_cases h512 : nb = 512
    case neg =>
      have E1 : wrE s (k : Int) nb = 102 := by unfold wrE; rw [if_pos ⟨hi0, hin⟩, if_neg h512]
      have E2 : wrS s (k : Int) zs = s := by unfold wrS; rw [if_neg (fun q => h512 (by omega))]
      rw [E1, E2]
      have HR := hid h
      have tn : ((nb : Int) != 512) = true := by simp; omega
      clear h E1 E2 hb hq
      go_enter Try.func67, Try.ntmps67
      go_wp2_with fail
      go_ret
      exact ⟨rfl, ⟨_, _, _, _, _, _, _, _, HR.out⟩, .refl _ _⟩
    case pos =>
      subst h512
      have E1 : wrE s (k : Int) 512 = opE s := by unfold wrE; rw [if_pos ⟨hi0, hin⟩, if_pos rfl]
      have E2 : wrS s (k : Int) zs = if opE s = 0 then { opS s with P := s.P ++ [(k, zs)] } else opS s := by unfold wrS; rw [if_pos ⟨hi0, hin, hzl⟩]; rfl
      have km := rmeets_ e s N gl cur pa pc I fa fc fs w h hc
      have hkn : k < s.n := by omega
      obtain ⟨s1, HS1⟩ : ∃ s1, Hid (opS s = s1) := ⟨_, rfl⟩
      have HPP : Hid (s1.P = s.P) := by show _ = _; rw [← HS1.out]; exact opS_P s
      have HNS : Hid (s1.n = s.n) := by show _ = _; rw [← HS1.out]; exact opS_n s
      obtain ⟨E, HE⟩ : ∃ E, Hid (opE s = E) := ⟨_, rfl⟩
      rw [E1, E2]
      rw [HS1.out, HE.out] at km
      rw [HE.out, HS1.out]
      have HB := hid hb
      have HQ := hid hq
      have hsz : 0 < w.heap.size := Nat.lt_of_le_of_lt (Nat.zero_le _) h.lt
      clear h hb hq E1 E2
      by_cases hE : E = 0
      · subst hE
        rw [if_pos rfl]
        go_enter Try.func67, Try.ntmps67
        go_wp2_with fail
        refine km.mono ?_
        rintro en w3 ⟨rfl, R1, g1⟩
        have F1 := hid (Fr.of g1 HNE.out)
        have HM3 := hid R1
        have m32 := R1.c2
        have hltg := R1.lt
        have hb3 : Bs w3 ab 512 zs := HB.out.fr F1.out HQ.out
        have HZ := hid hb3.2.1
        have kb : ∀ wx : World, wx.heap = w3.heap → Calls Try.prog 20 #[.slice ab 512 cb] wx fun en w' => ∃ v, en = .returned v ∧ w'.ownsRow wx.heap.size 5 1 v 512 (cells zs) ∧ Below wx.heap.size wx w' := fun wx hw => refBytes ab 512 cb zs wx (hb3.heap hw) (by omega)
        have HN3 : Hid (∀ b, w3.heap.size ≤ b → N b) := fun b hb => HNN.out b (Nat.le_trans g1.size hb)
        clear km R1 g1 hb3 c0
        go_wp2_with fail
        go_region_law (first
          | (go_simp; go_at_call 20; refine (kb _ (by rfl)).mono ?_; rintro en w4 ⟨v4, rfl, o4, g4⟩; obtain ⟨gz, cz, rfl, _, _, _, _, _⟩ := own_head o4 (by decide); have O4 := hid o4; have u1 := (g4.cell (p := ⟨e, 2, none⟩) hltg).trans m32; have G4 : Hid (Below w3.heap.size w3 w4) := (⟨g4.os, g4.tape, g4.output, g4.size, g4.block⟩ : Below w3.heap.size w3 w4); have K4 := hid ((HM3.out.below G4.out).below ((Below.refl w4.heap.size w4).alloc (Nat.le_refl _) (.cells #[.int .i64 k, .slice (some ⟨gz, 0, none⟩) 512 cz] 94))); have u2 := K4.out.c2; clear o4 g4)
          | (refine step_app10 rfl (.tmp 29) (.tmp 34) rfl (.slice pa I.length pc) I ⟨k, gz, cz, zs⟩ w4.heap.size rfl (by exact K4.out.own) rfl (by exact (cells2_new w4 _ _ _).1) (by exact (cells2_new w4 _ _ _).2) (by omega) ?_; intro g5 cap5 w5 o5 G5 L5 T5; have D5 := hid (K4.out.past G5.out); have y1 := D5.out.1; have yf := D5.out.2))
        all_goals
          have EN := rk_end HM3.out HN3.out G4.out O4.out HZ.out (by rw [HNS.out]; exact hkn) G5.out o5.out L5.out
          have RF : Hid (Rd (w5.setCell ⟨e, 2, none⟩ (.slice (some ⟨g5, 0, none⟩) (I.length + 1) cap5)) e { s1 with P := s.P ++ [(k, zs)] } N) := by
            rw [← HPP.out]
            exact ⟨_, _, _, _, _, _, _, _, EN.1⟩
          have FF := hid (F1.out.trans EN.2)
          clear EN D5 y1 yf u1 u2 m32 K4 kb
          go_wp2_with fail
          go_ret
          exact ⟨rfl, RF.out, FF.out⟩
      · have tE : (E == 0) = false := by simpa using hE
        rw [if_neg hE]
        go_enter Try.func67, Try.ntmps67
        go_wp2_with fail
        refine km.mono ?_
        rintro en w1 ⟨rfl, R1, g1⟩
        have F1 := hid (Fr.of g1 HNE.out)
        have HR1 := hid R1
        clear km R1 g1
        go_wp2_with fail
        go_ret
        exact ⟨rfl, ⟨_, _, _, _, _, _, _, _, HR1.out⟩, F1.out⟩
end Go.Proofs.Ythjfgdldclhbhaa
