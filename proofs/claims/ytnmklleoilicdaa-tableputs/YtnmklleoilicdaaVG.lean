import Derived.Test.YtnmklleoilicdaaVF
import Derived.Test.YtnmklleoilicdaaUG
import Derived.Deep.RegionHeldLaw
namespace Go.Proofs.Ytnmklleoilicdaa
set_option maxRecDepth 100000
open Go.RowKit Go.Shelf Go.Maps
set_option linter.unusedVariables false
attribute [local go_sem ↓] Go.wp_at_zero Go.wp_at_succ

/-- The document's table in the making. -/
structure Dt (w1 : World) (V : Nat → Prop) (W : World) (v : Value) (ds : List RD) : Prop where
  var : W.heap[w1.heap.size]? = some (.cells #[v] 54 (0, 0))
  own : W.ownsRow (w1.heap.size + 1) 78 2 v ds.length (rds ds)
  rv : ∀ d ∈ ds, RV2 W (fun x => V x ∧ x < w1.heap.size) d
  bel : Below w1.heap.size w1 W
theorem Dt.below {w1 W W' : World} {V : Nat → Prop} {v : Value} {ds : List RD} (h : Dt w1 V W v ds) (hb : Below W.heap.size W W') : Dt w1 V W' v ds :=
  ⟨(hb.block _ (Array.getElem?_eq_some_iff.1 h.var).1).trans h.var, own_bel h.own hb, fun d hd => (h.rv d hd).below hb, bel_bel h.bel h.bel.size hb⟩
theorem Dt.app {w1 W W3 w5 : World} {V : Nat → Prop} {v v5 : Value} {ds : List RD} {d : RD} (h : Dt w1 V W v ds) (hB : Below W.heap.size W W3) (hdv : RV2 W (fun x => V x ∧ x < w1.heap.size) d)
    (ho : w5.ownsRow (w1.heap.size + 1) 78 2 v5 (ds ++ [d]).length (rds (ds ++ [d]))) (hg : W3.grownBy w5 v.ownBlock) : Dt w1 V (w5.setCell ⟨w1.heap.size, 0, none⟩ v5) v5 (ds ++ [d]) := by
  have hown : ∀ q, v.ownBlock = some q → w1.heap.size + 1 ≤ q := fun q e => (h.own.lt q e).1
  have hown5 : ∀ q, v5.ownBlock = some q → w1.heap.size + 1 ≤ q := fun q e => (ho.lt q e).1
  have hset : ∀ x, x ≠ w1.heap.size → (w5.setCell ⟨w1.heap.size, 0, none⟩ v5).heap[x]? = w5.heap[x]? := fun x hx => by simp [World.setCell, Array.getElem?_modify, Ne.symm hx]
  have hlt : w1.heap.size < W.heap.size := (Array.getElem?_eq_some_iff.1 h.var).1
  have hs3 := hB.size
  have hsz : (w5.setCell ⟨w1.heap.size, 0, none⟩ v5).heap.size = w5.heap.size := by simp [World.setCell]
  have hv3 := (hB.block _ hlt).trans h.var
  have hv5 : w5.heap[w1.heap.size]? = some (.cells #[v] 54 (0, 0)) := (hg.block _ (by omega) (fun e => by have := hown _ e.symm; omega)).trans hv3
  have hlow : ∀ x, x < w1.heap.size → (w5.setCell ⟨w1.heap.size, 0, none⟩ v5).heap[x]? = W.heap[x]? := fun x hx => (hset x (by omega)).trans ((hg.block x (by omega) (fun e => by have := hown _ e.symm; omega)).trans (hB.block x (by omega)))
  refine ⟨?_, ?_, ?_, ?_⟩
  · simp [World.setCell, Array.getElem?_modify, hv5]
  · refine ho.kept (row := some w1.heap.size) ⟨rfl, rfl, rfl, by rw [hsz]; exact Nat.le_refl _, fun x _ hx => hset x (fun e => hx (by rw [e]))⟩ (.inr fun e => ?_)
    have := hown5 _ e
    omega
  · intro d' hd'
    have hst : ∀ {d : RD}, RV2 W (fun x => V x ∧ x < w1.heap.size) d → RV2 (w5.setCell ⟨w1.heap.size, 0, none⟩ v5) (fun x => V x ∧ x < w1.heap.size) d := fun h => h.step fun x _ hx _ => hlow x hx.2
    rcases List.mem_append.1 hd' with hd' | hd'
    · exact hst (h.rv d' hd')
    · rw [List.mem_singleton] at hd'
      subst hd'
      exact hst hdv
  · have := hg.size
    exact h.bel.trans ⟨hg.os.trans hB.os, hg.tape.trans hB.tape, hg.output.trans hB.output, by rw [hsz]; omega, fun x hx => hlow x hx⟩
theorem Dt.arm {w1 wr w5 : World} {V : Nat → Prop} {v : Value} {ds : List RD} {o : Obj} (h : Dt w1 V wr v ds) (hg : (wr.alloc o).drew.grownBy w5 v.ownBlock) : w5.heap[w1.heap.size]? = some (.cells #[v] 54 (0, 0)) ∧ ∀ x, x < w1.heap.size → w5.heap[x]? = wr.heap[x]? := by
  have hown : ∀ q, v.ownBlock = some q → w1.heap.size + 1 ≤ q := fun q e => (h.own.lt q e).1
  have hlt : w1.heap.size < wr.heap.size := (Array.getElem?_eq_some_iff.1 h.var).1
  have hsz : (wr.alloc o).drew.heap.size = wr.heap.size + 1 := by simp
  have hal : ∀ x, x < wr.heap.size → (wr.alloc o).drew.heap[x]? = wr.heap[x]? := fun x hx => Below.heap_alloc wr o x hx
  exact ⟨(hg.block _ (by omega) (fun e => by have := hown _ e.symm; omega)).trans ((hal _ hlt).trans h.var), fun x hx => (hg.block x (by omega) (fun e => by have := hown _ e.symm; omega)).trans (hal x (by omega))⟩
theorem asT_take {l : List Sx} {k : Nat} (hk : k < l.length) : asT (l.take (k + 1)) = asT (l.take k) ++ [((l.getD k default).k, (l.getD k default).v)] := by
  rw [take_snoc hk]
  simp [asT]
/-- The document's table as it was answered. -/
structure Dr (w : World) (V : Nat → Prop) (t : Nat) (a : Option Addr) (m c : Nat) (M : Tab) : Prop where
  var : w.heap[t]? = some (.cells #[.slice a m c] 54 (0, 0))
  rl : Rl w V a m M
theorem Dr.below {w w' : World} {V : Nat → Prop} {t : Nat} {a : Option Addr} {m c : Nat} {M : Tab} (h : Dr w V t a m c M) (hb : Below w.heap.size w w') : Dr w' V t a m c M :=
  ⟨(hb.block _ (Array.getElem?_eq_some_iff.1 h.var).1).trans h.var, h.rl.below hb⟩
theorem Dr.cell {w : World} {V : Nat → Prop} {t : Nat} {a : Option Addr} {m c : Nat} {M : Tab} (h : Dr w V t a m c M) : w.cell? ⟨t, 0, none⟩ = some (.slice a m c) := by rw [cell_of_row w t 0 _ 54 (0, 0) h.var]; rfl
set_option maxHeartbeats 1000000 in
/-- The document's FromBytes. -/
theorem rfrom_ (a : Option Addr) (n c : Nat) (zs : List Int) (w : World) (hv : Vs w (fun x => x < w.heap.size) a n c zs) (hn : n ≤ 100000) :
    Calls Try.prog 19 #[.slice a n c] w fun e w' => (∃ M t a' m c', fb zs = some M ∧ e = .returned (.tuple #[.pointer (some ⟨t, 0, none⟩), .int .i64 0]) ∧ Dr w' (fun x => w.heap.size ≤ x) t a' m c' M ∧ w.heap.size ≤ t ∧ m ≤ 100000 ∧ Below w.heap.size w w') ∨ (fb zs = none ∧ e = .returned (.tuple #[.pointer none, .int .i64 114]) ∧ Below w.heap.size w w') := by
  have HZ : Hid (zs.length = n) := hv.bs.1
  have k1 := rgets_ a n c zs w hv hn
  clear hv
  go_enter Try.func19, Try.ntmps19
  go_wp2_with fail
  refine k1.mono ?_
  rintro e w1 (⟨l, al, m, cl, hgs, rfl, hsl, -, -, -, g1⟩ | ⟨hgs, rfl, g1⟩)
  · have HGS := hid hgs
    have HSL := hid hsl
    have HG1 := hid g1
    have HLN : Hid (l.length = m) := hsl.len
    have hmn : m ≤ 100000 := by
      have h1 := gs_some hgs
      have h2 := enc_len_le l
      rw [h1.2.1] at h2
      have := hsl.len
      have := HZ.out
      omega
    have HS1 := hid g1.size
    clear hgs hsl g1 k1
    have HD0 : Hid (Dt w1 (fun x => w.heap.size ≤ x) (w1.alloc (.cells #[.slice none 0 0] 54)) (.slice none 0 0) []) :=
      ⟨heap_alloc_new w1 _, World.ownsRow_nil _ _ _ _, fun d hd => by simp at hd, (Below.refl _ _).alloc (Nat.le_refl _) _⟩
    go_wp2_with fail
    go_loopw [7] (fun i wq => ∃ (j : Nat) (v : Value) (ds : List RD), j ≤ m ∧ i = .int .i64 j ∧ Hid ((l.take j).all (fun s => !s.g) = true) ∧ Hid (Dt w1 (fun x => w.heap.size ≤ x) wq v ds) ∧ Hid (ds.map (·.s) = asT (l.take j))) (fun i _ => m - (intOf i).toNat)
    case atStart => exact ⟨0, _, [], by omega, rfl, rfl, HD0, rfl⟩
    case round =>
      obtain ⟨j, v, ds, hj, rfl, HA, HD, HI⟩ := hrel
      by_cases hlt : j < m
      · have hI : (j : Int) < m := by omega
        have hjL : j < l.length := by rw [HLN.out]; exact hlt
        obtain ⟨bl, off, ka, kc, va, vc, kn, vn, rfl, hkn, hvn, c0, c1, c2, v1, v2⟩ := ((HSL.out.wide (V' := fun x => w.heap.size ≤ x ∧ x < w1.heap.size) fun x hx h => ⟨h, hx⟩).step fun x _ hx _ => HD.out.bel.block x hx.2).at hlt
        obtain ⟨s, HS⟩ : ∃ s, Hid (l.getD j default = s) := ⟨_, rfl⟩
        rw [HS.out] at hkn hvn c2 v1 v2
        have HNO : Hid (s.g = true → fb zs = none) := fun h => fb_no HGS.out (k := j) hjL (by rw [HS.out]; exact h)
        have HYE : Hid (s.g = false → (l.take (j + 1)).all (fun s => !s.g) = true) := fun h => gall_take hjL HA.out (by rw [HS.out]; exact h)
        have HIA : Hid (asT (l.take (j + 1)) = asT (l.take j) ++ [(s.k, s.v)]) := by rw [← HS.out]; exact asT_take hjL
        have HDL : Hid (ds.length ≤ 1000000) := by
          have h := congrArg List.length HI.out
          rw [List.length_map] at h
          unfold asT at h
          rw [List.length_map, List.length_take] at h
          show _ ≤ _
          omega
        have HBW : Hid (Below w.heap.size w wr) := bel_bel HG1.out HG1.out.size HD.out.bel
        cases hg : s.g with
        | true =>
          have HF := hid (HNO.out hg)
          rw [hg] at c2
          clear hg v1 v2 hkn hvn
          go_wp2_with fail
          go_ret2
          exact .inr ⟨HF.out, rfl, HBW.out⟩
        | false =>
          have HY := hid (HYE.out hg)
          rw [hg] at c2
          have HV1 := hid v1
          have HV2 := hid v2
          have HKN := hid hkn
          have HVN := hid hvn
          have ct : wr.cell? ⟨w1.heap.size, 0, none⟩ = some v := by rw [cell_of_row wr w1.heap.size 0 _ 54 (0, 0) HD.out.var]; rfl
          have HCT := hid ct
          obtain ⟨n', HN'⟩ : ∃ n', Hid (ds.length + 1 = n') := ⟨_, rfl⟩
          have hlt1 : w1.heap.size < wr.heap.size := (Array.getElem?_eq_some_iff.1 HD.out.var).1
          have HRV : Hid (RV2 wr (fun x => w.heap.size ≤ x ∧ x < w1.heap.size) ⟨ka, kc, va, vc, (s.k, s.v)⟩) := ⟨by show Vs _ _ _ s.k.length _ _; rw [← HKN.out]; exact HV1.out, by show Vs _ _ _ s.v.length _ _; rw [← HVN.out]; exact HV2.out⟩
          have HDR := hid (below_drew wr)
          have HC0 := hid c0
          have HC1 := hid c1
          have hbl : bl < w1.heap.size := by
            rcases HSL.out.cells with h0 | ⟨b', o', e', hb', hh⟩
            · omega
            · obtain ⟨rfl, rfl⟩ : bl = b' ∧ off = o' := by simpa using e'
              exact (hh 0 (by omega)).lt
          have hne : bl ≠ w1.heap.size := by omega
          have HSB := hid (by have := hlt1; omega : w1.heap.size + 1 ≤ wr.heap.size)
          clear hg v1 v2 hkn hvn hlt hjL
          go_wp2_with fail
          go_region_law
            ((refine step_appRow (by rfl) (.tmp 33) (.tmp 45) (by rfl) (w1.heap.size + 1) v ds (by rfl) (by exact own_bel (HD.out.own.alloc _) (below_drew _)) wr.heap.size ⟨ka, kc, va, vc, (s.k, s.v)⟩ (by rfl) (by exact fun jj u hj => by simp only [rdc, ← HKN.out, ← HVN.out] at hj; exact (cell_of_row (wr.alloc _) wr.heap.size jj _ 78 (0, 0) (heap_alloc_new wr _)).trans (by simpa using hj)) (by have := HDL.out; omega) (by have := HSB.out; simp; omega) n' HN' ?_; intro g5 cap5 w5 HO5 HG5 HL5; have HAR := hid (HD.out.arm HG5.out); have y0 := (World.cell?_of_block (w := wr) (a := ⟨bl, off + j * 3, none⟩) (HAR.out.2 bl hbl)).trans HC0.out; have y1 := (World.cell?_of_block (w := wr) (a := ⟨bl, off + j * 3 + 1, none⟩) (HAR.out.2 bl hbl)).trans HC1.out; have z0 := (World.cell?_of_block (w := w5) (w' := w5.setCell ⟨w1.heap.size, 0, none⟩ (.slice (some ⟨g5, 0, none⟩) n' cap5)) (a := ⟨bl, off + j * 3, none⟩) (Below.heap_setCell _ _ _ _ hne)).trans y0; have z1 := (World.cell?_of_block (w := w5) (w' := w5.setCell ⟨w1.heap.size, 0, none⟩ (.slice (some ⟨g5, 0, none⟩) n' cap5)) (a := ⟨bl, off + j * 3 + 1, none⟩) (Below.heap_setCell _ _ _ _ hne)).trans y1; have x5 : w5.cell? ⟨w1.heap.size, 0, none⟩ = some v := (by rw [cell_of_row w5 w1.heap.size 0 _ 54 (0, 0) HAR.out.1]; rfl); have f5 : w5.frozen? ⟨w1.heap.size, 0, none⟩ = false := (by simp [World.frozen?, HAR.out.1])))
          all_goals
            have HD6 := hid (HD.out.app (w5 := w5) (v5 := .slice (some ⟨g5, 0, none⟩) n' cap5) (d := ⟨ka, kc, va, vc, (s.k, s.v)⟩) (bel_bel ((Below.refl wr.heap.size wr).alloc (Nat.le_refl _) _) (by simp) (below_drew _)) HRV.out HO5.out HG5.out)
            clear x5 f5 y0 y1 z0 z1 HAR
            generalize w5.setCell ⟨w1.heap.size, 0, none⟩ (.slice (some ⟨g5, 0, none⟩) n' cap5) = w6 at *
            have HI6 : Hid ((ds ++ [(⟨ka, kc, va, vc, (s.k, s.v)⟩ : RD)]).map (·.s) = asT (l.take (j + 1))) := by show _ = _; rw [HIA.out, List.map_append, HI.out]; rfl
            go_wp2_with fail
            go_roundw
            case rel => exact ⟨j + 1, _, _, by omega, by go_num, HY, HD6, HI6⟩
            case measure => simp [intOf]; omega
      · have hI : ¬ (j : Int) < m := by omega
        obtain rfl : j = m := by omega
        have hfull : l.take j = l := List.take_of_length_le (by rw [HLN.out]; exact Nat.le_refl _)
        rw [hfull] at HA HI
        have HF := hid (fb_yes HGS.out HA.out).1
        obtain ⟨av, cv, rfl, hrl, -, -, -⟩ := Rl.ofOwn (V := fun x => w.heap.size ≤ x) HD.out.own (fun d hd => (HD.out.rv d hd).wide fun x _ h => h.1) (fun x hx => by have := HS1.out; omega)
        rw [HI.out] at hrl
        have hdl : ds.length = j := by
          have h := congrArg List.length HI.out
          rw [List.length_map] at h
          unfold asT at h
          rw [List.length_map, HLN.out] at h
          exact h
        have HDR : Hid (Dr wr (fun x => w.heap.size ≤ x) w1.heap.size av ds.length cv (asT l)) := ⟨HD.out.var, hrl⟩
        rw [hdl] at HDR
        have HBW : Hid (Below w.heap.size w wr) := bel_bel HG1.out HG1.out.size HD.out.bel
        clear hlt hj hrl hdl HD HI
        go_wp2_with fail
        go_ret2
        exact .inl ⟨_, HF.out, _, rfl, _, _, ⟨_, HDR.out⟩, HS1.out, hmn, HBW.out⟩
  · have HG1 := hid g1
    have HF : Hid (fb zs = none) := by show _ = _; unfold fb; rw [hgs]
    clear k1 g1 hgs
    go_wp2_with fail
    go_ret2
    exact .inr ⟨HF.out, rfl, HG1.out⟩
end Go.Proofs.Ytnmklleoilicdaa
