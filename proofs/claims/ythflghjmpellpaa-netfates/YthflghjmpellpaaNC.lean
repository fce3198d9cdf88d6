import Derived.Test.YthflghjmpellpaaNM
import Derived.Laws.ResultCell
namespace Go.Proofs.Ythflghjmpellpaa
open Go.RowKit Go.Maps
set_option linter.unusedVariables false
set_option maxRecDepth 100000

/-! The landed net. -/
def Net (w : World) (F : Nat → Prop) (p : Nat) (L : List Fl) (g : Int) : Prop := ∃ b ds, ds.map (·.f) = L ∧ Nt w F p b ds g
section
variable {w w' : World} {F Y : Nat → Prop} {p : Nat} {L : List Fl} {g : Int}
theorem Net.fx (h : Net w F p L g) (hf : Fx Y w w') (hd : ∀ k, F k → ¬ Y k) : Net w' F p L g := by
  obtain ⟨b, ds, e, h⟩ := h
  exact ⟨b, ds, e, h.fx hf hd⟩
theorem Net.on (h : Net w F p L g) (hb : Below w.heap.size w w') : Net w' F p L g := by
  obtain ⟨b, ds, e, h⟩ := h
  exact ⟨b, ds, e, h.on hb⟩
theorem Net.wide (h : Net w F p L g) (hF : ∀ k, F k → Y k) (hl : ∀ k, Y k → k < w.heap.size) : Net w Y p L g := by
  obtain ⟨b, ds, e, h⟩ := h
  exact ⟨b, ds, e, h.wide hF hl⟩
theorem Net.gr (h : Net w' F p L g) (hF : ∀ k, F k → k < w.heap.size) (hs : w.heap.size ≤ w'.heap.size) : Net w' (Gr F w w') p L g :=
  h.wide (fun k e => ⟨.inl e, Nat.lt_of_lt_of_le (hF k e) hs⟩) fun k e => e.2
theorem Net.ok (h : Net w F p L g) : NOk L g := by
  obtain ⟨b, ds, rfl, h⟩ := h
  exact h.ok
theorem Net.lt (h : Net w F p L g) : ∀ k, F k → k < w.heap.size := by
  obtain ⟨b, ds, e, h⟩ := h
  exact h.lt
end
def sndL (L : List Fl) (g to : Int) (d : List Int) : List Fl := if L.length < 1024 then L ++ [⟨g + 1, to, d⟩] else L
def sndG (L : List Fl) (g : Int) : Int := if L.length < 1024 then g + 1 else g
def sndA (L : List Fl) (g : Int) : Int := if L.length < 1024 then g + 1 else 0
theorem bclone_any (a : Option Addr) (n c : Nat) (zs : List Int) (V : Nat → Prop) (w : World) (h : Vs w V a n c zs) (hn : n ≤ 65536) :
    Calls Try.prog 17 #[.slice a n c] w fun en w' => ∃ v, en = .returned v ∧ w'.ownsRow w.heap.size 5 1 v n (cells zs) ∧ Below w.heap.size w w' := bclone_ a n c zs w h.bs h.nil h.nc (by omega)
set_option maxHeartbeats 1000000 in
theorem new_ (w : World) : Calls Try.prog 5 #[] w fun e w' => ∃ p, e = .returned (.pointer (some ⟨p, 0, none⟩)) ∧ Net w' (fun k => w.heap.size ≤ k ∧ k < w'.heap.size) p [] 0 ∧ w.heap.size ≤ p ∧ Below w.heap.size w w' := by
  have hmm := @run_makeMap Try.prog
  go_enter Try.func5, Try.ntmps5
  go_wp2_with fail
  go_ret
  have hb : Below w.heap.size w ((w.alloc (.map #[] 0)).alloc (.cells #[.map (some w.heap.size), .int .i64 0] 50)) := ((Below.refl w.heap.size w).alloc (Nat.le_refl _) _).alloc (by simp) _
  have ht := heap_alloc_new (w.alloc (.map #[] 0)) (.cells #[.map (some w.heap.size), .int .i64 0] 50)
  rw [World.size_alloc] at ht
  have hm : (w.alloc (.map #[] 0)).ownsMap Try.prog 3 RV w.heap.size 0 (.map []) := World.ownsMap_made w Try.prog 3 RV
  have hm2 : ((w.alloc (.map #[] 0)).alloc (.cells #[.map (some w.heap.size), .int .i64 0] 50)).ownsMap Try.prog 3 RV w.heap.size 0 (.map []) := hm.alloc _
  refine ⟨w.heap.size + 1, rfl, ⟨w.heap.size, [], rfl, ⟨ht, ⟨.map [], hm2, Dm.nil⟩, fun x hx => by simp at hx, List.Pairwise.nil, ⟨by omega, by simp⟩, ⟨by omega, by simp; omega⟩, fun x hx => by simp at hx, fun k e => e.2, nok_nil⟩⟩, by omega, hb⟩
theorem own_len {w : World} {B n : Nat} {v : Value} {zs : List Int} (h : w.ownsRow B 5 1 v n (cells zs)) : zs.length = n := by
  have := h.1
  rw [cells_length] at this
  omega
section
variable {w : World} {F : Nat → Prop} {p : Nat} {L : List Fl} {g : Int}
set_option maxHeartbeats 1000000 in
theorem send_no (to : Int) (a : Option Addr) (n c : Nat) (h : Net w F p L g) (hl : ¬ L.length < 1024) :
    Calls Try.prog 6 #[.pointer (some ⟨p, 0, none⟩), .int .i64 to, .slice a n c] w fun e w' => e = .returned (.int .i64 0) ∧ w' = w := by
  obtain ⟨b, ds, rfl, h⟩ := h
  have c0 := h.blk.c0
  obtain ⟨D, h1, h2⟩ := h.map
  have HD := hid h1
  have hs : (1024 : Int) ≤ (Maps.size D : Int) := by have := h2.size; rw [List.length_map] at hl; omega
  clear h h1 h2 hl
  go_enter Try.func6, Try.ntmps6
  go_wp2_with (first | (at_len; refine wpList_len_own _ rfl _ 48 rfl 3 34 Try.underlying48 RV b _ D rfl HD.out ?_) | fail)
  go_ret
  exact ⟨rfl, rfl⟩
set_option maxHeartbeats 2000000 in
theorem send_yes (to : Int) (a : Option Addr) (n c : Nat) (d : List Int) (V : Nat → Prop) (h : Net w F p L g) (hl : L.length < 1024) (hd : Vs w V a n c d) (hV : ∀ k, V k → k ≠ p) (hn : n ≤ 65536) (hto : i64r to) (hg : g ≤ 1000000000) :
    Calls Try.prog 6 #[.pointer (some ⟨p, 0, none⟩), .int .i64 to, .slice a n c] w fun e w' => e = .returned (.int .i64 (g + 1)) ∧ Net w' (Gr F w w') p (L ++ [⟨g + 1, to, d⟩]) (g + 1) ∧ Fx F w w' := by
  obtain ⟨b, ds, rfl, h⟩ := h
  have HH := hid h
  have c0 := h.blk.c0
  have c1 := h.blk.c1
  have fz := h.blk.fz 1
  obtain ⟨D, h1, h2⟩ := h.map
  have HD := hid h1
  have HDM := hid h2
  have hs : ¬ (1024 : Int) ≤ (Maps.size D : Int) := by have := h2.size; rw [List.length_map] at hl; omega
  have HSZ : Hid (Maps.size D < maxLen) := by show _ < _; unfold maxLen; omega
  have g0 := h.ok.g0
  have HV := hid hd
  have HVO : Hid (Okb d) := hd.bs.2.1
  have HVp := hid hV
  have HL := hid hl
  have HTO := hid hto
  have hpb : p ≠ b := fun e => by
    obtain ⟨es, cl, hb, _⟩ := h1
    have := h.blk
    rw [e] at this
    unfold Nb at this
    rw [hb] at this
    cases this
  have HPB := hid hpb
  have HNB := hid (h.blk.s1 (g + 1))
  have HFX : Hid (Fx F w (w.setCell ⟨p, 1, none⟩ (.int .i64 (g + 1)))) := (Fx.refl F w).set h.fp _
  have HFX1 : Hid (Fx (fun k => k = p) w (w.setCell ⟨p, 1, none⟩ (.int .i64 (g + 1)))) := (Fx.refl (fun k => k = p) w).set (g := p) rfl _
  clear h h1 h2 hl hd hV hpb
  go_enter Try.func6, Try.ntmps6
  go_wp2_with (first | (at_len; refine wpList_len_own _ rfl _ 48 rfl 3 34 Try.underlying48 RV b _ D rfl HD.out ?_) | fail)
  obtain ⟨wS, HWS⟩ : ∃ z, Hid (w.setCell ⟨p, 1, none⟩ (.int .i64 (g + 1)) = z) := ⟨_, rfl⟩
  rw [HWS.out] at HNB HFX HFX1 ⊢
  have d0 := HNB.out.c0
  have d1 := HNB.out.c1
  have HDS : Hid (wS.ownsMap Try.prog 3 RV b (Maps.size D) D) := own_same HD.out (HFX1.out.block b HD.out.lt (Ne.symm HPB.out))
  have HVS : Hid (Vs wS V a n c d) := HV.out.step fun x hx hVx _ => HFX1.out.block x hx (HVp.out x hVx)
  have HKI : Hid (i64r (g + 1)) := by show _ ∧ _; omega
  have HKC : Hid (Calls Try.prog 17 #[.slice a n c] wS.drew fun e w1 => ∃ a1 c1 w2, e = .returned (.slice a1 n c1) ∧ (Instr.mapUpdate 48 (.map (some b)) (.int .i64 (g + 1)) (.agg #[.int .i64 (g + 1), .int .i64 to, .slice a1 n c1])).run Try.prog w1 = .ok () w2 ∧ w1.cell? ⟨p, 0, none⟩ = some (.map (some b)) ∧ w1.cell? ⟨p, 1, none⟩ = some (.int .i64 (g + 1)) ∧ w2.cell? ⟨p, 0, none⟩ = some (.map (some b)) ∧ w2.cell? ⟨p, 1, none⟩ = some (.int .i64 (g + 1)) ∧ Hid (w1.ownsMap Try.prog 3 RV b (Maps.size D) D) ∧ Hid (w1.ownsRow wS.heap.size 5 1 (.slice a1 n c1) n (cells d)) ∧ Hid (w2.ownsMap Try.prog 3 RV b (Maps.size D + 1) (D.put (.int .i64 (g + 1)) (.held (.agg #[.int .i64 (g + 1), .int .i64 to, .slice a1 n c1])))) ∧ Hid (w1.grownBy w2 (some b)) ∧ Hid (Below wS.heap.size wS w1) ∧ Hid (Nb w2 p b (g + 1))) := by
    refine (bclone_any a n c d V wS.drew (HVS.out.step fun x _ _ _ => rfl) hn).mono ?_
    rintro e w1 ⟨v1, rfl, o1, g1⟩
    obtain ⟨a1, c1, e1, q1, q2, q3, q4⟩ := own_addr o1
    subst e1
    have G1 : Below wS.heap.size wS w1 := ⟨g1.os, g1.tape, g1.output, g1.size, g1.block⟩
    have NB1 : Nb w1 p b (g + 1) := (G1.block p HNB.out.lt).trans HNB.out
    have hD1 := own_same HDS.out (G1.block b HDS.out.lt)
    obtain ⟨w2, hrun, ho2, hg2⟩ := hD1.update lawI Try.underlying48 HSZ.out (key_int HKI.out) (RV_mk (g + 1) to a1 n c1)
    have NB2 : Nb w2 p b (g + 1) := (hg2.block p NB1.lt (by have := HPB.out; simpa using this)).trans NB1
    exact ⟨a1, c1, w2, rfl, hrun, NB1.c0, NB1.c1, NB2.c0, NB2.c1, hD1, o1, ho2, hg2, G1, NB2⟩
  clear c0 c1 fz
  go_region_held (fun wx => wx.cell? ⟨p, 0, none⟩ = some (.map (some b)) ∧ wx.cell? ⟨p, 1, none⟩ = some (.int .i64 (g + 1))) (go_keep) (first
    | (go_at_call 17; refine HKC.out.mono ?_; rintro e w1 ⟨a1, c1, w2, rfl, hrun, d0, d1, e0, e1, H1, H2, H3, H4, H5, H6⟩))
  all_goals
    clear HVS HV HNB HDS
    go_wp2_with fail
    go_ret
    have hA : (⟨⟨g + 1, to, d⟩, a1, c1⟩ : FD).f.d.length = n := (own_len H2.out)
    have hx : fv ⟨⟨g + 1, to, d⟩, a1, c1⟩ = .slice a1 n c1 := by unfold fv; rw [hA]
    have hB : Fx F w w2 := (HFX.out.trans (Fx.of F H5.out)).trans ⟨H4.out.os, H4.out.tape, H4.out.output, H4.out.size, fun k hk hF => H4.out.block k hk (by intro e; exact hF (by rw [Option.some.inj e]; exact HH.out.fb))⟩
    have hSW : wS.heap.size = w.heap.size := by rw [← HWS.out]; simp [World.setCell]
    have hnone : ff ds (g + 1) = none := by
      cases e : ff ds (g + 1) with
      | none => rfl
      | some y =>
        obtain ⟨h1, h2⟩ := ff_mem e
        have := (HH.out.ok.rng y.f (List.mem_map_of_mem h1)).2
        omega
    refine ⟨rfl, ⟨b, ds ++ [⟨⟨g + 1, to, d⟩, a1, c1⟩], by simp, ?_⟩, hB⟩
    have hblk : ∀ k, k < w.heap.size → k ≠ p → k ≠ b → w2.heap[k]? = w.heap[k]? := fun k hk h1 h2 => (H4.out.block k (by have := H5.out.size; omega) (by simpa using h2)).trans ((H5.out.block k (by omega)).trans (HFX1.out.block k hk h1))
    have hty : ∀ x ∈ ds, ∀ k, (fv x).ownBlock = some k → k < w.heap.size ∧ k ≠ p ∧ k ≠ b := fun x hx k e => by
      obtain ⟨cur, hc⟩ := row_type (HH.out.own x hx) e
      refine ⟨(Array.getElem?_eq_some_iff.1 hc).1, fun q => ?_, fun q => ?_⟩
      · subst q
        have := HH.out.blk
        unfold Nb at this
        rw [hc] at this
        injection this with this
        injection this with _ this
        exact absurd this (by decide)
      · subst q
        obtain ⟨es, cl, hb, _⟩ := HD.out
        rw [hc] at hb
        cases hb
    have hrow : w2.ownsRow wS.heap.size 5 1 (fv ⟨⟨g + 1, to, d⟩, a1, c1⟩) n (cells d) := by
      rw [hx]
      exact H2.out.kept H4.out (.inr (fun e => by
        obtain ⟨cur, hc⟩ := row_type H2.out e
        obtain ⟨es, cl, hb, _⟩ := H1.out
        rw [hc] at hb
        cases hb))
    refine ⟨H6.out, ⟨_, tight H3.out, ?_⟩, fun y hy => ?_, ?_, ⟨.inl HH.out.fp, H6.out.lt⟩, ⟨.inl HH.out.fb, H3.out.lt⟩, fun y hy k e => ?_, fun k e => e.2, ?_⟩
    · have := HDM.out.put (x := ⟨⟨g + 1, to, d⟩, a1, c1⟩) (HD.out.tidy lawI) hnone
      unfold fag at this
      rw [hx] at this
      exact this
    · rcases List.mem_append.1 hy with hy | hy
      · exact row_same (HH.out.own y hy) fun k e => by
          obtain ⟨h1, h2, h3⟩ := hty y hy k e
          exact hblk k h1 h2 h3
      · rw [List.mem_singleton] at hy
        subst hy
        rw [hA]
        exact own_monoT hrow (Nat.zero_le _)
    · unfold Apart
      rw [List.pairwise_append]
      refine ⟨HH.out.apart, by simp, fun x hxm y hy k e f => ?_⟩
      rw [List.mem_singleton] at hy
      subst hy
      have h1 := (hty x hxm k e).1
      have h2 := (hrow.lt k f).1
      omega
    · refine ⟨?_, ?_⟩
      · rcases List.mem_append.1 hy with hy | hy
        · exact .inl (HH.out.fd y hy k e)
        · rw [List.mem_singleton] at hy
          subst hy
          exact .inr (by have := (hrow.lt k e).1; omega)
      · rcases List.mem_append.1 hy with hy | hy
        · exact Nat.lt_of_lt_of_le (HH.out.lt k (HH.out.fd y hy k e)) hB.size
        · rw [List.mem_singleton] at hy
          subst hy
          exact (hrow.lt k e).2
    · rw [List.map_append]
      exact HH.out.ok.send HL.out HVO.out (by rw [← hA] at hn; exact hn) HTO.out
end
def erN (L : List Fl) (k : Int) : Int := if (fnd L k).isSome then 0 else 218
def TkV (L : List Fl) (k : Int) (w' : World) (a : Option Addr) (c : Nat) (f : Fl) (er : Int) (V : Nat → Prop) : Prop := f = (fnd L k).getD fl0 ∧ er = erN L k ∧ Vs w' V a f.d.length c f.d
theorem outL_none {L : List Fl} {k : Int} (h : fnd L k = none) : outL L k = L := by
  unfold outL
  rw [List.filter_eq_self]
  intro x hx
  have := List.find?_eq_none.1 h x hx
  simpa using this
/-- A flight's variable. -/
def Fm (w : World) (v : Nat) (n t : Int) (a : Option Addr) (m c : Nat) : Prop := w.heap[v]? = some (.cells #[.int .i64 n, .int .i64 t, .slice a m c] 34 (0, 0))
section
variable {w w' : World} {v : Nat} {n t : Int} {a : Option Addr} {m c : Nat}
theorem Fm.c0 (h : Fm w v n t a m c) : w.cell? ⟨v, 0, none⟩ = some (.int .i64 n) := (cell_of_row _ _ 0 _ _ (0, 0) h).trans rfl
theorem Fm.c1 (h : Fm w v n t a m c) : w.cell? ⟨v, 1, none⟩ = some (.int .i64 t) := (cell_of_row _ _ 1 _ _ (0, 0) h).trans rfl
theorem Fm.c2 (h : Fm w v n t a m c) : w.cell? ⟨v, 2, none⟩ = some (.slice a m c) := (cell_of_row _ _ 2 _ _ (0, 0) h).trans rfl
theorem Fm.fz (h : Fm w v n t a m c) (i : Nat) : w.frozen? ⟨v, i, none⟩ = false := by unfold Fm at h; simp [World.frozen?, h]
theorem Fm.new (w : World) (n t : Int) (a : Option Addr) (m c : Nat) : Fm (w.alloc (.cells #[.int .i64 n, .int .i64 t, .slice a m c] 34)) w.heap.size n t a m c := heap_alloc_new w _
theorem Fm.set3 (h : Fm w v n t a m c) (n' t' : Int) (a' : Option Addr) (m' c' : Nat) : Fm (((w.setCell ⟨v, 0, none⟩ (.int .i64 n')).setCell ⟨v, 1, none⟩ (.int .i64 t')).setCell ⟨v, 2, none⟩ (.slice a' m' c')) v n' t' a' m' c' := by
  unfold Fm at *
  simp [World.setCell, Array.getElem?_modify, h]
theorem results_fl {fn : Func} {p u : Tmp} (h : fn.results = #[.cell p 34, .tmp u]) (tmps : Array Value) (w : World) (x : Value)
    (hp : tmps.getD p undef = .pointer (some ⟨v, 0, none⟩)) (hv : tmps.getD u undef = x) (hm : Fm w v n t a m c) :
    (results fn tmps).run Try.prog w = .ok (.tuple #[.agg #[.int .i64 n, .int .i64 t, .slice a m c], x]) w := by
  rw [results_cell_tmp h, hp, hv]
  have c0 := hm.c0
  have c1 := hm.c1
  have c2 := hm.c2
  go_simp
end
theorem set3_other {w : World} {g j : Nat} (h : j ≠ g) (v0 v1 v2 : Value) : (((w.setCell ⟨g, 0, none⟩ v0).setCell ⟨g, 1, none⟩ v1).setCell ⟨g, 2, none⟩ v2).heap[j]? = w.heap[j]? := by
  simp [World.setCell, Array.getElem?_modify, Ne.symm h]
theorem Nt.ty {w : World} {F : Nat → Prop} {p b : Nat} {ds : List FD} {g : Int} (h : Nt w F p b ds g) {x : FD} (hx : x ∈ ds) {k : Nat} (e : (fv x).ownBlock = some k) : k < w.heap.size ∧ k ≠ p ∧ k ≠ b := by
  obtain ⟨cur, hc⟩ := row_type (h.own x hx) e
  refine ⟨(Array.getElem?_eq_some_iff.1 hc).1, fun q => ?_, fun q => ?_⟩
  · subst q
    have := h.blk
    unfold Nb at this
    rw [hc] at this
    injection this with this
    injection this with _ this
    exact absurd this (by decide)
  · subst q
    obtain ⟨D, ⟨es, cl, hb, _⟩, _⟩ := h.map
    rw [hc] at hb
    cases hb
theorem Nt.pb {w : World} {F : Nat → Prop} {p b : Nat} {ds : List FD} {g : Int} (h : Nt w F p b ds g) : p ≠ b := fun e => by
  obtain ⟨D, ⟨es, cl, hb, _⟩, _⟩ := h.map
  have := h.blk
  rw [e] at this
  unfold Nb at this
  rw [hb] at this
  cases this
theorem apart_ne {ds : List FD} (h : Apart ds) {x y : FD} (hx : x ∈ ds) (hy : y ∈ ds) (hne : x ≠ y) (k : Nat) (e : (fv x).ownBlock = some k) : (fv y).ownBlock ≠ some k := by
  induction ds with
  | nil => simp at hx
  | cons z l ih =>
    unfold Apart at h
    rw [List.pairwise_cons] at h
    rcases List.mem_cons.1 hx with rfl | hx'
    · rcases List.mem_cons.1 hy with rfl | hy'
      · exact absurd rfl hne
      · exact h.1 y hy' k e
    · rcases List.mem_cons.1 hy with rfl | hy'
      · intro f
        exact h.1 x hx' k f e
      · exact ih h.2 hx' hy'
theorem Nt.drop {w w' : World} {F : Nat → Prop} {p b n m : Nat} {ds : List FD} {g k : Int} {D : DataW Value} {y : FD} (h : Nt w F p b ds g) (h1 : w.ownsMap Try.prog 3 RV b n D) (h2 : Dm D ds) (hf : ff ds k = some y) (h3 : w'.ownsMap Try.prog 3 RV b m (D.del (.int .i64 k))) (hk : ∀ x, x < w.heap.size → x ≠ b → w'.heap[x]? = w.heap[x]?) (hs : w.heap.size ≤ w'.heap.size) : Nt w' (fun j => F j ∧ ¬ (fv y).ownBlock = some j) p b (outD ds k) g := by
  have hys := ff_mem hf
  have hm : ∀ {x : FD}, x ∈ outD ds k → x ∈ ds := fun hx => (List.mem_filter.1 hx).1
  refine ⟨(hk p h.blk.lt h.pb).trans h.blk, ⟨_, tight h3, h2.drop (h1.tidy lawI) h.ok.ord hf⟩, fun x hx => row_same (h.own x (hm hx)) fun j e => ?_, h.apart.filter _, ⟨h.fp, fun e => (h.ty hys.1 e).2.1 rfl⟩, ⟨h.fb, fun e => (h.ty hys.1 e).2.2 rfl⟩, fun x hx j e => ⟨h.fd x (hm hx) j e, ?_⟩, fun j e => Nat.lt_of_lt_of_le (h.lt j e.1) hs, ?_⟩
  · obtain ⟨q1, q2, q3⟩ := h.ty (hm hx) e
    exact hk j q1 q3
  · have hne : x ≠ y := fun q => by
      have := (List.mem_filter.1 hx).2
      rw [q, hys.2] at this
      simp at this
    exact apart_ne h.apart (hm hx) hys.1 hne j e
  · rw [outD_map]
    exact h.ok.out
theorem alloc2 (w : World) (o o' : Obj) : Below w.heap.size w ((w.alloc o).alloc o') := ((Below.refl w.heap.size w).alloc (Nat.le_refl _) _).alloc (by simp) _
section
variable {w : World} {F : Nat → Prop} {p : Nat} {L : List Fl} {g : Int}
set_option maxHeartbeats 2000000 in
theorem take_ (k : Int) (hk : i64r k) (h : Net w F p L g) :
    Calls Try.prog 13 #[.pointer (some ⟨p, 0, none⟩), .int .i64 k] w fun e w' => ∃ a c f er V, e = .returned (.tuple #[.agg #[.int .i64 f.no, .int .i64 f.to, .slice a f.d.length c], .int .i64 er]) ∧ TkV L k w' a c f er V ∧ (∀ j, V j → F j) ∧ Net w' (fun j => F j ∧ ¬ V j) p (outL L k) g ∧ Fx F w w' := by
  obtain ⟨b, ds, rfl, h⟩ := h
  have HH := hid h
  have c0 := h.blk.c0
  obtain ⟨D, h1, h2⟩ := h.map
  have HD := hid h1
  have HDM := hid h2
  have HK := hid hk
  have hlt := h.blk.lt
  clear h h1 h2
  cases hf : ff ds k with
  | none =>
    have HF := hid hf
    have hfn : fnd (ds.map (·.f)) k = none := by rw [ff_fnd, hf]; rfl
    have HFN := hid hfn
    clear hf hfn
    go_enter Try.func13, Try.ntmps13
    go_wp2_with (first | (at_lookup; refine wp_look_no rfl _ _ rfl b _ D ds rfl (by exact HD.out.alloc _) HDM.out k HK.out rfl HF.out ?_) | fail)
    have hB := alloc2 w (.cells #[.int .i64 0, .int .i64 0, .slice none 0 0] 34) (.cells #[.int .i64 0, .int .i64 0, .slice none 0 0] 34)
    refine bodyPost_ret (v := .tuple #[.agg #[.int .i64 0, .int .i64 0, .slice none 0 0], .int .i64 218]) ?_ rfl ?_
    · exact results_fl (v := w.heap.size) rfl _ _ _ rfl rfl ((Below.heap_alloc _ _ _ (by simp)).trans (Fm.new w 0 0 none 0 0))
    · refine ⟨none, 0, fl0, 218, fun _ => False, rfl, ⟨by rw [HFN.out]; rfl, by unfold erN; rw [HFN.out]; rfl, vs_none _ _⟩, fun j e => e.elim, ⟨b, ds, (outL_none HFN.out).symm, (HH.out.on hB).wide (fun j e => ⟨e, fun q => q⟩) fun j e => Nat.lt_of_lt_of_le (HH.out.lt j e.1) hB.size⟩, Fx.of _ hB⟩
  | some y =>
    have HF := hid hf
    clear hf
    have hys := ff_mem HF.out
    have HVS : Hid (Vs w (fun x => (fv y).ownBlock = some x) y.a y.f.d.length y.c y.f.d) := by
      obtain ⟨a, c, e2, hv⟩ := Vs.own (HH.out.own y hys.1) (HH.out.ok.byt y.f (List.mem_map_of_mem hys.1)).1
      obtain ⟨rfl, rfl⟩ : y.a = a ∧ y.c = c := by simpa [fv] using e2
      exact hv
    have HYM := hid hys
    clear hys
    obtain ⟨⟨no, to, d⟩, a, c⟩ := y
    obtain ⟨n, HN⟩ : ∃ n, Hid (d.length = n) := ⟨_, rfl⟩
    have hB := alloc2 w (.cells #[.int .i64 0, .int .i64 0, .slice none 0 0] 34) (.cells #[.int .i64 no, .int .i64 to, .slice a n c] 34)
    have hR : Fm ((w.alloc (.cells #[.int .i64 0, .int .i64 0, .slice none 0 0] 34)).alloc (.cells #[.int .i64 no, .int .i64 to, .slice a n c] 34)) w.heap.size 0 0 none 0 0 := (Below.heap_alloc _ _ _ (by simp)).trans (Fm.new w 0 0 none 0 0)
    have hV : Fm ((w.alloc (.cells #[.int .i64 0, .int .i64 0, .slice none 0 0] 34)).alloc (.cells #[.int .i64 no, .int .i64 to, .slice a n c] 34)) (w.heap.size + 1) no to a n c := by
      have := Fm.new (w.alloc (.cells #[.int .i64 0, .int .i64 0, .slice none 0 0] 34)) no to a n c
      rw [World.size_alloc] at this
      exact this
    have HB := hid hB
    have HR := hid hR
    have HV := hid hV
    clear hB hR hV
    obtain ⟨w1, HW1⟩ : ∃ z, Hid ((w.alloc (.cells #[.int .i64 0, .int .i64 0, .slice none 0 0] 34)).alloc (.cells #[.int .i64 no, .int .i64 to, .slice a n c] 34) = z) := ⟨_, rfl⟩
    rw [HW1.out] at HB HR HV
    have HD1 : Hid (w1.ownsMap Try.prog 3 RV b (Maps.size D) D) := own_same HD.out (HB.out.block b HD.out.lt)
    have HDR : Hid (∀ w2, w2.ownsMap Try.prog 3 RV b (Maps.size D) (D.del (.int .i64 k)) → w1.grownBy w2 (some b) → w2.cell? ⟨w.heap.size + 1, 0, none⟩ = some (.int .i64 no) ∧ w2.cell? ⟨w.heap.size + 1, 1, none⟩ = some (.int .i64 to) ∧ w2.cell? ⟨w.heap.size + 1, 2, none⟩ = some (.slice a n c) ∧ w2.cell? ⟨w.heap.size, 0, none⟩ = some (.int .i64 0) ∧ w2.cell? ⟨w.heap.size, 1, none⟩ = some (.int .i64 0) ∧ w2.cell? ⟨w.heap.size, 2, none⟩ = some (.slice none 0 0) ∧ w2.frozen? ⟨w.heap.size, 0, none⟩ = false ∧ w2.frozen? ⟨w.heap.size, 1, none⟩ = false ∧ w2.frozen? ⟨w.heap.size, 2, none⟩ = false ∧ Hid (Fm w2 w.heap.size 0 0 none 0 0) ∧ Hid (w2.ownsMap Try.prog 3 RV b (Maps.size D) (D.del (.int .i64 k))) ∧ Hid (w1.grownBy w2 (some b))) := by
      intro w2 ho hg
      have hbl := HD.out.lt
      have e1 : Fm w2 w.heap.size 0 0 none 0 0 := (hg.block _ (Array.getElem?_eq_some_iff.1 HR.out).1 (by simp; omega)).trans HR.out
      have e2 : Fm w2 (w.heap.size + 1) no to a n c := (hg.block _ (Array.getElem?_eq_some_iff.1 HV.out).1 (by simp; omega)).trans HV.out
      exact ⟨e2.c0, e2.c1, e2.c2, e1.c0, e1.c1, e1.c2, e1.fz 0, e1.fz 1, e1.fz 2, e1, ho, hg⟩
    go_enter Try.func13, Try.ntmps13
    go_wp2_with (first | (at_lookup; refine wp_look_yes rfl _ _ rfl b _ D ds rfl (by exact HD.out.alloc _) HDM.out k HK.out rfl _ HF.out ?_; rw [HN.out]) | (at_delete; rw [HW1.out]; refine wpList_delete_own _ rfl _ _ 48 3 rfl 34 lawI Try.underlying48 RV b _ D rfl HD1.out _ (.int .i64 k) rfl (key_int HK.out) ?_; intro w2 ho ht; obtain ⟨x0, x1, x2, y0, y1, y2, z0, z1, z2, HR2, HO2, HG2⟩ := HDR.out w2 ho ht.grown; clear ho ht) | fail)
    have hS := HR2.out.set3 no to a n c
    refine bodyPost_ret (v := .tuple #[.agg #[.int .i64 no, .int .i64 to, .slice a n c], .int .i64 0]) ?_ rfl ?_
    · exact results_fl (v := w.heap.size) rfl _ _ _ rfl rfl hS
    · have hb2 : ∀ x, x < w.heap.size → x ≠ b → (((w2.setCell ⟨w.heap.size, 0, none⟩ (.int .i64 no)).setCell ⟨w.heap.size, 1, none⟩ (.int .i64 to)).setCell ⟨w.heap.size, 2, none⟩ (.slice a n c)).heap[x]? = w.heap[x]? := fun x hx hxb => by
        rw [set3_other (by omega)]
        exact (HG2.out.block x (by have := HB.out.size; omega) (by simpa using hxb)).trans (HB.out.block x hx)
      have hsz : w.heap.size ≤ (((w2.setCell ⟨w.heap.size, 0, none⟩ (.int .i64 no)).setCell ⟨w.heap.size, 1, none⟩ (.int .i64 to)).setCell ⟨w.heap.size, 2, none⟩ (.slice a n c)).heap.size := by
        have h1 := HG2.out.size
        have h2 := HB.out.size
        simp [World.setCell]
        omega
      have ho3 := own_same (w' := ((w2.setCell ⟨w.heap.size, 0, none⟩ (.int .i64 no)).setCell ⟨w.heap.size, 1, none⟩ (.int .i64 to)).setCell ⟨w.heap.size, 2, none⟩ (.slice a n c)) HO2.out (set3_other (by have := HD.out.lt; omega) _ _ _)
      have hos : (((w2.setCell ⟨w.heap.size, 0, none⟩ (.int .i64 no)).setCell ⟨w.heap.size, 1, none⟩ (.int .i64 to)).setCell ⟨w.heap.size, 2, none⟩ (.slice a n c)).os = w.os ∧ (((w2.setCell ⟨w.heap.size, 0, none⟩ (.int .i64 no)).setCell ⟨w.heap.size, 1, none⟩ (.int .i64 to)).setCell ⟨w.heap.size, 2, none⟩ (.slice a n c)).tape = w.tape ∧ (((w2.setCell ⟨w.heap.size, 0, none⟩ (.int .i64 no)).setCell ⟨w.heap.size, 1, none⟩ (.int .i64 to)).setCell ⟨w.heap.size, 2, none⟩ (.slice a n c)).output = w.output := ⟨HG2.out.os.trans HB.out.os, HG2.out.tape.trans HB.out.tape, HG2.out.output.trans HB.out.output⟩
      have hfn : fnd (ds.map (·.f)) k = some ⟨no, to, d⟩ := by rw [ff_fnd, HF.out]; rfl
      refine ⟨a, c, ⟨no, to, d⟩, 0, by rw [← HN.out], fun x => (fv ⟨⟨no, to, d⟩, a, c⟩).ownBlock = some x, ⟨by rw [hfn]; rfl, by unfold erN; rw [hfn]; rfl, HVS.out.step fun x hx _ hx' => hb2 x hx (fun e => by subst e; obtain ⟨es, cl, hb, _⟩ := HD.out; exact hx' es cl hb)⟩, fun j e => HH.out.fd _ HYM.out.1 j e, ⟨b, outD ds k, outD_map ds k, HH.out.drop HD.out HDM.out HF.out ho3 hb2 hsz⟩, ⟨hos.1, hos.2.1, hos.2.2, hsz, fun x hx hF => hb2 x hx (fun e => hF (by rw [e]; exact HH.out.fb))⟩⟩
set_option maxHeartbeats 2000000 in
theorem drop_ (k : Int) (hk : i64r k) (h : Net w F p L g) :
    Calls Try.prog 18 #[.pointer (some ⟨p, 0, none⟩), .int .i64 k] w fun e w' => e = .returned (.int .i64 (erN L k)) ∧ Net w' F p (outL L k) g ∧ Fx F w w' := by
  have k1 := take_ k hk h
  have HLT := hid h.lt
  clear h
  go_enter Try.func18, Try.ntmps18
  go_wp2_with fail
  refine k1.mono ?_
  rintro e w1 ⟨a, c, f, er, V, rfl, ht, hVF, h1', h2⟩
  have h1 : Net w1 F p (outL L k) g := h1'.wide (fun j e => e.1) fun j e => Nat.lt_of_lt_of_le (HLT.out j e) h2.size
  have H1 := hid h1
  have H2 := hid h2
  have HT : Hid (er = erN L k) := ht.2.1
  clear k1 ht h1 h2 h1' hVF
  go_wp2_with fail
  go_ret
  exact ⟨by rw [← HT.out]; rfl, H1.out.fx ((Fx.refl (fun _ => False) w1).alloc _) (fun _ _ e => e), H2.out.alloc _⟩
end
section
variable {w : World} {F : Nat → Prop} {p : Nat} {L : List Fl} {g : Int}
/-- Send, whatever is under way. -/
theorem send_ (to : Int) (a : Option Addr) (n c : Nat) (d : List Int) (V : Nat → Prop) (h : Net w F p L g) (hd : Vs w V a n c d) (hV : ∀ k, V k → k ≠ p) (hn : n ≤ 65536) (hto : i64r to) (hg : g ≤ 1000000000) :
    Calls Try.prog 6 #[.pointer (some ⟨p, 0, none⟩), .int .i64 to, .slice a n c] w fun e w' => e = .returned (.int .i64 (sndA L g)) ∧ Net w' (Gr F w w') p (sndL L g to d) (sndG L g) ∧ Fx F w w' := by
  unfold sndA sndL sndG
  by_cases hl : L.length < 1024
  · simp only [if_pos hl]
    exact send_yes to a n c d V h hl hd hV hn hto hg
  · simp only [if_neg hl]
    refine (send_no to a n c h hl).mono ?_
    rintro e w' ⟨rfl, rfl⟩
    exact ⟨rfl, h.gr h.lt (Nat.le_refl _), Fx.refl _ _⟩
def cpyA (L : List Fl) (g k : Int) : Int := if (fnd L k).isSome then sndA L g else 0
def cpyL (L : List Fl) (g k : Int) : List Fl := match fnd L k with
  | some f => sndL L g f.to f.d
  | none => L
def cpyG (L : List Fl) (g k : Int) : Int := if (fnd L k).isSome then sndG L g else g
set_option maxHeartbeats 2000000 in
theorem copy_ (k : Int) (hk : i64r k) (h : Net w F p L g) (hg : g ≤ 1000000000) :
    Calls Try.prog 8 #[.pointer (some ⟨p, 0, none⟩), .int .i64 k] w fun e w' => e = .returned (.tuple #[.int .i64 (cpyA L g k), .int .i64 (erN L k)]) ∧ Net w' (Gr F w w') p (cpyL L g k) (cpyG L g k) ∧ Fx F w w' := by
  obtain ⟨b, ds, rfl, h⟩ := h
  have HH := hid h
  have c0 := h.blk.c0
  obtain ⟨D, h1, h2⟩ := h.map
  have HD := hid h1
  have HDM := hid h2
  have HK := hid hk
  have hlt := h.blk.lt
  clear h h1 h2
  cases hf : ff ds k with
  | none =>
    have HF := hid hf
    have hfn : fnd (ds.map (·.f)) k = none := by rw [ff_fnd, hf]; rfl
    have e1 : cpyA (ds.map (·.f)) g k = 0 := by unfold cpyA; rw [hfn]; rfl
    have e2 : cpyL (ds.map (·.f)) g k = ds.map (·.f) := by unfold cpyL; rw [hfn]
    have e3 : cpyG (ds.map (·.f)) g k = g := by unfold cpyG; rw [hfn]; rfl
    have e4 : erN (ds.map (·.f)) k = 218 := by unfold erN; rw [hfn]; rfl
    rw [e1, e2, e3, e4]
    clear hf hfn e1 e2 e3 e4
    go_enter Try.func8, Try.ntmps8
    go_wp2_with (first | (at_lookup; refine wp_look_no rfl _ _ rfl b _ D ds rfl HD.out HDM.out k HK.out rfl HF.out ?_) | fail)
    go_ret2
    have hB : Below w.heap.size w (w.alloc (.cells #[.int .i64 0, .int .i64 0, .slice none 0 0] 34)) := (Below.refl w.heap.size w).alloc (Nat.le_refl _) _
    exact ⟨rfl, Net.gr ⟨b, ds, rfl, HH.out.on hB⟩ HH.out.lt hB.size, Fx.of _ hB⟩
  | some y =>
    have HF := hid hf
    have hfn : fnd (ds.map (·.f)) k = some y.f := by rw [ff_fnd, hf]; rfl
    have e1 : cpyA (ds.map (·.f)) g k = sndA (ds.map (·.f)) g := by unfold cpyA; rw [hfn]; rfl
    have e2 : cpyL (ds.map (·.f)) g k = sndL (ds.map (·.f)) g y.f.to y.f.d := by unfold cpyL; rw [hfn]
    have e3 : cpyG (ds.map (·.f)) g k = sndG (ds.map (·.f)) g := by unfold cpyG; rw [hfn]; rfl
    have e4 : erN (ds.map (·.f)) k = 0 := by unfold erN; rw [hfn]; rfl
    rw [e1, e2, e3, e4]
    clear hf hfn e1 e2 e3 e4
    have hys := ff_mem HF.out
    have hok := HH.out.ok.byt y.f (List.mem_map_of_mem hys.1)
    have hvs : Vs w (fun x => x ≠ p) y.a y.f.d.length y.c y.f.d := by
      obtain ⟨a, c, e2, hv⟩ := Vs.own (HH.out.own y hys.1) hok.1
      obtain ⟨rfl, rfl⟩ : y.a = a ∧ y.c = c := by simpa [fv] using e2
      exact hv.wide fun x _ e => (HH.out.ty hys.1 e).2.1
    have HVS := hid hvs
    have HOK := hid hok
    clear hys hvs hok
    obtain ⟨⟨no, to, d⟩, a, c⟩ := y
    obtain ⟨n, HN⟩ : ∃ n, Hid (d.length = n) := ⟨_, rfl⟩
    have hB : Below w.heap.size w (w.alloc (.cells #[.int .i64 no, .int .i64 to, .slice a n c] 34)) := (Below.refl w.heap.size w).alloc (Nat.le_refl _) _
    have HB := hid hB
    have k1 := send_ (w := w.alloc (.cells #[.int .i64 no, .int .i64 to, .slice a n c] 34)) (p := p) (g := g) to a n c d (fun x => x ≠ p) ⟨b, ds, rfl, HH.out.on hB⟩ (by have := HVS.out.step (w' := w.alloc (.cells #[.int .i64 no, .int .i64 to, .slice a n c] 34)) fun x hx _ _ => hB.block x hx; simp only [HN.out] at this; exact this) (fun x e => e) (by have := HOK.out.2.1; simp only [HN.out] at this; exact this) HOK.out.2.2 hg
    clear hB
    go_enter Try.func8, Try.ntmps8
    go_wp2_with (first | (at_lookup; refine wp_look_yes rfl _ _ rfl b _ D ds rfl HD.out HDM.out k HK.out rfl _ HF.out ?_; rw [HN.out]) | fail)
    refine k1.mono ?_
    rintro e w1 ⟨rfl, h1, h2⟩
    have H1 := hid h1
    have H2 := hid h2
    clear k1 h1 h2
    go_wp2_with fail
    go_ret2
    exact ⟨rfl, H1.out.wide (fun x e => ⟨e.1.imp id (Nat.le_trans HB.out.size), e.2⟩) (fun x e => e.2), (Fx.of F HB.out).trans H2.out⟩
/-! Flip. -/
def fl1 (k : Int) (i : Nat) (v : Int) (x : FD) : FD := if x.f.no = k then { x with f := flipF x.f i v } else x
theorem flip_len (f : Fl) (i : Nat) (v : Int) : (flipF f i v).d.length = f.d.length := by simp [flipF]
theorem fl1_fv (k : Int) (i : Nat) (v : Int) (x : FD) : fv (fl1 k i v x) = fv x := by
  unfold fl1
  split
  · unfold fv; rw [flip_len]
  · rfl
theorem fl1_fag (k : Int) (i : Nat) (v : Int) (x : FD) : fag (fl1 k i v x) = fag x := by
  unfold fag
  rw [fl1_fv]
  unfold fl1
  split <;> rfl
theorem fl1_no (k : Int) (i : Nat) (v : Int) (x : FD) : (fl1 k i v x).f.no = x.f.no := by unfold fl1; split <;> rfl
theorem fl1_map (ds : List FD) (k : Int) (i : Nat) (v : Int) : (ds.map (fl1 k i v)).map (·.f) = flipL (ds.map (·.f)) k i v := by
  unfold flipL
  rw [List.map_map, List.map_map]
  congr 1
  funext x
  simp only [Function.comp]
  unfold fl1
  split <;> rfl
theorem ff_fl (ds : List FD) (k : Int) (i : Nat) (v : Int) (k' : Int) : ff (ds.map (fl1 k i v)) k' = (ff ds k').map (fl1 k i v) := by
  unfold ff
  rw [List.find?_map]
  congr 2
  funext x
  simp only [Function.comp]
  rw [fl1_no]
theorem Dm.flip {D : DataW Value} {ds : List FD} (h : Dm D ds) (k : Int) (i : Nat) (v : Int) : Dm D (ds.map (fl1 k i v)) := by
  refine ⟨by rw [h.size, List.length_map], fun k' => by rw [h.has, ff_fl]; simp, fun k' x hx z => ?_⟩
  rw [ff_fl] at hx
  obtain ⟨y, hy, rfl⟩ := Option.map_eq_some_iff.1 hx
  rw [fl1_fag]
  exact h.val k' y hy z
theorem Nt.flip {b : Nat} {ds : List FD} {k v : Int} {i gk : Nat} {y : FD} (h : Nt w F p b ds g) (hf : ff ds k = some y) (he : (fv y).ownBlock = some gk) (hi : i < y.f.d.length) : Nt (w.setCell ⟨gk, i, none⟩ (.int .u8 (bits .xor .u8 (y.f.d.getD i 0) v))) F p b (ds.map (fl1 k i v)) g := by
  have hys := ff_mem hf
  have hty := h.ty hys.1 he
  have hk : ∀ x, x ≠ gk → (w.setCell ⟨gk, i, none⟩ (.int .u8 (bits .xor .u8 (y.f.d.getD i 0) v))).heap[x]? = w.heap[x]? := fun x hx => Below.heap_setCell _ _ _ _ hx
  have hs : (w.setCell ⟨gk, i, none⟩ (.int .u8 (bits .xor .u8 (y.f.d.getD i 0) v))).heap.size = w.heap.size := by simp [World.setCell]
  obtain ⟨D, h1, h2⟩ := h.map
  refine ⟨(hk p (Ne.symm hty.2.1)).trans h.blk, ⟨D, own_same h1 (hk b (Ne.symm hty.2.2)), h2.flip k i v⟩, fun x hx => ?_, ?_, h.fp, h.fb, fun x hx j e => ?_, fun j e => by rw [hs]; exact h.lt j e, ?_⟩
  · obtain ⟨x, hxm, rfl⟩ := List.mem_map.1 hx
    rw [fl1_fv]
    by_cases e : x.f.no = k
    · have e2 : x = y := by
        have := ff_of_mem h.ok.ord hxm
        rw [e, hf] at this
        exact (Option.some.inj this).symm
      subst e2
      have ho := h.own x hxm
      obtain ⟨a, c, e3, _, _, _, h4⟩ := own_addr ho
      rcases h4 with ⟨_, h0⟩ | ⟨q, rfl, _, _, _⟩
      · omega
      rw [e3] at ho he ⊢
      obtain rfl : q = gk := by simpa [Value.ownBlock] using he
      have hst := ho.stored i (.int .u8 (bits .xor .u8 (x.f.d.getD i 0) v))
      unfold fl1
      rw [if_pos e]
      show World.ownsRow _ 0 5 1 _ (flipF x.f i v).d.length (cells (flipF x.f i v).d)
      rw [flip_len]
      unfold flipF
      simp only [cells, List.map_set]
      exact hst.1
    · unfold fl1
      rw [if_neg e]
      refine row_same (h.own x hxm) fun j ej => hk j fun q => ?_
      subst q
      have hne : x ≠ y := fun q => e (by rw [q]; exact hys.2)
      exact absurd he (apart_ne h.apart hxm hys.1 hne _ ej)
  · unfold Apart
    rw [List.pairwise_map]
    refine List.Pairwise.imp ?_ h.apart
    intro x z q j
    rw [fl1_fv, fl1_fv]
    exact q j
  · obtain ⟨x, hxm, rfl⟩ := List.mem_map.1 hx
    rw [fl1_fv] at e
    exact h.fd x hxm j e
  · rw [fl1_map]
    exact h.ok.flip
def flE (L : List Fl) (k at' x : Int) : Int := match fnd L k with
  | none => 218
  | some f => if at' < 0 ∨ (f.d.length : Int) ≤ at' ∨ x < 1 ∨ 255 < x then 2 else 0
def flL (L : List Fl) (k at' x : Int) : List Fl := if flE L k at' x = 0 then flipL L k at'.toNat x else L
set_option maxHeartbeats 2000000 in
theorem flip_ (k at' x : Int) (hk : i64r k) (ha : i64r at') (hx : i64r x) (h : Net w F p L g) :
    Calls Try.prog 10 #[.pointer (some ⟨p, 0, none⟩), .int .i64 k, .int .i64 at', .int .i64 x] w fun e w' => e = .returned (.int .i64 (flE L k at' x)) ∧ Net w' F p (flL L k at' x) g ∧ Fx F w w' := by
  obtain ⟨b, ds, rfl, h⟩ := h
  have HH := hid h
  have c0 := h.blk.c0
  obtain ⟨D, h1, h2⟩ := h.map
  have HD := hid h1
  have HDM := hid h2
  have HK := hid hk
  have hlt := h.blk.lt
  unfold i64r at ha hx
  clear h h1 h2 hk
  cases hf : ff ds k with
  | none =>
    have HF := hid hf
    have hfn : fnd (ds.map (·.f)) k = none := by rw [ff_fnd, hf]; rfl
    have e1 : flE (ds.map (·.f)) k at' x = 218 := by unfold flE; rw [hfn]
    have e2 : flL (ds.map (·.f)) k at' x = ds.map (·.f) := by unfold flL; rw [e1]; rfl
    rw [e1, e2]
    clear hf hfn e1 e2
    go_enter Try.func10, Try.ntmps10
    go_wp2_with (first | (at_lookup; refine wp_look_no rfl _ _ rfl b _ D ds rfl HD.out HDM.out k HK.out rfl HF.out ?_) | fail)
    go_ret
    have hB : Below w.heap.size w (w.alloc (.cells #[.int .i64 0, .int .i64 0, .slice none 0 0] 34)) := (Below.refl w.heap.size w).alloc (Nat.le_refl _) _
    exact ⟨rfl, ⟨b, ds, rfl, HH.out.on hB⟩, Fx.of _ hB⟩
  | some y =>
    have HF := hid hf
    have hfn : fnd (ds.map (·.f)) k = some y.f := by rw [ff_fnd, hf]; rfl
    have HFN := hid hfn
    have hys := ff_mem hf
    have HYS := hid hys
    have hok := HH.out.ok.byt y.f (List.mem_map_of_mem hys.1)
    have hnl : y.f.d.length ≤ 65536 := hok.2.1
    clear hf hfn hys hok
    obtain ⟨n, HN⟩ : ∃ n, Hid (y.f.d.length = n) := ⟨_, rfl⟩
    rw [HN.out] at hnl
    have hB : Below w.heap.size w (w.alloc (.cells #[.int .i64 y.f.no, .int .i64 y.f.to, .slice y.a n y.c] 34)) := (Below.refl w.heap.size w).alloc (Nat.le_refl _) _
    have HB := hid hB
    clear hB
    by_cases hbad : at' < 0 ∨ (n : Int) ≤ at' ∨ x < 1 ∨ 255 < x
    · have e1 : flE (ds.map (·.f)) k at' x = 2 := by unfold flE; rw [HFN.out]; simp only [HN.out]; rw [if_pos hbad]
      have e2 : flL (ds.map (·.f)) k at' x = ds.map (·.f) := by unfold flL; rw [e1]; rfl
      rw [e1, e2]
      clear e1 e2
      have h4 : at' < 0 ∨ (¬ at' < 0 ∧ (n : Int) ≤ at') ∨ (¬ at' < 0 ∧ ¬ (n : Int) ≤ at' ∧ x < 1) ∨ (¬ at' < 0 ∧ ¬ (n : Int) ≤ at' ∧ ¬ x < 1 ∧ 255 < x) := by omega
      clear hbad
      rcases h4 with q1 | ⟨q1, q2⟩ | ⟨q1, q2, q3⟩ | ⟨q1, q2, q3, q4⟩
      all_goals
        go_enter Try.func10, Try.ntmps10
        go_wp2_with (first | (at_lookup; refine wp_look_yes rfl _ _ rfl b _ D ds rfl HD.out HDM.out k HK.out rfl _ HF.out ?_; rw [HN.out]) | fail)
        go_ret
        exact ⟨rfl, ⟨b, ds, rfl, HH.out.on HB.out⟩, Fx.of _ HB.out⟩
    · have e1 : flE (ds.map (·.f)) k at' x = 0 := by unfold flE; rw [HFN.out]; simp only [HN.out]; rw [if_neg hbad]
      have e2 : flL (ds.map (·.f)) k at' x = flipL (ds.map (·.f)) k at'.toNat x := by unfold flL; rw [e1]; rfl
      rw [e1, e2]
      clear e1 e2
      obtain ⟨i, rfl⟩ : ∃ i : Nat, at' = i := ⟨at'.toNat, by omega⟩
      have hin : i < n := by omega
      have hI : (i : Int) < n := by omega
      have q3 : ¬ x < 1 := by omega
      have q4 : ¬ 255 < x := by omega
      have hcv : IntKind.u8.wrap x = x := by rw [IntKind.wrap_u8]; omega
      clear hbad
      obtain ⟨gk, hya, hgk⟩ : ∃ gk, y.a = some ⟨gk, 0, none⟩ ∧ gk < w.heap.size := by
        obtain ⟨a, c, e3, _, _, _, h4⟩ := own_addr (HH.out.own y HYS.out.1)
        rcases h4 with ⟨_, h0⟩ | ⟨q, rfl, _, hq, _⟩
        · have := HN.out; omega
        · exact ⟨q, by unfold fv at e3; injection e3, hq⟩
      have hob : (fv y).ownBlock = some gk := by unfold fv; rw [hya]; rfl
      have ho := HH.out.own y HYS.out.1
      have hfz : w.frozen? ⟨gk, i, none⟩ = false := by
        obtain ⟨cur, hc⟩ := row_type ho hob
        simp [World.frozen?, hc]
      have hcell : w.cell? ⟨gk, i, none⟩ = some (.int .u8 (y.f.d.getD i 0)) := by
        have := ho.cells hob i (.int .u8 (y.f.d.getD i 0)) (cells_get _ i (by rw [HN.out]; exact hin))
        rw [Addr.add_lit, Nat.zero_add] at this
        exact this
      have HFL := hid ((HH.out.flip (v := x) HF.out hob (by rw [HN.out]; exact hin)).on ((Below.refl _ _).alloc (Nat.le_refl _) (.cells #[.int .i64 y.f.no, .int .i64 y.f.to, .slice y.a n y.c] 34)))
      have HFX : Hid (Fx F w ((w.setCell ⟨gk, i, none⟩ (.int .u8 (bits .xor .u8 (y.f.d.getD i 0) x))).alloc (.cells #[.int .i64 y.f.no, .int .i64 y.f.to, .slice y.a n y.c] 34))) := ((Fx.refl F w).set (HH.out.fd y HYS.out.1 gk hob) _).alloc _
      rw [hya] at HFL HFX
      have HFM := hid (fl1_map ds k i x)
      clear ho hob HB
      obtain ⟨⟨no, to, d⟩, a, c⟩ := y
      simp only at hya HN hcell HFL HFX
      subst hya
      obtain ⟨z, HZ⟩ : ∃ z, Hid (d.getD i 0 = z) := ⟨_, rfl⟩
      rw [HZ.out] at hcell HFL HFX
      go_enter Try.func10, Try.ntmps10
      go_wp2_with (first | (at_lookup; refine wp_look_yes rfl _ _ rfl b _ D ds rfl HD.out HDM.out k HK.out rfl _ HF.out ?_; simp only []; rw [HN.out]) | fail)
      go_ret
      exact ⟨rfl, ⟨b, _, HFM.out, HFL.out⟩, HFX.out⟩
end
end Go.Proofs.Ythflghjmpellpaa
