import Derived.Test.YteeapmcpbmjpmaaGreatTH
namespace Go.Proofs.YteeapmcpbmjpmaaGreat
set_option maxRecDepth 100000
open Go.RowKit Go.Maps
set_option linter.unusedVariables false

theorem Lies.only {w w' : World} {g r : Nat} {a : Option Addr} {n c : Nat} {zs : List Int} (h : Lies w g a n c zs) (ho : Only r w w') (hne : g ≠ r) : Lies w' g a n c zs := h.kept fun _ => ho.block g hne
theorem Lies.vs {w : World} {g : Nat} {a : Option Addr} {n c : Nat} {zs : List Int} (h : Lies w g a n c zs) : Vs w (fun x => x = g) a n c zs := by
  refine ⟨h.bs, h.2.1, h.2.2.1, fun e => ?_, fun ad e hn => ?_⟩
  · rcases h.2.2.2.2 with ⟨_, _, h⟩ | ⟨off, cur, e', _⟩
    · exact h
    · rw [e] at e'; cases e'
  · rcases h.2.2.2.2 with ⟨h, _⟩ | ⟨off, cur, e', _⟩
    · rw [e] at h; cases h
    · rw [e] at e'
      obtain rfl := Option.some.inj e'
      rfl
theorem Rs.kept {w w' : World} {r g tot : Nat} {st : Option (List Int)} (h : Rs w r g st tot) (hr : w'.heap[r]? = w.heap[r]?) (hk : g < w.heap.size → w'.heap[g]? = w.heap[g]?) : Rs w' r g st tot := by
  cases st with
  | none =>
    obtain ⟨p, e, hb⟩ := h
    exact ⟨p, e, hb.kept hr⟩
  | some zs => exact ⟨h.1.kept hr hk, h.2⟩
theorem Rs.lt {w : World} {r g tot : Nat} {st : Option (List Int)} (h : Rs w r g st tot) : r < w.heap.size := by
  cases st with
  | none =>
    obtain ⟨p, e, hb⟩ := h
    exact hb.lt
  | some zs => exact h.1.lt
theorem set3 {w : World} {q : Nat} {x0 x1 x2 a b c : Value} {T : TypeId} (h : w.heap[q]? = some (.cells #[x0, x1, x2] T (0, 0))) : (((w.setCell ⟨q, 0, none⟩ a).setCell ⟨q, 1, none⟩ b).setCell ⟨q, 2, none⟩ c).heap[q]? = some (.cells #[a, b, c] T (0, 0)) := by
  simp [World.setCell, Array.getElem?_modify, h]
theorem set3_other {w : World} {q j : Nat} {a b c : Value} (h : j ≠ q) : (((w.setCell ⟨q, 0, none⟩ a).setCell ⟨q, 1, none⟩ b).setCell ⟨q, 2, none⟩ c).heap[j]? = w.heap[j]? := by
  simp [World.setCell, Array.getElem?_modify, Ne.symm h]
theorem sizeS : (Tryz.prog.info? 44).map (·.size) = some 3 := by kernel_rfl
set_option maxHeartbeats 1000000 in
theorem readSet_ (r g tot : Nat) (st : Option (List Int)) (w : World) (h : Rs w r g st tot) (ht : tot ≤ 400000000) (hgr : g ≠ r) (hgl : g < w.heap.size) :
    Calls Tryz.prog 75 #[.pointer (some ⟨r, 0, none⟩)] w fun en w' => ∃ d : SD, d.s = (rdT st).1 ∧ en = .returned (.agg (sdc d).toArray) ∧ SV w' (fun x => x = g) d ∧ Rs w' r g (rdT st).2 tot ∧ w.grownBy w' (some r) := by
  obtain ⟨s1, E1⟩ : ∃ s, Hid ((gt 1 st).2 = s) := ⟨_, rfl⟩
  obtain ⟨x, X1⟩ : ∃ s, Hid ((gt 1 st).1 = s) := ⟨_, rfl⟩
  obtain ⟨s2, E2⟩ : ∃ s, Hid ((gt 1 s1).2 = s) := ⟨_, rfl⟩
  obtain ⟨y, X2⟩ : ∃ s, Hid ((gt 1 s1).1 = s) := ⟨_, rfl⟩
  obtain ⟨s3, E3⟩ : ∃ s, Hid ((gt 2 s2).2 = s) := ⟨_, rfl⟩
  obtain ⟨z, X3⟩ : ∃ s, Hid ((gt 2 s2).1 = s) := ⟨_, rfl⟩
  obtain ⟨s4, E4⟩ : ∃ s, Hid ((tk y.toNat s3).2 = s) := ⟨_, rfl⟩
  obtain ⟨k, X4⟩ : ∃ s, Hid ((tk y.toNat s3).1 = s) := ⟨_, rfl⟩
  obtain ⟨s5, E5⟩ : ∃ s, Hid ((tk z.toNat s4).2 = s) := ⟨_, rfl⟩
  obtain ⟨v, X5⟩ : ∃ s, Hid ((tk z.toNat s4).1 = s) := ⟨_, rfl⟩
  have HR : Hid (rdT st = (⟨k, v, decide (x = 0)⟩, s5)) := by
    show rdT st = _
    unfold rdT
    rw [E1.out, X1.out, E2.out, X2.out, E3.out, X3.out, E4.out, X4.out, E5.out, X5.out]
  rw [HR.out]
  have k1 := fun wx (h : Rs wx r g st tot) => rs_get8 r g tot st wx h ht
  have k2 := fun wx (h : Rs wx r g s1 tot) => rs_get8 r g tot s1 wx h ht
  have k3 := fun wx (h : Rs wx r g s2 tot) => rs_get16 r g tot s2 wx h ht
  have b1 : ∀ wx, Rs wx r g s1 tot → 0 ≤ y ∧ y < 256 := fun wx h => by rw [← X2.out]; exact gt_bound 1 s1 h.okb
  have b2 : ∀ wx, Rs wx r g s2 tot → 0 ≤ z ∧ z < 65536 := fun wx h => by rw [← X3.out]; exact gt_bound 2 s2 h.okb
  have k4 := fun wx (h : Rs wx r g s3 tot) (hy : 0 ≤ y) => rs_bytes r g tot y s3 wx h ht hy
  have k5 := fun wx (h : Rs wx r g s4 tot) (hy : 0 ≤ z) => rs_bytes r g tot z s4 wx h ht hy
  rw [E1.out, X1.out] at k1
  rw [E2.out, X2.out] at k2
  rw [E3.out, X3.out] at k3
  rw [E4.out, X4.out] at k4
  rw [E5.out, X5.out] at k5
  obtain ⟨o, HOB⟩ : ∃ o, Hid (Obj.cells #[.slice none 0 0, .slice none 0 0, .bool false] 44 = o) := ⟨_, rfl⟩
  have hrl := h.lt
  have H0 : Hid (Rs (w.alloc o) r g st tot) := h.kept (Below.heap_alloc w o r hrl) (fun hg => Below.heap_alloc w o g hg)
  have HNW : Hid ((w.alloc o).heap[w.heap.size]? = some o) := heap_alloc_new w o
  have HGZ : Hid (w.grownBy (w.alloc o) (some r)) := (World.grownBy_alloc w o none).but _
  have HWS : Hid ((w.alloc o).heap.size = w.heap.size + 1) := by simp [Hid]
  rw [← HOB.out] at H0 HNW HGZ HWS
  clear h E1 E2 E3 E4 E5 X1 X2 X3 X4 X5
  go_enter Tryz.func75, Tryz.ntmps75
  go_wp2_with fail
  refine (k1 _ H0.out).mono ?_
  rintro e w1 ⟨rfl, h1, o1⟩
  have H1 := hid h1
  have O1 := hid o1
  clear h1 o1 k1 H0
  go_wp2_with fail
  refine (k2 _ H1.out).mono ?_
  rintro e w2 ⟨rfl, h2, o2⟩
  have hy := b1 _ H1.out
  have H2 := hid h2
  have O2 := hid (O1.out.trans o2)
  clear h2 o2 k2 H1 b1 O1
  go_wp2_with fail
  refine (k3 _ H2.out).mono ?_
  rintro e w3 ⟨rfl, h3, o3⟩
  have hz := b2 _ H2.out
  have H3 := hid h3
  have O3 := hid (O2.out.trans o3)
  have e1 : IntKind.i64.wrap y = y := by simp [IntKind.wrap, IntKind.bits, IntKind.signed]; omega
  have e2 : IntKind.i64.wrap z = z := by simp [IntKind.wrap, IntKind.bits, IntKind.signed]; omega
  clear h3 o3 k3 H2 b2 O2
  go_wp2_with fail
  refine (k4 _ H3.out hy.1).mono ?_
  rintro e w4 ⟨a4, n4, hn4, rfl, l4, h4, o4⟩
  have H4 := hid h4
  have O4 := hid (O3.out.trans o4)
  have L4 := hid l4
  have HN4 := hid hn4
  clear h4 o4 k4 H3 l4 O3 hn4
  go_wp2_with fail
  refine (k5 _ H4.out hz.1).mono ?_
  rintro e w5 ⟨a5, n5, hn5, rfl, l5, h5, o5⟩
  have H5 := hid h5
  have O5 := hid (O4.out.trans o5)
  have L5 := hid l5
  have L45 := hid (L4.out.only o5 hgr)
  have HN5 := hid hn5
  clear h5 o5 k5 H4 l5 O4 L4 hn5
  have HN := hid ((O5.out.block w.heap.size (by omega)).trans HNW.out)
  have c0 : w5.cell? ⟨w.heap.size, 0, none⟩ = some (.slice none 0 0) := by rw [cell_of_row w5 w.heap.size 0 _ 44 (0, 0) HN.out]; rfl
  have c1 : w5.cell? ⟨w.heap.size, 1, none⟩ = some (.slice none 0 0) := by rw [cell_of_row w5 w.heap.size 1 _ 44 (0, 0) HN.out]; rfl
  have c2 : w5.cell? ⟨w.heap.size, 2, none⟩ = some (.bool false) := by rw [cell_of_row w5 w.heap.size 2 _ 44 (0, 0) HN.out]; rfl
  have f0 : ∀ i, w5.frozen? ⟨w.heap.size, i, none⟩ = false := fun i => by simp [World.frozen?, HN.out]
  have f1 := f0 0
  have f2 := f0 1
  have f3 := f0 2
  go_wp2_with fail
  have HRW := hid (set3 (a := .slice a4 n4 n4) (b := .slice a5 n5 n5) (c := .bool (x == 0)) HN.out)
  have hx : (x == 0) = decide (x = 0) := by
    by_cases h : x = 0
    · subst h; rfl
    · rw [decide_eq_false h]; exact beq_eq_false_iff_ne.2 h
  have HSO := fun j (h : j ≠ w.heap.size) => set3_other (w := w5) (a := .slice a4 n4 n4) (b := .slice a5 n5 n5) (c := .bool (x == 0)) h
  refine bodyPost_ret (v := .agg #[.slice a4 n4 n4, .slice a5 n5 n5, .bool (x == 0)]) ?_ rfl ?_
  · exact results_cell_row rfl _ _ w.heap.size 44 _ (0, 0) _ rfl HRW.out Tryz.underlying44 rfl sizeS
  clear c0 c1 c2 f0 f1 f2 f3
  refine ⟨⟨a4, n4, a5, n5, ⟨k, v, decide (x = 0)⟩⟩, rfl, ?_, ⟨?_, ?_⟩, H5.out.kept (HSO r (by omega)) (fun _ => HSO g (by omega)), ?_⟩
  · show _ = Ending.returned (.agg #[.slice a4 k.length n4, .slice a5 v.length n5, .bool (decide (x = 0))])
    rw [← hx, ← HN4.out, ← HN5.out]
  · show Vs _ _ a4 k.length n4 k
    rw [← HN4.out]
    exact (L45.out.kept fun _ => HSO g (by omega)).vs
  · show Vs _ _ a5 v.length n5 v
    rw [← HN5.out]
    exact (L5.out.kept fun _ => HSO g (by omega)).vs
  · have q := HGZ.out.andThen O5.out.grown (fun j e => .inr e)
    refine q.andThen (row' := some w.heap.size) ⟨rfl, rfl, rfl, by simp, fun i _ hi => HSO i (fun e => hi (by rw [e]))⟩ (fun j e => .inl (by obtain rfl := Option.some.inj e; exact Nat.le_refl _))
end Go.Proofs.YteeapmcpbmjpmaaGreat
namespace Go.Proofs.YteeapmcpbmjpmaaGreat
set_option maxRecDepth 100000
open Go.RowKit Go.Maps
set_option linter.unusedVariables false

theorem rdS_fuel : ∀ (n m : Nat) (zs : List Int), zs.length ≤ n → zs.length ≤ m → rdS n zs = rdS m zs
  | 0, 0, zs, _, _ => rfl
  | 0, m + 1, zs, h, _ => by
    obtain rfl : zs = [] := List.eq_nil_of_length_eq_zero (by omega)
    simp [rdS]
  | n + 1, 0, zs, _, h => by
    obtain rfl : zs = [] := List.eq_nil_of_length_eq_zero (by omega)
    simp [rdS]
  | n + 1, m + 1, zs, h1, h2 => by
    rw [rdS, rdS]
    by_cases e : zs = []
    · rw [if_pos e, if_pos e]
    · rw [if_neg e, if_neg e]
      cases hr : rd1 zs with
      | mk s o =>
        cases o with
        | none => rfl
        | some r =>
          have := rd1_left hr
          simp only
          rw [rdS_fuel n m r (by omega) (by omega)]
def rdF (zs : List Int) : List Sx := rdS zs.length zs
def tailS : Option (List Int) → List Sx
  | none => []
  | some zs => rdF zs
theorem tail_step {zs : List Int} (h : zs ≠ []) : tailS (some zs) = (rdT (some zs)).1 :: tailS (rdT (some zs)).2 := by
  rw [rdT_eq zs h]
  show rdF zs = _
  unfold rdF
  obtain ⟨n, hn⟩ : ∃ n, zs.length = n + 1 := ⟨zs.length - 1, by cases zs with | nil => exact absurd rfl h | cons _ _ => simp⟩
  rw [hn, rdS, if_neg h]
  cases hr : rd1 zs with
  | mk s o =>
    cases o with
    | none => rfl
    | some r =>
      have := rd1_left hr
      show s :: rdS n r = s :: rdF r
      unfold rdF
      rw [rdS_fuel n r.length r (by omega) (Nat.le_refl _)]
theorem rdT_left {zs : List Int} (h : zs ≠ []) : leftS (rdT (some zs)).2 < zs.length := by
  rw [rdT_eq zs h]
  cases hr : rd1 zs with
  | mk s o =>
    cases o with
    | none =>
      show 0 < zs.length
      cases zs with
      | nil => exact absurd rfl h
      | cons _ _ => simp
    | some r =>
      have := rd1_left hr
      show r.length < _
      omega
def lenAt (w : World) (r : Nat) : Nat := match w.cell? ⟨r, 0, none⟩ with
  | some (.slice _ n _) => n
  | _ => 0
theorem Rs.lenAt {w : World} {r g tot : Nat} {st : Option (List Int)} (h : Rs w r g st tot) : lenAt w r = leftS st := by
  cases st with
  | none =>
    obtain ⟨p, e, hb⟩ := h
    unfold Go.Proofs.YteeapmcpbmjpmaaGreat.lenAt
    rw [hb.1.c0]
    rfl
  | some zs =>
    obtain ⟨⟨_, a, n, c, h1, h2⟩, _⟩ := h
    unfold Go.Proofs.YteeapmcpbmjpmaaGreat.lenAt
    rw [h1.c0]
    exact h2.1.symm
theorem rdT_len {zs : List Int} (h : zs ≠ []) : (rdF zs).length ≤ zs.length := by
  unfold rdF
  have : ∀ (n : Nat) (zs : List Int), (rdS n zs).length ≤ n := by
    intro n
    induction n with
    | zero => intro zs; simp [rdS]
    | succ n ih =>
      intro zs
      rw [rdS]
      split
      · simp
      · split
        · simp
        · simp only [List.length_cons]
          have := ih ‹List Int›
          omega
  exact this _ _
set_option maxHeartbeats 1000000 in
theorem getSets_ (a : Option Addr) (n c : Nat) (zs : List Int) (w : World) (hb : Bs w a n zs) (ha : a = none → c = 0) (hnc : n ≤ c) (hn : n ≤ 400000000) :
    Calls Tryz.prog 58 #[.slice a n c] w fun e w' => (∃ l a' m c', gs zs = some l ∧ e = .returned (.tuple #[.slice a' m c', .int .i64 0]) ∧ Sl w' (fun x => w.heap.size ≤ x) a' m l ∧ m ≤ c' ∧ c' ≤ maxLen ∧ (a' = none → c' = 0) ∧ Below w.heap.size w w') ∨ (gs zs = none ∧ e = .returned (.tuple #[.slice none 0 0, .int .i64 114]) ∧ Below w.heap.size w w') := by
  have HB := hid hb
  have k1 := newReader a n c zs w hb ha (by omega) hnc
  have HZ : Hid (zs.length = n) := hb.1
  have hrn := rdT_len (zs := zs)
  clear hb
  go_enter Tryz.func58, Tryz.ntmps58
  go_wp2_with fail
  refine k1.mono ?_
  rintro e w1 ⟨r, g, rfl, rd, hr, hg, hgl, g1⟩
  have HG1 := hid g1
  have HRS : Hid (Rs w1 r g (some zs) n) := ⟨by rw [HZ.out]; simpa using rd, by rw [HZ.out]; exact Nat.le_refl _, HB.out.2.1⟩
  have hgr : g ≠ r := rd.1
  have hrl := rd.lt
  have HGL : Hid (0 < n → g < w1.heap.size) := fun h => hgl (by
    rcases HB.out.2.2 with h0 | ⟨b, off, e, _⟩
    · omega
    · rw [e]; simp)
  clear k1 rd g1 hgl
  go_wp2_with fail
  go_loopw [4] (fun v wr => ∃ (ds : List SD) (st : Option (List Int)), Hid (rdF zs = ds.map (·.s) ++ tailS st) ∧ Hid (Rs wr r g st n) ∧ Hid (∀ d ∈ ds, SV wr (fun x => x = g) d) ∧ Hid (wr.ownsRow w1.heap.size 44 3 v ds.length (sds ds)) ∧ Hid (w1.grownBy wr (some r))) (fun _ wr => lenAt wr r)
  case atStart => exact ⟨[], some zs, rfl, HRS, fun d hd => by simp at hd, World.ownsRow_nil _ _ _ _, ⟨rfl, rfl, rfl, Nat.le_refl _, fun _ _ _ => rfl⟩⟩
  case round =>
    obtain ⟨ds, st, HE, HR, HV, HO, HG⟩ := hrel
    have HLA := hid HR.out.lenAt
    have kl := rs_left r g n st wr HR.out
    obtain ⟨lf, HLF⟩ : ∃ x, Hid (leftS st = x) := ⟨_, rfl⟩
    rw [HLF.out] at kl HLA
    by_cases hlf : 0 < lf
    · have hI : (lf : Int) > 0 := by omega
      obtain ⟨ys, rfl⟩ : ∃ ys, st = some ys := by
        cases st with
        | none => have := HLF.out; simp [leftS] at this; omega
        | some ys => exact ⟨ys, rfl⟩
      have hys : ys ≠ [] := fun e => by subst e; have := HLF.out; simp [leftS] at this; omega
      have hn0 : 0 < n := by
        have h1 : ys.length ≤ n := HR.out.2.1
        cases ys with
        | nil => exact absurd rfl hys
        | cons _ _ => simp at h1; omega
      have hgl := HGL.out hn0
      have hsz := HG.out.size
      have HTS := hid (tail_step hys)
      have HLE := hid (rdT_left hys)
      have kr := readSet_ r g n (some ys) wr HR.out (by omega) hgr (by omega)
      have HLN : Hid (ds.length ≤ 400000000) := by
        have h1 := congrArg List.length HE.out
        rw [List.length_append, List.length_map] at h1
        have h2 := hrn (by intro e; have := HZ.out; rw [e] at this; simp at this; omega)
        have h3 := HZ.out
        show _ ≤ _
        omega
      clear hys hn0
      go_wp2_with fail
      refine kl.mono ?_
      rintro e w2 ⟨rfl, hw⟩
      obtain rfl := hw.symm
      clear hw kl
      go_wp2_with fail
      refine kr.mono ?_
      rintro e w3 ⟨d, hd, rfl, sv3, rs3, g3⟩
      have HD := hid hd
      have HS3 := hid sv3
      have HR3 := hid rs3
      have HG3 := hid (HG.out.andThen g3 (fun j e => .inr e))
      have HO3 := hid (HO.out.kept g3 (by
        cases e : u4.ownBlock with
        | none => exact .inl rfl
        | some q =>
          right
          intro f
          have := (HO.out.lt q e).1
          have := Option.some.inj f
          omega))
      have HV3 : Hid (∀ d ∈ ds, SV w3 (fun x => x = g) d) := fun d hd => (HV.out d hd).step fun x hx e _ => g3.block x hx (by rw [e]; simp; exact hgr)
      have hsz3 := HG3.out.size
      clear kr hd sv3 rs3 g3 HO HV HR HG hsz
      obtain ⟨ka, kc, va, vc, ⟨k, vv, gg⟩⟩ := d
      simp only [sdc]
      obtain ⟨kn, HKN⟩ : ∃ x, Hid (k.length = x) := ⟨_, rfl⟩
      obtain ⟨vn, HVN⟩ : ∃ x, Hid (vv.length = x) := ⟨_, rfl⟩
      rw [HKN.out, HVN.out]
      obtain ⟨o, HOB⟩ : ∃ o, Hid (Obj.cells #[.slice ka kn kc, .slice va vn vc, .bool gg] 44 = o) := ⟨_, rfl⟩
      have BA : Below w3.heap.size w3 (w3.alloc o) := (Below.refl w3.heap.size w3).alloc (Nat.le_refl _) o
      have HO4 := hid (HO3.out.alloc o)
      have HNW : Hid (∀ j u, (sdc ⟨ka, kc, va, vc, ⟨k, vv, gg⟩⟩)[j]? = some u → (w3.alloc o).cell? ⟨w3.heap.size, j, none⟩ = some u) := fun j u hj => by
        rw [cell_of_row (w3.alloc o) w3.heap.size j _ 44 (0, 0) ((heap_alloc_new w3 o).trans (by rw [← HOB.out]))]
        simp only [sdc, HKN.out, HVN.out] at hj
        simpa using hj
      have HBA := hid BA
      have HSZ4 : Hid (w1.heap.size ≤ (w3.alloc o).heap.size) := by show _ ≤ _; simp; omega
      rw [← HOB.out] at HO4 HNW HBA HSZ4
      clear BA HO3
      go_wp2_with (first | (at_builtin; refine wpList_appSet rfl _ _ rfl w1.heap.size _ ds rfl (by exact HO4.out) w3.heap.size ⟨ka, kc, va, vc, ⟨k, vv, gg⟩⟩ rfl (by exact HNW.out) (by have := HLN.out; omega) (by exact HSZ4.out) ?_; intro v5 w5 o5 g5 _; have HO5 := hid o5; have HG5 := hid g5; clear o5 g5 HNW) | fail)
      have hown : ∀ q, u4.ownBlock = some q → w1.heap.size ≤ q := fun q e => (HO4.out.lt q e).1
      have hsame : ∀ x, x < w1.heap.size → x < w3.heap.size → w5.heap[x]? = w3.heap[x]? := fun x hx hx3 => (HG5.out.block x (Nat.lt_of_lt_of_le hx3 HBA.out.size) (fun e => by have := hown x e.symm; omega)).trans (HBA.out.block x hx3)
      have HR5 : Hid (Rs w5 r g (rdT (some ys)).2 n) := HR3.out.kept (hsame r hrl (by omega)) (fun h => hsame g hgl h)
      go_roundw
      case rel =>
        refine ⟨ds ++ [⟨ka, kc, va, vc, ⟨k, vv, gg⟩⟩], (rdT (some ys)).2, ?_, HR5, ?_, HO5, ?_⟩
        · show _ = _
          rw [HE.out, HTS.out, List.map_append, List.append_assoc]
          have e := HD.out
          simp only at e
          rw [← e]
          rfl
        · intro d hd
          have hst : ∀ {d : SD}, SV w3 (fun x => x = g) d → SV w5 (fun x => x = g) d := fun h => h.step fun x hx e _ => by
            subst e
            exact hsame x hgl hx
          rcases List.mem_append.1 hd with hd | hd
          · exact hst (HV3.out d hd)
          · rw [List.mem_singleton] at hd
            subst hd
            exact hst HS3.out
        · exact (HG3.out.andThen ((grown_of_below HBA.out).but (some r)) (fun j e => .inr e)).andThen HG5.out (fun j e => .inl (hown j e))
      case measure =>
        rw [HR5.out.lenAt, HLA.out]
        have := HLE.out
        have := HLF.out
        simp [leftS] at this
        omega
    · have hI : ¬ (lf : Int) > 0 := by omega
      have HT0 : Hid (rdF zs = ds.map (·.s)) := by
        have h1 := HLF.out
        have h2 : tailS st = [] := by
          cases st with
          | none => rfl
          | some ys =>
            have : ys = [] := List.eq_nil_of_length_eq_zero (by simp [leftS] at h1; omega)
            subst this
            rfl
        have := HE.out
        rw [h2, List.append_nil] at this
        exact this
      have hsz := HG.out.size
      have hw1 := HG1.out.size
      have HBW : Hid (Below w.heap.size w wr) := ⟨HG.out.os.trans HG1.out.os, HG.out.tape.trans HG1.out.tape, HG.out.output.trans HG1.out.output, by omega, fun k hk => (HG.out.block k (by omega) (by simp; omega)).trans (HG1.out.block k hk (by simp))⟩
      have hDL : ds.length ≤ 400000000 := by
        by_cases hz : zs = []
        · have h1 := congrArg List.length HT0.out
          rw [hz, List.length_map] at h1
          have : rdF [] = [] := rfl
          rw [this] at h1
          simp at h1
          omega
        · have h1 := congrArg List.length HT0.out
          rw [List.length_map] at h1
          have h2 := hrn hz
          have h3 := HZ.out
          omega
      obtain ⟨al, cl, rfl, hsl, hlc, hlm, hln⟩ := Sl.ofOwn (V := fun x => w.heap.size ≤ x) HO.out (fun d hd => (HV.out d hd).wide fun x _ e => by subst e; exact hg) (fun x hx => by omega)
      have HSL := hid hsl
      have HSB := hid (HB.out.below HBW.out)
      have kp := putSets_ _ al ds.length cl (ds.map (·.s)) wr hsl (by omega)
      obtain ⟨m, HM⟩ : ∃ m, Hid (ds.length = m) := ⟨_, rfl⟩
      rw [HM.out] at kp hlc HSL
      have HGS : Hid (gs zs = if okS (ds.map (·.s)) && decide (enc (ds.map (·.s)) = zs) then some (ds.map (·.s)) else none) := by
        show gs zs = _
        unfold gs
        have e : rdS zs.length zs = ds.map (·.s) := HT0.out
        rw [e]
      obtain ⟨l, HLL⟩ : ∃ l, Hid (ds.map (·.s) = l) := ⟨_, rfl⟩
      rw [HLL.out] at kp HSL HGS
      rw [HM.out]
      have HLC := hid hlc
      have HLM := hid hlm
      have HLNN := hid hln
      clear hsl HE HR HV HO HG hlf hDL hlc hlm hln
      go_wp2_with fail
      refine kl.mono ?_
      rintro e w2 ⟨rfl, hw⟩
      obtain rfl := hw.symm
      clear hw kl
      go_wp2_with fail
      refine kp.mono ?_
      rintro e w3 (⟨hok, v3, rfl, o3, g3⟩ | ⟨hok, rfl, g3⟩)
      · obtain ⟨a3, c3, rfl, b3, -⟩ := own_form o3 (enc_byte HSL.out.okS)
        have HB3 := hid b3
        have HSB3 := hid (HSB.out.below g3)
        have HBW3 := hid (bel_bel HBW.out HBW.out.size g3)
        have HSL3 := hid (HSL.out.below g3)
        have HOK := hid hok
        have ke := fun wx (h1 : Bs wx a3 (enc l).length (enc l)) (h2 : Bs wx a n zs) => beq_ a3 a (enc l).length c3 n c (enc l) zs wx h1 h2
        obtain ⟨q, HQ⟩ : ∃ q, Hid (sameB (enc l) zs = q) := ⟨_, rfl⟩
        rw [HQ.out] at ke
        generalize (enc l).length = en at *
        clear o3 g3 b3 hok kp
        go_wp2_with fail
        refine (ke _ HB3.out HSB3.out).mono ?_
        rintro e w4 ⟨rfl, d4⟩
        have HBW4 := hid (bel_bel HBW3.out HBW3.out.size d4.below)
        have HSL4 := hid (HSL3.out.below d4.below)
        clear ke d4
        cases q with
        | true =>
          have HF : Hid (gs zs = some l) := by
            rw [HGS.out, HOK.out]
            have : enc l = zs := by have := HQ.out; unfold sameB at this; exact of_decide_eq_true this
            rw [decide_eq_true this]
            rfl
          go_wp2_with fail
          go_ret2
          exact .inl ⟨l, al, m, cl, HF.out, rfl, HSL4.out, HLC.out, HLM.out, HLNN.out, HBW4.out⟩
        | false =>
          have HF : Hid (gs zs = none) := by
            rw [HGS.out, HOK.out]
            have : ¬ enc l = zs := by have := HQ.out; unfold sameB at this; exact of_decide_eq_false this
            rw [decide_eq_false this]
            rfl
          go_wp2_with fail
          go_ret2
          exact .inr ⟨HF.out, rfl, HBW4.out⟩
      · have HF : Hid (gs zs = none) := by
          rw [HGS.out, hok]
          rfl
        have HBW3 := hid (bel_bel HBW.out HBW.out.size g3)
        clear kp hok g3
        go_wp2_with fail
        go_ret2
        exact .inr ⟨HF.out, rfl, HBW3.out⟩
end Go.Proofs.YteeapmcpbmjpmaaGreat
namespace Go.Proofs.YteeapmcpbmjpmaaGreat
set_option maxRecDepth 100000
open Go.RowKit Go.Maps
set_option linter.unusedVariables false

def fb (zs : List Int) : Option Tab := match gs zs with
  | some l => if l.all (fun s => !s.g) then some (asT l) else none
  | none => none
theorem fb_no {zs : List Int} {l : List Sx} {k : Nat} (h : gs zs = some l) (hk : k < l.length) (hg : (l.getD k default).g = true) : fb zs = none := by
  unfold fb
  rw [h]
  simp only
  rw [if_neg]
  intro e
  have := List.all_eq_true.1 e _ (getD_mem hk)
  rw [hg] at this
  cases this
theorem fb_yes {zs : List Int} {l : List Sx} (h : gs zs = some l) (hg : l.all (fun s => !s.g) = true) : fb zs = some (asT l) ∧ doAll [] l = asT l := by
  refine ⟨?_, doAll_asT (okFrom_rises (gs_some h).1) fun s hs => ?_⟩
  · unfold fb
    rw [h]
    simp only
    rw [if_pos hg]
  · have := List.all_eq_true.1 hg s hs
    simpa using this
theorem gall_take {l : List Sx} {k : Nat} (hk : k < l.length) (h : (l.take k).all (fun s => !s.g) = true) (hm : (l.getD k default).g = false) : (l.take (k + 1)).all (fun s => !s.g) = true := by
  rw [take_snoc hk, List.all_append, h, List.all_cons, hm]
  rfl
set_option maxHeartbeats 1000000 in
theorem fromBytes_ (a : Option Addr) (n c : Nat) (zs : List Int) (w : World) (hb : Bs w a n zs) (ha : a = none → c = 0) (hnc : n ≤ c) (hn : n ≤ 400000000) :
    Calls Tryz.prog 33 #[.slice a n c] w fun e w' => (∃ M t b, fb zs = some M ∧ e = .returned (.tuple #[.pointer (some ⟨t, 0, none⟩), .int .i64 0]) ∧ Tw w' t b (fun x => w.heap.size ≤ x) M ∧ w.heap.size ≤ b ∧ w.heap.size ≤ t ∧ Below w.heap.size w w') ∨ (fb zs = none ∧ e = .returned (.tuple #[.pointer none, .int .i64 114]) ∧ Below w.heap.size w w') := by
  have HB := hid hb
  have HZ : Hid (zs.length = n) := hb.1
  have k1 := getSets_ a n c zs w hb ha hnc hn
  clear hb
  go_enter Tryz.func33, Tryz.ntmps33
  go_wp2_with fail
  refine k1.mono ?_
  rintro e w1 (⟨l, al, m, cl, hgs, rfl, hsl, hlc, hlm, hln, g1⟩ | ⟨hgs, rfl, g1⟩)
  · have HGS := hid hgs
    have HSL := hid hsl
    have HG1 := hid g1
    have HLN : Hid (l.length = m) := hsl.len
    have hmn : m ≤ 400000000 := by
      have h1 := gs_some hgs
      have h2 := enc_len_le l
      rw [h1.2.1] at h2
      have := hsl.len
      have := HZ.out
      omega
    clear hgs hsl g1 k1
    go_wp2_with fail
    refine (new_ w1).mono ?_
    rintro e w2 ⟨t, b, rfl, tw2, hb2, ht2, g2⟩
    have HT2 := hid tw2
    have HG2 := hid (bel_bel HG1.out HG1.out.size g2)
    have HSL2 := hid (HSL.out.below g2)
    have hs1 := HG1.out.size
    clear tw2 g2 HSL
    go_wp2_with fail
    go_loopw [20] (fun i wq => ∃ j : Nat, j ≤ m ∧ i = .int .i64 j ∧ Hid ((l.take j).all (fun s => !s.g) = true) ∧ Hid (Tw wq t b (fun x => w.heap.size ≤ x) (doAll [] (l.take j))) ∧ Hid (w2.grownBy wq (some b))) (fun i _ => m - (intOf i).toNat)
    case atStart => exact ⟨0, by omega, rfl, rfl, HT2.out.wide fun x _ h => h.elim, ⟨rfl, rfl, rfl, Nat.le_refl _, fun _ _ _ => rfl⟩⟩
    case round =>
      obtain ⟨j, hj, rfl, HA, HTq, HG⟩ := hrel
      have HBW : Hid (Below w.heap.size w wr) := ⟨HG.out.os.trans HG2.out.os, HG.out.tape.trans HG2.out.tape, HG.out.output.trans HG2.out.output, Nat.le_trans HG2.out.size HG.out.size, fun k hk => (HG.out.block k (Nat.lt_of_lt_of_le hk HG2.out.size) (by simp; omega)).trans (HG2.out.block k hk)⟩
      by_cases hlt : j < m
      · have hI : (j : Int) < m := by omega
        obtain ⟨bl, off, ka, kc, va, vc, kn, vn, rfl, hkn, hvn, c0, c1, c2, v1, v2⟩ := (HSL2.out.map HG.out HT2.out.mp.isMap).at hlt
        obtain ⟨s, HS⟩ : ∃ s, Hid (l.getD j default = s) := ⟨_, rfl⟩
        rw [HS.out] at hkn hvn c2 v1 v2
        have HO : Hid (OkS s ∧ mayS s = true) := ⟨⟨v1.bs.2.1, v2.bs.2.1⟩, by rw [← HS.out]; exact may_of (gs_some HGS.out).1 _ (getD_mem (by rw [HLN.out]; exact hlt))⟩
        have HD : Hid (doAll [] (l.take (j + 1)) = doS (doAll [] (l.take j)) s) := by rw [← HS.out]; exact do_take [] (by rw [HLN.out]; exact hlt)
        have HN : Hid ((doAll [] (l.take j)).length ≤ 1000000000) := by
          have := len_doAll [] List.Pairwise.nil (l.take j)
          have h2 : (l.take j).length ≤ m := by rw [List.length_take, HLN.out]; omega
          show _ ≤ _
          simp at this
          omega
        have HNO : Hid (s.g = true → fb zs = none) := fun h => fb_no HGS.out (k := j) (by rw [HLN.out]; exact hlt) (by rw [HS.out]; exact h)
        have HYE : Hid (s.g = false → (l.take (j + 1)).all (fun s => !s.g) = true) := fun h => gall_take (by rw [HLN.out]; exact hlt) HA.out (by rw [HS.out]; exact h)
        obtain ⟨g, HGG⟩ : ∃ g, Hid (s.g = g) := ⟨_, rfl⟩
        rw [HGG.out] at c2 HNO HYE
        have V1 := hid v1
        have V2 := hid v2
        have ct := HTq.out.tbl.cell
        have htl := HTq.out.tbl.lt
        have HNE : Hid (wr.heap.size ≠ t) := by show _ ≠ _; omega
        generalize doAll [] (l.take j) = N at *
        clear v1 v2 hkn hvn hlt
        obtain ⟨o, HOB⟩ : ∃ o, Hid (Obj.cells #[.slice ka kn kc, .slice va vn vc, .bool g] 44 = o) := ⟨_, rfl⟩
        have BA : Below wr.heap.size wr (wr.alloc o).drew := ((Below.refl wr.heap.size wr).alloc (Nat.le_refl _) o).trans ⟨rfl, rfl, rfl, Nat.le_refl _, fun _ _ => rfl⟩
        have HMA := hid (HTq.out.mp.below BA)
        have HVA := hid (V1.out.bs.below BA)
        have HWA := hid (V2.out.bs.below BA)
        have HGA : Hid (wr.grownBy (wr.alloc o).drew none) := grown_of_below BA
        have HTA := hid (HTq.out.below BA)
        have HNW : Hid ((wr.alloc o).drew.heap[wr.heap.size]? = some o) := heap_alloc_new wr o
        have hnm := fun {w2 : World} (g2 : (wr.alloc o).drew.grownBy w2 (some b)) => (show w2.heap[wr.heap.size]? = some o from (g2.block wr.heap.size (by show _ < (wr.alloc o).heap.size; simp) (by have := HTq.out.mp.lt; intro f; have := Option.some.inj f; omega)).trans HNW.out)
        have hnt := fun {w2 : World} (g2 : (wr.alloc o).drew.grownBy w2 (some b)) => (show Tbl w2 t b from HTA.out.tbl.same (g2.block t HTA.out.tbl.lt (by intro f; have f := Option.some.inj f; obtain ⟨es, cl, e⟩ := HTA.out.mp.isMap; exact HTA.out.tbl.not_map es cl (by rw [f]; exact e))))
        rw [← HOB.out] at HMA HVA HWA HGA HTA HNW hnm hnt
        clear BA
        cases g with
        | true =>
          have HF := hid (HNO.out rfl)
          have HBO := hid (HBW.out.alloc HBW.out.size o)
          rw [← HOB.out] at HBO
          go_wp2_with fail
          go_ret2
          exact .inr ⟨HF.out, rfl, HBO.out⟩
        | false =>
          have HA1 := hid (HYE.out rfl)
          have kp := fun wx (h1 : Mp wx b (fun x => w.heap.size ≤ x) N) (h2 : Bs wx ka kn s.k) (h3 : Bs wx va vn s.v) => put_ b _ N ka va kn kc vn vc s.k s.v wx h1 HTq.out.tok h2 (Nat.le_trans V1.out.nc V1.out.cm) h3 V2.out.nil V2.out.nc (by have := mayS_val HO.out.2; have := V2.out.bs.1; omega) HN.out
          have HSZ : Hid (w.heap.size ≤ wr.heap.size) := HBW.out.size
          go_wp2_with fail
          go_region_held (fun wx => wx.cell? ⟨t, 0, none⟩ = some (.map (some b)) ∧ wx.cell? ⟨wr.heap.size, 0, none⟩ = some (.slice ka kn kc) ∧ wx.cell? ⟨wr.heap.size, 1, none⟩ = some (.slice va vn vc)) (go_keep) (first | (go_at_call 40; refine (kp _ (by exact HMA.out) (by exact HVA.out) (by exact HWA.out)).mono ?_; rintro e w5 ⟨rfl, m2, g2⟩; have HTB := hid (hnt g2); have y0 := HTB.out.cell; have y1 : w5.cell? ⟨wr.heap.size, 0, none⟩ = some (.slice ka kn kc) := (by rw [cell_of_row w5 wr.heap.size 0 _ 44 (0, 0) (hnm g2)]; rfl); have y2 : w5.cell? ⟨wr.heap.size, 1, none⟩ = some (.slice va vn vc) := (by rw [cell_of_row w5 wr.heap.size 1 _ 44 (0, 0) (hnm g2)]; rfl); have M2 := hid m2; have G2 := hid g2; clear m2 g2))
          clear kp
          go_wp2_with fail
          go_roundw
          case rel =>
            refine ⟨j + 1, by omega, by go_num, HA1, ?_, (HG.out.andThen (HGA.out.but (some b)) (fun j e => .inr e)).andThen G2.out (fun j e => .inr e)⟩
            have e : doS N s = ins s.k s.v N := by unfold doS; rw [HGG.out]; rfl
            rw [HD.out]
            exact ⟨HTB.out, by rw [e]; exact M2.out.wide fun x _ h => h.elim id fun h => (by have := HSZ.out; have : (wr.alloc (.cells #[.slice ka kn kc, .slice va vn vc, .bool false] 44)).heap.size ≤ x := h; simp at this; omega), HTq.out.tok.doS HO.out.2 HO.out.1⟩
          case measure => simp [intOf]; omega
      · have hI : ¬ (j : Int) < m := by omega
        obtain rfl : j = m := by omega
        have HTE : Hid (l.take j = l) := List.take_of_length_le (by rw [HLN.out]; exact Nat.le_refl _)
        rw [HTE.out] at HTq HA
        have HF := hid (fb_yes HGS.out HA.out)
        rw [HF.out.2] at HTq
        go_wp2_with fail
        go_ret2
        first | exact .inl ⟨asT l, HF.out.1, t, rfl, b, HTq.out, by omega, by omega, HBW.out⟩ | exact .inl ⟨asT l, HF.out.1, t, b, rfl, HTq.out, by omega, by omega, HBW.out⟩
  · have HF : Hid (fb zs = none) := by
      show fb zs = none
      unfold fb
      rw [hgs]
    clear k1 hgs
    go_wp2_with fail
    go_ret2
    exact .inr ⟨HF.out, rfl, g1⟩
end Go.Proofs.YteeapmcpbmjpmaaGreat
