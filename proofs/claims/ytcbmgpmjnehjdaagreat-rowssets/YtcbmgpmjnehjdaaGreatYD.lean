import Derived.Test.YtcbmgpmjnehjdaaGreatYP
import Derived.Test.YtcbmgpmjnehjdaaGreatYB
namespace Go.Proofs.YtcbmgpmjnehjdaaGreat
set_option maxRecDepth 100000
open Go.RowKit Go.Maps
set_option linter.unusedVariables false

theorem r_less {W wx : World} {a b : Option Addr} {n m : Nat} (c d : Nat) {xs ys : List Int} (q : Bool) (B : Bw W wx) (h1 : Bs W a n xs) (h2 : Bs W b m ys) (h01 : 0 < n) (h02 : 0 < m) (hn : n ≤ 1000000000) (hm : m ≤ 1000000000) (hq : lx xs ys = q) :
    Calls Tryz.prog 71 #[.slice a n c, .slice b m d] wx fun e w' => e = .returned (.bool q) ∧ Bw W w' := by
  obtain ⟨e1, _, h3⟩ := h1.below B
  obtain ⟨e2, _, h4⟩ := h2.below B
  rcases h3 with h3 | ⟨b1, o1, rfl, k1⟩
  · omega
  rcases h4 with h4 | ⟨b2, o2, rfl, k2⟩
  · omega
  refine (refLess_some b1 o1 c b2 o2 d n m xs ys wx e1 e2 hn hm k1 k2).mono ?_
  rintro e w1 ⟨rfl, nq, rfl⟩
  subst hq
  exact ⟨rfl, B.on (drawnN wx nq).below⟩
theorem tab_take {L : Tab} {j : Nat} (h : j < L.length) : L.take (j + 1) = L.take j ++ [L.getD j ([], [])] := by
  have e : L.getD j ([], []) = L[j] := by simp [List.getD, h]
  rw [e]
  exact List.take_succ_eq_append_getElem h
theorem kn_take {L : Tab} {j : Nat} (h : j < L.length) (hk : Kn (L.take j)) (hn : ∀ t, t < j → (L.getD t ([], [])).1 ≠ (L.getD j ([], [])).1) : Kn (L.take (j + 1)) := by
  rw [tab_take h]
  refine List.pairwise_append.2 ⟨hk, List.pairwise_singleton _ _, fun p hp q hq => ?_⟩
  obtain rfl := List.mem_singleton.1 hq
  obtain ⟨t, ht, rfl⟩ := List.mem_iff_getElem.1 hp
  rw [List.length_take] at ht
  have := hn t (by omega)
  rw [List.getElem_take]
  rwa [show L.getD t ([], []) = L[t] from by simp [List.getD, show t < L.length by omega]] at this
theorem kn_not {L : Tab} {i j : Nat} (h : i < L.length) (hj : j < i) (e : (L.getD i ([], [])).1 = (L.getD j ([], [])).1) : ¬ Kn L := by
  intro hk
  have := List.pairwise_iff_getElem.1 hk j i (by omega) h hj
  rw [show L.getD i ([], []) = L[i] from by simp [List.getD, h], show L.getD j ([], []) = L[j] from by simp [List.getD, show j < L.length by omega]] at e
  exact this e.symm
def Tq (w : World) (L : Tab) (e : Ending) (w' : World) : Prop := ∃ q : Bool, e = .returned (.bool q) ∧ ((q = false) ↔ Kn L) ∧ Below w.heap.size w w'
set_option maxHeartbeats 1000000 in
/-- The document's twice. -/
theorem rtwice_ (V : Nat → Prop) (a : Option Addr) (n c : Nat) (L : Tab) (w : World) (hl : Rwl w V a n L) (hn : n ≤ 1000000) :
    Calls Tryz.prog 28 #[.slice a n c] w fun e w' => Tq w L e w' := by
  have hlen := hl.len
  have HL := hid hl
  clear hl
  go_enter Tryz.func28, Tryz.ntmps28
  go_wp2_with fail
  go_loopw [3] (fun i wr => ∃ j : Nat, j ≤ n ∧ i = .int .i64 j ∧ Hid (Bw w wr) ∧ Hid (Kn (L.take j))) (fun i _ => n - (intOf i).toNat)
  case atStart => exact ⟨0, by omega, rfl, Below.refl _ _, List.Pairwise.nil⟩
  case round =>
    obtain ⟨j, hj, rfl, HB, HK⟩ := hrel
    by_cases hlt : j < n
    · have hjI : (j : Int) < n := by omega
      obtain ⟨b, off, rfl, hc⟩ : ∃ b off, a = some ⟨b, off, none⟩ ∧ ∀ i, i < n → RowAt w V b (off + i * 2) (L.getD i ([], [])) := by
        rcases HL.out.cells with h0 | ⟨b, off, e, -, h⟩
        · omega
        · exact ⟨b, off, e, h⟩
      have HC := hid hc
      clear hc
      obtain ⟨qa, qc, ra, rc, c0, -, vk, -⟩ := HC.out j hlt
      have HVK := hid vk
      have A0 := hid c0
      clear c0 vk
      go_wp2_with fail
      go_loopw [4] (fun i wi => ∃ t : Nat, t ≤ j ∧ i = .int .i64 t ∧ Hid (Bw w wi) ∧ Hid (∀ s, s < t → (L.getD s ([], [])).1 ≠ (L.getD j ([], [])).1)) (fun i _ => j - (intOf i).toNat)
      case atStart => exact ⟨0, by omega, rfl, HB, fun s hs => by omega⟩
      case round =>
        clear HB
        obtain ⟨t, ht, rfl, HB, HN⟩ := hrel
        by_cases htl : t < j
        · have htI : (t : Int) < j := by omega
          obtain ⟨ua, uc, ta, tc, e0, -, uk, -⟩ := HC.out t (by omega)
          have ks := fun wx (hq : Bw w wx) => same_d qa ua (L.getD j ([], [])).1.length qc (L.getD t ([], [])).1.length uc (L.getD j ([], [])).1 (L.getD t ([], [])).1 wx (HVK.out.bs.below hq) (uk.bs.below hq) (Nat.le_trans HVK.out.nc HVK.out.cm) (Nat.le_trans uk.nc uk.cm)
          have HQ : Hid (sameB (L.getD j ([], [])).1 (L.getD t ([], [])).1 = decide ((L.getD j ([], [])).1 = (L.getD t ([], [])).1)) := by
            show _ = _
            unfold sameB
            rfl
          rw [HQ.out] at ks
          have B0 := hid e0
          obtain ⟨xl, Hxl⟩ : ∃ z : Nat, Hid ((L.getD j ([], [])).1.length = z) := ⟨_, rfl⟩
          obtain ⟨yl, Hyl⟩ : ∃ z : Nat, Hid ((L.getD t ([], [])).1.length = z) := ⟨_, rfl⟩
          rw [Hyl.out] at B0 ks
          have A0r := hid A0.out
          rw [Hxl.out] at A0r ks
          have hjI2 : (j : Int) < n := hjI
          have htI2 : (t : Int) < n := by omega
          clear e0 uk
          by_cases hs : (L.getD j ([], [])).1 = (L.getD t ([], [])).1
          · rw [decide_eq_true hs] at ks
            go_wp2_with fail
            refine wp_quietC (Bw w) (by kernel_rfl) (by kernel_rfl) (Bw.on HB.out (below_drew _)) ?_
            repeat (first | go_big_quiet_skip | (go_big_quiet_want; go_big_quiet_op; first | go_big_quiet_on | (apply Exists.intro; refine ⟨fun wq hq => ?_, ?_⟩; (· first | (with_reducible rfl) | (go_at_call 47; exact (ks _ hq).mono fun _ _ h => ⟨h.1, hq.on h.2.below⟩) | (have q1 := hq.cell A0r.out; have q5 := hq.cell B0.out; go_simp; rfl) | rfl); go_big_quiet_on)))
            refine wpQuiet_nil ?_
            intro w3 s3
            have HB3 : Hid (Bw w w3) := s3
            clear s3 ks
            go_wp2_with fail
            go_ret
            exact ⟨true, rfl, ⟨fun h => (by cases h), fun h => absurd h (kn_not (by omega) htl hs)⟩, HB3.out⟩
          · rw [decide_eq_false hs] at ks
            go_wp2_with fail
            refine wp_quietC (Bw w) (by kernel_rfl) (by kernel_rfl) (Bw.on HB.out (below_drew _)) ?_
            repeat (first | go_big_quiet_skip | (go_big_quiet_want; go_big_quiet_op; first | go_big_quiet_on | (apply Exists.intro; refine ⟨fun wq hq => ?_, ?_⟩; (· first | (with_reducible rfl) | (go_at_call 47; exact (ks _ hq).mono fun _ _ h => ⟨h.1, hq.on h.2.below⟩) | (have q1 := hq.cell A0r.out; have q5 := hq.cell B0.out; go_simp; rfl) | rfl); go_big_quiet_on)))
            refine wpQuiet_nil ?_
            intro w3 s3
            have HB3 : Hid (Bw w w3) := s3
            clear s3 ks
            go_wp2_with fail
            go_roundw
            case rel => exact ⟨t + 1, by omega, by go_num, HB3, fun s hs' => by
              by_cases h : s = t
              · subst h; exact fun e => hs e.symm
              · exact HN.out s (by omega)⟩
            case measure => simp [intOf]; omega
        · have htI : ¬ (t : Int) < j := by omega
          obtain rfl : t = j := by omega
          have HK2 := hid (kn_take (L := L) (by omega) HK.out HN.out)
          go_wp2_with fail
          go_roundw
          case rel => exact ⟨t + 1, by omega, by go_num, HB, HK2⟩
          case measure => simp [intOf]; omega
    · have hjI : ¬ (j : Int) < n := by omega
      obtain rfl : j = n := by omega
      rw [List.take_of_length_le (by omega)] at HK
      go_wp2_with fail
      go_ret
      exact ⟨false, rfl, ⟨fun _ => HK.out, fun _ => rfl⟩, HB.out⟩
theorem look_app {M N : Tab} {k : List Int} (h : look M k = none) : look (M ++ N) k = look N k := by
  induction M with
  | nil => rfl
  | cons p M ih =>
    rw [look] at h
    by_cases e : p.1 = k
    · rw [if_pos e] at h; cases h
    · rw [if_neg e] at h
      rw [List.cons_append, look, if_neg e, ih h]
set_option maxHeartbeats 1000000 in
/-- The document's find. -/
theorem rfind_ (V : Nat → Prop) (a ka : Option Addr) (n c m d : Nat) (L : Tab) (k : List Int) (w : World) (hl : Rwl w V a n L) (hk : Bs w ka m k) (hm : m ≤ maxLen) (hn : n ≤ 1000000) :
    Calls Tryz.prog 46 #[.slice a n c, .slice ka m d] w fun e w' => ∃ va vn vc, e = .returned (.tuple #[.slice va vn vc, .bool (look L k).isSome]) ∧ Vs w' V va vn vc ((look L k).getD []) ∧ Below w.heap.size w w' := by
  have hlen := hl.len
  have HL := hid hl
  have HK := hid hk
  clear hl hk
  go_enter Tryz.func46, Tryz.ntmps46
  go_wp2_with fail
  go_loopw [6] (fun i wr => ∃ j : Nat, j ≤ n ∧ i = .int .i64 j ∧ Hid (Bw w wr) ∧ Hid (look (L.take j) k = none)) (fun i _ => n - (intOf i).toNat)
  case atStart => exact ⟨0, by omega, rfl, Below.refl _ _, rfl⟩
  case round =>
    obtain ⟨j, hj, rfl, HB, HN⟩ := hrel
    by_cases hlt : j < n
    · have hjI : (j : Int) < n := by omega
      obtain ⟨b, off, rfl, hc⟩ : ∃ b off, a = some ⟨b, off, none⟩ ∧ ∀ i, i < n → RowAt wr V b (off + i * 2) (L.getD i ([], [])) := by
        rcases (HL.out.below HB.out).cells with h0 | ⟨b, off, e, -, h⟩
        · omega
        · exact ⟨b, off, e, h⟩
      have HT := hid (tab_take (L := L) (j := j) (by omega))
      have HSP : Hid (L = L.take j ++ (L.getD j ([], []) :: L.drop (j + 1))) := by
        show _ = _
        have h : j < L.length := by omega
        rw [show L.getD j ([], []) = L[j] from by simp [List.getD, h]]
        simp
      obtain ⟨qa, qc, ra, rc, c0, c1, vk, vv⟩ := hc j hlt
      obtain ⟨x, HX⟩ : ∃ x, Hid (L.getD j ([], []) = x) := ⟨_, rfl⟩
      rw [HX.out] at c0 c1 vk vv HT HSP
      obtain ⟨xk, xv⟩ := x
      simp only at c0 c1 vk vv
      have ks := same_d qa ka xk.length qc m d xk k wr vk.bs (HK.out.below HB.out) (Nat.le_trans vk.nc vk.cm) hm
      obtain ⟨q, hq⟩ : ∃ q, sameB xk k = q := ⟨_, rfl⟩
      rw [hq] at ks
      obtain ⟨xl, Hxl⟩ : ∃ z : Nat, Hid (xk.length = z) := ⟨_, rfl⟩
      obtain ⟨yl, Hyl⟩ : ∃ z : Nat, Hid (xv.length = z) := ⟨_, rfl⟩
      rw [Hxl.out] at c0 ks
      rw [Hyl.out] at c1
      have HVV := hid vv
      have C1 := hid c1
      clear hc vk vv c1
      go_wp2_with fail
      clear c0
      refine ks.mono ?_
      rintro e w2 ⟨rfl, g2⟩
      have HB2 : Hid (Bw w w2) := HB.out.on g2.below
      have c1 := Bw.cell g2.below C1.out
      have HV2 := hid (HVV.out.step fun x hx _ _ => g2.below.block x hx)
      clear ks g2
      cases q with
      | true =>
        have he : xk = k := by simpa [sameB] using hq
        have HLK : Hid (look L k = some xv) := by
          show _ = _
          rw [HSP.out, look_app HN.out, look, if_pos he]
        go_wp2_with fail
        go_ret2
        refine ⟨ra, yl, rc, by rw [HLK.out]; rfl, ?_, HB2.out⟩
        rw [HLK.out, ← Hyl.out]
        exact HV2.out
      | false =>
        have he : xk ≠ k := by simpa [sameB] using hq
        go_wp2_with fail
        go_roundw
        case rel => exact ⟨j + 1, by omega, by go_num, HB2, by show _ = _; rw [HT.out, look_app HN.out, look, if_neg he]; rfl⟩
        case measure => simp [intOf]; omega
    · have hjI : ¬ (j : Int) < n := by omega
      obtain rfl : j = n := by omega
      rw [List.take_of_length_le (by omega)] at HN
      go_wp2_with fail
      go_ret2
      rw [HN.out]
      exact ⟨none, 0, 0, rfl, vs_none _ _, HB.out⟩
end Go.Proofs.YtcbmgpmjnehjdaaGreat
namespace Go.Proofs.YtcbmgpmjnehjdaaGreat
set_option maxRecDepth 100000
open Go.RowKit Go.Maps
set_option linter.unusedVariables false

/-- Sets of one's own that are gathered since w, their bytes being w's. -/
structure Sw3 (V : Nat → Prop) (w wr : World) (v : Value) (ds : List SD) : Prop where
  own : wr.ownsRow w.heap.size 99 3 v ds.length (sds ds)
  sv : ∀ d ∈ ds, SV w V d
  bel : Below w.heap.size w wr
theorem Sw3.nil (V : Nat → Prop) (w : World) : Sw3 V w w (.slice none 0 0) [] := ⟨World.ownsRow_nil _ _ _ _, fun d hd => by simp at hd, Below.refl _ _⟩
theorem Sw3.below {V : Nat → Prop} {w wr w2 : World} {v : Value} {ds : List SD} (h : Sw3 V w wr v ds) (hb : Below wr.heap.size wr w2) : Sw3 V w w2 v ds := ⟨own_bel h.own hb, h.sv, bel_bel h.bel h.bel.size hb⟩
theorem Sw3.app {V : Nat → Prop} {w w3 w5 : World} {v v5 : Value} {ds : List SD} {d : SD} {o : Obj} (h : Sw3 V w w3 v ds) (hd : SV w V d) (ho : w5.ownsRow w.heap.size 99 3 v5 (ds ++ [d]).length (sds (ds ++ [d]))) (hg : (w3.alloc o).grownBy w5 v.ownBlock) : Sw3 V w w5 v5 (ds ++ [d]) := by
  have hown : ∀ q, v.ownBlock = some q → w.heap.size ≤ q := fun q e => (h.own.lt q e).1
  have hsa : (w3.alloc o).heap.size = w3.heap.size + 1 := by simp
  refine ⟨ho, ?_, (h.bel.alloc h.bel.size o).grown hg (by rw [hsa]; have := h.bel.size; omega) (fun q e => hown q e)⟩
  intro d' hd'
  rcases List.mem_append.1 hd' with hd' | hd'
  · exact h.sv d' hd'
  · rw [List.mem_singleton] at hd'
    subst hd'
    exact hd
theorem set_take {l : List Sx} {j : Nat} (h : j < l.length) : l.take (j + 1) = l.take j ++ [l.getD j default] := by
  have e : l.getD j default = l[j] := by simp [List.getD, h]
  rw [e]
  exact List.take_succ_eq_append_getElem h
def La (w : World) (V : Nat → Prop) (n : Nat) (l : List Sx) (e : Ending) (w' : World) : Prop := ∃ a' c', e = .returned (.slice a' (n + 1) c') ∧ Sl w' (fun x => V x ∨ w.heap.size ≤ x) a' (n + 1) l ∧ Below w.heap.size w w'
set_option maxHeartbeats 4000000 in
/-- The document's laySet. -/
theorem rlaySet_ (V : Nat → Prop) (a ka va : Option Addr) (n c kc vc : Nat) (l : List Sx) (s : Sx) (w : World) (hl : Sl w V a n l) (hs : SV w V ⟨ka, kc, va, vc, s⟩) (hn : n ≤ 1000000) (hk : ∀ x ∈ l, 0 < x.k.length ∧ x.k.length ≤ 1000000000) (hks : 0 < s.k.length ∧ s.k.length ≤ 1000000000) :
    Calls Tryz.prog 48 #[.slice a n c, .agg #[.slice ka s.k.length kc, .slice va s.v.length vc, .bool s.g]] w fun e w' => La w V n (lay s l) e w' := by
  have hlen := hl.len
  have HL := hid hl
  have HS := hid hs
  have HKK := hid hk
  have HKS := hid hks
  obtain ⟨sk, sv, sg⟩ := s
  simp only at *
  obtain ⟨kl, Hkl⟩ : ∃ z : Nat, Hid (sk.length = z) := ⟨_, rfl⟩
  obtain ⟨vl, Hvl⟩ : ∃ z : Nat, Hid (sv.length = z) := ⟨_, rfl⟩
  rw [Hkl.out, Hvl.out]
  have m1 := heap_alloc_new w (.cells #[.slice ka kl kc, .slice va vl vc, .bool sg] 99)
  have HB0 := hid (bel_al w (.cells #[.slice ka kl kc, .slice va vl vc, .bool sg] 99))
  have Y0 : Hid ((w.alloc (.cells #[.slice ka kl kc, .slice va vl vc, .bool sg] 99)).cell? ⟨w.heap.size, 0, none⟩ = some (.slice ka kl kc)) := by show _ = _; rw [cell_of_row _ _ 0 _ _ (0, 0) m1]; rfl
  have Y1 : Hid ((w.alloc (.cells #[.slice ka kl kc, .slice va vl vc, .bool sg] 99)).cell? ⟨w.heap.size, 1, none⟩ = some (.slice va vl vc)) := by show _ = _; rw [cell_of_row _ _ 1 _ _ (0, 0) m1]; rfl
  have Y2 : Hid ((w.alloc (.cells #[.slice ka kl kc, .slice va vl vc, .bool sg] 99)).cell? ⟨w.heap.size, 2, none⟩ = some (.bool sg)) := by show _ = _; rw [cell_of_row _ _ 2 _ _ (0, 0) m1]; rfl
  obtain ⟨W1, HW1⟩ : ∃ y, Hid (w.alloc (.cells #[.slice ka kl kc, .slice va vl vc, .bool sg] 99) = y) := ⟨_, rfl⟩
  rw [HW1.out] at HB0 Y0 Y1 Y2
  obtain ⟨g, Hg⟩ : ∃ y, Hid (w.heap.size = y) := ⟨_, rfl⟩
  rw [Hg.out] at Y0 Y1 Y2
  have HL1 := hid (HL.out.below HB0.out)
  have HS1 : Hid (SV W1 V ⟨ka, kc, va, vc, ⟨sk, sv, sg⟩⟩) := SV.below HS.out HB0.out
  clear hl hs hk hks m1 HL HS
  go_enter Tryz.func48, Tryz.ntmps48
  go_wp2_with fail
  rw [HW1.out, Hg.out]
  go_loopw [5, 6, 7] (fun v h i wr => ∃ (j : Nat) (ds : List SD) (q : Bool), j ≤ n ∧ i = .int .i64 j ∧ h = .bool q ∧ Hid (Sw3 V W1 wr v ds) ∧ Hid (layB ⟨sk, sv, sg⟩ (l.take j) = q) ∧ Hid (ds.map (·.s) = if q then lay ⟨sk, sv, sg⟩ (l.take j) else l.take j)) (fun _ _ i _ => n - (intOf i).toNat)
  case atStart => exact ⟨0, [], false, by omega, rfl, rfl, Sw3.nil V W1, rfl, rfl⟩
  case round =>
    obtain ⟨j, ds, q, hj, rfl, rfl, HR, HQ, HD⟩ := hrel
    have HDL : Hid (ds.length ≤ j + 1) := by
      have h1 := congrArg List.length HD.out
      rw [List.length_map] at h1
      show _ ≤ _
      rw [h1]
      split
      · rw [lay_len, List.length_take]; omega
      · rw [List.length_take]; omega
    have s0 := Bw.cell HR.out.bel Y0.out
    have s1 := Bw.cell HR.out.bel Y1.out
    have s2 := Bw.cell HR.out.bel Y2.out
    have HCS : Hid (∀ (y : World) (i : Nat) (u : Value), (sdc ⟨ka, kc, va, vc, ⟨sk, sv, sg⟩⟩)[i]? = some u → (y.alloc (.cells #[.slice ka kl kc, .slice va vl vc, .bool sg] 99)).cell? ⟨y.heap.size, i, none⟩ = some u) := fun y i u hi => by
      rw [cell_of_row _ y.heap.size i _ 99 (0, 0) (heap_alloc_new y _)]
      simp only [sdc, Hkl.out, Hvl.out] at hi
      simpa using hi
    by_cases hlt : j < n
    · have hjI : (j : Int) < n := by omega
      obtain ⟨b, off, rfl, hc⟩ : ∃ b off, a = some ⟨b, off, none⟩ ∧ ∀ i, i < n → SetAt W1 V b (off + i * 3) (l.getD i default) := by
        rcases HL1.out.cells with h0 | ⟨b, off, e, -, h⟩
        · omega
        · exact ⟨b, off, e, h⟩
      have HT := hid (set_take (l := l) (j := j) (by omega))
      have hkx := HKK.out _ (mem_getD (l := l) (j := j) default (by omega))
      obtain ⟨x, HX⟩ : ∃ x, Hid (l.getD j default = x) := ⟨_, rfl⟩
      have hx := hc j hlt
      rw [HX.out] at hx HT hkx
      obtain ⟨xk, xv, xg⟩ := x
      obtain ⟨qa, qc, ra, rc, c0, c1, c2, vk, vv⟩ := hx
      simp only at c0 c1 c2 vk vv hkx
      have HVX : Hid (SV W1 V ⟨qa, qc, ra, rc, ⟨xk, xv, xg⟩⟩) := ⟨vk, vv⟩
      obtain ⟨xl, Hxl⟩ : ∃ z : Nat, Hid (xk.length = z) := ⟨_, rfl⟩
      obtain ⟨yl, Hyl⟩ : ∃ z : Nat, Hid (xv.length = z) := ⟨_, rfl⟩
      rw [Hxl.out] at c0
      rw [Hyl.out] at c1
      have A0 := hid c0
      have A1 := hid c1
      have A2 := hid c2
      have x0 := Bw.cell HR.out.bel c0
      have x1 := Bw.cell HR.out.bel c1
      have x2 := Bw.cell HR.out.bel c2
      have ks := fun wx (hq : Bw wr wx) => r_less (W := wr) kc qc (xs := sk) (ys := xk) (lx sk xk) hq (HS1.out.1.bs.below HR.out.bel) (vk.bs.below HR.out.bel) HKS.out.1 hkx.1 HKS.out.2 hkx.2 rfl
      simp only at ks
      rw [Hkl.out, Hxl.out] at ks
      obtain ⟨r, hr⟩ : ∃ r, lx sk xk = r := ⟨_, rfl⟩
      rw [hr] at ks
      have HRR := hid hr
      clear hc c0 c1 c2 vk vv hr
      have HCX : Hid (∀ (y : World) (i : Nat) (u : Value), (sdc ⟨qa, qc, ra, rc, ⟨xk, xv, xg⟩⟩)[i]? = some u → (y.alloc (.cells #[.slice qa xl qc, .slice ra yl rc, .bool xg] 99)).cell? ⟨y.heap.size, i, none⟩ = some u) := fun y i u hi => by
        rw [cell_of_row _ y.heap.size i _ 99 (0, 0) (heap_alloc_new y _)]
        simp only [sdc, Hxl.out, Hyl.out] at hi
        simpa using hi
      cases q with
      | true =>
        go_wp2_with fail
        refine wp_quietC (Bw wr) (by kernel_rfl) (by kernel_rfl) (below_drew _) ?_
        repeat (first | go_big_quiet_skip | (go_big_quiet_want; go_big_quiet_op; first | go_big_quiet_on | (apply Exists.intro; refine ⟨fun wq hq => ?_, ?_⟩; (· first | (with_reducible rfl) | (have q1 := hq.cell s0; have q5 := hq.cell x0; go_simp; rfl) | rfl); go_big_quiet_on)))
        refine wpQuiet_nil ?_
        intro w3 s3
        have HR3 := hid (HR.out.below s3)
        clear s3 ks s0 s1 s2 x0 x1 x2 HR
        have x0 := Bw.cell HR3.out.bel A0.out
        have x1 := Bw.cell HR3.out.bel A1.out
        have x2 := Bw.cell HR3.out.bel A2.out
        have HO7 := hid (HR3.out.own.alloc (.cells #[.slice qa xl qc, .slice ra yl rc, .bool xg] 99))
        have HZ7 : Hid (W1.heap.size ≤ (w3.alloc (.cells #[.slice qa xl qc, .slice ra yl rc, .bool xg] 99)).heap.size) := by have := HR3.out.bel.size; show _ ≤ _; simp; omega
        go_wp2_with (first | (at_builtin; refine wpList_appSet rfl _ _ rfl W1.heap.size u5 ds rfl (by exact HO7.out) w3.heap.size ⟨qa, qc, ra, rc, ⟨xk, xv, xg⟩⟩ rfl (by exact HCX.out w3) (by have := HDL.out; omega) HZ7.out ?_; intro v7 w7 o7 g7 l7; have HR7 := hid (HR3.out.app HVX.out o7 g7); clear o7 g7 l7) | fail)
        go_roundw
        case rel => exact ⟨j + 1, ds ++ [⟨qa, qc, ra, rc, ⟨xk, xv, xg⟩⟩], true, by omega, by go_num, rfl, HR7, by show _ = _; rw [HT.out, layB_snoc, HQ.out]; rfl, by show _ = lay _ _; rw [HT.out, List.map_append, HD.out, lay_yes _ HQ.out]; rfl⟩
        case measure => simp [intOf]; omega
      | false =>
        cases r with
        | false =>
          go_wp2_with fail
          refine wp_quietC (Bw wr) (by kernel_rfl) (by kernel_rfl) (below_drew _) ?_
          repeat (first | go_big_quiet_skip | (go_big_quiet_want; go_big_quiet_op; first | go_big_quiet_on | (apply Exists.intro; refine ⟨fun wq hq => ?_, ?_⟩; (· first | (with_reducible rfl) | (go_at_call 71; exact (ks _ hq)) | (have q1 := hq.cell s0; have q5 := hq.cell x0; go_simp; rfl) | rfl); go_big_quiet_on)))
          refine wpQuiet_nil ?_
          intro w3 s3
          have HR3 := hid (HR.out.below s3)
          clear s3 ks s0 s1 s2 x0 x1 x2 HR
          have x0 := Bw.cell HR3.out.bel A0.out
          have x1 := Bw.cell HR3.out.bel A1.out
          have x2 := Bw.cell HR3.out.bel A2.out
          have HO7 := hid (HR3.out.own.alloc (.cells #[.slice qa xl qc, .slice ra yl rc, .bool xg] 99))
          have HZ7 : Hid (W1.heap.size ≤ (w3.alloc (.cells #[.slice qa xl qc, .slice ra yl rc, .bool xg] 99)).heap.size) := by have := HR3.out.bel.size; show _ ≤ _; simp; omega
          go_wp2_with (first | (at_builtin; refine wpList_appSet rfl _ _ rfl W1.heap.size u5 ds rfl (by exact HO7.out) w3.heap.size ⟨qa, qc, ra, rc, ⟨xk, xv, xg⟩⟩ rfl (by exact HCX.out w3) (by have := HDL.out; omega) HZ7.out ?_; intro v7 w7 o7 g7 l7; have HR7 := hid (HR3.out.app HVX.out o7 g7); clear o7 g7 l7) | fail)
          go_roundw
          case rel => exact ⟨j + 1, ds ++ [⟨qa, qc, ra, rc, ⟨xk, xv, xg⟩⟩], false, by omega, by go_num, rfl, HR7, by show _ = _; rw [HT.out, layB_snoc, HQ.out]; exact HRR.out, by show _ = List.take _ _; rw [HT.out, List.map_append, HD.out]; rfl⟩
          case measure => simp [intOf]; omega
        | true =>
          go_wp2_with fail
          refine wp_quietC (Bw wr) (by kernel_rfl) (by kernel_rfl) (below_drew _) ?_
          repeat (first | go_big_quiet_skip | (go_big_quiet_want; go_big_quiet_op; first | go_big_quiet_on | (apply Exists.intro; refine ⟨fun wq hq => ?_, ?_⟩; (· first | (with_reducible rfl) | (go_at_call 71; exact (ks _ hq)) | (have q1 := hq.cell s0; have q5 := hq.cell x0; go_simp; rfl) | rfl); go_big_quiet_on)))
          refine wpQuiet_nil ?_
          intro w3 s3
          have HR3 := hid (HR.out.below s3)
          clear s3 ks s0 s1 s2 x0 x1 x2 HR
          have s0 := Bw.cell HR3.out.bel Y0.out
          have s1 := Bw.cell HR3.out.bel Y1.out
          have s2 := Bw.cell HR3.out.bel Y2.out
          have HO7 := hid (HR3.out.own.alloc (.cells #[.slice ka kl kc, .slice va vl vc, .bool sg] 99))
          have HZ7 : Hid (W1.heap.size ≤ (w3.alloc (.cells #[.slice ka kl kc, .slice va vl vc, .bool sg] 99)).heap.size) := by have := HR3.out.bel.size; show _ ≤ _; simp; omega
          go_upto_region 9 with (first | (at_builtin; refine wpList_appSet rfl _ _ rfl W1.heap.size u5 ds rfl (by exact HO7.out) w3.heap.size ⟨ka, kc, va, vc, ⟨sk, sv, sg⟩⟩ rfl (by exact HCS.out w3) (by have := HDL.out; omega) HZ7.out ?_; intro v7 w7 o7 g7 l7; have HR7 := hid (HR3.out.app HS1.out o7 g7); clear o7 g7 l7) | fail)
          clear s0 s1 s2 HR3
          have x0 := Bw.cell HR7.out.bel A0.out
          have x1 := Bw.cell HR7.out.bel A1.out
          have x2 := Bw.cell HR7.out.bel A2.out
          have HO8 := hid (HR7.out.own.alloc (.cells #[.slice qa xl qc, .slice ra yl rc, .bool xg] 99))
          have HZ8 : Hid (W1.heap.size ≤ (w7.alloc (.cells #[.slice qa xl qc, .slice ra yl rc, .bool xg] 99)).heap.size) := by have := HR7.out.bel.size; show _ ≤ _; simp; omega
          go_wp2_with (first | (at_builtin; refine wpList_appSet rfl _ _ rfl W1.heap.size v7 (ds ++ [⟨ka, kc, va, vc, ⟨sk, sv, sg⟩⟩]) rfl (by exact HO8.out) w7.heap.size ⟨qa, qc, ra, rc, ⟨xk, xv, xg⟩⟩ rfl (by exact HCX.out w7) (by have := HDL.out; rw [List.length_append, List.length_singleton]; omega) HZ8.out ?_; intro v8 w8 o8 g8 l8; have HR8 := hid (HR7.out.app HVX.out o8 g8); clear o8 g8 l8) | fail)
          go_roundw
          case rel => exact ⟨j + 1, ds ++ [⟨ka, kc, va, vc, ⟨sk, sv, sg⟩⟩] ++ [⟨qa, qc, ra, rc, ⟨xk, xv, xg⟩⟩], true, by omega, by go_num, rfl, HR8, by show _ = _; rw [HT.out, layB_snoc, HQ.out]; exact HRR.out, by show _ = lay _ _; rw [HT.out, List.map_append, List.map_append, HD.out, lay_at HRR.out HQ.out]; rfl⟩
          case measure => simp [intOf]; omega
    · have hjI : ¬ (j : Int) < n := by omega
      obtain rfl : j = n := by omega
      rw [List.take_of_length_le (by omega)] at HD HQ
      have HFIN : Hid (∀ (v' : Value) (w' : World) (es : List SD), Sw3 V W1 w' v' es → es.map (·.s) = lay ⟨sk, sv, sg⟩ l → ∃ a' c', v' = .slice a' (j + 1) c' ∧ Sl w' (fun x => V x ∨ w.heap.size ≤ x) a' (j + 1) (lay ⟨sk, sv, sg⟩ l) ∧ Below w.heap.size w w') := fun v' w' es h he => by
        have hB := bel_bel HB0.out HB0.out.size h.bel
        obtain ⟨a', c', e, hl', -⟩ := Sl.ofOwn h.own (V := fun x => V x ∨ w.heap.size ≤ x) (fun d hd => ((h.sv d hd).below h.bel).wide fun x _ hx => .inl hx) (fun x hx => .inr (by have := HB0.out.size; show w.heap.size ≤ x; omega))
        have hn' : es.length = j + 1 := by
          have := congrArg List.length he
          rw [List.length_map, lay_len] at this
          omega
        rw [he, hn'] at hl'
        rw [hn'] at e
        exact ⟨a', c', e, hl', hB⟩
      cases q with
      | true =>
        go_wp2_with fail
        go_ret
        obtain ⟨a', c', rfl, h1, h2⟩ := HFIN.out _ _ ds HR.out (by rw [HD.out]; rfl)
        exact ⟨a', c', rfl, h1, h2⟩
      | false =>
        have HO7 := hid (HR.out.own.alloc (.cells #[.slice ka kl kc, .slice va vl vc, .bool sg] 99))
        have HZ7 : Hid (W1.heap.size ≤ (wr.alloc (.cells #[.slice ka kl kc, .slice va vl vc, .bool sg] 99)).heap.size) := by have := HR.out.bel.size; show _ ≤ _; simp; omega
        go_wp2_with (first | (at_builtin; refine wpList_appSet rfl _ _ rfl W1.heap.size u5 ds rfl (by exact HO7.out) wr.heap.size ⟨ka, kc, va, vc, ⟨sk, sv, sg⟩⟩ rfl (by exact HCS.out wr) (by have := HDL.out; omega) HZ7.out ?_; intro v7 w7 o7 g7 l7; have HR7 := hid (HR.out.app HS1.out o7 g7); clear o7 g7 l7) | fail)
        go_wp2_with fail
        go_ret
        obtain ⟨a', c', rfl, h1, h2⟩ := HFIN.out _ _ _ HR7.out (by rw [List.map_append, HD.out, lay_no HQ.out]; rfl)
        exact ⟨a', c', rfl, h1, h2⟩
end Go.Proofs.YtcbmgpmjnehjdaaGreat
