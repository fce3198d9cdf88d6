import Derived.Test.YteeapmcpbmjpmaaGreatTL
import Derived.Sort.KeysCollected
import Derived.Sort.EncStr
namespace Go.Proofs.YteeapmcpbmjpmaaGreat
set_option maxRecDepth 100000
open Go.RowKit Go.Shelf Go.Maps
set_option linter.unusedVariables false

theorem ofU_length (l : List UInt8) : (ofU l).length = l.length := by simp [ofU]
/-- []byte(s). -/
theorem run_toB (w : World) (l : List UInt8) (hl : l.length ≤ maxLen) : ∃ w' cap, (convert 9 35 (.string ⟨l.toArray⟩)).run Tryz.prog w = .ok (.slice (some ⟨w.heap.size, 0, none⟩) l.length cap) w' ∧ Vs w' (fun x => x = w.heap.size) (some ⟨w.heap.size, 0, none⟩) (ofU l).length cap (ofU l) ∧ Below w.heap.size w w' ∧ w.heap.size < w'.heap.size := by
  have hr := run_bytes_of_string (P := Tryz.prog) w 9 35 5 ⟨l.toArray⟩ Tryz.underlying9 Tryz.underlying35 Tryz.underlying5
  have hs : (⟨l.toArray⟩ : ByteArray).size = l.length := by simp [ByteArray.size]
  rw [hs] at hr
  have hge := grownCap_ge w l.length 0 5
  have hle := grownCap_le_maxLen w l.length 0 5 hl
  refine ⟨_, _, hr, ⟨?_, ?_, hle, (fun e => by cases e), fun ad e _ => by obtain rfl := Option.some.inj e; rfl⟩, ?_, by simp⟩
  · refine ⟨rfl, ofU_okb l, .inr ⟨w.heap.size, 0, rfl, fun i hi => ?_⟩⟩
    rw [ofU_length] at hi
    rw [Nat.zero_add, cell_of_row _ w.heap.size i _ 5 _ (heap_alloc_new w.drew _)]
    simp [bytesRow, hi, ofU, List.getD, Array.getElem?_append]
  · rw [ofU_length]; exact hge
  · exact ⟨rfl, rfl, rfl, by simp, fun k hk => Below.heap_alloc w.drew _ k hk⟩
def mkV (p : Option Addr × Nat × Nat) : Value := .slice p.1 p.2.1 p.2.2
theorem own_ne_iter {w : World} {b r n : Nat} {D : DataW Value} {left : Lit → Bool} {cnt base e sz m : Nat} {v : Value} {xs : List Value} (h : w.ownsRow base e sz v m xs) (hr : w.ranges Tryz.prog 9 RV b r n D left cnt) : v.ownBlock ≠ some r := by
  obtain ⟨_, _, _, _, _, _, _, _, _, hit, _⟩ := hr
  rcases h.2 with ⟨rfl, _⟩ | ⟨g, cap, cur, rfl, _, hb, _⟩
  · simp [Value.ownBlock]
  · intro e1
    obtain rfl : g = r := by simpa [Value.ownBlock] using e1
    rw [hit] at hb
    cases hb
theorem iter_not_cells {w : World} {b r n : Nat} {D : DataW Value} {left : Lit → Bool} {cnt : Nat} (hr : w.ranges Tryz.prog 9 RV b r n D left cnt) {a : Option Addr} {m : Nat} {v : List Int} (h : Bs w a m v) {ad : Addr} (e : a = some ad) (hm : 0 < m) : ad.block ≠ r := by
  obtain ⟨_, _, _, _, _, _, _, _, _, hit, _⟩ := hr
  rcases h.2.2 with h0 | ⟨b', off, rfl, hc⟩
  · omega
  · obtain rfl := Option.some.inj e
    intro f
    have f : b' = r := f
    subst f
    have := hc 0 hm
    simp [World.cell?, hit] at this
/-- What has been gathered of a map so far. -/
structure Gth (M : Tab) (left : Lit → Bool) (l : Tab) : Prop where
  mem : ∀ k v, (k, v) ∈ l ↔ (look M k = some v ∧ left (litK k) = false)
  apart : l.Pairwise (fun p q => p.1 ≠ q.1)
theorem Gth.start {w : World} {V : Nat → Prop} {D : DataW Value} {M : Tab} (h : Dm w V D M) (hT : Tok M) : Gth M (Maps.has D) [] := by
  refine ⟨fun k v => ?_, List.Pairwise.nil⟩
  constructor
  · intro h; simp at h
  · rintro ⟨h1, h2⟩
    rw [h.has k (hT.key _ (look_mem h1)).1, h1] at h2
    cases h2
theorem litK_ofU (x : List UInt8) : litK (ofU x) = .string x := by unfold litK; rw [bytesOf_ofU]
theorem Gth.step {M : Tab} {left : Lit → Bool} {l : Tab} (h : Gth M left l) (hT : Tok M) {k v : List Int} (hk : Okb k) (hl : look M k = some v) (hleft : left (litK k) = true) : Gth M (fun z => left z && !z.sameKey (litK k)) (l ++ [(k, v)]) := by
  have hsame : ∀ k', Okb k' → (litK k').sameKey (litK k) = decide (k' = k) := fun k' hk' => by
    by_cases e : k' = k
    · subst e
      rw [decide_eq_true rfl]
      simp [Lit.sameKey, litK]
    · rw [decide_eq_false e]
      exact sameKey_ne fun f => e (litK_inj hk' hk f)
  refine ⟨fun k' v' => ?_, ?_⟩
  · rw [List.mem_append, List.mem_singleton, h.mem k' v']
    constructor
    · rintro (⟨h1, h2⟩ | e)
      · exact ⟨h1, by rw [h2]; rfl⟩
      · obtain ⟨rfl, rfl⟩ : k' = k ∧ v' = v := by simpa using e
        refine ⟨hl, ?_⟩
        rw [hsame k' hk]
        simp
    · rintro ⟨h1, h2⟩
      by_cases e : k' = k
      · subst e
        rw [hl] at h1
        obtain rfl := Option.some.inj h1
        exact .inr rfl
      · left
        refine ⟨h1, ?_⟩
        rw [hsame k' (hT.key _ (look_mem h1)).1, decide_eq_false e] at h2
        simpa using h2
  · rw [List.pairwise_append]
    refine ⟨h.apart, by simp, fun p hp q hq => ?_⟩
    rw [List.mem_singleton] at hq
    subst hq
    intro e
    have := ((h.mem p.1 p.2).1 hp).2
    simp only at e
    rw [e, hleft] at this
    cases this
theorem Gth.done {M : Tab} {left : Lit → Bool} {l l' : Tab} (h : Gth M left l) (hS : Srt M) (hl : ∀ kl, left kl = false) (hp : l'.Perm l) (hs : l'.Pairwise (fun a b => lx b.1 a.1 = false)) : l' = M := by
  refine srt_ext Prod.fst l' M ?_ hS fun x => ?_
  · have ha : l'.Pairwise (fun p q => p.1 ≠ q.1) := (hp.pairwise_iff (fun h => Ne.symm h)).2 h.apart
    exact (hs.and ha).imp fun ⟨h1, h2⟩ => lx_of_ne (Ne.symm h2) h1
  · obtain ⟨k, v⟩ := x
    rw [hp.mem_iff, h.mem k v, srt_mem hS, hl]
    simp
set_option maxHeartbeats 1000000 in
theorem inOrder_ (b : Nat) (V : Nat → Prop) (M : Tab) (w : World) (hM : Mp w b V M) (hT : Tok M) (hML : M.length ≤ 1000000000) :
    Calls Tryz.prog 60 #[.map (some b)] w fun e w' => ∃ a n c, n = M.length ∧ e = .returned (.slice a n c) ∧ Rl w' (fun x => V x ∨ w.heap.size ≤ x) a n M ∧ n ≤ c ∧ c ≤ maxLen ∧ (a = none → c = 0) ∧ Below w.heap.size w w' := by
  obtain ⟨D, hD, hDm⟩ := hM
  have HD := hid hD
  have HDM := hid hDm
  have HT := hid hT
  have HG0 := hid (Gth.start hDm hT)
  clear hD hDm hT
  go_enter Tryz.func60, Tryz.ntmps60
  go_wp2_with (first | (at_range; refine wpList_range_own _ rfl _ 50 rfl 9 35 law9 Tryz.underlying50 RV b _ D rfl HD.out ?_; intro w0 hrg0 hg0 hs0) | fail)
  go_frame
  have HR0 := hid hrg0
  have HB0 := hid (below_of_grown hg0)
  clear hrg0 hg0 hs0
  go_loopw [3] (fun v wr => ∃ (ds : List RD) (left : Lit → Bool) (cnt : Nat), Hid (wr.ranges Tryz.prog 9 RV b w.heap.size (Maps.size D) D left cnt) ∧ Hid (Gth M left (ds.map (·.s))) ∧ Hid (ds.length + cnt ≤ M.length) ∧ Hid (∀ d ∈ ds, RV2 wr (fun x => (V x ∨ w.heap.size ≤ x) ∧ v.ownBlock ≠ some x) d) ∧ Hid (wr.ownsRow w.heap.size 55 2 v ds.length (rds ds)) ∧ Hid (Below w.heap.size w wr)) (fun _ wr => wr.rangeLeft b w.heap.size)
  case atStart => exact ⟨[], _, _, HR0, HG0, by show 0 + _ ≤ _; rw [HDM.out.size]; omega, fun d hd => by simp at hd, World.ownsRow_nil _ _ _ _, HB0⟩
  case round =>
    obtain ⟨ds, left, cnt, HR, HG, HC, HV, HO, HB⟩ := hrel
    have HLE := hid HR.out.left_eq
    go_wp2_with (first | (at_next; refine wpList_next_ranges _ rfl _ rfl 9 law9 RV encStr mkV (fun key kl hk => by obtain ⟨x, hx, _⟩ := Maps.keyOf_str Tryz.underlying9 hk; exact ⟨x, hx⟩) (fun v y hv => by obtain ⟨a, n, c, rfl, _⟩ := RV_inv hv; exact ⟨(a, n, c), rfl⟩) b w.heap.size _ D left cnt rfl HR.out ?_ ?_) | fail)
    · intro _ hl0
      have HL0 := hid hl0
      have hdl : ds.length ≤ 1000000000 := by have := HC.out; omega
      clear hl0 HLE
      by_cases hd0 : ds = []
      · subst hd0
        obtain ⟨al, cl, rfl, h1, h2, h3, h4⟩ := own_addr HO.out
        have HM0 : Hid ([] = M) := HG.out.done HT.out.srt HL0.out (List.Perm.refl _) List.Pairwise.nil
        have hM0 : M.length = 0 := by rw [← HM0.out]; rfl
        have H1 := hid h1
        have H2 := hid h2
        have H3 := hid h3
        simp only [List.length_nil] at *
        clear h1 h2 h3 h4
        go_wp2_with fail
        refine (sortR_none al cl wr).mono ?_
        rintro e w5 ⟨rfl, hw⟩
        obtain rfl := hw.symm
        clear hw
        go_wp2_with fail
        go_ret
        first | exact ⟨al, 0, cl, hM0.symm, rfl, ⟨hM0, .inl rfl⟩, H1.out, H2.out, H3.out, HB.out⟩ | exact ⟨0, hM0.symm, al, cl, rfl, ⟨hM0, .inl rfl⟩, H1.out, H2.out, H3.out, HB.out⟩
      · have hdp : 0 < ds.length := List.length_pos_iff.2 hd0
        obtain ⟨g, cap, cur, rfl, hbg, hgc, hnc, hcm, hcs, htk⟩ : ∃ g cap cur, u3 = .slice (some ⟨g, 0, none⟩) ds.length cap ∧ w.heap.size ≤ g ∧ wr.heap[g]? = some (.cells cur 55 (0, 0)) ∧ ds.length ≤ cap ∧ cap ≤ maxLen ∧ cur.size = cap * 2 ∧ cur.toList.take (ds.length * 2) = rds ds := by
          rcases HO.out.2 with ⟨_, h0⟩ | h
          · omega
          · exact h
        have hown : (Value.slice (some ⟨g, 0, none⟩) ds.length cap).ownBlock = some g := rfl
        rw [hown] at HV
        have kcells : ∀ j u, (rds ds)[j]? = some u → wr.cell? ⟨g, j, none⟩ = some u := fun j u hu => by
          rw [cell_of_row wr g j cur _ (0, 0) hgc]
          rw [← htk, List.getElem?_take] at hu
          split at hu
          · simpa using hu
          · cases hu
        have ks := sortR_ ds hdp hdl g cap cur wr hgc kcells (fun d hd => ⟨(HV.out d hd).1.bs, fun ad e hn f => ((HV.out d hd).1.lies ad e hn).2 (by rw [f])⟩)
        have HBG := hid hbg
        have HNC := hid hnc
        have HCM := hid hcm
        obtain ⟨n, HN⟩ : ∃ n, Hid (ds.length = n) := ⟨_, rfl⟩
        rw [HN.out] at ks HNC
        rw [HN.out]
        clear kcells hcs htk hgc hown hdl hdp hd0 hbg hnc hcm HO
        go_wp2_with fail
        refine ks.mono ?_
        rintro e w5 ⟨rfl, ds', hp, hs, hc5, hcur5, g5⟩
        have HP := hid hp
        have HM1 : Hid (ds'.map (·.s) = M) := HG.out.done HT.out.srt HL0.out (hp.map _) (by rw [List.pairwise_map]; exact hs)
        have HC5 := hid hc5
        have HG5 := hid g5
        have HB5 : Hid (Below w.heap.size w w5) := HB.out.grown g5 HB.out.size (fun q e => by obtain rfl := Option.some.inj e; exact HBG.out)
        clear ks hp hs hc5 hcur5 g5
        go_wp2_with fail
        go_ret
        have hlen : n = M.length := by rw [← HM1.out, List.length_map, HP.out.length_eq, HN.out]
        have hrl : Rl w5 (fun x => V x ∨ w.heap.size ≤ x) (some ⟨g, 0, none⟩) n M := by
          refine ⟨hlen.symm, .inr ⟨g, 0, rfl, .inr HBG.out, fun i hi => ?_⟩⟩
          have hi' : i < ds'.length := by rw [HP.out.length_eq, HN.out]; exact hi
          have e : M.getD i ([], []) = ds'[i].s := by rw [← HM1.out]; simp [List.getD, hi']
          have hd := HV.out ds'[i] (HP.out.mem_iff.1 (List.getElem_mem hi'))
          have hd5 : RV2 w5 (fun x => (V x ∨ w.heap.size ≤ x) ∧ some g ≠ some x) ds'[i] := hd.step fun x hx hx' _ => HG5.out.block x hx (fun e => hx'.2 e.symm)
          have hd6 := hd5.wide (V' := fun x => V x ∨ w.heap.size ≤ x) (fun x _ h => h.1)
          rw [e, Nat.zero_add]
          exact ⟨ds'[i].ka, ds'[i].kc, ds'[i].va, ds'[i].vc, HC5.out _ _ (rds_get ds' i hi' 0 (by decide)), HC5.out _ _ (rds_get ds' i hi' 1 (by decide)), hd6.1, hd6.2⟩
        have hnil : (some (⟨g, 0, none⟩ : Addr)) = none → cap = 0 := fun e => by cases e
        first | exact ⟨_, n, cap, hlen, rfl, hrl, HNC.out, HCM.out, hnil, HB5.out⟩ | exact ⟨n, hlen, _, cap, rfl, hrl, HNC.out, HCM.out, hnil, HB5.out⟩
    · intro x va vn vc kl yd yp w2 cnt2 hkey hlk hv hat hrg2 hlt hg2 hs2 hen
      obtain ⟨x', ex, rfl, hxl⟩ := Maps.keyOf_str Tryz.underlying9 hkey
      obtain rfl : x = x' := encStr_inj ex
      obtain ⟨v, HLV, HVS⟩ : ∃ v, Hid (look M (ofU x) = some v) ∧ Hid (Vs w V va vn vc v) := by
        obtain ⟨a', n', c', e1, e2⟩ := RV_inv hv
        have e2 : yd = .held (.slice a' n' c') := congrArg Prod.fst e2
        obtain ⟨rfl, rfl, rfl⟩ : va = a' ∧ vn = n' ∧ vc = c' := by simpa [mkV] using e1
        have hh := has_true_of_atKey hat
        rw [← litK_ofU, HDM.out.has _ (ofU_okb x)] at hh
        obtain ⟨v, hv'⟩ := Option.isSome_iff_exists.1 hh
        obtain ⟨a, n, c, h1, h2⟩ := HDM.out.val _ _ hv'
        rw [litK_ofU] at h1
        have h3 := (h1 yd).symm.trans (hat yd)
        rw [e2] at h3
        obtain ⟨rfl, rfl, rfl⟩ : a = va ∧ n = vn ∧ c = vc := by simpa using h3
        exact ⟨v, hv', h2⟩
      have hvl : v.length = vn := HVS.out.bs.1
      have HG2 := hid (HG.out.step HT.out (ofU_okb x) HLV.out (by rw [litK_ofU]; exact hlk))
      rw [litK_ofU] at HG2
      have hrb : w.heap.size < wr.heap.size := HR.out.lt
      have hown : ∀ q, u3.ownBlock = some q → w.heap.size ≤ q ∧ q < wr.heap.size := HO.out.lt
      have HB2 : Hid (Below w.heap.size w w2) := HB.out.grown hg2 HB.out.size (fun q e => by obtain rfl := Option.some.inj e; exact Nat.le_refl _)
      have HO2 := hid (HO.out.kept hg2 (.inr (own_ne_iter HO.out HR.out)))
      have HV2 : Hid (∀ d ∈ ds, RV2 w2 (fun x => (V x ∨ w.heap.size ≤ x) ∧ u3.ownBlock ≠ some x) d) := fun d hd => by
        have h := HV.out d hd
        exact ⟨⟨h.1.bs.same_block fun ad e hn => hg2.block _ (h.1.bs.at_block e hn).1 (by have := iter_not_cells HR.out h.1.bs e hn; simpa using this), h.1.nc, h.1.cm, h.1.nil, h.1.lies⟩,
          ⟨h.2.bs.same_block fun ad e hn => hg2.block _ (h.2.bs.at_block e hn).1 (by have := iter_not_cells HR.out h.2.bs e hn; simpa using this), h.2.nc, h.2.cm, h.2.nil, h.2.lies⟩⟩
      have HVW : Hid (Vs w2 (fun x => (V x ∨ w.heap.size ≤ x) ∧ u3.ownBlock ≠ some x) va vn vc v) := (HVS.out.wide (V' := fun x => (V x ∨ w.heap.size ≤ x) ∧ u3.ownBlock ≠ some x) fun x hx h => ⟨.inl h, fun e => by have := (hown x e).1; omega⟩).step fun x hx _ _ => HB2.out.block x hx
      obtain ⟨w3, kc, hrun, hvk, hb3, hs3⟩ := run_toB w2 x hxl
      have HRG2 := hid hrg2
      have HSZ2 : Hid (w2.heap.size = wr.heap.size) := hs2
      have HLT := hid hlt
      rw [ofU_length] at hvk
      obtain ⟨kn, HKN⟩ : ∃ kn, Hid (x.length = kn) := ⟨_, rfl⟩
      rw [HKN.out] at hrun hvk
      have hrun : (convert 9 35 (encStr x)).run Tryz.prog w2 = .ok (.slice (some ⟨w2.heap.size, 0, none⟩) kn kc) w3 := hrun
      have HVK := hid hvk
      have HB3 := hid hb3
      have HS3 := hid hs3
      obtain ⟨o, HOB⟩ : ∃ o, Hid (Obj.cells #[.slice (some ⟨w2.heap.size, 0, none⟩) kn kc, .slice va vn vc] 55 = o) := ⟨_, rfl⟩
      replace hen : (Instr.entry (.pointer (some ⟨w.heap.size, 0, none⟩))).run Tryz.prog w2 = .ok (.tuple #[encStr x, .slice va vn vc]) w2 := hen
      have HKU : Hid ((ofU x).length = kn) := by rw [← HKN.out]; exact ofU_length x
      have HVU : Hid (v.length = vn) := hvl
      have HB4 := hid ((Below.refl w3.heap.size w3).alloc (Nat.le_refl _) o)
      have HO4 := hid ((HO2.out.kept (grown_of_below hb3) (by cases u3.ownBlock <;> simp)).alloc o)
      have HBW4 := hid ((bel_bel HB2.out HB2.out.size hb3).alloc (by have := hb3.size; have := HB2.out.size; omega) o)
      have HNW : Hid (∀ j u, (rdc ⟨some ⟨w2.heap.size, 0, none⟩, kc, va, vc, (ofU x, v)⟩)[j]? = some u → (w3.alloc o).cell? ⟨w3.heap.size, j, none⟩ = some u) := fun j u hj => by
        rw [cell_of_row (w3.alloc o) w3.heap.size j _ 55 (0, 0) ((heap_alloc_new w3 o).trans (by rw [← HOB.out]))]
        simp only [rdc, HKU.out, HVU.out] at hj
        simpa using hj
      have HDL : Hid (ds.length ≤ 1000000000) := by have := HC.out; show _ ≤ _; omega
      have HRG4 := hid ((HRG2.out.kept (grown_of_below hb3) (by simp) (by simp)).alloc o)
      have HSA : Hid ((w3.alloc o).heap.size = w3.heap.size + 1) := by simp [Hid]
      rw [← HOB.out] at HO4 HBW4 HNW HB4 HRG4 HSA
      clear hkey hv hat hrg2 hlt hs2 ex hlk hvk hb3 hs3 hxl hg2 HO HV HO2
      generalize encStr x = key at *
      simp only [mkV]
      go_wp2_with (first | (at_builtin; refine wpList_appRow rfl _ _ rfl w.heap.size u3 ds rfl (by exact HO4.out) w3.heap.size ⟨some ⟨w2.heap.size, 0, none⟩, kc, va, vc, (ofU x, v)⟩ rfl (by exact HNW.out) HDL.out HBW4.out.size ?_; intro v5 w5 o5 g5 l5; have HO5 := hid o5; have HG5 := hid g5; have HL5 := hid l5; clear o5 g5 l5 HNW) | fail)
      have hown4 : ∀ q, u3.ownBlock = some q → w.heap.size ≤ q := fun q e => (HO4.out.lt q e).1
      have HR5 := hid (HRG4.out.kept HG5.out (by have := HD.out.lt; intro e; have := hown4 b e.symm; omega) (fun e => own_ne_iter HO4.out HRG4.out e.symm))
      go_roundw
      case rel =>
        refine ⟨ds ++ [⟨some ⟨w2.heap.size, 0, none⟩, kc, va, vc, (ofU x, v)⟩], _, cnt2, HR5, ?_, ?_, ?_, HO5, HBW4.out.grown HG5.out HBW4.out.size (fun q e => hown4 q e)⟩
        · rw [List.map_append]
          exact HG2.out
        · have := HC.out
          have := HLT.out
          show _ ≤ _
          rw [List.length_append, List.length_singleton]
          omega
        · have hst : ∀ {d : RD}, (∀ ad, d.ka = some ad → 0 < d.s.1.length → ad.block < w3.heap.size) → (∀ ad, d.va = some ad → 0 < d.s.2.length → ad.block < w3.heap.size) → RV2 w3 (fun x => (V x ∨ w.heap.size ≤ x) ∧ u3.ownBlock ≠ some x) d → RV2 w5 (fun x => (V x ∨ w.heap.size ≤ x) ∧ v5.ownBlock ≠ some x) d := fun {d} h1 h2 h => by
            have ha := h.below HB4.out
            have hb := ha.step (w' := w5) (fun x hx hx' _ => HG5.out.block x hx (fun e => hx'.2 e.symm))
            have hw : ∀ x, x < w3.heap.size → u3.ownBlock ≠ some x → v5.ownBlock ≠ some x := fun x hx hn e => by
              rcases HL5.out with h | h
              · exact hn (by rw [← h]; exact e)
              · rw [h] at e
                have := Option.some.inj e
                have := HSA.out
                omega
            exact ⟨⟨hb.1.bs, hb.1.nc, hb.1.cm, hb.1.nil, fun ad e hn => ⟨(hb.1.lies ad e hn).1, hw _ (h1 ad e hn) (hb.1.lies ad e hn).2⟩⟩, ⟨hb.2.bs, hb.2.nc, hb.2.cm, hb.2.nil, fun ad e hn => ⟨(hb.2.lies ad e hn).1, hw _ (h2 ad e hn) (hb.2.lies ad e hn).2⟩⟩⟩
          intro d hd
          rcases List.mem_append.1 hd with hd | hd
          · have h3 := (HV2.out d hd).below HB3.out
            exact hst (fun ad e hn => (h3.1.bs.at_block e hn).1) (fun ad e hn => (h3.2.bs.at_block e hn).1) h3
          · rw [List.mem_singleton] at hd
            subst hd
            have hk3 : Vs w3 (fun x => (V x ∨ w.heap.size ≤ x) ∧ u3.ownBlock ≠ some x) (some ⟨w2.heap.size, 0, none⟩) (ofU x).length kc (ofU x) := by
              rw [HKU.out]
              refine ⟨HVK.out.bs, HVK.out.nc, HVK.out.cm, HVK.out.nil, fun ad e hn => ?_⟩
              obtain rfl := Option.some.inj e
              refine ⟨.inr ?_, fun e => ?_⟩
              · have := HB2.out.size; exact this
              · have := (hown _ e).2
                have := HSZ2.out
                simp at *
                omega
            have hv3 : Vs w3 (fun x => (V x ∨ w.heap.size ≤ x) ∧ u3.ownBlock ≠ some x) va v.length vc v := by
              rw [HVU.out]
              exact HVW.out.step fun x hx _ _ => HB3.out.block x hx
            exact hst (fun ad e hn => (hk3.bs.at_block e hn).1) (fun ad e hn => (hv3.bs.at_block e hn).1) ⟨hk3, hv3⟩
      case measure =>
        rw [HR5.out.left_eq, HLE.out]
        exact HLT.out
end Go.Proofs.YteeapmcpbmjpmaaGreat
