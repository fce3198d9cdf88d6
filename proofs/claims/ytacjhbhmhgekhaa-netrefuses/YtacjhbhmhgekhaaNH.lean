import Derived.Test.YtacjhbhmhgekhaaNG
import Derived.Test.YtacjhbhmhgekhaaNU
namespace Go.Proofs.Ytacjhbhmhgekhaa
open Go.RowKit
set_option linter.unusedVariables false
set_option maxRecDepth 100000

section
variable {w : World} {F : Nat → Prop} {r : Nat} {L : List Fl} {g : Int}
theorem flipL_at {L : List Fl} (ho : L.Pairwise fun x y => x.no < y.no) {i : Nat} (hi : i < L.length) {k : Int} (hk : (L.getD i fl0).no = k) (j : Nat) (v : Int) : flipL L k j v = L.set i (flipF (L.getD i fl0) j v) := by
  apply List.ext_getElem (by simp [flipL])
  intro t h1 h2
  have ht : t < L.length := by simpa [flipL] using h1
  rw [List.getElem_set]
  simp only [flipL, List.getElem_map]
  by_cases e : i = t
  · subst e
    rw [if_pos rfl]
    simp [List.getD, hi] at hk
    rw [if_pos hk]
    simp [List.getD, hi]
  · rw [if_neg e, if_neg]
    intro q
    rcases Nat.lt_or_ge t i with h | h
    · have := ord_at ho h hi
      simp [List.getD, ht, hi] at this hk
      omega
    · have := ord_at ho (i := i) (j := t) (by omega) ht
      simp [List.getD, ht, hi] at this hk
      omega
theorem fds_set {ds : List FD} {i : Nat} (hi : i < ds.length) {y : FD} (h1 : y.f.no = ds[i].f.no) (h2 : y.f.to = ds[i].f.to) : fds (ds.set i y) = (fds ds).set (i * 3 + 2) (fv y) := by
  apply List.ext_getElem?
  intro j
  rw [List.getElem?_set]
  by_cases hj : j < ds.length * 3
  · obtain ⟨t, c, hc, rfl⟩ : ∃ t c, c < 3 ∧ j = t * 3 + c := ⟨j / 3, j % 3, by omega, by omega⟩
    have ht : t < ds.length := by omega
    rw [fds_get _ t (by simpa using ht) c hc, fds_get _ t ht c hc, List.getElem_set]
    by_cases e : i = t
    · subst e
      rw [if_pos rfl]
      by_cases e2 : c = 2
      · subst e2
        rw [if_pos rfl, if_pos (by rw [fds_length]; omega)]
        rfl
      · rw [if_neg (by omega)]
        rcases (show c = 0 ∨ c = 1 by omega) with q | q
        · subst q; simp [fdc, h1]
        · subst q; simp [fdc, h2]
    · rw [if_neg e, if_neg (by omega)]
  · rw [List.getElem?_eq_none (by rw [fds_length]; simp; omega), if_neg (by omega), List.getElem?_eq_none (by rw [fds_length]; omega)]
set_option maxHeartbeats 4000000 in
theorem rflip_ (k at' x : Int) (ha : i64r at') (hx : i64r x) (h : RNet w F r L g) :
    Calls Try.prog 33 #[.pointer (some ⟨r, 0, none⟩), .int .i64 k, .int .i64 at', .int .i64 x] w fun e w' => e = .returned (.int .i64 (flE L k at' x)) ∧ RNet w' (Gr F w w') r (flL L k at' x) g ∧ Fx F w w' := by
  have H1 := hid h
  have k1 := rplace_ k H1.out
  unfold i64r at ha hx
  clear h
  go_enter Try.func33, Try.ntmps33
  go_wp2_with fail
  refine k1.mono ?_
  rintro e w1 ⟨q, rfl, hp, hw⟩
  subst hw
  clear k1
  rcases hp with ⟨hf, rfl⟩ | ⟨i, hi, hno, hf, rfl⟩
  · have e1 : flE L k at' x = 218 := by unfold flE; rw [hf]
    have e2 : flL L k at' x = L := by unfold flL; rw [e1]; rfl
    have E1 : Hid (flE L k at' x = 218 ∧ flL L k at' x = L) := ⟨e1, e2⟩
    clear hf e1 e2
    go_wp2_with fail
    go_ret
    rw [E1.out.1, E1.out.2]
    exact ⟨rfl, H1.out.gr H1.out.lt (Nat.le_refl _), Fx.refl _ _⟩
  · have HI := hid hi
    have HNO := hid hno
    have HFN := hid hf
    obtain ⟨v, ds, eL, h⟩ := H1.out
    have hid1 : i < ds.length := by rw [← eL, List.length_map] at hi; exact hi
    have hget : L.getD i fl0 = ds[i].f := by rw [← eL]; simp [List.getD, hid1]
    obtain ⟨av, cv, hv, hf1, hf2, hf3, hf4⟩ := h.form
    have c0 := h.blk.c0
    subst hv
    obtain ⟨b, rfl, hbl, hc⟩ : ∃ b, av = some ⟨b, 0, none⟩ ∧ b < w1.heap.size ∧ ∀ j u, (fds ds)[j]? = some u → w1.cell? ⟨b, j, none⟩ = some u := by
      rcases hf4 with ⟨_, h0⟩ | hf4
      · omega
      · exact hf4
    have h3 := fds_at hc hid1
    have hvs : Fv w1 (fun k => F k ∧ k ≠ r ∧ (Value.slice (some ⟨b, 0, none⟩) ds.length cv).ownBlock ≠ some k) ds[i] := h.val ds[i] (List.getElem_mem hid1)
    have hok := h.ok.byt ds[i].f (List.mem_map_of_mem (List.getElem_mem hid1))
    have hcnt := h.ok.cnt
    have hlt := h.blk.lt
    rw [List.length_map] at hcnt
    have HH := hid h
    obtain ⟨m, HM⟩ : ∃ m, Hid (ds.length = m) := ⟨_, rfl⟩
    have HID : Hid (i < ds.length) := hid1
    have him : i < m := by rw [← HM.out]; exact hid1
    have hiI : (i : Int) < m := by omega
    have hi0 : ¬ (i : Int) < 0 := by omega
    obtain ⟨y, HY⟩ : ∃ y, Hid (ds[i]'HID.out = y) := ⟨_, rfl⟩
    have HYE := HY.out
    rw [HYE] at h3 hvs hok hget
    have HG := hid hget
    have c2 := h3.2.2
    obtain ⟨n, HN⟩ : ∃ n, Hid (y.f.d.length = n) := ⟨_, rfl⟩
    have HVS : Hid (Bs w1 y.a n y.f.d) := HN.out ▸ hvs.bs
    have hnl : n ≤ 65536 := by rw [← HN.out]; exact hok.2.1
    have HOKB : Hid (Okb y.f.d) := hok.1
    unfold fv at c2
    rw [HN.out] at c2
    rw [HM.out] at c0 HH hcnt
    have HEL := hid eL
    clear h hf1 hf2 hf3 hf4 h3 hvs hok hget hi hno hf HYE hc eL hid1
    by_cases hbad : at' < 0 ∨ (n : Int) ≤ at' ∨ x < 1 ∨ 255 < x
    · have e1 : flE L k at' x = 2 := by unfold flE; rw [HFN.out, HG.out]; simp only [HN.out]; rw [if_pos hbad]
      have e2 : flL L k at' x = L := by unfold flL; rw [e1]; rfl
      have E1 : Hid (flE L k at' x = 2 ∧ flL L k at' x = L) := ⟨e1, e2⟩
      clear e1 e2
      have h4 : at' < 0 ∨ (¬ at' < 0 ∧ (n : Int) ≤ at') ∨ (¬ at' < 0 ∧ ¬ (n : Int) ≤ at' ∧ x < 1) ∨ (¬ at' < 0 ∧ ¬ (n : Int) ≤ at' ∧ ¬ x < 1 ∧ 255 < x) := by omega
      clear hbad
      rcases h4 with q1 | ⟨q1, q2⟩ | ⟨q1, q2, q3⟩ | ⟨q1, q2, q3, q4⟩
      all_goals
        go_wp2_with fail
        go_ret
        rw [E1.out.1, E1.out.2]
        exact ⟨rfl, H1.out.gr H1.out.lt (Nat.le_refl _), Fx.refl _ _⟩
    · have e1 : flE L k at' x = 0 := by unfold flE; rw [HFN.out, HG.out]; simp only [HN.out]; rw [if_neg hbad]
      have e2 : flL L k at' x = flipL L k at'.toNat x := by unfold flL; rw [e1]; rfl
      obtain ⟨t, rfl⟩ : ∃ t : Nat, at' = t := ⟨at'.toNat, by omega⟩
      have E1 : Hid (flE L k t x = 0 ∧ flL L k t x = flipL L k t x) := ⟨e1, e2⟩
      clear e1 e2
      have htn : t < n := by omega
      have hI : (t : Int) < n := by omega
      have q3 : ¬ x < 1 := by omega
      have q4 : ¬ 255 < x := by omega
      have hcv : IntKind.u8.wrap x = x := by rw [IntKind.wrap_u8]; omega
      clear hbad
      have k2 := refBytes y.a n y.c y.f.d w1 HVS.out (by omega)
      go_wp2_with fail
      refine k2.mono ?_
      rintro e w2 ⟨v2, rfl, o2, g2⟩
      obtain ⟨g3, cap3, e3, p1, p2, p3, p4, p5⟩ := own_head o2 (by omega)
      subst e3
      have HO2 := hid o2
      have HG2 := hid g2
      have HP3 := hid p3
      have e0 := p4.cell t (by rw [p5]; exact htn)
      have f0 := p4.unfrozen t
      obtain ⟨z, HZ⟩ : ∃ z, Hid (y.f.d.getD t 0 = z) := ⟨_, rfl⟩
      rw [HZ.out] at e0
      have hrb : Rb w2 r (.slice (some ⟨b, 0, none⟩) m cv) g := (g2.block r hlt).trans HH.out.blk
      have d0 := hrb.c0
      have HRB := hid hrb
      have hgr : g3 ≠ r := by omega
      have hgb : g3 ≠ b := by omega
      have HOW : Hid (w2.ownsRow 0 49 3 (.slice (some ⟨b, 0, none⟩) m cv) ds.length (fds ds)) := own_bel HH.out.row g2
      have HRW : Hid (w2.cell? ⟨b, i * 3 + 2, none⟩ = some (.slice y.a n y.c)) := (g2.cell (p := ⟨b, i * 3 + 2, none⟩) hbl).trans c2
      have c3 := HRW.out
      have f3 : w2.frozen? ⟨b, i * 3 + 2, none⟩ = false := by
        obtain ⟨cur, hc⟩ := row_type HOW.out rfl
        simp [World.frozen?, hc]
      clear k2 o2 g2 p1 p2 p3 p4 p5 hrb c0 c2
      go_wp2_with fail
      go_ret
      rw [E1.out.1, E1.out.2]
      have hs2 := HG2.out.size
      have hrb0 : r ≠ b := fun e => HH.out.ne (by rw [e]; rfl)
      have hbk : ∀ k, k ≠ g3 → k ≠ b → ((w2.setCell ⟨g3, t, none⟩ (.int .u8 (bits .xor .u8 z x))).setCell ⟨b, i * 3 + 2, none⟩ (.slice (some ⟨g3, 0, none⟩) n cap3)).heap[k]? = w2.heap[k]? := fun k h1 h2 => (Below.heap_setCell _ _ _ _ h2).trans (Below.heap_setCell _ _ _ _ h1)
      have hsz : ((w2.setCell ⟨g3, t, none⟩ (.int .u8 (bits .xor .u8 z x))).setCell ⟨b, i * 3 + 2, none⟩ (.slice (some ⟨g3, 0, none⟩) n cap3)).heap.size = w2.heap.size := by simp [World.setCell]
      have hg3 := HP3.out
      have hlen : (flipF y.f t x).d.length = n := by rw [flip_len]; exact HN.out
      have hfv : fv ⟨flipF y.f t x, some ⟨g3, 0, none⟩, cap3⟩ = .slice (some ⟨g3, 0, none⟩) n cap3 := by unfold fv; simp only [hlen]
      have hds : fds (ds.set i ⟨flipF y.f t x, some ⟨g3, 0, none⟩, cap3⟩) = (fds ds).set (i * 3 + 2) (.slice (some ⟨g3, 0, none⟩) n cap3) := by
        rw [fds_set HID.out (by rw [HY.out]; rfl) (by rw [HY.out]; rfl), hfv]
      have hrow : ((w2.setCell ⟨g3, t, none⟩ (.int .u8 (bits .xor .u8 z x))).setCell ⟨b, i * 3 + 2, none⟩ (.slice (some ⟨g3, 0, none⟩) n cap3)).ownsRow 0 49 3 (.slice (some ⟨b, 0, none⟩) m cv) (ds.set i ⟨flipF y.f t x, some ⟨g3, 0, none⟩, cap3⟩).length (fds (ds.set i ⟨flipF y.f t x, some ⟨g3, 0, none⟩, cap3⟩)) := by
        have o3 : (w2.setCell ⟨g3, t, none⟩ (.int .u8 (bits .xor .u8 z x))).ownsRow 0 49 3 (.slice (some ⟨b, 0, none⟩) m cv) m (fds ds) := by
          have := HOW.out
          rw [HM.out] at this
          exact row_same this fun k e => Below.heap_setCell _ _ _ _ (fun q => hgb (by have e : some b = some k := e; rw [Option.some.inj e, q]))
        have := (o3.stored (i * 3 + 2) (.slice (some ⟨g3, 0, none⟩) n cap3)).1
        rw [hds, List.length_set, HM.out]
        exact this
      have hy : ((w2.setCell ⟨g3, t, none⟩ (.int .u8 (bits .xor .u8 z x))).setCell ⟨b, i * 3 + 2, none⟩ (.slice (some ⟨g3, 0, none⟩) n cap3)).ownsRow w1.heap.size 5 1 (.slice (some ⟨g3, 0, none⟩) n cap3) n (cells (flipF y.f t x).d) := by
        have o3 := (HO2.out.stored t (.int .u8 (bits .xor .u8 z x))).1
        have o4 := row_same (w' := (w2.setCell ⟨g3, t, none⟩ (.int .u8 (bits .xor .u8 z x))).setCell ⟨b, i * 3 + 2, none⟩ (.slice (some ⟨g3, 0, none⟩) n cap3)) o3 fun k e => Below.heap_setCell _ _ _ _ (fun q => hgb (by have e : some g3 = some k := e; rw [Option.some.inj e, q]))
        unfold flipF
        rw [HZ.out]
        simp only [cells, List.map_set]
        exact o4
      have hokf : NOk (flipL L k t x) g := H1.out.ok.flip
      have hmap : (ds.set i ⟨flipF y.f t x, some ⟨g3, 0, none⟩, cap3⟩).map (·.f) = flipL L k t x := by
        rw [flipL_at H1.out.ok.ord HI.out HNO.out, List.map_set, HEL.out, HG.out]
      refine ⟨rfl, ⟨_, ds.set i ⟨flipF y.f t x, some ⟨g3, 0, none⟩, cap3⟩, hmap, HH.out.next (fun k hk h1 h2 => (hbk k (by omega) (fun e => h2 (by rw [e]; rfl))).trans (HG2.out.block k hk)) (by omega) ((hbk r (Ne.symm hgr) hrb0).trans HRB.out) hrow (fun k e => .inl e) (fun q hq => ?_) (by rw [hmap]; exact hokf)⟩, ⟨HG2.out.os, HG2.out.tape, HG2.out.output, by omega, fun k hk hF => (hbk k (by omega) (fun e => hF (by rw [e]; exact HH.out.fo b rfl))).trans (HG2.out.block k hk)⟩⟩
      rcases List.mem_or_eq_of_mem_set hq with hq | rfl
      · exact .inl hq
      · right
        obtain ⟨a5, c5, e5, hv5⟩ := Vs.ofOwn hy (okb_set HOKB.out _ _ (xor_byte _ _))
        obtain ⟨rfl, rfl⟩ : some ⟨g3, 0, none⟩ = a5 ∧ cap3 = c5 := by simpa using e5
        show Vs _ _ _ (flipF y.f t x).d.length _ _
        rw [hlen]
        refine hv5.wide fun k _ hV => ⟨hV, fun e => ?_⟩
        have e : some b = some k := e
        have := Option.some.inj e
        omega
set_option maxHeartbeats 4000000 in
theorem runder_ (h : RNet w F r L g) :
    Calls Try.prog 34 #[.pointer (some ⟨r, 0, none⟩)] w fun e w' => ∃ a n c, n = L.length ∧ e = .returned (.slice a n c) ∧ Fls w' (fun k => w.heap.size ≤ k) a n L ∧ Below w.heap.size w w' := by
  have H1 := hid h
  have hcnt := h.ok.cnt
  have HLT := hid h.lt
  obtain ⟨v, ds0, eL, h⟩ := h
  obtain ⟨av, cv, hv, hf1, hf2, hf3, hf4⟩ := h.form
  have HC0 := hid h.blk.c0
  have HR := hid h.blk.lt
  subst hv
  obtain ⟨m, HM⟩ : ∃ m, Hid (L.length = m) := ⟨_, rfl⟩
  have hm0 : ds0.length = m := by rw [← HM.out, ← eL, List.length_map]
  rw [hm0] at HC0
  rw [HM.out] at hcnt
  clear h hf1 hf2 hf3 hf4 eL hm0
  have c0 := HC0.out
  go_enter Try.func34, Try.ntmps34
  go_wp2_with fail
  go_loopw [4, 3] (fun i v wr => ∃ (j : Nat) (ds : List FD), j ≤ m ∧ i = .int .i64 j ∧ Hid (ds.map (·.f) = L.take j) ∧ Hid (Mk w wr v ds)) (fun i _ _ => m - (intOf i).toNat)
  case atStart => exact ⟨0, [], by omega, rfl, rfl, ⟨World.ownsRow_nil _ _ _ _, fun x hx => by simp at hx, Below.refl _ _⟩⟩
  case round =>
    obtain ⟨j, ds, hj, rfl, HD, HK⟩ := hrel
    have hr := HR.out
    have d0 : wr.cell? ⟨r, 0, none⟩ = some (.slice av m cv) := (HK.out.bel.cell (p := ⟨r, 0, none⟩) hr).trans HC0.out
    clear c0
    by_cases hlt : j < m
    · have hI : (j : Int) < m := by omega
      have hi : j < L.length := by rw [HM.out]; exact hlt
      obtain ⟨b, m2, c2, da, dc, c0, hm2, hlr, hbl, q0, q1, q2, hvs⟩ := (H1.out.on HK.out.bel).row_at hi
      rw [d0] at c0
      have c0 := Option.some.inj c0
      injection c0 with ea em ec
      subst ea em ec
      have hok := H1.out.ok.byt (L.getD j fl0) (getD_mem hi)
      have HTK : Hid (L.take (j + 1) = L.take j ++ [L.getD j fl0]) := by
        show _ = _
        rw [show L.getD j fl0 = L[j] from by simp [List.getD, hi]]
        exact (List.take_append_getElem hi).symm
      obtain ⟨f, HF⟩ : ∃ f, Hid (L.getD j fl0 = f) := ⟨_, rfl⟩
      rw [HF.out] at q0 q1 q2 hvs hok HTK
      obtain ⟨n, HN⟩ : ∃ n, Hid (f.d.length = n) := ⟨_, rfl⟩
      rw [HN.out] at q2 hvs hok
      obtain ⟨no, to, d⟩ := f
      simp only at q0 q1 hvs hok HN
      have k1 := refBytes da n dc d wr hvs.bs (by have := hok.2.1; omega)
      have HOKB : Hid (Okb d) := hok.1
      have HQ : Hid (wr.cell? ⟨r, 0, none⟩ = some (.slice (some ⟨b, 0, none⟩) m cv) ∧ wr.cell? ⟨b, j * 3, none⟩ = some (.int .i64 no) ∧ wr.cell? ⟨b, j * 3 + 1, none⟩ = some (.int .i64 to)) := ⟨d0, q0, q1⟩
      have HDL : Hid (ds.length = j) := by
        have := congrArg List.length HD.out
        rw [List.length_map, List.length_take, HM.out] at this
        show _ = _
        omega
      have HBW0 : Hid (b < w.heap.size) := by
        obtain ⟨b1, m1, c1, da1, dc1, z0, _, _, zb, _⟩ := H1.out.row_at hi
        rw [HC0.out] at z0
        have z0 := Option.some.inj z0
        injection z0 with za
        have za := Option.some.inj za
        injection za with za
        rw [za]; exact zb
      have hrw : r < wr.heap.size := hlr
      have HRW := hid hrw
      have HBW : Hid (b < wr.heap.size) := hbl
      obtain ⟨av3, cv3, hv3, -⟩ := own_addr HK.out.own
      rw [HDL.out] at hv3
      subst hv3
      clear hvs hok hm2 hi hlr hbl hr
      go_wp2_with fail
      refine k1.mono ?_
      rintro e w2 ⟨v2, rfl, o2, g2⟩
      obtain ⟨a2, c2, e2, -⟩ := own_addr o2
      subst e2
      have HO2 := hid o2
      have HG2 := hid g2
      have x0 := (g2.cell (p := ⟨r, 0, none⟩) HRW.out).trans HQ.out.1
      have x1 := (g2.cell (p := ⟨b, j * 3, none⟩) HBW.out).trans HQ.out.2.1
      have x2 := (g2.cell (p := ⟨b, j * 3 + 1, none⟩) HBW.out).trans HQ.out.2.2
      have HK2 := hid (HK.out.on g2)
      have HDN : Hid (d.length = n) := HN.out
      obtain ⟨n', HN'⟩ : ∃ z, Hid (ds.length + 1 = z) := ⟨_, rfl⟩
      have HBA : Hid (Below w2.heap.size w2 (w2.drew.alloc (.cells #[.int .i64 no, .int .i64 to, .slice a2 n c2] 49))) := (below_drew w2).trans (((Below.refl w2.heap.size w2.drew).alloc (Nat.le_refl _) _))
      have HBA2 : Hid (Below w2.heap.size w2 (w2.alloc (.cells #[.int .i64 no, .int .i64 to, .slice a2 n c2] 49)).drew) := ((Below.refl _ _).alloc (Nat.le_refl _) _).trans ⟨rfl, rfl, rfl, Nat.le_refl _, fun _ _ => rfl⟩
      have HKA := hid (HK2.out.on HBA2.out)
      have HNW : Hid (∀ j u, (fdc ⟨⟨no, to, d⟩, a2, c2⟩)[j]? = some u → (w2.alloc (.cells #[.int .i64 no, .int .i64 to, .slice a2 n c2] 49)).drew.cell? ⟨w2.heap.size, j, none⟩ = some u) := fun j u hj => by
        simp only [fdc, fv, HDN.out] at hj
        exact (cell_of_row (w2.alloc _) w2.heap.size j _ 49 (0, 0) (heap_alloc_new w2 _)).trans (by simpa using hj)
      have HVX : Hid (Fv (w2.alloc (.cells #[.int .i64 no, .int .i64 to, .slice a2 n c2] 49)).drew (fun k => w.heap.size ≤ k ∧ (Value.slice av3 j cv3).ownBlock ≠ some k) ⟨⟨no, to, d⟩, a2, c2⟩) := by
        obtain ⟨a5, c5, e5, hv5⟩ := Vs.ofOwn HO2.out HOKB.out
        obtain ⟨rfl, rfl⟩ : a2 = a5 ∧ c2 = c5 := by simpa using e5
        show Vs _ _ a2 d.length c2 d
        rw [HDN.out]
        refine (hv5.step fun k hk _ _ => HBA2.out.block k hk).wide fun k _ hV => ⟨Nat.le_trans HK.out.bel.size hV, fun e => ?_⟩
        have := (HK.out.own.lt k e).2
        omega
      have HKC : Hid (∀ w6, (w2.alloc (.cells #[.int .i64 no, .int .i64 to, .slice a2 n c2] 49)).drew.grownBy w6 (Value.slice av3 j cv3).ownBlock → w6.cell? ⟨r, 0, none⟩ = some (.slice (some ⟨b, 0, none⟩) m cv) ∧ w6.cell? ⟨b, j * 3, none⟩ = some (.int .i64 no) ∧ w6.cell? ⟨b, j * 3 + 1, none⟩ = some (.int .i64 to)) := fun w6 h6 => by
        have hown : ∀ k, k < w.heap.size → w6.heap[k]? = w2.heap[k]? := fun k hk => (h6.block k (Nat.lt_of_lt_of_le (Nat.lt_of_lt_of_le hk HK2.out.bel.size) HBA2.out.size) (fun e => by have := (HKA.out.own.lt k e.symm).1; omega)).trans (HBA2.out.block k (Nat.lt_of_lt_of_le hk HK2.out.bel.size))
        have h1 := hown r HR.out
        have h2 := hown b HBW0.out
        exact ⟨(World.cell?_of_block (w := w2) (w' := w6) (a := ⟨r, 0, none⟩) h1).trans x0, (World.cell?_of_block (w := w2) (w' := w6) (a := ⟨b, j * 3, none⟩) h2).trans x1, (World.cell?_of_block (w := w2) (w' := w6) (a := ⟨b, j * 3 + 1, none⟩) h2).trans x2⟩
      clear k1 o2 g2 d0 q0 q1 q2
      go_wp2_with fail
      go_region_held_law (fun wx => wx.cell? ⟨r, 0, none⟩ = some (.slice (some ⟨b, 0, none⟩) m cv) ∧ wx.cell? ⟨b, j * 3, none⟩ = some (.int .i64 no) ∧ wx.cell? ⟨b, j * 3 + 1, none⟩ = some (.int .i64 to)) (go_keep) (first
        | (refine step_appF (by rfl) (.tmp 24) (.tmp 43) (by rfl) w.heap.size (.slice av3 j cv3) ds (by rfl) (by exact HKA.out.own) w2.heap.size ⟨⟨no, to, d⟩, a2, c2⟩ (by rfl) (by exact HNW.out) (by have := HDL.out; omega) (by exact HKA.out.bel.size) n' HN' ?_; intro g6 cap6 w6 HO6 HG6 HL6; obtain ⟨y0, y1, y2⟩ := HKC.out w6 HG6.out))
      all_goals
        have HK6 := hid (HKA.out.app HVX.out HO6.out HG6.out (HL6.out.imp (fun e => e.symm) (fun e => by rw [e]; rfl)))
        have HD6 : Hid ((ds ++ [(⟨⟨no, to, d⟩, a2, c2⟩ : FD)]).map (·.f) = L.take (j + 1)) := by show _ = _; rw [HTK.out, List.map_append, HD.out]; rfl
        clear HO6 HG6 HL6
        go_wp2_with fail
        go_roundw
        case rel => exact ⟨j + 1, _, by omega, by go_num, HD6, HK6⟩
        case measure => simp [intOf]; omega
    · have hI : ¬ (j : Int) < m := by omega
      obtain rfl : j = m := by omega
      have HE : Hid (ds.map (·.f) = L) := by rw [HD.out]; exact List.take_of_length_le (by rw [HM.out]; exact Nat.le_refl _)
      obtain ⟨a7, c7, e7, hfl, -⟩ := HK.out.fls
      have HFL := hid hfl
      have HL7 : Hid (ds.length = L.length) := by have := congrArg List.length HE.out; rw [List.length_map] at this; exact this
      have HB7 := hid HK.out.bel
      obtain ⟨n7, HN7⟩ : ∃ z, Hid (ds.length = z) := ⟨_, rfl⟩
      rw [HN7.out] at e7 HFL HL7
      rw [HE.out] at HFL
      subst e7
      clear hfl HK
      go_wp2_with fail
      go_ret
      exact ⟨a7, ⟨c7, by rw [← HL7.out]; rfl⟩, by rw [← HL7.out]; exact HFL.out, HB7.out⟩
end
end Go.Proofs.Ytacjhbhmhgekhaa
