import Derived.Test.YthflghjmpellpaaND
namespace Go.Proofs.Ythflghjmpellpaa
open Go.RowKit Go.Shelf Go.Maps
set_option linter.unusedVariables false
set_option maxRecDepth 100000

/-! Under. -/
theorem ord_ext : ∀ (l m : List Fl), (l.Pairwise fun x y => x.no < y.no) → (m.Pairwise fun x y => x.no < y.no) → (∀ x, x ∈ l ↔ x ∈ m) → l = m
  | [], [], _, _, _ => rfl
  | [], y :: m, _, _, h => by have := (h y).2 List.mem_cons_self; simp at this
  | x :: l, [], _, _, h => by have := (h x).1 List.mem_cons_self; simp at this
  | x :: l, y :: m, h1, h2, h => by
    rw [List.pairwise_cons] at h1 h2
    have e : x = y := by
      rcases List.mem_cons.1 ((h x).1 List.mem_cons_self) with e | e
      · exact e
      · rcases List.mem_cons.1 ((h y).2 List.mem_cons_self) with f | f
        · exact f.symm
        · have := h2.1 x e
          have := h1.1 y f
          omega
    subst e
    congr 1
    refine ord_ext l m h1.2 h2.2 fun z => ?_
    constructor
    · intro hz
      rcases List.mem_cons.1 ((h z).1 (List.mem_cons_of_mem _ hz)) with e | e
      · have := h1.1 z hz; rw [e] at this; omega
      · exact e
    · intro hz
      rcases List.mem_cons.1 ((h z).2 (List.mem_cons_of_mem _ hz)) with e | e
      · have := h2.1 z hz; rw [e] at this; omega
      · exact e
/-- What has been gathered of a net so far. -/
structure Gth (M : List FD) (left : Lit → Bool) (l : List Fl) : Prop where
  mem : ∀ f, f ∈ l ↔ ((ff M f.no).map (·.f) = some f ∧ left (.int .i64 f.no) = false)
  apart : l.Pairwise fun p q => p.no ≠ q.no
theorem Gth.start {D : DataW Value} {M : List FD} (h : Dm D M) : Gth M (Maps.has D) [] := by
  refine ⟨fun f => ?_, List.Pairwise.nil⟩
  constructor
  · intro h; simp at h
  · rintro ⟨h1, h2⟩
    rw [h.has] at h2
    cases e : ff M f.no with
    | none => rw [e] at h1; cases h1
    | some x => rw [e] at h2; cases h2
theorem Gth.step {M : List FD} {left : Lit → Bool} {l : List Fl} (h : Gth M left l) {x : FD} (hl : ff M x.f.no = some x) (hleft : left (.int .i64 x.f.no) = true) : Gth M (fun z => left z && !z.sameKey (.int .i64 x.f.no)) (l ++ [x.f]) := by
  have hsame : ∀ k' : Int, (Lit.int .i64 k').sameKey (.int .i64 x.f.no) = decide (k' = x.f.no) := fun k' => by
    by_cases e : k' = x.f.no
    · subst e
      rw [decide_eq_true rfl]
      simp [Lit.sameKey]
    · rw [decide_eq_false e]
      exact sameKey_ne (lit_ne e)
  refine ⟨fun f => ?_, ?_⟩
  · rw [List.mem_append, List.mem_singleton, h.mem f]
    constructor
    · rintro (⟨h1, h2⟩ | rfl)
      · exact ⟨h1, by rw [h2]; rfl⟩
      · exact ⟨by rw [hl]; rfl, by rw [hsame]; simp⟩
    · rintro ⟨h1, h2⟩
      by_cases e : f.no = x.f.no
      · right
        rw [e, hl] at h1
        exact (Option.some.inj h1).symm
      · left
        refine ⟨h1, ?_⟩
        rw [hsame, decide_eq_false e] at h2
        simpa using h2
  · rw [List.pairwise_append]
    refine ⟨h.apart, by simp, fun p hp q hq => ?_⟩
    rw [List.mem_singleton] at hq
    subst hq
    intro e
    have := ((h.mem p).1 hp).2
    rw [e, hleft] at this
    cases this
theorem Gth.done {M : List FD} {left : Lit → Bool} {l l' : List Fl} (h : Gth M left l) (hS : (M.map (·.f)).Pairwise fun x y => x.no < y.no) (hl : ∀ kl, left kl = false) (hp : l'.Perm l) (hs : l'.Pairwise fun a b => ¬ b.no < a.no) : l' = M.map (·.f) := by
  refine ord_ext l' _ ?_ hS fun x => ?_
  · have ha : l'.Pairwise (fun p q => p.no ≠ q.no) := (hp.pairwise_iff (fun h => Ne.symm h)).2 h.apart
    exact (hs.and ha).imp fun ⟨h1, h2⟩ => by omega
  · rw [hp.mem_iff, h.mem x, hl]
    constructor
    · rintro ⟨h1, _⟩
      obtain ⟨y, hy, rfl⟩ := Option.map_eq_some_iff.1 h1
      exact List.mem_map_of_mem (ff_mem hy).1
    · intro hx
      obtain ⟨y, hy, rfl⟩ := List.mem_map.1 hx
      rw [ff_of_mem hS hy]
      exact ⟨rfl, rfl⟩
def mkV (p : Int × Int × Option Addr × Nat × Nat) : Value := .agg #[.int .i64 p.1, .int .i64 p.2.1, .slice p.2.2.1 p.2.2.2.1 p.2.2.2.2]
theorem own_ne_iter {w : World} {b r n : Nat} {D : DataW Value} {left : Lit → Bool} {cnt base e sz m : Nat} {v : Value} {xs : List Value} (h : w.ownsRow base e sz v m xs) (hr : w.ranges Try.prog 3 RV b r n D left cnt) : v.ownBlock ≠ some r := by
  obtain ⟨_, _, _, _, _, _, _, _, _, hit, _⟩ := hr
  rcases h.2 with ⟨rfl, _⟩ | ⟨g, cap, cur, rfl, _, hb, _⟩
  · simp [Value.ownBlock]
  · intro e1
    obtain rfl : g = r := by simpa [Value.ownBlock] using e1
    rw [hit] at hb
    cases hb
theorem iter_not_cells {w : World} {b r n : Nat} {D : DataW Value} {left : Lit → Bool} {cnt : Nat} (hr : w.ranges Try.prog 3 RV b r n D left cnt) {a : Option Addr} {m : Nat} {v : List Int} (h : Bs w a m v) {ad : Addr} (e : a = some ad) (hm : 0 < m) : ad.block ≠ r := by
  obtain ⟨_, _, _, _, _, _, _, _, _, hit, _⟩ := hr
  rcases h.2.2 with h0 | ⟨b', off, rfl, hc⟩
  · omega
  · obtain rfl := Option.some.inj e
    intro f
    have f : b' = r := f
    subst f
    have := hc 0 hm
    simp [World.cell?, hit] at this
/-- The list in the making. -/
structure Mk (w W : World) (v : Value) (ds : List FD) : Prop where
  own : W.ownsRow w.heap.size 34 3 v ds.length (fds ds)
  val : ∀ x ∈ ds, Fv W (fun k => w.heap.size ≤ k ∧ v.ownBlock ≠ some k) x
  bel : Below w.heap.size w W
section
variable {w W W' : World} {v v' : Value} {ds : List FD}
theorem Mk.on (h : Mk w W v ds) (hb : Below W.heap.size W W') : Mk w W' v ds := ⟨own_bel h.own hb, fun x hx => (h.val x hx).step fun k hk _ _ => hb.block k hk, bel_bel h.bel h.bel.size hb⟩
theorem Mk.iter {b r n : Nat} {D : DataW Value} {left : Lit → Bool} {cnt : Nat} (h : Mk w W v ds) (hr : W.ranges Try.prog 3 RV b r n D left cnt) (hg : W.grownBy W' (some r)) (hb : w.heap.size ≤ r) : Mk w W' v ds :=
  ⟨h.own.kept hg (.inr (own_ne_iter h.own hr)), fun x hx => by
    have hv := h.val x hx
    exact ⟨hv.bs.same_block fun ad e hn => hg.block _ (hv.bs.at_block e hn).1 (by have := iter_not_cells hr hv.bs e hn; simpa using this), hv.nc, hv.cm, hv.nil, hv.lies⟩, h.bel.grown hg h.bel.size (fun q e => by obtain rfl := Option.some.inj e; exact hb)⟩
theorem Mk.app (h : Mk w W v ds) {x : FD} (hx : Fv W (fun k => w.heap.size ≤ k ∧ v.ownBlock ≠ some k) x) (ho : W'.ownsRow w.heap.size 34 3 v' (ds ++ [x]).length (fds (ds ++ [x]))) (hg : W.grownBy W' v.ownBlock) (hv : v'.ownBlock = v.ownBlock ∨ v'.ownBlock = some W.heap.size) : Mk w W' v' (ds ++ [x]) := by
  have hst : ∀ {y : FD}, Fv W (fun k => w.heap.size ≤ k ∧ v.ownBlock ≠ some k) y → Fv W' (fun k => w.heap.size ≤ k ∧ v'.ownBlock ≠ some k) y := fun {y} h1 => by
    have h2 : Fv W (fun k => (w.heap.size ≤ k ∧ v.ownBlock ≠ some k) ∧ k < W.heap.size) y := ⟨h1.bs, h1.nc, h1.cm, h1.nil, fun ad e hn => ⟨h1.lies ad e hn, (h1.bs.at_block e hn).1⟩⟩
    have h3 : Fv W' (fun k => (w.heap.size ≤ k ∧ v.ownBlock ≠ some k) ∧ k < W.heap.size) y := Vs.step h2 fun k hk e _ => hg.block k hk (fun q => e.1.2 q.symm)
    refine Vs.wide h3 fun k _ e => ⟨e.1.1, fun q => ?_⟩
    rcases hv with hv | hv
    · exact e.1.2 (by rw [← hv]; exact q)
    · rw [hv] at q
      have := Option.some.inj q
      omega
  refine ⟨ho, fun y hy => ?_, h.bel.grown hg h.bel.size (fun q e => (h.own.lt q e).1)⟩
  rcases List.mem_append.1 hy with hy | hy
  · exact hst (h.val y hy)
  · rw [List.mem_singleton] at hy
    subst hy
    exact hst hx
theorem Mk.fls (h : Mk w W v ds) : ∃ a c, v = .slice a ds.length c ∧ Fls W (fun k => w.heap.size ≤ k) a ds.length (ds.map (·.f)) ∧ ds.length ≤ c ∧ c ≤ maxLen ∧ (a = none → c = 0) :=
  Fls.ofOwn h.own (fun x hx => Vs.wide (h.val x hx) fun k _ e => e.1) fun x hx _ _ => hx
end
section
variable {w : World} {F : Nat → Prop} {p : Nat} {L : List Fl} {g : Int}
set_option maxHeartbeats 4000000 in
theorem under_ (h : Net w F p L g) :
    Calls Try.prog 14 #[.pointer (some ⟨p, 0, none⟩)] w fun e w' => ∃ a n c, n = L.length ∧ e = .returned (.slice a n c) ∧ Fls w' (fun k => w.heap.size ≤ k) a n L ∧ n ≤ c ∧ c ≤ maxLen ∧ (a = none → c = 0) ∧ Below w.heap.size w w' := by
  obtain ⟨b, ds0, rfl, h⟩ := h
  have HH := hid h
  have c0 := h.blk.c0
  have hlt := h.blk.lt
  obtain ⟨D, h1, h2⟩ := h.map
  have HD := hid h1
  have HDM := hid h2
  have HLEN : Hid (ds0.length ≤ 1024) := by have := h.ok.cnt; rw [List.length_map] at this; exact this
  have HORD := hid h.ok.ord
  have HG0 := hid (Gth.start h2)
  obtain ⟨N, HN⟩ : ∃ N, Hid (Maps.size D = N) := ⟨_, rfl⟩
  have HNL : Hid (N = ds0.length) := by rw [← HN.out]; exact h2.size
  obtain ⟨ti, hi, hz0, hz1, hz2⟩ := info_parts infoF
  obtain ⟨wM, hmk, hom, hgm⟩ := run_make_own (P := Try.prog) w w.heap.size 26 34 ti _ 3 Try.underlying26 hi hz0 hz1 .i64 .i64 N (by rw [hz2]; have := HNL.out; have := HLEN.out; omega) (by unfold maxLen; have := HNL.out; have := HLEN.out; omega) (Nat.le_refl _)
  have HOM := hid hom
  have HBM := hid (below_of_grown hgm)
  have HDM1 : Hid (wM.ownsMap Try.prog 3 RV b (Maps.size D) D) := own_same HD.out (HBM.out.block b HD.out.lt)
  have d0 : wM.cell? ⟨p, 0, none⟩ = some (.map (some b)) := (HBM.out.cell (p := ⟨p, 0, none⟩) hlt).trans c0
  have HSM : Hid (w.heap.size ≤ wM.heap.size) := HBM.out.size
  clear h h1 h2 hom hgm hi hz0 hz1 hz2
  go_enter Try.func14, Try.ntmps14
  go_wp2_with (first | (at_len; refine wpList_len_own _ rfl _ 48 rfl 3 34 Try.underlying48 RV b _ D rfl HD.out ?_; rw [HN.out]) | (at_range; refine wpList_range_own _ rfl _ 48 rfl 3 34 lawI Try.underlying48 RV b _ D rfl HDM1.out ?_; intro w0 hrg0 hg0 hs0) | fail)
  go_frame
  have HR0 := hid hrg0
  have HMK0 : Hid (Mk w w0 (.slice (some ⟨w.heap.size, 0, none⟩) 0 N) []) := ⟨own_bel HOM.out (below_of_grown hg0), fun x hx => by simp at hx, bel_bel HBM.out HBM.out.size (below_of_grown hg0)⟩
  clear hrg0 hg0 hs0 c0 d0 hmk
  obtain ⟨r, HRR⟩ : ∃ r, Hid (wM.heap.size = r) := ⟨_, rfl⟩
  have HRB : Hid (w.heap.size ≤ r) := by rw [← HRR.out]; exact HSM.out
  rw [HRR.out] at HR0 ⊢
  go_loopw [3] (fun v wr => ∃ (ds : List FD) (left : Lit → Bool) (cnt : Nat), Hid (wr.ranges Try.prog 3 RV b r (Maps.size D) D left cnt) ∧ Hid (Gth ds0 left (ds.map (·.f))) ∧ Hid (ds.length + cnt ≤ ds0.length) ∧ Hid (Mk w wr v ds)) (fun _ wr => wr.rangeLeft b r)
  case atStart => exact ⟨[], _, _, HR0, HG0, by show 0 + _ ≤ _; rw [HDM.out.size]; omega, HMK0⟩
  case round =>
    obtain ⟨ds, left, cnt, HR, HG, HC, HM⟩ := hrel
    have HLE := hid HR.out.left_eq
    go_wp2_with (first | (at_next; refine wpList_next_ranges _ rfl _ rfl 3 lawI RV (Value.int .i64) mkV (fun key kl hk => by obtain ⟨x, rfl, _⟩ := Maps.keyOf_int_inv Try.underlying3 hk; exact ⟨x, rfl⟩) (fun v y hv => by obtain ⟨n, t, a, m, c, rfl, _⟩ := RV_inv hv; exact ⟨(n, t, a, m, c), rfl⟩) b r _ D left cnt rfl HR.out ?_ ?_) | fail)
    · intro _ hl0
      have HL0 := hid hl0
      clear hl0 HLE
      have HDL : Hid (ds.length ≤ 1024) := by have := HC.out; have := HLEN.out; show _ ≤ _; omega
      by_cases hd0 : ds = []
      · subst hd0
        obtain ⟨al, cl, rfl, h1, h2, h3, h4⟩ := own_addr HM.out.own
        have HM0 : Hid ([] = ds0.map (·.f)) := HG.out.done HORD.out HL0.out (List.Perm.refl _) List.Pairwise.nil
        have hM0 : (ds0.map (·.f)).length = 0 := by rw [← HM0.out]; rfl
        have HM0L := hid hM0
        have H1 := hid h1
        have H2 := hid h2
        have H3 := hid h3
        have HB := hid HM.out.bel
        simp only [List.length_nil] at *
        clear h1 h2 h3 h4 hM0 HM
        go_wp2_with fail
        refine (sortF_none al cl wr).mono ?_
        rintro e w5 ⟨rfl, hw⟩
        obtain rfl := hw.symm
        clear hw
        go_wp2_with fail
        go_ret
        first | exact ⟨al, 0, cl, HM0L.out.symm, rfl, ⟨HM0L.out, .inl rfl⟩, H1.out, H2.out, H3.out, HB.out⟩ | exact ⟨0, HM0L.out.symm, al, cl, rfl, ⟨HM0L.out, .inl rfl⟩, H1.out, H2.out, H3.out, HB.out⟩
      · have hdp : 0 < ds.length := List.length_pos_iff.2 hd0
        obtain ⟨gg, cap, cur, rfl, hbg, hgc, hnc, hcm, hcs, htk⟩ : ∃ g cap cur, u3 = .slice (some ⟨g, 0, none⟩) ds.length cap ∧ w.heap.size ≤ g ∧ wr.heap[g]? = some (.cells cur 34 (0, 0)) ∧ ds.length ≤ cap ∧ cap ≤ maxLen ∧ cur.size = cap * 3 ∧ cur.toList.take (ds.length * 3) = fds ds := by
          rcases HM.out.own.2 with ⟨_, h0⟩ | h
          · omega
          · exact h
        have kcells : ∀ j u, (fds ds)[j]? = some u → wr.cell? ⟨gg, j, none⟩ = some u := fun j u hu => by
          rw [cell_of_row wr gg j cur _ (0, 0) hgc]
          rw [← htk, List.getElem?_take] at hu
          split at hu
          · simpa using hu
          · cases hu
        have ks := sortF_ ds hdp (by have := HDL.out; omega) gg cap cur wr hgc kcells
        have HBG := hid hbg
        have HNC := hid hnc
        have HCM := hid hcm
        obtain ⟨n, HN2⟩ : ∃ n, Hid (ds.length = n) := ⟨_, rfl⟩
        rw [HN2.out] at ks HNC HM ⊢
        clear kcells hcs htk hgc hdp hd0 hbg hnc hcm
        go_wp2_with fail
        refine ks.mono ?_
        rintro e w5 ⟨rfl, ds', hp, hs, hc5, hcur5, g5⟩
        have HP := hid hp
        have HM1 : Hid (ds'.map (·.f) = ds0.map (·.f)) := HG.out.done HORD.out HL0.out (hp.map _) (by rw [List.pairwise_map]; exact hs.imp fun h => by omega)
        have HC5 := hid hc5
        have HG5 := hid g5
        have HB5 : Hid (Below w.heap.size w w5) := HM.out.bel.grown g5 HM.out.bel.size (fun q e => by obtain rfl := Option.some.inj e; exact HBG.out)
        clear ks hp hs hc5 hcur5 g5
        go_wp2_with fail
        go_ret
        have hlen : n = (ds0.map (·.f)).length := by rw [← HM1.out, List.length_map, HP.out.length_eq, HN2.out]
        have hrl : Fls w5 (fun k => w.heap.size ≤ k) (some ⟨gg, 0, none⟩) n (ds0.map (·.f)) := by
          refine ⟨hlen.symm, .inr ⟨gg, 0, rfl, HBG.out, fun i hi => ?_⟩⟩
          have hi' : i < ds'.length := by rw [HP.out.length_eq, HN2.out]; exact hi
          have e : (ds0.map (·.f)).getD i fl0 = ds'[i].f := by rw [← HM1.out]; simp [List.getD, hi']
          have hd := HM.out.val ds'[i] (HP.out.mem_iff.1 (List.getElem_mem hi'))
          have hd5 : Fv w5 (fun k => w.heap.size ≤ k ∧ (Value.slice (some ⟨gg, 0, none⟩) n cap).ownBlock ≠ some k) ds'[i] := Vs.step hd fun x hx hx' _ => HG5.out.block x hx (fun e => hx'.2 e.symm)
          have hd6 : Fv w5 (fun k => w.heap.size ≤ k) ds'[i] := Vs.wide hd5 fun x _ h => h.1
          rw [e, Nat.zero_add]
          exact ⟨ds'[i].a, ds'[i].c, HC5.out _ _ (fds_get ds' i hi' 0 (by decide)), HC5.out _ _ (fds_get ds' i hi' 1 (by decide)), HC5.out _ _ (fds_get ds' i hi' 2 (by decide)), hd6⟩
        have hnil : (some (⟨gg, 0, none⟩ : Addr)) = none → cap = 0 := fun e => by cases e
        first | exact ⟨_, n, cap, hlen, rfl, hrl, HNC.out, HCM.out, hnil, HB5.out⟩ | exact ⟨n, hlen, _, cap, rfl, hrl, HNC.out, HCM.out, hnil, HB5.out⟩
    · intro x q1 q2 q3 q4 q5 kl yd yp w2 cnt2 hkey hlk hv hat hrg2 hlt2 hg2 hs2 hen
      obtain ⟨x', ex, rfl, hwx⟩ := Maps.keyOf_int_inv Try.underlying3 hkey
      obtain rfl : x = x' := by injection ex
      obtain ⟨z, HZ, HZV, HZN⟩ : ∃ z, Hid (ff ds0 x = some z) ∧ Hid (mkV (q1, q2, q3, q4, q5) = fag z) ∧ Hid (z.f.no = x) := by
        have hh := has_true_of_atKey hat
        rw [HDM.out.has] at hh
        obtain ⟨z, hz⟩ := Option.isSome_iff_exists.1 hh
        have h3 := (HDM.out.val x z hz yd).symm.trans (hat yd)
        obtain ⟨n, t, a, m, c, e1, e2⟩ := RV_inv hv
        have e2 : yd = _ := congrArg Prod.fst e2
        rw [e2, ← e1] at h3
        refine ⟨z, hz, ?_, (ff_mem hz).2⟩
        injection h3 with h3
        exact h3.symm
      have HG2 := hid (HG.out.step (x := z) (by rw [HZN.out]; exact HZ.out) (by rw [HZN.out]; exact hlk))
      rw [HZN.out] at HG2
      have HM2 := hid (HM.out.iter HR.out hg2 HRB.out)
      have HRG2 := hid hrg2
      have HLT2 := hid hlt2
      have hzm := (ff_mem HZ.out).1
      have hzok := HH.out.ok.byt z.f (List.mem_map_of_mem hzm)
      have HVZ : Hid (Vs w2 F z.a z.f.d.length z.c z.f.d) := (HH.out.vs hzm).step fun k hk _ _ => HM2.out.bel.block k hk
      have hzl : z.f.d.length ≤ 65536 := hzok.2.1
      have HZB : Hid (Okb z.f.d) := hzok.1
      obtain ⟨n, HN2⟩ : ∃ n, Hid (z.f.d.length = n) := ⟨_, rfl⟩
      have hqv : mkV (q1, q2, q3, q4, q5) = .agg #[.int .i64 z.f.no, .int .i64 z.f.to, .slice z.a n z.c] := by rw [HZV.out]; unfold fag fv; rw [HN2.out]
      rw [hqv] at hen ⊢
      rw [HN2.out] at HVZ hzl
      have HDL : Hid (ds.length ≤ 1024) := by have := HC.out; have := HLEN.out; show _ ≤ _; omega
      clear hkey hv hat hrg2 hlt2 hs2 hlk hg2 hqv HZV hzm hzok HM HG
      obtain ⟨⟨no, to, d⟩, a, c⟩ := z
      simp only at HN2 HVZ HZB hen HG2 HZN ⊢
      have HB3 : Hid (Below w2.heap.size w2 (w2.alloc (.cells #[.int .i64 no, .int .i64 to, .slice a n c] 34))) := (Below.refl _ _).alloc (Nat.le_refl _) _
      have HFM := hid (Fm.new w2 no to a n c)
      have k1 := bclone_any a n c d F (w2.alloc (.cells #[.int .i64 no, .int .i64 to, .slice a n c] 34)) (HVZ.out.step fun k hk _ _ => HB3.out.block k hk) hzl
      go_wp2_with fail
      refine k1.mono ?_
      rintro e w4 ⟨v1, rfl, o1, g1⟩
      obtain ⟨a4, c4, e4, p1, p2, p3, p4⟩ := own_addr o1
      subst e4
      obtain ⟨vb, HVB⟩ : ∃ z, Hid (w2.heap.size = z) := ⟨_, rfl⟩
      have hvl : vb < w4.heap.size := by have := g1.size; rw [← HVB.out]; simp at this; omega
      have HF4 : Hid (Fm w4 vb no to a n c) := by rw [← HVB.out]; exact (g1.block _ (by simp)).trans HFM.out
      have y0 := HF4.out.c0
      have y1 := HF4.out.c1
      have y2 := HF4.out.c2
      have z2 := HF4.out.fz 2
      have HB4 : Hid (Below w2.heap.size w2 w4) := bel_bel HB3.out HB3.out.size g1
      have HO4 := hid o1
      have hvb : w2.heap.size ≤ vb := by rw [HVB.out]; exact Nat.le_refl _
      have HB6 : Hid (Below w2.heap.size w2 ((w4.setCell ⟨vb, 2, none⟩ (.slice a4 n c4)).alloc (.cells #[.int .i64 no, .int .i64 to, .slice a4 n c4] 34))) := (HB4.out.setCell (p := ⟨vb, 2, none⟩) hvb _).alloc (by have := HB4.out.size; simp [World.setCell]; omega) _
      have HM6 := hid (HM2.out.on HB6.out)
      have HVX : Hid (Fv ((w4.setCell ⟨vb, 2, none⟩ (.slice a4 n c4)).alloc (.cells #[.int .i64 no, .int .i64 to, .slice a4 n c4] 34)) (fun k => w.heap.size ≤ k ∧ u3.ownBlock ≠ some k) ⟨⟨no, to, d⟩, a4, c4⟩) := by
        obtain ⟨a5, c5, e5, hv5⟩ := Vs.ofOwn HO4.out HZB.out
        obtain ⟨rfl, rfl⟩ : a4 = a5 ∧ c4 = c5 := by simpa using e5
        show Vs _ _ a4 d.length c4 d
        rw [HN2.out]
        have h6 : Vs ((w4.setCell ⟨vb, 2, none⟩ (.slice a4 n c4)).alloc (.cells #[.int .i64 no, .int .i64 to, .slice a4 n c4] 34)) _ a4 n c4 d := hv5.step fun k hk hV _ => by
          rw [Below.heap_alloc _ _ _ (by simp [World.setCell]; exact hk)]
          exact Below.heap_setCell _ _ _ _ (fun e => by have := HVB.out; simp at hV e; omega)
        refine h6.wide fun k _ hV => ⟨?_, fun e => ?_⟩
        · have := HM2.out.bel.size; simp at hV; omega
        · have := (HM2.out.own.lt k e).2; simp at hV; omega
      have HCX : Hid (∀ j u, (fdc ⟨⟨no, to, d⟩, a4, c4⟩)[j]? = some u → ((w4.setCell ⟨vb, 2, none⟩ (.slice a4 n c4)).alloc (.cells #[.int .i64 no, .int .i64 to, .slice a4 n c4] 34)).cell? ⟨w4.heap.size, j, none⟩ = some u) := fun j u hj => by
        have e6 : w4.heap.size = (w4.setCell ⟨vb, 2, none⟩ (.slice a4 n c4)).heap.size := by simp [World.setCell]
        rw [e6, cell_of_row _ _ j _ 34 (0, 0) (heap_alloc_new (w4.setCell ⟨vb, 2, none⟩ (.slice a4 n c4)) _)]
        simp only [fdc, fv, HN2.out] at hj
        simpa using hj
      have HSZ6 : Hid (w.heap.size ≤ ((w4.setCell ⟨vb, 2, none⟩ (.slice a4 n c4)).alloc (.cells #[.int .i64 no, .int .i64 to, .slice a4 n c4] 34)).heap.size) := Nat.le_trans HM2.out.bel.size HB6.out.size
      have HR6 : Hid (((w4.setCell ⟨vb, 2, none⟩ (.slice a4 n c4)).alloc (.cells #[.int .i64 no, .int .i64 to, .slice a4 n c4] 34)).ranges Try.prog 3 RV b r (Maps.size D) D (fun z => left z && !z.sameKey (.int .i64 x)) cnt2) := HRG2.out.kept (grown_of_below HB6.out) (by simp) (by simp)
      clear k1 o1 g1 p1 p2 p3 p4 HFM HB3 HO4 HRG2 HM2 HB6
      rw [HVB.out]
      clear hvb HB4
      go_wp2_with (first | (at_builtin; refine wpList_appF rfl _ _ rfl w.heap.size u3 ds rfl HM6.out.own w4.heap.size ⟨⟨no, to, d⟩, a4, c4⟩ rfl HCX.out (by have := HDL.out; omega) HSZ6.out ?_; intro v7 w7 o7 g7 l7; have HM7 := hid (HM6.out.app HVX.out o7 g7 l7); have HG7 := hid g7; clear o7 g7 l7) | fail)
      have HR7 := hid (HR6.out.kept HG7.out (fun e => by have := HD.out.lt; have := (HM6.out.own.lt b e.symm).1; omega) (fun e => own_ne_iter HM6.out.own HR6.out e.symm))
      go_roundw
      case rel =>
        refine ⟨ds ++ [⟨⟨no, to, d⟩, a4, c4⟩], _, cnt2, HR7, ?_, ?_, HM7⟩
        · rw [List.map_append]
          exact HG2.out
        · have := HC.out
          have := HLT2.out
          show _ ≤ _
          rw [List.length_append, List.length_singleton]
          omega
      case measure =>
        rw [HR7.out.left_eq, HLE.out]
        exact HLT2.out
end
end Go.Proofs.Ythflghjmpellpaa
