import Derived.Test.YtcbmgpmjnehjdaaGreatWF
namespace Go.Proofs.YtcbmgpmjnehjdaaGreat
set_option maxRecDepth 100000
open Go.RowKit Go.Maps
set_option linter.unusedVariables false

/-- m[k] = v. -/
theorem wp_put {w : World} {ops : Array Oper} {rest : List Oper} {o : Oper} {a : Act} {Q : Exit → Act → World → Prop} (hg : o.guard = none) (m x v : Operand) (hop : o.op = Op.mapUpdate 48 m x v)
    (b : Nat) (V : Nat → Prop) (M : Tab) (hm : a.eval m = .map (some b)) (hM : Mp w b V M) (hS : Srt M) (hkM : ∀ q ∈ M, Okb q.1) (hML : M.length ≤ 1000000000) (k vs : List Int) (hk : Okb k) (hkl : k.length ≤ maxLen) (hx : a.eval x = .string (strOfNums k)) (p : Option Addr) (n c : Nat) (hv : a.eval v = .slice p n c) (hvs : Vs w V p n c vs)
    (hK : ∀ w', Mp w' b V (ins k vs M) → w.grownBy w' (some b) → wpList Tryz.prog ops Q rest (a.put o.dst undef) w') :
    wpList Tryz.prog ops Q (o :: rest) a w := by
  obtain ⟨D, h1, h2⟩ := hM
  refine wpList_mapUpdate_own w hg m x v 48 hop 9 52 law9 Tryz.underlying48 RV b _ D hm h1 (by rw [h2.size]; unfold maxLen; omega) _ _ (litK k) hx hv (key_str hkl) _ _ (RV_mk p n c) ?_
  intro w' ho hgr
  exact hK w' (Mp.put h1 h2 hS hk hkM hvs ho hgr) hgr
/-- Rows laid into a table. -/
def gth (l : Tab) : Tab := l.foldl (fun M p => ins p.1 p.2 M) []
theorem gth_snoc (l : Tab) (p : List Int × List Int) : gth (l ++ [p]) = ins p.1 p.2 (gth l) := by simp [gth]
/-- Rows that may lie in a table of chapter 13's bounds. -/
def Rok (l : Tab) : Prop := ∀ p ∈ l, (Okb p.1 ∧ 1 ≤ p.1.length ∧ p.1.length ≤ 40) ∧ (Okb p.2 ∧ p.2.length ≤ 480)
theorem gth_tok : ∀ (l : Tab), Rok l → Tok (gth l) := by
  intro l
  have key : ∀ (l : Tab) (M : Tab), Tok M → Rok l → Tok (l.foldl (fun M p => ins p.1 p.2 M) M) := by
    intro l
    induction l with
    | nil => intro M h _; exact h
    | cons p l ih =>
      intro M h hr
      exact ih _ (h.ins (hr p (List.mem_cons_self)).1 (hr p (List.mem_cons_self)).2) (fun q hq => hr q (List.mem_cons_of_mem _ hq))
  exact key l [] tok_nil
theorem gth_len : ∀ (l : Tab), (gth l).length ≤ l.length := by
  have key : ∀ (l : Tab) (M : Tab), (l.foldl (fun M p => ins p.1 p.2 M) M).length ≤ M.length + l.length := by
    intro l
    induction l with
    | nil => intro M; simp
    | cons p l ih =>
      intro M
      have h := ih (ins p.1 p.2 M)
      have h2 : (ins p.1 p.2 M).length ≤ M.length + 1 := by
        have : ∀ M : Tab, (ins p.1 p.2 M).length ≤ M.length + 1 := by
          intro M
          induction M with
          | nil => simp [ins]
          | cons q M ih =>
            unfold ins
            split
            · simp
            · split
              · simp
              · simpa using ih
        exact this M
      simp only [List.foldl_cons, List.length_cons]
      omega
  intro l
  have := key l []
  simpa [gth] using this
theorem mp_made (w : World) (V : Nat → Prop) : Mp (w.alloc (.map #[] 0)) w.heap.size V [] :=
  ⟨.map [], World.ownsMap_made w Tryz.prog 9 RV, rfl, fun k _ => rfl, fun k v e => by cases e⟩
set_option maxHeartbeats 2000000 in
/-- The landed gather. -/
theorem gather_ (V : Nat → Prop) (a : Option Addr) (n c : Nat) (l : Tab) (w : World) (hl : Rwl w V a n l) (hr : Rok l) (hn : n ≤ 1000000) :
    Calls Tryz.prog 18 #[.slice a n c] w fun e w' => e = .returned (.map (some w.heap.size)) ∧ Mp w' w.heap.size V (gth l) ∧ Below w.heap.size w w' := by
  have hmm := @run_makeMap Tryz.prog
  have hlen := hl.len
  have HL0 := hid (hl.below (bel_al w (.map #[] 0)))
  have HM0 := hid (mp_made w V)
  have HB0 := hid (bel_al w (.map #[] 0))
  have HR := hid hr
  clear hl hr
  go_enter Tryz.func18, Tryz.ntmps18
  go_wp2_with fail
  go_loopw [9] (fun i wr => ∃ j : Nat, j ≤ n ∧ i = .int .i64 j ∧ Hid (Rwl wr V a n l) ∧ Hid (Mp wr w.heap.size V (gth (l.take j))) ∧ Hid (Below w.heap.size w wr)) (fun i _ => n - (intOf i).toNat)
  case atStart => exact ⟨0, by omega, rfl, HL0, HM0, HB0⟩
  case round =>
    clear HL0 HM0 HB0
    obtain ⟨j, hj, rfl, HL, HM, HB⟩ := hrel
    by_cases hlt : j < n
    · have hjI : (j : Int) < n := by omega
      obtain ⟨b, off, rfl, hVb, hc⟩ : ∃ b off, a = some ⟨b, off, none⟩ ∧ V b ∧ ∀ i, i < n → RowAt wr V b (off + i * 2) (l.getD i ([], [])) := by
        rcases HL.out.cells with h0 | h1
        · omega
        · exact h1
      obtain ⟨ka, kc, va, vc, c0, c1, vk, vv⟩ := hc j hlt
      have HT : Hid (l.take (j + 1) = l.take j ++ [l.getD j ([], [])] ∧ l.getD j ([], []) ∈ l) := by
        have h : j < l.length := by omega
        have e : l.getD j ([], []) = l[j] := by simp [List.getD, h]
        rw [e]
        exact ⟨List.take_succ_eq_append_getElem h, List.getElem_mem h⟩
      obtain ⟨x, HX⟩ : ∃ x, Hid (l.getD j ([], []) = x) := ⟨_, rfl⟩
      rw [HX.out] at c0 c1 vk vv HT
      obtain ⟨k, v⟩ := x
      simp only at c0 c1 vk vv
      have HTK := hid (gth_tok (l.take j) (fun p hp => HR.out p (List.mem_of_mem_take hp)))
      have HGL : Hid ((gth (l.take j)).length ≤ 1000000000) := by
        have h1 := gth_len (l.take j)
        rw [List.length_take] at h1
        show _ ≤ _
        omega
      obtain ⟨kl, Hkl⟩ : ∃ z : Nat, Hid (k.length = z) := ⟨_, rfl⟩
      obtain ⟨vl, Hvl⟩ : ∃ z : Nat, Hid (v.length = z) := ⟨_, rfl⟩
      rw [Hkl.out] at c0 vk
      rw [Hvl.out] at c1 vv
      have B1 := bel_al wr (.cells #[.slice ka kl kc, .slice va vl vc] 54)
      have m1 := heap_alloc_new wr (.cells #[.slice ka kl kc, .slice va vl vc] 54)
      have z0 := (two_cell m1).1
      have z1 := (two_cell m1).2
      have HL1 := hid (HL.out.below B1)
      have HM1 := hid (HM.out.below B1)
      have HB1 := hid (bel_bel HB.out HB.out.size B1)
      have hs := run_str (c := kc) (vk.bs.below B1)
      have HVV : Hid (Vs (wr.alloc (.cells #[.slice ka kl kc, .slice va vl vc] 54)) V va vl vc v) := vv.step fun x hx _ _ => B1.block x hx
      have HKO : Hid (Okb k) := vk.bs.2.1
      have HKL : Hid (k.length ≤ maxLen) := by rw [Hkl.out]; exact Nat.le_trans vk.nc vk.cm
      obtain ⟨sk, HSK⟩ : ∃ s, Hid (strOfNums k = s) := ⟨_, rfl⟩
      rw [HSK.out] at hs
      clear hc vk vv B1 m1 hVb HL HM HB
      go_upto_region 5 with fail
      clear c0 c1
      generalize (wr.alloc (.cells #[.slice ka kl kc, .slice va vl vc] 54)) = w1 at *
      go_wp2_with (first | (at_mapUpdate; refine wp_put rfl _ _ _ rfl w.heap.size V (gth (l.take j)) rfl HM1.out HTK.out.srt (fun q hq => (HTK.out.key q hq).1) HGL.out k v HKO.out HKL.out (by rw [HSK.out]; rfl) va vl vc rfl HVV.out ?_; intro w2 hm2 hg2; have HM2 := hid hm2; have HG2 := hid hg2; clear hm2 hg2) | fail)
      have HL2 := hid (HL1.out.map HG2.out HM1.out.isMap)
      have HB2 : Hid (Below w.heap.size w w2) := HB1.out.grown HG2.out HB1.out.size (fun q e => by obtain rfl := Option.some.inj e; exact Nat.le_refl _)
      have HM3 : Hid (Mp w2 w.heap.size V (gth (l.take (j + 1)))) := by rw [HT.out.1, gth_snoc]; exact HM2.out
      go_roundw
      case rel => exact ⟨j + 1, by omega, by go_num, HL2, HM3, HB2⟩
      case measure => simp [intOf]; omega
    · have hjI : ¬ (j : Int) < n := by omega
      obtain rfl : j = n := by omega
      rw [List.take_of_length_le (by omega)] at HM
      go_wp2_with fail
      go_ret
      exact ⟨rfl, HM.out, HB.out⟩
end Go.Proofs.YtcbmgpmjnehjdaaGreat
namespace Go.Proofs.YtcbmgpmjnehjdaaGreat
set_option maxRecDepth 100000
open Go.RowKit Go.Maps
set_option linter.unusedVariables false

/-- append(own, rows...) of two lists of rows of one's own. -/
theorem wpList_appRows {w : World} {ops : Array Oper} {rest : List Oper} {o : Oper} {act : Act} {Q : Exit → Act → World → Prop} (hgd : o.guard = none) (s x : Operand)
    (ho : o.op = .call { callee := .builtin .append, args := #[s, x], argTypes := #[22, 22] })
    (base base2 : Nat) (v v2 : Value) (ds es : List RD) (hs : act.eval s = v) (hown : w.ownsRow base 54 2 v ds.length (rds ds)) (hx : act.eval x = v2) (hown2 : w.ownsRow base2 54 2 v2 es.length (rds es)) (hlen : ds.length ≤ 1000000) (hm : es.length ≤ 1000000) (hbase : base ≤ w.heap.size)
    (h : ∀ v' w', w'.ownsRow base 54 2 v' (ds ++ es).length (rds (ds ++ es)) → w.grownBy w' v.ownBlock → (v'.ownBlock = v.ownBlock ∨ v'.ownBlock = some w.heap.size) → wpList Tryz.prog ops Q rest (act.put o.dst v') w') : wpList Tryz.prog ops Q (o :: rest) act w := by
  obtain ⟨i, hi, hz0, hz1, hz2⟩ := info_parts infoR
  rcases id hown2.2 with ⟨rfl, h0⟩ | ⟨g2, cap2, cur2, rfl, hb2, hg2, hnc2, hcm2, hcs2, ht2⟩
  · have hes : es = [] := List.eq_nil_of_length_eq_zero h0
    subst hes
    rw [List.append_nil] at h
    refine wpList_plain hgd fun _ hK => ?_
    have fin := h v w hown ⟨rfl, rfl, rfl, Nat.le_refl _, fun _ _ _ => rfl⟩ (.inl rfl)
    rcases hown.2 with ⟨rfl, hd0⟩ | ⟨g, cap, cur, rfl, hb, hg, hnc, hcm, hcs, ht⟩
    · have hr : (Builtin.append_ #[22, 22] o.type #[.slice none 0 0, .slice none 0 0]).run Tryz.prog w = .ok (.slice none 0 0) w := by
        simp [Builtin.append_, run_underlying Tryz.underlying22, sizeOf, typeInfo, hi, Builtin.lenOf, Builtin.firstCells]
      unfold Oper.wp execOp
      simp only [ho, resolve, invoke, builtin, Sem.run_bind, Sem.run_pure, Result.andThen_ok, List.map_toArray, List.map_cons, List.map_nil, hs, hx, hr]
      exact hK _ _ fin
    · have hr : (Builtin.append_ #[22, 22] o.type #[.slice (some ⟨g, 0, none⟩) ds.length cap, .slice none 0 0]).run Tryz.prog w = .ok (.slice (some ⟨g, 0, none⟩) ds.length cap) w := by
        simp [Builtin.append_, run_underlying Tryz.underlying22, sizeOf, typeInfo, hi, Builtin.lenOf, Builtin.firstCells, hnc, storeCells]
      unfold Oper.wp execOp
      simp only [ho, resolve, invoke, builtin, Sem.run_bind, Sem.run_pure, Result.andThen_ok, List.map_toArray, List.map_cons, List.map_nil, hs, hx, hr]
      exact hK _ _ fin
  · refine wpList_append_own_at _ hgd s x 22 ho base 54 i _ 2 48 Tryz.underlying22 hi hz0 hz1 hz2 rfl (by decide) v ds.length (rds ds) hs hown ⟨g2, 0, none⟩ es.length cap2 (rds es) hx (by rw [rds_length]) ?c1 (rds_one es) (by unfold maxLen; omega) (by omega) hbase ?_
    case c1 =>
      intro j u hj
      rw [Addr.add_lit, Nat.zero_add, cell_of_row w g2 j _ _ (0, 0) hg2]
      have hj2 := hj
      rw [← ht2, List.getElem?_take] at hj2
      split at hj2
      · simpa using hj2
      · cases hj2
    intro v' w' h1 h2 _ h4
    refine h v' w' ?_ h2 h4
    rw [List.length_append, rds_app]
    exact h1
theorem peV_okb {k : List Int} {ps : List Px} (hk : Okb k) (hp : ps.length ≤ 16) : Okb (peV k ps) := by
  intro z hz
  unfold peV at hz
  rcases List.mem_append.1 hz with h | h
  · rcases List.mem_append.1 h with h | h
    · exact hk z h
    · rw [List.mem_singleton.1 h]; omega
  · exact peB_byte ps z h
theorem prow_ok {x : Pr} {p : List Int × List Int} (h : prow x = some p) (hk : Okb x.k) : (Okb p.1 ∧ 1 ≤ p.1.length ∧ p.1.length ≤ 40) ∧ (Okb p.2 ∧ p.2.length ≤ 480) := by
  unfold prow at h
  split at h
  · rename_i hq
    obtain ⟨h1, h2, h3, h4, h5⟩ := (pkB_iff _ _ _).1 hq
    obtain rfl := Option.some.inj h
    have hl : (peK x.K).length = 5 := by unfold peK; rw [List.length_append, be_length]; rfl
    refine ⟨⟨?_, by show 1 ≤ (peK x.K).length; omega, by show (peK x.K).length ≤ 40; omega⟩, peV_okb hk h4, ?_⟩
    · intro z hz
      rcases List.mem_append.1 (show z ∈ [80] ++ be 4 x.K from hz) with h | h
      · rw [List.mem_singleton.1 h]; omega
      · exact be_byte _ _ z h
    · show (peV x.k x.ps).length ≤ 480
      have := peB_len x.ps
      unfold peV
      rw [List.length_append, List.length_append, h3]
      simp
      omega
  · cases h
theorem lrw_ok {x : Ln} {p : List Int × List Int} (h : lrw x = some p) (hk : Okb x.k) : (Okb p.1 ∧ 1 ≤ p.1.length ∧ p.1.length ≤ 40) ∧ (Okb p.2 ∧ p.2.length ≤ 480) := by
  unfold lrw at h
  split at h
  · rename_i hq
    obtain ⟨h1, h2, h3, -⟩ := of_decide_eq_true (show decide _ = true from hq)
    obtain rfl := Option.some.inj h
    have hl : (lK x.k).length = 33 := by unfold lK; rw [List.length_append, h2]; rfl
    have hl2 : (lV x.S x.C x.N x.D x.E x.s x.n).length = 37 := lV_length h1
    refine ⟨⟨?_, by show 1 ≤ (lK x.k).length; omega, by show (lK x.k).length ≤ 40; omega⟩, ?_, by show (lV x.S x.C x.N x.D x.E x.s x.n).length ≤ 480; omega⟩
    · intro z hz
      rcases List.mem_append.1 (show z ∈ [76] ++ x.k from hz) with h | h
      · rw [List.mem_singleton.1 h]; omega
      · exact hk z h
    · intro z hz
      have hz : z ∈ lV x.S x.C x.N x.D x.E x.s x.n := hz
      unfold lV at hz
      simp only [List.mem_append, List.mem_singleton] at hz
      rcases hz with ((((h | h) | h) | h) | h) | h
      · rw [h]; omega
      · exact be_byte _ _ z h
      · exact be_byte _ _ z h
      · exact be_byte _ _ z h
      · exact be_byte _ _ z h
      · exact pt_byte _ _ z h
  · cases h
theorem Pls.okb {w : World} {a : Option Addr} {n : Nat} {l : List Pr} (h : Pls w a n l) : ∀ x ∈ l, Okb x.k := by
  intro x hx
  obtain ⟨i, hi, rfl⟩ := List.mem_iff_getElem.1 hx
  rcases h.at' with h0 | ⟨b, off, e, hc⟩
  · have := h.len; omega
  · obtain ⟨ka, kc, pa, pc, -, hk, -⟩ := hc i (by have := h.len; omega)
    rw [show l.getD i pr0 = l[i] from by simp [List.getD, hi]] at hk
    exact hk.2.1
theorem Lls.okb {w : World} {a : Option Addr} {n : Nat} {l : List Ln} (h : Lls w a n l) : ∀ x ∈ l, Okb x.k := by
  intro x hx
  obtain ⟨i, hi, rfl⟩ := List.mem_iff_getElem.1 hx
  rcases h.at' with h0 | ⟨b, off, e, hc⟩
  · have := h.len; omega
  · obtain ⟨ka, kc, -, hk, -⟩ := hc i (by have := h.len; omega)
    rw [show l.getD i ln0 = l[i] from by simp [List.getD, hi]] at hk
    exact hk.2.1
/-- The rows of a state. -/
def rws (ps : List Pr) (ls : List Ln) : Tab := ps.filterMap prow ++ ls.filterMap lrw
theorem rws_ok {w : World} {a a' : Option Addr} {n n' : Nat} {ps : List Pr} {ls : List Ln} (hp : Pls w a n ps) (hl : Lls w a' n' ls) : Rok (rws ps ls) := by
  intro p hp'
  rcases List.mem_append.1 hp' with h | h
  · obtain ⟨x, hx, e⟩ := List.mem_filterMap.1 h
    exact prow_ok e (hp.okb x hx)
  · obtain ⟨x, hx, e⟩ := List.mem_filterMap.1 h
    exact lrw_ok e (hl.okb x hx)
set_option maxHeartbeats 2000000 in
/-- The landed rowsOf. -/
theorem rowsOf_ (pa la : Option Addr) (pn pc ln lc : Nat) (ps : List Pr) (ls : List Ln) (w : World) (hp : Pls w pa pn ps) (hl : Lls w la ln ls) (h1 : pn ≤ 1000) (h2 : ln ≤ 1000) :
    Calls Tryz.prog 41 #[.slice pa pn pc, .slice la ln lc] w fun e w' => ∃ b, e = .returned (.tuple #[.map (some b), .bool (decide ((gth (rws ps ls)).length = pn + ln))]) ∧ Mp w' b (fun x => w.heap.size ≤ x) (gth (rws ps ls)) ∧ w.heap.size ≤ b ∧ Below w.heap.size w w' := by
  have HOK := hid (rws_ok hp hl)
  have HPL := hid hp.len
  have HLL := hid hl.len
  have k1 := takeP_ pa pn pc ps w hp (by omega)
  have HLl := hid hl
  clear hp hl
  go_enter Tryz.func41, Tryz.ntmps41
  go_wp2_with fail
  refine k1.mono ?_
  rintro e w1 ⟨v1, ds, rfl, r1, e1⟩
  have k2 := takeL_ la ln lc ls w1 (HLl.out.on r1.bel) (by omega)
  have HR1 := hid r1
  have HE1 := hid e1
  clear k1 r1 e1
  go_wp2_with fail
  refine k2.mono ?_
  rintro e w2 ⟨v2, es, rfl, r2, e2⟩
  have HR2 := hid r2
  have HE2 := hid e2
  have HR12 := hid (HR1.out.below r2.bel)
  have HD1 : Hid (ds.length ≤ 1000000) := by
    have h := congrArg List.length HE1.out
    have h2 := List.length_filterMap_le prow ps
    rw [List.length_map] at h
    have := HPL.out
    show _ ≤ _
    omega
  have HD2 : Hid (es.length ≤ 1000000) := by
    have h := congrArg List.length HE2.out
    have h2 := List.length_filterMap_le lrw ls
    rw [List.length_map] at h
    have := HLL.out
    show _ ≤ _
    omega
  have HDE : Hid ((ds ++ es).map (·.s) = rws ps ls) := by show _ = _; rw [List.map_append, HE1.out, HE2.out]; rfl
  have HBS : Hid (w.heap.size ≤ w2.heap.size) := HR12.out.bel.size
  clear k2 r2 e2
  have kfin : Hid (∀ v' w3, w3.ownsRow w.heap.size 54 2 v' (ds ++ es).length (rds (ds ++ es)) → w2.grownBy w3 v1.ownBlock → (v'.ownBlock = v1.ownBlock ∨ v'.ownBlock = some w2.heap.size) → (∃ a c, v' = .slice a (ds ++ es).length c ∧ Rwl w3 (fun x => w.heap.size ≤ x) a (ds ++ es).length ((ds ++ es).map (·.s))) ∧ Below w.heap.size w w3) := fun v' w3 o3 g3 l3 => by
    have hown : ∀ q, v1.ownBlock = some q → w.heap.size ≤ q ∧ q < w1.heap.size := HR1.out.own.lt
    have hB : Below w.heap.size w w3 := HR12.out.bel.grown g3 HBS.out (fun q e => (hown q e).1)
    refine ⟨?_, hB⟩
    have hsv : ∀ d ∈ ds ++ es, RV2 w3 (fun x => w.heap.size ≤ x) d := fun d hd => by
      rcases List.mem_append.1 hd with h | h
      · have hd1 := (HR12.out.sv d h).step (w' := w3) fun x hx hx' _ => g3.block x hx (fun e => hx'.2 e.symm)
        exact hd1.wide fun x _ h => h.1
      · have hd2 := (HR2.out.sv d h).step (w' := w3) fun x hx hx' _ => g3.block x hx (fun e => by have := (hown x e.symm).2; have := hx'.1; omega)
        exact hd2.wide fun x _ h => by have := HR1.out.bel.size; omega
    obtain ⟨a, c, e, h, -⟩ := Rwl.ofOwn o3 hsv (fun x hx => hx)
    exact ⟨a, c, e, h⟩
  go_wp2_with (first | (at_builtin; refine wpList_appRows rfl _ _ rfl w.heap.size w1.heap.size v1 v2 ds es rfl (by exact HR12.out.own) rfl (by exact HR2.out.own) HD1.out HD2.out HBS.out ?_; intro v3 w3 o3 g3 l3; have HF := hid (kfin.out v3 w3 o3 g3 l3); clear o3 g3 l3) | fail)
  obtain ⟨⟨a3, c3, rfl, hr3⟩, hb3⟩ := HF.out
  rw [HDE.out] at hr3
  have hN : (ds ++ es).length = (rws ps ls).length := by rw [← HDE.out, List.length_map]
  have HNL : Hid ((ds ++ es).length ≤ 1000000) := by
    have h1 := HPL.out
    have h2 := HLL.out
    have h3 := List.length_filterMap_le prow ps
    have h4 := List.length_filterMap_le lrw ls
    rw [hN]
    show (ps.filterMap prow ++ ls.filterMap lrw).length ≤ _
    rw [List.length_append]
    omega
  have HB3 := hid hb3
  obtain ⟨nn, HNN⟩ : ∃ z : Nat, Hid ((ds ++ es).length = z) := ⟨_, rfl⟩
  rw [HNN.out] at hr3 HNL ⊢
  have kg := gather_ (fun x => w.heap.size ≤ x) a3 nn c3 (rws ps ls) w3 hr3 HOK.out HNL.out
  clear hr3 hb3 hN HF kfin HR1 HR2 HR12
  go_wp2_with fail
  refine kg.mono ?_
  rintro e w4 ⟨rfl, hm, g4⟩
  have HM := hid hm
  have HW : Hid (w.heap.size ≤ w3.heap.size) := HB3.out.size
  have HG := hid (bel_bel HB3.out HW.out g4)
  obtain ⟨D, hD, hDm⟩ := hm
  have HD := hid hD
  obtain ⟨z, HZ⟩ : ∃ z : Nat, Hid (Maps.size D = z) := ⟨_, rfl⟩
  have hz : z = (gth (rws ps ls)).length := by rw [← HZ.out]; exact hDm.size
  rw [HZ.out] at HD
  have hz2 : z ≤ 2000 := by
    have h1 := gth_len (rws ps ls)
    have h3 := List.length_filterMap_le prow ps
    have h4 := List.length_filterMap_le lrw ls
    have h5 : (rws ps ls).length = (ps.filterMap prow).length + (ls.filterMap lrw).length := List.length_append
    have := HPL.out
    have := HLL.out
    omega
  clear hD hDm kg g4
  go_wp2_with (first | (at_len; refine wpList_len_own _ rfl _ 48 rfl 9 52 Tryz.underlying48 RV _ _ D rfl HD.out ?_) | fail)
  go_ret2
  refine ⟨w3.heap.size, ?_, HM.out, HW.out, HG.out⟩
  have hi : (((Maps.size D : Nat) : Int) == (pn : Int) + (ln : Int)) = decide ((gth (rws ps ls)).length = pn + ln) := by
    rw [HZ.out, ← hz, Bool.eq_iff_iff]
    simp
    omega
  rw [← hi]
  rfl
end Go.Proofs.YtcbmgpmjnehjdaaGreat
namespace Go.Proofs.YtcbmgpmjnehjdaaGreat
set_option maxRecDepth 100000
open Go.RowKit Go.Maps
set_option linter.unusedVariables false

/-- Is the state's number of rows right? -/
def rct (ps : List Pr) (ls : List Ln) : Bool := decide ((gth (rws ps ls)).length = ps.length + ls.length)
theorem gth_small {ps : List Pr} {ls : List Ln} (h1 : ps.length ≤ 1000) (h2 : ls.length ≤ 1000) : (gth (rws ps ls)).length ≤ 2000 := by
  have h3 := gth_len (rws ps ls)
  have h4 := List.length_filterMap_le prow ps
  have h5 := List.length_filterMap_le lrw ls
  have h6 : (rws ps ls).length = (ps.filterMap prow).length + (ls.filterMap lrw).length := List.length_append
  omega
/-- What Sets answers. -/
def Sa (w w' : World) (q : Bool) (l : List Sx) (e : Ending) : Prop :=
  ∃ a n c, e = .returned (.tuple #[.slice a n c, .int .i64 (if q then 0 else 114)]) ∧ Sl w' (fun x => w.heap.size ≤ x) a n (if q then l else []) ∧ n ≤ c ∧ c ≤ maxLen ∧ (a = none → c = 0) ∧ Below w.heap.size w w'
set_option maxHeartbeats 2000000 in
/-- The landed Sets. -/
theorem sets_ (pa qa la ma : Option Addr) (pn pc qn qc ln lc mn mc : Nat) (ps qs : List Pr) (ls ms : List Ln) (w : World) (hp : Pls w pa pn ps) (hq : Pls w qa qn qs) (hl : Lls w la ln ls) (hm : Lls w ma mn ms) (h1 : pn ≤ 1000) (h2 : qn ≤ 1000) (h3 : ln ≤ 1000) (h4 : mn ≤ 1000) :
    Calls Tryz.prog 13 #[.slice pa pn pc, .slice qa qn qc, .slice la ln lc, .slice ma mn mc] w fun e w' => Sa w w' (rct ps ls && rct qs ms) (chg (gth (rws ps ls)) (gth (rws qs ms))) e := by
  have k1 := rowsOf_ pa la pn pc ln lc ps ls w hp hl h1 h3
  have e1 := hp.len
  have e2 := hq.len
  have e3 := hl.len
  have e4 := hm.len
  have HT1 := hid (gth_tok _ (rws_ok hp hl))
  have HT2 := hid (gth_tok _ (rws_ok hq hm))
  have HS1 := hid (gth_small (ps := ps) (ls := ls) (by omega) (by omega))
  have HS2 := hid (gth_small (ps := qs) (ls := ms) (by omega) (by omega))
  have HQ := hid hq
  have HM := hid hm
  rw [show decide ((gth (rws ps ls)).length = pn + ln) = rct ps ls from by unfold rct; rw [e1, e3]] at k1
  obtain ⟨x, hx⟩ : ∃ x, x = rct ps ls := ⟨_, rfl⟩
  obtain ⟨y, hy⟩ : ∃ y, y = rct qs ms := ⟨_, rfl⟩
  rw [← hx] at k1 ⊢
  rw [← hy]
  have HY := hid hy
  have E2 := hid e2
  have E4 := hid e4
  clear hp hq hl hm hx hy e1 e2 e3 e4
  go_enter Tryz.func13, Tryz.ntmps13
  go_wp2_with fail
  refine k1.mono ?_
  rintro e w1 ⟨b1, rfl, m1, l1, g1⟩
  have HM1 := hid m1
  have HG1 := hid g1
  have k2 := rowsOf_ qa ma qn qc mn mc qs ms w1 (HQ.out.on g1) (HM.out.on g1) h2 h4
  rw [show decide ((gth (rws qs ms)).length = qn + mn) = rct qs ms from by unfold rct; rw [E2.out, E4.out], ← HY.out] at k2
  clear m1 g1 k1 l1
  go_wp2_with fail
  refine k2.mono ?_
  rintro e w2 ⟨b2, rfl, m2, l2, g2⟩
  have HB : Hid (Below w.heap.size w w2) := bel_bel HG1.out HG1.out.size g2
  have HO1 : Hid (Mp w2 b1 (fun x => w.heap.size ≤ x) (gth (rws ps ls))) := HM1.out.below g2
  have HO2 : Hid (Mp w2 b2 (fun x => w.heap.size ≤ x) (gth (rws qs ms))) := m2.wide fun x _ hx => Nat.le_trans HG1.out.size hx
  have ku := unlike_ b2 b1 (fun x => w.heap.size ≤ x) (gth (rws qs ms)) (gth (rws ps ls)) w2 HO2.out HO1.out HT2.out HT1.out (by have := HS2.out; omega) (by have := HS1.out; omega)
  clear m2 g2 k2 l2
  have HN : Hid (Sl w2 (fun x => w.heap.size ≤ x) none 0 []) := ⟨rfl, .inl rfl⟩
  cases x with
  | false =>
    go_wp2_with fail
    go_ret2
    exact ⟨none, 0, 0, rfl, HN.out, Nat.le_refl _, Nat.zero_le _, fun _ => rfl, HB.out⟩
  | true =>
    cases y with
    | false =>
      go_wp2_with fail
      go_ret2
      exact ⟨none, 0, 0, rfl, HN.out, Nat.le_refl _, Nat.zero_le _, fun _ => rfl, HB.out⟩
    | true =>
      go_wp2_with fail
      refine ku.mono ?_
      rintro e w3 ⟨a, n, c, rfl, s3, c1, c2, c3, g3⟩
      have HB3 : Hid (Below w.heap.size w w3) := bel_bel HB.out HB.out.size g3
      have HS3 : Hid (Sl w3 (fun x => w.heap.size ≤ x) a n (chg (gth (rws ps ls)) (gth (rws qs ms)))) := s3.wide fun x _ hx => hx.elim id (fun h => Nat.le_trans HB.out.size h)
      clear s3 g3 ku
      go_wp2_with fail
      go_ret2
      exact ⟨a, n, c, rfl, HS3.out, c1, c2, c3, HB3.out⟩
end Go.Proofs.YtcbmgpmjnehjdaaGreat
