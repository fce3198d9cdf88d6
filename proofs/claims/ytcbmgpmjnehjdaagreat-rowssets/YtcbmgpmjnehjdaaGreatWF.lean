import Derived.Test.YtcbmgpmjnehjdaaGreatWE
import Derived.Test.YtcbmgpmjnehjdaaGreatSD
import Derived.Test.YtcbmgpmjnehjdaaGreatSI
import Derived.Test.YtcbmgpmjnehjdaaGreatRY
namespace Go.Proofs.YtcbmgpmjnehjdaaGreat
set_option maxRecDepth 100000
open Go.RowKit Go.Maps
set_option linter.unusedVariables false

/-! Which peers may be, as a bool. -/
def pgB (ps : List Px) : Bool := (List.range ps.length).all fun i => vp (ps.getD i px0).F (ps.getD i px0).H (ps.getD i px0).L (ps.getD i px0).B && (decide (i = 0) || decide (cp (ps.getD (i - 1) px0).F (ps.getD (i - 1) px0).H (ps.getD (i - 1) px0).L (ps.getD (i - 1) px0).B (ps.getD i px0).F (ps.getD i px0).H (ps.getD i px0).L (ps.getD i px0).B < 0))
def pkB (K : Int) (m : Nat) (ps : List Px) : Bool := decide (1 ≤ K ∧ K ≤ 4294967295 ∧ m = 32 ∧ ps.length ≤ 16) && pgB ps
theorem pkB_iff (K : Int) (m : Nat) (ps : List Px) : (pkB K m ps = true) ↔ Pk K m ps := by
  unfold pkB Pk
  rw [Bool.and_eq_true, decide_eq_true_eq]
  have h : (pgB ps = true) ↔ Pg ps ps.length := by
    unfold pgB Pg
    rw [List.all_eq_true]
    constructor
    · intro h i hi
      have := h i (List.mem_range.2 hi)
      simp only [Bool.and_eq_true, Bool.or_eq_true, decide_eq_true_eq] at this
      exact ⟨this.1, fun h0 => this.2.resolve_left (by omega)⟩
    · intro h i hi
      obtain ⟨h1, h2⟩ := h i (List.mem_range.1 hi)
      simp only [Bool.and_eq_true, Bool.or_eq_true, decide_eq_true_eq]
      refine ⟨h1, ?_⟩
      by_cases h0 : i = 0
      · exact .inl h0
      · exact .inr (h2 (by omega))
  rw [h]
  exact ⟨fun ⟨⟨a, b, c, d⟩, e⟩ => ⟨a, b, c, d, e⟩, fun ⟨a, b, c, d, e⟩ => ⟨⟨a, b, c, d⟩, e⟩⟩
/-! Peers and lanes, and their rows. -/
structure Pr where
  K : Int
  k : List Int
  ps : List Px
def pr0 : Pr := ⟨0, [], []⟩
def ln0 : Ln := ⟨[], 0, 0, 0, 0, 0, 0, 0⟩
def prow (x : Pr) : Option (List Int × List Int) := if pkB x.K x.k.length x.ps then some (peK x.K, peV x.k x.ps) else none
def lrw (x : Ln) : Option (List Int × List Int) := if lok x.k.length x.S x.C x.N x.s x.n then some (lK x.k, lV x.S x.C x.N x.D x.E x.s x.n) else none
def PeerAt (w : World) (b o : Nat) (x : Pr) : Prop := ∃ ka kc pa pc, (w.cell? ⟨b, o, none⟩ = some (.int .i64 x.K) ∧ w.cell? ⟨b, o + 1, none⟩ = some (.slice ka x.k.length kc) ∧ w.cell? ⟨b, o + 2, none⟩ = some (.slice pa x.ps.length pc)) ∧ Bs w ka x.k.length x.k ∧ Ps w pa x.ps.length x.ps ∧ x.k.length ≤ maxLen ∧ x.ps.length ≤ maxLen ∧ InI x.K
def LaneAt (w : World) (b o : Nat) (x : Ln) : Prop := ∃ ka kc, (w.cell? ⟨b, o, none⟩ = some (.slice ka x.k.length kc) ∧ w.cell? ⟨b, o + 1, none⟩ = some (.int .i64 x.S) ∧ w.cell? ⟨b, o + 2, none⟩ = some (.int .i64 x.C) ∧ w.cell? ⟨b, o + 3, none⟩ = some (.int .i64 x.N) ∧ w.cell? ⟨b, o + 4, none⟩ = some (.int .u64 x.D) ∧ w.cell? ⟨b, o + 5, none⟩ = some (.int .u64 x.E) ∧ w.cell? ⟨b, o + 6, none⟩ = some (.int .i64 x.s) ∧ w.cell? ⟨b, o + 7, none⟩ = some (.int .i64 x.n)) ∧ Bs w ka x.k.length x.k ∧ x.k.length ≤ maxLen ∧ x.Ok
theorem cell_on {w w' : World} {p : Addr} {v : Value} (h : w.cell? p = some v) (hb : Below w.heap.size w w') : w'.cell? p = some v := (hb.cell (World.block_lt_of_cell? w _ h)).trans h
theorem PeerAt.on {w w' : World} {b o : Nat} {x : Pr} (h : PeerAt w b o x) (hb : Below w.heap.size w w') : PeerAt w' b o x := by
  obtain ⟨ka, kc, pa, pc, ⟨h0, h1, h2⟩, h3, h4, h5⟩ := h
  exact ⟨ka, kc, pa, pc, ⟨cell_on h0 hb, cell_on h1 hb, cell_on h2 hb⟩, h3.below hb, h4.on hb, h5⟩
theorem LaneAt.on {w w' : World} {b o : Nat} {x : Ln} (h : LaneAt w b o x) (hb : Below w.heap.size w w') : LaneAt w' b o x := by
  obtain ⟨ka, kc, ⟨h0, h1, h2, h3, h4, h5, h6, h7⟩, h8, h9⟩ := h
  exact ⟨ka, kc, ⟨cell_on h0 hb, cell_on h1 hb, cell_on h2 hb, cell_on h3 hb, cell_on h4 hb, cell_on h5 hb, cell_on h6 hb, cell_on h7 hb⟩, h8.below hb, h9⟩
structure Pls (w : World) (a : Option Addr) (n : Nat) (l : List Pr) : Prop where
  len : l.length = n
  at' : n = 0 ∨ ∃ b off, a = some ⟨b, off, none⟩ ∧ ∀ i, i < n → PeerAt w b (off + i * 3) (l.getD i pr0)
theorem Pls.on {w w' : World} {a : Option Addr} {n : Nat} {l : List Pr} (h : Pls w a n l) (hb : Below w.heap.size w w') : Pls w' a n l := by
  refine ⟨h.len, ?_⟩
  rcases h.at' with h0 | ⟨b, off, e, hc⟩
  · exact .inl h0
  · exact .inr ⟨b, off, e, fun i hi => (hc i hi).on hb⟩
theorem take_Pls {l : List Pr} {j : Nat} (h : j < l.length) : l.take (j + 1) = l.take j ++ [l.getD j pr0] := by
  have e : l.getD j pr0 = l[j] := by simp [List.getD, h]
  rw [e]
  exact List.take_succ_eq_append_getElem h
structure Lls (w : World) (a : Option Addr) (n : Nat) (l : List Ln) : Prop where
  len : l.length = n
  at' : n = 0 ∨ ∃ b off, a = some ⟨b, off, none⟩ ∧ ∀ i, i < n → LaneAt w b (off + i * 8) (l.getD i ln0)
theorem Lls.on {w w' : World} {a : Option Addr} {n : Nat} {l : List Ln} (h : Lls w a n l) (hb : Below w.heap.size w w') : Lls w' a n l := by
  refine ⟨h.len, ?_⟩
  rcases h.at' with h0 | ⟨b, off, e, hc⟩
  · exact .inl h0
  · exact .inr ⟨b, off, e, fun i hi => (hc i hi).on hb⟩
theorem take_Lls {l : List Ln} {j : Nat} (h : j < l.length) : l.take (j + 1) = l.take j ++ [l.getD j ln0] := by
  have e : l.getD j ln0 = l[j] := by simp [List.getD, h]
  rw [e]
  exact List.take_succ_eq_append_getElem h
/-- Rows of one's own that are gathered since w, their bytes beside them. -/
structure Rw2 (w wr : World) (v : Value) (ds : List RD) : Prop where
  own : wr.ownsRow w.heap.size 54 2 v ds.length (rds ds)
  sv : ∀ d ∈ ds, RV2 wr (fun x => w.heap.size ≤ x ∧ v.ownBlock ≠ some x) d
  bel : Below w.heap.size w wr
theorem Rw2.nil (w : World) : Rw2 w w (.slice none 0 0) [] := ⟨World.ownsRow_nil _ _ _ _, fun d hd => by simp at hd, Below.refl _ _⟩
theorem Rw2.below {w wr w2 : World} {v : Value} {ds : List RD} (h : Rw2 w wr v ds) (hb : Below wr.heap.size wr w2) : Rw2 w w2 v ds := ⟨own_bel h.own hb, fun d hd => (h.sv d hd).below hb, bel_bel h.bel h.bel.size hb⟩
theorem Rw2.app {w w3 w5 : World} {v v5 : Value} {ds : List RD} {d : RD} {o : Obj} (h : Rw2 w w3 v ds) (hd : RV2 w3 (fun x => w.heap.size ≤ x ∧ v.ownBlock ≠ some x) d) (ho : w5.ownsRow w.heap.size 54 2 v5 (ds ++ [d]).length (rds (ds ++ [d]))) (hg : (w3.alloc o).grownBy w5 v.ownBlock) (hl : v5.ownBlock = v.ownBlock ∨ v5.ownBlock = some (w3.alloc o).heap.size) : Rw2 w w5 v5 (ds ++ [d]) := by
  have hB := (Below.refl w3.heap.size w3).alloc (Nat.le_refl _) o
  have hown : ∀ q, v.ownBlock = some q → w.heap.size ≤ q := fun q e => (h.own.lt q e).1
  have hsa : (w3.alloc o).heap.size = w3.heap.size + 1 := by simp
  refine ⟨ho, ?_, (h.bel.alloc h.bel.size o).grown hg (by rw [hsa]; have := h.bel.size; omega) (fun q e => hown q e)⟩
  have hst : ∀ {d : RD}, RV2 w3 (fun x => w.heap.size ≤ x ∧ v.ownBlock ≠ some x) d → RV2 w5 (fun x => w.heap.size ≤ x ∧ v5.ownBlock ≠ some x) d := fun {d} h => by
    have ha := (h.below hB).step (w' := w5) (fun x hx hx' _ => hg.block x hx (fun e => hx'.2 e.symm))
    have hw : ∀ x, x < w3.heap.size → v.ownBlock ≠ some x → v5.ownBlock ≠ some x := fun x hx hn e => by
      rcases hl with h | h
      · exact hn (by rw [← h]; exact e)
      · rw [h, hsa] at e
        have := Option.some.inj e
        omega
    exact ⟨⟨ha.1.bs, ha.1.nc, ha.1.cm, ha.1.nil, fun ad e hn => ⟨(ha.1.lies ad e hn).1, hw _ (h.1.bs.at_block e hn).1 (ha.1.lies ad e hn).2⟩⟩, ⟨ha.2.bs, ha.2.nc, ha.2.cm, ha.2.nil, fun ad e hn => ⟨(ha.2.lies ad e hn).1, hw _ (h.2.bs.at_block e hn).1 (ha.2.lies ad e hn).2⟩⟩⟩
  intro d' hd'
  rcases List.mem_append.1 hd' with hd' | hd'
  · exact hst (h.sv d' hd')
  · rw [List.mem_singleton] at hd'
    subst hd'
    exact hst hd
set_option maxHeartbeats 2000000 in
/-- The landed takeAll, of peers. -/
theorem takeP_ (a : Option Addr) (n c : Nat) (l : List Pr) (w : World) (hl : Pls w a n l) (hn : n ≤ 1000000) :
    Calls Tryz.prog 81 #[.slice a n c, .func (.func 54) #[] #[]] w fun e w' => ∃ v ds, e = .returned v ∧ Rw2 w w' v ds ∧ ds.map (·.s) = l.filterMap prow := by
  have hlen := hl.len
  have HL := hid hl
  clear hl
  go_enter Tryz.func81, Tryz.ntmps81
  go_wp2_with fail
  go_loopw [5, 12] (fun v i wr => ∃ (j : Nat) (ds : List RD), j ≤ n ∧ i = .int .i64 j ∧ Hid (Rw2 w wr v ds) ∧ Hid (ds.map (·.s) = (l.take j).filterMap prow)) (fun _ i _ => n - (intOf i).toNat)
  case atStart => exact ⟨0, [], by omega, rfl, Rw2.nil w, rfl⟩
  case round =>
    obtain ⟨j, ds, hj, rfl, HR, HD⟩ := hrel
    by_cases hlt : j < n
    · have hjI : (j : Int) < n := by omega
      obtain ⟨b, off, rfl, hc⟩ : ∃ b off, a = some ⟨b, off, none⟩ ∧ ∀ i, i < n → PeerAt wr b (off + i * 3) (l.getD i pr0) := by
        rcases (HL.out.on HR.out.bel).at' with h0 | h1
        · omega
        · exact h1
      have hx := hc j hlt
      have HT := hid (take_Pls (l := l) (j := j) (by omega))
      have HDL : Hid (ds.length ≤ 1000000000) := by
        have h1 := congrArg List.length HD.out
        have h2 := List.length_filterMap_le prow (l.take j)
        rw [List.length_map] at h1
        rw [List.length_take] at h2
        show _ ≤ _
        omega
      obtain ⟨x, HX⟩ : ∃ x, Hid (l.getD j pr0 = x) := ⟨_, rfl⟩
      rw [HX.out] at hx HT
      clear hc
      obtain ⟨K, k, ps⟩ := x
      obtain ⟨ka, kc, pa, pc, ⟨c0, c1, c2⟩, hk, hp, h1, h2, h3⟩ := hx
      simp only at c0 c1 c2 hk hp h1 h2 h3
      have kp := putPeer_ K ka pa k.length kc ps.length pc k ps (wr.alloc (.cells #[.int .i64 K, .slice ka k.length kc, .slice pa ps.length pc] 57)) h3 (hk.below (bel_al wr _)) (hp.on (bel_al wr _)) h1 h2 (pkB K k.length ps) (pkB_iff K k.length ps)
      have HP : Hid (prow ⟨K, k, ps⟩ = if pkB K k.length ps then some (peK K, peV k ps) else none) := rfl
      obtain ⟨q, hq⟩ : ∃ q, pkB K k.length ps = q := ⟨_, rfl⟩
      rw [hq] at kp HP
      obtain ⟨RK, hRK⟩ : ∃ z, peK K = z := ⟨_, rfl⟩
      obtain ⟨RV, hRV⟩ : ∃ z, peV k ps = z := ⟨_, rfl⟩
      rw [hRK, hRV] at kp HP
      unfold Rp at kp
      obtain ⟨kl, Hkl⟩ : ∃ z : Nat, Hid (k.length = z) := ⟨_, rfl⟩
      obtain ⟨pl, Hpl⟩ : ∃ z : Nat, Hid (ps.length = z) := ⟨_, rfl⟩
      rw [Hkl.out, Hpl.out] at kp
      rw [Hkl.out] at c1
      rw [Hpl.out] at c2
      clear hq hRK hRV hk hp h1 h2 h3
      obtain ⟨y0, HY0⟩ : ∃ y, Hid (wr.alloc (.cells #[.int .i64 K, .slice ka kl kc, .slice pa pl pc] 57) = y) := ⟨_, rfl⟩
      have HRA : Hid (Rw2 w y0 u5 ds) := by rw [← HY0.out]; exact HR.out.below (bel_al wr _)
      rw [HY0.out] at kp
      go_wp2_with fail
      clear c0 c1 c2
      rw [HY0.out]
      clear HY0 HR
      refine kp.mono ?_
      rintro e y1 ⟨ra, rc, sa, sc, rfl, vk, vv, g1⟩
      have HR1 := hid (HRA.out.below g1)
      have HSZ : Hid (w.heap.size ≤ y0.heap.size) := HRA.out.bel.size
      have HOW := hid HRA.out.own.lt
      have HG1 := hid g1.size
      clear kp g1 HRA
      cases q
      · simp only [Bool.false_eq_true, if_false] at vk vv ⊢
        simp only [Bool.false_eq_true, if_false] at HP
        have HB2 := hid (HR1.out.below (bel_al y1 (.cells #[.slice ra ([] : List Int).length rc, .slice sa ([] : List Int).length sc] 54)))
        clear vk vv HR1
        simp only [List.length_nil] at HB2 ⊢
        go_wp2_with fail
        go_roundw
        case rel => exact ⟨j + 1, ds, by omega, by go_num, HB2, by show _ = _; rw [HT.out, List.filterMap_append, HD.out]; simp [HP.out]⟩
        case measure => simp [intOf]; omega
      · simp only [if_true] at vk vv HP ⊢
        obtain ⟨rk, Hrk⟩ : ∃ z : Nat, Hid (RK.length = z) := ⟨_, rfl⟩
        obtain ⟨rv, Hrv⟩ : ∃ z : Nat, Hid (RV.length = z) := ⟨_, rfl⟩
        rw [Hrk.out] at vk
        rw [Hrv.out] at vv
        rw [Hrk.out, Hrv.out]
        have m2 := heap_alloc_new y1 (.cells #[.slice ra rk rc, .slice sa rv sc] 54)
        have z0 := (two_cell m2).1
        have z1 := (two_cell m2).2
        have HR2 := hid (HR1.out.below (bel_al y1 (.cells #[.slice ra rk rc, .slice sa rv sc] 54)))
        have HRD : Hid (RV2 (y1.alloc (.cells #[.slice ra rk rc, .slice sa rv sc] 54)) (fun x => w.heap.size ≤ x ∧ u5.ownBlock ≠ some x) ⟨ra, rc, sa, sc, (RK, RV)⟩) := by
          have hw : ∀ y, y < y1.heap.size → y0.heap.size ≤ y → w.heap.size ≤ y ∧ u5.ownBlock ≠ some y := fun y _ hy => ⟨by have := HSZ.out; omega, fun f => by have := (HOW.out y f).2; omega⟩
          refine ⟨?_, ?_⟩
          · show Vs _ _ ra RK.length rc RK
            rw [Hrk.out]
            exact (vk.wide hw).step fun x hx _ _ => (bel_al y1 _).block x hx
          · show Vs _ _ sa RV.length sc RV
            rw [Hrv.out]
            exact (vv.wide hw).step fun x hx _ _ => (bel_al y1 _).block x hx
        clear vk vv m2 HR1
        obtain ⟨y2, HY2⟩ : ∃ y, Hid (y1.alloc (.cells #[.slice ra rk rc, .slice sa rv sc] 54) = y) := ⟨_, rfl⟩
        obtain ⟨g2, Hg2⟩ : ∃ g, Hid (y1.heap.size = g) := ⟨_, rfl⟩
        rw [HY2.out] at HR2 HRD z0 z1
        rw [Hg2.out] at z0 z1
        have HNW : Hid (∀ i u, (rdc ⟨ra, rc, sa, sc, (RK, RV)⟩)[i]? = some u → (y2.alloc (.cells #[.slice ra rk rc, .slice sa rv sc] 54)).cell? ⟨y2.heap.size, i, none⟩ = some u) := fun i u hi => by
          rw [cell_of_row _ y2.heap.size i _ 54 (0, 0) (heap_alloc_new y2 _)]
          simp only [rdc, Hrk.out, Hrv.out] at hi
          simpa using hi
        have HO6 := hid (HR2.out.own.alloc (.cells #[.slice ra rk rc, .slice sa rv sc] 54))
        have HBZ : Hid (w.heap.size ≤ (y2.alloc (.cells #[.slice ra rk rc, .slice sa rv sc] 54)).heap.size) := by have := HR2.out.bel.size; show _ ≤ _; simp; omega
        go_upto_region 6 with fail
        rw [HY2.out, Hg2.out]
        clear HY2
        go_wp2_with (first | (at_builtin; refine wpList_appRow rfl _ _ rfl w.heap.size u5 ds rfl (by exact HO6.out) y2.heap.size ⟨ra, rc, sa, sc, (RK, RV)⟩ rfl (by exact HNW.out) HDL.out HBZ.out ?_; intro v7 w7 o7 g7 l7; have HO7 := hid (HR2.out.app HRD.out o7 g7 l7); clear o7 g7 l7 HNW) | fail)
        go_roundw
        case rel => exact ⟨j + 1, ds ++ [⟨ra, rc, sa, sc, (RK, RV)⟩], by omega, by go_num, HO7, by show _ = _; rw [HT.out, List.filterMap_append, List.map_append, HD.out]; simp [HP.out]⟩
        case measure => simp [intOf]; omega
    · have hjI : ¬ (j : Int) < n := by omega
      obtain rfl : j = n := by omega
      rw [List.take_of_length_le (by omega)] at HD
      go_wp2_with fail
      go_ret
      first | exact ⟨_, ds, rfl, HR.out, HD.out⟩ | exact ⟨_, rfl, ds, HR.out, HD.out⟩
set_option maxHeartbeats 2000000 in
/-- The landed takeAll, of lanes. -/
theorem takeL_ (a : Option Addr) (n c : Nat) (l : List Ln) (w : World) (hl : Lls w a n l) (hn : n ≤ 1000000) :
    Calls Tryz.prog 82 #[.slice a n c, .func (.func 40) #[] #[]] w fun e w' => ∃ v ds, e = .returned v ∧ Rw2 w w' v ds ∧ ds.map (·.s) = l.filterMap lrw := by
  have hlen := hl.len
  have HL := hid hl
  clear hl
  go_enter Tryz.func82, Tryz.ntmps82
  go_wp2_with fail
  go_loopw [5, 12] (fun v i wr => ∃ (j : Nat) (ds : List RD), j ≤ n ∧ i = .int .i64 j ∧ Hid (Rw2 w wr v ds) ∧ Hid (ds.map (·.s) = (l.take j).filterMap lrw)) (fun _ i _ => n - (intOf i).toNat)
  case atStart => exact ⟨0, [], by omega, rfl, Rw2.nil w, rfl⟩
  case round =>
    obtain ⟨j, ds, hj, rfl, HR, HD⟩ := hrel
    by_cases hlt : j < n
    · have hjI : (j : Int) < n := by omega
      obtain ⟨b, off, rfl, hc⟩ : ∃ b off, a = some ⟨b, off, none⟩ ∧ ∀ i, i < n → LaneAt wr b (off + i * 8) (l.getD i ln0) := by
        rcases (HL.out.on HR.out.bel).at' with h0 | h1
        · omega
        · exact h1
      have hx := hc j hlt
      have HT := hid (take_Lls (l := l) (j := j) (by omega))
      have HDL : Hid (ds.length ≤ 1000000000) := by
        have h1 := congrArg List.length HD.out
        have h2 := List.length_filterMap_le lrw (l.take j)
        rw [List.length_map] at h1
        rw [List.length_take] at h2
        show _ ≤ _
        omega
      obtain ⟨x, HX⟩ : ∃ x, Hid (l.getD j ln0 = x) := ⟨_, rfl⟩
      rw [HX.out] at hx HT
      clear hc
      obtain ⟨k, S, C, N, D, E, s, nn⟩ := x
      obtain ⟨ka, kc, ⟨c0, c1, c2, c3, c4, c5, c6, c7⟩, hk, h1, h3⟩ := hx
      simp only at c0 c1 c2 c3 c4 c5 c6 c7 hk h1 h3
      have kp := putLane_ ka k.length kc k S C N D E s nn (wr.alloc (.cells #[.slice ka k.length kc, .int .i64 S, .int .i64 C, .int .i64 N, .int .u64 D, .int .u64 E, .int .i64 s, .int .i64 nn] 64)) (hk.below (bel_al wr _)) h1 h3.S h3.C h3.N h3.D h3.E h3.s h3.n
      have HP : Hid (lrw ⟨k, S, C, N, D, E, s, nn⟩ = if lok k.length S C N s nn then some (lK k, lV S C N D E s nn) else none) := rfl
      unfold Rp lRK lRV lRE at kp
      obtain ⟨q, hq⟩ : ∃ q, lok k.length S C N s nn = q := ⟨_, rfl⟩
      obtain ⟨RK, hRK⟩ : ∃ z, lK k = z := ⟨_, rfl⟩
      obtain ⟨RV, hRV⟩ : ∃ z, lV S C N D E s nn = z := ⟨_, rfl⟩
      obtain ⟨kl, Hkl⟩ : ∃ z : Nat, Hid (k.length = z) := ⟨_, rfl⟩
      simp only [hq, hRK, hRV] at kp HP
      rw [Hkl.out] at kp c0
      clear hq hRK hRV hk h1 h3
      obtain ⟨y0, HY0⟩ : ∃ y, Hid (wr.alloc (.cells #[.slice ka kl kc, .int .i64 S, .int .i64 C, .int .i64 N, .int .u64 D, .int .u64 E, .int .i64 s, .int .i64 nn] 64) = y) := ⟨_, rfl⟩
      have HRA : Hid (Rw2 w y0 u5 ds) := by rw [← HY0.out]; exact HR.out.below (bel_al wr _)
      rw [HY0.out] at kp
      go_wp2_with fail
      clear c0 c1 c2 c3 c4 c5 c6 c7
      rw [HY0.out]
      clear HY0 HR
      refine kp.mono ?_
      rintro e y1 ⟨ra, rc, sa, sc, rfl, vk, vv, g1⟩
      have HR1 := hid (HRA.out.below g1)
      have HSZ : Hid (w.heap.size ≤ y0.heap.size) := HRA.out.bel.size
      have HOW := hid HRA.out.own.lt
      have HG1 := hid g1.size
      clear kp g1 HRA
      cases q
      · simp only [Bool.false_eq_true, if_false] at vk vv ⊢
        simp only [Bool.false_eq_true, if_false] at HP
        have HB2 := hid (HR1.out.below (bel_al y1 (.cells #[.slice ra ([] : List Int).length rc, .slice sa ([] : List Int).length sc] 54)))
        clear vk vv HR1
        simp only [List.length_nil] at HB2 ⊢
        go_wp2_with fail
        go_roundw
        case rel => exact ⟨j + 1, ds, by omega, by go_num, HB2, by show _ = _; rw [HT.out, List.filterMap_append, HD.out]; simp [HP.out]⟩
        case measure => simp [intOf]; omega
      · simp only [if_true] at vk vv HP ⊢
        obtain ⟨rk, Hrk⟩ : ∃ z : Nat, Hid (RK.length = z) := ⟨_, rfl⟩
        obtain ⟨rv, Hrv⟩ : ∃ z : Nat, Hid (RV.length = z) := ⟨_, rfl⟩
        rw [Hrk.out] at vk
        rw [Hrv.out] at vv
        rw [Hrk.out, Hrv.out]
        have m2 := heap_alloc_new y1 (.cells #[.slice ra rk rc, .slice sa rv sc] 54)
        have z0 := (two_cell m2).1
        have z1 := (two_cell m2).2
        have HR2 := hid (HR1.out.below (bel_al y1 (.cells #[.slice ra rk rc, .slice sa rv sc] 54)))
        have HRD : Hid (RV2 (y1.alloc (.cells #[.slice ra rk rc, .slice sa rv sc] 54)) (fun x => w.heap.size ≤ x ∧ u5.ownBlock ≠ some x) ⟨ra, rc, sa, sc, (RK, RV)⟩) := by
          have hw : ∀ y, y < y1.heap.size → y0.heap.size ≤ y → w.heap.size ≤ y ∧ u5.ownBlock ≠ some y := fun y _ hy => ⟨by have := HSZ.out; omega, fun f => by have := (HOW.out y f).2; omega⟩
          refine ⟨?_, ?_⟩
          · show Vs _ _ ra RK.length rc RK
            rw [Hrk.out]
            exact (vk.wide hw).step fun x hx _ _ => (bel_al y1 _).block x hx
          · show Vs _ _ sa RV.length sc RV
            rw [Hrv.out]
            exact (vv.wide hw).step fun x hx _ _ => (bel_al y1 _).block x hx
        clear vk vv m2 HR1
        obtain ⟨y2, HY2⟩ : ∃ y, Hid (y1.alloc (.cells #[.slice ra rk rc, .slice sa rv sc] 54) = y) := ⟨_, rfl⟩
        obtain ⟨g2, Hg2⟩ : ∃ g, Hid (y1.heap.size = g) := ⟨_, rfl⟩
        rw [HY2.out] at HR2 HRD z0 z1
        rw [Hg2.out] at z0 z1
        have HNW : Hid (∀ i u, (rdc ⟨ra, rc, sa, sc, (RK, RV)⟩)[i]? = some u → (y2.alloc (.cells #[.slice ra rk rc, .slice sa rv sc] 54)).cell? ⟨y2.heap.size, i, none⟩ = some u) := fun i u hi => by
          rw [cell_of_row _ y2.heap.size i _ 54 (0, 0) (heap_alloc_new y2 _)]
          simp only [rdc, Hrk.out, Hrv.out] at hi
          simpa using hi
        have HO6 := hid (HR2.out.own.alloc (.cells #[.slice ra rk rc, .slice sa rv sc] 54))
        have HBZ : Hid (w.heap.size ≤ (y2.alloc (.cells #[.slice ra rk rc, .slice sa rv sc] 54)).heap.size) := by have := HR2.out.bel.size; show _ ≤ _; simp; omega
        go_upto_region 6 with fail
        rw [HY2.out, Hg2.out]
        clear HY2
        go_wp2_with (first | (at_builtin; refine wpList_appRow rfl _ _ rfl w.heap.size u5 ds rfl (by exact HO6.out) y2.heap.size ⟨ra, rc, sa, sc, (RK, RV)⟩ rfl (by exact HNW.out) HDL.out HBZ.out ?_; intro v7 w7 o7 g7 l7; have HO7 := hid (HR2.out.app HRD.out o7 g7 l7); clear o7 g7 l7 HNW) | fail)
        go_roundw
        case rel => exact ⟨j + 1, ds ++ [⟨ra, rc, sa, sc, (RK, RV)⟩], by omega, by go_num, HO7, by show _ = _; rw [HT.out, List.filterMap_append, List.map_append, HD.out]; simp [HP.out]⟩
        case measure => simp [intOf]; omega
    · have hjI : ¬ (j : Int) < n := by omega
      obtain rfl : j = n := by omega
      rw [List.take_of_length_le (by omega)] at HD
      go_wp2_with fail
      go_ret
      first | exact ⟨_, ds, rfl, HR.out, HD.out⟩ | exact ⟨_, rfl, ds, HR.out, HD.out⟩
end Go.Proofs.YtcbmgpmjnehjdaaGreat
