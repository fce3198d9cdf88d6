import Derived.Test.YtcbmgpmjnehjdaaGreatP8
import Derived.Deep.RegionHeldLaw
namespace Go.Proofs.YtcbmgpmjnehjdaaGreat
set_option maxRecDepth 100000
open Go.RowKit
set_option linter.unusedVariables false

/-- A prefix as four numbers; many of them in memory. -/
structure Px where
  F : Int
  H : Int
  L : Int
  B : Int
def px0 : Px := ⟨0, 0, 0, 0⟩
structure Px.ok (x : Px) : Prop where
  F : InI x.F
  H : InU x.H
  L : InU x.L
  B : InI x.B
structure Pc (w : World) (b o : Nat) (x : Px) : Prop where
  c0 : w.cell? ⟨b, o, none⟩ = some (.int .i64 x.F)
  c1 : w.cell? ⟨b, o + 1, none⟩ = some (.int .u64 x.H)
  c2 : w.cell? ⟨b, o + 2, none⟩ = some (.int .u64 x.L)
  c3 : w.cell? ⟨b, o + 3, none⟩ = some (.int .i64 x.B)
structure Ps (w : World) (a : Option Addr) (n : Nat) (ps : List Px) : Prop where
  len : ps.length = n
  ok : ∀ x ∈ ps, x.ok
  at' : n = 0 ∨ ∃ b off, a = some ⟨b, off, none⟩ ∧ ∀ i, i < n → Pc w b (off + i * 4) (ps.getD i px0)
theorem Pc.on {w w' : World} {b o : Nat} {x : Px} (h : Pc w b o x) (hb : Below w.heap.size w w') : Pc w' b o x :=
  ⟨(hb.cell (World.block_lt_of_cell? w _ h.c0)).trans h.c0, (hb.cell (World.block_lt_of_cell? w _ h.c1)).trans h.c1, (hb.cell (World.block_lt_of_cell? w _ h.c2)).trans h.c2, (hb.cell (World.block_lt_of_cell? w _ h.c3)).trans h.c3⟩
theorem Ps.on {w w' : World} {a : Option Addr} {n : Nat} {ps : List Px} (h : Ps w a n ps) (hb : Below w.heap.size w w') : Ps w' a n ps := by
  refine ⟨h.len, h.ok, ?_⟩
  rcases h.at' with h0 | ⟨b, off, e, hc⟩
  · exact .inl h0
  · exact .inr ⟨b, off, e, fun i hi => (hc i hi).on hb⟩
/-- The prefixes stand in order, and each may be: the first j of them. -/
def Pg (ps : List Px) (j : Nat) : Prop := ∀ i, i < j → vp (ps.getD i px0).F (ps.getD i px0).H (ps.getD i px0).L (ps.getD i px0).B = true ∧ (0 < i → cp (ps.getD (i - 1) px0).F (ps.getD (i - 1) px0).H (ps.getD (i - 1) px0).L (ps.getD (i - 1) px0).B (ps.getD i px0).F (ps.getD i px0).H (ps.getD i px0).L (ps.getD i px0).B < 0)
/-- May the peer be? -/
def Pk (K : Int) (m : Nat) (ps : List Px) : Prop := 1 ≤ K ∧ K ≤ 4294967295 ∧ m = 32 ∧ ps.length ≤ 16 ∧ Pg ps ps.length
set_option maxHeartbeats 1000000 in
/-- The document's peerOK. -/
theorem rpeerOK_ (K : Int) (ka pa : Option Addr) (m c n d : Nat) (ps : List Px) (w : World) (hp : Ps w pa n ps) (hm : m ≤ maxLen) (hn : n ≤ maxLen) (q : Bool) (hq : (q = true) ↔ Pk K m ps) :
    Calls Tryz.prog 108 #[.agg #[.int .i64 K, .slice ka m c, .slice pa n d]] w fun e w' => e = .returned (.bool q) ∧ Below w.heap.size w w' := by
  unfold maxLen at hm hn
  have hl := hp.len
  have BA : Below w.heap.size w (w.alloc (.cells #[.int .i64 K, .slice ka m c, .slice pa n d] 57)) := (Below.refl _ _).alloc (Nat.le_refl _) _
  have m1 := heap_alloc_new w (.cells #[.int .i64 K, .slice ka m c, .slice pa n d] 57)
  have HBA := hid BA
  have HM := hid m1
  have HP := hid hp
  have HQ := hid hq
  clear BA m1 hp hq
  by_cases hh : 1 ≤ K ∧ K ≤ 4294967295 ∧ m = 32 ∧ n ≤ 16
  · obtain ⟨i1, i2, rfl, i4⟩ := hh
    have HG : Hid ((q = true) ↔ Pg ps n) := by
      show _ ↔ _
      rw [HQ.out]
      unfold Pk
      rw [hl]
      exact ⟨fun h => h.2.2.2.2, fun h => ⟨i1, i2, rfl, i4, h⟩⟩
    clear HQ hm hn
    go_enter Tryz.func108, Tryz.ntmps108
    go_wp2_with fail
    obtain ⟨W, HW⟩ : ∃ W, Hid (w.alloc (.cells #[.int .i64 K, .slice ka 32 c, .slice pa n d] 57) = W) := ⟨_, rfl⟩
    rw [HW.out] at HBA HM ⊢
    have HPW := hid (HP.out.on HBA.out)
    have HY2 : Hid (W.cell? ⟨w.heap.size, 2, none⟩ = some (.slice pa n d)) := (cell_of_row W w.heap.size 2 _ 57 (0, 0) HM.out).trans rfl
    clear HW HM HP
    go_loopw [3] (fun i wr => ∃ j : Nat, j ≤ n ∧ i = .int .i64 j ∧ Hid (Pg ps j) ∧ Hid (Bw W wr)) (fun i _ => n - (intOf i).toNat)
    case atStart => exact ⟨0, by omega, rfl, fun i hi => absurd hi (Nat.not_lt_zero i), Below.refl _ _⟩
    case round =>
      obtain ⟨j, hj, rfl, HG0, HBr⟩ := hrel
      have y2 := Bw.cell HBr.out HY2.out
      by_cases hlt : j < n
      · have hjI : (j : Int) < n := by omega
        obtain ⟨b, off, rfl, hc⟩ : ∃ b off, pa = some ⟨b, off, none⟩ ∧ ∀ i, i < n → Pc wr b (off + i * 4) (ps.getD i px0) := by
          rcases (HPW.out.on HBr.out).at' with h0 | h1
          · omega
          · exact h1
        have HC := hid hc
        have c0 := (hc j hlt).c0
        have c1 := (hc j hlt).c1
        have c2 := (hc j hlt).c2
        have c3 := (hc j hlt).c3
        have hxo : (ps.getD j px0).ok := by
          have e : ps.getD j px0 = ps[j]'(by omega) := by simp [List.getD, show j < ps.length by omega]
          rw [e]
          exact HPW.out.ok _ (List.getElem_mem _)
        obtain ⟨x, HX⟩ : ∃ x, Hid (ps.getD j px0 = x) := ⟨_, rfl⟩
        rw [HX.out] at c0 c1 c2 c3 hxo
        have kv := rf7Valid_ x.F x.H x.L x.B wr hxo.H hxo.L hxo.B
        obtain ⟨vx, Hvx⟩ : ∃ r, Hid (vp x.F x.H x.L x.B = r) := ⟨_, rfl⟩
        rw [Hvx.out] at kv
        clear hc hxo
        go_wp2_with fail
        clear c0 c1 c2 c3
        refine kv.mono ?_
        rintro e w1 ⟨rfl, g1⟩
        have HB1 := hid (Bw.on HBr.out g1)
        have HC1 : Hid (∀ i, i < n → Pc w1 b (off + i * 4) (ps.getD i px0)) := fun i hi => (HC.out i hi).on g1
        clear g1 kv y2 HC HBr
        cases vx
        · have HF : Hid (false = q) := by
            show _ = _
            cases q
            · rfl
            · exfalso
              have h := ((HG.out.1 rfl) j hlt).1
              rw [HX.out, Hvx.out] at h
              cases h
          go_wp2_with fail
          go_ret
          exact ⟨ret_bool HF.out, bel_bel HBA.out HBA.out.size HB1.out⟩
        · have HPJ : Hid (∀ (h : 0 < j → cp (ps.getD (j - 1) px0).F (ps.getD (j - 1) px0).H (ps.getD (j - 1) px0).L (ps.getD (j - 1) px0).B x.F x.H x.L x.B < 0), Pg ps (j + 1)) := fun h i hi => by
            by_cases hij : i = j
            · subst hij
              rw [HX.out]
              exact ⟨Hvx.out, h⟩
            · exact HG0.out i (by omega)
          have Y2 := hid (Bw.cell HB1.out HY2.out)
          have A0 := hid (HC1.out j hlt).c0
          have A1 := hid (HC1.out j hlt).c1
          have A2 := hid (HC1.out j hlt).c2
          have A3 := hid (HC1.out j hlt).c3
          rw [HX.out] at A0 A1 A2 A3
          by_cases hj0 : j = 0
          · have HP1 := hid (HPJ.out (fun h => absurd h (by omega)))
            subst hj0
            clear A0 A1 A2 A3 HPJ
            go_wp2_with fail
            refine wp_quietC (Bw w1) (by kernel_rfl) (by kernel_rfl) (Bw.drew w1) ?_
            repeat (first | go_big_quiet_skip | (go_big_quiet_want; go_big_quiet_op; first | go_big_quiet_on | (apply Exists.intro; refine ⟨fun wq hq => ?_, ?_⟩; (· first | (with_reducible rfl) | (have q0 := hq.cell Y2.out; go_simp; rfl) | rfl); go_big_quiet_on)))
            refine wpQuiet_nil ?_
            intro w3 s3
            have HB3 := hid (Bw.on HB1.out s3)
            clear s3
            go_wp2_with fail
            go_roundw
            case rel => exact ⟨0 + 1, by omega, by go_num, HP1, HB3⟩
            case measure => simp [intOf]; omega
          · obtain ⟨i, rfl⟩ : ∃ i, j = i + 1 := ⟨j - 1, by omega⟩
            have hlt' : i < n := by omega
            obtain ⟨y, HYx⟩ : ∃ y, Hid (ps.getD i px0 = y) := ⟨_, rfl⟩
            have B0 := hid (HC1.out i hlt').c0
            have B1 := hid (HC1.out i hlt').c1
            have B2 := hid (HC1.out i hlt').c2
            have B3 := hid (HC1.out i hlt').c3
            rw [HYx.out] at B0 B1 B2 B3
            have kc := fun wx => refCompare_ y.F y.H y.L y.B x.F x.H x.L x.B wx
            obtain ⟨r, Hr⟩ : ∃ r, Hid (cp y.F y.H y.L y.B x.F x.H x.L x.B = r) := ⟨_, rfl⟩
            rw [Hr.out] at kc
            have hi0 : (0 : Int) ≤ (i : Int) := by omega
            have hwi : IntKind.i64.wrap (i : Int) = (i : Int) := by simp [IntKind.wrap, IntKind.bits, IntKind.signed]; omega
            have hiI : (i : Int) < n := by omega
            go_wp2_with fail
            refine wp_quietC (Bw w1) (by kernel_rfl) (by kernel_rfl) (Bw.drew w1) ?_
            repeat (first | go_big_quiet_skip | (go_big_quiet_want; go_big_quiet_op; first | go_big_quiet_on | (apply Exists.intro; refine ⟨fun wq hq => ?_, ?_⟩; (· first | (with_reducible rfl) | (go_at_call 143; exact (kc _).mono fun _ _ h => ⟨h.1, hq.on h.2⟩) | (have q0 := hq.cell Y2.out; have q1 := hq.cell A0.out; have q2 := hq.cell A1.out; have q3 := hq.cell A2.out; have q4 := hq.cell A3.out; have q5 := hq.cell B0.out; have q6 := hq.cell B1.out; have q7 := hq.cell B2.out; have q8 := hq.cell B3.out; go_simp; rfl) | rfl); go_big_quiet_on)))
            refine wpQuiet_nil ?_
            intro w3 s3
            have HB3 := hid (Bw.on HB1.out s3)
            clear s3
            by_cases hr : 0 ≤ r
            · have HF : Hid (false = q) := by
                show _ = _
                cases q
                · rfl
                · exfalso
                  have h := ((HG.out.1 rfl) (i + 1) hlt).2 (by omega)
                  rw [HX.out, show i + 1 - 1 = i from rfl, HYx.out, Hr.out] at h
                  omega
              go_wp2_with fail
              go_ret
              exact ⟨ret_bool HF.out, bel_bel HBA.out HBA.out.size HB3.out⟩
            · have HP1 := hid (HPJ.out (fun _ => by rw [show i + 1 - 1 = i from rfl, HYx.out, Hr.out]; omega))
              go_wp2_with fail
              go_roundw
              case rel => exact ⟨i + 1 + 1, by omega, by go_num, HP1, HB3⟩
              case measure => simp [intOf]; omega
      · have hjI : ¬ (j : Int) < n := by omega
        obtain rfl : j = n := by omega
        have HT : Hid (true = q) := (HG.out.2 HG0.out).symm
        go_wp2_with fail
        go_ret
        exact ⟨ret_bool HT.out, bel_bel HBA.out HBA.out.size HBr.out⟩
  · have hf : q = false := by
      cases q
      · rfl
      · exact absurd (HQ.out.1 rfl) (fun h => hh ⟨h.1, h.2.1, h.2.2.1, by rw [← hl]; exact h.2.2.2.1⟩)
    rw [hf]
    clear HQ HP hf
    go_enter Tryz.func108, Tryz.ntmps108
    by_cases g1 : K < 1
    · go_wp2_with fail
      go_ret
      exact ⟨rfl, HBA.out⟩
    · by_cases g2 : K > 4294967295
      · go_wp2_with fail
        go_ret
        exact ⟨rfl, HBA.out⟩
      · by_cases g3 : m = 32
        · subst g3
          have g4 : ((n : Int) > 16) := by omega
          clear hh
          go_wp2_with fail
          go_ret
          exact ⟨rfl, HBA.out⟩
        · have g3' : ((m : Int) != 32) = true := bne_iff_ne.2 (by omega)
          have g3'' : ¬ (m : Int) = 32 := by omega
          clear hh
          go_wp2_with fail
          go_ret
          exact ⟨rfl, HBA.out⟩
end Go.Proofs.YtcbmgpmjnehjdaaGreat
namespace Go.Proofs.YtcbmgpmjnehjdaaGreat
set_option maxRecDepth 100000
open Go.RowKit
set_option linter.unusedVariables false

/-- A peer's row. -/
def peB (ps : List Px) : List Int := (ps.map fun x => pp x.F x.H x.L x.B).flatten
def peK (K : Int) : List Int := [80] ++ be 4 K
def peV (k : List Int) (ps : List Px) : List Int := (k ++ [(ps.length : Int)]) ++ peB ps
theorem peB_succ (ps : List Px) (j : Nat) (h : j < ps.length) : peB (ps.take (j + 1)) = peB (ps.take j) ++ pp (ps.getD j px0).F (ps.getD j px0).H (ps.getD j px0).L (ps.getD j px0).B := by
  have e : ps.getD j px0 = ps[j] := by simp [List.getD, h]
  unfold peB
  rw [List.take_succ_eq_append_getElem h, List.map_append, List.flatten_append, e]
  simp
theorem peB_byte (ps : List Px) : Okb (peB ps) := by
  intro z hz
  unfold peB at hz
  obtain ⟨l, hl, hz⟩ := List.mem_flatten.1 hz
  obtain ⟨x, _, rfl⟩ := List.mem_map.1 hl
  exact pp_byte _ _ _ _ z hz
theorem step_appS {W w : World} {ops : Array Oper} {o : Oper} {a : Act} {K : Act → World → Prop} {Q : Exit → Act → World → Prop} {E : Prop} (hgd : o.guard = none) (s x : Operand)
    (ho : o.op = .call { callee := .builtin .append, args := #[s, x], argTypes := #[52, 52] })
    (v : Value) (X : List Int) (hs : a.eval s = v) (hst : St W w v X) (ad : Addr) (c : Nat) (z : Int) (hx : a.eval x = .slice (some ad) 1 c) (hz : w.cell? ad = some (.int .u8 z)) (hnm : X.length + 1 ≤ 140737488355328)
    (h : ∀ v' w', St W w' v' (X ++ [z]) → K (a.put o.dst v') w') : if Region.wanted o (yielded ops a.tmps) = true then Oper.wp Tryz.prog o a w K Q else E := by
  obtain ⟨i5, hi, hz0, hz1, hz2⟩ := info_parts info5
  refine step_append_lies w hgd s x 52 ho W.heap.size 5 i5 (.int .u8 0) 1 1 Tryz.underlying52 hi hz0 hz1 hz2 rfl (by decide) v X.length (cells X) hs hst.own ad 1 c [.int .u8 z] hx rfl (fun j u hj => ?_) (fun u hu => ?_) (by omega) (by unfold maxLen; omega) (by omega) hst.bel.size w.heap.size rfl fun g cap w' o' g' _ _ => h _ w' ⟨?_, hst.bel.grown g' hst.bel.size (fun p hp => (hst.own.lt p hp).1)⟩
  · match j, hj with
    | 0, hj => simp at hj; subst hj; exact hz
  · simp at hu; subst hu; rfl
  · rw [List.length_append, cells_append]
    exact o'
theorem pp_len (F H L B : Int) : (pp F H L B).length ≤ 18 := by
  unfold pp pa nb
  split
  · simp only [List.length_cons]
    split
    · rw [be_length]
      split
      · omega
      · split <;> omega
    · simp
  · simp
theorem peB_len (ps : List Px) : (peB ps).length ≤ 18 * ps.length := by
  unfold peB
  induction ps with
  | nil => simp
  | cons x l ih =>
    simp only [List.map_cons, List.flatten_cons, List.length_append, List.length_cons]
    have := pp_len x.F x.H x.L x.B
    omega
set_option maxHeartbeats 2000000 in
/-- The document's PutPeer. -/
theorem rputPeer_ (K : Int) (ka pa : Option Addr) (m c n d : Nat) (k : List Int) (ps : List Px) (w : World) (hK : InI K) (hk : Bs w ka m k) (hp : Ps w pa n ps) (hm : m ≤ maxLen) (hn : n ≤ maxLen) (q : Bool) (hq : (q = true) ↔ Pk K m ps) :
    Calls Tryz.prog 67 #[.agg #[.int .i64 K, .slice ka m c, .slice pa n d]] w fun e w' => Rp w (if q then peK K else []) (if q then peV k ps else []) (if q then 0 else 114) e w' := by
  have hkl := hk.1
  have hpl := hp.len
  have B0 : Below w.heap.size w ((w.alloc (.cells #[.int .i64 K, .slice ka m c, .slice pa n d] 57)).alloc (.cells #[.slice none 0 0, .slice none 0 0] 54)) := ((Below.refl _ _).alloc (Nat.le_refl _) _).alloc (by simp) _
  have m0 : ((w.alloc (.cells #[.int .i64 K, .slice ka m c, .slice pa n d] 57)).alloc (.cells #[.slice none 0 0, .slice none 0 0] 54)).heap[w.heap.size]? = some (.cells #[.int .i64 K, .slice ka m c, .slice pa n d] 57 (0, 0)) := (Below.heap_alloc _ _ _ (by simp)).trans (heap_alloc_new w _)
  have m1 := heap_alloc_new (w.alloc (.cells #[.int .i64 K, .slice ka m c, .slice pa n d] 57)) (.cells #[.slice none 0 0, .slice none 0 0] 54)
  rw [World.size_alloc] at m1
  have HK := hid hk
  have HP := hid hp
  have HQ := hid hq
  have HM0 := hid m0
  have HM1 := hid m1
  have ko := fun wx (h : Below w.heap.size w wx) => rpeerOK_ K ka pa m c n d ps wx (HP.out.on h) hm hn q HQ.out
  clear hk hp hq m0 m1
  go_enter Tryz.func67, Tryz.ntmps67
  go_wp2_with fail
  refine (ko _ B0).mono ?_
  rintro e w1 ⟨rfl, g1⟩
  have HB := hid (bel_bel B0 B0.size g1)
  have HM2 := hid ((g1.block w.heap.size (by simp; omega)).trans HM0.out)
  have HM3 := hid ((g1.block (w.heap.size + 1) (by simp)).trans HM1.out)
  have HLT : Hid (w.heap.size + 1 < w1.heap.size) := by have := g1.size; simp at this; show _ < _; omega
  clear B0 g1 HM0 HM1 ko
  cases q
  · clear HQ
    have z0 := (two_cell HM3.out).1
    have z1 := (two_cell HM3.out).2
    have f0 := two_fz HM3.out 0
    have f1 := two_fz HM3.out 1
    have HM4 := hid (two_set (a := .slice none 0 0) (b := .slice none 0 0) HM3.out)
    have HB2 := hid ((HB.out.setCell (p := ⟨w.heap.size + 1, 0, none⟩) (Nat.le_succ _) (.slice none 0 0)).setCell (p := ⟨w.heap.size + 1, 1, none⟩) (Nat.le_succ _) (.slice none 0 0))
    go_wp2_with fail
    refine bodyPost_ret (v := .tuple #[.agg #[.slice none 0 0, .slice none 0 0], .int .i64 114]) ?_ rfl ⟨none, 0, none, 0, rfl, vs_none _ _, vs_none _ _, HB2.out⟩
    exact results_rw rfl _ _ (w.heap.size + 1) _ _ 0 0 0 0 _ rfl rfl (two_cell HM4.out).1 (two_cell HM4.out).2
  · obtain ⟨q1, q2, q3, q4, q5⟩ := HQ.out.1 rfl
    subst q3
    have hn16 : n ≤ 16 := by omega
    clear HQ q4 hm hn
    have y0 := Bw.cell (St.one w1 80).bel ((cell_of_row w1 w.heap.size 0 _ 57 (0, 0) HM2.out).trans rfl : w1.cell? ⟨w.heap.size, 0, none⟩ = some (.int .i64 K))
    have HY1 : Hid (w1.cell? ⟨w.heap.size, 1, none⟩ = some (.slice ka 32 c)) := (cell_of_row w1 w.heap.size 1 _ 57 (0, 0) HM2.out).trans rfl
    have HY2 : Hid (w1.cell? ⟨w.heap.size, 2, none⟩ = some (.slice pa n d)) := (cell_of_row w1 w.heap.size 2 _ 57 (0, 0) HM2.out).trans rfl
    have HPG := hid q5
    clear HM2 q5
    go_wp2_with fail
    refine (rnum15_ 4 K _ (by omega) (by omega)).mono ?_
    rintro e wa ⟨va, rfl, oa, ga⟩
    obtain ⟨aa, ca, rfl, vsa⟩ := Vs.ofOwn oa (be_byte _ _)
    have HSa := hid ((St.one w1 80).call ga)
    have HBa := hid vsa.bs
    clear y0 oa ga vsa
    go_wp2_with (at_builtin; refine wpList_appS (W := w1) rfl _ _ rfl _ [80] rfl (by exact HSa.out) aa 4 ca (be 4 K) rfl (by exact HBa.out) (by simp) ?_; intro vb wb sb; have HSb := hid sb; have x1 := Bw.cell sb.bel HY1.out; have x2 := Bw.cell sb.bel HY2.out; clear sb)
    clear HSa HBa
    obtain ⟨p5, HP5⟩ : ∃ p : Nat, Hid ((([80] : List Int) ++ be 4 K).length = p) := ⟨_, rfl⟩
    have HOK : Hid (Okb (peK K)) := by
      intro z hz
      unfold peK at hz
      rcases List.mem_append.1 hz with h | h
      · rw [List.mem_singleton.1 h]; omega
      · exact be_byte _ _ z h
    have ob := HSb.out.own
    rw [HP5.out] at ob
    obtain ⟨ab, cb, rfl, vsb⟩ := Vs.ofOwn ob HOK.out
    have HVb := hid vsb
    clear ob vsb HOK
    have HBb := hid (bel_bel HB.out HB.out.size HSb.out.bel)
    have kby : ∀ wx, Bw wb wx → Calls Tryz.prog 27 #[.slice ka 32 c] wx fun e w' => ∃ z, e = .returned z ∧ St wb w' z k ∧ Below wx.heap.size wx w' := fun wx h => (refBytes ka 32 c k wx ((HK.out.below HBb.out).below h) (by omega)).mono fun e w' ⟨z, e1, o1, b1⟩ => ⟨z, e1, ⟨by rw [hkl]; exact own_le o1 (Below.size h), h.on b1⟩, b1⟩
    have BW0 : Bw wb { wb with drawn := wb.drawn + 1 } := Bw.drew wb
    have BW1 := fun o => Bw.on BW0 ((Below.refl ({ wb with drawn := wb.drawn + 1 } : World).heap.size _).alloc (Nat.le_refl _) o)
    have hwn : IntKind.u8.wrap (n : Int) = (n : Int) := by rw [IntKind.wrap_u8]; omega
    have r1 := World.new_ne _ _ x1
    have r2 := World.new_ne _ _ x2
    go_region_held_law (fun wx => wx.cell? ⟨w.heap.size, 1, none⟩ = some (.slice ka 32 c) ∧ wx.cell? ⟨w.heap.size, 2, none⟩ = some (.slice pa n d)) (go_keep) (first | (have hh := EW2; clear hh; refine step_appS (W := wb) (by rfl) (.tmp 19) (.tmp 24) (by rfl) v2 k (by rfl) (by exact HS2.out) ⟨wb.heap.size, 0, none⟩ 1 n (by rfl) (by exact EW2) (by omega) ?_; intro v3 w3 s3; have t1 := Bw.cell s3.bel x1; have t2 := Bw.cell s3.bel x2; have HS3 := hid s3; clear s3) | (have hh := EW1; clear hh; refine step_appS (W := wb) (by rfl) (.tmp 19) (.tmp 24) (by rfl) v2 k (by rfl) (by exact HS2a.out) ⟨w2.heap.size, 0, none⟩ 1 n (by rfl) (by exact EW1) (by omega) ?_; intro v3 w3 s3; have t1 := Bw.cell s3.bel x1; have t2 := Bw.cell s3.bel x2; have HS3 := hid s3; clear s3) | (go_at_call 27; refine (kby _ (by exact BW1 _)).mono ?_; rintro en w2 ⟨v2, rfl, s2, g2⟩; have u1 := Bw.cell s2.bel x1; have u2 := Bw.cell s2.bel x2; have HS2 := hid s2; have EW2 : w2.cell? ⟨wb.heap.size, 0, none⟩ = some (.int .u8 n) := (cell_of_row w2 wb.heap.size 0 _ 5 (0, 0) ((g2.block wb.heap.size (by simp)).trans (heap_alloc_new ({ wb with drawn := wb.drawn + 1 } : World) (.cells #[.int .u8 n] 5)))).trans rfl; clear s2 g2) | (go_at_call 27; refine (kby _ (by exact BW0)).mono ?_; rintro en w2 ⟨v2, rfl, s2, g2⟩; have u1 := Bw.cell s2.bel x1; have u2 := Bw.cell s2.bel x2; have HS2 := hid s2; have HS2a := hid (s2.call ((Below.refl _ _).alloc (Nat.le_refl _) (.cells #[.int .u8 n] 5))); have EW1 : (w2.alloc (.cells #[.int .u8 n] 5)).cell? ⟨w2.heap.size, 0, none⟩ = some (.int .u8 n) := (cell_of_row _ w2.heap.size 0 _ 5 (0, 0) (heap_alloc_new w2 _)).trans rfl; clear s2 g2))
    all_goals
      have HY3 := hid x2
      have HMb := hid ((HSb.out.bel.block (w.heap.size + 1) HLT.out).trans HM3.out)
      have HLb := hid (Nat.lt_of_lt_of_le HLT.out HSb.out.bel.size)
      have HPb := hid (HP.out.on HBb.out)
      clear t1 t2 r1 r2 x1 x2 hwn BW0 BW1 kby HY1 HY2 HM3 HP HS2
      go_wp2_with fail
      go_loopw [5, 6] (fun v i wr => ∃ j : Nat, j ≤ n ∧ i = .int .i64 j ∧ Hid (St wb wr v ((k ++ [(n : Int)]) ++ peB (ps.take j)))) (fun _ i _ => n - (intOf i).toNat)
      case atStart => exact ⟨0, by omega, rfl, by show St _ _ _ _; simpa [peB] using HS3.out⟩
      case round =>
        obtain ⟨j, hj, rfl, HSr⟩ := hrel
        have y2 := Bw.cell HSr.out.bel HY3.out
        by_cases hlt : j < n
        · have hjI : (j : Int) < n := by omega
          obtain ⟨b, off, rfl, hc⟩ : ∃ b off, pa = some ⟨b, off, none⟩ ∧ ∀ i, i < n → Pc wr b (off + i * 4) (ps.getD i px0) := by
            rcases (HPb.out.on HSr.out.bel).at' with h0 | h1
            · omega
            · exact h1
          have c0 := (hc j hlt).c0
          have c1 := (hc j hlt).c1
          have c2 := (hc j hlt).c2
          have c3 := (hc j hlt).c3
          have hxo : (ps.getD j px0).ok := by
            have e : ps.getD j px0 = ps[j]'(by omega) := by simp [List.getD, show j < ps.length by omega]
            rw [e]
            exact HPb.out.ok _ (List.getElem_mem _)
          have HSU := hid (peB_succ ps j (by omega))
          obtain ⟨x, HX⟩ : ∃ x, Hid (ps.getD j px0 = x) := ⟨_, rfl⟩
          rw [HX.out] at c0 c1 c2 c3 hxo HSU
          have kp := rf7Put_ x.F x.H x.L x.B wr hxo.H hxo.L hxo.B
          have hb1 := pp_len x.F x.H x.L x.B
          have hbb := pp_byte x.F x.H x.L x.B
          have hb2 : ((k ++ [(n : Int)]) ++ peB (ps.take j)).length ≤ 400 := by
            have := peB_len (ps.take j)
            rw [List.length_take] at this
            simp only [List.length_append, List.length_singleton, hkl]
            omega
          obtain ⟨pq, Hpq⟩ : ∃ l, Hid (pp x.F x.H x.L x.B = l) := ⟨_, rfl⟩
          rw [Hpq.out] at kp hb1 hbb HSU
          obtain ⟨pl, Hpl⟩ : ∃ l : Nat, Hid (pq.length = l) := ⟨_, rfl⟩
          rw [Hpl.out] at kp hb1
          obtain ⟨XX, HXX⟩ : ∃ l, Hid ((k ++ [(n : Int)]) ++ peB (ps.take j) = l) := ⟨_, rfl⟩
          rw [HXX.out] at HSr hb2
          have HH1 := hid hb1
          have HH2 := hid hb2
          clear hc hxo hb1 hb2
          go_wp2_with fail
          clear c0 c1 c2 c3 y2
          refine kp.mono ?_
          rintro e w4 ⟨v4, rfl, o4, g4⟩
          obtain ⟨a4, c4, rfl, vs4⟩ := Vs.ofOwn o4 hbb
          have HS4 := hid (HSr.out.call g4)
          have HB4 := hid vs4.bs
          clear o4 g4 vs4 kp HSr
          go_wp2_with (at_builtin; refine wpList_appS (W := wb) rfl _ _ rfl _ XX rfl (by exact HS4.out) a4 pl c4 pq rfl (by exact HB4.out) (by have := HH1.out; have := HH2.out; omega) ?_; intro v5 w5 s5; have HS5 := hid s5; clear s5)
          have HS6 : Hid (St wb w5 v5 ((k ++ [(n : Int)]) ++ peB (ps.take (j + 1)))) := by
            show St _ _ _ _
            rw [HSU.out, ← List.append_assoc, HXX.out]
            exact HS5.out
          go_roundw
          case rel => exact ⟨j + 1, by omega, by go_num, HS6⟩
          case measure => simp [intOf]; omega
        · have hjI : ¬ (j : Int) < n := by omega
          obtain rfl : j = n := by omega
          have hfull : ps.take j = ps := List.take_of_length_le (by omega)
          rw [hfull] at HSr
          have HQB : Hid (Okb ((k ++ [(j : Int)]) ++ peB ps)) := by
            intro z hz
            simp only [List.mem_append, List.mem_singleton] at hz
            rcases hz with (h | h) | h
            · exact HK.out.2.1 z h
            · rw [h]; omega
            · exact peB_byte ps z h
          have HPV : Hid ((k ++ [(j : Int)]) ++ peB ps = peV k ps) := by show _ = _; unfold peV; rw [hpl]
          obtain ⟨pj, Hpj⟩ : ∃ l : Nat, Hid (((k ++ [(j : Int)]) ++ peB ps).length = l) := ⟨_, rfl⟩
          have oj := HSr.out.own
          rw [Hpj.out] at oj
          obtain ⟨aj, cj, rfl, vsj⟩ := Vs.ofOwn oj HQB.out
          have HVj := hid vsj
          have HMj := hid ((HSr.out.bel.block (w.heap.size + 1) HLb.out).trans HMb.out)
          have z0 := (two_cell HMj.out).1
          have z1 := (two_cell HMj.out).2
          have f0 := two_fz HMj.out 0
          have f1 := two_fz HMj.out 1
          have HBel := hid HSr.out.bel
          clear oj vsj HSr
          go_wp2_with fail
          clear z0 z1 f0 f1
          have HM6 := hid (two_set (a := .slice ab p5 cb) (b := .slice aj pj cj) HMj.out)
          have HBj := hid (bel_bel HBb.out HBb.out.size HBel.out)
          have HB6 := hid ((HBj.out.setCell (p := ⟨w.heap.size + 1, 0, none⟩) (Nat.le_succ _) (.slice ab p5 cb)).setCell (p := ⟨w.heap.size + 1, 1, none⟩) (Nat.le_succ _) (.slice aj pj cj))
          have HO := fun i (h : i ≠ w.heap.size + 1) => two_other (w := wr) (a := .slice ab p5 cb) (b := .slice aj pj cj) h
          refine bodyPost_ret (v := .tuple #[.agg #[.slice ab p5 cb, .slice aj pj cj], .int .i64 0]) ?_ rfl ?_
          · exact results_rw rfl _ _ (w.heap.size + 1) _ _ _ _ _ _ _ rfl rfl (two_cell HM6.out).1 (two_cell HM6.out).2
          · show Rp w (peK K) (peV k ps) 0 _ _
            rw [← HPV.out]
            refine ⟨ab, cb, aj, cj, by rw [Hpj.out, ← HP5.out]; rfl, ?_, ?_, HB6.out⟩
            · have e : (peK K).length = p5 := HP5.out
              rw [e]
              have h := HVb.out.wide (V' := fun x => w1.heap.size ≤ x ∧ x < wb.heap.size) fun x hx h => ⟨h, hx⟩
              exact (h.step fun x hx hV _ => (HO x (by have := HLT.out; omega)).trans (HBel.out.block x hV.2)).wide fun x _ hx => by have := HLT.out; omega
            · rw [Hpj.out]
              exact (HVj.out.step fun x _ hV _ => HO x (by have := HLb.out; omega)).wide fun x _ hx => by have := HLb.out; omega
end Go.Proofs.YtcbmgpmjnehjdaaGreat
namespace Go.Proofs.YtcbmgpmjnehjdaaGreat
set_option maxRecDepth 100000
open Go.RowKit
set_option linter.unusedVariables false

theorem infoP : (Tryz.prog.info? 121).map (fun i => (i.zero, i.size, i.bytes)) = some (some (.agg #[.int .i64 0, .int .u64 0, .int .u64 0, .int .i64 0]), 4, 32) := by kernel_rfl
def pxc (x : Px) : List Value := [.int .i64 x.F, .int .u64 x.H, .int .u64 x.L, .int .i64 x.B]
def pxcs (l : List Px) : List Value := l.flatMap pxc
theorem pxcs_append (l k : List Px) : pxcs (l ++ k) = pxcs l ++ pxcs k := by simp [pxcs]
theorem pxcs_length (l : List Px) : (pxcs l).length = l.length * 4 := by
  induction l with
  | nil => rfl
  | cons x l ih =>
    have e : pxcs (x :: l) = pxc x ++ pxcs l := by simp [pxcs]
    rw [e, List.length_append, ih, List.length_cons]
    simp [pxc]
    omega
theorem pxcs_at (l : List Px) : ∀ (i j : Nat), i < l.length → j < 4 → (pxcs l)[i * 4 + j]? = (pxc (l.getD i px0))[j]? := by
  induction l with
  | nil => intro i j h; simp at h
  | cons x l ih =>
    intro i j hi hj
    have e : pxcs (x :: l) = pxc x ++ pxcs l := by simp [pxcs]
    have e4 : (pxc x).length = 4 := rfl
    rw [e]
    cases i with
    | zero =>
      rw [List.getElem?_append_left (by rw [e4]; omega), Nat.zero_mul, Nat.zero_add]
      rfl
    | succ i =>
      rw [List.getElem?_append_right (by rw [e4]; omega), e4, show (i + 1) * 4 + j - 4 = i * 4 + j from by omega]
      have := ih i j (by simpa using hi) hj
      rw [this]
      simp [List.getD]
/-- Prefixes in a row of one's own. -/
structure Po (w : World) (base : Nat) (v : Value) (l : List Px) : Prop where
  own : w.ownsRow base 121 4 v l.length (pxcs l)
  ok : ∀ x ∈ l, x.ok
theorem Po.nil (w : World) (base : Nat) : Po w base (.slice none 0 0) [] := ⟨World.ownsRow_nil _ _ _ _, by simp⟩
theorem wpList_px {w : World} {ops : Array Oper} {rest : List Oper} {o : Oper} {act : Act} {Q : Exit → Act → World → Prop} (hgd : o.guard = none) (s x : Operand)
    (ho : o.op = .call { callee := .builtin .append, args := #[s, x], argTypes := #[55, 55] })
    (base : Nat) (v : Value) (l : List Px) (hs : act.eval s = v) (hown : Po w base v l) (g : Nat) (y : Px) (hx : act.eval x = .slice (some ⟨g, 0, none⟩) 1 1)
    (hg : w.heap[g]? = some (.cells #[.int .i64 y.F, .int .u64 y.H, .int .u64 y.L, .int .i64 y.B] 121 (0, 0))) (hy : y.ok) (hlen : l.length ≤ 1000000) (hbase : base ≤ w.heap.size)
    (h : ∀ v' w', Po w' base v' (l ++ [y]) → w.grownBy w' v.ownBlock → wpList Tryz.prog ops Q rest (act.put o.dst v') w') : wpList Tryz.prog ops Q (o :: rest) act w := by
  obtain ⟨i, hi, hz0, hz1, hz2⟩ := info_parts infoP
  refine wpList_append_own _ hgd s x 55 ho base 121 i _ 4 32 Tryz.underlying55 hi hz0 hz1 hz2 rfl (by decide) v l.length (pxcs l) hs hown.own ⟨g, 0, none⟩ 1 1 (pxc y) hx rfl ?c1 ?c2 (by unfold maxLen; omega) (by omega) hbase ?_
  case c1 =>
    intro j u hj
    rw [Addr.add_lit, Nat.zero_add, cell_of_row w g j _ _ (0, 0) hg]
    exact (List.getElem?_toArray (xs := pxc y) (i := j)).trans hj
  case c2 =>
    intro u hu
    simp [pxc] at hu
    rcases hu with rfl | rfl | rfl | rfl <;> rfl
  intro v' w' h1 h2 _
  refine h v' w' ⟨?_, fun z hz => ?_⟩ h2
  · rw [List.length_append, List.length_singleton, pxcs_append]
    simpa [pxcs] using h1
  · rcases List.mem_append.1 hz with hz | hz
    · exact hown.ok z hz
    · rw [List.mem_singleton] at hz
      subst hz
      exact hy
theorem Po.ps {w : World} {base : Nat} {v : Value} {l : List Px} (h : Po w base v l) : ∃ a c, v = .slice a l.length c ∧ Ps w a l.length l ∧ l.length ≤ c ∧ c ≤ maxLen ∧ (a = none → c = 0) := by
  obtain ⟨h1, h2⟩ := h.own
  rcases h2 with ⟨rfl, h0⟩ | ⟨g, cap, cur, rfl, hb, hg, hnc, hcm, hcs, ht⟩
  · refine ⟨none, 0, by rw [h0], ⟨rfl, h.ok, .inl h0⟩, by omega, by unfold maxLen; omega, fun _ => rfl⟩
  · refine ⟨_, cap, rfl, ⟨rfl, h.ok, .inr ⟨g, 0, rfl, fun i hi => ?_⟩⟩, hnc, hcm, fun e => by cases e⟩
    have key : ∀ j, j < 4 → w.cell? ⟨g, 0 + i * 4 + j, none⟩ = (pxc (l.getD i px0))[j]? := fun j hj => by
      rw [cell_of_row w g _ _ _ (0, 0) hg, ← pxcs_at l i j hi hj, ← ht, List.getElem?_take, if_pos (by omega)]
      simp
    exact ⟨key 0 (by omega), key 1 (by omega), key 2 (by omega), key 3 (by omega)⟩
theorem Po.bel {w w' : World} {base : Nat} {v : Value} {l : List Px} (h : Po w base v l) (hb : Below w.heap.size w w') : Po w' base v l := ⟨own_bel h.own hb, h.ok⟩
set_option maxHeartbeats 1000000 in
/-- The document's Prefixes: the same prefixes in new memory. -/
theorem refPrefixes_ (pa : Option Addr) (n d : Nat) (ps : List Px) (w : World) (hp : Ps w pa n ps) (hn : n ≤ 1000000) :
    Calls Tryz.prog 85 #[.slice pa n d] w fun e w' => ∃ v, e = .returned v ∧ Po w' w.heap.size v ps ∧ Below w.heap.size w w' := by
  have hl := hp.len
  have HP := hid hp
  clear hp
  go_enter Tryz.func85, Tryz.ntmps85
  go_wp2_with fail
  go_loopw [3, 4] (fun v i wr => ∃ j : Nat, j ≤ n ∧ i = .int .i64 j ∧ Hid (Po wr w.heap.size v (ps.take j)) ∧ Hid (Bw w wr)) (fun _ i _ => n - (intOf i).toNat)
  case atStart => exact ⟨0, by omega, rfl, by rw [List.take_zero]; exact Po.nil _ _, Below.refl _ _⟩
  case round =>
    obtain ⟨j, hj, rfl, HO, HB⟩ := hrel
    by_cases hlt : j < n
    · have hjI : (j : Int) < n := by omega
      obtain ⟨b, off, rfl, hc⟩ : ∃ b off, pa = some ⟨b, off, none⟩ ∧ ∀ i, i < n → Pc wr b (off + i * 4) (ps.getD i px0) := by
        rcases (HP.out.on HB.out).at' with h0 | h1
        · omega
        · exact h1
      have c0 := (hc j hlt).c0
      have c1 := (hc j hlt).c1
      have c2 := (hc j hlt).c2
      have c3 := (hc j hlt).c3
      have HE : Hid (ps.take (j + 1) = ps.take j ++ [ps.getD j px0] ∧ (ps.getD j px0).ok) := by
        have e : ps.getD j px0 = ps[j]'(by omega) := by simp [List.getD, show j < ps.length by omega]
        rw [e]
        exact ⟨List.take_succ_eq_append_getElem (by omega), HP.out.ok _ (List.getElem_mem _)⟩
      obtain ⟨x, HX⟩ : ∃ x, Hid (ps.getD j px0 = x) := ⟨_, rfl⟩
      rw [HX.out] at c0 c1 c2 c3 HE
      have HSZ : Hid ((ps.take j).length ≤ 1000000) := by show _ ≤ _; rw [List.length_take]; omega
      obtain ⟨L, HL⟩ : ∃ L, Hid (ps.take j = L) := ⟨_, rfl⟩
      rw [HL.out] at HO HE HSZ
      obtain ⟨xF, xH, xL, xB⟩ := x
      simp only at c0 c1 c2 c3
      clear hc
      have HOA := hid (HO.out.bel (pnew wr xF xH xL xB))
      have HBA : Hid (Bw w (wr.alloc (.cells #[.int .i64 xF, .int .u64 xH, .int .u64 xL, .int .i64 xB] 121))) := HB.out.on (pnew wr xF xH xL xB)
      have HM := hid (Pm.new wr xF xH xL xB)
      have HS2 : Hid (w.heap.size ≤ (wr.alloc (.cells #[.int .i64 xF, .int .u64 xH, .int .u64 xL, .int .i64 xB] 121)).heap.size) := Below.size HBA.out
      go_wp2_with (at_builtin; refine wpList_px rfl _ _ rfl w.heap.size _ L rfl (by exact HOA.out) wr.heap.size ⟨xF, xH, xL, xB⟩ rfl (by exact HM.out) (by exact HE.out.2) (by exact HSZ.out) (by exact HS2.out) ?_; intro v5 w5 o5 g5; have HO5 := hid o5; have HG5 := hid g5; clear o5 g5)
      have HO6 : Hid (Po w5 w.heap.size v5 (ps.take (j + 1))) := by rw [HE.out.1]; exact HO5.out
      have HB5 : Hid (Bw w w5) := Below.grown HBA.out HG5.out (by exact HS2.out) (fun p hp => (HO.out.own.lt p hp).1)
      clear HO5 HG5 HOA HBA c0 c1 c2 c3
      go_roundw
      case rel => exact ⟨j + 1, by omega, by go_num, HO6, HB5⟩
      case measure => simp [intOf]; omega
    · have hjI : ¬ (j : Int) < n := by omega
      obtain rfl : j = n := by omega
      rw [List.take_of_length_le (by omega)] at HO
      go_wp2_with fail
      go_ret
      exact ⟨_, rfl, HO.out, HB.out⟩
set_option maxHeartbeats 1000000 in
/-- The document's SamePrefixes, of two lists that read alike. -/
theorem samePrefixes_ (pa pb : Option Addr) (n d d' : Nat) (ps : List Px) (w : World) (hp : Ps w pa n ps) (hq : Ps w pb n ps) (hn : n ≤ 1000000) :
    Calls Tryz.prog 73 #[.slice pa n d, .slice pb n d'] w fun e w' => e = .returned (.bool true) ∧ Below w.heap.size w w' := by
  have hl := hp.len
  have HP := hid hp
  have HQ := hid hq
  clear hp hq
  go_enter Tryz.func73, Tryz.ntmps73
  go_wp2_with fail
  go_loopw [5] (fun i wr => ∃ j : Nat, j ≤ n ∧ i = .int .i64 j ∧ Hid (Bw w wr)) (fun i _ => n - (intOf i).toNat)
  case atStart => exact ⟨0, by omega, rfl, Below.refl _ _⟩
  case round =>
    obtain ⟨j, hj, rfl, HB⟩ := hrel
    by_cases hlt : j < n
    · have hjI : (j : Int) < n := by omega
      obtain ⟨b, off, rfl, hc⟩ : ∃ b off, pa = some ⟨b, off, none⟩ ∧ ∀ i, i < n → Pc wr b (off + i * 4) (ps.getD i px0) := by
        rcases (HP.out.on HB.out).at' with h0 | h1
        · omega
        · exact h1
      obtain ⟨b', off', rfl, hc'⟩ : ∃ b off, pb = some ⟨b, off, none⟩ ∧ ∀ i, i < n → Pc wr b (off + i * 4) (ps.getD i px0) := by
        rcases (HQ.out.on HB.out).at' with h0 | h1
        · omega
        · exact h1
      have c0 := (hc j hlt).c0
      have c1 := (hc j hlt).c1
      have c2 := (hc j hlt).c2
      have c3 := (hc j hlt).c3
      have e0 := (hc' j hlt).c0
      have e1 := (hc' j hlt).c1
      have e2 := (hc' j hlt).c2
      have e3 := (hc' j hlt).c3
      obtain ⟨x, HX⟩ : ∃ x, Hid (ps.getD j px0 = x) := ⟨_, rfl⟩
      rw [HX.out] at c0 c1 c2 c3 e0 e1 e2 e3
      obtain ⟨xF, xH, xL, xB⟩ := x
      simp only at c0 c1 c2 c3 e0 e1 e2 e3
      have ks := fun wx => samePrefix_ xF xH xL xB xF xH xL xB wx
      have hsp : spx xF xH xL xB xF xH xL xB = true := by unfold spx; simp
      rw [hsp] at ks
      clear hsp
      have A0 := hid c0
      have A1 := hid c1
      have A2 := hid c2
      have A3 := hid c3
      have B0 := hid e0
      have B1 := hid e1
      have B2 := hid e2
      have B3 := hid e3
      clear hc hc' c0 c1 c2 c3 e0 e1 e2 e3
      go_wp2_with fail
      refine wp_quietC (Bw wr) (by kernel_rfl) (by kernel_rfl) (Bw.drew wr) ?_
      repeat (first | go_big_quiet_skip | (go_big_quiet_want; go_big_quiet_op; first | go_big_quiet_on | (apply Exists.intro; refine ⟨fun wq hq => ?_, ?_⟩; (· first | (with_reducible rfl) | (go_at_call 113; exact (ks _).mono fun _ _ h => ⟨h.1, hq.on h.2⟩) | (have q1 := hq.cell A0.out; have q2 := hq.cell A1.out; have q3 := hq.cell A2.out; have q4 := hq.cell A3.out; have q5 := hq.cell B0.out; have q6 := hq.cell B1.out; have q7 := hq.cell B2.out; have q8 := hq.cell B3.out; go_simp; rfl) | rfl); go_big_quiet_on)))
      refine wpQuiet_nil ?_
      intro w3 s3
      have HB3 := hid (Bw.on HB.out s3)
      clear s3
      go_wp2_with fail
      go_roundw
      case rel => exact ⟨j + 1, by omega, by go_num, HB3⟩
      case measure => simp [intOf]; omega
    · have hjI : ¬ (j : Int) < n := by omega
      go_wp2_with fail
      go_ret
      exact ⟨rfl, HB.out⟩
/-- A peer in a variable. -/
def Pe (w : World) (g : Nat) (K : Int) (ka : Option Addr) (m c : Nat) (pa : Option Addr) (n d : Nat) : Prop := w.heap[g]? = some (.cells #[.int .i64 K, .slice ka m c, .slice pa n d] 57 (0, 0))
section
variable {w w' : World} {g : Nat} {K : Int} {ka pa : Option Addr} {m c n d : Nat}
theorem Pe.c0 (h : Pe w g K ka m c pa n d) : w.cell? ⟨g, 0, none⟩ = some (.int .i64 K) := (cell_of_row w g 0 _ _ (0, 0) h).trans rfl
theorem Pe.c1 (h : Pe w g K ka m c pa n d) : w.cell? ⟨g, 1, none⟩ = some (.slice ka m c) := (cell_of_row w g 1 _ _ (0, 0) h).trans rfl
theorem Pe.c2 (h : Pe w g K ka m c pa n d) : w.cell? ⟨g, 2, none⟩ = some (.slice pa n d) := (cell_of_row w g 2 _ _ (0, 0) h).trans rfl
theorem Pe.lt (h : Pe w g K ka m c pa n d) : g < w.heap.size := (Array.getElem?_eq_some_iff.1 h).1
theorem Pe.at (h : Pe w g K ka m c pa n d) (e : w'.heap[g]? = w.heap[g]?) : Pe w' g K ka m c pa n d := by unfold Pe at *; rw [e]; exact h
theorem Pe.kept (h : Pe w g K ka m c pa n d) (hb : Below w.heap.size w w') : Pe w' g K ka m c pa n d := h.at (hb.block g h.lt)
theorem Pe.fz (h : Pe w g K ka m c pa n d) (i : Nat) : w.frozen? ⟨g, i, none⟩ = false := by unfold Pe at h; simp [World.frozen?, h]
theorem Pe.new (w : World) (K : Int) (ka : Option Addr) (m c : Nat) (pa : Option Addr) (n d : Nat) : Pe (w.alloc (.cells #[.int .i64 K, .slice ka m c, .slice pa n d] 57)) w.heap.size K ka m c pa n d := heap_alloc_new w _
theorem Pe.s0 (h : Pe w g K ka m c pa n d) (K' : Int) : Pe (w.setCell ⟨g, 0, none⟩ (.int .i64 K')) g K' ka m c pa n d := by unfold Pe at *; simp [World.setCell, Array.getElem?_modify, h]
theorem Pe.s1 (h : Pe w g K ka m c pa n d) (a : Option Addr) (m' c' : Nat) : Pe (w.setCell ⟨g, 1, none⟩ (.slice a m' c')) g K a m' c' pa n d := by unfold Pe at *; simp [World.setCell, Array.getElem?_modify, h]
theorem Pe.s2 (h : Pe w g K ka m c pa n d) (a : Option Addr) (n' d' : Nat) : Pe (w.setCell ⟨g, 2, none⟩ (.slice a n' d')) g K ka m c a n' d' := by unfold Pe at *; simp [World.setCell, Array.getElem?_modify, h]
end
theorem sizepe : (Tryz.prog.info? 57).map (·.size) = some 3 := by kernel_rfl
theorem wpList_spe {ops : Array Oper} {rest : List Oper} {o : Oper} {act : Act} {w : World} {Q : Exit → Act → World → Prop} (hgd : o.guard = none) (hdst : o.dst = none) (x y : Operand) (ho : o.op = .store 57 x y)
    (g : Nat) (K : Int) (ka : Option Addr) (m c : Nat) (pa : Option Addr) (n d : Nat) (hx : act.eval x = .pointer (some ⟨g, 0, none⟩)) (hy : act.eval y = .agg #[.int .i64 K, .slice ka m c, .slice pa n d])
    {K0 : Int} {ka0 pa0 : Option Addr} {m0 c0 n0 d0 : Nat} (hg : Pe w g K0 ka0 m0 c0 pa0 n0 d0)
    (h : wpList Tryz.prog ops Q rest act (w.setRow g #[.int .i64 K, .slice ka m c, .slice pa n d])) : wpList Tryz.prog ops Q (o :: rest) act w := by
  refine wpList_store_row hgd _ x y ho g #[.int .i64 K, .slice ka m c, .slice pa n d] hx hy _ _ hg sizepe rfl (by simp [Value.oneCell']) ?_
  rw [hdst]
  exact h
theorem Pe.row {w : World} {g : Nat} {K0 : Int} {ka0 pa0 : Option Addr} {m0 c0 n0 d0 : Nat} (h : Pe w g K0 ka0 m0 c0 pa0 n0 d0) (K : Int) (ka : Option Addr) (m c : Nat) (pa : Option Addr) (n d : Nat) : Pe (w.setRow g #[.int .i64 K, .slice ka m c, .slice pa n d]) g K ka m c pa n d := setRow_heap w g _ _ _ _ h
theorem results_pe {fn : Func} {p u : Tmp} (h : fn.results = #[.cell p 57, .tmp u]) (tmps : Array Value) (w : World) (g : Nat) (K : Int) (ka : Option Addr) (m c : Nat) (pa : Option Addr) (n d : Nat) (v : Value)
    (hp : tmps.getD p undef = .pointer (some ⟨g, 0, none⟩)) (hv : tmps.getD u undef = v) (hm : Pe w g K ka m c pa n d) :
    (results fn tmps).run Tryz.prog w = .ok (.tuple #[.agg #[.int .i64 K, .slice ka m c, .slice pa n d], v]) w := by
  rw [results_cell_tmp h, hp, hv]
  have c0 := hm.c0
  have c1 := hm.c1
  have c2 := hm.c2
  go_simp
set_option maxHeartbeats 1000000 in
/-- The document's SamePeer, of two peers that read alike. -/
theorem samePeer_ (K : Int) (ka kb pa pb : Option Addr) (m c c' n d d' : Nat) (k : List Int) (ps : List Px) (w : World) (hk : Bs w ka m k) (hl : Bs w kb m k) (hp : Ps w pa n ps) (hq : Ps w pb n ps) (hm : m ≤ maxLen) (hn : n ≤ 1000000) :
    Calls Tryz.prog 35 #[.agg #[.int .i64 K, .slice ka m c, .slice pa n d], .agg #[.int .i64 K, .slice kb m c', .slice pb n d']] w fun e w' => e = .returned (.bool true) ∧ Below w.heap.size w w' := by
  have B0 : Below w.heap.size w ((w.alloc (.cells #[.int .i64 K, .slice ka m c, .slice pa n d] 57)).alloc (.cells #[.int .i64 K, .slice kb m c', .slice pb n d'] 57)) := ((Below.refl _ _).alloc (Nat.le_refl _) _).alloc (by simp) _
  have p0 : Pe ((w.alloc (.cells #[.int .i64 K, .slice ka m c, .slice pa n d] 57)).alloc (.cells #[.int .i64 K, .slice kb m c', .slice pb n d'] 57)) w.heap.size K ka m c pa n d := (Pe.new w K ka m c pa n d).kept ((Below.refl _ _).alloc (Nat.le_refl _) _)
  have p1 := Pe.new (w.alloc (.cells #[.int .i64 K, .slice ka m c, .slice pa n d] 57)) K kb m c' pb n d'
  rw [World.size_alloc] at p1
  have ks := same_d ka kb m c m c' k k _ (hk.below B0) (hl.below B0) hm hm
  rw [sameB_self] at ks
  have HB := hid B0
  have HP0 := hid p0
  have HP1 := hid p1
  have HP := hid (hp.on B0)
  have HQ := hid (hq.on B0)
  have a1 := p0.c1
  have b1 := p1.c1
  clear B0 p0 p1 hk hl hp hq
  go_enter Tryz.func35, Tryz.ntmps35
  go_wp2_with fail
  clear a1 b1
  refine ks.mono ?_
  rintro e w1 ⟨rfl, d1⟩
  have g1 := d1.below
  have HB1 := hid (bel_bel HB.out HB.out.size g1)
  have q0 := HP0.out.kept g1
  have q1 := HP1.out.kept g1
  have a2 := q0.c2
  have b2 := q1.c2
  have kt := samePrefixes_ pa pb n d d' ps w1 (HP.out.on g1) (HQ.out.on g1) hn
  have HP0 := hid q0
  have HP1 := hid q1
  clear d1 g1 q0 q1 ks HP HQ HB
  go_wp2_with fail
  clear a2 b2
  refine kt.mono ?_
  rintro e w2 ⟨rfl, g2⟩
  have HB2 := hid (bel_bel HB1.out HB1.out.size g2)
  have a0 := (HP0.out.kept g2).c0
  have b0 := (HP1.out.kept g2).c0
  clear kt g2 HP0 HP1 HB1
  go_wp2_with fail
  go_ret
  exact ⟨rfl, HB2.out⟩
end Go.Proofs.YtcbmgpmjnehjdaaGreat
namespace Go.Proofs.YtcbmgpmjnehjdaaGreat
set_option maxRecDepth 100000
open Go.RowKit
set_option linter.unusedVariables false

theorem three_set {w : World} {q : Nat} {x0 x1 x2 a b c : Value} {T : TypeId} (h : w.heap[q]? = some (.cells #[x0, x1, x2] T (0, 0))) : (((w.setCell ⟨q, 0, none⟩ a).setCell ⟨q, 1, none⟩ b).setCell ⟨q, 2, none⟩ c).heap[q]? = some (.cells #[a, b, c] T (0, 0)) := by
  simp [World.setCell, Array.getElem?_modify, h]
theorem three_other {w : World} {q j : Nat} {a b c : Value} (h : j ≠ q) : (((w.setCell ⟨q, 0, none⟩ a).setCell ⟨q, 1, none⟩ b).setCell ⟨q, 2, none⟩ c).heap[j]? = w.heap[j]? := by
  simp [World.setCell, Array.getElem?_modify, Ne.symm h]
theorem Ps.same {w w' : World} {a : Option Addr} {n : Nat} {ps : List Px} (h : Ps w a n ps) (hk : ∀ b off, a = some ⟨b, off, none⟩ → 0 < n → w'.heap[b]? = w.heap[b]?) : Ps w' a n ps := by
  refine ⟨h.len, h.ok, ?_⟩
  rcases h.at' with h0 | ⟨b, off, e, hc⟩
  · exact .inl h0
  · by_cases h0 : n = 0
    · exact .inl h0
    · have hb := hk b off e (by omega)
      have key : ∀ o, w'.cell? ⟨b, o, none⟩ = w.cell? ⟨b, o, none⟩ := fun o => World.cell?_of_block (w := w) (a := ⟨b, o, none⟩) hb
      exact .inr ⟨b, off, e, fun i hi => ⟨(key _).trans (hc i hi).c0, (key _).trans (hc i hi).c1, (key _).trans (hc i hi).c2, (key _).trans (hc i hi).c3⟩⟩
/-- Prefixes that can be read, in blocks of V. -/
structure Pv (w : World) (V : Nat → Prop) (a : Option Addr) (n c : Nat) (ps : List Px) : Prop where
  ps : Ps w a n ps
  nc : n ≤ c
  cm : c ≤ maxLen
  nil : a = none → c = 0
  lies : ∀ ad, a = some ad → 0 < n → V ad.block ∧ ad.block < w.heap.size
theorem Pv.step {w w' : World} {V : Nat → Prop} {a : Option Addr} {n c : Nat} {ps : List Px} (h : Pv w V a n c ps) (hk : ∀ x, x < w.heap.size → V x → w'.heap[x]? = w.heap[x]?) (hs : w.heap.size ≤ w'.heap.size) : Pv w' V a n c ps :=
  ⟨h.ps.same fun b off e hn => hk b (h.lies _ e hn).2 (h.lies _ e hn).1, h.nc, h.cm, h.nil, fun ad e hn => ⟨(h.lies ad e hn).1, Nat.lt_of_lt_of_le (h.lies ad e hn).2 hs⟩⟩
theorem Pv.wide {w : World} {V V' : Nat → Prop} {a : Option Addr} {n c : Nat} {ps : List Px} (h : Pv w V a n c ps) (hV : ∀ x, x < w.heap.size → V x → V' x) : Pv w V' a n c ps :=
  ⟨h.ps, h.nc, h.cm, h.nil, fun ad e hn => ⟨hV _ (h.lies ad e hn).2 (h.lies ad e hn).1, (h.lies ad e hn).2⟩⟩
theorem Pv.on {w w' : World} {V : Nat → Prop} {a : Option Addr} {n c : Nat} {ps : List Px} (h : Pv w V a n c ps) (hb : Below w.heap.size w w') : Pv w' V a n c ps := h.step (fun x hx _ => hb.block x hx) hb.size
theorem pv_none (w : World) (V : Nat → Prop) : Pv w V none 0 0 [] := ⟨⟨rfl, by simp, .inl rfl⟩, Nat.le_refl _, by unfold maxLen; omega, fun _ => rfl, fun ad e => by cases e⟩
theorem Po.pv {w : World} {base : Nat} {v : Value} {l : List Px} (h : Po w base v l) : ∃ a c, v = .slice a l.length c ∧ Pv w (fun x => base ≤ x) a l.length c l := by
  obtain ⟨a, c, rfl, hp, h1, h2, h3⟩ := h.ps
  refine ⟨a, c, rfl, hp, h1, h2, h3, fun ad e hn => ?_⟩
  subst e
  have := h.own.lt ad.block rfl
  exact this
set_option maxHeartbeats 1000000 in
/-- The document's Peer: the same peer in new memory. -/
theorem refPeer_ (K : Int) (ka pa : Option Addr) (m c n d : Nat) (k : List Int) (ps : List Px) (w : World) (hk : Bs w ka m k) (hp : Ps w pa n ps) (hm : m ≤ 140737488351232) (hn : n ≤ 1000000) :
    Calls Tryz.prog 43 #[.agg #[.int .i64 K, .slice ka m c, .slice pa n d]] w fun e w' => ∃ kb kc pb pc, e = .returned (.agg #[.int .i64 K, .slice kb m kc, .slice pb n pc]) ∧ Vs w' (fun x => w.heap.size ≤ x) kb m kc k ∧ Pv w' (fun x => w.heap.size ≤ x) pb n pc ps ∧ Below w.heap.size w w' := by
  have hl := hp.len
  have BA : Below w.heap.size w ((w.alloc (.cells #[.int .i64 K, .slice ka m c, .slice pa n d] 57)).alloc (.cells #[.int .i64 0, .slice none 0 0, .slice none 0 0] 57)) := ((Below.refl _ _).alloc (Nat.le_refl _) _).alloc (by simp) _
  have p0 : Pe ((w.alloc (.cells #[.int .i64 K, .slice ka m c, .slice pa n d] 57)).alloc (.cells #[.int .i64 0, .slice none 0 0, .slice none 0 0] 57)) w.heap.size K ka m c pa n d := (Pe.new w K ka m c pa n d).kept ((Below.refl _ _).alloc (Nat.le_refl _) _)
  have p1 := Pe.new (w.alloc (.cells #[.int .i64 K, .slice ka m c, .slice pa n d] 57)) 0 none 0 0 none 0 0
  rw [World.size_alloc] at p1
  have HBA := hid BA
  have HP1 := hid p1
  have HK := hid hk
  have HP := hid hp
  have HWS : Hid (((w.alloc (.cells #[.int .i64 K, .slice ka m c, .slice pa n d] 57)).alloc (.cells #[.int .i64 0, .slice none 0 0, .slice none 0 0] 57)).heap.size = w.heap.size + 2) := by show _ = _; simp
  have y0 := p0.c0
  have y1 := p0.c1
  have y2 := p0.c2
  clear BA p0 p1 hk hp
  generalize HW : ((w.alloc (.cells #[.int .i64 K, .slice ka m c, .slice pa n d] 57)).alloc (.cells #[.int .i64 0, .slice none 0 0, .slice none 0 0] 57)) = W at *
  have k1 := fun wx (h : Bw W wx) => refBytes ka m c k wx ((HK.out.below HBA.out).below h) hm
  have k2 := fun wx (h : Bw W wx) => refPrefixes_ pa n d ps wx ((HP.out.on HBA.out).on h) hn
  have BW0 : Bw W { W with drawn := W.drawn + 1 } := Bw.drew W
  go_enter Tryz.func43, Tryz.ntmps43
  go_wp2_with fail
  clear HW
  go_region_held (fun wx => wx.cell? ⟨w.heap.size, 0, none⟩ = some (.int .i64 K) ∧ wx.cell? ⟨w.heap.size, 1, none⟩ = some (.slice ka m c) ∧ wx.cell? ⟨w.heap.size, 2, none⟩ = some (.slice pa n d)) (go_keep) (first | (go_at_call 85; refine (k2 _ (by exact G2)).mono ?_; rintro en w3 ⟨v3, rfl, o3, g3⟩; have G3 := Bw.on G2 g3; have u3 := Bw.cell G3 y0; have u4 := Bw.cell G3 y1; have u5 := Bw.cell G3 y2; obtain ⟨a3, c3, rfl, pv3⟩ := o3.pv; rw [hl] at pv3; rw [hl]; have HO3 := hid pv3; have HG3 := hid g3; have P3 := HP1.out.kept G3; have z0 := P3.c0; have z1 := P3.c1; have z2 := P3.c2; have f0 := P3.fz 0; have f1 := P3.fz 1; have f2 := P3.fz 2; have HP3 := hid P3; clear pv3 o3 g3 P3) | (go_at_call 27; refine (k1 _ (by exact BW0)).mono ?_; rintro en w2 ⟨v2, rfl, o2, g2⟩; have G2 := Bw.on BW0 g2; have u0 := Bw.cell G2 y0; have u1 := Bw.cell G2 y1; have u2 := Bw.cell G2 y2; obtain ⟨a2, c2, rfl, vs2⟩ := Vs.ofOwn o2 HK.out.2.1; have HO2 := hid vs2; clear vs2 o2 g2))
  have HM4 := hid (three_set (a := .int .i64 K) (b := .slice a2 m c2) (c := .slice a3 n c3) HP3.out)
  have HB4 := hid ((((bel_bel HBA.out HBA.out.size G3).setCell (p := ⟨w.heap.size + 1, 0, none⟩) (Nat.le_succ _) (.int .i64 K)).setCell (p := ⟨w.heap.size + 1, 1, none⟩) (Nat.le_succ _) (.slice a2 m c2)).setCell (p := ⟨w.heap.size + 1, 2, none⟩) (Nat.le_succ _) (.slice a3 n c3))
  have HG2 := hid G2
  clear z0 z1 z2 f0 f1 f2 u0 u1 u2 u3 u4 u5 G2 G3 BW0 y0 y1 y2
  go_wp2_with fail
  refine bodyPost_ret (v := .agg #[.int .i64 K, .slice a2 m c2, .slice a3 n c3]) ?_ rfl ⟨a2, c2, a3, c3, rfl, ?_, ?_, HB4.out⟩
  · exact results_cell_row rfl _ _ (w.heap.size + 1) _ _ _ _ rfl HM4.out Tryz.underlying57 rfl sizepe
  · refine (((HO2.out.step fun x hx _ _ => HG3.out.block x hx).wide (V' := fun x => W.heap.size ≤ x) fun x _ hx => hx).step fun x _ hx _ => three_other (by have := HWS.out; omega)).wide fun x _ hx => by have := HWS.out; omega
  · refine ((HO3.out.wide (V' := fun x => W.heap.size ≤ x) fun x _ hx => by have := Below.size HG2.out; omega).step (fun x _ hx => three_other (by have := HWS.out; omega)) (by simp [World.setCell])).wide fun x _ hx => by have := HWS.out; omega
end Go.Proofs.YtcbmgpmjnehjdaaGreat
