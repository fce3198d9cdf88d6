import Derived.Test.YteeapmcpbmjpmaaGreatZL
import Derived.Test.YteeapmcpbmjpmaaGreatVQ
import Derived.Test.YteeapmcpbmjpmaaGreatXA
import Derived.Deep.RegionHeldLaw
import Derived.Deep.CutRange
namespace Go.Proofs.YteeapmcpbmjpmaaGreat
set_option maxRecDepth 100000
open Go.RowKit Go.Shelf Go.Maps
set_option linter.unusedVariables false

/-! The document's Change. -/
theorem dropD {A : Tab} {j : Nat} (h : j < A.length) {p : List Int × List Int} (hp : A.getD j ([], []) = p) : A.drop j = p :: A.drop (j + 1) := by
  rw [List.drop_eq_getElem_cons h]
  rw [← hp]
  simp [List.getD, h]
theorem getD_memT {A : Tab} {j : Nat} (h : j < A.length) : A.getD j ([], []) ∈ A := by
  rw [show A.getD j ([], []) = A[j] by simp [List.getD, h]]
  exact List.getElem_mem h
theorem same_eq {xs ys : List Int} (h : sameB xs ys = true) : xs = ys := by simpa [sameB] using h
theorem drop_none {A : Tab} {j : Nat} (h : A.length ≤ j) : A.drop j = [] := List.drop_eq_nil_of_le h
theorem mg_gn0 {A : Tab} {p : List Int × List Int} : mg (p :: A) [] = gn p :: mg A [] := by rw [mg]
theorem mg_gn1 {A B : Tab} {p q : List Int × List Int} (h : lx p.1 q.1 = true) : mg (p :: A) (q :: B) = gn p :: mg A (q :: B) := by rw [mg, if_pos h]
theorem mg_st0 {B : Tab} {q : List Int × List Int} : mg [] (q :: B) = st q :: mg [] B := by rw [mg]
theorem mg_st1 {A B : Tab} {p q : List Int × List Int} (h : lx p.1 q.1 = false) (h2 : lx q.1 p.1 = true) : mg (p :: A) (q :: B) = st q :: mg (p :: A) B := by rw [mg, if_neg (by rw [h]; decide), if_pos h2]
theorem mg_eq {A B : Tab} {p q : List Int × List Int} (h : lx p.1 q.1 = false) (h2 : lx q.1 p.1 = false) (h3 : p.2 = q.2) : mg (p :: A) (q :: B) = mg A B := by rw [mg, if_neg (by rw [h]; decide), if_neg (by rw [h2]; decide), if_pos h3]
theorem mg_ne {A B : Tab} {p q : List Int × List Int} (h : lx p.1 q.1 = false) (h2 : lx q.1 p.1 = false) (h3 : p.2 ≠ q.2) : mg (p :: A) (q :: B) = st q :: mg A B := by rw [mg, if_neg (by rw [h]; decide), if_neg (by rw [h2]; decide), if_neg h3]
theorem r_lessA {W wx : World} {a b : Option Addr} {n m : Nat} (c d : Nat) {xs ys : List Int} (q : Bool) (B : Bw W wx) (h1 : Bs W a n xs) (h2 : Bs W b m ys) (hn : n ≤ 1000000000) (hm : m ≤ 1000000000) (hq : lx xs ys = q) :
    Calls Tryz.prog 69 #[.slice a n c, .slice b m d] wx fun e w' => e = .returned (.bool q) ∧ Bw W w' := by
  refine (rless_any a b n c m d xs ys wx (h1.below B) (h2.below B) hn hm).mono ?_
  rintro e w1 ⟨rfl, nq, rfl⟩
  subst hq
  exact ⟨rfl, B.on (drawnN wx nq).below⟩
theorem r_sameA {W wx : World} {a b : Option Addr} {n m : Nat} (c d : Nat) {xs ys : List Int} (q : Bool) (B : Bw W wx) (h1 : Bs W a n xs) (h2 : Bs W b m ys) (hn : n ≤ 100000000) (hm : m ≤ 100000000) (hq : sameB xs ys = q) :
    Calls Tryz.prog 27 #[.slice a n c, .slice b m d] wx fun e w' => e = .returned (.bool q) ∧ Bw W w' := by
  refine (same_d a b n c m d xs ys wx (h1.below B) (h2.below B) (by unfold maxLen; omega) (by unfold maxLen; omega)).mono ?_
  rintro e w1 ⟨rfl, dr⟩
  subst hq
  exact ⟨rfl, B.on dr.below⟩
/-- A row of the document's table, in a later world. -/
structure Rx (w : World) (b off j m : Nat) (p : List Int × List Int) (ka va : Option Addr) (kc vc kn vn : Nat) : Prop where
  c0 : w.cell? ⟨b, off + j * 2, none⟩ = some (.slice ka kn kc)
  c1 : w.cell? ⟨b, off + j * 2 + 1, none⟩ = some (.slice va vn vc)
  k : Bs w ka kn p.1
  v : Bs w va vn p.2
  lt : b < m
  okk : Okb p.1
  okv : Okb p.2
  kl : kn ≤ 40
  vl : vn ≤ 480
theorem Rx.at {w : World} {V : Nat → Prop} {t j n c : Nat} {a : Option Addr} {M : Tab} (h : Dd w V t a n c M) (hT : Tok M) (hj : j < n) : ∃ b off ka va kc vc kn vn, a = some ⟨b, off, none⟩ ∧ Rx w b off j w.heap.size (M.getD j ([], [])) ka va kc vc kn vn := by
  rcases h.rl.cells with h0 | ⟨b, off, rfl, hb, hc⟩
  · omega
  obtain ⟨ka, kc, va, vc, c0, c1, v1, v2⟩ := hc j hj
  have hm : M.getD j ([], []) ∈ M := getD_memT (by rw [h.rl.len]; exact hj)
  have hk := hT.key _ hm
  have hv := hT.val _ hm
  exact ⟨b, off, ka, va, kc, vc, _, _, rfl, c0, c1, v1.bs, v2.bs, World.block_lt_of_cell? w _ c0, hk.1, hv.1, hk.2.2, hv.2⟩
theorem Rx.on {w w' : World} {b off j m : Nat} {p : List Int × List Int} {ka va : Option Addr} {kc vc kn vn : Nat} (h : Rx w b off j m p ka va kc vc kn vn) (hb : Below w.heap.size w w') : Rx w' b off j m p ka va kc vc kn vn :=
  ⟨(hb.cell (World.block_lt_of_cell? w _ h.c0)).trans h.c0, (hb.cell (World.block_lt_of_cell? w _ h.c1)).trans h.c1, h.k.below hb, h.v.below hb, h.lt, h.okk, h.okv, h.kl, h.vl⟩
/-- What Change answers. -/
def ChP (w : World) (l : List Sx) (e : Ending) (w' : World) : Prop := ∃ v ds, e = .returned v ∧ Sw w w' v ds ∧ ds.map (fun d => d.s) = l
set_option maxHeartbeats 8000000 in
/-- The document's Change. -/
theorem rchange_ (V U : Nat → Prop) (s t : Nat) (a1 a2 : Option Addr) (m1 c1 m2 c2 : Nat) (A B : Tab) (w : World) (h1 : Dd w V s a1 m1 c1 A) (h2 : Dd w U t a2 m2 c2 B) (hA : Tok A) (hB : Tok B) (l1 : m1 ≤ 10000000) (l2 : m2 ≤ 10000000) :
    Calls Tryz.prog 57 #[.pointer (some ⟨s, 0, none⟩), .pointer (some ⟨t, 0, none⟩)] w (ChP w (chg A B)) := by
  have hmx : Tryz.prog.follows .mixedOrders = true := by kernel_rfl
  have HF : Hid (mg A B = chg A B) := mg_chg A B hA.srt hB.srt
  have HML := hid (mg_len A B)
  have HL1 : Hid (A.length = m1) := h1.rl.len
  have HL2 : Hid (B.length = m2) := h2.rl.len
  have HR1 := hid (fun j (hj : j < m1) => Rx.at h1 hA hj)
  have HR2 := hid (fun j (hj : j < m2) => Rx.at h2 hB hj)
  have ls := (Array.getElem?_eq_some_iff.1 h1.var).1
  have lt := (Array.getElem?_eq_some_iff.1 h2.var).1
  have HC1 := hid h1.cell
  have HC2 := hid h2.cell
  clear h1 h2 hA hB
  go_enter Tryz.func57, Tryz.ntmps57
  go_wp2_with fail
  go_loopw [5, 6, 7] (fun v i k wr => ∃ (j1 j2 : Nat) (ds : List SD), j1 ≤ m1 ∧ j2 ≤ m2 ∧ i = .int .i64 j1 ∧ k = .int .i64 j2 ∧ Hid (Sw w wr v ds) ∧ Hid (ds.map (·.s) ++ mg (A.drop j1) (B.drop j2) = mg A B)) (fun _ i k _ => (m1 - (intOf i).toNat) + (m2 - (intOf k).toNat))
  case atStart => exact ⟨0, 0, [], by omega, by omega, rfl, rfl, ⟨World.ownsRow_nil _ _ _ _, fun d hd => by simp at hd, Below.refl _ _⟩, by show _ = _; simp⟩
  case round =>
    obtain ⟨j1, j2, ds, hj1, hj2, rfl, rfl, HS, HE⟩ := hrel
    have cs := (HS.out.bel.cell (p := ⟨s, 0, none⟩) ls).trans HC1.out
    have ct := (HS.out.bel.cell (p := ⟨t, 0, none⟩) lt).trans HC2.out
    have HDL : Hid (ds.length ≤ 20000000) := by
      show _ ≤ _
      have h := congrArg List.length HE.out
      rw [List.length_append, List.length_map] at h
      have := HML.out
      have := HL1.out
      have := HL2.out
      omega
    obtain ⟨n', HN'⟩ : ∃ z, Hid (ds.length + 1 = z) := ⟨_, rfl⟩
    obtain ⟨v, HVV⟩ : ∃ z, Hid (u5 = z) := ⟨_, rfl⟩
    obtain rfl := HVV.out
    clear HVV
    have ROW1 : Hid (j1 < m1 → ∃ b off ka va kc vc kn vn, a1 = some ⟨b, off, none⟩ ∧ Rx wr b off j1 w.heap.size (A.getD j1 ([], [])) ka va kc vc kn vn) := fun hj => by
      obtain ⟨b, off, ka, va, kc, vc, kn, vn, e, h⟩ := HR1.out j1 hj
      exact ⟨b, off, ka, va, kc, vc, kn, vn, e, ⟨(HS.out.bel.cell h.lt).trans h.c0, (HS.out.bel.cell h.lt).trans h.c1, h.k.below HS.out.bel, h.v.below HS.out.bel, h.lt, h.okk, h.okv, h.kl, h.vl⟩⟩
    have ROW2 : Hid (j2 < m2 → ∃ b off ka va kc vc kn vn, a2 = some ⟨b, off, none⟩ ∧ Rx wr b off j2 w.heap.size (B.getD j2 ([], [])) ka va kc vc kn vn) := fun hj => by
      obtain ⟨b, off, ka, va, kc, vc, kn, vn, e, h⟩ := HR2.out j2 hj
      exact ⟨b, off, ka, va, kc, vc, kn, vn, e, ⟨(HS.out.bel.cell h.lt).trans h.c0, (HS.out.bel.cell h.lt).trans h.c1, h.k.below HS.out.bel, h.v.below HS.out.bel, h.lt, h.okk, h.okv, h.kl, h.vl⟩⟩
    by_cases e1 : j1 < m1
    case neg =>
      by_cases e2 : j2 < m2
      case neg =>
        have i1 : ¬ (j1 : Int) < m1 := by omega
        have i2 : ¬ (j2 : Int) < m2 := by omega
        have HFF : Hid (ds.map (·.s) = chg A B) := by
          have h := HE.out
          rw [drop_none (by rw [HL1.out]; omega), drop_none (by rw [HL2.out]; omega), mg, List.append_nil] at h
          show _ = _
          rw [h, HF.out]
        go_wp2_with fail
        go_ret
        exact ⟨_, ds, rfl, HS.out, HFF.out⟩
      case pos =>
        have i1 : ¬ (j1 : Int) < m1 := by omega
        have i2 : (j2 : Int) < m2 := by omega
        have n2 : ((j2 : Int) == m2) = false := by rw [beq_eq_false_iff_ne]; omega
        have n1 : ((j1 : Int) == m1) = true := by rw [beq_iff_eq]; omega
        have HJ1 : Hid (A.drop j1 = []) := drop_none (by rw [HL1.out]; omega)
        obtain ⟨b', off', ka', va', kc', vc', kn', vn', rfl, R2⟩ := ROW2.out e2
        obtain ⟨q, HQ⟩ : ∃ q, Hid (B.getD j2 ([], []) = q) := ⟨_, rfl⟩
        rw [HQ.out] at R2
        have HR' := hid R2
        have HD2 : Hid (B.drop j2 = q :: B.drop (j2 + 1)) := dropD (by rw [HL2.out]; exact e2) HQ.out
        clear R2
        go_wp2_with fail
        refine wp_quietC (Bw wr) hmx (by kernel_rfl) (Bw.drew wr) ?_
        repeat (first | go_big_quiet_skip | (go_big_quiet_want; go_big_quiet_op; first | go_big_quiet_on | (apply Exists.intro; refine ⟨fun wq hq => ?_, ?_⟩; (· first | (with_reducible rfl) | fail | (have q8 := hq.cell cs; have q9 := hq.cell ct; have q2 := hq.cell HR'.out.c0; have q3 := hq.cell HR'.out.c1; go_simp; rfl) | rfl); go_big_quiet_on)))
        refine wpQuiet_nil ?_
        intro w1 s1
        have HS1 := hid (HS.out.below s1)
        have cs1 := Bw.cell s1 cs
        have ct1 := Bw.cell s1 ct
        have HRB := hid (HR'.out.on s1)
        clear s1 cs ct HS HR'
        have HS := HS1
        have cs := cs1
        have ct := ct1
        have HR' := HRB
        clear HS1 cs1 ct1 HRB
        go_wp2_with fail
        refine wp_quietC (Bw w1) hmx (by kernel_rfl) (Bw.drew w1) ?_
        repeat (first | go_big_quiet_skip | (go_big_quiet_want; go_big_quiet_op; first | go_big_quiet_on | (apply Exists.intro; refine ⟨fun wq hq => ?_, ?_⟩; (· first | (with_reducible rfl) | fail | (have q8 := hq.cell cs; have q9 := hq.cell ct; have q2 := hq.cell HR'.out.c0; have q3 := hq.cell HR'.out.c1; go_simp; rfl) | rfl); go_big_quiet_on)))
        refine wpQuiet_nil ?_
        intro w2 s1
        have HS1 := hid (HS.out.below s1)
        have cs1 := Bw.cell s1 cs
        have ct1 := Bw.cell s1 ct
        have HRB := hid (HR'.out.on s1)
        clear s1 cs ct HS HR'
        have HS := HS1
        have cs := cs1
        have ct := ct1
        have HR' := HRB
        clear HS1 cs1 ct1 HRB
        have E0 := hid HR'.out.c0
        have E1 := hid HR'.out.c1
        have x0 := HR'.out.c0
        have x1 := HR'.out.c1
        have HBL : Hid (b' < w2.heap.size) := Nat.lt_of_lt_of_le HR'.out.lt HS.out.bel.size
        have HTL : Hid (t < w2.heap.size) := Nat.lt_of_lt_of_le lt HS.out.bel.size
        have HBO : Hid (b' < w.heap.size) := HR'.out.lt
        have k1 := fun wx (y : Bs wx ka' kn' q.1) => refBytes ka' kn' kc' q.1 wx y (by have := HR'.out.kl; omega)
        have k2 := fun wx (y : Bs wx va' vn' q.2) => refBytes va' vn' vc' q.2 wx y (by have := HR'.out.vl; omega)
        have H1 := hid HR'.out.k
        have H2 := hid HR'.out.v
        have HOK1 := hid HR'.out.okk
        have HOK2 := hid HR'.out.okv
        have HKN : Hid (q.1.length = kn') := HR'.out.k.1
        have HXN : Hid (q.2.length = vn') := HR'.out.v.1
        go_wp2_with fail
        go_region_held_law (fun wx => wx.cell? ⟨t, 0, none⟩ = some (.slice (some ⟨b', off', none⟩) m2 c2) ∧ wx.cell? ⟨b', off' + j2 * 2, none⟩ = some (.slice ka' kn' kc') ∧ wx.cell? ⟨b', off' + j2 * 2 + 1, none⟩ = some (.slice va' vn' vc')) (go_keep) (first
          | (go_simp; go_at_call 44; have HQ2 := G1; refine (k2 _ (by exact H2.out.below HQ2.out)).mono ?_; rintro e w5 ⟨v3, rfl, o3, g3⟩; obtain ⟨a3, c3, hv3, vs3⟩ := Vs.ofOwn o3 HOK2.out; subst hv3; have HB3 : Hid (Below w2.heap.size w2 w5) := (bel_bel HQ2.out HQ2.out.size g3); have z0 := (HB3.out.cell (p := ⟨t, 0, none⟩) HTL.out).trans ct; have z1 := (HB3.out.cell (p := ⟨b', off' + j2 * 2, none⟩) HBL.out).trans E0.out; have z2 := (HB3.out.cell (p := ⟨b', off' + j2 * 2 + 1, none⟩) HBL.out).trans E1.out; have HVK3 := hid (HVK.out.step fun x hx _ _ => g3.block x hx); have HVU3 := hid (vs3.wide (V' := fun x => w2.heap.size ≤ x) fun x _ h => Nat.le_trans HQ2.out.size h); clear o3 g3 vs3 G1 HVK)
          | (go_simp; go_at_call 44; refine (k1 _ (by exact H1.out)).mono ?_; rintro e w4 ⟨v2, rfl, o2, g2⟩; obtain ⟨a2', c2', hv2, vs2⟩ := Vs.ofOwn o2 HOK1.out; subst hv2; have G1 : Hid (Below w2.heap.size w2 w4) := (⟨g2.os, g2.tape, g2.output, g2.size, g2.block⟩ : Below w2.heap.size w2 w4); have y0 := (G1.out.cell (p := ⟨t, 0, none⟩) HTL.out).trans ct; have y1 := (G1.out.cell (p := ⟨b', off' + j2 * 2, none⟩) HBL.out).trans E0.out; have y2 := (G1.out.cell (p := ⟨b', off' + j2 * 2 + 1, none⟩) HBL.out).trans E1.out; have HVK : Hid (Vs w4 (fun x => w2.heap.size ≤ x) a2' kn' c2' q.1) := vs2; clear o2 g2 vs2)
          | (refine step_appSet (by rfl) (.tmp 148) (.tmp 168) (by rfl) w.heap.size u5 ds (by rfl) (by exact (own_bel HS.out.own HB3.out).alloc _) w5.heap.size ⟨a2', c2', a3, c3, ⟨q.1, q.2, false⟩⟩ (by rfl) (by exact fun j u hj => by simp only [sdc, HKN.out, HXN.out] at hj; rw [cell_of_row _ w5.heap.size j _ 44 (0, 0) (heap_alloc_new w5 _)]; simpa using hj) (by have := HDL.out; omega) (by have := HS.out.bel.size; have := HB3.out.size; simp; omega) n' HN' ?_; intro g6 cap6 w6 HO6 HG6 HL6; have HOLD : Hid (∀ x, x < w.heap.size → w6.heap[x]? = w2.heap[x]?) := (fun x hx => (HG6.out.block x (by have := HS.out.bel.size; have := HB3.out.size; simp; omega) (fun e => by have := (World.ownsRow.lt HS.out.own x e.symm).1; omega)).trans ((Below.heap_alloc w5 _ x (by have := HS.out.bel.size; have := HB3.out.size; omega)).trans (HB3.out.block x (by have := HS.out.bel.size; omega)))); have z0 := (World.cell?_of_block (w := w2) (w' := w6) (a := ⟨t, 0, none⟩) (HOLD.out t lt)).trans ct; have z1 := (World.cell?_of_block (w := w2) (w' := w6) (a := ⟨b', off' + j2 * 2, none⟩) (HOLD.out b' HBO.out)).trans E0.out; have z2 := (World.cell?_of_block (w := w2) (w' := w6) (a := ⟨b', off' + j2 * 2 + 1, none⟩) (HOLD.out b' HBO.out)).trans E1.out; clear HOLD))
        all_goals
          have HVD : Hid (SV w5 (fun x => w.heap.size ≤ x ∧ u5.ownBlock ≠ some x) ⟨a2', c2', a3, c3, ⟨q.1, q.2, false⟩⟩) := ⟨by show Vs _ _ _ q.1.length _ _; rw [HKN.out]; exact HVK3.out.wide fun x _ hx => ⟨Nat.le_trans HS.out.bel.size hx, fun y => by have := (World.ownsRow.lt HS.out.own x y).2; omega⟩, by show Vs _ _ _ q.2.length _ _; rw [HXN.out]; exact HVU3.out.wide fun x _ hx => ⟨Nat.le_trans HS.out.bel.size hx, fun y => by have := (World.ownsRow.lt HS.out.own x y).2; omega⟩⟩
          have HS6 := hid ((HS.out.below HB3.out).app HVD.out HO6.out HG6.out (HL6.out.elim (fun e => .inl e.symm) (fun e => .inr (by rw [e]; rfl))))
          have HE6 : Hid ((ds ++ [(⟨a2', c2', a3, c3, ⟨q.1, q.2, false⟩⟩ : SD)]).map (·.s) ++ mg (A.drop (j1)) (B.drop (j2 + 1)) = mg A B) := by
            show _ = _
            rw [← HE.out, HJ1.out, HD2.out, mg_st0]
            simp [st]
          clear HO6 HG6 HL6 HVK3 HVU3 HB3 z0 z1 z2 k1 k2 HVD x0 x1
          go_wp2_with fail
          go_roundw
          case rel => exact ⟨j1, j2 + 1, _, by omega, by omega, rfl, by go_num, HS6, HE6⟩
          case measure => simp [intOf]; omega
    have i1 : (j1 : Int) < m1 := by omega
    have n1 : ((j1 : Int) == m1) = false := by rw [beq_eq_false_iff_ne]; omega
    obtain ⟨b, off, ka, va, kc, vc, kn, vn, rfl, R1⟩ := ROW1.out e1
    obtain ⟨p, HP⟩ : ∃ p, Hid (A.getD j1 ([], []) = p) := ⟨_, rfl⟩
    rw [HP.out] at R1
    have HR := hid R1
    have HD1 : Hid (A.drop j1 = p :: A.drop (j1 + 1)) := dropD (by rw [HL1.out]; exact e1) HP.out
    clear R1
    by_cases e2 : j2 < m2
    case neg =>
      have i2 : ¬ (j2 : Int) < m2 := by omega
      have n2 : ((j2 : Int) == m2) = true := by rw [beq_iff_eq]; omega
      have HJ2 : Hid (B.drop j2 = []) := drop_none (by rw [HL2.out]; omega)
      go_wp2_with fail
      refine wp_quietC (Bw wr) hmx (by kernel_rfl) (Bw.drew wr) ?_
      repeat (first | go_big_quiet_skip | (go_big_quiet_want; go_big_quiet_op; first | go_big_quiet_on | (apply Exists.intro; refine ⟨fun wq hq => ?_, ?_⟩; (· first | (with_reducible rfl) | fail | (have q8 := hq.cell cs; have q9 := hq.cell ct; have q0 := hq.cell HR.out.c0; have q1 := hq.cell HR.out.c1; go_simp; rfl) | rfl); go_big_quiet_on)))
      refine wpQuiet_nil ?_
      intro w1 s1
      have HS1 := hid (HS.out.below s1)
      have cs1 := Bw.cell s1 cs
      have ct1 := Bw.cell s1 ct
      have HRA := hid (HR.out.on s1)
      clear s1 cs ct HS HR
      have HS := HS1
      have cs := cs1
      have ct := ct1
      have HR := HRA
      clear HS1 cs1 ct1 HRA
      have c0 := HR.out.c0
      have k1 := refBytes ka kn kc p.1 w1 HR.out.k (by have := HR.out.kl; omega)
      go_wp2_with fail
      refine k1.mono ?_
      rintro e w4 ⟨z4, rfl, o4, g4⟩
      obtain ⟨a4, c4, rfl, vs4⟩ := Vs.ofOwn o4 HR.out.okk
      have HG4 : Hid (Below w1.heap.size w1 w4) := ⟨g4.os, g4.tape, g4.output, g4.size, g4.block⟩
      have HSA := hid (HS.out.below HG4.out)
      have HKN : Hid (p.1.length = kn) := HR.out.k.1
      have HV4 : Hid (SV w4 (fun x => w.heap.size ≤ x ∧ u5.ownBlock ≠ some x) ⟨a4, c4, none, 0, ⟨p.1, [], true⟩⟩) := ⟨by show Vs _ _ _ p.1.length _ _; rw [HKN.out]; exact vs4.wide fun x _ hx => ⟨Nat.le_trans HS.out.bel.size hx, fun q => by have := (World.ownsRow.lt HS.out.own x q).2; omega⟩, ⟨rfl, fun z hz => by simp at hz, .inl rfl⟩, Nat.le_refl _, Nat.zero_le _, fun _ => rfl, fun ad e _ => by cases e⟩
      clear k1 o4 g4 vs4 c0
      go_wp2_with (at_builtin; refine wpList_appSet rfl _ _ rfl w.heap.size u5 ds rfl (by exact HSA.out.own.alloc _) w4.heap.size ⟨a4, c4, none, 0, ⟨p.1, [], true⟩⟩ rfl (by exact fun j u hj => by simp only [sdc, HKN.out] at hj; rw [cell_of_row _ w4.heap.size j _ 44 (0, 0) (heap_alloc_new w4 _)]; simpa using hj) (by have := HDL.out; omega) (by have := HSA.out.bel.size; simp; omega) ?_; intro v6 w6 ho6 hg6 hl6; have HS6 := hid (HSA.out.app HV4.out ho6 hg6 hl6); clear ho6 hg6 hl6)
      have HE6 : Hid ((ds ++ [(⟨a4, c4, none, 0, ⟨p.1, [], true⟩⟩ : SD)]).map (·.s) ++ mg (A.drop (j1 + 1)) (B.drop j2) = mg A B) := by
        show _ = _
        rw [← HE.out, HD1.out, HJ2.out, mg_gn0]
        simp [gn]
      go_wp2_with fail
      go_roundw
      case rel => exact ⟨j1 + 1, j2, _, by omega, hj2, by go_num, rfl, HS6, HE6⟩
      case measure => simp [intOf]; omega
    have i2 : (j2 : Int) < m2 := by omega
    have n2 : ((j2 : Int) == m2) = false := by rw [beq_eq_false_iff_ne]; omega
    obtain ⟨b', off', ka', va', kc', vc', kn', vn', rfl, R2⟩ := ROW2.out e2
    obtain ⟨q, HQ⟩ : ∃ q, Hid (B.getD j2 ([], []) = q) := ⟨_, rfl⟩
    rw [HQ.out] at R2
    have HR' := hid R2
    have HD2 : Hid (B.drop j2 = q :: B.drop (j2 + 1)) := dropD (by rw [HL2.out]; exact e2) HQ.out
    clear R2
    obtain ⟨y, HLX⟩ : ∃ y, Hid (lx p.1 q.1 = y) := ⟨_, rfl⟩
    go_wp2_with fail
    refine wp_quietC (Bw wr) hmx (by kernel_rfl) (Bw.drew wr) ?_
    repeat (first | go_big_quiet_skip | (go_big_quiet_want; go_big_quiet_op; first | go_big_quiet_on | (apply Exists.intro; refine ⟨fun wq hq => ?_, ?_⟩; (· first | (with_reducible rfl) | (go_at_call 69; exact (r_lessA _ _ y hq HR.out.k HR'.out.k (by have := HR.out.kl; omega) (by have := HR'.out.kl; omega) (by exact HLX.out)).mono fun _ _ h => h) | (have q8 := hq.cell cs; have q9 := hq.cell ct; have q0 := hq.cell HR.out.c0; have q1 := hq.cell HR.out.c1; have q2 := hq.cell HR'.out.c0; have q3 := hq.cell HR'.out.c1; go_simp; rfl) | rfl); go_big_quiet_on)))
    refine wpQuiet_nil ?_
    intro w1 s1
    have HS1 := hid (HS.out.below s1)
    have cs1 := Bw.cell s1 cs
    have ct1 := Bw.cell s1 ct
    have HRA := hid (HR.out.on s1)
    have HRB := hid (HR'.out.on s1)
    clear s1 cs ct HS HR HR'
    have HS := HS1
    have cs := cs1
    have ct := ct1
    have HR := HRA
    have HR' := HRB
    clear HS1 cs1 ct1 HRA HRB
    have HL12 := HLX
    clear HLX
    cases y with
    | true =>
      have c0 := HR.out.c0
      have k1 := refBytes ka kn kc p.1 w1 HR.out.k (by have := HR.out.kl; omega)
      go_wp2_with fail
      refine k1.mono ?_
      rintro e w4 ⟨z4, rfl, o4, g4⟩
      obtain ⟨a4, c4, rfl, vs4⟩ := Vs.ofOwn o4 HR.out.okk
      have HG4 : Hid (Below w1.heap.size w1 w4) := ⟨g4.os, g4.tape, g4.output, g4.size, g4.block⟩
      have HSA := hid (HS.out.below HG4.out)
      have HKN : Hid (p.1.length = kn) := HR.out.k.1
      have HV4 : Hid (SV w4 (fun x => w.heap.size ≤ x ∧ u5.ownBlock ≠ some x) ⟨a4, c4, none, 0, ⟨p.1, [], true⟩⟩) := ⟨by show Vs _ _ _ p.1.length _ _; rw [HKN.out]; exact vs4.wide fun x _ hx => ⟨Nat.le_trans HS.out.bel.size hx, fun q => by have := (World.ownsRow.lt HS.out.own x q).2; omega⟩, ⟨rfl, fun z hz => by simp at hz, .inl rfl⟩, Nat.le_refl _, Nat.zero_le _, fun _ => rfl, fun ad e _ => by cases e⟩
      clear k1 o4 g4 vs4 c0
      go_wp2_with (at_builtin; refine wpList_appSet rfl _ _ rfl w.heap.size u5 ds rfl (by exact HSA.out.own.alloc _) w4.heap.size ⟨a4, c4, none, 0, ⟨p.1, [], true⟩⟩ rfl (by exact fun j u hj => by simp only [sdc, HKN.out] at hj; rw [cell_of_row _ w4.heap.size j _ 44 (0, 0) (heap_alloc_new w4 _)]; simpa using hj) (by have := HDL.out; omega) (by have := HSA.out.bel.size; simp; omega) ?_; intro v6 w6 ho6 hg6 hl6; have HS6 := hid (HSA.out.app HV4.out ho6 hg6 hl6); clear ho6 hg6 hl6)
      have HE6 : Hid ((ds ++ [(⟨a4, c4, none, 0, ⟨p.1, [], true⟩⟩ : SD)]).map (·.s) ++ mg (A.drop (j1 + 1)) (B.drop j2) = mg A B) := by
        show _ = _
        rw [← HE.out, HD1.out, HD2.out, mg_gn1 HL12.out]
        rw [← HD2.out]; simp [gn]
      go_wp2_with fail
      go_roundw
      case rel => exact ⟨j1 + 1, j2, _, by omega, hj2, by go_num, rfl, HS6, HE6⟩
      case measure => simp [intOf]; omega
    | false =>
      obtain ⟨y, HLX⟩ : ∃ y, Hid (lx q.1 p.1 = y) := ⟨_, rfl⟩
      go_wp2_with fail
      refine wp_quietC (Bw w1) hmx (by kernel_rfl) (Bw.drew w1) ?_
      repeat (first | go_big_quiet_skip | (go_big_quiet_want; go_big_quiet_op; first | go_big_quiet_on | (apply Exists.intro; refine ⟨fun wq hq => ?_, ?_⟩; (· first | (with_reducible rfl) | (go_at_call 69; exact (r_lessA _ _ y hq HR'.out.k HR.out.k (by have := HR'.out.kl; omega) (by have := HR.out.kl; omega) (by exact HLX.out)).mono fun _ _ h => h) | (have q8 := hq.cell cs; have q9 := hq.cell ct; have q0 := hq.cell HR.out.c0; have q1 := hq.cell HR.out.c1; have q2 := hq.cell HR'.out.c0; have q3 := hq.cell HR'.out.c1; go_simp; rfl) | rfl); go_big_quiet_on)))
      refine wpQuiet_nil ?_
      intro w2 s1
      have HS1 := hid (HS.out.below s1)
      have cs1 := Bw.cell s1 cs
      have ct1 := Bw.cell s1 ct
      have HRA := hid (HR.out.on s1)
      have HRB := hid (HR'.out.on s1)
      clear s1 cs ct HS HR HR'
      have HS := HS1
      have cs := cs1
      have ct := ct1
      have HR := HRA
      have HR' := HRB
      clear HS1 cs1 ct1 HRA HRB
      have HL21 := HLX
      clear HLX
      cases y with
      | true =>
        have E0 := hid HR'.out.c0
        have E1 := hid HR'.out.c1
        have x0 := HR'.out.c0
        have x1 := HR'.out.c1
        have HBL : Hid (b' < w2.heap.size) := Nat.lt_of_lt_of_le HR'.out.lt HS.out.bel.size
        have HTL : Hid (t < w2.heap.size) := Nat.lt_of_lt_of_le lt HS.out.bel.size
        have HBO : Hid (b' < w.heap.size) := HR'.out.lt
        have k1 := fun wx (y : Bs wx ka' kn' q.1) => refBytes ka' kn' kc' q.1 wx y (by have := HR'.out.kl; omega)
        have k2 := fun wx (y : Bs wx va' vn' q.2) => refBytes va' vn' vc' q.2 wx y (by have := HR'.out.vl; omega)
        have H1 := hid HR'.out.k
        have H2 := hid HR'.out.v
        have HOK1 := hid HR'.out.okk
        have HOK2 := hid HR'.out.okv
        have HKN : Hid (q.1.length = kn') := HR'.out.k.1
        have HXN : Hid (q.2.length = vn') := HR'.out.v.1
        go_wp2_with fail
        go_region_held_law (fun wx => wx.cell? ⟨t, 0, none⟩ = some (.slice (some ⟨b', off', none⟩) m2 c2) ∧ wx.cell? ⟨b', off' + j2 * 2, none⟩ = some (.slice ka' kn' kc') ∧ wx.cell? ⟨b', off' + j2 * 2 + 1, none⟩ = some (.slice va' vn' vc')) (go_keep) (first
          | (go_simp; go_at_call 44; have HQ2 := G1; refine (k2 _ (by exact H2.out.below HQ2.out)).mono ?_; rintro e w5 ⟨v3, rfl, o3, g3⟩; obtain ⟨a3, c3, hv3, vs3⟩ := Vs.ofOwn o3 HOK2.out; subst hv3; have HB3 : Hid (Below w2.heap.size w2 w5) := (bel_bel HQ2.out HQ2.out.size g3); have z0 := (HB3.out.cell (p := ⟨t, 0, none⟩) HTL.out).trans ct; have z1 := (HB3.out.cell (p := ⟨b', off' + j2 * 2, none⟩) HBL.out).trans E0.out; have z2 := (HB3.out.cell (p := ⟨b', off' + j2 * 2 + 1, none⟩) HBL.out).trans E1.out; have HVK3 := hid (HVK.out.step fun x hx _ _ => g3.block x hx); have HVU3 := hid (vs3.wide (V' := fun x => w2.heap.size ≤ x) fun x _ h => Nat.le_trans HQ2.out.size h); clear o3 g3 vs3 G1 HVK)
          | (go_simp; go_at_call 44; refine (k1 _ (by exact H1.out)).mono ?_; rintro e w4 ⟨v2, rfl, o2, g2⟩; obtain ⟨a2', c2', hv2, vs2⟩ := Vs.ofOwn o2 HOK1.out; subst hv2; have G1 : Hid (Below w2.heap.size w2 w4) := (⟨g2.os, g2.tape, g2.output, g2.size, g2.block⟩ : Below w2.heap.size w2 w4); have y0 := (G1.out.cell (p := ⟨t, 0, none⟩) HTL.out).trans ct; have y1 := (G1.out.cell (p := ⟨b', off' + j2 * 2, none⟩) HBL.out).trans E0.out; have y2 := (G1.out.cell (p := ⟨b', off' + j2 * 2 + 1, none⟩) HBL.out).trans E1.out; have HVK : Hid (Vs w4 (fun x => w2.heap.size ≤ x) a2' kn' c2' q.1) := vs2; clear o2 g2 vs2)
          | (refine step_appSet (by rfl) (.tmp 148) (.tmp 168) (by rfl) w.heap.size u5 ds (by rfl) (by exact (own_bel HS.out.own HB3.out).alloc _) w5.heap.size ⟨a2', c2', a3, c3, ⟨q.1, q.2, false⟩⟩ (by rfl) (by exact fun j u hj => by simp only [sdc, HKN.out, HXN.out] at hj; rw [cell_of_row _ w5.heap.size j _ 44 (0, 0) (heap_alloc_new w5 _)]; simpa using hj) (by have := HDL.out; omega) (by have := HS.out.bel.size; have := HB3.out.size; simp; omega) n' HN' ?_; intro g6 cap6 w6 HO6 HG6 HL6; have HOLD : Hid (∀ x, x < w.heap.size → w6.heap[x]? = w2.heap[x]?) := (fun x hx => (HG6.out.block x (by have := HS.out.bel.size; have := HB3.out.size; simp; omega) (fun e => by have := (World.ownsRow.lt HS.out.own x e.symm).1; omega)).trans ((Below.heap_alloc w5 _ x (by have := HS.out.bel.size; have := HB3.out.size; omega)).trans (HB3.out.block x (by have := HS.out.bel.size; omega)))); have z0 := (World.cell?_of_block (w := w2) (w' := w6) (a := ⟨t, 0, none⟩) (HOLD.out t lt)).trans ct; have z1 := (World.cell?_of_block (w := w2) (w' := w6) (a := ⟨b', off' + j2 * 2, none⟩) (HOLD.out b' HBO.out)).trans E0.out; have z2 := (World.cell?_of_block (w := w2) (w' := w6) (a := ⟨b', off' + j2 * 2 + 1, none⟩) (HOLD.out b' HBO.out)).trans E1.out; clear HOLD))
        all_goals
          have HVD : Hid (SV w5 (fun x => w.heap.size ≤ x ∧ u5.ownBlock ≠ some x) ⟨a2', c2', a3, c3, ⟨q.1, q.2, false⟩⟩) := ⟨by show Vs _ _ _ q.1.length _ _; rw [HKN.out]; exact HVK3.out.wide fun x _ hx => ⟨Nat.le_trans HS.out.bel.size hx, fun y => by have := (World.ownsRow.lt HS.out.own x y).2; omega⟩, by show Vs _ _ _ q.2.length _ _; rw [HXN.out]; exact HVU3.out.wide fun x _ hx => ⟨Nat.le_trans HS.out.bel.size hx, fun y => by have := (World.ownsRow.lt HS.out.own x y).2; omega⟩⟩
          have HS6 := hid ((HS.out.below HB3.out).app HVD.out HO6.out HG6.out (HL6.out.elim (fun e => .inl e.symm) (fun e => .inr (by rw [e]; rfl))))
          have HE6 : Hid ((ds ++ [(⟨a2', c2', a3, c3, ⟨q.1, q.2, false⟩⟩ : SD)]).map (·.s) ++ mg (A.drop (j1)) (B.drop (j2 + 1)) = mg A B) := by
            show _ = _
            rw [← HE.out, HD1.out, HD2.out, mg_st1 HL12.out HL21.out]
            rw [← HD1.out]; simp [st]
          clear HO6 HG6 HL6 HVK3 HVU3 HB3 z0 z1 z2 k1 k2 HVD x0 x1
          go_wp2_with fail
          go_roundw
          case rel => exact ⟨j1, j2 + 1, _, by omega, by omega, rfl, by go_num, HS6, HE6⟩
          case measure => simp [intOf]; omega
      | false =>
        obtain ⟨y, HLX⟩ : ∃ y, Hid (sameB p.2 q.2 = y) := ⟨_, rfl⟩
        go_wp2_with fail
        refine wp_quietC (Bw w2) hmx (by kernel_rfl) (Bw.drew w2) ?_
        repeat (first | go_big_quiet_skip | (go_big_quiet_want; go_big_quiet_op; first | go_big_quiet_on | (apply Exists.intro; refine ⟨fun wq hq => ?_, ?_⟩; (· first | (with_reducible rfl) | (go_at_call 27; exact (r_sameA _ _ y hq HR.out.v HR'.out.v (by have := HR.out.vl; omega) (by have := HR'.out.vl; omega) (by exact HLX.out)).mono fun _ _ h => h) | (have q8 := hq.cell cs; have q9 := hq.cell ct; have q0 := hq.cell HR.out.c0; have q1 := hq.cell HR.out.c1; have q2 := hq.cell HR'.out.c0; have q3 := hq.cell HR'.out.c1; go_simp; rfl) | rfl); go_big_quiet_on)))
        refine wpQuiet_nil ?_
        intro w3 s1
        have HS1 := hid (HS.out.below s1)
        have cs1 := Bw.cell s1 cs
        have ct1 := Bw.cell s1 ct
        have HRA := hid (HR.out.on s1)
        have HRB := hid (HR'.out.on s1)
        clear s1 cs ct HS HR HR'
        have HS := HS1
        have cs := cs1
        have ct := ct1
        have HR := HRA
        have HR' := HRB
        clear HS1 cs1 ct1 HRA HRB
        have HSM := HLX
        clear HLX
        cases y with
        | true =>
          have HVE : Hid (p.2 = q.2) := same_eq HSM.out
          have HE6 : Hid (ds.map (·.s) ++ mg (A.drop (j1 + 1)) (B.drop (j2 + 1)) = mg A B) := by
            show _ = _
            rw [← HE.out, HD1.out, HD2.out, mg_eq HL12.out HL21.out HVE.out]
          go_wp2_with fail
          go_roundw
          case rel => exact ⟨j1 + 1, j2 + 1, _, by omega, by omega, by go_num, by go_num, HS, HE6⟩
          case measure => simp [intOf]; omega
        | false =>
          have HVE : Hid (p.2 ≠ q.2) := fun e => by have := HSM.out; rw [e, sameB_self] at this; cases this
          have E0 := hid HR'.out.c0
          have E1 := hid HR'.out.c1
          have x0 := HR'.out.c0
          have x1 := HR'.out.c1
          have HBL : Hid (b' < w3.heap.size) := Nat.lt_of_lt_of_le HR'.out.lt HS.out.bel.size
          have HTL : Hid (t < w3.heap.size) := Nat.lt_of_lt_of_le lt HS.out.bel.size
          have HBO : Hid (b' < w.heap.size) := HR'.out.lt
          have k1 := fun wx (y : Bs wx ka' kn' q.1) => refBytes ka' kn' kc' q.1 wx y (by have := HR'.out.kl; omega)
          have k2 := fun wx (y : Bs wx va' vn' q.2) => refBytes va' vn' vc' q.2 wx y (by have := HR'.out.vl; omega)
          have H1 := hid HR'.out.k
          have H2 := hid HR'.out.v
          have HOK1 := hid HR'.out.okk
          have HOK2 := hid HR'.out.okv
          have HKN : Hid (q.1.length = kn') := HR'.out.k.1
          have HXN : Hid (q.2.length = vn') := HR'.out.v.1
          go_wp2_with fail
          go_region_held_law (fun wx => wx.cell? ⟨t, 0, none⟩ = some (.slice (some ⟨b', off', none⟩) m2 c2) ∧ wx.cell? ⟨b', off' + j2 * 2, none⟩ = some (.slice ka' kn' kc') ∧ wx.cell? ⟨b', off' + j2 * 2 + 1, none⟩ = some (.slice va' vn' vc')) (go_keep) (first
            | (go_simp; go_at_call 44; have HQ2 := G1; refine (k2 _ (by exact H2.out.below HQ2.out)).mono ?_; rintro e w5 ⟨v3, rfl, o3, g3⟩; obtain ⟨a3, c3, hv3, vs3⟩ := Vs.ofOwn o3 HOK2.out; subst hv3; have HB3 : Hid (Below w3.heap.size w3 w5) := (bel_bel HQ2.out HQ2.out.size g3); have z0 := (HB3.out.cell (p := ⟨t, 0, none⟩) HTL.out).trans ct; have z1 := (HB3.out.cell (p := ⟨b', off' + j2 * 2, none⟩) HBL.out).trans E0.out; have z2 := (HB3.out.cell (p := ⟨b', off' + j2 * 2 + 1, none⟩) HBL.out).trans E1.out; have HVK3 := hid (HVK.out.step fun x hx _ _ => g3.block x hx); have HVU3 := hid (vs3.wide (V' := fun x => w3.heap.size ≤ x) fun x _ h => Nat.le_trans HQ2.out.size h); clear o3 g3 vs3 G1 HVK)
            | (go_simp; go_at_call 44; refine (k1 _ (by exact H1.out)).mono ?_; rintro e w4 ⟨v2, rfl, o2, g2⟩; obtain ⟨a2', c2', hv2, vs2⟩ := Vs.ofOwn o2 HOK1.out; subst hv2; have G1 : Hid (Below w3.heap.size w3 w4) := (⟨g2.os, g2.tape, g2.output, g2.size, g2.block⟩ : Below w3.heap.size w3 w4); have y0 := (G1.out.cell (p := ⟨t, 0, none⟩) HTL.out).trans ct; have y1 := (G1.out.cell (p := ⟨b', off' + j2 * 2, none⟩) HBL.out).trans E0.out; have y2 := (G1.out.cell (p := ⟨b', off' + j2 * 2 + 1, none⟩) HBL.out).trans E1.out; have HVK : Hid (Vs w4 (fun x => w3.heap.size ≤ x) a2' kn' c2' q.1) := vs2; clear o2 g2 vs2)
            | (refine step_appSet (by rfl) (.tmp 44) (.tmp 64) (by rfl) w.heap.size u5 ds (by rfl) (by exact (own_bel HS.out.own HB3.out).alloc _) w5.heap.size ⟨a2', c2', a3, c3, ⟨q.1, q.2, false⟩⟩ (by rfl) (by exact fun j u hj => by simp only [sdc, HKN.out, HXN.out] at hj; rw [cell_of_row _ w5.heap.size j _ 44 (0, 0) (heap_alloc_new w5 _)]; simpa using hj) (by have := HDL.out; omega) (by have := HS.out.bel.size; have := HB3.out.size; simp; omega) n' HN' ?_; intro g6 cap6 w6 HO6 HG6 HL6; have HOLD : Hid (∀ x, x < w.heap.size → w6.heap[x]? = w3.heap[x]?) := (fun x hx => (HG6.out.block x (by have := HS.out.bel.size; have := HB3.out.size; simp; omega) (fun e => by have := (World.ownsRow.lt HS.out.own x e.symm).1; omega)).trans ((Below.heap_alloc w5 _ x (by have := HS.out.bel.size; have := HB3.out.size; omega)).trans (HB3.out.block x (by have := HS.out.bel.size; omega)))); have z0 := (World.cell?_of_block (w := w3) (w' := w6) (a := ⟨t, 0, none⟩) (HOLD.out t lt)).trans ct; have z1 := (World.cell?_of_block (w := w3) (w' := w6) (a := ⟨b', off' + j2 * 2, none⟩) (HOLD.out b' HBO.out)).trans E0.out; have z2 := (World.cell?_of_block (w := w3) (w' := w6) (a := ⟨b', off' + j2 * 2 + 1, none⟩) (HOLD.out b' HBO.out)).trans E1.out; clear HOLD))
          all_goals
            have HVD : Hid (SV w5 (fun x => w.heap.size ≤ x ∧ u5.ownBlock ≠ some x) ⟨a2', c2', a3, c3, ⟨q.1, q.2, false⟩⟩) := ⟨by show Vs _ _ _ q.1.length _ _; rw [HKN.out]; exact HVK3.out.wide fun x _ hx => ⟨Nat.le_trans HS.out.bel.size hx, fun y => by have := (World.ownsRow.lt HS.out.own x y).2; omega⟩, by show Vs _ _ _ q.2.length _ _; rw [HXN.out]; exact HVU3.out.wide fun x _ hx => ⟨Nat.le_trans HS.out.bel.size hx, fun y => by have := (World.ownsRow.lt HS.out.own x y).2; omega⟩⟩
            have HS6 := hid ((HS.out.below HB3.out).app HVD.out HO6.out HG6.out (HL6.out.elim (fun e => .inl e.symm) (fun e => .inr (by rw [e]; rfl))))
            have HE6 : Hid ((ds ++ [(⟨a2', c2', a3, c3, ⟨q.1, q.2, false⟩⟩ : SD)]).map (·.s) ++ mg (A.drop (j1 + 1)) (B.drop (j2 + 1)) = mg A B) := by
              show _ = _
              rw [← HE.out, HD1.out, HD2.out, mg_ne HL12.out HL21.out HVE.out]
              simp [st]
            clear HO6 HG6 HL6 HVK3 HVU3 HB3 z0 z1 z2 k1 k2 HVD x0 x1
            go_wp2_with fail
            go_roundw
            case rel => exact ⟨j1 + 1, j2 + 1, _, by omega, by omega, by go_num, by go_num, HS6, HE6⟩
            case measure => simp [intOf]; omega
end Go.Proofs.YteeapmcpbmjpmaaGreat
