import Derived.Test.YtghehfhkiknjhaaUM
import Derived.Test.YtghehfhkiknjhaaUK
namespace Go.Proofs.Ytghehfhkiknjhaa
set_option maxRecDepth 100000
open Go.RowKit Go.Shelf Go.Maps
set_option linter.unusedVariables false

theorem Sl.one {w : World} {V : Nat → Prop} {bl off n k : Nat} {l : List Sx} (h : Sl w V (some ⟨bl, off, none⟩) n l) (hk : k < n) : Sl w V (some ⟨bl, off + k * 3, none⟩) 1 [l.getD k default] := by
  rcases h.cells with h0 | ⟨b, o, e, hb, hc⟩
  · omega
  · obtain ⟨rfl, rfl⟩ : bl = b ∧ off = o := by simpa using e
    refine ⟨rfl, .inr ⟨bl, off + k * 3, rfl, hb, fun i hi => ?_⟩⟩
    obtain rfl : i = 0 := by omega
    simpa using hc k hk
theorem doAll_step {M : Tab} {l : List Sx} {k : Nat} (hk : k < l.length) : doAll (doAll M (l.take k)) [l.getD k default] = doAll M (l.take (k + 1)) := by
  have e : l.getD k default = l[k] := by simp [List.getD, hk]
  rw [List.take_succ_eq_append_getElem hk, e]
  unfold doAll
  rw [List.foldl_append]
theorem say_look {l : List Sx} {K v : List Int} (h : look (doAll [] l) K = some v) : sayT l K = true ∧ sayV l K = v := by
  rw [look_doAll l List.Pairwise.nil K] at h
  unfold sayT sayV
  cases e : lastS l K with
  | none => rw [e] at h; cases h
  | some s =>
    rw [e] at h
    unfold afterS at h
    simp only at h
    split at h
    · cases h
    · rename_i hg
      simp only
      exact ⟨by simpa using hg, Option.some.inj h⟩
theorem say_is (l : List Sx) (K : List Int) : (look (doAll [] l) K).isSome = sayT l K := by
  rw [look_doAll l List.Pairwise.nil K]
  unfold sayT
  cases e : lastS l K with
  | none => rfl
  | some s =>
    unfold afterS
    simp only
    cases s.g <;> rfl
theorem srt_at {M : Tab} (h : Srt M) {k : Nat} (hk : k + 1 < M.length) : lx (M.getD k ([], [])).1 (M.getD (k + 1) ([], [])).1 = true := by
  have e1 : M.getD k ([], []) = M[k] := by simp [List.getD, show k < M.length by omega]
  have e2 : M.getD (k + 1) ([], []) = M[k + 1] := by simp [List.getD, hk]
  rw [e1, e2]
  exact (List.pairwise_iff_getElem.1 h) k (k + 1) (by omega) hk (by omega)
theorem s_last {w0 w : World} {V : Nat → Prop} {a ak : Option Addr} {n m : Nat} (c d : Nat) {l : List Sx} {key : List Int} (B : Below w0.heap.size w0 w) (h : Sl w V a n l) (hk : Bs w ak m key) (hn : n ≤ 100000000) (hm : m ≤ 1000000000) :
    Calls Try.prog 28 #[.slice a n c, .slice ak m d] w fun e w' => ∃ av nv cv, e = .returned (.tuple #[.slice av nv cv, .bool (sayT l key)]) ∧ Vs w' V av nv cv (sayV l key) ∧ Below w0.heap.size w0 w' ∧ Below w.heap.size w w' := by
  refine (last_ V a ak n c m d l key w h hk hn hm).mono ?_
  rintro e w1 ⟨av, nv, cv, rfl, v, g⟩
  exact ⟨av, nv, cv, rfl, v, bel_bel B B.size g, g⟩
theorem s_less {w0 w : World} {a b : Option Addr} {n m : Nat} (c d : Nat) {xs ys : List Int} (q : Bool) (B : Below w0.heap.size w0 w) (h1 : Bs w a n xs) (h2 : Bs w b m ys) (h01 : 0 < n) (h02 : 0 < m) (hn : n ≤ 1000000000) (hm : m ≤ 1000000000) (hq : lx xs ys = q) :
    Calls Try.prog 30 #[.slice a n c, .slice b m d] w fun e w' => e = .returned (.bool q) ∧ Below w0.heap.size w0 w' ∧ Below w.heap.size w w' := by
  obtain ⟨e1, _, h3⟩ := h1
  obtain ⟨e2, _, h4⟩ := h2
  rcases h3 with h3 | ⟨b1, o1, rfl, k1⟩
  · omega
  rcases h4 with h4 | ⟨b2, o2, rfl, k2⟩
  · omega
  refine (refLess_some b1 o1 c b2 o2 d n m xs ys w e1 e2 hn hm k1 k2).mono ?_
  rintro e w1 ⟨rfl, nq, rfl⟩
  subst hq
  exact ⟨rfl, bel_bel B B.size (drawnN w nq).below, (drawnN w nq).below⟩
theorem s_turned {w0 w : World} (a : Option Addr) (n c : Nat) (M : Tab) (f s : Int) (B : Below w0.heap.size w0 w) (h : Rl w (Up w0) a n M) (hn : n ≤ 10000) (hf : -9223372036854775808 ≤ f ∧ f ≤ 9223372036854775807) (hs : -9223372036854775808 ≤ s ∧ s ≤ 9223372036854775807) :
    Calls Try.prog 31 #[.slice a n c, .int .i64 f, .int .i64 s] w fun e w' => ∃ a' c' l, e = .returned (.slice a' n c') ∧ Sl w' (Up w0) a' n l ∧ (∀ x ∈ l, x ∈ asS M) ∧ (∀ x ∈ asS M, x ∈ l) ∧ Below w0.heap.size w0 w' ∧ Below w.heap.size w w' := by
  have hsz := B.size
  refine (turned_ (fun x => w0.heap.size ≤ x ∧ x < w.heap.size) a n c M f s w (h.wide fun x hx hv => ⟨hv, hx⟩) (fun x h => h.2) hn hf hs).mono ?_
  rintro e w1 ⟨a', m, c', l, rfl, sl, rfl, h1, h2, g⟩
  exact ⟨a', c', l, rfl, sl.wide (fun x _ hx => by rcases hx with h | h; exact h.1; exact Nat.le_trans hsz h), h1, h2, bel_bel B hsz g, g⟩
theorem s_fit2 {w0 w : World} (U : Nat → Prop) (a : Option Addr) (n c N : Nat) (l : List Sx) (B : Below w0.heap.size w0 w) (h : Sl w U a n l) (hU : ∀ x, U x → x < w0.heap.size) (hn : n ≤ maxLen) (hN : N ≤ 100000) :
    Calls Try.prog 24 #[.slice a n c, .int .i64 N] w fun e w' => ∃ a' c', e = .returned (.slice a' (fitL l N).length c') ∧ Sl w' (fun x => U x ∨ w0.heap.size ≤ x) a' (fitL l N).length (fitL l N) ∧ (fitL l N).length ≤ c' ∧ c' ≤ maxLen ∧ Below w0.heap.size w0 w' ∧ Below w.heap.size w w' := by
  have hs := B.size
  refine (fit_ U a n c N l w h (fun x hx => Nat.lt_of_lt_of_le (hU x hx) hs) hn hN).mono ?_
  rintro e w1 ⟨a', m, c', rfl, h1, h2, h3, _, g⟩
  obtain rfl := h1.len
  exact ⟨a', c', rfl, h1.wide (fun x _ hx => hx.imp id fun h => Nat.le_trans hs h), h2, h3, bel_bel B hs g, g⟩
theorem Sl.other {w w' : World} {V : Nat → Prop} {a : Option Addr} {n b : Nat} {l : List Sx} (h : Sl w V a n l) (hg : w.grownBy w' (some b)) (hm : ∃ es cl, w.heap[b]? = some (.map es cl)) : Sl w' V a n l :=
  h.step fun x hx _ hnm => hg.block x hx (fun e => by
    obtain ⟨es, cl, em⟩ := hm
    obtain rfl := Option.some.inj e
    exact hnm es cl em)
theorem may_at {L : List Sx} {k : Nat} (h : allMay L = true) (hk : k < L.length) : allMay [L.getD k default] = true := by
  have e : L.getD k default = L[k] := by simp [List.getD, hk]
  rw [e]
  have := (List.all_eq_true.1 h) L[k] (List.getElem_mem hk)
  simp [allMay, this]
set_option maxHeartbeats 4000000 in
theorem tableFold_ (U : Nat → Prop) (a : Option Addr) (n c : Nat) (l : List Sx) (f s : Int) (w : World) (s0 : Sl w U a n l) (hU : ∀ x, U x → x < w.heap.size) (hn : n ≤ maxLen) (hf : -9223372036854775808 ≤ f ∧ f ≤ 9223372036854775807) (hs : -9223372036854775808 ≤ s ∧ s ≤ 9223372036854775807) :
    Calls Try.prog 5 #[.slice a n c, .int .i64 f, .int .i64 s] w fun e w' => e = .returned (.bool true) ∧ Below w.heap.size w w' := by
  have k1 := first_ w
  have kn := fun x wx => num_ x wx
  have S := hid s0
  have HU := hid hU
  obtain ⟨L, HL⟩ : ∃ L, Hid (fitL l 2000 = L) := ⟨_, rfl⟩
  have HM : Hid (allMay L = true) := by rw [← HL.out]; exact fitL_may _ _
  have HN : Hid (L.length ≤ 2000) := by rw [← HL.out]; exact fitL_len _ _
  clear s0 hU
  go_enter Try.func5, Try.ntmps5
  go_wp2_with fail
  refine k1.mono ?_
  rintro e w1 ⟨rfl, g⟩
  have G := hid g
  have S := hid (S.out.below g)
  clear g k1
  go_wp2_with fail
  refine (s_fit2 U a n c 2000 l G.out S.out HU.out hn (by omega)).mono ?_
  rintro e w2 ⟨b1, d1, rfl, s1, hd1, hd2, g, bb⟩
  rw [HL.out] at s1 hd1
  rw [HL.out]
  obtain ⟨m, Hm⟩ : ∃ m, Hid (L.length = m) := ⟨_, rfl⟩
  rw [Hm.out] at s1 hd1
  unfold maxLen at hd2
  rw [Hm.out]
  have hm2 : m ≤ 2000 := by have := Hm.out; have := HN.out; omega
  have G := hid g
  have S := hid s1
  clear g bb s1
  go_wp2_with fail
  refine (s_built _ b1 m d1 L G.out S.out (by omega) HM.out).mono ?_
  rintro e w3 ⟨t, tb, rfl, t1, h1, h2, g, bb⟩
  have G := hid g
  have T := hid t1
  have S := hid (S.out.below bb)
  clear g bb t1 h1 h2
  go_wp2_with fail
  refine (s_built (fun _ => True) none 0 0 [] G.out ⟨rfl, .inl rfl⟩ (by omega) rfl).mono ?_
  rintro e w4 ⟨u, ub, rfl, t1, h1, h2, g, bb⟩
  have HTU : Hid (tb ≠ ub) := by have := T.out.mp.lt; show _ ≠ _; omega
  have HUB : Hid (w.heap.size ≤ ub) := Nat.le_trans G.out.size h1
  have G := hid g
  have T := hid (T.out.below bb)
  have T2 := hid t1
  have S := hid (S.out.below bb)
  clear g bb t1 h1 h2
  go_wp2_with fail
  go_loopw [12] (fun i wr => ∃ k : Nat, k ≤ m ∧ i = .int .i64 k ∧ Hid (Tw wr u ub (Up w) (doAll [] (L.take k))) ∧ Hid (Tw wr t tb (Up w) (doAll [] L)) ∧ Hid (Sl wr (fun x => U x ∨ w.heap.size ≤ x) b1 m L) ∧ Hid (Below w.heap.size w wr)) (fun i _ => m - (intOf i).toNat)
  case atStart => exact ⟨0, Nat.zero_le _, rfl, T2, T, S, G⟩
  case round =>
    obtain ⟨k, hk, rfl, T2, T, S, G⟩ := hrel
    by_cases hlt : k < m
    · have hI : (k : Int) < m := by omega
      obtain ⟨bl, off, _, _, _, _, _, _, rfl, _⟩ := S.out.at hlt
      have hone := S.out.one hlt
      have ka := s_apply _ 1 (d1 - k) _ G.out HUB.out T2.out hone (by omega) (by have h := len_doAll [] List.Pairwise.nil (L.take k); rw [List.length_take] at h; simp only [List.length_nil] at h; omega) (may_at HM.out (by rw [Hm.out]; exact hlt)) (doAll_step (by rw [Hm.out]; exact hlt))
      have HMP := hid T2.out.mp.isMap
      clear hone hlt T2
      go_wp2_with fail
      refine ka.mono ?_
      rintro e w5 ⟨rfl, t5, g5, gr⟩
      have T2 := hid t5
      have G := hid g5
      have T := hid (T.out.other gr HMP.out HTU.out)
      have S := hid (S.out.other gr HMP.out)
      clear ka t5 g5 gr HMP
      go_wp2_with fail
      refine (kn _ _).mono ?_
      rintro e wy ⟨rfl, hw⟩
      rw [hw]
      clear hw wy
      go_wp2_with fail
      go_roundw
      case rel => exact ⟨k + 1, by omega, by go_num, T2, T, S, G⟩
      case measure => simp [intOf]; omega
    · have hI : ¬ (k : Int) < m := by omega
      obtain rfl : k = m := by omega
      have hfull : L.take k = L := List.take_of_length_le (by rw [Hm.out]; exact Nat.le_refl _)
      rw [hfull] at T2
      obtain ⟨A, HA⟩ : ∃ A, Hid (doAll [] L = A) := ⟨_, rfl⟩
      rw [HA.out] at T T2
      have OA := hid T.out.tok
      obtain ⟨x, HX⟩ : ∃ x, Hid (A.length = x) := ⟨_, rfl⟩
      have hx2 : x ≤ 2000 := by have h := len_doAll [] List.Pairwise.nil L; have := HX.out; have := Hm.out; rw [HA.out] at h; simp only [List.length_nil] at h; omega
      have kl := fun wx (h : Tw wx t tb (Up w) A) => len_ t tb _ _ wx h
      rw [HX.out] at kl
      clear hlt hk hfull
      go_wp2_with fail
      refine (kl _ T.out).mono ?_
      rintro e wy ⟨rfl, hw⟩
      rw [hw]
      clear hw wy kl
      go_wp2_with fail
      refine (s_rows x x G.out T.out HX.out (by omega) (by omega)).mono ?_
      rintro e w9 ⟨ra, rc, rfl, r, g, bb⟩
      have G := hid g
      have R := hid r
      have T := hid (T.out.below bb)
      have T2 := hid (T2.out.below bb)
      have S := hid (S.out.below bb)
      clear g bb r
      go_wp2_with fail
      go_loopw [16] (fun i wr => ∃ j : Nat, j ≤ x ∧ i = .int .i64 j ∧ Hid (Below w9.heap.size w9 wr)) (fun i _ => x - (intOf i).toNat)
      case atStart => exact ⟨0, Nat.zero_le _, rfl, Below.refl _ _⟩
      case round =>
        obtain ⟨j, hj, rfl, HB⟩ := hrel
        by_cases hlt : j < x
        · have hI : (j : Int) < x := by omega
          have hjn : ¬ (j : Int) < 0 := by omega
          obtain ⟨bl, off, ka, kc, va, vc, kn, vn, rfl, hkn, hvn, c0, c1, v1, v2⟩ := (R.out.below HB.out).at hlt
          have hmem := tab_mem (show j < A.length by rw [HX.out]; exact hlt)
          have hkey := OA.out.key _ hmem
          have hlook : look A (A.getD j ([], [])).1 = some (A.getD j ([], [])).2 := mem_look OA.out.srt hmem
          obtain ⟨q, HQ⟩ : ∃ s, Hid (A.getD j ([], []) = s) := ⟨_, rfl⟩
          rw [HQ.out] at hkn hvn v1 v2 hkey hlook
          obtain ⟨K, Vv⟩ := q
          simp only at hkn hvn v1 v2 hkey hlook
          have hsay := say_look (l := L) (by rw [HA.out]; exact hlook)
          have G1 := hid (bel_bel G.out G.out.size HB.out)
          have kla := s_last (c := d1) (d := kc) G1.out (S.out.below HB.out) v1.bs (by omega) (by omega)
          rw [hsay.1, hsay.2] at kla
          have HC0 := hid c0
          have HC1 := hid c1
          have HV1 := hid v1
          have HV2 := hid v2
          have HT := hid (T.out.below HB.out)
          have HKL : Hid (1 ≤ kn ∧ kn ≤ 40) := by rw [hkn]; exact hkey.2
          have HLO := hid hlook
          have HVN : Hid (Vv.length = vn) := hvn.symm
          clear hkn hvn v1 v2 c1 hkey hlook hsay hmem hlt
          go_wp2_with fail
          refine kla.mono ?_
          rintro e w10 ⟨av, nv, cv, rfl, vv, g, bb⟩
          have c0 := (bb.cell (World.block_lt_of_cell? _ _ HC0.out)).trans HC0.out
          have HC1 := hid ((bb.cell (World.block_lt_of_cell? _ _ HC1.out)).trans HC1.out)
          have HV1 := hid (HV1.out.lift bb (fun _ _ h => h))
          have HV2 := hid (HV2.out.lift bb (fun _ _ h => h))
          have HT := hid (HT.out.below bb)
          have HB1 := hid (bel_bel HB.out HB.out.size bb)
          have HVV := hid vv
          have ct := HT.out.tbl.cell
          have HG := hid g
          have kg := fun wx (hb : Below w10.heap.size w10 wx) => s_get (w0 := w) ka kn kc vn K Vv true (bel_bel HG.out HG.out.size hb) (HT.out.below hb).mp OA.out (HV1.out.lift hb (fun _ _ h => h)).bs (by have := HKL.out; omega) (by rw [HLO.out]; rfl) (by rw [HLO.out]; rfl) HVN.out
          have HDR := hid (below_drew w10)
          clear kla g bb vv HC0
          go_wp2_with fail
          go_region_held (fun wx => wx.cell? ⟨t, 0, none⟩ = some (.map (some tb)) ∧ wx.cell? ⟨bl, off + j * 2, none⟩ = some (.slice ka kn kc)) (go_keep) (first | (go_at_call 29; refine (kg _ (by exact HDR.out)).mono ?_; rintro e w11 ⟨ag, cg, rfl, vg, g, bb⟩; have HVG := hid vg; have HG := hid g; have HBB : Hid (Below w10.heap.size w10 w11) := HDR.out.trans bb; have y0 := (HBB.out.cell (World.block_lt_of_cell? _ _ c0)).trans c0; have y1 := (HBB.out.cell (World.block_lt_of_cell? _ _ ct)).trans ct; clear vg g bb))
          have y2 := (HBB.out.cell (World.block_lt_of_cell? _ _ HC1.out)).trans HC1.out
          have HV1 := hid (HV1.out.lift HBB.out (fun _ _ h => h))
          have HV2 := hid (HV2.out.lift HBB.out (fun _ _ h => h))
          have HVV := hid (HVV.out.lift HBB.out (fun _ _ h => h))
          have HB1 := hid (bel_bel HB1.out HB1.out.size HBB.out)
          have hnv : nv = vn := HVV.out.bs.1.symm.trans HVN.out
          subst hnv
          have hv480 : nv ≤ 480 := by have h := (OA.out.val _ (look_mem HLO.out)).2; have := HVN.out; simp only at h; omega
          clear kg y1 HT HDR HBB c0 ct
          go_wp2_with fail
          refine (s_sameB cv vc true HG.out HVV.out.bs HV2.out.bs (by omega) (by omega) (by simp)).mono ?_
          rintro e w12 ⟨rfl, g, bb⟩
          have HG := hid g
          have y0 := (bb.cell (World.block_lt_of_cell? _ _ y0)).trans y0
          have HV1 := hid (HV1.out.lift bb (fun _ _ h => h))
          have HVV := hid (HVV.out.lift bb (fun _ _ h => h))
          have HVG := hid (HVG.out.lift bb (fun _ _ h => h))
          have HB1 := hid (bel_bel HB1.out HB1.out.size bb)
          clear g bb y2 HV2
          go_wp2_with fail
          refine (s_sameB cg cv true HG.out HVG.out.bs HVV.out.bs (by omega) (by omega) (by simp)).mono ?_
          rintro e w13 ⟨rfl, g, bb⟩
          have HG := hid g
          have y0 := (bb.cell (World.block_lt_of_cell? _ _ y0)).trans y0
          have HV1 := hid (HV1.out.lift bb (fun _ _ h => h))
          have HB1 := hid (bel_bel HB1.out HB1.out.size bb)
          clear g bb HVG HVV
          by_cases hj0 : j = 0
          · subst hj0
            go_wp2_with fail
            go_region
            go_wp2_with fail
            go_roundw
            case rel => exact ⟨1, by omega, by go_num, bel_bel HB1.out HB1.out.size (below_drew w13)⟩
            case measure => simp [intOf]; omega
          · obtain ⟨i, rfl⟩ : ∃ i, j = i + 1 := ⟨j - 1, by omega⟩
            have hgt : ((i + 1 : Nat) : Int) > 0 := by omega
            have hgt2 : (0 : Int) < (i : Int) + 1 := by omega
            have hm1 : ((i + 1 : Nat) : Int) - 1 = i := by omega
            have hm2 : (i : Int) + 1 - 1 = i := by omega
            have hin : ¬ (i : Int) < 0 := by omega
            have hwr : IntKind.i64.wrap (i : Int) = i := by simp [IntKind.wrap, IntKind.bits, IntKind.signed]; omega
            have hilt : i < x := by omega
            have hiI : (i : Int) < x := by omega
            obtain ⟨bl', off', kb, lc, vb, uc, ln, un, eb, hln, hun, z0, z1, p1, p2⟩ := (R.out.below HB1.out).at hilt
            obtain ⟨rfl, rfl⟩ : bl = bl' ∧ off = off' := by simpa using eb
            have hmem := tab_mem (show i < A.length by rw [HX.out]; exact hilt)
            have hkey := OA.out.key _ hmem
            have HLX := hid (srt_at OA.out.srt (k := i) (by rw [HX.out]; omega))
            rw [HQ.out] at HLX
            rw [← hln] at hkey
            have kle := fun wx (hb : Below w13.heap.size w13 wx) => s_less (w0 := w) lc kc true (bel_bel HG.out HG.out.size hb) (p1.bs.below hb) ((HV1.out.lift hb (fun _ _ h => h)).bs) (by omega) (by have := HKL.out; omega) (by omega) (by have := HKL.out; omega) HLX.out
            clear hln hun z1 p1 p2 hmem hkey eb
            have HDR := hid (below_drew w13)
            go_wp2_with fail
            go_region_held (fun wx => wx.cell? ⟨bl, off + i * 2, none⟩ = some (.slice kb ln lc) ∧ wx.cell? ⟨bl, off + (i + 1) * 2, none⟩ = some (.slice ka kn kc)) (go_keep) (first | (go_at_call 30; refine (kle _ (by exact HDR.out)).mono ?_; rintro e w14 ⟨rfl, g, bb⟩; have HBB : Hid (Below w13.heap.size w13 w14) := HDR.out.trans bb; have q0 := (HBB.out.cell (World.block_lt_of_cell? _ _ y0)).trans y0; have q1 := (HBB.out.cell (World.block_lt_of_cell? _ _ z0)).trans z0; clear g bb))
            clear q0 q1 kle
            go_wp2_with fail
            go_roundw
            case rel => exact ⟨i + 1 + 1, by omega, by go_num, bel_bel HB1.out HB1.out.size HBB.out⟩
            case measure => simp [intOf]; omega
        · have hI : ¬ (j : Int) < x := by omega
          have G := hid (bel_bel G.out G.out.size HB.out)
          have R := hid (R.out.below HB.out)
          have T := hid (T.out.below HB.out)
          have T2 := hid (T2.out.below HB.out)
          have S := hid (S.out.below HB.out)
          obtain ⟨wa, HWA⟩ : ∃ wa, Hid (wa = wr) := ⟨_, rfl⟩
          rw [← HWA.out] at G R T T2 S ⊢
          clear HWA HB hlt
          go_wp2_with fail
          go_loopw [22] (fun i wr => ∃ j : Nat, j ≤ k ∧ i = .int .i64 j ∧ Hid (Below wa.heap.size wa wr)) (fun i _ => k - (intOf i).toNat)
          case atStart => exact ⟨0, Nat.zero_le _, rfl, Below.refl _ _⟩
          case round =>
            obtain ⟨j, hj, rfl, HB⟩ := hrel
            by_cases hlt : j < k
            · have hI : (j : Int) < k := by omega
              have hjn : ¬ (j : Int) < 0 := by omega
              obtain ⟨bl, off, ka, kc, va, vc, kn, vn, rfl, hkn, hvn, c0, c1, c2, v1, v2⟩ := (S.out.below HB.out).at hlt
              have hmk : kn ≤ 40 := by
                rw [hkn]
                have hh := may_at HM.out (show j < L.length by rw [Hm.out]; exact hlt)
                have : mayS (L.getD j default) = true := by simpa [allMay] using hh
                exact (mayS_key this).2
              obtain ⟨K, HK⟩ : ∃ K, Hid ((L.getD j default).k = K) := ⟨_, rfl⟩
              rw [HK.out] at v1
              obtain ⟨q, HQ⟩ : ∃ q, Hid (sayT L K = q) := ⟨_, rfl⟩
              have HQ2 : Hid ((look A K).isSome = q) := by rw [← HA.out, say_is]; exact HQ.out
              have G1 := hid (bel_bel G.out G.out.size HB.out)
              have kla := s_last (c := d1) (d := kc) G1.out (S.out.below HB.out) v1.bs (by omega) (by omega)
              rw [HQ.out] at kla
              have HC0 := hid c0
              have HV1 := hid v1
              have HT := hid (T.out.below HB.out)
              clear hkn hvn v1 v2 c1 c2 hlt
              go_wp2_with fail
              refine kla.mono ?_
              rintro e w10 ⟨av, nv, cv, rfl, vv, g, bb⟩
              have c0 := (bb.cell (World.block_lt_of_cell? _ _ HC0.out)).trans HC0.out
              have HV1 := hid (HV1.out.lift bb (fun _ _ h => h))
              have HT := hid (HT.out.below bb)
              have HB1 := hid (bel_bel HB.out HB.out.size bb)
              have ct := HT.out.tbl.cell
              have HG := hid g
              have kg := fun wx (hb : Below w10.heap.size w10 wx) => s_get (w0 := w) ka kn kc ((look A K).getD []).length K ((look A K).getD []) q (bel_bel HG.out HG.out.size hb) (HT.out.below hb).mp OA.out (HV1.out.lift hb (fun _ _ h => h)).bs (by omega) rfl HQ2.out rfl
              obtain ⟨gn, HGN⟩ : ∃ gn, Hid (((look A K).getD []).length = gn) := ⟨_, rfl⟩
              rw [HGN.out] at kg
              have HDR := hid (below_drew w10)
              clear kla g bb vv HC0
              go_wp2_with fail
              go_region_held (fun wx => wx.cell? ⟨t, 0, none⟩ = some (.map (some tb)) ∧ wx.cell? ⟨bl, off + j * 3, none⟩ = some (.slice ka kn kc)) (go_keep) (first | (go_at_call 29; refine (kg _ (by exact HDR.out)).mono ?_; rintro e w11 ⟨ag, cg, rfl, vg, g, bb⟩; have HBB : Hid (Below w10.heap.size w10 w11) := HDR.out.trans bb; have y0 := (HBB.out.cell (World.block_lt_of_cell? _ _ c0)).trans c0; have y1 := (HBB.out.cell (World.block_lt_of_cell? _ _ ct)).trans ct; clear vg g bb))
              have HB1 := hid (bel_bel HB1.out HB1.out.size HBB.out)
              clear kg y0 y1 c0 ct
              go_wp2_with fail
              go_roundw
              case rel => exact ⟨j + 1, by omega, by go_num, HB1⟩
              case measure => simp [intOf]; omega
            · have hI : ¬ (j : Int) < k := by omega
              have G := hid (bel_bel G.out G.out.size HB.out)
              have R := hid (R.out.below HB.out)
              have T := hid (T.out.below HB.out)
              have T2 := hid (T2.out.below HB.out)
              obtain ⟨wb, HWB⟩ : ∃ wa, Hid (wa = wr) := ⟨_, rfl⟩
              rw [← HWB.out] at G R T T2 ⊢
              obtain ⟨P, HP⟩ : ∃ P, Hid (enc (asS A) = P) := ⟨_, rfl⟩
              obtain ⟨p, Hp⟩ : ∃ p, Hid (P.length = p) := ⟨_, rfl⟩
              have LP : Hid (p ≤ 1048000) := by have h := enc_len_of _ (asS_may OA.out); rw [HP.out, asS_len, Hp.out] at h; have := HX.out; show _ ≤ _; omega
              clear HWB HB hlt S
              go_wp2_with fail
              refine (s_turned ra x rc A f s G.out R.out (by omega) hf hs).mono ?_
              rintro e w12 ⟨ta, tc, l', rfl, sl, h1, h2, g, bb⟩
              have HD := hid (doAll_turned OA.out.srt h1 h2)
              have HM' : Hid (allMay l' = true) := List.all_eq_true.2 fun y hy => (List.all_eq_true.1 (asS_may OA.out)) y (h1 y hy)
              have G := hid g
              have SL := hid sl
              have T := hid (T.out.below bb)
              have T2 := hid (T2.out.below bb)
              clear g bb sl h1 h2 R
              go_wp2_with fail
              refine (s_built _ ta x tc l' G.out SL.out (by omega) HM'.out).mono ?_
              rintro e w13 ⟨v, vb, rfl, t1, h1, h2, g, bb⟩
              rw [HD.out] at t1
              have G := hid g
              have T := hid (T.out.below bb)
              have T2 := hid (T2.out.below bb)
              have T3 := hid t1
              clear g bb t1 h1 h2 SL
              go_wp2_with fail
              refine (s_bytes P p G.out T.out (by have := HX.out; omega) HP.out Hp.out).mono ?_
              rintro e w14 ⟨xa, xc, rfl, vx, g, bb⟩
              have G := hid g
              have T2 := hid (T2.out.below bb)
              have T3 := hid (T3.out.below bb)
              have VX := hid vx
              clear g bb vx T
              go_wp2_with fail
              refine (s_bytes P p G.out T2.out (by have := HX.out; omega) HP.out Hp.out).mono ?_
              rintro e w15 ⟨ya, yc, rfl, vy, g, bb⟩
              have G := hid g
              have T3 := hid (T3.out.below bb)
              have VX := hid (VX.out.lift bb (fun _ _ h => h))
              have VY := hid vy
              clear g bb vy T2
              go_wp2_with fail
              refine (s_bytes P p G.out T3.out (by have := HX.out; omega) HP.out Hp.out).mono ?_
              rintro e w16 ⟨za, zc, rfl, vz, g, bb⟩
              have G := hid g
              have VX := hid (VX.out.lift bb (fun _ _ h => h))
              have VY := hid (VY.out.lift bb (fun _ _ h => h))
              have VZ := hid vz
              clear g bb vz T3
              go_wp2_with fail
              refine (s_sameB xc yc true G.out VX.out.bs VY.out.bs (by have := LP.out; omega) (by have := LP.out; omega) (by simp)).mono ?_
              rintro e w17 ⟨rfl, g, bb⟩
              have G := hid g
              have VX := hid (VX.out.lift bb (fun _ _ h => h))
              have VZ := hid (VZ.out.lift bb (fun _ _ h => h))
              clear g bb VY
              go_wp2_with fail
              refine (s_sameB xc zc true G.out VX.out.bs VZ.out.bs (by have := LP.out; omega) (by have := LP.out; omega) (by simp)).mono ?_
              rintro e w18 ⟨rfl, g, bb⟩
              have G := hid g
              clear g bb VX VZ
              go_wp2_with fail
              go_ret
              exact ⟨rfl, G.out⟩
end Go.Proofs.Ytghehfhkiknjhaa
