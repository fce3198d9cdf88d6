import Derived.Test.YtblcpdffiafgnaaGreatDoorXR
namespace Go.Proofs.YtblcpdffiafgnaaGreatDoor
set_option linter.unusedSimpArgs false
set_option maxRecDepth 100000
open Go.RowKit Go.Shelf
set_option linter.unusedVariables false

/-- What enter answers. -/
def enPost (N B : Nat) (w' : World) (en : Ending) (g d mi : Nat) (r : Except Int (Option (Sp × List Int))) : Prop :=
  match r with
  | .error E => en = .returned (.tuple #[.slice none 0 0, .int .i64 E])
  | .ok none => en = .returned (.tuple #[.slice none 0 0, .int .i64 110])
  | .ok (some (x, st)) => ∃ v, en = .returned (.tuple #[v, .int .i64 0]) ∧ w'.ownsRow B 5 1 v st.length (cells st) ∧ By st ∧ Wm w' g d mi x.e x.s x.K false false ∧ mq x.e ∧ mq x.s ∧ x.K ≤ roo N
theorem fsP_run (N : Nat) (a : Sp) (l : List Sp) (s : St) : (fsP N (a :: l)).run s = match (tkP N a).run s with
    | (.ok (some st), s') => (.ok (some (a, st)), s')
    | (.ok none, s') => (fsP N l).run s'
    | (.error E, s') => (.error E, s') := by
  conv => lhs; unfold fsP
  rw [Rp.run_bind]
  generalize (tkP N a).run s = r
  obtain ⟨r1, s'⟩ := r
  cases r1 with
  | error E => rfl
  | ok o =>
    cases o with
    | none => rfl
    | some l => rfl
theorem fr_drew {Q : Nat → Prop} {W w' : World} (h : Fr Q W.drew w') : Fr Q W w' := ⟨h.os, h.tape, h.output, h.size, h.same⟩
theorem two12_mem {ca cb : Option Sp} {x : Sp} (hx : x ∈ two12 ca cb) : ca = some x ∨ cb = some x := by
  unfold two12 at hx
  cases ca with
  | none => cases cb with
    | none => simp at hx
    | some y => simp at hx; exact .inr (by rw [hx])
  | some y => cases cb with
    | none => simp at hx; exact .inl (by rw [hx])
    | some z =>
      simp only at hx
      split at hx
      · simp at hx
        rcases hx with rfl | rfl
        · exact .inr rfl
        · exact .inl rfl
      · simp at hx
        rcases hx with rfl | rfl
        · exact .inl rfl
        · exact .inr rfl
theorem two12_len (ca cb : Option Sp) : (two12 ca cb).length ≤ 2 := by
  unfold two12
  cases ca <;> cases cb <;> simp
  split <;> simp
theorem rsP_errE (N : Nat) (s : St) (E : Int) (h : ((rsP N).run s).1 = .error E) : E ≠ 0 := by
  unfold rsP Rp.run at h
  split at h
  · simp only [Rp.run] at h
    split at h
    · cases h
    · rename_i q
      have : opE (opS s) = E := by simpa using h
      rw [← this]; exact q
  · rename_i q
    have : opE s = E := by simpa using h
    rw [← this]; exact q
theorem ckP_errE (N : Nat) (x : Sp) : ∀ (m i : Nat) (l : List Int) (s : St) (E : Int), ((ckP N x m i l).run s).1 = .error E → E ≠ 0
  | 0, i, l, s, E, h => by simp [ckP, Rp.run] at h
  | m + 1, i, l, s, E, h => by
    rw [ckP_rd] at h
    split at h
    · cases hr : rx (gs (layA s.S s.P (sct N x.e i))) t2 x.e x.s i with
      | none => rw [hr] at h; cases h
      | some body =>
        rw [hr] at h
        simp only at h
        split at h
        · exact ckP_errE N x m _ _ _ E h
        · cases h
    · rename_i q
      have : opE s = E := by simpa using h
      rw [← this]; exact q
theorem tkP_errE (N : Nat) (x : Sp) (s : St) (E : Int) (h : ((tkP N x).run s).1 = .error E) : E ≠ 0 := by
  rw [tkP_run] at h
  have k := ckP_errE N x x.K 0 [] s
  generalize (ckP N x x.K 0 []).run s = r at *
  obtain ⟨r1, s'⟩ := r
  cases r1 with
  | error E' =>
    have e1 : E' = E := by simpa using h
    exact k E (by rw [e1])
  | ok o =>
    cases o with
    | none => cases h
    | some l => cases h
theorem tkP_SP (N : Nat) (x : Sp) (s : St) : ((tkP N x).run s).2.n = s.n ∧ ((tkP N x).run s).2.k = s.k := by
  have key : ∀ {α : Type} (r : Rp α) (s : St), (r.run s).2.n = s.n ∧ (r.run s).2.k = s.k := fun {α} r => by
    induction r with
    | ret a => intro s; exact ⟨rfl, rfl⟩
    | rd i k ih =>
      intro s
      unfold Rp.run
      split
      · obtain ⟨h1, h2⟩ := ih (gs (layA s.S s.P i)) (opS s)
        exact ⟨h1.trans (opS_n s), h2.trans (opS_k s)⟩
      · exact ⟨opS_n s, opS_k s⟩
  exact key _ s
theorem run_nk {α : Type} : ∀ (r : Rp α) (s : St), (r.run s).2.n = s.n ∧ (r.run s).2.k = s.k := fun r => by
  induction r with
  | ret a => intro s; exact ⟨rfl, rfl⟩
  | rd i k ih =>
    intro s
    unfold Rp.run
    split
    · obtain ⟨h1, h2⟩ := ih (gs (layA s.S s.P i)) (opS s)
      exact ⟨h1.trans (opS_n s), h2.trans (opS_k s)⟩
    · exact ⟨opS_n s, opS_k s⟩
set_option maxHeartbeats 8000000 in
theorem enter_ (g d mi ep nx pl : Nat) (s : St) (Q : Nat → Prop) (w : World) (h : Wq w g d mi ep nx pl false false s Q) (hsc : s.c ≤ 40000) (hP : s.P.length ≤ 90000) :
    Calls Tryz.prog 56 #[.pointer (some ⟨g, 0, none⟩)] w fun en w' => enPost s.n w.heap.size w' en g d mi ((fnP s.n).run s).1 ∧ Dev w' d ((fnP s.n).run s).2 Q ∧ Fr (Qg Q g) w w' ∧ ((fnP s.n).run s).2.c ≤ s.c + 8194 := by
  have c0 := h.lm.c0
  have kr := readSupers_ d s Q w h.dv h.tb h.n0 (by omega) (by omega)
  have HQ := hid h
  have hN := h.dv.n
  have hR : roo s.n ≤ 4095 := by unfold roo; omega
  have HFN : Hid ((fnP s.n).run s = match (rsP s.n).run s with
      | (.ok a, s') => (fsP s.n a).run s'
      | (.error e, s') => (.error e, s')) := by
    show _ = _
    rw [fnP_rsP, Rp.run_bind]
    generalize (rsP s.n).run s = r
    obtain ⟨r1, s'⟩ := r
    cases r1 <;> rfl
  have HSP := hid (Rp.run_SP (rsP s.n) s)
  have HNK := hid (run_nk (rsP s.n) s)
  have HEE := hid (rsP_errE s.n s)
  have HC1 : Hid (((rsP s.n).run s).2.c ≤ s.c + 2) := by
    show _ ≤ _
    have o1 := opS_c s
    have o2 := opS_c (opS s)
    unfold rsP Rp.run
    split
    · simp only [Rp.run]
      split
      · show (opS (opS s)).c ≤ _; omega
      · show (opS (opS s)).c ≤ _; omega
    · show (opS s).c ≤ _; omega
  have HLK : Hid (∀ l, ((rsP s.n).run s).1 = .ok l → ∀ x ∈ l, x.K ≤ roo s.n) := fun l hl => by
    have : l = two12 (cnX (gs (layA s.S s.P 0)) s.n 0) (cnX (gs (layA s.S s.P 1)) s.n 1) := by
      have := Rp.run_ok _ _ _ hl
      simpa [rsP, Rp.eval, dv] using this
    intro x hx
    rw [this] at hx
    rcases two12_mem hx with e | e
    · have := (cnX_some (h.dv.cur 0 (by omega)).2 e).2.1; omega
    · have := (cnX_some (h.dv.cur 1 (by omega)).2 e).2.1; omega
  have HLL : Hid (∀ l, ((rsP s.n).run s).1 = .ok l → l.length ≤ 2) := fun l hl => by
    have : l = two12 (cnX (gs (layA s.S s.P 0)) s.n 0) (cnX (gs (layA s.S s.P 1)) s.n 1) := by
      have := Rp.run_ok _ _ _ hl
      simpa [rsP, Rp.eval, dv] using this
    rw [this]
    exact two12_len _ _
  obtain ⟨r2, HR2⟩ : ∃ r2, Hid ((fnP s.n).run s = r2) := ⟨_, rfl⟩
  rw [HR2.out] at HFN ⊢
  obtain ⟨⟨r1, s1⟩, HR1⟩ : ∃ r1, Hid ((rsP s.n).run s = r1) := ⟨_, rfl⟩
  rw [HR1.out] at kr HFN HSP HNK HEE HC1 HLK HLL
  simp only at kr HFN HSP HNK HEE HC1 HLK HLL
  clear h
  go_enter Tryz.func56, Tryz.ntmps56
  go_wp2_with fail
  refine kr.mono ?_
  rintro en w1 ⟨hp, D1, F1⟩
  have HD1 := hid D1
  have HF1 := hid F1
  have HL1 := hid (HQ.out.lm.at (F1.same g HQ.out.lm.lt HQ.out.ng))
  have HT1 := hid (HQ.out.tb.fr F1 HQ.out.n0)
  have s1' := F1.size
  clear kr D1 F1
  cases r1 with
  | error E =>
    obtain rfl := hp
    have hE := HEE.out E rfl
    have hEb : (E != 0) = true := by rw [bne_iff_ne]; exact hE
    simp only at HFN
    clear hE
    go_wp2_with fail
    go_ret2
    rw [HFN.out]
    exact ⟨rfl, HD1.out, HF1.out.weak (fun b _ q => .inl q), by have := HC1.out; show s1.c ≤ _; omega⟩
  | ok l =>
    obtain ⟨a, c, rfl, hU, hnc, hcm, hnew, hx⟩ := hp
    simp only at HFN
    have HU := hid hU
    have HX := hid hx
    have HNEW := hid hnew
    have HQNEW : Hid (∀ ad, a = some ad → ¬ Q ad.block) := fun ad ha q => by have := hnew ad ha; have := HQ.out.dv.lt _ q; omega
    obtain ⟨m, Hm⟩ : ∃ m, Hid (l.length = m) := ⟨_, rfl⟩
    rw [Hm.out] at hU hnc HU ⊢
    unfold maxLen at hcm
    clear hU hx hnew
    go_wp2_with fail
    go_loopw [7, 8, 9, 10, 24] (fun _ _ _ _ i wr => ∃ j sj, j ≤ m ∧ i = .int .i64 (j : Nat) ∧ Hid ((fsP s.n (l.drop j)).run sj = r2) ∧ Hid (sj.S = s.S ∧ sj.P = s.P ∧ sj.n = s.n ∧ sj.c ≤ s.c + 2 + 4096 * j) ∧ Wm wr g d mi ep nx pl false false ∧ Us wr a m (l.map spv) ∧ Dev wr d sj Q ∧ Fr Q w wr ∧ Tab wr) (fun _ _ _ _ i _ => m - (intOf i).toNat)
    case atStart => exact ⟨0, s1, by omega, rfl, HFN.out.symm, ⟨HSP.out.1, HSP.out.2, HNK.out.1, by have := HC1.out; omega⟩, HL1.out, HU.out, HD1.out, HF1.out, HT1.out⟩
    case round =>
      obtain ⟨j, sj, hj, rfl, HRU, HS, L1, U1, D1, F1, T1⟩ := hrel
      obtain ⟨sS, sP, sn, sc⟩ := HS.out
      have hm2 : m ≤ 2 := by rw [← Hm.out]; exact HLL.out l rfl
      by_cases hlt2 : j < m
      · have hjI : (j : Int) < (m : Int) := by omega
        obtain ⟨x, HXj⟩ : ∃ x, Hid (l[j]? = some x) := ⟨l[j]'(by rw [Hm.out]; exact hlt2), by show _ = _; simp [Hm.out, hlt2]⟩
        have hxm := List.mem_of_getElem? HXj.out
        obtain ⟨x1, x2, x3, x4, x5⟩ := HX.out x hxm
        have hxK := HLK.out l rfl x hxm
        obtain ⟨gb, off, rfl, hcell⟩ : ∃ gb off, a = some ⟨gb, off, none⟩ ∧ ∀ i, i < m → _ := by
          rcases U1.2 with q | q
          · omega
          · exact q
        have hcj := hcell j hlt2
        have hgd : (l.map spv).getD j (0, 0, 0, 0) = spv x := by
          simp [List.getD, HXj.out]
        rw [hgd] at hcj
        obtain ⟨k0, k1, k2, k3⟩ := hcj
        unfold spv at k0 k1 k2 k3
        simp only at k0 k1 k2 k3
        have HDR : Hid (l.drop j = x :: l.drop (j + 1)) := by
          show _ = _
          have hjl : j < l.length := by rw [Hm.out]; exact hlt2
          rw [List.drop_eq_getElem_cons hjl]
          congr 1
          have := HXj.out
          rw [List.getElem?_eq_getElem hjl] at this
          exact Option.some.inj this
        have HFR := hid (fsP_run s.n x (l.drop (j + 1)) sj)
        rw [← HDR.out, HRU.out] at HFR
        have HTE := hid (tkP_errE s.n x sj)
        have HTN := hid (run_nk (tkP s.n x) sj)
        have HTS := hid (Rp.run_SP (tkP s.n x) sj)
        have HU1 := hid U1
        have HL1 := hid L1
        have HF1 := hid F1
        have HT1 := hid T1
        have kt := fun wx (hB : Below wr.heap.size wr wx) => readState_ x ⟨x1, x2, x3, x4, x5⟩ d sj Q wx (D1.below hB) (T1.bel hB) HQ.out.n0 (by rw [sn]; exact hxK) (by omega) (by rw [sP]; omega)
        simp only [sn] at kt
        have kN := fun w => pieces0_ (x.L : Int) w (by have := x1; unfold pcN at this; omega)
        simp only [Int.toNat_natCast] at kN
        rw [← x1] at kN
        obtain ⟨⟨rt1, sT⟩, HRT⟩ : ∃ r, Hid ((tkP s.n x).run sj = r) := ⟨_, rfl⟩
        rw [HRT.out] at HFR HTE HTN HTS
        simp only [HRT.out] at kt
        simp only at HTE HTN HTS
        have HX1 := hid x1
        have lc0 := L1.c0
        have s1w := F1.size
        have hgl := L1.lt
        obtain ⟨xe, xs, xK, xL, xm⟩ := x
        simp only at *
        clear L1 U1 D1 F1 T1 hcell hgd hxm x1 HRU HDR HXj
        go_wp2_with fail
        have BA := unew wr xe xs xL xm
        have U2 := Um.new wr xe xs xL xm
        have q0 := U2.c0
        have q1 := U2.c1
        have q2 := U2.c2
        have q3 := U2.c3
        have p0 := (BA.cell (p := ⟨g, 0, none⟩) hgl).trans lc0
        have kt1 : ∀ wx, Drawn (wr.alloc (.cells #[.int .i64 xe, .int .i64 xs, .int .i64 xL, .int .u32 xm] 88)) wx → _ := fun wx hx => kt wx (bel_bel BA BA.size hx.below)
        have HU2 := hid U2
        have HBA := hid BA
        clear kt BA U2 k0 k1 k2 k3 lc0
        have hszA := le_both (World.size_alloc wr (.cells #[.int .i64 xe, .int .i64 xs, .int .i64 xL, .int .u32 xm] 88))
        generalize wr.alloc (.cells #[.int .i64 xe, .int .i64 xs, .int .i64 xL, .int .u32 xm] 88) = W2 at *
        obtain ⟨gp, Hgp⟩ : ∃ gp, Hid (wr.heap.size = gp) := ⟨_, rfl⟩
        rw [Hgp.out] at q0 q1 q2 q3 HU2 ⊢
        have hgpw : w.heap.size ≤ gp := by have := Hgp.out; omega
        have hdr := le_both (show W2.drew.heap.size = W2.heap.size from rfl)
        have hgpW : gp < W2.heap.size := HU2.out.lt
        have hglW : g < W2.heap.size := by have := HBA.out.size; omega
        have nq : ∀ b, w.heap.size ≤ b → ¬ Q b := fun b hb q => by have := HQ.out.dv.lt b q; omega
        cases rt1 with
        | error E =>
          have hEb : (E != 0) = true := by rw [bne_iff_ne]; exact HTE.out E rfl
          simp only at HFR
          go_region_held (fun wx => wx.cell? ⟨gp, 0, none⟩ = some (.int .i64 xe) ∧ wx.cell? ⟨gp, 1, none⟩ = some (.int .i64 xs) ∧ wx.cell? ⟨gp, 2, none⟩ = some (.int .i64 xL) ∧ wx.cell? ⟨gp, 3, none⟩ = some (.int .u32 xm) ∧ wx.cell? ⟨g, 0, none⟩ = some (.pointer (some ⟨d, 0, none⟩))) (go_keep) (first | (go_at_call 76; refine (kt1 _ (by exact ⟨rfl, rfl, rfl, rfl⟩)).mono ?_; rintro en w5 ⟨hp, D5, F5, hc5⟩; obtain rfl := hp; have HD5 := hid D5; have HF5 := hid F5; have U5 := HU2.out.at (F5.same gp hgpW (nq gp hgpw)); have y0 := U5.c0; have y1 := U5.c1; have y2 := U5.c2; have y3 := U5.c3; have HU5 := hid U5; have L5 := (HL1.out.below HBA.out).at (F5.same g hglW HQ.out.ng); have y4 := L5.c0; have HL5 := hid L5; have hC5 := hid hc5; clear D5 F5 hc5 U5 L5))
          have HF6 : Hid (Fr Q w w5) := (HF1.out.below HBA.out).trans (fr_drew HF5.out)
          have HT6 := hid ((HT1.out.bel HBA.out).fr (fr_drew HF5.out) HQ.out.n0)
          clear kt1 y0 y1 y2 y3 y4
          go_wp2_with fail
          go_ret2
          rw [HFR.out]
          exact ⟨rfl, HD5.out, HF6.out.weak (fun b _ q => .inl q), by have := hC5.out; show sT.c ≤ _; omega⟩
        | ok o =>
          cases o with
          | none =>
            simp only at HFR
            go_region_held (fun wx => wx.cell? ⟨gp, 0, none⟩ = some (.int .i64 xe) ∧ wx.cell? ⟨gp, 1, none⟩ = some (.int .i64 xs) ∧ wx.cell? ⟨gp, 2, none⟩ = some (.int .i64 xL) ∧ wx.cell? ⟨gp, 3, none⟩ = some (.int .u32 xm) ∧ wx.cell? ⟨g, 0, none⟩ = some (.pointer (some ⟨d, 0, none⟩))) (go_keep) (first | (go_at_call 76; refine (kt1 _ (by exact ⟨rfl, rfl, rfl, rfl⟩)).mono ?_; rintro en w5 ⟨hp, D5, F5, hc5⟩; obtain ⟨v, rfl⟩ := hp; have HD5 := hid D5; have HF5 := hid F5; have U5 := HU2.out.at (F5.same gp hgpW (nq gp hgpw)); have y0 := U5.c0; have y1 := U5.c1; have y2 := U5.c2; have y3 := U5.c3; have HU5 := hid U5; have L5 := (HL1.out.below HBA.out).at (F5.same g hglW HQ.out.ng); have y4 := L5.c0; have HL5 := hid L5; have hC5 := hid hc5; clear D5 F5 hc5 U5 L5))
            have HF6 : Hid (Fr Q w w5) := (HF1.out.below HBA.out).trans (fr_drew HF5.out)
            have HT6 := hid ((HT1.out.bel HBA.out).fr (fr_drew HF5.out) HQ.out.n0)
            have HS5 : Hid (sT.S = s.S ∧ sT.P = s.P ∧ sT.n = s.n ∧ sT.c ≤ s.c + 2 + 4096 * (j + 1)) := ⟨HTS.out.1.trans sS, HTS.out.2.trans sP, HTN.out.1.trans sn, by have := hC5.out; omega⟩
            have HUs := hid (((HU1.out.fr (Fr.ofB (Q := Q) HBA.out) (fun ad ha _ => HQNEW.out ad ha)).fr (fr_drew HF5.out) (fun ad ha _ => HQNEW.out ad ha)))
            clear kt1 y0 y1 y2 y3 y4
            go_wp2_with fail
            go_roundw
            case rel => exact ⟨j + 1, sT, by omega, by go_num, HFR.out.symm, HS5.out, HL5.out, HUs.out, HD5.out, HF6.out, HT6.out⟩
            case measure => simp [intOf]; omega
          | some st =>
            simp only at HFR
            go_region_held (fun wx => wx.cell? ⟨gp, 0, none⟩ = some (.int .i64 xe) ∧ wx.cell? ⟨gp, 1, none⟩ = some (.int .i64 xs) ∧ wx.cell? ⟨gp, 2, none⟩ = some (.int .i64 xL) ∧ wx.cell? ⟨gp, 3, none⟩ = some (.int .u32 xm) ∧ wx.cell? ⟨g, 0, none⟩ = some (.pointer (some ⟨d, 0, none⟩))) (go_keep) (first | (go_at_call 76; refine (kt1 _ (by exact ⟨rfl, rfl, rfl, rfl⟩)).mono ?_; rintro en w5 ⟨hp, D5, F5, hc5⟩; obtain ⟨v, rfl, hov, hyst⟩ := hp; obtain ⟨va, vc, rfl, _, _, _⟩ := own_slice hov; have HO5 := hid hov; clear hov; have HD5 := hid D5; have HF5 := hid F5; have U5 := HU2.out.at (F5.same gp hgpW (nq gp hgpw)); have y0 := U5.c0; have y1 := U5.c1; have y2 := U5.c2; have y3 := U5.c3; have HU5 := hid U5; have L5 := (HL1.out.below HBA.out).at (F5.same g hglW HQ.out.ng); have y4 := L5.c0; have HL5 := hid L5; have hC5 := hid hc5; clear D5 F5 hc5 U5 L5))
            have HF6 : Hid (Fr Q w w5) := (HF1.out.below HBA.out).trans (fr_drew HF5.out)
            have HT6 := hid ((HT1.out.bel HBA.out).fr (fr_drew HF5.out) HQ.out.n0)
            have f2 := HL5.out.fz 2
            have f3 := HL5.out.fz 3
            have f4 := HL5.out.fz 4
            have l2 := HL5.out.c2
            have l3 := HL5.out.c3
            have l4 := HL5.out.c4
            have L6 := HL5.out.s2 xe
            have L7 := L6.s3 xs
            have L8 := L7.s4 xK
            have hne : gp ≠ g := fun q => by have := HQ.out.lm.lt; omega
            have U6 : Um (w5.setCell ⟨g, 2, none⟩ (.int .i64 xe)) gp xe xs xL xm := HU5.out.at (Below.heap_setCell _ _ _ _ hne)
            have U7 : Um ((w5.setCell ⟨g, 2, none⟩ (.int .i64 xe)).setCell ⟨g, 3, none⟩ (.int .i64 xs)) gp xe xs xL xm := U6.at (Below.heap_setCell _ _ _ _ hne)
            have U8 : Um (((w5.setCell ⟨g, 2, none⟩ (.int .i64 xe)).setCell ⟨g, 3, none⟩ (.int .i64 xs)).setCell ⟨g, 4, none⟩ (.int .i64 xK)) gp xe xs xL xm := U7.at (Below.heap_setCell _ _ _ _ hne)
            have a60 := U6.c0
            have a61 := U6.c1
            have a62 := U6.c2
            have a63 := L6.c3
            have a64 := L6.fz 3
            have a70 := U7.c0
            have a71 := U7.c1
            have a72 := U7.c2
            have a73 := L7.c4
            have a74 := L7.fz 4
            have a80 := U8.c0
            have a81 := U8.c1
            have a82 := U8.c2
            have FG : Fr (Qg Q g) w (((w5.setCell ⟨g, 2, none⟩ (.int .i64 xe)).setCell ⟨g, 3, none⟩ (.int .i64 xs)).setCell ⟨g, 4, none⟩ (.int .i64 xK)) := ((HF6.out.weak (fun b _ q => .inl q) : Fr (Qg Q g) w w5).trans (.of (grown_set (grown_set (grown_set (grown_refl w5 (some g)) 2 (.int .i64 xe)) 3 (.int .i64 xs)) 4 (.int .i64 xK)) (.inr rfl)))
            have GG : w5.grownBy (((w5.setCell ⟨g, 2, none⟩ (.int .i64 xe)).setCell ⟨g, 3, none⟩ (.int .i64 xs)).setCell ⟨g, 4, none⟩ (.int .i64 xK)) (some g) := grown_set (grown_set (grown_set (grown_refl w5 (some g)) 2 (.int .i64 xe)) 3 (.int .i64 xs)) 4 (.int .i64 xK)
            have HD8 := hid (HD5.out.fr (R := fun b => b = g) ⟨GG.os, GG.tape, GG.output, GG.size, fun b hb hn => GG.block b hb (fun q => hn (Option.some.inj q))⟩ (fun b hb q => HQ.out.ng (q ▸ hb)))
            have HO8 : Hid ((((w5.setCell ⟨g, 2, none⟩ (.int .i64 xe)).setCell ⟨g, 3, none⟩ (.int .i64 xs)).setCell ⟨g, 4, none⟩ (.int .i64 xK)).ownsRow w.heap.size 5 1 (.slice va st.length vc) st.length (cells st)) := own_at' (own_mono HO5.out (by have := HBA.out.size; omega)) (fun k e => GG.block k (by have := (HO5.out.lt k e).2; exact this) (fun q => by have h1 := (HO5.out.lt k e).1; have := HQ.out.lm.lt; have := Option.some.inj q; omega))
            have BD : Below (((w5.setCell ⟨g, 2, none⟩ (.int .i64 xe)).setCell ⟨g, 3, none⟩ (.int .i64 xs)).setCell ⟨g, 4, none⟩ (.int .i64 xK)).heap.size (((w5.setCell ⟨g, 2, none⟩ (.int .i64 xe)).setCell ⟨g, 3, none⟩ (.int .i64 xs)).setCell ⟨g, 4, none⟩ (.int .i64 xK)) (((w5.setCell ⟨g, 2, none⟩ (.int .i64 xe)).setCell ⟨g, 3, none⟩ (.int .i64 xs)).setCell ⟨g, 4, none⟩ (.int .i64 xK)).drew := ⟨rfl, rfl, rfl, Nat.le_refl _, fun _ _ => rfl⟩
            have HL8 := hid (L8.below BD)
            have HFG := hid (FG.below BD)
            have HD9 := hid (HD8.out.below BD)
            have HO9 := hid (own_bel12 HO8.out BD)
            clear BD L6 L7 L8 U6 U7 U8 FG GG
            clear kt1 y0 y1 y2 y3 y4
            have z0 := HU5.out.c0
            have z1 := HU5.out.c1
            have z2 := HU5.out.c2
            go_wp2_with fail
            go_region_held (fun wx => wx.cell? ⟨gp, 0, none⟩ = some (.int .i64 xe) ∧ wx.cell? ⟨gp, 1, none⟩ = some (.int .i64 xs) ∧ wx.cell? ⟨gp, 2, none⟩ = some (.int .i64 xL)) (go_keep) (first | (go_at_call 22; refine (kN _).mono ?_; rintro en wy ⟨rfl, hw⟩; obtain rfl := hw.symm; clear hw))
            clear z0 z1 z2 a60 a61 a62 a63 a64 a70 a71 a72 a73 a74 a80 a81 a82 f2 f3 f4 l2 l3 l4
            go_wp2_with fail
            go_ret2
            rw [HFR.out]
            exact ⟨⟨_, rfl, HO9.out, hyst, HL8.out, x3, x4, hxK⟩, HD9.out, HFG.out, by have := hC5.out; show sT.c ≤ _; omega⟩
      · obtain rfl : j = m := by omega
        have hjI : ¬ (j : Int) < (j : Int) := by omega
        have HDR : Hid (l.drop j = []) := by show _ = _; exact List.drop_of_length_le (by rw [Hm.out]; exact Nat.le_refl _)
        rw [HDR.out] at HRU
        have HR3 : Hid (r2 = (.ok none, sj)) := HRU.out.symm
        have HD1 := hid D1
        have HF1 := hid F1
        clear U1 L1 D1 F1 T1
        go_wp2_with fail
        go_ret2
        rw [HR3.out]
        exact ⟨rfl, HD1.out, HF1.out.weak (fun b _ q => .inl q), by show sj.c ≤ _; omega⟩
end Go.Proofs.YtblcpdffiafgnaaGreatDoor
