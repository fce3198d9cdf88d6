import Derived.Deep.RegionHeld
import Derived.Deep.RegionHeldLaw
import Derived.Test.YtblcpdffiafgnaaGreatDoorZF
namespace Go.Proofs.YtblcpdffiafgnaaGreatDoor
set_option linter.unusedSimpArgs false
set_option maxRecDepth 100000
open Go.RowKit Go.Shelf
set_option linter.unusedVariables false
set_option linter.unusedSimpArgs false
variable {Ee : Ex}

theorem bs_fr {w w' : World} {R : Nat → Prop} {a : Option Addr} {n : Nat} {zs : List Int} (h : Bs w a n zs) (hf : Fr R w w') (hq : ∀ ad, a = some ad → 0 < n → ¬ R ad.block) : Bs w' a n zs := by
  refine ⟨h.1, h.2.1, ?_⟩
  rcases h.2.2 with h0 | ⟨b, off, e, hc⟩
  · exact .inl h0
  · by_cases hn : n = 0
    · exact .inl hn
    · exact .inr ⟨b, off, e, fun i hi => (World.cell?_of_block (w := w) (a := ⟨b, off + i, none⟩) (hf.same b (World.block_lt_of_cell? w _ (hc i hi)) (hq _ e (by omega)))).trans (hc i hi)⟩
theorem apM_safe (T : Tp) (tx : List Int) : (apM T tx).safe = T.safe := by
  unfold apM
  split
  · rfl
  · split
    · rfl
    · split
      · rfl
      · split <;> rfl
theorem ckM_safe (T : Tp) (tx : List Int) : (ckM T tx).safe = T.safe := by
  unfold ckM
  split
  · rfl
  · split
    · rfl
    · split
      · rfl
      · split <;> rfl
theorem un_safe {T : Tp} (h : T.safe = false) (hl : T.lg ≠ none) (tx : List Int) : apM T tx = T ∧ apT T tx = T ∧ apE T tx = 115 ∧ ckM T tx = T ∧ ckT T tx = T ∧ ckE T tx = 115 := by
  unfold apM apT apE ckM ckT ckE
  cases hlg : T.lg with
  | none => exact absurd hlg hl
  | some y =>
    obtain ⟨ep, nx, pl⟩ := y
    simp only [h, if_true]
    simp
theorem no_log {T : Tp} (hl : T.lg = none) (tx : List Int) : apT T tx = T ∧ ckT T tx = T := by
  unfold apT ckT
  rw [hl]
  exact ⟨rfl, rfl⟩
/-- Behind with, its answer in a variable. -/
theorem mid3 {w0 w w2 : World} {t d g : Nat} {l : Value} {Q R : Nat → Prop} {b5 : Option Addr} {n5 m5 : Nat} {x1 s2 x2 s3 x3 : Value} {T : Tp} {m k cb tc' : Nat} {ta' ab : Option Addr} {vs : List Value} {tx : List Int} (H : Ti Ee w0 w t d g l Q R (.slice b5 n5 m5) x1 s2 x2 s3 x3 T) (hB : Below w.heap.size w w2) (hl : T.A.2.length = m) (hv : vs.length = m) (h7 : ∀ (j : Nat) u tx, vs[j]? = some u → T.A.2[j]? = some tx → Br w R u tx)
    (ho : w2.ownsRow w.heap.size 27 1 (.slice ta' (m + 1) tc') (m + 1) (vs ++ [.slice ab k cb])) (hb : Bs w2 ab k tx) (hab : ∀ x, ab = some x → w.heap.size ≤ x.block) (hc1 : k ≤ cb) (hc2 : cb ≤ maxLen) :
    Ti Ee w0 ((w2.alloc (.cells #[.slice none 0 0, .slice none 0 0] 39)).setRow w2.heap.size #[.slice b5 n5 m5, .slice ta' (m + 1) tc']) t d g l Q (fun b => R b ∨ b = w2.heap.size) (.slice b5 n5 m5) x1 s2 x2 s3 x3 T ∧ Ar ((w2.alloc (.cells #[.slice none 0 0, .slice none 0 0] 39)).setRow w2.heap.size #[.slice b5 n5 m5, .slice ta' (m + 1) tc']) (fun b => R b ∨ b = w2.heap.size) (.slice b5 n5 m5) (.slice ta' (m + 1) tc') (T.A.1, T.A.2 ++ [tx]) ∧ ((w2.alloc (.cells #[.slice none 0 0, .slice none 0 0] 39)).setRow w2.heap.size #[.slice b5 n5 m5, .slice ta' (m + 1) tc']).heap[w2.heap.size]? = some (.cells #[.slice b5 n5 m5, .slice ta' (m + 1) tc'] 39 (0, 0)) ∧ Below w.heap.size w ((w2.alloc (.cells #[.slice none 0 0, .slice none 0 0] 39)).setRow w2.heap.size #[.slice b5 n5 m5, .slice ta' (m + 1) tc']) := by
  have s2 := hB.size
  have F : Fr (fun b => b = w2.heap.size) (w2.alloc (.cells #[.slice none 0 0, .slice none 0 0] 39)) ((w2.alloc (.cells #[.slice none 0 0, .slice none 0 0] 39)).setRow w2.heap.size #[.slice b5 n5 m5, .slice ta' (m + 1) tc']) := fr_setRow _ _ _
  have hg : ((w2.alloc (.cells #[.slice none 0 0, .slice none 0 0] 39)).setRow w2.heap.size #[.slice b5 n5 m5, .slice ta' (m + 1) tc']).heap[w2.heap.size]? = some (.cells #[.slice b5 n5 m5, .slice ta' (m + 1) tc'] 39 (0, 0)) := row_ac (World.alloc_heap_new w2 _) _ _
  have B2 : Below w2.heap.size w2 (w2.alloc (.cells #[.slice none 0 0, .slice none 0 0] 39)) := (Below.refl _ _).alloc (Nat.le_refl _) _
  have B3 : Below w2.heap.size w2 ((w2.alloc (.cells #[.slice none 0 0, .slice none 0 0] 39)).setRow w2.heap.size #[.slice b5 n5 m5, .slice ta' (m + 1) tc']) := ⟨F.os.trans B2.os, F.tape.trans B2.tape, F.output.trans B2.output, Nat.le_trans B2.size F.size, fun b hb => (F.same b (Nat.lt_of_lt_of_le hb B2.size) (by omega)).trans (B2.block b hb)⟩
  have hlt : w2.heap.size < ((w2.alloc (.cells #[.slice none 0 0, .slice none 0 0] 39)).setRow w2.heap.size #[.slice b5 n5 m5, .slice ta' (m + 1) tc']).heap.size := (Array.getElem?_eq_some_iff.1 hg).1
  obtain ⟨W3, HW3⟩ : ∃ W3, ((w2.alloc (.cells #[.slice none 0 0, .slice none 0 0] 39)).setRow w2.heap.size #[.slice b5 n5 m5, .slice ta' (m + 1) tc']) = W3 := ⟨_, rfl⟩
  rw [HW3] at hg B3 hlt ⊢
  have B23 := bel_bel hB s2 B3
  have T3 := H.grow B23 s2 hlt
  have hr : ∀ b, b < w.heap.size → (R b ∨ b = w2.heap.size) → R b := fun b hb q => by
    rcases q with q | q
    · exact q
    · omega
  have hs : ∀ b, b < w.heap.size → ¬ R b → W3.heap[b]? = w.heap[b]? := fun b hb _ => B23.block b hb
  refine ⟨T3, ?_, hg, B23⟩
  have hsn := Ar.snoc (w := w2) (R := R) (s := .slice b5 n5 m5) (a := T.A) (B := w.heap.size) (fun b q => (H.rb b q).2) (H.a1.1.step (fun b hb _ => hB.block b hb) (fun _ _ q => q)) hl hv (fun j u tx hu ht => (h7 j u tx hu ht).step (fun b hb _ => hB.block b hb) (fun _ _ q => q)) ho hb hab hc1 hc2
  exact hsn.step (fun b hb _ => B3.block b hb) (fun b hb q => by
    rcases q with q | q
    · exact q
    · omega)
section
variable (w0 w : World) (t : Nat) (T : Tp) (n : Nat) (K N : Int) (old : Bool) (da : Option Addr) (dn dc : Nat) (dat : List Int) (fa : Option Addr) (fm fc : Nat) (fs : List (Int × Int)) (ka : Option Addr) (kn kc : Nat) (ks : List Bool) (z1 z2 z3 z4 z5 : Value)
set_option maxHeartbeats 8000000 in
theorem step_4 (h : Tw Ee w0 w t T) (hv : Tv T n) (hn : n ≤ 150) (ho : Oo w0 w da dn dc dat fa fm fs ka kn ks) :
    Calls Tryz.prog 10 #[.pointer (some ⟨t, 0, none⟩), .agg (opC 4 N old da dn dc fa fm fc ka kn kc z1 z2 z3 z4 z5)] w fun en w' => en = .returned (.bool true) ∧ ∃ T', Ts 4 dat fs ks T T' ∧ Tw Ee w0 w' t T' := by
  have B1 : Below w.heap.size w (w.alloc (.cells (opC 4 N old da dn dc fa fm fc ka kn kc z1 z2 z3 z4 z5) 33)) := (Below.refl _ _).alloc (Nat.le_refl _) _
  have r0 : (w.alloc (.cells (opC 4 N old da dn dc fa fm fc ka kn kc z1 z2 z3 z4 z5) 33)).heap[w.heap.size]? = some (.cells (opC 4 N old da dn dc fa fm fc ka kn kc z1 z2 z3 z4 z5) 33 (0, 0)) := World.alloc_heap_new w _
  obtain ⟨W, HW⟩ : ∃ W, w.alloc (.cells (opC 4 N old da dn dc fa fm fc ka kn kc z1 z2 z3 z4 z5) 33) = W := ⟨_, rfl⟩
  rw [HW] at B1 r0
  have c0 : W.cell? ⟨w.heap.size, 0, none⟩ = some (.int .i64 4) := (cell_of_row _ _ 0 _ _ (0, 0) r0).trans rfl
  have c3 : W.cell? ⟨w.heap.size, 3, none⟩ = some (.slice da dn dc) := (cell_of_row _ _ 3 _ _ (0, 0) r0).trans rfl
  have c1 : W.cell? ⟨w.heap.size, 1, none⟩ = some (.int .i64 N) := (cell_of_row _ _ 1 _ _ (0, 0) r0).trans rfl
  have hlw : w.heap.size < W.heap.size := (Array.getElem?_eq_some_iff.1 r0).1
  obtain ⟨d, g, l, Q, R, s1, x1, s2, x2, s3, x3, H⟩ := h
  have H1 := H.below B1
  have hRw : ∀ b, R b → b < w.heap.size := fun b q => (H.rb b q).2
  have main : ∀ (Wd : World) (b : Option Addr) (k c : Nat) (dt : List Int), Below W.heap.size W Wd → Bs Wd b k dt → (∀ ad, b = some ad → 0 < k → ¬ R ad.block) → k ≤ c → c ≤ maxLen → k ≤ 140737488351232 → True := fun _ _ _ _ _ _ _ _ _ _ _ => trivial
  clear main
  obtain ⟨Wd, HWd⟩ : ∃ Wd, W = Wd := ⟨_, rfl⟩
  obtain ⟨b, k, c, dt, eb, ek, ec, edt⟩ : ∃ (b : Option Addr) (k c : Nat) (dt : List Int), da = b ∧ dn = k ∧ dc = c ∧ dat = dt := ⟨_, _, _, _, rfl, rfl, rfl, rfl⟩
  have hbs : Bs W da dn dat := ho.hd.below B1
  have hbq : ∀ ad, da = some ad → 0 < dn → ¬ R ad.block := fun ad ha h0 q => by have := ho.hdq ad ha h0; have := (H.rb _ q).1; omega
  have hkc := ho.hdc
  have hcm := ho.hdm
  have hk47 := ho.hdn
  have BD : Below W.heap.size W W := Below.refl _ _
  subst eb ek ec edt HWd
  clear ho r0 B1
  go_enter Tryz.func10, Tryz.ntmps10
  have hby0 : By dat := hbs.2.1
  cases hlg : T.lg with
  | none =>
    have hl := H1.lg
    rw [hlg] at hl
    obtain rfl : l = .pointer none := hl
    have d1 : W.cell? ⟨t, 1, none⟩ = some (.pointer none) := H1.tn.cell 1
    have HF : Hid (Tw Ee w0 W t T) := ⟨_, _, _, _, _, _, _, _, _, _, _, H1⟩
    clear H1 H
    go_wp2_with fail
    go_ret
    exact ⟨rfl, _, .inr (.inr (.inl ⟨.inl rfl, dat, hby0, fun _ => rfl, (no_log hlg dat).1.symm⟩)), HF.out⟩
  | some y =>
    obtain ⟨ep, nx, pl⟩ := y
    obtain ⟨p1, p2, p3, p4, p5⟩ := hv.pl hlg
    obtain ⟨e1, _, gt, rg⟩ := H1.wq hlg p2
    subst e1
    obtain ⟨b5, n5, m5, b6, n6, m6, vs, rfl, rfl, _, _, _, hl6, hv6, hone, hcl, hnz, h7⟩ := H1.a1.form
    have d1 : W.cell? ⟨t, 1, none⟩ = some (.pointer (some ⟨g, 0, none⟩)) := H1.tn.cell 1
    have d3 : W.cell? ⟨t, 3, none⟩ = some (.slice b5 n5 m5) := H1.tn.cell 3
    have d4 : W.cell? ⟨t, 4, none⟩ = some (.slice b6 n6 m6) := H1.tn.cell 4
    have kw := with_ W b5 n5 m5 b6 n6 m6 vs da dn dc dat hv6 hone hcl hnz hbs (by have := hv.len; omega) hk47
    have HH := hid H1
    have HBS := hid hbs
    have HCL := hid h7
    have HC0 := hid c0
    have HQ := hid hbq
    have hszW : w.heap.size < W.heap.size := hlw
    clear H1 H hbs h7 hcl hone hnz hbq
    go_wp2_with fail
    refine kw.mono ?_
    rintro en w2 ⟨ta', tc', rfl, ab, cb, ho2, hb2, hab, hc1, hc2, B2⟩
    simp only
    have M3 := mid3 HH.out B2 hl6 hv6 HCL.out ho2 hb2 hab hc1 hc2
    have hz2 : (w2.alloc (.cells #[.slice none 0 0, .slice none 0 0] 39)).heap[w2.heap.size]? = some (.cells #[.slice none 0 0, .slice none 0 0] 39 (0, 0)) := World.alloc_heap_new w2 _
    obtain ⟨W3, HW3⟩ : ∃ W3, Hid (((w2.alloc (.cells #[.slice none 0 0, .slice none 0 0] 39)).setRow w2.heap.size #[.slice b5 n5 m5, .slice ta' (n6 + 1) tc']) = W3) := ⟨_, rfl⟩
    rw [HW3.out] at M3
    obtain ⟨T3, A3, G3, B3⟩ := M3
    have b3 := HBS.out.below B3
    have sB2 := B2.size
    have e0 : W3.cell? ⟨w.heap.size, 0, none⟩ = some (.int .i64 4) := (B3.cell (p := ⟨w.heap.size, 0, none⟩) hszW).trans HC0.out
    have e1 : W3.cell? ⟨t, 1, none⟩ = some (.pointer (some ⟨g, 0, none⟩)) := T3.tn.cell 1
    have hq3 : ∀ ad, da = some ad → 0 < dn → ¬ (R ad.block ∨ ad.block = w2.heap.size) := fun ad ha h0 q => by
      rcases q with q | q
      · exact HQ.out ad ha h0 q
      · rcases HBS.out.2.2 with h00 | ⟨bb, off, e, hc⟩
        · omega
        · rw [e] at ha
          cases ha
          have := World.block_lt_of_cell? _ _ (hc 0 h0)
          simp only at this q
          omega
    have ka := app_mid T3 hv hn hlg da dn dc dat b3 hq3 hkc hcm (by omega)
    have HT3 := hid T3
    have HA3 := hid A3
    have HG3 := hid G3
    have HB3 := hid b3
    clear kw ho2 hb2 hab hc1 hc2 B2 T3 A3 G3 b3 hq3 HCL HQ d1 d3 d4
    go_wp2_with (with_reducible show wpList _ _ _ (_ :: _) _ _; refine wpList_ac rfl rfl _ _ rfl w2.heap.size (.slice b5 n5 m5) (.slice ta' (n6 + 1) tc') rfl rfl rfl rfl _ _ hz2 ?_; rw [HW3.out])
    refine ka.mono ?_
    rintro en w4 ⟨rfl, Q', R', T4, F4, hQ4, hR34, hR4⟩
    simp only
    have g2t : w2.heap.size ≠ t := fun q => by have := HH.out.tn.lt; omega
    have hgl : g < W.heap.size := (HH.out.rb g rg).2
    have h2Q : ¬ Qg Q g w2.heap.size := fun q => by
      rcases q with q | q
      · have := HH.out.dv.lt _ q; omega
      · omega
    have h23 : w2.heap.size < W3.heap.size := (Array.getElem?_eq_some_iff.1 HG3.out).1
    have G4 : w4.heap[w2.heap.size]? = some (.cells #[.slice b5 n5 m5, .slice ta' (n6 + 1) tc'] 39 (0, 0)) := (F4.same _ h23 h2Q).trans HG3.out
    have F4R : Fr (fun b => R b ∨ b = w2.heap.size) W3 w4 := F4.weak (fun b _ q => by
      rcases q with q | q
      · exact .inl (HH.out.qr b q)
      · exact .inl (q ▸ rg))
    have A4 := HA3.out.fr F4R hR4
    have f0 : w4.cell? ⟨w2.heap.size, 0, none⟩ = some (.slice b5 n5 m5) := (cell_of_row _ _ 0 _ _ (0, 0) G4).trans rfl
    have f1 : w4.cell? ⟨w2.heap.size, 1, none⟩ = some (.slice ta' (n6 + 1) tc') := (cell_of_row _ _ 1 _ _ (0, 0) G4).trans rfl
    have f2 : w4.cell? ⟨t, 2, none⟩ = some (.bool (apM T dat).safe) := T4.tn.cell 2
    rw [apM_safe] at f2
    clear ka F4 F4R G4 HT3 HA3 HG3 HB3 e0 e1
    cases hsf : T.safe with
    | false =>
      obtain ⟨u1, u2, u3, _⟩ := un_safe hsf (by rw [hlg]; simp) dat
      rw [u1] at T4
      rw [hsf] at f2
      rw [u3]
      have HF : Hid (Tw Ee w0 w4 t T) := ⟨_, _, _, _, _, _, _, _, _, _, _, T4⟩
      clear T4 A4
      go_wp2_with (go_at_call 21; refine (num12 _ _).mono ?_; rintro e w' ⟨rfl, hw⟩; obtain rfl := hw.symm; clear hw)
      go_ret
      exact ⟨rfl, _, .inr (.inr (.inl ⟨.inl rfl, dat, hby0, fun _ => rfl, u2.symm⟩)), HF.out⟩
    | true =>
      rw [hsf] at f2
      have ks := settles_ w0 w4 t d g _ Q' R' _ _ _ _ _ _ _ T4 (apE T dat) (apE_is hv (by omega) hsf dat) _ _ _ A4
      have hst := (apM_st hv (by omega) hsf dat).resolve_right (by rw [hlg]; simp)
      rw [hst] at ks
      obtain ⟨E, HE⟩ : ∃ E, apE T dat = E := ⟨_, rfl⟩
      rw [HE] at ks ⊢
      clear T4 A4 HE
      go_wp2_with fail
      refine ks.mono ?_
      rintro en w5 ⟨rfl, h5⟩
      simp only
      have HF := hid h5
      clear ks h5
      go_wp2_with fail
      go_ret
      exact ⟨rfl, _, .inr (.inr (.inl ⟨.inl rfl, dat, hby0, fun _ => rfl, rfl⟩)), HF.out⟩
end
end Go.Proofs.YtblcpdffiafgnaaGreatDoor
namespace Go.Proofs.YtblcpdffiafgnaaGreatDoor
set_option linter.unusedSimpArgs false
set_option maxRecDepth 100000
open Go.RowKit Go.Shelf
set_option linter.unusedVariables false
set_option linter.unusedSimpArgs false
variable {Ee : Ex}

section
variable (w0 w : World) (t : Nat) (T : Tp) (n : Nat) (K N : Int) (old : Bool) (da : Option Addr) (dn dc : Nat) (dat : List Int) (fa : Option Addr) (fm fc : Nat) (fs : List (Int × Int)) (ka : Option Addr) (kn kc : Nat) (ks : List Bool) (z1 z2 z3 z4 z5 : Value)
set_option maxHeartbeats 8000000 in
theorem step_5 (h : Tw Ee w0 w t T) (hv : Tv T n) (hn : n ≤ 150) (ho : Oo w0 w da dn dc dat fa fm fs ka kn ks) :
    Calls Tryz.prog 10 #[.pointer (some ⟨t, 0, none⟩), .agg (opC 5 N old da dn dc fa fm fc ka kn kc z1 z2 z3 z4 z5)] w fun en w' => en = .returned (.bool true) ∧ ∃ T', Ts 5 dat fs ks T T' ∧ Tw Ee w0 w' t T' := by
  have B1 : Below w.heap.size w (w.alloc (.cells (opC 5 N old da dn dc fa fm fc ka kn kc z1 z2 z3 z4 z5) 33)) := (Below.refl _ _).alloc (Nat.le_refl _) _
  have r0 : (w.alloc (.cells (opC 5 N old da dn dc fa fm fc ka kn kc z1 z2 z3 z4 z5) 33)).heap[w.heap.size]? = some (.cells (opC 5 N old da dn dc fa fm fc ka kn kc z1 z2 z3 z4 z5) 33 (0, 0)) := World.alloc_heap_new w _
  obtain ⟨W, HW⟩ : ∃ W, w.alloc (.cells (opC 5 N old da dn dc fa fm fc ka kn kc z1 z2 z3 z4 z5) 33) = W := ⟨_, rfl⟩
  rw [HW] at B1 r0
  have c0 : W.cell? ⟨w.heap.size, 0, none⟩ = some (.int .i64 5) := (cell_of_row _ _ 0 _ _ (0, 0) r0).trans rfl
  have c3 : W.cell? ⟨w.heap.size, 3, none⟩ = some (.slice da dn dc) := (cell_of_row _ _ 3 _ _ (0, 0) r0).trans rfl
  have c1 : W.cell? ⟨w.heap.size, 1, none⟩ = some (.int .i64 N) := (cell_of_row _ _ 1 _ _ (0, 0) r0).trans rfl
  have hlw : w.heap.size < W.heap.size := (Array.getElem?_eq_some_iff.1 r0).1
  obtain ⟨d, g, l, Q, R, s1, x1, s2, x2, s3, x3, H⟩ := h
  have H1 := H.below B1
  have hRw : ∀ b, R b → b < w.heap.size := fun b q => (H.rb b q).2
  have main : ∀ (Wd : World) (b : Option Addr) (k c : Nat) (dt : List Int), Below W.heap.size W Wd → Bs Wd b k dt → (∀ ad, b = some ad → 0 < k → ¬ R ad.block) → k ≤ c → c ≤ maxLen → k ≤ 140737488351232 → True := fun _ _ _ _ _ _ _ _ _ _ _ => trivial
  clear main
  have kb := bytes12_ N W
  have HC0 := hid c0
  have HH1 := hid H1
  have HRW := hid hRw
  clear ho r0 B1 H H1 hRw
  go_enter Tryz.func10, Tryz.ntmps10
  go_wp2_with fail
  refine kb.mono ?_
  rintro en Wd ⟨vd, rfl, dt, hown, hby, hlen, BD⟩
  simp only
  obtain ⟨b, c, rfl, hbs, hkc, hcm, _⟩ := own_form (own_mono hown (Nat.zero_le _)) hby
  have hk47 : dt.length ≤ 140737488351232 := by omega
  have hRw := HRW.out
  have hbq : ∀ ad, b = some ad → 0 < dt.length → ¬ R ad.block := fun ad ha h0 q => by
    have h1 := HRW.out _ q
    subst ha
    have h2 := hown.lt ad.block (by rcases hown.2 with ⟨e, _⟩ | ⟨g', cap, cur, e, _⟩ <;> cases e; rfl)
    omega
  have H1 := HH1.out.below BD
  have c0 := (BD.cell (p := ⟨w.heap.size, 0, none⟩) hlw).trans HC0.out
  clear kb hown HH1 HC0 HRW c1 c3
  have hby0 : By dt := hbs.2.1
  cases hlg : T.lg with
  | none =>
    have hl := H1.lg
    rw [hlg] at hl
    obtain rfl : l = .pointer none := hl
    have d1 : Wd.cell? ⟨t, 1, none⟩ = some (.pointer none) := H1.tn.cell 1
    have HF : Hid (Tw Ee w0 Wd t T) := ⟨_, _, _, _, _, _, _, _, _, _, _, H1⟩
    clear H1 
    go_wp2_with fail
    go_ret
    exact ⟨rfl, _, .inr (.inr (.inl ⟨.inr rfl, dt, hby0, fun q => absurd q (by decide), (no_log hlg dt).1.symm⟩)), HF.out⟩
  | some y =>
    obtain ⟨ep, nx, pl⟩ := y
    obtain ⟨p1, p2, p3, p4, p5⟩ := hv.pl hlg
    obtain ⟨e1, _, gt, rg⟩ := H1.wq hlg p2
    subst e1
    obtain ⟨b5, n5, m5, b6, n6, m6, vs, rfl, rfl, _, _, _, hl6, hv6, hone, hcl, hnz, h7⟩ := H1.a1.form
    have d1 : Wd.cell? ⟨t, 1, none⟩ = some (.pointer (some ⟨g, 0, none⟩)) := H1.tn.cell 1
    have d3 : Wd.cell? ⟨t, 3, none⟩ = some (.slice b5 n5 m5) := H1.tn.cell 3
    have d4 : Wd.cell? ⟨t, 4, none⟩ = some (.slice b6 n6 m6) := H1.tn.cell 4
    have kw := with_ Wd b5 n5 m5 b6 n6 m6 vs b dt.length c dt hv6 hone hcl hnz hbs (by have := hv.len; omega) hk47
    have HH := hid H1
    have HBS := hid hbs
    have HCL := hid h7
    have HC0 := hid c0
    have HQ := hid hbq
    have hszW : w.heap.size < Wd.heap.size := Nat.lt_of_lt_of_le hlw BD.size
    clear H1  hbs h7 hcl hone hnz hbq
    go_wp2_with fail
    refine kw.mono ?_
    rintro en w2 ⟨ta', tc', rfl, ab, cb, ho2, hb2, hab, hc1, hc2, B2⟩
    simp only
    have M3 := mid3 HH.out B2 hl6 hv6 HCL.out ho2 hb2 hab hc1 hc2
    have hz2 : (w2.alloc (.cells #[.slice none 0 0, .slice none 0 0] 39)).heap[w2.heap.size]? = some (.cells #[.slice none 0 0, .slice none 0 0] 39 (0, 0)) := World.alloc_heap_new w2 _
    obtain ⟨W3, HW3⟩ : ∃ W3, Hid (((w2.alloc (.cells #[.slice none 0 0, .slice none 0 0] 39)).setRow w2.heap.size #[.slice b5 n5 m5, .slice ta' (n6 + 1) tc']) = W3) := ⟨_, rfl⟩
    rw [HW3.out] at M3
    obtain ⟨T3, A3, G3, B3⟩ := M3
    have b3 := HBS.out.below B3
    have sB2 := B2.size
    have e0 : W3.cell? ⟨w.heap.size, 0, none⟩ = some (.int .i64 5) := (B3.cell (p := ⟨w.heap.size, 0, none⟩) hszW).trans HC0.out
    have e1 : W3.cell? ⟨t, 1, none⟩ = some (.pointer (some ⟨g, 0, none⟩)) := T3.tn.cell 1
    have hq3 : ∀ ad, b = some ad → 0 < dt.length → ¬ (R ad.block ∨ ad.block = w2.heap.size) := fun ad ha h0 q => by
      rcases q with q | q
      · exact HQ.out ad ha h0 q
      · rcases HBS.out.2.2 with h00 | ⟨bb, off, e, hc⟩
        · omega
        · rw [e] at ha
          cases ha
          have := World.block_lt_of_cell? _ _ (hc 0 h0)
          simp only at this q
          omega
    have ka := app_mid T3 hv hn hlg b dt.length c dt b3 hq3 hkc hcm (by omega)
    have HT3 := hid T3
    have HA3 := hid A3
    have HG3 := hid G3
    have HB3 := hid b3
    clear kw ho2 hb2 hab hc1 hc2 B2 T3 A3 G3 b3 hq3 HCL HQ d1 d3 d4
    go_wp2_with (with_reducible show wpList _ _ _ (_ :: _) _ _; refine wpList_ac rfl rfl _ _ rfl w2.heap.size (.slice b5 n5 m5) (.slice ta' (n6 + 1) tc') rfl rfl rfl rfl _ _ hz2 ?_; rw [HW3.out])
    refine ka.mono ?_
    rintro en w4 ⟨rfl, Q', R', T4, F4, hQ4, hR34, hR4⟩
    simp only
    have g2t : w2.heap.size ≠ t := fun q => by have := HH.out.tn.lt; omega
    have hgl : g < Wd.heap.size := (HH.out.rb g rg).2
    have h2Q : ¬ Qg Q g w2.heap.size := fun q => by
      rcases q with q | q
      · have := HH.out.dv.lt _ q; omega
      · omega
    have h23 : w2.heap.size < W3.heap.size := (Array.getElem?_eq_some_iff.1 HG3.out).1
    have G4 : w4.heap[w2.heap.size]? = some (.cells #[.slice b5 n5 m5, .slice ta' (n6 + 1) tc'] 39 (0, 0)) := (F4.same _ h23 h2Q).trans HG3.out
    have F4R : Fr (fun b => R b ∨ b = w2.heap.size) W3 w4 := F4.weak (fun b _ q => by
      rcases q with q | q
      · exact .inl (HH.out.qr b q)
      · exact .inl (q ▸ rg))
    have A4 := HA3.out.fr F4R hR4
    have f0 : w4.cell? ⟨w2.heap.size, 0, none⟩ = some (.slice b5 n5 m5) := (cell_of_row _ _ 0 _ _ (0, 0) G4).trans rfl
    have f1 : w4.cell? ⟨w2.heap.size, 1, none⟩ = some (.slice ta' (n6 + 1) tc') := (cell_of_row _ _ 1 _ _ (0, 0) G4).trans rfl
    have f2 : w4.cell? ⟨t, 2, none⟩ = some (.bool (apM T dt).safe) := T4.tn.cell 2
    rw [apM_safe] at f2
    clear ka F4 F4R G4 HT3 HA3 HG3 HB3 e0 e1
    cases hsf : T.safe with
    | false =>
      obtain ⟨u1, u2, u3, _⟩ := un_safe hsf (by rw [hlg]; simp) dt
      rw [u1] at T4
      rw [hsf] at f2
      rw [u3]
      have HF : Hid (Tw Ee w0 w4 t T) := ⟨_, _, _, _, _, _, _, _, _, _, _, T4⟩
      clear T4 A4
      go_wp2_with (go_at_call 21; refine (num12 _ _).mono ?_; rintro e w' ⟨rfl, hw⟩; obtain rfl := hw.symm; clear hw)
      go_ret
      exact ⟨rfl, _, .inr (.inr (.inl ⟨.inr rfl, dt, hby0, fun q => absurd q (by decide), u2.symm⟩)), HF.out⟩
    | true =>
      rw [hsf] at f2
      have ks := settles_ w0 w4 t d g _ Q' R' _ _ _ _ _ _ _ T4 (apE T dt) (apE_is hv (by omega) hsf dt) _ _ _ A4
      have hst := (apM_st hv (by omega) hsf dt).resolve_right (by rw [hlg]; simp)
      rw [hst] at ks
      obtain ⟨E, HE⟩ : ∃ E, apE T dt = E := ⟨_, rfl⟩
      rw [HE] at ks ⊢
      clear T4 A4 HE
      go_wp2_with fail
      refine ks.mono ?_
      rintro en w5 ⟨rfl, h5⟩
      simp only
      have HF := hid h5
      clear ks h5
      go_wp2_with fail
      go_ret
      exact ⟨rfl, _, .inr (.inr (.inl ⟨.inr rfl, dt, hby0, fun q => absurd q (by decide), rfl⟩)), HF.out⟩
end
end Go.Proofs.YtblcpdffiafgnaaGreatDoor
namespace Go.Proofs.YtblcpdffiafgnaaGreatDoor
set_option linter.unusedSimpArgs false
set_option maxRecDepth 100000
open Go.RowKit Go.Shelf
set_option linter.unusedVariables false
set_option linter.unusedSimpArgs false
variable {Ee : Ex}

section
variable (w0 w : World) (t : Nat) (T : Tp) (n : Nat) (K N : Int) (old : Bool) (da : Option Addr) (dn dc : Nat) (dat : List Int) (fa : Option Addr) (fm fc : Nat) (fs : List (Int × Int)) (ka : Option Addr) (kn kc : Nat) (ks : List Bool) (z1 z2 z3 z4 z5 : Value)
set_option maxHeartbeats 8000000 in
theorem step_6 (h : Tw Ee w0 w t T) (hv : Tv T n) (hn : n ≤ 150) (ho : Oo w0 w da dn dc dat fa fm fs ka kn ks) :
    Calls Tryz.prog 10 #[.pointer (some ⟨t, 0, none⟩), .agg (opC 6 N old da dn dc fa fm fc ka kn kc z1 z2 z3 z4 z5)] w fun en w' => en = .returned (.bool true) ∧ ∃ T', Ts 6 dat fs ks T T' ∧ Tw Ee w0 w' t T' := by
  have B1 : Below w.heap.size w (w.alloc (.cells (opC 6 N old da dn dc fa fm fc ka kn kc z1 z2 z3 z4 z5) 33)) := (Below.refl _ _).alloc (Nat.le_refl _) _
  have r0 : (w.alloc (.cells (opC 6 N old da dn dc fa fm fc ka kn kc z1 z2 z3 z4 z5) 33)).heap[w.heap.size]? = some (.cells (opC 6 N old da dn dc fa fm fc ka kn kc z1 z2 z3 z4 z5) 33 (0, 0)) := World.alloc_heap_new w _
  obtain ⟨W, HW⟩ : ∃ W, w.alloc (.cells (opC 6 N old da dn dc fa fm fc ka kn kc z1 z2 z3 z4 z5) 33) = W := ⟨_, rfl⟩
  rw [HW] at B1 r0
  have c0 : W.cell? ⟨w.heap.size, 0, none⟩ = some (.int .i64 6) := (cell_of_row _ _ 0 _ _ (0, 0) r0).trans rfl
  have c3 : W.cell? ⟨w.heap.size, 3, none⟩ = some (.slice da dn dc) := (cell_of_row _ _ 3 _ _ (0, 0) r0).trans rfl
  have c1 : W.cell? ⟨w.heap.size, 1, none⟩ = some (.int .i64 N) := (cell_of_row _ _ 1 _ _ (0, 0) r0).trans rfl
  have hlw : w.heap.size < W.heap.size := (Array.getElem?_eq_some_iff.1 r0).1
  obtain ⟨d, g, l, Q, R, s1, x1, s2, x2, s3, x3, H⟩ := h
  have H1 := H.below B1
  have hRw : ∀ b, R b → b < w.heap.size := fun b q => (H.rb b q).2
  have main : ∀ (Wd : World) (b : Option Addr) (k c : Nat) (dt : List Int), Below W.heap.size W Wd → Bs Wd b k dt → (∀ ad, b = some ad → 0 < k → ¬ R ad.block) → k ≤ c → c ≤ maxLen → k ≤ 140737488351232 → True := fun _ _ _ _ _ _ _ _ _ _ _ => trivial
  clear main
  obtain ⟨Wd, HWd⟩ : ∃ Wd, W = Wd := ⟨_, rfl⟩
  obtain ⟨b, k, c, dt, eb, ek, ec, edt⟩ : ∃ (b : Option Addr) (k c : Nat) (dt : List Int), da = b ∧ dn = k ∧ dc = c ∧ dat = dt := ⟨_, _, _, _, rfl, rfl, rfl, rfl⟩
  have hbs : Bs W da dn dat := ho.hd.below B1
  have hbq : ∀ ad, da = some ad → 0 < dn → ¬ R ad.block := fun ad ha h0 q => by have := ho.hdq ad ha h0; have := (H.rb _ q).1; omega
  have hkc := ho.hdc
  have hcm := ho.hdm
  have hk47 := ho.hdn
  have BD : Below W.heap.size W W := Below.refl _ _
  subst eb ek ec edt HWd
  clear ho r0 B1
  go_enter Tryz.func10, Tryz.ntmps10
  have hby0 : By dat := hbs.2.1
  cases hlg : T.lg with
  | none =>
    have hl := H1.lg
    rw [hlg] at hl
    obtain rfl : l = .pointer none := hl
    have d1 : W.cell? ⟨t, 1, none⟩ = some (.pointer none) := H1.tn.cell 1
    have HF : Hid (Tw Ee w0 W t T) := ⟨_, _, _, _, _, _, _, _, _, _, _, H1⟩
    clear H1 H
    go_wp2_with fail
    go_ret
    exact ⟨rfl, _, .inr (.inr (.inr (.inl ⟨.inl rfl, dat, hby0, fun _ => rfl, (no_log hlg dat).2.symm⟩))), HF.out⟩
  | some y =>
    obtain ⟨ep, nx, pl⟩ := y
    obtain ⟨p1, p2, p3, p4, p5⟩ := hv.pl hlg
    obtain ⟨e1, _, gt, rg⟩ := H1.wq hlg p2
    subst e1
    obtain ⟨b5, n5, m5, b6, n6, m6, vs, rfl, rfl, _, _, _, hl6, hv6, hone, hcl, hnz, h7⟩ := H1.a1.form
    have d1 : W.cell? ⟨t, 1, none⟩ = some (.pointer (some ⟨g, 0, none⟩)) := H1.tn.cell 1
    have d3 : W.cell? ⟨t, 3, none⟩ = some (.slice b5 n5 m5) := H1.tn.cell 3
    have d4 : W.cell? ⟨t, 4, none⟩ = some (.slice b6 n6 m6) := H1.tn.cell 4
    have kw := with_ W b5 n5 m5 b6 n6 m6 vs da dn dc dat hv6 hone hcl hnz hbs (by have := hv.len; omega) hk47
    have HH := hid H1
    have HBS := hid hbs
    have HCL := hid h7
    have HC0 := hid c0
    have HQ := hid hbq
    have HNQ := hid hbq
    have hszW : w.heap.size < W.heap.size := hlw
    clear H1 H hbs h7 hcl hone hnz hbq
    go_wp2_with fail
    refine kw.mono ?_
    rintro en w2 ⟨ta', tc', rfl, ab, cb, ho2, hb2, hab, hc1, hc2, B2⟩
    simp only
    have M3 := mid3 HH.out B2 hl6 hv6 HCL.out ho2 hb2 hab hc1 hc2
    have hz2 : (w2.alloc (.cells #[.slice none 0 0, .slice none 0 0] 39)).heap[w2.heap.size]? = some (.cells #[.slice none 0 0, .slice none 0 0] 39 (0, 0)) := World.alloc_heap_new w2 _
    obtain ⟨W3, HW3⟩ : ∃ W3, Hid (((w2.alloc (.cells #[.slice none 0 0, .slice none 0 0] 39)).setRow w2.heap.size #[.slice b5 n5 m5, .slice ta' (n6 + 1) tc']) = W3) := ⟨_, rfl⟩
    rw [HW3.out] at M3
    obtain ⟨T3, A3, G3, B3⟩ := M3
    have b3 := HBS.out.below B3
    have sB2 := B2.size
    have e0 : W3.cell? ⟨w.heap.size, 0, none⟩ = some (.int .i64 6) := (B3.cell (p := ⟨w.heap.size, 0, none⟩) hszW).trans HC0.out
    have e1 : W3.cell? ⟨t, 1, none⟩ = some (.pointer (some ⟨g, 0, none⟩)) := T3.tn.cell 1
    have hq3 : ∀ ad, da = some ad → 0 < dn → ¬ (R ad.block ∨ ad.block = w2.heap.size) := fun ad ha h0 q => by
      rcases q with q | q
      · exact HQ.out ad ha h0 q
      · rcases HBS.out.2.2 with h00 | ⟨bb, off, e, hc⟩
        · omega
        · rw [e] at ha
          cases ha
          have := World.block_lt_of_cell? _ _ (hc 0 h0)
          simp only at this q
          omega
    have ka := ck_mid T3 hv hn hlg da dn dc dat b3 hq3 hkc hcm (by omega)
    have HT3 := hid T3
    have HA3 := hid A3
    have HG3 := hid G3
    have HB3 := hid b3
    clear kw ho2 hb2 hab hc1 hc2 B2 T3 A3 G3 b3 hq3 HCL HQ d1 d3 d4
    go_wp2_with (with_reducible show wpList _ _ _ (_ :: _) _ _; refine wpList_ac rfl rfl _ _ rfl w2.heap.size (.slice b5 n5 m5) (.slice ta' (n6 + 1) tc') rfl rfl rfl rfl _ _ hz2 ?_; rw [HW3.out])
    refine ka.mono ?_
    rintro en w4 ⟨rfl, Q', R', T4, F4, hQ4, hR34, hR4⟩
    simp only
    have g2t : w2.heap.size ≠ t := fun q => by have := HH.out.tn.lt; omega
    have hgl : g < W.heap.size := (HH.out.rb g rg).2
    have h2Q : ¬ Qg Q g w2.heap.size := fun q => by
      rcases q with q | q
      · have := HH.out.dv.lt _ q; omega
      · omega
    have h23 : w2.heap.size < W3.heap.size := (Array.getElem?_eq_some_iff.1 HG3.out).1
    have G4 : w4.heap[w2.heap.size]? = some (.cells #[.slice b5 n5 m5, .slice ta' (n6 + 1) tc'] 39 (0, 0)) := (F4.same _ h23 h2Q).trans HG3.out
    have F4R : Fr (fun b => R b ∨ b = w2.heap.size) W3 w4 := F4.weak (fun b _ q => by
      rcases q with q | q
      · exact .inl (HH.out.qr b q)
      · exact .inl (q ▸ rg))
    have kb := refBytes da dn dc dat w4 (bs_fr HB3.out F4R (fun ad ha h0 q => by
      have hlt : ad.block < W.heap.size := by
        rcases HBS.out.2.2 with h00 | ⟨bb, off, e, hc⟩
        · omega
        · rw [e] at ha
          cases ha
          exact World.block_lt_of_cell? _ _ (hc 0 h0)
      rcases q with q | q
      · exact HNQ.out ad ha h0 q
      · omega)) hk47
    have HT4 := hid T4
    have HG4 := hid G4
    clear ka F4 F4R G4 HT3 HA3 HG3 e0 e1 T4
    go_wp2_with fail
    refine kb.mono ?_
    rintro en w5 ⟨v5, rfl, ho5, B5⟩
    simp only
    obtain ⟨a5, c5, rfl, _⟩ := own_form (own_mono ho5 (Nat.zero_le _)) hby0
    have h24 : w2.heap.size < w4.heap.size := (Array.getElem?_eq_some_iff.1 HG4.out).1
    have G5 := (B5.block _ h24).trans HG4.out
    have F6 := fr_setRow w5 w2.heap.size #[.slice a5 dn c5, .slice none 0 0]
    have T6 := (HT4.out.below B5).other F6 (hR34 _ (.inr rfl)) g2t (fun q => by
      rcases hQ4 _ q with q | q
      · exact h2Q (.inl q)
      · omega) (by omega)
    have ho6 : (w5.setRow w2.heap.size #[.slice a5 dn c5, .slice none 0 0]).ownsRow w4.heap.size 5 1 (.slice a5 dn c5) dn (cells dat) := own_at' ho5 (fun b e => F6.same b (ho5.lt b e).2 (by have := (ho5.lt b e).1; omega))
    have A6 : Ar (w5.setRow w2.heap.size #[.slice a5 dn c5, .slice none 0 0]) R' (.slice a5 dn c5) (.slice none 0 0) (dat, []) := Ar.bare (br_own (fun b q => (HT4.out.rb b q).2) ho6 hby0)
    have G6 := row_ac G5 (.slice a5 dn c5) (.slice none 0 0)
    obtain ⟨w6, HW6⟩ : ∃ w6, Hid (w5.setRow w2.heap.size #[.slice a5 dn c5, .slice none 0 0] = w6) := ⟨_, rfl⟩
    rw [HW6.out] at T6 A6 G6
    have f0 : w6.cell? ⟨w2.heap.size, 0, none⟩ = some (.slice a5 dn c5) := (cell_of_row _ _ 0 _ _ (0, 0) G6).trans rfl
    have f1 : w6.cell? ⟨w2.heap.size, 1, none⟩ = some (.slice none 0 0) := (cell_of_row _ _ 1 _ _ (0, 0) G6).trans rfl
    have f2 : w6.cell? ⟨t, 2, none⟩ = some (.bool (ckM T dat).safe) := T6.tn.cell 2
    rw [ckM_safe] at f2
    have HT6 := hid T6
    have HA6 := hid A6
    clear kb ho5 ho6 B5 F6 T6 A6 G6 HT4 HG4
    cases hsf : T.safe with
    | false =>
      obtain ⟨_, _, _, u1, u2, u3⟩ := un_safe hsf (by rw [hlg]; simp) dat
      have T6 := HT6.out
      rw [u1] at T6
      rw [hsf] at f2
      rw [u3]
      have HF : Hid (Tw Ee w0 w6 t T) := ⟨_, _, _, _, _, _, _, _, _, _, _, T6⟩
      clear T6 HT6 HA6
      go_wp2_with (first | (go_at_call 21; refine (num12 _ _).mono ?_; rintro e w' ⟨rfl, hw⟩; obtain rfl := hw.symm; clear hw) | (with_reducible show wpList _ _ _ (_ :: _) _ _; refine wpList_ac rfl rfl _ _ rfl w2.heap.size (.slice a5 dn c5) (.slice none 0 0) rfl rfl rfl rfl _ _ G5 ?_; rw [HW6.out]))
      go_ret
      exact ⟨rfl, _, .inr (.inr (.inr (.inl ⟨.inl rfl, dat, hby0, fun _ => rfl, u2.symm⟩))), HF.out⟩
    | true =>
      rw [hsf] at f2
      have ks := settles_ w0 w6 t d g _ Q' R' _ _ _ _ _ _ _ HT6.out (ckE T dat) (ckE_is hv (by omega) hsf dat) _ _ _ HA6.out
      have hst := (ckM_st hv (by omega) hsf dat).resolve_right (by rw [hlg]; simp)
      rw [hst] at ks
      obtain ⟨E, HE⟩ : ∃ E, ckE T dat = E := ⟨_, rfl⟩
      rw [HE] at ks ⊢
      clear HT6 HA6 HE
      go_wp2_with (with_reducible show wpList _ _ _ (_ :: _) _ _; refine wpList_ac rfl rfl _ _ rfl w2.heap.size (.slice a5 dn c5) (.slice none 0 0) rfl rfl rfl rfl _ _ G5 ?_; rw [HW6.out])
      refine ks.mono ?_
      rintro en w7 ⟨rfl, h7⟩
      simp only
      have HF := hid h7
      clear ks h7
      go_wp2_with fail
      go_ret
      exact ⟨rfl, _, .inr (.inr (.inr (.inl ⟨.inl rfl, dat, hby0, fun _ => rfl, rfl⟩))), HF.out⟩
end
end Go.Proofs.YtblcpdffiafgnaaGreatDoor
namespace Go.Proofs.YtblcpdffiafgnaaGreatDoor
set_option linter.unusedSimpArgs false
set_option maxRecDepth 100000
open Go.RowKit Go.Shelf
set_option linter.unusedVariables false
set_option linter.unusedSimpArgs false
variable {Ee : Ex}

section
variable (w0 w : World) (t : Nat) (T : Tp) (n : Nat) (K N : Int) (old : Bool) (da : Option Addr) (dn dc : Nat) (dat : List Int) (fa : Option Addr) (fm fc : Nat) (fs : List (Int × Int)) (ka : Option Addr) (kn kc : Nat) (ks : List Bool) (z1 z2 z3 z4 z5 : Value)
set_option maxHeartbeats 8000000 in
theorem step_7 (h : Tw Ee w0 w t T) (hv : Tv T n) (hn : n ≤ 150) (ho : Oo w0 w da dn dc dat fa fm fs ka kn ks) :
    Calls Tryz.prog 10 #[.pointer (some ⟨t, 0, none⟩), .agg (opC 7 N old da dn dc fa fm fc ka kn kc z1 z2 z3 z4 z5)] w fun en w' => en = .returned (.bool true) ∧ ∃ T', Ts 7 dat fs ks T T' ∧ Tw Ee w0 w' t T' := by
  have B1 : Below w.heap.size w (w.alloc (.cells (opC 7 N old da dn dc fa fm fc ka kn kc z1 z2 z3 z4 z5) 33)) := (Below.refl _ _).alloc (Nat.le_refl _) _
  have r0 : (w.alloc (.cells (opC 7 N old da dn dc fa fm fc ka kn kc z1 z2 z3 z4 z5) 33)).heap[w.heap.size]? = some (.cells (opC 7 N old da dn dc fa fm fc ka kn kc z1 z2 z3 z4 z5) 33 (0, 0)) := World.alloc_heap_new w _
  obtain ⟨W, HW⟩ : ∃ W, w.alloc (.cells (opC 7 N old da dn dc fa fm fc ka kn kc z1 z2 z3 z4 z5) 33) = W := ⟨_, rfl⟩
  rw [HW] at B1 r0
  have c0 : W.cell? ⟨w.heap.size, 0, none⟩ = some (.int .i64 7) := (cell_of_row _ _ 0 _ _ (0, 0) r0).trans rfl
  have c3 : W.cell? ⟨w.heap.size, 3, none⟩ = some (.slice da dn dc) := (cell_of_row _ _ 3 _ _ (0, 0) r0).trans rfl
  have c1 : W.cell? ⟨w.heap.size, 1, none⟩ = some (.int .i64 N) := (cell_of_row _ _ 1 _ _ (0, 0) r0).trans rfl
  have hlw : w.heap.size < W.heap.size := (Array.getElem?_eq_some_iff.1 r0).1
  obtain ⟨d, g, l, Q, R, s1, x1, s2, x2, s3, x3, H⟩ := h
  have H1 := H.below B1
  have hRw : ∀ b, R b → b < w.heap.size := fun b q => (H.rb b q).2
  have main : ∀ (Wd : World) (b : Option Addr) (k c : Nat) (dt : List Int), Below W.heap.size W Wd → Bs Wd b k dt → (∀ ad, b = some ad → 0 < k → ¬ R ad.block) → k ≤ c → c ≤ maxLen → k ≤ 140737488351232 → True := fun _ _ _ _ _ _ _ _ _ _ _ => trivial
  clear main
  have kb := bytes12_ N W
  have HC0 := hid c0
  have HH1 := hid H1
  have HRW := hid hRw
  clear ho r0 B1 H H1 hRw
  go_enter Tryz.func10, Tryz.ntmps10
  go_wp2_with fail
  refine kb.mono ?_
  rintro en Wd ⟨vd, rfl, dt, hown, hby, hlen, BD⟩
  simp only
  obtain ⟨b, c, rfl, hbs, hkc, hcm, _⟩ := own_form (own_mono hown (Nat.zero_le _)) hby
  have hk47 : dt.length ≤ 140737488351232 := by omega
  have hRw := HRW.out
  have hbq : ∀ ad, b = some ad → 0 < dt.length → ¬ R ad.block := fun ad ha h0 q => by
    have h1 := HRW.out _ q
    subst ha
    have h2 := hown.lt ad.block (by rcases hown.2 with ⟨e, _⟩ | ⟨g', cap, cur, e, _⟩ <;> cases e; rfl)
    omega
  have H1 := HH1.out.below BD
  have c0 := (BD.cell (p := ⟨w.heap.size, 0, none⟩) hlw).trans HC0.out
  clear kb hown HH1 HC0 HRW c1 c3
  have hby0 : By dt := hbs.2.1
  cases hlg : T.lg with
  | none =>
    have hl := H1.lg
    rw [hlg] at hl
    obtain rfl : l = .pointer none := hl
    have d1 : Wd.cell? ⟨t, 1, none⟩ = some (.pointer none) := H1.tn.cell 1
    have HF : Hid (Tw Ee w0 Wd t T) := ⟨_, _, _, _, _, _, _, _, _, _, _, H1⟩
    clear H1 
    go_wp2_with fail
    go_ret
    exact ⟨rfl, _, .inr (.inr (.inr (.inl ⟨.inr rfl, dt, hby0, fun q => absurd q (by decide), (no_log hlg dt).2.symm⟩))), HF.out⟩
  | some y =>
    obtain ⟨ep, nx, pl⟩ := y
    obtain ⟨p1, p2, p3, p4, p5⟩ := hv.pl hlg
    obtain ⟨e1, _, gt, rg⟩ := H1.wq hlg p2
    subst e1
    obtain ⟨b5, n5, m5, b6, n6, m6, vs, rfl, rfl, _, _, _, hl6, hv6, hone, hcl, hnz, h7⟩ := H1.a1.form
    have d1 : Wd.cell? ⟨t, 1, none⟩ = some (.pointer (some ⟨g, 0, none⟩)) := H1.tn.cell 1
    have d3 : Wd.cell? ⟨t, 3, none⟩ = some (.slice b5 n5 m5) := H1.tn.cell 3
    have d4 : Wd.cell? ⟨t, 4, none⟩ = some (.slice b6 n6 m6) := H1.tn.cell 4
    have kw := with_ Wd b5 n5 m5 b6 n6 m6 vs b dt.length c dt hv6 hone hcl hnz hbs (by have := hv.len; omega) hk47
    have HH := hid H1
    have HBS := hid hbs
    have HCL := hid h7
    have HC0 := hid c0
    have HQ := hid hbq
    have HNQ := hid hbq
    have hszW : w.heap.size < Wd.heap.size := Nat.lt_of_lt_of_le hlw BD.size
    clear H1  hbs h7 hcl hone hnz hbq
    go_wp2_with fail
    refine kw.mono ?_
    rintro en w2 ⟨ta', tc', rfl, ab, cb, ho2, hb2, hab, hc1, hc2, B2⟩
    simp only
    have M3 := mid3 HH.out B2 hl6 hv6 HCL.out ho2 hb2 hab hc1 hc2
    have hz2 : (w2.alloc (.cells #[.slice none 0 0, .slice none 0 0] 39)).heap[w2.heap.size]? = some (.cells #[.slice none 0 0, .slice none 0 0] 39 (0, 0)) := World.alloc_heap_new w2 _
    obtain ⟨W3, HW3⟩ : ∃ W3, Hid (((w2.alloc (.cells #[.slice none 0 0, .slice none 0 0] 39)).setRow w2.heap.size #[.slice b5 n5 m5, .slice ta' (n6 + 1) tc']) = W3) := ⟨_, rfl⟩
    rw [HW3.out] at M3
    obtain ⟨T3, A3, G3, B3⟩ := M3
    have b3 := HBS.out.below B3
    have sB2 := B2.size
    have e0 : W3.cell? ⟨w.heap.size, 0, none⟩ = some (.int .i64 7) := (B3.cell (p := ⟨w.heap.size, 0, none⟩) hszW).trans HC0.out
    have e1 : W3.cell? ⟨t, 1, none⟩ = some (.pointer (some ⟨g, 0, none⟩)) := T3.tn.cell 1
    have hq3 : ∀ ad, b = some ad → 0 < dt.length → ¬ (R ad.block ∨ ad.block = w2.heap.size) := fun ad ha h0 q => by
      rcases q with q | q
      · exact HQ.out ad ha h0 q
      · rcases HBS.out.2.2 with h00 | ⟨bb, off, e, hc⟩
        · omega
        · rw [e] at ha
          cases ha
          have := World.block_lt_of_cell? _ _ (hc 0 h0)
          simp only at this q
          omega
    have ka := ck_mid T3 hv hn hlg b dt.length c dt b3 hq3 hkc hcm (by omega)
    have HT3 := hid T3
    have HA3 := hid A3
    have HG3 := hid G3
    have HB3 := hid b3
    clear kw ho2 hb2 hab hc1 hc2 B2 T3 A3 G3 b3 hq3 HCL HQ d1 d3 d4
    go_wp2_with (with_reducible show wpList _ _ _ (_ :: _) _ _; refine wpList_ac rfl rfl _ _ rfl w2.heap.size (.slice b5 n5 m5) (.slice ta' (n6 + 1) tc') rfl rfl rfl rfl _ _ hz2 ?_; rw [HW3.out])
    refine ka.mono ?_
    rintro en w4 ⟨rfl, Q', R', T4, F4, hQ4, hR34, hR4⟩
    simp only
    have g2t : w2.heap.size ≠ t := fun q => by have := HH.out.tn.lt; omega
    have hgl : g < Wd.heap.size := (HH.out.rb g rg).2
    have h2Q : ¬ Qg Q g w2.heap.size := fun q => by
      rcases q with q | q
      · have := HH.out.dv.lt _ q; omega
      · omega
    have h23 : w2.heap.size < W3.heap.size := (Array.getElem?_eq_some_iff.1 HG3.out).1
    have G4 : w4.heap[w2.heap.size]? = some (.cells #[.slice b5 n5 m5, .slice ta' (n6 + 1) tc'] 39 (0, 0)) := (F4.same _ h23 h2Q).trans HG3.out
    have F4R : Fr (fun b => R b ∨ b = w2.heap.size) W3 w4 := F4.weak (fun b _ q => by
      rcases q with q | q
      · exact .inl (HH.out.qr b q)
      · exact .inl (q ▸ rg))
    have kb := refBytes b dt.length c dt w4 (bs_fr HB3.out F4R (fun ad ha h0 q => by
      have hlt : ad.block < Wd.heap.size := by
        rcases HBS.out.2.2 with h00 | ⟨bb, off, e, hc⟩
        · omega
        · rw [e] at ha
          cases ha
          exact World.block_lt_of_cell? _ _ (hc 0 h0)
      rcases q with q | q
      · exact HNQ.out ad ha h0 q
      · omega)) hk47
    have HT4 := hid T4
    have HG4 := hid G4
    clear ka F4 F4R G4 HT3 HA3 HG3 e0 e1 T4
    go_wp2_with fail
    refine kb.mono ?_
    rintro en w5 ⟨v5, rfl, ho5, B5⟩
    simp only
    obtain ⟨a5, c5, rfl, _⟩ := own_form (own_mono ho5 (Nat.zero_le _)) hby0
    have h24 : w2.heap.size < w4.heap.size := (Array.getElem?_eq_some_iff.1 HG4.out).1
    have G5 := (B5.block _ h24).trans HG4.out
    have F6 := fr_setRow w5 w2.heap.size #[.slice a5 dt.length c5, .slice none 0 0]
    have T6 := (HT4.out.below B5).other F6 (hR34 _ (.inr rfl)) g2t (fun q => by
      rcases hQ4 _ q with q | q
      · exact h2Q (.inl q)
      · omega) (by omega)
    have ho6 : (w5.setRow w2.heap.size #[.slice a5 dt.length c5, .slice none 0 0]).ownsRow w4.heap.size 5 1 (.slice a5 dt.length c5) dt.length (cells dt) := own_at' ho5 (fun b e => F6.same b (ho5.lt b e).2 (by have := (ho5.lt b e).1; omega))
    have A6 : Ar (w5.setRow w2.heap.size #[.slice a5 dt.length c5, .slice none 0 0]) R' (.slice a5 dt.length c5) (.slice none 0 0) (dt, []) := Ar.bare (br_own (fun b q => (HT4.out.rb b q).2) ho6 hby0)
    have G6 := row_ac G5 (.slice a5 dt.length c5) (.slice none 0 0)
    obtain ⟨w6, HW6⟩ : ∃ w6, Hid (w5.setRow w2.heap.size #[.slice a5 dt.length c5, .slice none 0 0] = w6) := ⟨_, rfl⟩
    rw [HW6.out] at T6 A6 G6
    have f0 : w6.cell? ⟨w2.heap.size, 0, none⟩ = some (.slice a5 dt.length c5) := (cell_of_row _ _ 0 _ _ (0, 0) G6).trans rfl
    have f1 : w6.cell? ⟨w2.heap.size, 1, none⟩ = some (.slice none 0 0) := (cell_of_row _ _ 1 _ _ (0, 0) G6).trans rfl
    have f2 : w6.cell? ⟨t, 2, none⟩ = some (.bool (ckM T dt).safe) := T6.tn.cell 2
    rw [ckM_safe] at f2
    have HT6 := hid T6
    have HA6 := hid A6
    clear kb ho5 ho6 B5 F6 T6 A6 G6 HT4 HG4
    cases hsf : T.safe with
    | false =>
      obtain ⟨_, _, _, u1, u2, u3⟩ := un_safe hsf (by rw [hlg]; simp) dt
      have T6 := HT6.out
      rw [u1] at T6
      rw [hsf] at f2
      rw [u3]
      have HF : Hid (Tw Ee w0 w6 t T) := ⟨_, _, _, _, _, _, _, _, _, _, _, T6⟩
      clear T6 HT6 HA6
      go_wp2_with (first | (go_at_call 21; refine (num12 _ _).mono ?_; rintro e w' ⟨rfl, hw⟩; obtain rfl := hw.symm; clear hw) | (with_reducible show wpList _ _ _ (_ :: _) _ _; refine wpList_ac rfl rfl _ _ rfl w2.heap.size (.slice a5 dt.length c5) (.slice none 0 0) rfl rfl rfl rfl _ _ G5 ?_; rw [HW6.out]))
      go_ret
      exact ⟨rfl, _, .inr (.inr (.inr (.inl ⟨.inr rfl, dt, hby0, fun q => absurd q (by decide), u2.symm⟩))), HF.out⟩
    | true =>
      rw [hsf] at f2
      have ks := settles_ w0 w6 t d g _ Q' R' _ _ _ _ _ _ _ HT6.out (ckE T dt) (ckE_is hv (by omega) hsf dt) _ _ _ HA6.out
      have hst := (ckM_st hv (by omega) hsf dt).resolve_right (by rw [hlg]; simp)
      rw [hst] at ks
      obtain ⟨E, HE⟩ : ∃ E, ckE T dt = E := ⟨_, rfl⟩
      rw [HE] at ks ⊢
      clear HT6 HA6 HE
      go_wp2_with (with_reducible show wpList _ _ _ (_ :: _) _ _; refine wpList_ac rfl rfl _ _ rfl w2.heap.size (.slice a5 dt.length c5) (.slice none 0 0) rfl rfl rfl rfl _ _ G5 ?_; rw [HW6.out])
      refine ks.mono ?_
      rintro en w7 ⟨rfl, h7⟩
      simp only
      have HF := hid h7
      clear ks h7
      go_wp2_with fail
      go_ret
      exact ⟨rfl, _, .inr (.inr (.inr (.inl ⟨.inr rfl, dt, hby0, fun q => absurd q (by decide), rfl⟩))), HF.out⟩
end
end Go.Proofs.YtblcpdffiafgnaaGreatDoor
