import Derived.Test.YteeapmcpbmjpmaaGreatXA
namespace Go.Proofs.YteeapmcpbmjpmaaGreat
set_option maxRecDepth 100000
open Go.RowKit Go.Shelf Go.Maps
set_option linter.unusedVariables false
attribute [local go_sem ↓] Go.wp_at_zero Go.wp_at_succ

theorem three_cell {W : World} {m : Nat} {a b c : Value} {T : TypeId} (h : W.heap[m]? = some (.cells #[a, b, c] T (0, 0))) : (W.cell? ⟨m, 0, none⟩ = some a ∧ W.cell? ⟨m, 1, none⟩ = some b ∧ W.cell? ⟨m, 2, none⟩ = some c) ∧ ∀ i, W.frozen? ⟨m, i, none⟩ = false := by
  refine ⟨⟨?_, ?_, ?_⟩, fun i => by simp [World.frozen?, h]⟩
  · rw [cell_of_row W m 0 _ T (0, 0) h]; rfl
  · rw [cell_of_row W m 1 _ T (0, 0) h]; rfl
  · rw [cell_of_row W m 2 _ T (0, 0) h]; rfl
theorem take_to {ops : Array Oper} {Q : Exit → Act → World → Prop} {md : Region.Mode} {S : World → Prop} {oi : Oper} {fuel : Nat} {listed : Array Bool} {a : Act} {w : World} (i d : Nat) (v : Value) (hi : ops[i]? = some oi) (hd : oi.dst = some d)
    (hs : Region.noSelect ops = true) (hf : Region.free md ops listed i = true) (hr : (Region.ready md ops listed).contains i = true)
    (hQ : ∀ c a w, Q (.panic c) (a.put oi.dst v) w → Q (.panic c) a w) (hy : YieldsIf Tryz.prog ops S oi v a) (hS : S w)
    (h : wpAnyH Tryz.prog md ops Q S fuel (listed.setIfInBounds i true) ⟨a.tmps.setIfInBounds d v, a.defers⟩ w) : wpAnyH Tryz.prog md ops Q S (fuel + 1) listed a w :=
  wpAnyH_take hi hs hf hr hQ hy hS (by rw [hd]; exact h)
def endS : SD := ⟨none, 0, none, 0, ⟨[], [], true⟩⟩
set_option maxHeartbeats 4000000 in
/-- The law's lend. -/
theorem lend_ (U : Nat → Prop) (a : Option Addr) (n c : Nat) (l : List Sx) (w : World) (hl : Sl w U a n l) (hn : n ≤ 10000000) (hsh : ∀ s ∈ l, s.k.length ≤ 2000 ∧ s.v.length ≤ 2000) :
    Calls Tryz.prog 34 #[.slice a n c] w fun e W => ∃ m vs vk vv es, e = .returned (.pointer (some ⟨m, 0, none⟩)) ∧ Ln w W m vs vk vv (es.map leS ++ [endS]) es es es ∧ es.map (·.s) = l := by
  have HL := hid hl
  have HLN : Hid (l.length = n) := hl.len
  have HSH := hid hsh
  have HOK := hid hl.okS
  clear hl hsh
  have HL0 : Hid (Ln w (w.alloc (.cells #[.slice none 0 0, .slice none 0 0, .slice none 0 0] 82)) w.heap.size (.slice none 0 0) (.slice none 0 0) (.slice none 0 0) [] [] [] []) :=
    ⟨heap_alloc_new w _, World.ownsRow_nil _ _ _ _, World.ownsRow_nil _ _ _ _, World.ownsRow_nil _ _ _ _, fun e he => by simp at he, by simp, fun q hq => by simp [Value.ownBlock] at hq, (Below.refl _ _).alloc (Nat.le_refl _) _, Nat.le_refl _⟩
  go_enter Tryz.func34, Tryz.ntmps34
  go_wp2_with fail
  go_loopw [4] (fun i wr => ∃ (k : Nat) (vs vk vv : Value) (es : List LE), k ≤ n ∧ i = .int .i64 k ∧ Hid (Ln w wr w.heap.size vs vk vv (es.map leS) es es es) ∧ Hid (es.map (·.s) = l.take k)) (fun i _ => n - (intOf i).toNat)
  case atStart => exact ⟨0, _, _, _, [], by omega, rfl, HL0, rfl⟩
  case round =>
    obtain ⟨k, vs, vk, vv, es, hk, rfl, HLn, HI⟩ := hrel
    have HEL : Hid (es.length = k) := by have h := congrArg List.length HI.out; rw [List.length_map, List.length_take, HLN.out] at h; show _ = _; omega
    by_cases hlt : k < n
    · have hI : (k : Int) < n := by omega
      have hkL : k < l.length := by rw [HLN.out]; exact hlt
      obtain ⟨bl, off, ka, kc, va, vc, kn, vn, rfl, hkn, hvn, c0, c1, c2, v1, v2⟩ := (HL.out.below HLn.out.bel).at hlt
      obtain ⟨s, HS⟩ : ∃ s, Hid (l.getD k default = s) := ⟨_, rfl⟩
      rw [HS.out] at hkn hvn c2 v1 v2
      have hsz := HSH.out _ (by rw [← HS.out]; exact getD_mem hkL : s ∈ l)
      have hok := HOK.out _ (by rw [← HS.out]; exact getD_mem hkL : s ∈ l)
      rw [← hkn, ← hvn] at hsz
      have HOKK := hid hok.1
      have HOKV := hid hok.2
      have HTK : Hid (l.take (k + 1) = l.take k ++ [s]) := by rw [← HS.out]; exact take_snoc hkL
      have HKN := hid hkn
      have HVN := hid hvn
      have HC1 := hid c1
      have HC2 := hid c2
      have HC0 := hid c0
      have HV2 := hid v2
      obtain ⟨HW0, HW1, HW2⟩ : Hid (w.cell? ⟨bl, off + k * 3, none⟩ = some (.slice ka kn kc)) ∧ Hid (w.cell? ⟨bl, off + k * 3 + 1, none⟩ = some (.slice va vn vc)) ∧ Hid (w.cell? ⟨bl, off + k * 3 + 2, none⟩ = some (.bool s.g)) := by
        have hb : bl < w.heap.size := by
          rcases HL.out.cells with h0 | ⟨b', o', e', hb', hh⟩
          · omega
          · obtain ⟨rfl, rfl⟩ : bl = b' ∧ off = o' := by simpa using e'
            exact (hh 0 (by omega)).lt
        exact ⟨(HLn.out.bel.cell hb).symm.trans c0, (HLn.out.bel.cell hb).symm.trans c1, (HLn.out.bel.cell hb).symm.trans c2⟩
      have HBL : Hid (bl < w.heap.size) := World.block_lt_of_cell? _ _ HW0.out
      obtain ⟨g, HGG⟩ : ∃ g, Hid (s.g = g) := ⟨_, rfl⟩
      rw [HGG.out] at HW2
      have hes : es.length ≤ 10000000 := by have := HEL.out; omega
      have k1 := refBytes ka kn kc s.k wr v1.bs (by omega)
      clear hlt hkL hok v1 v2 hkn hvn c1 c2
      go_wp2_with fail
      clear c0
      refine k1.mono ?_
      rintro e w1 ⟨y1, rfl, o1, g1⟩
      have HOA := hid (o1.alloc (.cells #[.int .u8 161, .int .u8 162] 5))
      have HBS : Hid (Bs (w1.alloc (.cells #[.int .u8 161, .int .u8 162] 5)) (some ⟨w1.heap.size, 0, none⟩) 2 [161, 162]) := bs_lit w1 [161, 162] (0, 0) (by intro z hz; simp at hz; omega)
      have HSZ : Hid (wr.heap.size ≤ (w1.alloc (.cells #[.int .u8 161, .int .u8 162] 5)).heap.size) := by have := g1.size; show _ ≤ _; simp; omega
      have HG1 := hid g1
      have HO1 := hid o1
      clear g1 o1 k1
      go_wp2_with (at_builtin; refine wpList_appT rfl _ _ rfl wr.heap.size _ kn s.k rfl (by exact HOA.out) (some ⟨w1.heap.size, 0, none⟩) 2 2 [161, 162] rfl (by exact HBS.out) (by omega) (by exact HSZ.out) ?_; intro y2 w2 o2 g2; have HO2 := hid o2; have HG2 := hid g2; clear o2 g2; refine Hid.out ?_)
      refine hid ?_
      have HB2 : Hid (Below wr.heap.size wr w2) := (HG1.out.alloc HG1.out.size (.cells #[.int .u8 161, .int .u8 162] 5)).grown HG2.out (by exact HSZ.out) (fun p hp => (HO1.out.lt p hp).1)
      obtain ⟨gk, ck, rfl, yk, hgk, hgkl, hkc, hkm⟩ := Yr.ofOwn HO2.out (by intro z hz; rcases List.mem_append.1 hz with h | h; exact HOKK.out z h; simp at h; omega) (by omega)
      have HYK := hid yk
      have HLn2 := hid (HLn.out.below HB2.out)
      have HV2 := hid (HV2.out.lift HB2.out (fun _ _ h => h))
      have c1 := (HB2.out.cell (World.block_lt_of_cell? _ _ HC1.out)).trans HC1.out
      have HC2 := hid ((HB2.out.cell (World.block_lt_of_cell? _ _ HC2.out)).trans HC2.out)
      have HC0 := hid ((HB2.out.cell (World.block_lt_of_cell? _ _ HC0.out)).trans HC0.out)
      have HC1 := hid c1
      have HSW := hid HB2.out.size
      clear HOA HBS HSZ HG1 HO1 HO2 HG2 yk
      have k2 := refBytes va vn vc s.v w2 HV2.out.bs (by omega)
      go_wp2_with fail
      clear c1
      refine k2.mono ?_
      rintro e w3 ⟨y3, rfl, o3, g3⟩
      have HOA := hid (o3.alloc (.cells #[.int .u8 163, .int .u8 164] 5))
      have HBS : Hid (Bs (w3.alloc (.cells #[.int .u8 163, .int .u8 164] 5)) (some ⟨w3.heap.size, 0, none⟩) 2 [163, 164]) := bs_lit w3 [163, 164] (0, 0) (by intro z hz; simp at hz; omega)
      have HSZ : Hid (w2.heap.size ≤ (w3.alloc (.cells #[.int .u8 163, .int .u8 164] 5)).heap.size) := by have := g3.size; show _ ≤ _; simp; omega
      have HG3 := hid g3
      have HO3 := hid o3
      clear g3 o3 k2
      go_wp2_with (at_builtin; refine wpList_appT rfl _ _ rfl w2.heap.size _ vn s.v rfl (by exact HOA.out) (some ⟨w3.heap.size, 0, none⟩) 2 2 [163, 164] rfl (by exact HBS.out) (by omega) (by exact HSZ.out) ?_; intro y4 w4 o4 g4; have HO4 := hid o4; have HG4 := hid g4; clear o4 g4; refine Hid.out ?_)
      refine hid ?_
      have HB4 : Hid (Below w2.heap.size w2 w4) := (HG3.out.alloc HG3.out.size (.cells #[.int .u8 163, .int .u8 164] 5)).grown HG4.out (by exact HSZ.out) (fun p hp => (HO3.out.lt p hp).1)
      obtain ⟨gv, cv, rfl, yv, hgv, hgvl, hvc, hvm⟩ := Yr.ofOwn HO4.out (by intro z hz; rcases List.mem_append.1 hz with h | h; exact HOKV.out z h; simp at h; omega) (by omega)
      have HLY : Hid (LY w.heap.size w4 ⟨gk, ck, gv, cv, s⟩) := by
        have hw := HLn2.out.bel.size
        have h1 := HLn.out.bel.size
        refine ⟨?_, ?_, by show _ ≤ gk; omega, by show _ ≤ gv; omega, ?_, ?_⟩
        · show Yr _ gk (s.k.length + 2) _
          rw [← HKN.out]; exact HYK.out.below HB4.out
        · show Yr _ gv (s.v.length + 2) _
          rw [← HVN.out]; exact yv
        · show s.k.length + 2 ≤ ck ∧ _
          rw [← HKN.out]; exact ⟨hkc, hkm⟩
        · show s.v.length + 2 ≤ cv ∧ _
          rw [← HVN.out]; exact ⟨hvc, hvm⟩
      have HLn4 := hid ((HLn2.out.below HB4.out).add HLY.out wr.heap.size (fun e he => ⟨(HLn.out.y e he).k.lt, (HLn.out.y e he).v.lt⟩) (by show _ ≤ gk; exact hgk) (by show _ ≤ gv; have := HSW.out; omega) (by show gk ≠ gv; omega))
      have HC0 := hid ((HB4.out.cell (World.block_lt_of_cell? _ _ HC0.out)).trans HC0.out)
      have HC1 := hid ((HB4.out.cell (World.block_lt_of_cell? _ _ HC1.out)).trans HC1.out)
      have HC2 := hid ((HB4.out.cell (World.block_lt_of_cell? _ _ HC2.out)).trans HC2.out)
      have hbl : bl < wr.heap.size := by
        rcases (HL.out.below HLn.out.bel).cells with h0 | ⟨b', o', e', hb', hh⟩
        · omega
        · obtain ⟨rfl, rfl⟩ : bl = b' ∧ off = o' := by simpa using e'
          exact (hh 0 (by omega)).lt
      have hkm' := hkm
      have hvm' := hvm
      unfold maxLen at hkm' hvm'
      have HSB : Hid (w.heap.size ≤ w4.heap.size) := HLn4.out.bel.size
      clear HOA HBS HSZ HG3 HO3 HO4 HG4 yv HLn2 HLY HYK HV2
      obtain ⟨⟨x0, x1, x2⟩, fx⟩ := three_cell HLn4.out.var
      have fx1 := fx 1
      clear fx x0 x2
      obtain ⟨uk, HUK⟩ : ∃ u, Hid (Value.slice (some ⟨gk, 0, none⟩) (kn + 2) ck = u) := ⟨_, rfl⟩
      obtain ⟨uv, HUV⟩ : ∃ u, Hid (Value.slice (some ⟨gv, 0, none⟩) (vn + 2) cv = u) := ⟨_, rfl⟩
      have HEK : Hid (uk = leK ⟨gk, ck, gv, cv, s⟩) := by show _ = _; rw [← HUK.out, HKN.out]; rfl
      have HEV : Hid (uv = leV ⟨gk, ck, gv, cv, s⟩) := by show _ = _; rw [← HUV.out, HVN.out]; rfl
      have HOA := hid (HLn4.out.ok.alloc (.cells #[.slice (some ⟨gk, 0, none⟩) (kn + 2) ck] 35))
      have HCA : Hid ((w4.alloc (.cells #[.slice (some ⟨gk, 0, none⟩) (kn + 2) ck] 35)).cell? ⟨w4.heap.size, 0, none⟩ = some (.slice (some ⟨gk, 0, none⟩) (kn + 2) ck)) := by show _ = _; rw [cell_of_row _ w4.heap.size 0 _ 35 (0, 0) (heap_alloc_new w4 _)]; rfl
      have HBA := hid ((Below.refl w4.heap.size w4).alloc (Nat.le_refl _) (.cells #[.slice (some ⟨gk, 0, none⟩) (kn + 2) ck] 35))
      have HSA : Hid (w.heap.size ≤ (w4.alloc (.cells #[.slice (some ⟨gk, 0, none⟩) (kn + 2) ck] 35)).heap.size) := Nat.le_trans HSB.out HBA.out.size
      go_wp2_with (at_builtin; refine wpList_appSl rfl _ _ rfl w.heap.size _ es.length (es.map leK) rfl (by exact HOA.out) w4.heap.size (.slice (some ⟨gk, 0, none⟩) (kn + 2) ck) rfl (by exact HCA.out) rfl (by omega) (by exact HSA.out) ?_; intro v5 w5 o5 g5 l5; obtain ⟨a5, c5, e5, -⟩ := own_addr o5; subst e5; have HO5 := hid o5; have HG5 := hid g5; have HL5 := hid l5; have HA5 := hid (ap_ (w0 := w) (i := 1) (v5 := .slice a5 (es.length + 1) c5) HLn4.out.var HLn4.out.ok (by decide) HBA.out g5); have HV5 := hid HA5.out.1; have HAP := hid HA5.out.2; have z1 := (three_cell HV5.out).1.2.1; have f1 := (three_cell HV5.out).2 1; clear o5 g5 l5; refine Hid.out ?_)
      refine hid ?_
      have HLn6 := hid (HLn4.out.appK (e := ⟨gk, ck, gv, cv, s⟩) HBA.out HG5.out (by rw [← HEK.out, ← HUK.out]; exact HO5.out) HL5.out)
      clear HOA HCA HSA HG5 HO5 HL5 x1 fx1
      go_upto_region 8 with fail
      generalize w5.setCell ⟨w.heap.size, 1, none⟩ (.slice a5 (es.length + 1) c5) = w6 at *
      clear z1 f1 HV5 HBA HLn4
      have HSB : Hid (w.heap.size ≤ w6.heap.size) := HLn6.out.bel.size
      obtain ⟨⟨x0, x1, x2⟩, fx⟩ := three_cell HLn6.out.var
      have fx1 := fx 2
      clear fx x0 x1
      have HOA := hid (HLn6.out.ov.alloc (.cells #[.slice (some ⟨gv, 0, none⟩) (vn + 2) cv] 35))
      have HCA : Hid ((w6.alloc (.cells #[.slice (some ⟨gv, 0, none⟩) (vn + 2) cv] 35)).cell? ⟨w6.heap.size, 0, none⟩ = some (.slice (some ⟨gv, 0, none⟩) (vn + 2) cv)) := by show _ = _; rw [cell_of_row _ w6.heap.size 0 _ 35 (0, 0) (heap_alloc_new w6 _)]; rfl
      have HBA := hid ((Below.refl w6.heap.size w6).alloc (Nat.le_refl _) (.cells #[.slice (some ⟨gv, 0, none⟩) (vn + 2) cv] 35))
      have HSA : Hid (w.heap.size ≤ (w6.alloc (.cells #[.slice (some ⟨gv, 0, none⟩) (vn + 2) cv] 35)).heap.size) := Nat.le_trans HSB.out HBA.out.size
      go_wp2_with (at_builtin; refine wpList_appSl rfl _ _ rfl w.heap.size _ es.length (es.map leV) rfl (by exact HOA.out) w6.heap.size (.slice (some ⟨gv, 0, none⟩) (vn + 2) cv) rfl (by exact HCA.out) rfl (by omega) (by exact HSA.out) ?_; intro v7 w7 o7 g7 l7; obtain ⟨a7, c7, e7, -⟩ := own_addr o7; subst e7; have HO7 := hid o7; have HG7 := hid g7; have HL7 := hid l7; have HA7 := hid (ap_ (w0 := w) (i := 2) (v5 := .slice a7 (es.length + 1) c7) HLn6.out.var HLn6.out.ov (by decide) HBA.out g7); have z1 := (three_cell HA7.out.1).1.2.2; have f1 := (three_cell HA7.out.1).2 2; clear o7 g7 l7; refine Hid.out ?_)
      refine hid ?_
      have HLn8 := hid (HLn6.out.appV (e := ⟨gk, ck, gv, cv, s⟩) HBA.out HG7.out (by rw [← HEV.out, ← HUV.out]; exact HO7.out) HL7.out)
      clear HOA HCA HSA HG7 HO7 HL7 x2 fx1
      go_upto_region 9 with fail
      generalize w7.setCell ⟨w.heap.size, 2, none⟩ (.slice a7 (es.length + 1) c7) = w8 at *
      clear z1 f1 HA7 HBA HLn6
      obtain ⟨⟨x0, x1, x2⟩, fx⟩ := three_cell HLn8.out.var
      clear fx x1 x2
      have q0 := (HLn8.out.bel.cell HBL.out).trans HW0.out
      have q1 := (HLn8.out.bel.cell HBL.out).trans HW1.out
      have q2 := (HLn8.out.bel.cell HBL.out).trans HW2.out
      have hm8 := HLn8.out.mlt
      have hbl8 : bl < w8.heap.size := World.block_lt_of_cell? _ _ q0
      have i1 : (0 : Int) ≤ (kn : Int) := by omega
      have i2 : (kn : Int) ≤ (kn : Int) + 2 := by omega
      have i3 : (kn : Int) + 2 ≤ (ck : Int) := by omega
      have i4 : (0 : Int) ≤ (vn : Int) := by omega
      have i5 : (vn : Int) ≤ (vn : Int) + 2 := by omega
      have i6 : (vn : Int) + 2 ≤ (cv : Int) := by omega
      obtain ⟨n', HN'⟩ : ∃ n', Hid ((es.map leS).length + 1 = n') := ⟨_, rfl⟩
      have HSB : Hid (w.heap.size ≤ w8.heap.size) := HLn8.out.bel.size
      have HBD : Hid (Below w8.heap.size w8 (w8.alloc (.cells #[.slice (some ⟨gk, 0, none⟩) kn (kn + 2), .slice (some ⟨gv, 0, none⟩) vn (vn + 2), .bool g] 44)).drew) := bel_bel ((Below.refl w8.heap.size w8).alloc (Nat.le_refl _) _) (by simp) (below_drew _)
      have p0 := (HBD.out.cell hbl8).trans q0
      have p1 := (HBD.out.cell hbl8).trans q1
      have p2 := (HBD.out.cell hbl8).trans q2
      have HLn9 : ∀ {W3 w9 : World}, Below w8.heap.size w8 W3 → W3.grownBy w9 vs.ownBlock → Below w.heap.size w w9 := fun {W3 w9} hB hg => (bel_bel HLn8.out.bel HLn8.out.bel.size hB).grown hg (Nat.le_trans HSB.out hB.size) (fun q hq => (HLn8.out.os.lt q hq).1)
      have x0' := (HBD.out.cell hm8).trans x0
      have HOA := hid (own_bel HLn8.out.os HBD.out)
      have HNW : Hid (∀ jj u, (sdc (leS ⟨gk, ck, gv, cv, s⟩))[jj]? = some u → (w8.alloc (.cells #[.slice (some ⟨gk, 0, none⟩) kn (kn + 2), .slice (some ⟨gv, 0, none⟩) vn (vn + 2), .bool g] 44)).drew.cell? ⟨w8.heap.size, jj, none⟩ = some u) := fun jj u hj => by
        simp only [sdc, leS, ← HKN.out, ← HVN.out, HGG.out] at hj
        exact (cell_of_row (w8.alloc _) w8.heap.size jj _ 44 (0, 0) (heap_alloc_new w8 _)).trans (by simpa using hj)
      go_wp2_with fail
      refine wp_region_held_drew (S := fun wx => wx.cell? ⟨bl, off + k * 3, none⟩ = some (.slice ka kn kc) ∧ wx.cell? ⟨bl, off + k * 3 + 1, none⟩ = some (.slice va vn vc) ∧ wx.cell? ⟨bl, off + k * 3 + 2, none⟩ = some (.bool g)) (by kernel_rfl) ⟨q0, q1, q2⟩ (fun hHeld => ?_)
      refine take_to 0 51 ?v1 rfl rfl (by kernel_rfl) (by kernel_rfl) (by kernel_rfl) (fun _ _ _ h => h) (Or.inl ⟨by kernel_rfl, fun w' h => ?hy1⟩) hHeld ?rest1
      case hy1 => (obtain ⟨h0, h1, h2⟩ := h; go_simp; try with_reducible rfl)
      try simp only [List.setIfInBounds_toArray, List.set_cons_zero, List.set_cons_succ]
      refine take_to 1 52 ?v2 rfl rfl (by kernel_rfl) (by kernel_rfl) (by kernel_rfl) (fun _ _ _ h => h) (Or.inl ⟨by kernel_rfl, fun w' h => ?hy2⟩) hHeld ?rest2
      case hy2 => (obtain ⟨h0, h1, h2⟩ := h; go_simp; try with_reducible rfl)
      try simp only [List.setIfInBounds_toArray, List.set_cons_zero, List.set_cons_succ]
      refine take_to 2 53 ?v3 rfl rfl (by kernel_rfl) (by kernel_rfl) (by kernel_rfl) (fun _ _ _ h => h) (Or.inl ⟨by kernel_rfl, fun w' h => ?hy3⟩) hHeld ?rest3
      case hy3 => (obtain ⟨h0, h1, h2⟩ := h; go_simp; try with_reducible rfl)
      try simp only [List.setIfInBounds_toArray, List.set_cons_zero, List.set_cons_succ]
      refine take_to 3 54 ?v4 rfl rfl (by kernel_rfl) (by kernel_rfl) (by kernel_rfl) (fun _ _ _ h => h) (Or.inl ⟨by kernel_rfl, fun w' h => ?hy4⟩) hHeld ?rest4
      case hy4 => (obtain ⟨h0, h1, h2⟩ := h; go_simp; try with_reducible rfl)
      try simp only [List.setIfInBounds_toArray, List.set_cons_zero, List.set_cons_succ]
      refine take_to 5 56 ?v5 rfl rfl (by kernel_rfl) (by kernel_rfl) (by kernel_rfl) (fun _ _ _ h => h) (Or.inl ⟨by kernel_rfl, fun w' h => ?hy5⟩) hHeld ?rest5
      case hy5 => (obtain ⟨h0, h1, h2⟩ := h; go_simp; try with_reducible rfl)
      try simp only [List.setIfInBounds_toArray, List.set_cons_zero, List.set_cons_succ]
      refine take_to 6 57 ?v6 rfl rfl (by kernel_rfl) (by kernel_rfl) (by kernel_rfl) (fun _ _ _ h => h) (Or.inl ⟨by kernel_rfl, fun w' h => ?hy6⟩) hHeld ?rest6
      case hy6 => (obtain ⟨h0, h1, h2⟩ := h; go_simp; try with_reducible rfl)
      try simp only [List.setIfInBounds_toArray, List.set_cons_zero, List.set_cons_succ]
      refine take_to 7 58 ?v7 rfl rfl (by kernel_rfl) (by kernel_rfl) (by kernel_rfl) (fun _ _ _ h => h) (Or.inl ⟨by kernel_rfl, fun w' h => ?hy7⟩) hHeld ?rest7
      case hy7 => (obtain ⟨h0, h1, h2⟩ := h; go_simp; try with_reducible rfl)
      try simp only [List.setIfInBounds_toArray, List.set_cons_zero, List.set_cons_succ]
      refine take_to 8 59 ?v8 rfl rfl (by kernel_rfl) (by kernel_rfl) (by kernel_rfl) (fun _ _ _ h => h) (Or.inl ⟨by kernel_rfl, fun w' h => ?hy8⟩) hHeld ?rest8
      case hy8 => (obtain ⟨h0, h1, h2⟩ := h; go_simp; try with_reducible rfl)
      try simp only [List.setIfInBounds_toArray, List.set_cons_zero, List.set_cons_succ]
      refine take_to 9 60 ?v9 rfl rfl (by kernel_rfl) (by kernel_rfl) (by kernel_rfl) (fun _ _ _ h => h) (Or.inl ⟨by kernel_rfl, fun w' h => ?hy9⟩) hHeld ?rest9
      case hy9 => (obtain ⟨h0, h1, h2⟩ := h; go_simp; try with_reducible rfl)
      try simp only [List.setIfInBounds_toArray, List.set_cons_zero, List.set_cons_succ]
      refine take_to 10 61 ?v10 rfl rfl (by kernel_rfl) (by kernel_rfl) (by kernel_rfl) (fun _ _ _ h => h) (Or.inl ⟨by kernel_rfl, fun w' h => ?hy10⟩) hHeld ?rest10
      case hy10 => (obtain ⟨h0, h1, h2⟩ := h; go_simp; try with_reducible rfl)
      try simp only [List.setIfInBounds_toArray, List.set_cons_zero, List.set_cons_succ]
      refine take_to 11 62 ?v11 rfl rfl (by kernel_rfl) (by kernel_rfl) (by kernel_rfl) (fun _ _ _ h => h) (Or.inl ⟨by kernel_rfl, fun w' h => ?hy11⟩) hHeld ?rest11
      case hy11 => (obtain ⟨h0, h1, h2⟩ := h; go_simp; try with_reducible rfl)
      try simp only [List.setIfInBounds_toArray, List.set_cons_zero, List.set_cons_succ]
      refine take_to 12 63 ?v12 rfl rfl (by kernel_rfl) (by kernel_rfl) (by kernel_rfl) (fun _ _ _ h => h) (Or.inl ⟨by kernel_rfl, fun w' h => ?hy12⟩) hHeld ?rest12
      case hy12 => (obtain ⟨h0, h1, h2⟩ := h; go_simp; try with_reducible rfl)
      try simp only [List.setIfInBounds_toArray, List.set_cons_zero, List.set_cons_succ]
      refine take_to 13 64 ?v13 rfl rfl (by kernel_rfl) (by kernel_rfl) (by kernel_rfl) (fun _ _ _ h => h) (Or.inl ⟨by kernel_rfl, fun w' h => ?hy13⟩) hHeld ?rest13
      case hy13 => (obtain ⟨h0, h1, h2⟩ := h; go_simp; try with_reducible rfl)
      try simp only [List.setIfInBounds_toArray, List.set_cons_zero, List.set_cons_succ]
      refine take_to 14 65 ?v14 rfl rfl (by kernel_rfl) (by kernel_rfl) (by kernel_rfl) (fun _ _ _ h => h) (Or.inl ⟨by kernel_rfl, fun w' h => ?hy14⟩) hHeld ?rest14
      case hy14 => (obtain ⟨h0, h1, h2⟩ := h; go_simp; try with_reducible rfl)
      try simp only [List.setIfInBounds_toArray, List.set_cons_zero, List.set_cons_succ]
      refine take_to 15 66 ?v15 rfl rfl (by kernel_rfl) (by kernel_rfl) (by kernel_rfl) (fun _ _ _ h => h) (Or.inl ⟨by kernel_rfl, fun w' h => ?hy15⟩) hHeld ?rest15
      case hy15 => (obtain ⟨h0, h1, h2⟩ := h; go_simp; try with_reducible rfl)
      try simp only [List.setIfInBounds_toArray, List.set_cons_zero, List.set_cons_succ]
      refine take_to 16 67 ?v16 rfl rfl (by kernel_rfl) (by kernel_rfl) (by kernel_rfl) (fun _ _ _ h => h) (Or.inl ⟨by kernel_rfl, fun w' h => ?hy16⟩) hHeld ?rest16
      case hy16 => (obtain ⟨h0, h1, h2⟩ := h; go_simp; try with_reducible rfl)
      try simp only [List.setIfInBounds_toArray, List.set_cons_zero, List.set_cons_succ]
      refine take_to 17 68 ?v17 rfl rfl (by kernel_rfl) (by kernel_rfl) (by kernel_rfl) (fun _ _ _ h => h) (Or.inl ⟨by kernel_rfl, fun w' h => ?hy17⟩) hHeld ?rest17
      case hy17 => (obtain ⟨h0, h1, h2⟩ := h; go_simp; try with_reducible rfl)
      try simp only [List.setIfInBounds_toArray, List.set_cons_zero, List.set_cons_succ]
      refine take_to 18 69 ?v18 rfl rfl (by kernel_rfl) (by kernel_rfl) (by kernel_rfl) (fun _ _ _ h => h) (Or.inl ⟨by kernel_rfl, fun w' h => ?hy18⟩) hHeld ?rest18
      case hy18 => (obtain ⟨h0, h1, h2⟩ := h; go_simp; try with_reducible rfl)
      try simp only [List.setIfInBounds_toArray, List.set_cons_zero, List.set_cons_succ]
      refine take_to 19 70 ?v19 rfl rfl (by kernel_rfl) (by kernel_rfl) (by kernel_rfl) (fun _ _ _ h => h) (Or.inl ⟨by kernel_rfl, fun w' h => ?hy19⟩) hHeld ?rest19
      case hy19 => (obtain ⟨h0, h1, h2⟩ := h; go_simp; try with_reducible rfl)
      try simp only [List.setIfInBounds_toArray, List.set_cons_zero, List.set_cons_succ]
      refine take_to 20 71 ?v20 rfl rfl (by kernel_rfl) (by kernel_rfl) (by kernel_rfl) (fun _ _ _ h => h) (Or.inl ⟨by kernel_rfl, fun w' h => ?hy20⟩) hHeld ?rest20
      case hy20 => (obtain ⟨h0, h1, h2⟩ := h; go_simp; try with_reducible rfl)
      try simp only [List.setIfInBounds_toArray, List.set_cons_zero, List.set_cons_succ]
      refine take_to 21 72 ?v21 rfl rfl (by kernel_rfl) (by kernel_rfl) (by kernel_rfl) (fun _ _ _ h => h) (Or.inl ⟨by kernel_rfl, fun w' h => ?hy21⟩) hHeld ?rest21
      case hy21 => (obtain ⟨h0, h1, h2⟩ := h; go_simp; try with_reducible rfl)
      try simp only [List.setIfInBounds_toArray, List.set_cons_zero, List.set_cons_succ]
      refine take_to 22 73 ?v22 rfl rfl (by kernel_rfl) (by kernel_rfl) (by kernel_rfl) (fun _ _ _ h => h) (Or.inl ⟨by kernel_rfl, fun w' h => ?hy22⟩) hHeld ?rest22
      case hy22 => (obtain ⟨h0, h1, h2⟩ := h; go_simp; try with_reducible rfl)
      try simp only [List.setIfInBounds_toArray, List.set_cons_zero, List.set_cons_succ]
      refine take_to 23 74 ?v23 rfl rfl (by kernel_rfl) (by kernel_rfl) (by kernel_rfl) (fun _ _ _ h => h) (Or.inl ⟨by kernel_rfl, fun w' h => ?hy23⟩) hHeld ?rest23
      case hy23 => (obtain ⟨h0, h1, h2⟩ := h; go_simp; try with_reducible rfl)
      try simp only [List.setIfInBounds_toArray, List.set_cons_zero, List.set_cons_succ]
      refine take_to 24 75 ?v24 rfl rfl (by kernel_rfl) (by kernel_rfl) (by kernel_rfl) (fun _ _ _ h => h) (Or.inl ⟨by kernel_rfl, fun w' h => ?hy24⟩) hHeld ?rest24
      case hy24 => (obtain ⟨h0, h1, h2⟩ := h; go_simp; try with_reducible rfl)
      try simp only [List.setIfInBounds_toArray, List.set_cons_zero, List.set_cons_succ]
      refine take_to 25 76 ?v25 rfl rfl (by kernel_rfl) (by kernel_rfl) (by kernel_rfl) (fun _ _ _ h => h) (Or.inl ⟨by kernel_rfl, fun w' h => ?hy25⟩) hHeld ?rest25
      case hy25 => (obtain ⟨h0, h1, h2⟩ := h; go_simp; try with_reducible rfl)
      try simp only [List.setIfInBounds_toArray, List.set_cons_zero, List.set_cons_succ]
      refine take_to 26 77 ?v26 rfl rfl (by kernel_rfl) (by kernel_rfl) (by kernel_rfl) (fun _ _ _ h => h) (Or.inl ⟨by kernel_rfl, fun w' h => ?hy26⟩) hHeld ?rest26
      case hy26 => (obtain ⟨h0, h1, h2⟩ := h; go_simp; try with_reducible rfl)
      try simp only [List.setIfInBounds_toArray, List.set_cons_zero, List.set_cons_succ]
      refine take_to 27 78 ?v27 rfl rfl (by kernel_rfl) (by kernel_rfl) (by kernel_rfl) (fun _ _ _ h => h) (Or.inl ⟨by kernel_rfl, fun w' h => ?hy27⟩) hHeld ?rest27
      case hy27 => (obtain ⟨h0, h1, h2⟩ := h; go_simp; try with_reducible rfl)
      try simp only [List.setIfInBounds_toArray, List.set_cons_zero, List.set_cons_succ]
      refine take_to 28 79 ?v28 rfl rfl (by kernel_rfl) (by kernel_rfl) (by kernel_rfl) (fun _ _ _ h => h) (Or.inl ⟨by kernel_rfl, fun w' h => ?hy28⟩) hHeld ?rest28
      case hy28 => (obtain ⟨h0, h1, h2⟩ := h; go_simp; try with_reducible rfl)
      try simp only [List.setIfInBounds_toArray, List.set_cons_zero, List.set_cons_succ]
      refine take_to 29 80 ?v29 rfl rfl (by kernel_rfl) (by kernel_rfl) (by kernel_rfl) (fun _ _ _ h => h) (Or.inl ⟨by kernel_rfl, fun w' h => ?hy29⟩) hHeld ?rest29
      case hy29 => (obtain ⟨h0, h1, h2⟩ := h; go_simp; try with_reducible rfl)
      try simp only [List.setIfInBounds_toArray, List.set_cons_zero, List.set_cons_succ]
      refine take_to 30 81 ?v30 rfl rfl (by kernel_rfl) (by kernel_rfl) (by kernel_rfl) (fun _ _ _ h => h) (Or.inl ⟨by kernel_rfl, fun w' h => ?hy30⟩) hHeld ?rest30
      case hy30 => (obtain ⟨h0, h1, h2⟩ := h; go_simp; try with_reducible rfl)
      try simp only [List.setIfInBounds_toArray, List.set_cons_zero, List.set_cons_succ]
      refine wpAnyH_ready (rs := [4, 31]) (by kernel_rfl) (by simp) ?_
      refine AllReadyH.cons rfl (fun K' hK' => ?_) (AllReadyH.cons rfl (fun K' hK' => ?_) AllReadyH.nil)
      · rw [if_pos (by kernel_rfl)]
        go_wp2_with fail
        clear hHeld
        refine hK'.out _ _ ⟨q0, q1, q2⟩ (fun hHeld => ?_)
        clear hK' K'
        try simp only [Act.put, List.setIfInBounds_toArray, List.set_cons_zero, List.set_cons_succ]
        refine wpAnyH_ready (rs := [31]) (by kernel_rfl) (by simp) ?_
        refine AllReadyH.cons rfl (fun K' hK' => ?_) AllReadyH.nil
        rw [if_pos (by kernel_rfl)]
        go_wp2_with fail
        clear hHeld
        refine hK'.out _ _ ⟨p0, p1, p2⟩ (fun hHeld => ?_)
        clear hK' K'
        try simp only [Act.put, List.setIfInBounds_toArray, List.set_cons_zero, List.set_cons_succ]
        refine wpAnyH_ready (rs := [32]) (by kernel_rfl) (by simp) ?_
        refine AllReadyH.cons rfl (fun K' hK' => ?_) AllReadyH.nil
        refine step_appSet (by rfl) (.tmp 55) (.tmp 82) (by rfl) w.heap.size vs (es.map leS) (by rfl) (by exact HOA.out) w8.heap.size (leS ⟨gk, ck, gv, cv, s⟩) (by rfl) (by exact HNW.out) (by rw [List.length_map]; omega) (by have := HSB.out; simp; omega) n' HN' ?_
        intro g9 cap9 w9 HO9 HG9 HL9
        have HA9 := hid (ap_ (w0 := w) (i := 0) (v5 := .slice (some ⟨g9, 0, none⟩) n' cap9) HLn8.out.var HLn8.out.os (by decide) HBD.out HG9.out)
        have HLnA := hid (HLn8.out.appS (d := leS ⟨gk, ck, gv, cv, s⟩) HBD.out HG9.out HO9.out)
        have HB9 := hid (HLn9 HBD.out HG9.out)
        have z0 := (three_cell HA9.out.1).1.1
        have f0 := (three_cell HA9.out.1).2 0
        have r0 := (HB9.out.cell HBL.out).trans HW0.out
        have r1 := (HB9.out.cell HBL.out).trans HW1.out
        have r2 := (HB9.out.cell HBL.out).trans HW2.out
        clear hHeld
        refine hK'.out _ _ ⟨r0, r1, r2⟩ (fun hHeld => ?_)
        clear hK' K'
        try simp only [Act.put, List.setIfInBounds_toArray]
        refine take_to 33 84 ?v31 rfl rfl (by kernel_rfl) (by kernel_rfl) (by kernel_rfl) (fun _ _ _ h => h) (Or.inl ⟨by kernel_rfl, fun w' h => ?hy31⟩) hHeld ?rest31
        case hy31 => (obtain ⟨h0, h1, h2⟩ := h; go_simp; try with_reducible rfl)
        try simp only [List.setIfInBounds_toArray, List.set_cons_zero, List.set_cons_succ]
        refine take_to 34 85 ?v32 rfl rfl (by kernel_rfl) (by kernel_rfl) (by kernel_rfl) (fun _ _ _ h => h) (Or.inl ⟨by kernel_rfl, fun w' h => ?hy32⟩) hHeld ?rest32
        case hy32 => (obtain ⟨h0, h1, h2⟩ := h; go_simp; try with_reducible rfl)
        refine wpAnyH_ready (rs := [35]) (by kernel_rfl) (by simp) ?_
        refine AllReadyH.cons rfl (fun K' hK' => ?_) AllReadyH.nil
        rw [if_pos (by kernel_rfl)]
        go_wp2_with fail
        clear hHeld
        refine hK'.out _ _ ⟨(HLnA.out.bel.cell HBL.out).trans HW0.out, (HLnA.out.bel.cell HBL.out).trans HW1.out, (HLnA.out.bel.cell HBL.out).trans HW2.out⟩ (fun hHeld => ?_)
        clear hK' K'
        try simp only [Act.put, List.setIfInBounds_toArray, List.set_cons_zero, List.set_cons_succ]
        refine wpAnyH_done (by kernel_rfl) ?_ _
        clear z0 f0 r0 r1 r2 HA9 HO9 HG9 HL9 HB9 hHeld
        generalize w9.setCell ⟨w.heap.size, 0, none⟩ (.slice (some ⟨g9, 0, none⟩) n' cap9) = wA at *
        have HI2 : Hid ((es ++ [(⟨gk, ck, gv, cv, s⟩ : LE)]).map (·.s) = l.take (k + 1)) := by show _ = _; rw [HTK.out, List.map_append, HI.out]; rfl
        have HLnB : Hid (Ln w wA w.heap.size (.slice (some ⟨g9, 0, none⟩) n' cap9) (.slice a5 (es.length + 1) c5) (.slice a7 (es.length + 1) c7) ((es ++ [(⟨gk, ck, gv, cv, s⟩ : LE)]).map leS) (es ++ [⟨gk, ck, gv, cv, s⟩]) (es ++ [⟨gk, ck, gv, cv, s⟩]) (es ++ [⟨gk, ck, gv, cv, s⟩])) := by
          have h := HLnA.out
          rw [List.map_append]
          exact h
        go_wp2_with fail
        go_roundw
        case rel => exact ⟨k + 1, _, _, _, _, by omega, by go_num, HLnB, HI2⟩
        case measure => simp [intOf]; omega
      · rw [if_pos (by kernel_rfl)]
        go_wp2_with fail
        clear hHeld
        refine hK'.out _ _ ⟨p0, p1, p2⟩ (fun hHeld => ?_)
        clear hK' K'
        try simp only [Act.put, List.setIfInBounds_toArray, List.set_cons_zero, List.set_cons_succ]
        refine wpAnyH_ready (rs := [4]) (by kernel_rfl) (by simp) ?_
        refine AllReadyH.cons rfl (fun K' hK' => ?_) AllReadyH.nil
        rw [if_pos (by kernel_rfl)]
        go_wp2_with fail
        clear hHeld
        refine hK'.out _ _ ⟨p0, p1, p2⟩ (fun hHeld => ?_)
        clear hK' K'
        try simp only [Act.put, List.setIfInBounds_toArray, List.set_cons_zero, List.set_cons_succ]
        refine wpAnyH_ready (rs := [32]) (by kernel_rfl) (by simp) ?_
        refine AllReadyH.cons rfl (fun K' hK' => ?_) AllReadyH.nil
        refine step_appSet (by rfl) (.tmp 55) (.tmp 82) (by rfl) w.heap.size vs (es.map leS) (by rfl) (by exact HOA.out) w8.heap.size (leS ⟨gk, ck, gv, cv, s⟩) (by rfl) (by exact HNW.out) (by rw [List.length_map]; omega) (by have := HSB.out; simp; omega) n' HN' ?_
        intro g9 cap9 w9 HO9 HG9 HL9
        have HA9 := hid (ap_ (w0 := w) (i := 0) (v5 := .slice (some ⟨g9, 0, none⟩) n' cap9) HLn8.out.var HLn8.out.os (by decide) HBD.out HG9.out)
        have HLnA := hid (HLn8.out.appS (d := leS ⟨gk, ck, gv, cv, s⟩) HBD.out HG9.out HO9.out)
        have HB9 := hid (HLn9 HBD.out HG9.out)
        have z0 := (three_cell HA9.out.1).1.1
        have f0 := (three_cell HA9.out.1).2 0
        have r0 := (HB9.out.cell HBL.out).trans HW0.out
        have r1 := (HB9.out.cell HBL.out).trans HW1.out
        have r2 := (HB9.out.cell HBL.out).trans HW2.out
        clear hHeld
        refine hK'.out _ _ ⟨r0, r1, r2⟩ (fun hHeld => ?_)
        clear hK' K'
        try simp only [Act.put, List.setIfInBounds_toArray]
        refine take_to 33 84 ?v33 rfl rfl (by kernel_rfl) (by kernel_rfl) (by kernel_rfl) (fun _ _ _ h => h) (Or.inl ⟨by kernel_rfl, fun w' h => ?hy33⟩) hHeld ?rest33
        case hy33 => (obtain ⟨h0, h1, h2⟩ := h; go_simp; try with_reducible rfl)
        try simp only [List.setIfInBounds_toArray, List.set_cons_zero, List.set_cons_succ]
        refine take_to 34 85 ?v34 rfl rfl (by kernel_rfl) (by kernel_rfl) (by kernel_rfl) (fun _ _ _ h => h) (Or.inl ⟨by kernel_rfl, fun w' h => ?hy34⟩) hHeld ?rest34
        case hy34 => (obtain ⟨h0, h1, h2⟩ := h; go_simp; try with_reducible rfl)
        refine wpAnyH_ready (rs := [35]) (by kernel_rfl) (by simp) ?_
        refine AllReadyH.cons rfl (fun K' hK' => ?_) AllReadyH.nil
        rw [if_pos (by kernel_rfl)]
        go_wp2_with fail
        clear hHeld
        refine hK'.out _ _ ⟨(HLnA.out.bel.cell HBL.out).trans HW0.out, (HLnA.out.bel.cell HBL.out).trans HW1.out, (HLnA.out.bel.cell HBL.out).trans HW2.out⟩ (fun hHeld => ?_)
        clear hK' K'
        try simp only [Act.put, List.setIfInBounds_toArray, List.set_cons_zero, List.set_cons_succ]
        refine wpAnyH_done (by kernel_rfl) ?_ _
        clear z0 f0 r0 r1 r2 HA9 HO9 HG9 HL9 HB9 hHeld
        generalize w9.setCell ⟨w.heap.size, 0, none⟩ (.slice (some ⟨g9, 0, none⟩) n' cap9) = wA at *
        have HI2 : Hid ((es ++ [(⟨gk, ck, gv, cv, s⟩ : LE)]).map (·.s) = l.take (k + 1)) := by show _ = _; rw [HTK.out, List.map_append, HI.out]; rfl
        have HLnB : Hid (Ln w wA w.heap.size (.slice (some ⟨g9, 0, none⟩) n' cap9) (.slice a5 (es.length + 1) c5) (.slice a7 (es.length + 1) c7) ((es ++ [(⟨gk, ck, gv, cv, s⟩ : LE)]).map leS) (es ++ [⟨gk, ck, gv, cv, s⟩]) (es ++ [⟨gk, ck, gv, cv, s⟩]) (es ++ [⟨gk, ck, gv, cv, s⟩])) := by
          have h := HLnA.out
          rw [List.map_append]
          exact h
        go_wp2_with fail
        go_roundw
        case rel => exact ⟨k + 1, _, _, _, _, by omega, by go_num, HLnB, HI2⟩
        case measure => simp [intOf]; omega
    · have hI : ¬ (k : Int) < n := by omega
      obtain rfl : k = n := by omega
      have hfull : l.take k = l := List.take_of_length_le (by rw [HLN.out]; exact Nat.le_refl _)
      rw [hfull] at HI
      have hes : es.length ≤ 10000000 := by have := HEL.out; omega
      obtain ⟨⟨x0, x1, x2⟩, fx⟩ := three_cell HLn.out.var
      have f0 := fx 0
      have HOA := hid (HLn.out.os.alloc (.cells #[.slice none 0 0, .slice none 0 0, .bool true] 44))
      have HBA := hid ((Below.refl wr.heap.size wr).alloc (Nat.le_refl _) (.cells #[.slice none 0 0, .slice none 0 0, .bool true] 44))
      have HNW : Hid (∀ j u, (sdc endS)[j]? = some u → (wr.alloc (.cells #[.slice none 0 0, .slice none 0 0, .bool true] 44)).cell? ⟨wr.heap.size, j, none⟩ = some u) := fun j u hj => by
        rw [cell_of_row _ wr.heap.size j _ 44 (0, 0) (heap_alloc_new wr _)]
        simp only [sdc, endS] at hj
        simpa using hj
      have HSZ : Hid (w.heap.size ≤ (wr.alloc (.cells #[.slice none 0 0, .slice none 0 0, .bool true] 44)).heap.size) := Nat.le_trans HLn.out.bel.size HBA.out.size
      clear hlt hk fx x1 x2
      go_wp2_with (at_builtin; refine wpList_appSet rfl _ _ rfl w.heap.size _ (es.map leS) rfl (by exact HOA.out) wr.heap.size endS rfl (by exact HNW.out) (by rw [List.length_map]; omega) (by exact HSZ.out) ?_; intro v5 w5 o5 g5 l5; obtain ⟨a5, c5, e5, -⟩ := own_addr o5; subst e5; have HO5 := hid o5; have HG5 := hid g5; have HA5 := hid (ap_ (w0 := w) (i := 0) (v5 := .slice a5 (es.map leS ++ [endS]).length c5) HLn.out.var HLn.out.os (by decide) HBA.out g5); have z0 := (three_cell HA5.out.1).1.1; have f1 := (three_cell HA5.out.1).2 0; clear o5 g5 l5; refine Hid.out ?_)
      refine hid ?_
      have HLZ := hid (HLn.out.appS (d := endS) HBA.out HG5.out HO5.out)
      have HLE : Hid ((es.map leS ++ [endS]).length = es.length + 1) := by simp [Hid]
      rw [HLE.out] at HLZ
      clear HOA HNW HSZ HG5 HO5
      go_wp2_with fail
      go_ret
      first | exact ⟨_, _, _, _, es, rfl, HLZ.out, HI.out⟩ | exact ⟨_, _, _, _, rfl, es, HLZ.out, HI.out⟩ | exact ⟨w.heap.size, _, _, _, es, rfl, HLZ.out, HI.out⟩
end Go.Proofs.YteeapmcpbmjpmaaGreat
