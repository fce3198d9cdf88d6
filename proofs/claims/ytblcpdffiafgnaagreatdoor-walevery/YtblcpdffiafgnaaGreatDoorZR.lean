import Derived.Test.YtblcpdffiafgnaaGreatDoorZK
import Derived.Test.YtblcpdffiafgnaaGreatDoorD1
import Derived.ProofKit
import Derived.OpenShut
import Derived.ChangeSame
import Derived.Deep.Slices
import Derived.Deep.Strs
import Derived.SizedLaws
import Derived.Deep.Grids
namespace Go.Proofs.YtblcpdffiafgnaaGreatDoor
set_option linter.unusedSimpArgs false
set_option maxRecDepth 100000
open Go.RowKit Go.Shelf
set_option linter.unusedVariables false
set_option linter.unusedSimpArgs false
variable {Ee : Ex}

/-- What the town tells, and what is sure: asked whether they are alike. -/
theorem Tw.ts {w0 w : World} {t : Nat} {T : Tp} (h : Tw Ee w0 w t T) : ∃ v1 v2 v3 v4, w.cell? ⟨t, 3, none⟩ = some v1 ∧ w.cell? ⟨t, 4, none⟩ = some v2 ∧ w.cell? ⟨t, 8, none⟩ = some v3 ∧ w.cell? ⟨t, 9, none⟩ = some v4 ∧ ∀ wx, Bw w wx → Calls Tryz.prog 14 #[.agg #[v3, v4], .agg #[v1, v2]] wx fun en w' => en = .returned (.bool (decide (T.T = T.A))) ∧ Bw w w' := by
  obtain ⟨d, g, l, Q, R, s1, x1, s2, x2, s3, x3, H⟩ := h
  obtain ⟨b1, n1, m1, ta1, k1, tc1, vs1, e1, f1, bs1, hm1, tx1, _⟩ := H.a1.form
  obtain ⟨b3, n3, m3, ta3, k3, tc3, vs3, e3, f3, bs3, hm3, tx3, _⟩ := H.a3.form
  subst e1 f1 e3 f3
  refine ⟨_, _, _, _, H.tn.cell 3, H.tn.cell 4, H.tn.cell 8, H.tn.cell 9, fun wx hx => ?_⟩
  refine (same_ wx b3 n3 m3 T.T.1 ta3 k3 tc3 T.T.2 b1 n1 m1 T.A.1 ta1 k1 tc1 T.A.2 (bs3.below hx) (tx3.below hx) (bs1.below hx) (tx1.below hx) hm3 hm1).mono ?_
  rintro en w' ⟨rfl, hb⟩
  refine ⟨?_, hx.on hb⟩
  have : (T.T = T.A) ↔ (T.T.1 = T.A.1 ∧ T.T.2 = T.A.2) := ⟨fun q => by rw [q]; exact ⟨rfl, rfl⟩, fun q => Prod.ext q.1 q.2⟩
  simp only [this]
/-- Its cells. -/
theorem Tw.c1 {w0 w : World} {t : Nat} {T : Tp} {n : Nat} (h : Tw Ee w0 w t T) (hv : Tv T n) (hl : T.lg ≠ none) : ∃ g, w.cell? ⟨t, 1, none⟩ = some (.pointer (some ⟨g, 0, none⟩)) := by
  obtain ⟨d, g, l, Q, R, s1, x1, s2, x2, s3, x3, H⟩ := h
  obtain ⟨y, hy⟩ := Option.ne_none_iff_exists'.1 hl
  obtain ⟨ep, nx, pl⟩ := y
  obtain ⟨p1, p2, _⟩ := hv.pl hy
  obtain ⟨q1, _⟩ := H.wq hy p2
  subst q1
  exact ⟨g, H.tn.cell 1⟩
theorem Tw.c5 {w0 w : World} {t : Nat} {T : Tp} (h : Tw Ee w0 w t T) : w.cell? ⟨t, 5, none⟩ = some (.bool T.op) := by
  obtain ⟨d, g, l, Q, R, s1, x1, s2, x2, s3, x3, H⟩ := h
  exact H.tn.cell 5
theorem Tw.c2 {w0 w : World} {t : Nat} {T : Tp} (h : Tw Ee w0 w t T) : w.cell? ⟨t, 2, none⟩ = some (.bool T.safe) := by
  obtain ⟨d, g, l, Q, R, s1, x1, s2, x2, s3, x3, H⟩ := h
  exact H.tn.cell 2
/-- With nothing refused, a safe log in hand. -/
structure Kp (T : Tp) (n : Nat) : Prop where
  v : Tv T n
  c : Calm T.s
  l : T.lg ≠ none
  s : T.safe = true
  o : T.op = false
/-- An Open behind it, and a Safe. -/
theorem kp_open {T : Tp} {n : Nat} (v : Tv T n) (c : Calm T.s) (o : T.op = false) : Tv (opT T) (n + 1) ∧ Calm (opT T).s ∧ (opT T).lg ≠ none ∧ (opT T).safe = false ∧ (opT T).op = false ∧ (opT T).T = (opT T).A ∧ (opT T).A = T.A ∧ Kp (sfT (opT T)) (n + 2) ∧ (sfT (opT T)).A = T.A := by
  have v1 := v.opens
  obtain ⟨c1, ep, nx, pl, e1⟩ := calm_opens v c
  obtain ⟨o1, o2, o3, o4, o5⟩ := opT_s T
  have hl : (opT T).lg ≠ none := by rw [e1]; simp
  obtain ⟨e2, c2⟩ := calm_safes c1 hl o2
  have ht : (opT T).T = (opT T).A := by
    rcases (v1.hn o2 ep nx pl e1).1 with q | q
    · exact q
    · rw [o4, o] at q; cases q.1
  have v2 := v1.safes
  refine ⟨v1, c1, hl, o2, o4.trans o, ht, o3, ⟨v2, c2, ?_, ?_, ?_⟩, ?_⟩
  · rw [e2]; exact hl
  · rw [e2]
  · rw [e2]
  · rw [e2]; exact ht.trans o3
theorem Kp.up {T : Tp} {n m : Nat} (h : Kp T n) (hm : n ≤ m) : Kp T m := ⟨h.v.up hm, h.c, h.l, h.s, h.o⟩
theorem Kp.step {T T' : Tp} {n : Nat} {K : Int} {dat : List Int} {fs : List (Int × Int)} {ks : List Bool} (h : Kp T n) (hn : n ≤ 1000000) (hs : Ts K dat fs ks T T') (h2 : K ≠ 2) (h3 : K ≠ 3) (h9 : K ≠ 9) (h10 : K ≠ 10) : Kp T' (n + 1) := by
  have hv := hs.tv h.v hn
  rcases hs with ⟨q, _⟩ | ⟨q, _⟩ | ⟨_, d, hb, _, rfl⟩ | ⟨_, d, hb, _, rfl⟩ | ⟨q, _⟩ | ⟨q, _⟩ | ⟨_, rfl⟩
  · exact absurd q h2
  · exact absurd q h3
  · obtain ⟨a1, a2, a3, a4⟩ := calm_app h.c h.l d
    exact ⟨hv, a1, a2, a3.trans h.s, a4.trans h.o⟩
  · obtain ⟨a1, a2, a3, a4⟩ := calm_ck h.c h.l d
    exact ⟨hv, a1, a2, a3.trans h.s, a4.trans h.o⟩
  · exact absurd q h9
  · exact absurd q h10
  · exact ⟨hv, h.c, h.l, h.s, h.o⟩
theorem setRow_at {w : World} {g : Nat} {cs : Array Value} {t : TypeId} (hg : w.heap[g]? = some (.cells cs t (0, 0))) (ds : Array Value) : (w.setRow g ds).heap[g]? = some (.cells ds t (0, 0)) := by
  simp [World.setRow, Array.getElem?_modify, hg]
abbrev opZ : Array Value := #[.int .i64 0, .int .i64 0, .bool false, .slice none 0 0, .slice none 0 0, .slice none 0 0, .string ⟨#[]⟩, .int .i64 0, .int .i64 0, .int .i64 0, .slice none 0 0]
/-- An Op in a variable of its own. -/
theorem op_var (w : World) (y : Ow) : Below w.heap.size w ((w.alloc (.cells opZ 33)).setRow w.heap.size y.cs) ∧ ((w.alloc (.cells opZ 33)).setRow w.heap.size y.cs).heap[w.heap.size]? = some (.cells y.cs 33 (0, 0)) := by
  have F : Fr (fun b => b = w.heap.size) (w.alloc (.cells opZ 33)) ((w.alloc (.cells opZ 33)).setRow w.heap.size y.cs) := fr_setRow _ _ _
  have B2 : Below w.heap.size w (w.alloc (.cells opZ 33)) := (Below.refl _ _).alloc (Nat.le_refl _) _
  refine ⟨⟨F.os.trans B2.os, F.tape.trans B2.tape, F.output.trans B2.output, Nat.le_trans B2.size F.size, fun b hb => (F.same b (Nat.lt_of_lt_of_le hb B2.size) (by omega)).trans (B2.block b hb)⟩, ?_⟩
  have hg : (w.alloc (.cells opZ 33)).heap[w.heap.size]? = some (.cells opZ 33 (0, 0)) := World.alloc_heap_new w _
  exact setRow_at hg _
theorem range_of {w : World} {g : Nat} {cs : Array Value} {t : TypeId} (h : w.heap[g]? = some (.cells cs t (0, 0))) : w.rangeAt g 0 cs.toList := fun j v hv => by
  rw [Nat.zero_add, cell_of_row _ _ j _ _ (0, 0) h]
  simpa using hv
end Go.Proofs.YtblcpdffiafgnaaGreatDoor
namespace Go.Proofs.YtblcpdffiafgnaaGreatDoor
set_option linter.unusedSimpArgs false
set_option maxRecDepth 100000
open Go.RowKit Go.Shelf
set_option linter.unusedVariables false
set_option linter.unusedSimpArgs false
variable {Ee : Ex}

/-- Bytes that came in. -/
structure Dt (w : World) (da : Option Addr) (dn dc : Nat) (dat : List Int) : Prop where
  b : Bs w da dn dat
  c : dn ≤ dc
  m : dc ≤ maxLen
  n : dn ≤ 140737488351232
theorem Dt.lt {w : World} {da : Option Addr} {dn dc : Nat} {dat : List Int} (h : Dt w da dn dc dat) : ∀ ad, da = some ad → 0 < dn → ad.block < w.heap.size := fun ad ha h0 => by
  rcases h.b.2.2 with q | ⟨b, off, e, hc⟩
  · omega
  · rw [e] at ha
    cases ha
    exact World.block_lt_of_cell? _ _ (hc 0 h0)
theorem Dt.below {w w' : World} {da : Option Addr} {dn dc : Nat} {dat : List Int} (h : Dt w da dn dc dat) (hb : Below w.heap.size w w') : Dt w' da dn dc dat := ⟨h.b.below hb, h.c, h.m, h.n⟩
theorem Dt.oo {w w0 w1 : World} {da : Option Addr} {dn dc : Nat} {dat : List Int} (h : Dt w da dn dc dat) (hb : Below w.heap.size w w1) (h0 : w.heap.size ≤ w0.heap.size) : Oo w0 w1 da dn dc dat none 0 [] none 0 [] :=
  ⟨h.b.below hb, fun ad ha hn => Nat.lt_of_lt_of_le (h.lt ad ha hn) h0, h.c, h.m, h.n, ⟨rfl, .inl rfl⟩, by omega, ⟨rfl, .inl rfl⟩, fun ad e => (by cases e), by omega⟩
/-- An Op of a kind and bytes alone. -/
abbrev owD (K : Int) (da : Option Addr) (dn dc : Nat) (dat : List Int) : Ow := ⟨K, 0, false, da, dn, dc, dat, none, 0, 0, [], none, 0, 0, [], ⟨#[]⟩, 0, 0, 0, none, 0, 0⟩
structure Xt where
  a : Option Addr
  n : Nat
  c : Nat
  z : List Int
/-- A list of byte lists that came in. -/
def IsTxs (w : World) (a : Option Addr) (m : Nat) (X : Nat → Xt) : Prop := m = 0 ∨ ∃ b off, a = some ⟨b, off, none⟩ ∧ ∀ i, i < m → w.cell? ⟨b, off + i, none⟩ = some (.slice (X i).a (X i).n (X i).c) ∧ Dt w (X i).a (X i).n (X i).c (X i).z
theorem IsTxs.below {w w' : World} {a : Option Addr} {m : Nat} {X : Nat → Xt} (h : IsTxs w a m X) (hb : Below w.heap.size w w') : IsTxs w' a m X := by
  rcases h with h | ⟨b, off, e, hc⟩
  · exact .inl h
  · exact .inr ⟨b, off, e, fun i hi => ⟨(hb.cell (p := ⟨b, off + i, none⟩) (World.block_lt_of_cell? _ _ (hc i hi).1)).trans (hc i hi).1, (hc i hi).2.below hb⟩⟩
set_option maxHeartbeats 8000000 in
theorem filled_ (n : Int) (w : World) (hT : Tab w) (xa : Option Addr) (xn xc : Nat) (X : Nat → Xt) (hx : IsTxs w xa xn X) (hxn : xn ≤ 140737488355328) (sa : Option Addr) (sn sc : Nat) (st : List Int) (hs : Dt w sa sn sc st) : Calls Tryz.prog 15 #[.int .i64 n, .slice xa xn xc, .slice sa sn sc] w fun en w' => ∃ t, en = .returned (.pointer (some ⟨t, 0, none⟩)) ∧ ∃ T, Kp T 30 ∧ Tw Tr w w' t T := by
  have kb := begins_ n w hT
  have HX := hid hx
  have HS := hid hs
  clear hT hx hs
  go_enter Tryz.func15, Tryz.ntmps15
  go_wp2_with fail
  refine kb.mono ?_
  rintro en w2 ⟨t, rfl, T2⟩
  simp only
  obtain ⟨tv0, cm0⟩ := tv_begin (tnN n) (tnN_bd n).1 (tnN_bd n).2
  have ko := opens_ w w2 t _ 1 T2 tv0 (by omega)
  have KO := hid (kp_open tv0 cm0 rfl)
  clear kb T2 tv0 cm0
  go_wp2_with fail
  refine ko.mono ?_
  rintro en w3 ⟨rfl, h3⟩
  simp only
  have ks := safes_ w w3 t _ 2 h3 KO.out.1 (by omega)
  clear ko h3
  go_wp2_with fail
  refine ks.mono ?_
  rintro en w4 ⟨rfl, h4⟩
  simp only
  have H4 := hid h4
  clear ks h4
  go_wp2_with fail
  go_loopw [8, 9] (fun okv i wr => ∃ (j : Nat) (T : Tp), j ≤ 12 ∧ i = .int .i64 j ∧ okv = .bool true ∧ Kp T (2 * j + 3) ∧ Tw Tr w wr t T) (fun _ i _ => 12 - (intOf i).toNat)
  case atStart => exact ⟨0, _, by omega, rfl, rfl, KO.out.2.2.2.2.2.2.2.1, H4.out⟩
  case round =>
    clear KO H4
    obtain ⟨j, T, hj, rfl, rfl, hk, htw⟩ := hrel
    by_cases hlt : j < xn ∧ j < 12
    · obtain ⟨h1, h2⟩ := hlt
      have h1I : (j : Int) < (xn : Int) := by omega
      have h2I : (j : Int) < 12 := by omega
      obtain ⟨b, off, rfl, hel⟩ : ∃ b off, xa = some ⟨b, off, none⟩ ∧ _ := HX.out.resolve_left (by omega)
      obtain ⟨hcl, hdt⟩ := hel j h1
      have bW : Below w.heap.size w wr := htw.bel
      have hcl2 := (bW.cell (p := ⟨b, off + j, none⟩) (World.block_lt_of_cell? _ _ hcl)).trans hcl
      have ks := step_ w wr t T (2 * j + 3) (owD 4 (X j).a (X j).n (X j).c (X j).z) htw hk.v (by omega) (hdt.oo bW (Nat.le_refl _))
      have hnx : Hid (∀ T', Ts 4 (X j).z [] [] T T' → Kp T' (2 * j + 3 + 1)) := fun T' hts => hk.step (by omega) hts (by decide) (by decide) (by decide) (by decide)
      clear hcl hdt hel htw hk bW
      go_wp2_with fail
      refine ks.mono ?_
      rintro en w5 ⟨rfl, T', hts, htw'⟩
      simp only
      have hk' := hnx.out T' hts
      obtain ⟨g, d1⟩ := htw'.c1 hk'.v hk'.l
      clear ks hts hnx
      by_cases h5 : j = 5
      · subst h5
        have ks := step_ w w5 t T' (2 * 5 + 3 + 1) (owD 6 sa sn sc st) htw' hk'.v (by omega) (HS.out.oo htw'.bel (Nat.le_refl _))
        have hnx : Hid (∀ T'', Ts 6 st [] [] T' T'' → Kp T'' (2 * 5 + 3 + 2)) := fun T'' hts => hk'.step (by omega) hts (by decide) (by decide) (by decide) (by decide)
        clear htw' hk'
        rw [show ((5 : Nat) : Int) = 5 from rfl]
        go_wp2_with fail
        refine ks.mono ?_
        rintro en w6 ⟨rfl, T6, hts, htw6⟩
        simp only
        have hk6 := hnx.out T6 hts
        obtain ⟨g6, d1⟩ := htw6.c1 hk6.v hk6.l
        have HN := hid (And.intro hk6 htw6)
        clear ks hts hnx hk6 htw6
        go_wp2_with fail
        go_roundw
        case rel => exact ⟨6, _, by omega, by go_num, rfl, HN.out.1, HN.out.2⟩
        case measure => simp [intOf]
      · have h5I : ¬ (j : Int) = 5 := by omega
        have h5B : ((j : Int) == 5) = false := by simp; omega
        have HN := hid (And.intro (hk'.up (show 2 * j + 3 + 1 ≤ 2 * (j + 1) + 3 by omega)) htw')
        clear hk' htw'
        go_wp2_with fail
        go_roundw
        case rel => exact ⟨j + 1, _, by omega, by go_num, rfl, HN.out.1, HN.out.2⟩
        case measure => simp [intOf]; omega
    · have HN := hid (And.intro (hk.up (show 2 * j + 3 ≤ 30 by omega)) htw)
      clear hk htw
      by_cases h1 : j < xn
      · have h1I : (j : Int) < (xn : Int) := by omega
        have h2I : ¬ (j : Int) < 12 := fun q => hlt ⟨h1, by omega⟩
        go_wp2_with fail
        go_ret
        exact ⟨t, rfl, _, HN.out.1, HN.out.2⟩
      · have h1I : ¬ (j : Int) < (xn : Int) := by omega
        go_wp2_with fail
        go_ret
        exact ⟨t, rfl, _, HN.out.1, HN.out.2⟩
end Go.Proofs.YtblcpdffiafgnaaGreatDoor
namespace Go.Proofs.YtblcpdffiafgnaaGreatDoor
set_option linter.unusedSimpArgs false
set_option maxRecDepth 100000
open Go.ChangeShapes Go.WideShapes Go.ChangeAt Go.RowKit
set_option linter.unusedVariables false

/-- A slice of integers that came in: nil, or a row of 'cap' numbers. -/
def IsRow (k : IntKind) (w : World) (a : Option Addr) (len cap : Nat) (zs : List Int) : Prop :=
  (a = none ∧ len = 0 ∧ cap = 0 ∧ zs = []) ∨
  ∃ x, a = some x ∧ len ≤ cap ∧ cap ≤ maxLen ∧ zs.length = cap ∧ (∀ i, i < zs.length → w.cell? (x.add i) = some (.int k (zs.getD i 0))) ∧ ∀ n ∈ zs, (Lit.int k n).wf = true

theorem IsRow.fits {k : IntKind} {w : World} {a : Option Addr} {len cap : Nat} {zs : List Int} (h : IsRow k w a len cap zs) : len ≤ cap ∧ cap ≤ maxLen ∧ (a = none → cap = 0) ∧ zs.length = cap := by
  rcases h with ⟨rfl, rfl, rfl, rfl⟩ | ⟨x, rfl, hl, hm, hz, _⟩
  · exact ⟨Nat.le_refl _, by unfold maxLen; omega, fun _ => rfl, rfl⟩
  · exact ⟨hl, hm, (fun e => by cases e), hz⟩

theorem IsRow.at {k : IntKind} {w : World} {a : Option Addr} {len cap : Nat} {zs : List Int} (h : IsRow k w a len cap zs) :
    len = 0 ∨ ∃ b off, a = some ⟨b, off, none⟩ ∧ ∀ i, i < len → w.cell? ⟨b, off + i, none⟩ = some (.int k (zs.getD i 0)) := by
  rcases h with ⟨rfl, rfl, rfl, rfl⟩ | ⟨x, rfl, hl, hm, hz, hcell, hwz⟩
  · exact .inl rfl
  · by_cases h0 : len = 0
    · exact .inl h0
    · obtain ⟨b, off, spot⟩ := x
      have hc := hcell 0 (by omega)
      have hspot : spot = none := by simpa [Addr.add] using World.cell?_spot hc
      subst hspot
      refine .inr ⟨b, off, rfl, fun i hi => ?_⟩
      have := hcell i (by omega)
      rwa [Addr.add_lit] at this

theorem IsRow.bs {w : World} {a : Option Addr} {len cap : Nat} {zs : List Int} (h : IsRow .u8 w a len cap zs) : Bs w a len (zs.take len) := by
  obtain ⟨f1, f2, _, f3⟩ := h.fits
  have hat := h.at
  refine ⟨by simp; omega, fun z hz => ?_, ?_⟩
  · rcases h with ⟨rfl, rfl, rfl, rfl⟩ | ⟨x, rfl, hl, hm, hz', hcell, hwz⟩
    · simp at hz
    · exact bounds_u8 (hwz z (List.mem_of_mem_take hz))
  · rcases hat with h0 | ⟨b, off, rfl, hc⟩
    · exact .inl h0
    · refine .inr ⟨b, off, rfl, fun i hi => ?_⟩
      rw [hc i hi]
      simp only [List.getD, List.getElem?_take, if_pos hi]
theorem open_bytes {H : Type} {enc : TypeId × Value → H} {W : World} {b0 fuel : Nat} {held : Bool} {cs : List Value} {x : DataW H × List MemPlace} (h : DataW.trod enc Tryz.prog W b0 (fun _ => true) held fuel 27 cs = some x) (hw : ∀ n ∈ x.1.weights Tryz.prog 27, n ≤ reachBytes) :
    ∃ a len cap zs, cs = [.slice a len cap] ∧ IsRow .u8 W a len cap zs ∧ len ≤ 140737488351232 ∧ cap ≤ 140737488355328 := by
  rcases open_ints Tryz.underlying27 Tryz.underlying5 (by kernel_rfl) h with ⟨rfl, _⟩ | ⟨y, l, c, zs, rfl, _, hl, hm, hz, hdat, hcell, hwz⟩
  · exact ⟨none, 0, 0, [], rfl, .inl ⟨rfl, rfl, rfl, rfl⟩, by omega, by omega⟩
  · refine ⟨some y, l, c, zs, rfl, .inr ⟨_, rfl, hl, hm, by simpa using hz, hcell, hwz⟩, ?_⟩
    subst hdat
    have hs := hw (((lits (H := H) .u8 (zs.take l)).length + (lits (H := H) .u8 (zs.drop l)).length) * Tryz.prog.bytesOf 5) (by simp only [DataW.weights, Tryz.underlying27]; exact List.mem_cons_self)
    rw [show Tryz.prog.bytesOf 5 = 1 by kernel_rfl, Nat.mul_one] at hs
    have hr : reachBytes = 140737488351232 := by decide
    have hlen : l ≤ zs.length := by simp at hz; omega
    simp only [lits, List.length_map, List.length_take, List.length_drop] at hs
    have hz2 : zs.length = c := by simpa using hz
    omega
theorem sized_at {H : Type} {P : Program} {ts : List TypeId} {ds : List (DataW H)} {j : Nat} {t : TypeId} {d : DataW H} (h : (DataW.weightsEach P ts ds).all (· ≤ reachBytes) = true) (ht : ts[j]? = some t) (hd : ds[j]? = some d) : ∀ n ∈ d.weights P t, n ≤ reachBytes := fun n hn => by
  have := List.all_eq_true.1 h _ (DataW.weights_mem_each ht hd n hn)
  simpa using this
end Go.Proofs.YtblcpdffiafgnaaGreatDoor
namespace Go.Proofs.YtblcpdffiafgnaaGreatDoor
set_option linter.unusedSimpArgs false
set_option maxRecDepth 100000
open Go.ChangeShapes Go.WideShapes Go.ChangeAt Go.RowKit Go.Deep
set_option linter.unusedVariables false

theorem mem_weightsAll {H : Type} {P : Program} {e : TypeId} {d : DataW H} {m : Nat} (hm : m ∈ d.weights P e) : ∀ {l : List (DataW H)}, d ∈ l → m ∈ DataW.weightsAll P e l
  | x :: l, h => by
    rw [DataW.weightsAll]
    rcases List.mem_cons.1 h with rfl | h
    · exact List.mem_append_left _ hm
    · exact List.mem_append_right _ (mem_weightsAll hm h)
theorem cells_two {w : World} {base : Nat} {x : Addr} {cs : List Value} (h : w.cells? base x 2 = some cs) : ∃ c0 c1, cs = [c0, c1] ∧ w.cell? (x.add 0) = some c0 ∧ w.cell? (x.add 1) = some c1 := by
  unfold World.cells? at h
  split at h
  · simp only [List.range, List.range.loop, List.mapM_cons, List.mapM_nil, Option.bind_eq_bind, Option.pure_def, Option.bind_eq_some_iff] at h
    obtain ⟨c0, h0, y, ⟨c1, h1, u, e2, e1⟩, e0⟩ := h
    simp at e0 e1 e2
    subst e2 e1 e0
    exact ⟨c0, c1, rfl, h0, h1⟩
  · cases h
theorem cells3 : Tryz.prog.cellsOf 3 = 1 := by kernel_rfl
theorem cells4 : Tryz.prog.cellsOf 4 = 1 := by kernel_rfl
theorem cellsT : Tryz.prog.cellsOf 9 = 1 := by kernel_rfl
theorem cellsB : Tryz.prog.cellsOf 27 = 1 := by kernel_rfl
theorem IsRow.dt {w : World} {a : Option Addr} {len cap : Nat} {zs : List Int} (h : IsRow .u8 w a len cap zs) (hl : len ≤ 140737488351232) : Dt w a len cap (zs.take len) := ⟨h.bs, h.fits.1, h.fits.2.1, hl⟩
theorem underFt : ∃ f0 f1, Tryz.prog.underlying 50 = some (.struct #[f0, f1]) ∧ f0.type = 3 ∧ f1.type = 3 ∧ f0.offset = 0 ∧ f1.offset = 1 := ⟨_, _, Tryz.underlying50, rfl, rfl, rfl, rfl⟩
theorem cellsFt : Tryz.prog.cellsOf 50 = 2 := by kernel_rfl
theorem bytesFt : Tryz.prog.bytesOf 50 = 16 := by kernel_rfl
/-- A list of faults that came in. -/
theorem open_faults {H : Type} {enc : TypeId × Value → H} {w : World} {base fuel : Nat} {held : Bool} {cs : List Value} {x : DataW H × List MemPlace}
    (h : DataW.trod enc Tryz.prog w base (fun _ => true) held fuel 28 cs = some x) (hw : ∀ n ∈ x.1.weights Tryz.prog 28, n ≤ reachBytes) :
    ∃ a n c fs, cs = [.slice a n c] ∧ Fs w a n fs ∧ n * 16 ≤ 140737488355328 := by
  rcases open_slice Tryz.underlying28 h with ⟨rfl, _⟩ | ⟨x, n, c, m, nn, D, Pl, rfl, _, hl, hm, hme, hx, hel⟩
  · exact ⟨none, 0, 0, [], rfl, ⟨rfl, .inl rfl⟩, by omega⟩
  · have hnm : n ≤ m := by rw [hme]; split <;> omega
    subst hx
    have hb := hw ((((List.range n).map D).length + ((List.range (m - n)).map fun j => D (n + j)).length) * Tryz.prog.bytesOf 50) (by simp only [DataW.weights, Tryz.underlying28]; exact List.mem_cons_self)
    rw [bytesFt] at hb
    simp only [List.length_map, List.length_range] at hb
    have hr : reachBytes = 140737488351232 := by decide
    have key : ∀ i, i < n → ∃ y : Int × Int, w.cell? ((x.add (i * 2)).add 0) = some (.int .i64 y.1) ∧ w.cell? ((x.add (i * 2)).add 1) = some (.int .i64 y.2) := by
      intro i hi
      obtain ⟨cs', h1, h2⟩ := hel i (by omega)
      rw [cellsFt] at h1
      obtain ⟨c0, c1, rfl, g0, g1⟩ := cells_two h1
      obtain ⟨f0, f1, hu, t0, t1, o0, o1⟩ := underFt
      obtain ⟨y0, y1, q, _, _, k0, k1⟩ := trod_struct2 hu h2
      rw [t0, o0, cells3] at k0
      rw [t1, o1, cells3] at k1
      obtain ⟨z0, e0, _⟩ := DataW.trod_int Tryz.underlying3 k0
      obtain ⟨z1, e1, _⟩ := DataW.trod_int Tryz.underlying3 k1
      simp at e0 e1
      subst e0 e1
      exact ⟨(z0, z1), g0, g1⟩
    obtain ⟨f, hf⟩ := choose_lt key
    refine ⟨some x, n, c, (List.range n).map f, rfl, ⟨by simp, ?_⟩, by omega⟩
    by_cases h0 : n = 0
    · exact .inl h0
    obtain ⟨b, off, spot⟩ := x
    have hspot : spot = none := by simpa [Addr.add] using World.cell?_spot (hf 0 (by omega)).1
    subst hspot
    refine .inr ⟨b, off, rfl, fun i hi => ?_⟩
    have := hf i hi
    have hg : ((List.range n).map f).getD i (0, 0) = f i := by simp [List.getD, hi]
    rw [hg]
    simpa only [Addr.add_lit, Nat.add_zero] using this
/-- A list of truths that came in. -/
theorem open_bls {H : Type} {enc : TypeId × Value → H} {w : World} {base fuel : Nat} {held : Bool} {cs : List Value} {x : DataW H × List MemPlace}
    (h : DataW.trod enc Tryz.prog w base (fun _ => true) held fuel 29 cs = some x) (hw : ∀ n ∈ x.1.weights Tryz.prog 29, n ≤ reachBytes) :
    ∃ a n c ks, cs = [.slice a n c] ∧ Bl w a n ks ∧ n ≤ 140737488355328 := by
  rcases open_bools Tryz.underlying29 Tryz.underlying4 (by kernel_rfl) h with ⟨rfl, _⟩ | ⟨x, n, c, B, rfl, _, hl, hm, hx, hc⟩
  · exact ⟨none, 0, 0, [], rfl, ⟨rfl, .inl rfl⟩, by omega⟩
  · subst hx
    have hb := hw ((((List.range n).map fun i => DataW.lit (H := H) (.bool (B i))).length + ((List.range (c - n)).map fun j => DataW.lit (H := H) (.bool (B (n + j)))).length) * Tryz.prog.bytesOf 4) (by simp only [boolRow, DataW.weights, Tryz.underlying29]; exact List.mem_cons_self)
    rw [show Tryz.prog.bytesOf 4 = 1 by kernel_rfl] at hb
    simp only [List.length_map, List.length_range] at hb
    have hr : reachBytes = 140737488351232 := by decide
    refine ⟨some x, n, c, (List.range n).map B, rfl, ⟨by simp, ?_⟩, by omega⟩
    by_cases h0 : n = 0
    · exact .inl h0
    obtain ⟨b, off, spot⟩ := x
    have hspot : spot = none := by simpa [Addr.add] using World.cell?_spot (hc 0 (by omega))
    subst hspot
    refine .inr ⟨b, off, rfl, fun i hi => ?_⟩
    have := hc i (by omega)
    have hg : ((List.range n).map B).getD i false = B i := by simp [List.getD, hi]
    rw [hg]
    simpa only [Addr.add_lit] using this
theorem underSe : ∃ f0 f1 f2 f3 f4, Tryz.prog.underlying 31 = some (.struct #[f0, f1, f2, f3, f4]) ∧ (f0.type = 9 ∧ f1.type = 3 ∧ f2.type = 3 ∧ f3.type = 3 ∧ f4.type = 27) ∧ f0.offset = 0 ∧ f1.offset = 1 ∧ f2.offset = 2 ∧ f3.offset = 3 ∧ f4.offset = 4 := ⟨_, _, _, _, _, Tryz.underlying31, ⟨rfl, rfl, rfl, rfl, rfl⟩, rfl, rfl, rfl, rfl, rfl⟩
theorem cellsSe : Tryz.prog.cellsOf 31 = 5 := by kernel_rfl
/-- Five cells that read as a sector. -/
theorem open_five {H : Type} {enc : TypeId × Value → H} {W : World} {b0 fuel : Nat} {held : Bool} {cs : List Value} {x : DataW H × List MemPlace} (h : DataW.trod enc Tryz.prog W b0 (fun _ => true) held fuel 31 cs = some x) :
    ∃ T e q p a n c, cs = [.string T, .int .i64 e, .int .i64 q, .int .i64 p, .slice a n c] := by
  obtain ⟨f0, f1, f2, f3, f4, hu, ⟨t0, t1, t2, t3, t4⟩, o0, o1, o2, o3, o4⟩ := underSe
  obtain ⟨xs, n, _, rfl, hl, hlen, hf⟩ := DataW.trod_struct hu h
  rw [cellsSe] at hl
  match xs, hlen with
  | [y0, y1, y2, y3, y4], _ =>
    have h0 := hf 0 f0 rfl
    have h1 := hf 1 f1 rfl
    have h2 := hf 2 f2 rfl
    have h3 := hf 3 f3 rfl
    have h4 := hf 4 f4 rfl
    rw [t0, o0, cellsT] at h0
    rw [t1, o1, cells3] at h1
    rw [t2, o2, cells3] at h2
    rw [t3, o3, cells3] at h3
    rw [t4, o4, cellsB] at h4
    obtain ⟨T, e0, _⟩ := DataW.trod_string (by kernel_rfl) (h0.trans rfl)
    obtain ⟨e, e1, _, b1⟩ := DataW.trod_int Tryz.underlying3 (h1.trans rfl)
    obtain ⟨q, e2, _, b2⟩ := DataW.trod_int Tryz.underlying3 (h2.trans rfl)
    obtain ⟨p, e3, _, b3⟩ := DataW.trod_int Tryz.underlying3 (h3.trans rfl)
    have h5 : ∃ a k c, (List.take 1 (List.drop 4 cs)) = [.slice a k c] := by
      rcases open_ints Tryz.underlying27 Tryz.underlying5 (by kernel_rfl) (h4.trans rfl) with ⟨e, _⟩ | ⟨y, l, c, zs, e, _⟩
      · exact ⟨_, _, _, e⟩
      · exact ⟨_, _, _, e⟩
    obtain ⟨a, k, c, e4⟩ := h5
    refine ⟨T, e, q, p, a, k, c, ?_⟩
    match cs, hl with
    | [x0, x1, x2, x3, x4], _ =>
      simp at e0 e1 e2 e3 e4
      rw [e0, e1, e2, e3, e4]
theorem underOp : ∃ f0 f1 f2 f3 f4 f5 f6, Tryz.prog.underlying 33 = some (.struct #[f0, f1, f2, f3, f4, f5, f6]) ∧ (f0.type = 3 ∧ f1.type = 3 ∧ f2.type = 4 ∧ f3.type = 27 ∧ f4.type = 28 ∧ f5.type = 29 ∧ f6.type = 31) ∧ f0.offset = 0 ∧ f1.offset = 1 ∧ f2.offset = 2 ∧ f3.offset = 3 ∧ f4.offset = 4 ∧ f5.offset = 5 ∧ f6.offset = 6 := ⟨_, _, _, _, _, _, _, Tryz.underlying33, ⟨rfl, rfl, rfl, rfl, rfl, rfl, rfl⟩, rfl, rfl, rfl, rfl, rfl, rfl, rfl⟩
theorem cellsOp : Tryz.prog.cellsOf 33 = 11 := by kernel_rfl
theorem bytesOp0 : Tryz.prog.bytesOf 33 = 160 := by kernel_rfl
theorem bytesOp : 16 ≤ Tryz.prog.bytesOf 33 := by rw [bytesOp0]; omega
theorem cellsF : Tryz.prog.cellsOf 28 = 1 := by kernel_rfl
theorem cellsK : Tryz.prog.cellsOf 29 = 1 := by kernel_rfl
/-- Eleven cells that read as an Op. -/
theorem open_op {H : Type} {enc : TypeId × Value → H} {w : World} {base fuel : Nat} {held : Bool} {cs : List Value} {x : DataW H × List MemPlace} (h : DataW.trod enc Tryz.prog w base (fun _ => true) held fuel 33 cs = some x) (hw : ∀ n ∈ x.1.weights Tryz.prog 33, n ≤ reachBytes) :
    ∃ y : Ow, cs = y.cs.toList ∧ Oo w w y.da y.dn y.dc y.dat y.fa y.fm y.fs y.ka y.kn y.ks := by
  obtain ⟨f0, f1, f2, f3, f4, f5, f6, hu, ⟨t0, t1, t2, t3, t4, t5, t6⟩, o0, o1, o2, o3, o4, o5, o6⟩ := underOp
  obtain ⟨xs, n, _, rfl, hl, hlen, hf⟩ := DataW.trod_struct hu h
  rw [cellsOp] at hl
  match xs, hlen with
  | [y0, y1, y2, y3, y4, y5, y6], _ =>
    have h0 := hf 0 f0 rfl
    have h1 := hf 1 f1 rfl
    have h2 := hf 2 f2 rfl
    have h3 := hf 3 f3 rfl
    have h4 := hf 4 f4 rfl
    have h5 := hf 5 f5 rfl
    have h6 := hf 6 f6 rfl
    rw [t0, o0, cells3] at h0
    rw [t1, o1, cells3] at h1
    rw [t2, o2, cells4] at h2
    rw [t3, o3, cellsB] at h3
    rw [t4, o4, cellsF] at h4
    rw [t5, o5, cellsK] at h5
    rw [t6, o6, cellsSe] at h6
    obtain ⟨z0, e0, _⟩ := DataW.trod_int Tryz.underlying3 (h0.trans rfl)
    obtain ⟨z1, e1, _, b1⟩ := DataW.trod_int Tryz.underlying3 (h1.trans rfl)
    obtain ⟨z2, e2, _⟩ := DataW.trod_bool Tryz.underlying4 (h2.trans rfl)
    obtain ⟨a3, n3, c3, zs, e3, r3, l3, _⟩ := open_bytes (h3.trans rfl) (fun n hn => hw n (by
      simp only [DataW.weights, hu]
      simp [DataW.weightsEach, t0, t1, t2, t3, t4, t5, t6, hn]))
    obtain ⟨a4, n4, c4, fs, e4, r4, l4⟩ := open_faults (h4.trans rfl) (fun n hn => hw n (by
      simp only [DataW.weights, hu]
      simp [DataW.weightsEach, t0, t1, t2, t3, t4, t5, t6, hn]))
    obtain ⟨a5, n5, c5, ks, e5, r5, l5⟩ := open_bls (h5.trans rfl) (fun n hn => hw n (by
      simp only [DataW.weights, hu]
      simp [DataW.weightsEach, t0, t1, t2, t3, t4, t5, t6, hn]))
    obtain ⟨tg, ee, qq, pp, ba, bn, bc, e6⟩ := open_five (h6.trans rfl)
    have D3 := r3.dt l3
    refine ⟨⟨z0, z1, z2, a3, n3, c3, zs.take n3, a4, n4, c4, fs, a5, n5, c5, ks, tg, ee, qq, pp, ba, bn, bc⟩, ?_, ⟨D3.b, D3.lt, D3.c, D3.m, D3.n, r4, l4, r5, fun ad ha h0 => ?_, l5⟩⟩
    · match cs, hl with
      | [x0, x1, x2, x3, x4, x5, x6, x7, x8, x9, x10], _ =>
        simp at e0 e1 e2 e3 e4 e5 e6
        obtain ⟨g6, g7, g8, g9, g10⟩ := e6
        simp only [Ow.cs, opC]
        rw [e0, e1, e2, e3, e4, e5, g6, g7, g8, g9, g10]
    · rcases r5.2 with q | ⟨b, off, e, hc⟩
      · simp only at h0
        omega
      · simp only at ha
        rw [e] at ha
        cases ha
        exact World.block_lt_of_cell? _ _ (hc 0 h0)
instance : Inhabited Ow := ⟨⟨0, 0, false, none, 0, 0, [], none, 0, 0, [], none, 0, 0, [], ⟨#[]⟩, 0, 0, 0, none, 0, 0⟩⟩
/-- A list of Ops that came in. -/
theorem open_ops {H : Type} {enc : TypeId × Value → H} {w : World} {base fuel : Nat} {held : Bool} {cs : List Value} {x : DataW H × List MemPlace}
    (h : DataW.trod enc Tryz.prog w base (fun _ => true) held fuel 22 cs = some x) (hw : ∀ n ∈ x.1.weights Tryz.prog 22, n ≤ reachBytes) :
    ∃ a n c O, cs = [.slice a n c] ∧ IsOps12 w a n O ∧ n ≤ 140737488355328 := by
  rcases open_slice Tryz.underlying22 h with ⟨rfl, _⟩ | ⟨x, n, c, m, nn, D, Pl, rfl, _, hl, hm, hme, hx, hel⟩
  · exact ⟨none, 0, 0, fun _ => default, rfl, .inl rfl, by omega⟩
  · have hnm : n ≤ m := by rw [hme]; split <;> omega
    subst hx
    have hb := hw ((((List.range n).map D).length + ((List.range (m - n)).map fun j => D (n + j)).length) * Tryz.prog.bytesOf 33) (by simp only [DataW.weights, Tryz.underlying22]; exact List.mem_cons_self)
    simp only [List.length_map, List.length_range] at hb
    have hr : reachBytes = 140737488351232 := by decide
    have hbn : n ≤ 140737488355328 := by
      rw [bytesOp0] at hb
      omega
    have key : ∀ i, i < n → ∃ y : Ow, (∀ (j : Nat) v, y.cs.toList[j]? = some v → w.cell? ((x.add (i * 11)).add j) = some v) ∧ Oo w w y.da y.dn y.dc y.dat y.fa y.fm y.fs y.ka y.kn y.ks := by
      intro i hi
      obtain ⟨cs', h1, h2⟩ := hel i (by omega)
      rw [cellsOp] at h1
      obtain ⟨y, e, ok⟩ := open_op h2 (fun k hk => hw k (by
        simp only [DataW.weights, Tryz.underlying22]
        refine List.mem_cons_of_mem _ (List.mem_append_left _ (mem_weightsAll hk ?_))
        exact List.mem_map.2 ⟨i, List.mem_range.2 hi, rfl⟩))
      refine ⟨y, fun j v hj => ?_, ok⟩
      rw [← e] at hj
      obtain ⟨_, hlen, hc⟩ := World.cells?_some h1
      have hj' := (List.getElem?_eq_some_iff.1 hj).1
      rw [hc j (by omega)]
      exact hj
    obtain ⟨f, hf⟩ := choose_lt key
    refine ⟨some x, n, c, f, rfl, ?_, hbn⟩
    by_cases h0 : n = 0
    · exact .inl h0
    obtain ⟨b, off, spot⟩ := x
    have hspot : spot = none := by simpa [Addr.add] using World.cell?_spot ((hf 0 (by omega)).1 0 _ rfl)
    subst hspot
    refine .inr ⟨b, off, rfl, fun i hi => ⟨fun j v hj => ?_, (hf i hi).2⟩⟩
    have := (hf i hi).1 j v hj
    simpa only [Addr.add_lit] using this
theorem bytesB : Tryz.prog.bytesOf 27 = 24 := by kernel_rfl
instance : Inhabited Xt := ⟨⟨none, 0, 0, []⟩⟩
/-- A list of byte lists that came in. -/
theorem open_txs {H : Type} {enc : TypeId × Value → H} {w : World} {base fuel : Nat} {held : Bool} {cs : List Value} {x : DataW H × List MemPlace}
    (h : DataW.trod enc Tryz.prog w base (fun _ => true) held fuel 37 cs = some x) (hw : ∀ n ∈ x.1.weights Tryz.prog 37, n ≤ reachBytes) :
    ∃ a n c X, cs = [.slice a n c] ∧ IsTxs w a n X ∧ n ≤ 140737488355328 := by
  rcases open_slice Tryz.underlying37 h with ⟨rfl, _⟩ | ⟨x, n, c, m, nn, D, Pl, rfl, _, hl, hm, hme, hx, hel⟩
  · exact ⟨none, 0, 0, fun _ => default, rfl, .inl rfl, by omega⟩
  · have hnm : n ≤ m := by rw [hme]; split <;> omega
    subst hx
    have hb := hw ((((List.range n).map D).length + ((List.range (m - n)).map fun j => D (n + j)).length) * Tryz.prog.bytesOf 27) (by simp only [DataW.weights, Tryz.underlying37]; exact List.mem_cons_self)
    rw [bytesB] at hb
    simp only [List.length_map, List.length_range] at hb
    have hr : reachBytes = 140737488351232 := by decide
    have key : ∀ i, i < n → ∃ y : Xt, w.cell? (x.add i) = some (.slice y.a y.n y.c) ∧ Dt w y.a y.n y.c y.z := by
      intro i hi
      obtain ⟨cs', h1, h2⟩ := hel i (by omega)
      rw [cellsB, Nat.mul_one] at h1
      obtain ⟨a3, n3, c3, zs, e3, r3, l3, _⟩ := open_bytes h2 (fun k hk => hw k (by
        simp only [DataW.weights, Tryz.underlying37]
        refine List.mem_cons_of_mem _ (List.mem_append_left _ (mem_weightsAll hk ?_))
        exact List.mem_map.2 ⟨i, List.mem_range.2 hi, rfl⟩))
      subst e3
      exact ⟨⟨a3, n3, c3, zs.take n3⟩, cell_of_cells?_one h1, r3.dt l3⟩
    obtain ⟨f, hf⟩ := choose_lt key
    refine ⟨some x, n, c, f, rfl, ?_, by omega⟩
    by_cases h0 : n = 0
    · exact .inl h0
    obtain ⟨b, off, spot⟩ := x
    have hspot : spot = none := by simpa [Addr.add] using World.cell?_spot (hf 0 (by omega)).1
    subst hspot
    refine .inr ⟨b, off, rfl, fun i hi => ⟨?_, (hf i hi).2⟩⟩
    have := (hf i hi).1
    simpa only [Addr.add_lit] using this
end Go.Proofs.YtblcpdffiafgnaaGreatDoor
