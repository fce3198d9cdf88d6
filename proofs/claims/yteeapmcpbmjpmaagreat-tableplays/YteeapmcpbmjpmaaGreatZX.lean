import Derived.Test.YteeapmcpbmjpmaaGreatZW
namespace Go.Proofs.YteeapmcpbmjpmaaGreat
set_option maxRecDepth 100000
open Go.RowKit Go.Shelf Go.Maps
set_option linter.unusedVariables false

theorem Aft.from {w wb w' : World} {Z : Nat → Prop} {t b r : Nat} {N : Tab} (hB : Below w.heap.size w wb) (h : Aft wb w' Z t b r N) : Aft w w' Z t b r N := by
  obtain ⟨Z', h1, h2, h3⟩ := h
  exact ⟨Z', h1, fun x hx => h2 x (Nat.lt_of_lt_of_le hx hB.size), (Fz.ofBelow hB).trans h3 (fun x _ q => q)⟩
theorem papply_ (Z U : Nat → Prop) (p t b r : Nat) (x1 x3 : Value) (M : Tab) (a : Option Addr) (n c : Nat) (l : List Sx) (w : World) (hp : w.heap[p]? = some (.cells #[.pointer (some ⟨t, 0, none⟩), x1, .pointer (some ⟨r, 0, none⟩), x3] 34 (0, 0))) (h : Pt w Z t b r M M) (hpb : p ≠ b) (hpr : p ≠ r) (hl : Sl w U a n l) (hU : ∀ x, U x → x < w.heap.size ∧ x ≠ b ∧ x ≠ r) (hsh : ∀ s ∈ l, s.k.length ≤ 2000 ∧ s.v.length ≤ 2000) (hM : M.length + n ≤ 10000000) :
    Calls Tryz.prog 28 #[.pointer (some ⟨p, 0, none⟩), .slice a n c] w fun e w' => e = .returned (.bool true) ∧ Aft w w' Z t b r (if allMay l then doAll M l else M) := by
  cases hq : allMay l with
  | true => exact papply_yes Z U p t b r x1 x3 M a n c l w hp h hpb hpr hl hU hsh hM hq
  | false => exact papply_no Z U p t b r x1 x3 M a n c l w hp h hpb hpr hl hU hsh hM hq
set_option maxHeartbeats 4000000 in
theorem on4_ (Z U : Nat → Prop) (p t b r : Nat) (x1 x3 : Value) (M : Tab) (sec : Bool) (ka va sa : Option Addr) (kn kc vn vc sn sc : Nat) (l : List Sx) (w : World) (hp : w.heap[p]? = some (.cells #[.pointer (some ⟨t, 0, none⟩), x1, .pointer (some ⟨r, 0, none⟩), x3] 34 (0, 0))) (h : Pt w Z t b r M M) (hpb : p ≠ b) (hpr : p ≠ r) (hl : Sl w U sa sn l) (hU : ∀ x, U x → x < w.heap.size ∧ x ≠ b ∧ x ≠ r) (hsh : ∀ s ∈ l, s.k.length ≤ 2000 ∧ s.v.length ≤ 2000) (hM : M.length + sn ≤ 10000000) :
    Calls Tryz.prog 7 #[.pointer (some ⟨p, 0, none⟩), .agg #[.int .i64 4, .bool sec, .slice ka kn kc, .slice va vn vc, .slice sa sn sc]] w fun e w' => e = .returned (.bool true) ∧ Aft w w' Z t b r (if allMay l then doAll M l else M) := by
  have HX0 : Hid (Bx w (w.alloc (.cells #[.int .i64 4, .bool sec, .slice ka kn kc, .slice va vn vc, .slice sa sn sc] 38)) p t r w.heap.size x1 x3 4 sec (.slice ka kn kc) (.slice va vn vc) (.slice sa sn sc)) := Bx.mk' hp
  have o0 := HX0.out.o0 (Below.refl _ _)
  have o4 := HX0.out.o4 (Below.refl _ _)
  have ka1 := papply_ Z U p t b r x1 x3 M sa sn sc l _ HX0.out.pr (h.keep (fun x hx _ => HX0.out.bel.block x hx) (fun _ _ hz => hz) h.zb h.zr) hpb hpr (hl.below HX0.out.bel) (fun x hx => ⟨Nat.lt_of_lt_of_le (hU x hx).1 HX0.out.bel.size, (hU x hx).2⟩) hsh hM
  clear hp h hl hU hsh
  obtain ⟨N, HN⟩ : ∃ N, Hid ((if allMay l then doAll M l else M) = N) := ⟨_, rfl⟩
  rw [HN.out] at ka1 ⊢
  go_enter Tryz.func7, Tryz.ntmps7
  go_wp2_with fail
  refine ka1.mono ?_
  rintro e w1 ⟨rfl, ha⟩
  have HA := hid (ha.from HX0.out.bel)
  clear ha ka1 o0 o4
  go_wp2_with fail
  go_ret
  exact ⟨rfl, HA.out⟩
/-- What the document's Over tells. -/
theorem rsetsO_ (Z : Nat → Prop) (q s1 s2 : Nat) (W J : Tab) (w : World) (hq : w.heap[q]? = some (.cells #[.pointer (some ⟨s1, 0, none⟩), .pointer (some ⟨s2, 0, none⟩)] 77 (0, 0))) (d1 : Dq w Z s1 W) (d2 : Dq w Z s2 J) (hW : Tok W) (hJ : Tok J) (l1 : W.length ≤ 1000000) (l2 : J.length ≤ 1000000) :
    Calls Tryz.prog 32 #[.pointer (some ⟨q, 0, none⟩)] w fun e w' => ∃ a n c, e = .returned (.slice a n c) ∧ Sl w' (fun x => w.heap.size ≤ x) a n (chg W J) ∧ n ≤ 2000000 ∧ Below w.heap.size w w' := by
  obtain ⟨a1, c1, e1, h1, h2⟩ := d1
  obtain ⟨a2, c2, e2, h3, h4⟩ := d2
  have k := fun wx (hb : Below w.heap.size w wx) => rchange_ Z Z s1 s2 a1 a2 W.length c1 J.length c2 W J wx (e1.on hb) (e2.on hb) hW hJ (by omega) (by omega)
  have hql := (Array.getElem?_eq_some_iff.1 hq).1
  have q0 : w.cell? ⟨q, 0, none⟩ = some (.pointer (some ⟨s1, 0, none⟩)) := (cell_of_row _ _ 0 _ _ (0, 0) hq).trans rfl
  have q1 : w.cell? ⟨q, 1, none⟩ = some (.pointer (some ⟨s2, 0, none⟩)) := (cell_of_row _ _ 1 _ _ (0, 0) hq).trans rfl
  have HLE : Hid ((chg W J).length ≤ 2000000) := by
    show _ ≤ _
    rw [← mg_chg W J hW.srt hJ.srt]
    have := mg_len W J
    omega
  clear e1 e2 hq
  go_enter Tryz.func32, Tryz.ntmps32
  go_wp2_with fail
  go_region_held (fun wx => wx.cell? ⟨q, 0, none⟩ = some (.pointer (some ⟨s1, 0, none⟩)) ∧ wx.cell? ⟨q, 1, none⟩ = some (.pointer (some ⟨s2, 0, none⟩))) (go_keep) (first | (go_at_call 57; refine (k _ (by first | exact below_drew w | exact Below.refl _ _)).mono ?_; rintro e w1 ⟨v, ds, rfl, hs0, hl⟩; have hs : Sw w w1 v ds := ⟨hs0.own, hs0.sv, ⟨hs0.bel.os, hs0.bel.tape, hs0.bel.output, hs0.bel.size, hs0.bel.block⟩⟩; have y0 := (hs.bel.cell (p := ⟨q, 0, none⟩) hql).trans q0; have y1 := (hs.bel.cell (p := ⟨q, 1, none⟩) hql).trans q1))
  obtain ⟨a, c, hv, hsl, _, _, _⟩ := Sl.ofOwn (V := fun x => w.heap.size ≤ x) hs.own (fun d hd => (hs.sv d hd).wide fun x _ hx => hx.1) (fun x hx => hx)
  rw [hl] at hsl
  have HSL := hid hsl
  have HB := hid hs.bel
  have hn : ds.length ≤ 2000000 := by have h := HLE.out; rw [← hl, List.length_map] at h; exact h
  subst hv
  clear k hs hs0 hl hsl q0 q1 y0 y1
  go_wp2_with fail
  go_ret
  exact ⟨a, _, c, rfl, HSL.out, hn, HB.out⟩
theorem chg_short {W J : Tab} (hW : Tok W) (hJ : Tok J) : ∀ s ∈ chg W J, s.k.length ≤ 2000 ∧ s.v.length ≤ 2000 := fun s hs => by
  have h := List.all_eq_true.1 (chg_may hW hJ) s hs
  have h1 := (mayS_key h).2
  have h2 := mayS_val h
  omega
set_option maxHeartbeats 4000000 in
theorem on11_ (Z : Nat → Prop) (p t b r q s1 s2 : Nat) (x1 : Value) (M W J : Tab) (sec : Bool) (ka va sa : Option Addr) (kn kc vn vc sn sc : Nat) (w : World) (hp : w.heap[p]? = some (.cells #[.pointer (some ⟨t, 0, none⟩), x1, .pointer (some ⟨r, 0, none⟩), .pointer (some ⟨q, 0, none⟩)] 34 (0, 0))) (h : Pt w Z t b r M M) (hpb : p ≠ b) (hpr : p ≠ r) (hq : w.heap[q]? = some (.cells #[.pointer (some ⟨s1, 0, none⟩), .pointer (some ⟨s2, 0, none⟩)] 77 (0, 0))) (d1 : Dq w Z s1 W) (d2 : Dq w Z s2 J) (hW : Tok W) (hJ : Tok J) (lM : M.length ≤ 1000000) (l1 : W.length ≤ 1000000) (l2 : J.length ≤ 1000000) :
    Calls Tryz.prog 7 #[.pointer (some ⟨p, 0, none⟩), .agg #[.int .i64 11, .bool sec, .slice ka kn kc, .slice va vn vc, .slice sa sn sc]] w fun e w' => e = .returned (.bool true) ∧ Aft w w' Z t b r (doAll M (chg W J)) := by
  have HX0 : Hid (Bx w (w.alloc (.cells #[.int .i64 11, .bool sec, .slice ka kn kc, .slice va vn vc, .slice sa sn sc] 38)) p t r w.heap.size x1 (.pointer (some ⟨q, 0, none⟩)) 11 sec (.slice ka kn kc) (.slice va vn vc) (.slice sa sn sc)) := Bx.mk' hp
  have o0 := HX0.out.o0 (Below.refl _ _)
  have p3 := HX0.out.p3 (Below.refl _ _)
  have ks := rsetsO_ Z q s1 s2 W J _ ((HX0.out.bel.block q (Array.getElem?_eq_some_iff.1 hq).1).trans hq) (d1.on HX0.out.bel) (d2.on HX0.out.bel) hW hJ l1 l2
  have HPT := hid (h.keep (w' := w.alloc (.cells #[.int .i64 11, .bool sec, .slice ka kn kc, .slice va vn vc, .slice sa sn sc] 38)) (fun x hx _ => HX0.out.bel.block x hx) (fun _ _ hz => hz) h.zb h.zr)
  have HQM : Hid (allMay (chg W J) = true) := chg_may hW hJ
  have HSH := hid (chg_short hW hJ)
  have hbl := h.tw.mp.lt
  have hrl := h.dd.lt
  obtain ⟨l, HL⟩ : ∃ l, Hid (chg W J = l) := ⟨_, rfl⟩
  rw [HL.out] at ks HQM HSH ⊢
  clear hp h d1 d2 hq
  go_enter Tryz.func7, Tryz.ntmps7
  go_wp2_with fail
  refine ks.mono ?_
  rintro e w1 ⟨a, n, c, rfl, hsl, hn, hB⟩
  have ka1 := papply_yes Z (fun x => (w.alloc (.cells #[.int .i64 11, .bool sec, .slice ka kn kc, .slice va vn vc, .slice sa sn sc] 38)).heap.size ≤ x ∧ x < w1.heap.size) p t b r x1 (.pointer (some ⟨q, 0, none⟩)) M a n c l w1 ((hB.block p (Array.getElem?_eq_some_iff.1 HX0.out.pr).1).trans HX0.out.pr) (HPT.out.keep (fun x hx _ => hB.block x hx) (fun _ _ hz => hz) HPT.out.zb HPT.out.zr) hpb hpr (hsl.wide fun x hx hz => ⟨hz, hx⟩) (fun x hx => ⟨hx.2, by have h1 := hx.1; simp at h1; omega, by have h1 := hx.1; simp at h1; omega⟩) HSH.out (by omega) HQM.out
  have HB := hid (bel_bel HX0.out.bel HX0.out.bel.size hB)
  clear ks hsl hB p3 o0
  go_wp2_with fail
  refine ka1.mono ?_
  rintro e w2 ⟨rfl, ha⟩
  have HA := hid (ha.from HB.out)
  clear ha ka1
  go_wp2_with fail
  go_ret
  exact ⟨rfl, HA.out⟩
set_option maxHeartbeats 4000000 in
theorem on11n_ (p : Nat) (x0 x1 x2 : Value) (sec : Bool) (ka va sa : Option Addr) (kn kc vn vc sn sc : Nat) (w : World) (hp : w.heap[p]? = some (.cells #[x0, x1, x2, .pointer none] 34 (0, 0))) :
    Calls Tryz.prog 7 #[.pointer (some ⟨p, 0, none⟩), .agg #[.int .i64 11, .bool sec, .slice ka kn kc, .slice va vn vc, .slice sa sn sc]] w fun e w' => e = .returned (.bool true) ∧ Below w.heap.size w w' := by
  have hB : Below w.heap.size w (w.alloc (.cells #[.int .i64 11, .bool sec, .slice ka kn kc, .slice va vn vc, .slice sa sn sc] 38)) := (Below.refl _ _).alloc (Nat.le_refl _) _
  have HB := hid hB
  have hnw := heap_alloc_new w (.cells #[.int .i64 11, .bool sec, .slice ka kn kc, .slice va vn vc, .slice sa sn sc] 38)
  have o0 : (w.alloc (.cells #[.int .i64 11, .bool sec, .slice ka kn kc, .slice va vn vc, .slice sa sn sc] 38)).cell? ⟨w.heap.size, 0, none⟩ = some (.int .i64 11) := (cell_of_row _ _ 0 _ _ (0, 0) hnw).trans rfl
  have p3 : (w.alloc (.cells #[.int .i64 11, .bool sec, .slice ka kn kc, .slice va vn vc, .slice sa sn sc] 38)).cell? ⟨p, 3, none⟩ = some (.pointer none) := (hB.cell (p := ⟨p, 3, none⟩) (Array.getElem?_eq_some_iff.1 hp).1).trans ((cell_of_row _ _ 3 _ _ (0, 0) hp).trans rfl)
  clear hB hnw hp
  go_enter Tryz.func7, Tryz.ntmps7
  go_wp2_with fail
  go_ret
  exact ⟨rfl, HB.out⟩
set_option maxHeartbeats 4000000 in
/-- Any other kind does nothing at the table. -/
theorem onN_ (p : Nat) (kd : Int) (sec : Bool) (ka va sa : Option Addr) (kn kc vn vc sn sc : Nat) (w : World) (hk : kd ≠ 1 ∧ kd ≠ 2 ∧ kd ≠ 3 ∧ kd ≠ 4 ∧ kd ≠ 5 ∧ kd ≠ 6 ∧ kd ≠ 11 ∧ kd ≠ 12) :
    Calls Tryz.prog 7 #[.pointer (some ⟨p, 0, none⟩), .agg #[.int .i64 kd, .bool sec, .slice ka kn kc, .slice va vn vc, .slice sa sn sc]] w fun e w' => e = .returned (.bool true) ∧ Below w.heap.size w w' := by
  have hB : Below w.heap.size w (w.alloc (.cells #[.int .i64 kd, .bool sec, .slice ka kn kc, .slice va vn vc, .slice sa sn sc] 38)) := (Below.refl _ _).alloc (Nat.le_refl _) _
  have HB := hid hB
  have hnw := heap_alloc_new w (.cells #[.int .i64 kd, .bool sec, .slice ka kn kc, .slice va vn vc, .slice sa sn sc] 38)
  have o0 : (w.alloc (.cells #[.int .i64 kd, .bool sec, .slice ka kn kc, .slice va vn vc, .slice sa sn sc] 38)).cell? ⟨w.heap.size, 0, none⟩ = some (.int .i64 kd) := (cell_of_row _ _ 0 _ _ (0, 0) hnw).trans rfl
  obtain ⟨k1, k2, k3, k4, k5, k6, k11, k12⟩ := hk
  have e1 : (kd == 1) = false := beq_eq_false_iff_ne.2 k1
  have e2 : (kd == 2) = false := beq_eq_false_iff_ne.2 k2
  have e3 : (kd == 3) = false := beq_eq_false_iff_ne.2 k3
  have e4 : (kd == 4) = false := beq_eq_false_iff_ne.2 k4
  have e5 : (kd == 5) = false := beq_eq_false_iff_ne.2 k5
  have e6 : (kd == 6) = false := beq_eq_false_iff_ne.2 k6
  have e11 : (kd == 11) = false := beq_eq_false_iff_ne.2 k11
  have e12 : (kd == 12) = false := beq_eq_false_iff_ne.2 k12
  clear hB hnw k1 k2 k3 k4 k5 k6 k11 k12
  go_enter Tryz.func7, Tryz.ntmps7
  go_wp2_with fail
  go_ret
  exact ⟨rfl, HB.out⟩
end Go.Proofs.YteeapmcpbmjpmaaGreat
