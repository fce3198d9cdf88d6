import Derived.Test.YtblcpdffiafgnaaGreatDoorYB
namespace Go.Proofs.YtblcpdffiafgnaaGreatDoor
set_option linter.unusedSimpArgs false
set_option maxRecDepth 100000
open Go.RowKit Go.Shelf
set_option linter.unusedVariables false

/-- What is handed to the loop's body: a transaction, or an error. -/
structure Yx where
  v : Value
  e : Int
  tx : List Int
/-- What the body may lean on. -/
def Px12 (B : Nat) (pre : List Yx) (x : Yx) (A : World) : Prop := pre.length ≤ 5000 ∧ (x.e = 0 → A.ownsRow B 5 1 x.v x.tx.length (cells x.tx) ∧ By x.tx ∧ 0 < x.tx.length ∧ ∀ y ∈ pre, ∀ b, y.v.ownBlock = some b → x.v.ownBlock ≠ some b) ∧ (x.e ≠ 0 → x.v = .slice none 0 0)
def cellNat (w : World) (b i : Nat) : Nat := match w.cell? ⟨b, i, none⟩ with
  | some (.int _ x) => x.toNat
  | _ => 0
theorem cellNat_of {w : World} {b i x : Nat} (h : w.cell? ⟨b, i, none⟩ = some (.int .i64 x)) : cellNat w b i = x := by unfold cellNat; rw [h]; simp
/-- The blocks that the body must keep for the iterator. -/
def Kt (Q : Nat → Prop) (g Bx : Nat) : Nat → Prop := fun b => Q b ∨ b = g ∨ b = Bx ∨ b = 0
theorem Wq.kp {A B : World} {g d mi ep nx pl Bx : Nat} {se re : Bool} {s : St} {Q : Nat → Prop} (h : Wq A g d mi ep nx pl se re s Q) (k : Kp12 (Kt Q g Bx) A B) : Wq B g d mi ep nx pl se re s Q := by
  refine ⟨h.lm.at (k.same g (.inr (.inl rfl))), ?_, h.ng, ⟨Nat.lt_of_lt_of_le h.tb.1 k.size, fun i hi => ?_⟩, h.n0, h.g0⟩
  · obtain ⟨_, _, _, _, _, _, _, _, _, _, hd⟩ := h.dv
    exact ⟨_, _, _, _, _, _, _, _, _, _, hd.keep k.size (fun b hb => k.same b (.inl hb))⟩
  · exact (World.cell?_of_block (w := A) (a := ⟨0, i, none⟩) (k.same 0 (.inr (.inr (.inr rfl))))).trans (h.tb.2 i hi)
/-- How the iterator ends when the body went on to the end; when it stopped. -/
def Fin12 (N g d mi ep : Nat) (Q : Nat → Prop) (RL : Except Int (List (List Int) × Nat × Nat) × St) (xs : List Yx) (W : World) : Prop := (∀ x ∈ xs, x.e = 0) → ∃ nx' pl', RL.1 = .ok (xs.map (·.tx), nx', pl') ∧ pl' ≤ roo N ∧ Wq W g d mi ep nx' pl' false false RL.2 Q
def FinX12 (g d mi ep : Nat) (Q : Nat → Prop) (RL : Except Int (List (List Int) × Nat × Nat) × St) (pre : List Yx) (W : World) : Prop := ∀ ys x, pre = ys ++ [x] → x.e ≠ 0 → RL.1 = .error x.e ∧ ∃ nx' pl', Wq W g d mi ep nx' pl' false false RL.2 Q
theorem Wq.belB {w w' : World} {g d mi ep nx pl B : Nat} {se re : Bool} {s : St} {Q : Nat → Prop} (h : Wq w g d mi ep nx pl se re s Q) (hQ : ∀ b, Q b → b < B) (hg : g < B) (h0 : 0 < B) (hb : Below B w w') : Wq w' g d mi ep nx pl se re s Q :=
  h.kp (Bx := 0) ⟨hb.size, fun b hk => hb.block b (by rcases hk with q | rfl | rfl | rfl; exact hQ b q; exact hg; exact h0; exact h0)⟩
theorem fr_belB {R : Nat → Prop} {w0 w w' : World} {B : Nat} (h : Fr R w0 w) (hB : w0.heap.size ≤ B) (hb : Below B w w') : Fr R w0 w' :=
  ⟨hb.os.trans h.os, hb.tape.trans h.tape, hb.output.trans h.output, Nat.le_trans h.size hb.size, fun b h1 h2 => (hb.block b (by omega)).trans (h.same b h1 h2)⟩
/-- How the iterator stands between two transactions. -/
structure Out12 (N g d mi ep B Bx : Nat) (s : St) (Q : Nat → Prop) (W : World) (RL : Except Int (List (List Int) × Nat × Nat) × St) (pre : List Yx) (nx pl f : Nat) (sj : St) (wr : World) : Prop where
  ok : ∀ x ∈ pre, x.e = 0
  own : ∀ x ∈ pre, ∀ b, x.v.ownBlock = some b → b < wr.heap.size
  run : cmb (pre.map (·.tx)) ((lgP N ep f nx pl).run sj) = RL
  st : sj.S = s.S ∧ sj.P = s.P ∧ sj.n = N ∧ sj.c ≤ s.c + pl
  wq : Wq wr g d mi ep nx pl false false sj Q
  box : wr.heap[Bx]? = W.heap[Bx]?
  sz : B ≤ wr.heap.size
  cnt : pre.length ≤ pl
/-- How it stands between two sectors. -/
structure In12 (N g d mi ep B Bx : Nat) (s : St) (Q : Nat → Prop) (w0 : World) (R1 : Except Int (Option (List Int × Nat)) × St) (nx pl r k : Nat) (v : Value) (n : Nat) (tx : List Int) (b : Bool) (sk : St) (wr : World) : Prop where
  ym : Ym wr r k v b
  own : wr.ownsRow r 5 1 v n (cells tx)
  len : tx.length = n
  lb : tx.length ≤ 480 * k
  by_ : By tx
  st : sk.S = s.S ∧ sk.P = s.P ∧ sk.n = N ∧ sk.c ≤ s.c + (pl + k)
  wq : Wq wr g d mi ep nx pl false false sk Q
  fr : Fr (Qg Q g) w0 wr
  on : b = false → k ≤ 10 ∧ (k = 0 → tx.length = 0) ∧ (0 < k → 0 < tx.length) ∧ (txP N ep nx (roo N - (pl + k)) (pl + k) k tx (decide (tx.length = 480 * k))).run sk = R1
  up : b = true → R1 = (.ok (some (tx, pl + k)), sk) ∧ 0 < tx.length ∧ 0 < k
theorem In12.bel {N g d mi ep B Bx : Nat} {s : St} {Q : Nat → Prop} {w0 : World} {R1 : Except Int (Option (List Int × Nat)) × St} {nx pl r k : Nat} {v : Value} {n : Nat} {tx : List Int} {b : Bool} {sk : St} {wr w' : World} (h : In12 N g d mi ep B Bx s Q w0 R1 nx pl r k v n tx b sk wr) (hb : Below wr.heap.size wr w') : In12 N g d mi ep B Bx s Q w0 R1 nx pl r k v n tx b sk w' :=
  ⟨h.ym.below hb, own_bel12 h.own hb, h.len, h.lb, h.by_, h.st, h.wq.below hb, h.fr.below hb, h.on, h.up⟩
theorem bel_drew0 (w : World) : Below w.heap.size w w.drew := ⟨rfl, rfl, rfl, Nat.le_refl _, fun _ _ => rfl⟩
/-- What one sector tells. -/
theorem next12 {N ep nx P k : Nat} {tx : List Int} {sk : St} {R1 : Except Int (Option (List Int × Nat)) × St} (hR : P < roo N) (hk : k ≤ 10) (h0 : k = 0 → tx.length = 0) (hrun : (txP N ep nx (roo N - P) P k tx (decide (tx.length = 480 * k))).run sk = R1) :
    (opE sk ≠ 0 → R1 = (.error (opE sk), opS sk)) ∧ (opE sk = 0 → match stx (rgt (layA sk.S sk.P (sct N ep P)) ep nx P) k tx with
      | none => R1 = (.ok none, opS sk)
      | some (tx', true) => R1 = (.ok (some (tx', P + 1)), opS sk)
      | some (tx', false) => (txP N ep nx (roo N - (P + 1)) (P + 1) (k + 1) tx' (decide (tx'.length = 480 * (k + 1)))).run (opS sk) = R1) := by
  have h := txP_stx N ep nx (roo N - (P + 1)) P k tx sk hk h0
  rw [show roo N - (P + 1) + 1 = roo N - P from by omega, hrun] at h
  constructor
  · intro hE
    rw [if_neg hE] at h
    exact h
  · intro hE
    rw [if_pos hE] at h
    cases hs : stx (rgt (layA sk.S sk.P (sct N ep P)) ep nx P) k tx with
    | none => rw [hs] at h; exact h
    | some y =>
      obtain ⟨tx', b⟩ := y
      rw [hs] at h
      cases b with
      | true => exact h
      | false => exact h.symm
theorem none12 {N ep : Nat} {ys : List (List Int)} {f nx pl : Nat} {R1 : Except Int (Option (List Int × Nat)) × St} {RL : Except Int (List (List Int) × Nat × Nat) × St} {s' : St} (h : cmb ys (match R1 with
    | (.ok (some (tx, p')), s') => (match (lgP N ep f (nx + 1) p').run s' with
      | (.ok r, s'') => (.ok (tx :: r.1, r.2), s'')
      | (.error E, s'') => (.error E, s''))
    | (.ok none, s') => (.ok ([], nx, pl), s')
    | (.error E, s') => (.error E, s')) = RL) (hR : R1 = (.ok none, s')) : RL = (.ok (ys, nx, pl), s') := by
  rw [hR] at h
  rw [← h]
  simp [cmb]
theorem error12 {N ep : Nat} {ys : List (List Int)} {f nx pl : Nat} {R1 : Except Int (Option (List Int × Nat)) × St} {RL : Except Int (List (List Int) × Nat × Nat) × St} {s' : St} {E : Int} (h : cmb ys (match R1 with
    | (.ok (some (tx, p')), s') => (match (lgP N ep f (nx + 1) p').run s' with
      | (.ok r, s'') => (.ok (tx :: r.1, r.2), s'')
      | (.error E, s'') => (.error E, s''))
    | (.ok none, s') => (.ok ([], nx, pl), s')
    | (.error E, s') => (.error E, s')) = RL) (hR : R1 = (.error E, s')) : RL = (.error E, s') := by
  rw [hR] at h
  rw [← h]
  rfl
/-- What the region that reads leans on. -/
def Sr12 (Bx g d ep : Nat) (wx : World) : Prop := wx.cell? ⟨Bx, 0, none⟩ = some (.pointer (some ⟨g, 0, none⟩)) ∧ wx.cell? ⟨g, 0, none⟩ = some (.pointer (some ⟨d, 0, none⟩)) ∧ wx.cell? ⟨g, 2, none⟩ = some (.int .i64 ep)
theorem Sr12.fr {Bx g d ep : Nat} {Q : Nat → Prop} {w w' : World} (h : Sr12 Bx g d ep w) (hf : Fr Q w w') (h1 : ¬ Q Bx) (h2 : ¬ Q g) : Sr12 Bx g d ep w' :=
  ⟨(World.cell?_of_block (a := ⟨Bx, 0, none⟩) (hf.same Bx (World.block_lt_of_cell? _ _ h.1) h1)).trans h.1, (World.cell?_of_block (a := ⟨g, 0, none⟩) (hf.same g (World.block_lt_of_cell? _ _ h.2.1) h2)).trans h.2.1, (World.cell?_of_block (a := ⟨g, 2, none⟩) (hf.same g (World.block_lt_of_cell? _ _ h.2.1) h2)).trans h.2.2⟩
set_option maxHeartbeats 16000000 in
theorem trans1_ (m : Nat) (hm : 1 ≤ m) (lp Bx g d mi ep nx pl B : Nat) (s : St) (Q : Nat → Prop) (J Jx : List Yx → World → Prop)
    (hJ : ∀ pre A B, J pre A → Fr (Qg Q g) A B → J pre B)
    (hY : ∀ pre x A, J pre A → Px12 B pre x A → YieldAt Fence.wide (m - 1) Tryz.prog lp #[x.v, .int .i64 x.e] A fun e A' => (e = .returned (.bool true) ∧ J (pre ++ [x]) A' ∧ Kp12 (Kt Q g Bx) A A') ∨ (e = .returned (.bool false) ∧ Jx (pre ++ [x]) A' ∧ Kp12 (Kt Q g Bx) A A'))
    (W : World) (h : Wq W g d mi ep nx pl false false s Q) (hbx : Boxed W Bx 36 (.pointer (some ⟨g, 0, none⟩))) (hBx : Bx < B) (hQB : ∀ b, Q b → b < B) (hgB : g < B) (hBW : B ≤ W.heap.size) (hB0 : 0 < B) (hQx : ¬ Q Bx) (hgx : g ≠ Bx) (he : mq ep) (hn : 1 ≤ nx ∧ nx ≤ 4611686018427387905) (hpl : pl ≤ roo s.n) (hsc : s.c ≤ 50000) (hP : s.P.length ≤ 90000) (h0 : J [] W) :
    CallsIn Fence.wide m Tryz.prog 77 #[.func (.yield lp) #[] #[], .pointer (some ⟨Bx, 0, none⟩)] W fun e W' => (∃ v, e = .returned v) ∧ ((∃ xs, J xs W' ∧ Fin12 s.n g d mi ep Q ((lgP s.n ep (roo s.n + 1) nx pl).run s) xs W') ∨ (∃ pre, Jx pre W' ∧ FinX12 g d mi ep Q ((lgP s.n ep (roo s.n + 1) nx pl).run s) pre W')) := by
  have hmx : Tryz.prog.follows .mixedOrders = true := by kernel_rfl
  have hN := h.dv.n
  have hR : roo s.n ≤ 4095 := by unfold roo; omega
  obtain ⟨RL, HRL⟩ : ∃ RL, Hid ((lgP s.n ep (roo s.n + 1) nx pl).run s = RL) := ⟨_, rfl⟩
  rw [HRL.out]
  have hcur : Hid (∀ i, i < s.n → Sc5 (layA s.S s.P i)) := fun i hi => h.dv.cur i hi
  obtain ⟨N, HN⟩ : ∃ N, Hid (s.n = N) := ⟨_, rfl⟩
  rw [HN.out] at hN hR hpl HRL hcur ⊢
  have HQ := hid h
  have HBX := hid hbx
  clear h hbx
  refine callsIn_of_wp Tryz.func77 rfl trivial ?_ rfl
  simp only [Tryz.ntmps77, List.size_toArray, List.length_cons, List.length_nil, Nat.reduceAdd, Nat.reduceSub, Array.replicate_succ, Array.replicate_zero, List.push_toArray, List.append_toArray, List.nil_append, List.cons_append]
  gi_wp2
  refine wpIn_scope12 ?_
  gi_wp2
  try (refine wpIn_label ?_)
  gi_wp2
  gi_loopw [3, 4, 5, 6] (fun _ _ _ _ wr => ∃ pre nxj plj fj sj, J pre wr ∧ Hid (Out12 N g d mi ep B Bx s Q W RL pre nxj plj fj sj wr) ∧ (1 ≤ nxj ∧ nxj ≤ 4611686018427387905) ∧ plj ≤ roo N ∧ roo N < fj + plj) (fun _ _ _ _ wr => 4611686018427387906 - cellNat wr g 3)
  case atStart => exact ⟨[], nx, pl, roo N + 1, s, h0, ⟨fun x hx => (by cases hx), fun x hx => (by cases hx), by rw [← HRL.out]; exact cmb_nil _, ⟨rfl, rfl, HN.out, by omega⟩, HQ.out, rfl, hBW, Nat.zero_le _⟩, hn, hpl, by omega⟩
  case round =>
    obtain ⟨w0, Hw0⟩ : ∃ w0, w0 = wr := ⟨_, rfl⟩
    subst Hw0
    obtain ⟨pre, nxj, plj, fj, sj, hJs, HO, hnx, hplj, hfj⟩ := hrel
    obtain ⟨fj, rfl⟩ : ∃ f, fj = f + 1 := ⟨fj - 1, by omega⟩
    have cb : w0.cell? ⟨Bx, 0, none⟩ = some (.pointer (some ⟨g, 0, none⟩)) := (World.cell?_of_block (w := W) (a := ⟨Bx, 0, none⟩) HO.out.box).trans HBX.out.cell
    have c3 := HO.out.wq.lm.c3
    by_cases hle : nxj ≤ 4611686018427387904
    · have hleI : (nxj : Int) ≤ 4611686018427387904 := by omega
      gi_wp2
      obtain ⟨r, Hr⟩ : ∃ r, Hid (w0.heap.size = r) := ⟨_, rfl⟩
      obtain ⟨R1, HR1⟩ : ∃ R1, Hid ((txP N ep nxj (roo N - plj) plj 0 [] true).run sj = R1) := ⟨_, rfl⟩
      have HRun := hid HO.out.run
      rw [lgP_rd _ _ _ _ _ hle, HR1.out] at HRun
      have hr : B ≤ r := by rw [← Hr.out]; exact HO.out.sz
      have hq0 : Hid (∀ b, Q b → b < r) := fun b q => by have := hQB b q; omega
      have B0 : Below w0.heap.size w0 (w0.alloc (.cells #[.int .i64 0, .slice none 0 0, .bool false] 123)) := (Below.refl _ _).alloc (Nat.le_refl _) _
      have HI0 : Hid (In12 N g d mi ep B Bx s Q w0 R1 nxj plj r 0 (.slice none 0 0) 0 [] false sj (w0.alloc (.cells #[.int .i64 0, .slice none 0 0, .bool false] 123))) :=
        ⟨by rw [← Hr.out]; exact Ym.new w0, World.ownsRow_nil _ _ _ _, rfl, Nat.le_refl _, fun z hz => (by cases hz), HO.out.st, HO.out.wq.below B0, Fr.ofB B0, fun _ => ⟨by omega, fun _ => rfl, fun q => by omega, HR1.out⟩, fun q => by cases q⟩
      simp only [Hr.out]
      clear B0 c3 cb
      gi_loopw [4, 5, 6] (fun _ _ _ wk => ∃ k a n c tx b sk, plj + k ≤ roo N ∧ Hid (In12 N g d mi ep B Bx s Q w0 R1 nxj plj r k (.slice a n c) n tx b sk wk)) (fun _ _ _ wk => roo N + 1 - cellNat wk r 0)
      case atStart => exact ⟨0, none, 0, 0, [], false, sj, by omega, HI0⟩
      case round =>
        obtain ⟨k, a, n, c, tx, b, sk, hk, HI⟩ := hrel
        clear HI0
        have y0 := HI.out.ym.c0
        have y1 := HI.out.ym.c1
        have y2 := HI.out.ym.c2
        have d0 := HI.out.wq.lm.c0
        have d2 := HI.out.wq.lm.c2
        have d3 := HI.out.wq.lm.c3
        have d4 := HI.out.wq.lm.c4
        have z3 := HI.out.wq.lm.fz 3
        have z4 := HI.out.wq.lm.fz 4
        have bx : wr.heap[Bx]? = W.heap[Bx]? := (HI.out.fr.same Bx (by rw [Hr.out]; omega) (fun q => q.elim hQx (fun e => hgx e.symm))).trans HO.out.box
        have cb : wr.cell? ⟨Bx, 0, none⟩ = some (.pointer (some ⟨g, 0, none⟩)) := (World.cell?_of_block (w := W) (a := ⟨Bx, 0, none⟩) bx).trans HBX.out.cell
        have Hbx := hid bx
        clear bx
        obtain ⟨P, HP⟩ : ∃ P, Hid (plj + k = P) := ⟨_, rfl⟩
        have hPI : (plj : Int) + (k : Int) = (P : Int) := by have := HP.out; omega
        have hPR : P ≤ roo N := by have := HP.out; omega
        cases b with
        | true =>
          obtain ⟨X, HX⟩ : ∃ X, Hid (nxj + 1 = X) := ⟨_, rfl⟩
          have hXI : (nxj : Int) + 1 = (X : Int) := by have := HX.out; omega
          have hXb : X ≤ 4611686018427387905 := by have := HX.out; omega
          gi_wp2
          gi_region
          obtain ⟨w4, Hw4⟩ : ∃ w4, Hid ((wr.setCell ⟨g, 4, none⟩ (.int .i64 P)).drew = w4) := ⟨_, rfl⟩
          have L4 : Wm w4 g d mi ep nxj P false false := by rw [← Hw4.out]; exact HI.out.wq.lm.s4 P
          have G4' := grown_set (grown_refl wr (some g)) 4 (.int .i64 P)
          have G4 : wr.grownBy w4 (some g) := by rw [← Hw4.out]; exact ⟨G4'.os, G4'.tape, G4'.output, G4'.size, G4'.block⟩
          have G5 := grown_set G4 3 (.int .i64 X)
          have L5 := L4.s3 X
          rw [Hw4.out]
          obtain ⟨w5, Hw5⟩ : ∃ w5, Hid (w4.setCell ⟨g, 3, none⟩ (.int .i64 X) = w5) := ⟨_, rfl⟩
          rw [Hw5.out] at G5 L5
          have hgr : g < r := by omega
          have Q5 := HI.out.wq.turn L5 G5
          have F5 : Fr (Qg Q g) w0 w5 := HI.out.fr.trans (Fr.of G5 (.inr rfl))
          have O5 : w5.ownsRow r 5 1 (.slice a n c) n (cells tx) := own_at' HI.out.own (fun x e => G5.block x (HI.out.own.lt x e).2 (fun q => by have := (HI.out.own.lt x e).1; have := Option.some.inj q; omega))
          have J5 := hJ pre w0 w5 hJs F5
          obtain ⟨up1, up2, up3⟩ := HI.out.up rfl
          have P5 : Px12 B pre ⟨.slice a n c, 0, tx⟩ w5 := ⟨by have := HO.out.cnt; omega, fun _ => ⟨by rw [HI.out.len]; exact own_mono O5 hr, HI.out.by_, up2, fun y hy b hb q => by
            have h1 := HO.out.own y hy b hb
            have h2 := (O5.lt b q).1
            have := Hr.out
            omega⟩, fun q => (q rfl).elim⟩
          have b5 : w5.heap[Bx]? = W.heap[Bx]? := (G5.block Bx (World.block_lt_of_cell? _ _ cb) (fun q => hgx (Option.some.inj q).symm)).trans Hbx.out
          obtain ⟨fn, tmps, assign, body, hy, hR⟩ := hY _ _ w5 J5 P5
          rw [← Hw5.out] at hy
          have c3 := L4.c3
          have f3 := L4.fz 3
          have cb4 : w4.cell? ⟨Bx, 0, none⟩ = some (.pointer (some ⟨g, 0, none⟩)) := (World.cell?_of_block (w := wr) (a := ⟨Bx, 0, none⟩) (G4.block Bx (World.block_lt_of_cell? _ _ cb) (fun q => hgx (Option.some.inj q).symm))).trans cb
          have y14 : w4.cell? ⟨r, 1, none⟩ = some (.slice a n c) := (World.cell?_of_block (w := wr) (a := ⟨r, 1, none⟩) (G4.block r HI.out.ym.lt (fun q => by have := Option.some.inj q; omega))).trans y1
          have y15 : (w4.setCell ⟨g, 3, none⟩ (.int .i64 X)).cell? ⟨r, 1, none⟩ = some (.slice a n c) := by
            rw [Hw5.out]
            exact (World.cell?_of_block (w := wr) (a := ⟨r, 1, none⟩) (G5.block r HI.out.ym.lt (fun q => by have := Option.some.inj q; omega))).trans y1
          have HO5 : Hid (∀ b, (Value.slice a n c).ownBlock = some b → b < w5.heap.size) := fun b hb => (O5.lt b hb).2
          have HQ5 := hid Q5
          have HB5 := hid b5
          have s5 := hid F5.size
          have HUP := hid up1
          clear y0 y1 y2 d0 d2 d3 d4 z3 z4 cb Q5 F5 O5 J5 P5 b5 G4 G4' G5 L4 L5 up1 up2 up3 y14
          gi_wp2
          rw [Hw5.out]
          refine hR.mono ?_
          clear hR hy y15 c3 f3 cb4
          rintro e W3 (⟨rfl, hJ3, hk3⟩ | ⟨rfl, hJx3, hk3⟩)
          · have Q6 := HQ5.out.kp hk3
            have n3 := hid (cellNat_of Q6.lm.c3)
            have n0 := hid (cellNat_of HO.out.wq.lm.c3)
            gi_wp2
            go_roundw
            case rel =>
              refine ⟨_, X, P, fj, sk, hJ3, ⟨?_, ?_, ?_, ?_, Q6, (hk3.same Bx (.inr (.inr (.inl rfl)))).trans HB5.out, ?_, ?_⟩, ⟨by have := HX.out; omega, hXb⟩, hPR, ?_⟩
              · intro x hx
                rcases List.mem_append.1 hx with q | q
                · exact HO.out.ok x q
                · rw [List.mem_singleton.1 q]
              · intro x hx b hb
                have h1 := hk3.size
                rcases List.mem_append.1 hx with q | q
                · have := HO.out.own x q b hb
                  have := s5.out
                  omega
                · rw [List.mem_singleton.1 q] at hb
                  have := HO5.out b hb
                  omega
              · have h := HRun.out
                rw [HUP.out] at h
                rw [List.map_append, ← HX.out, ← HP.out]
                exact (cmb_cons _ _ _).symm.trans h
              · have := HI.out.st
                rw [HP.out] at this
                exact this
              · have := hk3.size
                have := s5.out
                have := HO.out.sz
                omega
              · have := HO.out.cnt
                have := HP.out
                have := HI.out.up rfl
                rw [List.length_append, List.length_singleton]
                omega
              · have := HP.out
                have := HI.out.up rfl
                omega
            case measure =>
              rw [n3.out, n0.out]
              have := HX.out
              omega
          · gi_wp2
            try rw [Exit.noGoto_ret]
            refine bodyPost_ret (results_none rfl _ _ _) rfl ?_
            exact ⟨⟨_, rfl⟩, .inr ⟨_, hJx3, fun ys x hx hne => (hne (by have := (List.append_inj' hx rfl).2; rw [← (List.cons.inj this).1])).elim⟩⟩
        | false =>
          obtain ⟨on1, on2, on3, on4⟩ := HI.out.on rfl
          have HON := hid on4
          rw [HP.out] at HON
          have HON2 := hid (And.intro on2 on3)
          clear on2 on3 on4
          gi_wp2
          gi_region
          obtain ⟨w1, Hw1⟩ : ∃ w1, Hid (wr.drew = w1) := ⟨_, rfl⟩
          rw [Hw1.out]
          have HI1 : Hid (In12 N g d mi ep B Bx s Q w0 R1 nxj plj r k (.slice a n c) n tx false sk w1) := by
            have := HI.out.bel (bel_drew0 wr)
            rw [Hw1.out] at this
            exact this
          have cb1 : w1.cell? ⟨Bx, 0, none⟩ = some (.pointer (some ⟨g, 0, none⟩)) := by rw [← Hw1.out]; exact cb
          have e0 := HI1.out.wq.lm.c0
          have e2 := HI1.out.wq.lm.c2
          have kr := wroom_ HI1.out.wq.dv
          rw [HI1.out.st.2.2.1] at kr
          have Hy0 := hid y0
          clear cb d0 d2 d3 d4 z3 z4 y0 y1 y2
          by_cases hPe : P = roo N
          · have hPb : ((P : Int) == ((roo N : Nat) : Int)) = true := by simp; omega
            gi_wp2_with fail
            refine ⟨trivial, (callsIn_wide.2 kr).mono ?_⟩
            rintro en w2 ⟨rfl, hw⟩
            obtain rfl := hw.symm
            clear hw kr
            have hnone : R1 = (.ok none, sk) := by
              have := HON.out
              rw [hPe, Nat.sub_self] at this
              exact this.symm
            have HRL2 := hid (none12 HRun.out hnone)
            clear hPe hnone
            gi_wp2
            try rw [Exit.noGoto_normal]
            go_end0
            refine ⟨⟨_, rfl⟩, .inl ⟨pre, hJ pre w0 _ hJs HI1.out.fr, fun _ => ⟨nxj, plj, ?_, hplj, ?_⟩⟩⟩
            · rw [HRL2.out]
            · rw [HRL2.out]
              exact HI1.out.wq
          · have hPb : ((P : Int) == ((roo N : Nat) : Int)) = false := by simp; omega
            have hPl : P < roo N := by omega
            gi_wp2_with fail
            refine ⟨trivial, (callsIn_wide.2 kr).mono ?_⟩
            rintro en w2 ⟨rfl, hw⟩
            obtain rfl := hw.symm
            clear hw kr hPe
            gi_wp2
            have SS : Sr12 Bx g d ep w1.drew := ⟨cb1, e0, e2⟩
            refine held_w (S := Sr12 Bx g d ep) hmx ?hq (by simp) SS (fun _ => ?_)
            case hq =>
              rintro ⟨_, _, hh⟩
              obtain ⟨⟨v, hv⟩, _⟩ := (show (∃ v, Ending.outgrown = Ending.returned v) ∧ _ from hh)
              cases hv
            change wpAnyH _ _ _ _ _ _ _ _ w1.drew
            obtain ⟨w2, Hw2⟩ : ∃ w2, Hid (w1.drew = w2) := ⟨_, rfl⟩
            rw [Hw2.out] at SS ⊢
            have hHeld := SS
            have HI2 : Hid (In12 N g d mi ep B Bx s Q w0 R1 nxj plj r k (.slice a n c) n tx false sk w2) := by
              have := HI1.out.bel (bel_drew0 w1)
              rw [Hw2.out] at this
              exact this
            have kg := wregion_ HI2.out.wq.dv ep (by have := he.2; omega)
            have hsn := HI2.out.st.2.2.1
            rw [hsn] at kg
            have hrg := rg_le N ep hN.2
            have hjs : sct N ep P < N := sct_lt' hPl hN.1
            have HNX := hid (next12 hPl on1 HON2.out.1 HON.out)
            simp only [sct_rg'] at HNX hjs
            obtain ⟨G, HG⟩ : ∃ G, Hid (rg N ep = G) := ⟨_, rfl⟩
            rw [HG.out] at kg hrg HNX hjs
            obtain ⟨i, Hi⟩ : ∃ i, Hid (G + P = i) := ⟨_, rfl⟩
            rw [Hi.out] at HNX hjs
            have hi : (G : Int) + (P : Int) = (i : Int) := by have := Hi.out; omega
            have krd := wread_ d i sk Q w2 HI2.out.wq.dv (by rw [hsn]; exact hjs) (by have := HI2.out.st.2.2.2; omega) (by rw [HI2.out.st.2.1]; omega)
            rw [HI2.out.st.1, HI2.out.st.2.1] at krd HNX
            have hsec := hid (hcur.out i hjs)
            obtain ⟨zs, Hzs⟩ : ∃ zs, Hid (layA s.S s.P i = zs) := ⟨_, rfl⟩
            rw [Hzs.out] at krd HNX hsec
            obtain ⟨E, HE⟩ : ∃ E, Hid (opE sk = E) := ⟨_, rfl⟩
            rw [HE.out] at krd HNX
            have hS2 : ∀ x1, Fr Q w2 x1 → Sr12 Bx g d ep x1 := fun x1 hf => SS.fr hf hQx HI2.out.wq.ng
            have hHSS := hid SS
            clear cb1 e0 e2 hsn
            refine take12 0 30 (.pointer (some ⟨g, 0, none⟩)) rfl rfl (by kernel_rfl) (by kernel_rfl) (by kernel_rfl) (fun _ _ _ h => h) (Or.inl ⟨by kernel_rfl, fun w' h => ?_⟩) hHeld ?_
            · obtain ⟨h1, h2, h3⟩ := h
              go_simp
              try (rw [IntKind.wrap_i64]; omega)
            try simp only [List.setIfInBounds_toArray, List.set_cons_zero, List.set_cons_succ]
            refine take12 1 31 (.pointer (some ⟨g, 0, none⟩)) rfl rfl (by kernel_rfl) (by kernel_rfl) (by kernel_rfl) (fun _ _ _ h => h) (Or.inl ⟨by kernel_rfl, fun w' h => ?_⟩) hHeld ?_
            · obtain ⟨h1, h2, h3⟩ := h
              go_simp
              try (rw [IntKind.wrap_i64]; omega)
            try simp only [List.setIfInBounds_toArray, List.set_cons_zero, List.set_cons_succ]
            refine take12 2 32 (.pointer (some ⟨g, 0, none⟩)) rfl rfl (by kernel_rfl) (by kernel_rfl) (by kernel_rfl) (fun _ _ _ h => h) (Or.inl ⟨by kernel_rfl, fun w' h => ?_⟩) hHeld ?_
            · obtain ⟨h1, h2, h3⟩ := h
              go_simp
              try (rw [IntKind.wrap_i64]; omega)
            try simp only [List.setIfInBounds_toArray, List.set_cons_zero, List.set_cons_succ]
            refine take12 3 33 (.pointer (some ⟨d, 0, none⟩)) rfl rfl (by kernel_rfl) (by kernel_rfl) (by kernel_rfl) (fun _ _ _ h => h) (Or.inl ⟨by kernel_rfl, fun w' h => ?_⟩) hHeld ?_
            · obtain ⟨h1, h2, h3⟩ := h
              go_simp
              try (rw [IntKind.wrap_i64]; omega)
            try simp only [List.setIfInBounds_toArray, List.set_cons_zero, List.set_cons_succ]
            refine take12 4 34 (.pointer (some ⟨g, 0, none⟩)) rfl rfl (by kernel_rfl) (by kernel_rfl) (by kernel_rfl) (fun _ _ _ h => h) (Or.inl ⟨by kernel_rfl, fun w' h => ?_⟩) hHeld ?_
            · obtain ⟨h1, h2, h3⟩ := h
              go_simp
              try (rw [IntKind.wrap_i64]; omega)
            try simp only [List.setIfInBounds_toArray, List.set_cons_zero, List.set_cons_succ]
            refine take12 5 35 (.pointer (some ⟨g, 0, none⟩)) rfl rfl (by kernel_rfl) (by kernel_rfl) (by kernel_rfl) (fun _ _ _ h => h) (Or.inl ⟨by kernel_rfl, fun w' h => ?_⟩) hHeld ?_
            · obtain ⟨h1, h2, h3⟩ := h
              go_simp
              try (rw [IntKind.wrap_i64]; omega)
            try simp only [List.setIfInBounds_toArray, List.set_cons_zero, List.set_cons_succ]
            refine take12 6 36 (.pointer (some ⟨g, 0, none⟩)) rfl rfl (by kernel_rfl) (by kernel_rfl) (by kernel_rfl) (fun _ _ _ h => h) (Or.inl ⟨by kernel_rfl, fun w' h => ?_⟩) hHeld ?_
            · obtain ⟨h1, h2, h3⟩ := h
              go_simp
              try (rw [IntKind.wrap_i64]; omega)
            try simp only [List.setIfInBounds_toArray, List.set_cons_zero, List.set_cons_succ]
            refine take12 7 37 (.pointer (some ⟨d, 0, none⟩)) rfl rfl (by kernel_rfl) (by kernel_rfl) (by kernel_rfl) (fun _ _ _ h => h) (Or.inl ⟨by kernel_rfl, fun w' h => ?_⟩) hHeld ?_
            · obtain ⟨h1, h2, h3⟩ := h
              go_simp
              try (rw [IntKind.wrap_i64]; omega)
            try simp only [List.setIfInBounds_toArray, List.set_cons_zero, List.set_cons_succ]
            refine take12 8 38 (.pointer (some ⟨g, 0, none⟩)) rfl rfl (by kernel_rfl) (by kernel_rfl) (by kernel_rfl) (fun _ _ _ h => h) (Or.inl ⟨by kernel_rfl, fun w' h => ?_⟩) hHeld ?_
            · obtain ⟨h1, h2, h3⟩ := h
              go_simp
              try (rw [IntKind.wrap_i64]; omega)
            try simp only [List.setIfInBounds_toArray, List.set_cons_zero, List.set_cons_succ]
            refine take12 9 39 (.pointer (some ⟨g, 0, none⟩)) rfl rfl (by kernel_rfl) (by kernel_rfl) (by kernel_rfl) (fun _ _ _ h => h) (Or.inl ⟨by kernel_rfl, fun w' h => ?_⟩) hHeld ?_
            · obtain ⟨h1, h2, h3⟩ := h
              go_simp
              try (rw [IntKind.wrap_i64]; omega)
            try simp only [List.setIfInBounds_toArray, List.set_cons_zero, List.set_cons_succ]
            refine take12 10 40 (.pointer (some ⟨g, 2, none⟩)) rfl rfl (by kernel_rfl) (by kernel_rfl) (by kernel_rfl) (fun _ _ _ h => h) (Or.inl ⟨by kernel_rfl, fun w' h => ?_⟩) hHeld ?_
            · obtain ⟨h1, h2, h3⟩ := h
              go_simp
              try (rw [IntKind.wrap_i64]; omega)
            try simp only [List.setIfInBounds_toArray, List.set_cons_zero, List.set_cons_succ]
            refine take12 11 41 (.int .i64 ep) rfl rfl (by kernel_rfl) (by kernel_rfl) (by kernel_rfl) (fun _ _ _ h => h) (Or.inl ⟨by kernel_rfl, fun w' h => ?_⟩) hHeld ?_
            · obtain ⟨h1, h2, h3⟩ := h
              go_simp
              try (rw [IntKind.wrap_i64]; omega)
            try simp only [List.setIfInBounds_toArray, List.set_cons_zero, List.set_cons_succ]
            refine take12 13 43 (.int .i64 P) rfl rfl (by kernel_rfl) (by kernel_rfl) (by kernel_rfl) (fun _ _ _ h => h) (Or.inl ⟨by kernel_rfl, fun w' h => ?_⟩) hHeld ?_
            · obtain ⟨h1, h2, h3⟩ := h
              go_simp
              try (rw [IntKind.wrap_i64]; omega)
            try simp only [List.setIfInBounds_toArray, List.set_cons_zero, List.set_cons_succ]
            refine wpAnyH_ready (rs := [12]) (by kernel_rfl) (by simp) ?_
            refine AllReadyH.cons rfl (fun K' hK' => ?_) AllReadyH.nil
            rw [if_pos (by kernel_rfl)]
            go_wp2_with fail
            refine kg.mono ?_
            rintro y x1 ⟨rfl, hw⟩
            obtain rfl := hw.symm
            clear hw
            try go_wp2_with fail
            refine hK'.out _ _ SS (fun hHeld => ?_)
            clear hK' K'
            try simp only [Act.put, List.setIfInBounds_toArray, List.set_cons_zero, List.set_cons_succ]
            refine take12 14 44 (.int .i64 i) rfl rfl (by kernel_rfl) (by kernel_rfl) (by kernel_rfl) (fun _ _ _ h => h) (Or.inl ⟨by kernel_rfl, fun w' h => ?_⟩) hHeld ?_
            · obtain ⟨h1, h2, h3⟩ := h
              go_simp
              try (rw [IntKind.wrap_i64]; omega)
            try simp only [List.setIfInBounds_toArray, List.set_cons_zero, List.set_cons_succ]
            refine wpAnyH_ready (rs := [15]) (by kernel_rfl) (by simp) ?_
            refine AllReadyH.cons rfl (fun K' hK' => ?_) AllReadyH.nil
            rw [if_pos (by kernel_rfl)]
            go_wp2_with fail
            refine krd.mono ?_
            rintro y x1 ⟨ab, nb, cb', rfl, hnc, hcm, hbs, _, D2, F2⟩
            try go_wp2_with fail
            refine hK'.out _ _ (hS2 _ F2) (fun hHeld => ?_)
            clear hK' K'
            try simp only [Act.put, List.setIfInBounds_toArray, List.set_cons_zero, List.set_cons_succ]
            refine take12 16 29 (.tuple #[.slice ab nb cb', .int .i64 E]) rfl rfl (by kernel_rfl) (by kernel_rfl) (by kernel_rfl) (fun _ _ _ h => h) (Or.inl ⟨by kernel_rfl, fun w' h => ?_⟩) hHeld ?_
            · obtain ⟨h1, h2, h3⟩ := h
              go_simp
              try (rw [IntKind.wrap_i64]; omega)
            try simp only [List.setIfInBounds_toArray, List.set_cons_zero, List.set_cons_succ]
            refine take12 17 46 (.slice ab nb cb') rfl rfl (by kernel_rfl) (by kernel_rfl) (by kernel_rfl) (fun _ _ _ h => h) (Or.inl ⟨by kernel_rfl, fun w' h => ?_⟩) hHeld ?_
            · obtain ⟨h1, h2, h3⟩ := h
              go_simp
              try (rw [IntKind.wrap_i64]; omega)
            try simp only [List.setIfInBounds_toArray, List.set_cons_zero, List.set_cons_succ]
            refine take12 18 47 (.int .i64 E) rfl rfl (by kernel_rfl) (by kernel_rfl) (by kernel_rfl) (fun _ _ _ h => h) (Or.inl ⟨by kernel_rfl, fun w' h => ?_⟩) hHeld ?_
            · obtain ⟨h1, h2, h3⟩ := h
              go_simp
              try (rw [IntKind.wrap_i64]; omega)
            try simp only [List.setIfInBounds_toArray, List.set_cons_zero, List.set_cons_succ]
            refine take12 19 5 (.slice ab nb cb') rfl rfl (by kernel_rfl) (by kernel_rfl) (by kernel_rfl) (fun _ _ _ h => h) (Or.inl ⟨by kernel_rfl, fun w' h => ?_⟩) hHeld ?_
            · obtain ⟨h1, h2, h3⟩ := h
              go_simp
              try (rw [IntKind.wrap_i64]; omega)
            try simp only [List.setIfInBounds_toArray, List.set_cons_zero, List.set_cons_succ]
            refine take12 20 6 (.int .i64 E) rfl rfl (by kernel_rfl) (by kernel_rfl) (by kernel_rfl) (fun _ _ _ h => h) (Or.inl ⟨by kernel_rfl, fun w' h => ?_⟩) hHeld ?_
            · obtain ⟨h1, h2, h3⟩ := h
              go_simp
              try (rw [IntKind.wrap_i64]; omega)
            try simp only [List.setIfInBounds_toArray, List.set_cons_zero, List.set_cons_succ]
            refine wpAnyH_done (by kernel_rfl) ?_ _
            have nq : ∀ b, r ≤ b → ¬ Q b := fun b hb q => by have := hq0.out b q; omega
            have Y3 := HI2.out.ym.at (w' := x1) (F2.same _ HI2.out.ym.lt (nq _ (Nat.le_refl _)))
            have O3 := own_at' HI2.out.own (w' := x1) (fun x e => F2.same x (HI2.out.own.lt x e).2 (nq x (HI2.out.own.lt x e).1))
            have Q3 := HI2.out.wq.dev D2 F2 HI2.out.wq.ng HI2.out.wq.n0
            have F3 : Fr (Qg Q g) w0 x1 := HI2.out.fr.trans (F2.weak (fun b _ q => .inl q))
            have hSx := hS2 x1 F2
            have cx := hSx.1
            have s3 := F3.size
            have HY3 := hid Y3
            have HO3 := hid O3
            have HQ3 := hid Q3
            have HF3 := hid F3
            have HSX := hid hSx
            have hst3 : Hid ((opS sk).S = s.S ∧ (opS sk).P = s.P ∧ (opS sk).n = N ∧ (opS sk).c ≤ s.c + (plj + (k + 1))) := by
              have o1 := opS_c sk
              have o2 := opS_n sk
              have := HI2.out.st
              exact ⟨(opS_S' sk).trans this.1, (opS_P' sk).trans this.2.1, o2.trans this.2.2.1, by omega⟩
            clear kg krd Y3 O3 Q3 F3 D2 F2 hS2 hHeld hSx SS nq hi hjs hrg
            have HBS := hid hbs
            clear hbs
            by_cases hE : E = 0
            · subst hE
              obtain ⟨b2, rfl⟩ := HBS.out rfl
              have HB2 := hid b2
              clear b2 HBS
              have HN2 := hid (HNX.out.2 rfl)
              clear HNX
              have hbyz : Hid (By zs) := hsec.out.2
              cases hrx : rgt zs ep nxj P with
              | none =>
                rw [hrx] at HN2
                have HRL2 := hid (none12 HRun.out HN2.out)
                have kR := wright_n HQ3.out.lm HQ3.out.tb ab 512 cb' P zs HB2.out hnc hcm hrx
                clear HN2 hrx
                gi_wp2_with fail
                refine ⟨trivial, (callsIn_wide.2 kR).mono ?_⟩
                rintro en w3 ⟨rfl, B3⟩
                have kA := add_none (HY3.out.below B3) (own_bel12 HO3.out B3) (Nat.le_refl r) (by omega) ⟨#[]⟩ ⟨by decide, by decide, by decide⟩ (.slice none 0 0)
                have HQ4 := hid (HQ3.out.below B3)
                have HF4 := hid (HF3.out.below B3)
                clear kR B3
                gi_wp2_with fail
                refine ⟨trivial, (callsIn_wide.2 kA).mono ?_⟩
                rintro en w4 ⟨rfl, B4⟩
                have HQ5 := hid (HQ4.out.belB hq0.out (by omega) (by omega) B4)
                have HF5 := hid (fr_belB HF4.out (by rw [Hr.out]; exact Nat.le_refl _) B4)
                clear kA B4
                gi_wp2
                try rw [Exit.noGoto_normal]
                go_end0
                refine ⟨⟨_, rfl⟩, .inl ⟨pre, hJ pre w0 _ hJs HF5.out, fun _ => ⟨nxj, plj, ?_, hplj, ?_⟩⟩⟩
                · rw [HRL2.out]
                · rw [HRL2.out]
                  exact HQ5.out
              | some y =>
                obtain ⟨T, l⟩ := y
                have hgz := rgt_some hrx
                have hbl480 : l.length ≤ 480 := (gs_some hgz).2.1.2.2.2.2
                have hbby : Hid (By l) := by
                  show By l
                  have h1 := (gs_some hgz).2.2.2
                  have h2 : l = (rs zs).l := by rw [← h1]
                  rw [h2]
                  exact sl_by hbyz.out _ _
                rw [hrx] at HN2
                have kR := wright_y HQ3.out.lm HQ3.out.tb ab 512 cb' P zs HB2.out hnc hcm T l hgz
                obtain ⟨lm, Hlm⟩ : ∃ lm, Hid (l.length = lm) := ⟨_, rfl⟩
                rw [Hlm.out] at kR hbl480
                clear hrx hgz
                gi_wp2_with fail
                refine ⟨trivial, (callsIn_wide.2 kR).mono ?_⟩
                rintro en w3 ⟨g', rfl, hg', r3, B3⟩
                have sx := HY3.out.lt
                have kA := addU (HY3.out.below B3) (own_bel12 HO3.out B3) HI2.out.by_ (HQ3.out.tb.bel B3) (Nat.le_refl r) (by omega) HI2.out.len (by have := HI2.out.lb; have := HI2.out.len; omega) T l g' lm Hlm.out hbl480 (by omega) r3 hbby.out
                have HQ4 := hid (HQ3.out.below B3)
                have HF4 := hid (HF3.out.below B3)
                have hstx := fun tx' b' (hs : stx (some (T, l)) k tx = some (tx', b')) => And.intro (stx_some hs on1 HON2.out.1 (fun T' l' q => by cases q; exact ⟨by rw [Hlm.out]; exact hbl480, hbby.out⟩) HI2.out.by_ HI2.out.lb) (stx_len hs HON2.out.1 on1 HON2.out.2)
                clear kR B3
                cases hsx : stx (some (T, l)) k tx with
                | none =>
                  rw [hsx] at HN2 kA
                  simp only at HN2 kA
                  have HRL2 := hid (none12 HRun.out HN2.out)
                  clear hstx hsx HN2 r3
                  gi_wp2_with fail
                  refine ⟨trivial, (callsIn_wide.2 kA).mono ?_⟩
                  rintro en w4 ⟨rfl, B4⟩
                  have HQ5 := hid (HQ4.out.belB hq0.out (by omega) (by omega) B4)
                  have HF5 := hid (fr_belB HF4.out (by rw [Hr.out]; exact Nat.le_refl _) B4)
                  clear kA B4
                  gi_wp2
                  try rw [Exit.noGoto_normal]
                  go_end0
                  refine ⟨⟨_, rfl⟩, .inl ⟨pre, hJ pre w0 _ hJs HF5.out, fun _ => ⟨nxj, plj, ?_, hplj, ?_⟩⟩⟩
                  · rw [HRL2.out]
                  · rw [HRL2.out]
                    exact HQ5.out
                | some y =>
                  obtain ⟨tx', wh⟩ := y
                  have HSX2 := hid (hstx tx' wh hsx)
                  rw [hsx] at HN2 kA
                  simp only at HN2 kA
                  clear hstx hsx r3
                  gi_wp2_with fail
                  refine ⟨trivial, (callsIn_wide.2 kA).mono ?_⟩
                  rintro en w4 ⟨rfl, B4, a', n', c', hn', Y5, O5⟩
                  have HQ5 := hid (HQ4.out.belB hq0.out (by omega) (by omega) B4)
                  have HF5 := hid (fr_belB HF4.out (by rw [Hr.out]; exact Nat.le_refl _) B4)
                  have HY5 := hid Y5
                  have HO5 := hid O5
                  have Hn' := hid hn'
                  have n5 := hid (cellNat_of Y5.c0)
                  have n1 := hid (cellNat_of Hy0.out)
                  clear kA B4 Y5 O5 hn'
                  gi_wp2
                  go_roundw
                  case rel =>
                    refine ⟨k + 1, a', n', c', tx', wh, opS sk, by have := HP.out; omega, ⟨HY5.out, HO5.out, Hn'.out, HSX2.out.1.2.1, HSX2.out.1.1, hst3.out, HQ5.out, HF5.out, ?_, ?_⟩⟩
                    · intro hb
                      subst hb
                      refine ⟨HSX2.out.1.2.2 rfl, fun q => by omega, fun _ => HSX2.out.2, ?_⟩
                      rw [show plj + (k + 1) = P + 1 from by have := HP.out; omega]
                      exact HN2.out
                    · intro hb
                      subst hb
                      refine ⟨?_, HSX2.out.2, by omega⟩
                      rw [show plj + (k + 1) = P + 1 from by have := HP.out; omega]
                      exact HN2.out
                  case measure =>
                    rw [n5.out, n1.out]
                    have := HP.out
                    omega
            · have hEb : ((E : Int) != 0) = true := by simp; exact hE
              have HRL2 := hid (error12 HRun.out (HNX.out.1 hE))
              have J3 := hJ pre w0 x1 hJs HF3.out
              obtain ⟨fn, tmps, assign, body, hy, hR⟩ := hY pre ⟨.slice none 0 0, E, []⟩ x1 J3 ⟨by have := HO.out.cnt; omega, fun q => (hE q).elim, fun _ => rfl⟩
              clear J3 HNX HBS
              gi_wp2
              refine hR.mono ?_
              clear hR hy
              rintro e W3 (⟨rfl, hJ3, hk3⟩ | ⟨rfl, hJx3, hk3⟩)
              · gi_wp2
                try rw [Exit.noGoto_ret]
                refine bodyPost_ret (results_none rfl _ _ _) rfl ?_
                exact ⟨⟨_, rfl⟩, .inl ⟨_, hJ3, fun hall => (hE (hall ⟨.slice none 0 0, E, []⟩ (by simp))).elim⟩⟩
              · gi_wp2
                try rw [Exit.noGoto_ret]
                refine bodyPost_ret (results_none rfl _ _ _) rfl ?_
                refine ⟨⟨_, rfl⟩, .inr ⟨_, hJx3, fun ys x hx hne => ?_⟩⟩
                have hxe := (List.append_inj' hx rfl).2
                rw [← (List.cons.inj hxe).1, HRL2.out]
                exact ⟨rfl, nxj, plj, HQ3.out.kp hk3⟩
    · have hleI : ¬ (nxj : Int) ≤ 4611686018427387904 := by omega
      gi_wp2
      try rw [Exit.noGoto_normal]
      go_end0
      refine ⟨⟨_, rfl⟩, .inl ⟨pre, hJs, fun _ => ⟨nxj, plj, ?_, hplj, ?_⟩⟩⟩
      · have := HO.out.run
        rw [lgP_end _ _ _ _ _ (by omega)] at this
        rw [← this]
        simp [cmb]
      · have := HO.out.run
        rw [lgP_end _ _ _ _ _ (by omega)] at this
        rw [← this]
        exact HO.out.wq
end Go.Proofs.YtblcpdffiafgnaaGreatDoor
