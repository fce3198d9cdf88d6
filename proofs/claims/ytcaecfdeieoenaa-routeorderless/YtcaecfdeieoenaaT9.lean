import Derived.Test.YtcaecfdeieoenaaT7
import Derived.Test.YtcaecfdeieoenaaRO
import Derived.Test.YtcaecfdeieoenaaRA
import Derived.Test.YtcaecfdeieoenaaQ4
namespace Go.Proofs.Ytcaecfdeieoenaa
set_option maxRecDepth 100000
open Go.RowKit Go.Shelf
set_option linter.unusedVariables false
attribute [local go_sem] Oper.semAt_some

/-- The tree of a family. -/
def tF (F : Int) (t4 t6 : Tn) : Tn := if F = 4 then t4 else t6
/-- A table in memory. -/
def Tbm (w : World) (k : Nat) (t4 t6 : Tn) : Prop := w.heap[k]? = some (.cells #[t4.v, t6.v] 76 (0, 0)) ∧ Nd w t4 ∧ Nd w t6
theorem Tbm.kept {w w' : World} {k : Nat} {t4 t6 : Tn} (h : Tbm w k t4 t6) (hb : Below w.heap.size w w') : Tbm w' k t4 t6 := ⟨(hb.block k (Array.getElem?_eq_some_iff.1 h.1).1).trans h.1, h.2.1.kept hb, h.2.2.kept hb⟩
theorem Tbm.nd {w : World} {k : Nat} {t4 t6 : Tn} (h : Tbm w k t4 t6) (F : Int) : Nd w (tF F t4 t6) := by
  unfold tF
  split
  · exact h.2.1
  · exact h.2.2
/-- A node of a tree. -/
abbrev Zn (t : Tn) := { z : Nat × Wy // z ∈ t.nds }
/-- What the path reads. -/
structure Pst (n a b bt bp k : Nat) (q : Wy) (t4 t6 t : Tn) (W : World) : Prop where
  ct : W.heap[bt]? = some (.cells #[.pointer (some ⟨k, 0, none⟩)] 40 (0, 0))
  cp : Pm W bp q.F q.H q.L q.B
  ck : W.heap[k]? = some (.cells #[t4.v, t6.v] 76 (0, 0))
  nd : Nd W t
theorem Pst.kq {n a b bt bp k : Nat} {q : Wy} {t4 t6 t : Tn} {W W' : World} (h : Pst n a b bt bp k q t4 t6 t W) (hk : Kq n a b W W') (h1 : a ≤ bt ∧ bt < b) (h2 : a ≤ bp ∧ bp < b) (h3 : k < n) (h4 : ∀ z ∈ t.nds, z.1 < n) : Pst n a b bt bp k q t4 t6 t W' :=
  ⟨(hk.2.1 bt (.inr h1)).trans h.ct, h.cp.at (hk.2.1 bp (.inr h2)), (hk.2.1 k (.inl h3)).trans h.ck, h.nd.at (fun z hz => hk.2.1 _ (.inl (h4 z hz)))⟩
theorem Pst.kept {n a b bt bp k : Nat} {q : Wy} {t4 t6 t : Tn} {W W' : World} (h : Pst n a b bt bp k q t4 t6 t W) (hb : Below W.heap.size W W') : Pst n a b bt bp k q t4 t6 t W' :=
  ⟨(hb.block _ (Array.getElem?_eq_some_iff.1 h.ct).1).trans h.ct, h.cp.kept hb, (hb.block _ (Array.getElem?_eq_some_iff.1 h.ck).1).trans h.ck, h.nd.kept hb⟩
/-- How far a node is from the last bit. -/
def msn (v : Value) (W : World) : Nat := match v with
  | .pointer (some a) => match W.cell? ⟨a.block, 3, none⟩ with
    | some (.int _ B) => (200 - B).toNat
    | _ => 0
  | _ => 0
theorem msn_nil (W : World) : msn (.pointer none) W = 0 := rfl
theorem msn_node {W : World} {b : Nat} {x : Wy} {l r : Value} (h : Nm W b x l r) : msn (.pointer (some ⟨b, 0, none⟩)) W = (200 - x.B).toNat := by
  unfold msn
  simp only [h.c3]
theorem msn_kid {W : World} {t : Tn} {x : Wy} (hnd : Nd W t) (hu : ∀ z ∈ t.nds, x.B < z.2.B) (hx : x.B ≤ 128) : msn t.v W < (200 - x.B).toNat := by
  cases t with
  | nil =>
    rw [show Tn.nil.v = .pointer none from rfl, msn_nil]
    omega
  | node b y l r =>
    have h1 := hu _ List.mem_cons_self
    rw [show (Tn.node b y l r).v = .pointer (some ⟨b, 0, none⟩) from rfl, msn_node hnd.1]
    simp only at h1
    omega
theorem pre_map {α β : Type} {f : α → β} (hf : ∀ a b, f a = f b → a = b) {xs p : List α} {r : List β} (h : xs.map f = p.map f ++ r) : p <+: xs := by
  refine List.prefix_iff_eq_take.2 ((List.map_inj_right hf).1 ?_)
  rw [List.map_take, h, List.take_left' (by simp)]
set_option maxHeartbeats 8000000 in
theorem path1_ (n : Nat) (hn : 1 ≤ n) (lp n0 a b bt bp k : Nat) (q : Wy) (t4 t6 : Tn) (hq : q.In) (ha : va q.F q.H q.L = true) (hqB : q.B ≤ nb q.F) (hwf : Wf q.F (tF q.F t4 t6)) (xs : List (Zn (tF q.F t4 t6))) (hx : xs.map (·.1) = pth (nb q.F) q.A q.B (tF q.F t4 t6))
    (h1 : a ≤ bt ∧ bt < b) (h2 : a ≤ bp ∧ bp < b) (h3 : k < n0) (h4 : ∀ z ∈ (tF q.F t4 t6).nds, z.1 < n0) (J Jx : List (Zn (tF q.F t4 t6)) → World → Prop)
    (hJ : ∀ pre W W', J pre W → Below W.heap.size W W' → J pre W') (hJx : ∀ pre W W', Jx pre W → Below W.heap.size W W' → Jx pre W')
    (hY : ∀ pre x W, J pre W → pre.length < xs.length → YieldAt Fence.wide (n - 1) Try.prog lp #[.pointer (some ⟨x.1.1, 0, none⟩)] W fun e W' =>
      (e = .returned (.bool true) ∧ J (pre ++ [x]) W' ∧ Kq n0 a b W W') ∨ (e = .returned (.bool false) ∧ Jx (pre ++ [x]) W'))
    (W : World) (h0 : J [] W) (hP : Pst n0 a b bt bp k q t4 t6 (tF q.F t4 t6) W) :
    CallsIn Fence.wide n Try.prog 52 #[.func (.yield lp) #[] #[], .pointer (some ⟨bt, 0, none⟩), .pointer (some ⟨bp, 0, none⟩)] W fun e W' => (∃ v, e = .returned v) ∧
      ((∃ ys, ys = xs ∧ J ys W') ∨ (∃ pre, pre <+: xs ∧ Jx pre W')) := by
  have hmx : Try.prog.follows .mixedOrders = true := by kernel_rfl
  have kp := fun w => place_ q.F w
  obtain ⟨p4, hp4⟩ := t4.vp
  obtain ⟨p6, hp6⟩ := t6.vp
  have ct : W.cell? ⟨bt, 0, none⟩ = some (.pointer (some ⟨k, 0, none⟩)) := (cell_of_row _ _ 0 _ _ (0, 0) hP.ct).trans rfl
  have c0 := hP.cp.c0
  have k0 : W.cell? ⟨k, 0, none⟩ = some (.pointer p4) := (cell_of_row _ _ 0 _ _ (0, 0) hP.ck).trans (by rw [hp4]; rfl)
  have k1 : W.cell? ⟨k, 1, none⟩ = some (.pointer p6) := (cell_of_row _ _ 1 _ _ (0, 0) hP.ck).trans (by rw [hp6]; rfl)
  have HQB := hid hqB
  have hn128 := nb_le q.F
  clear hqB
  have HJ := hid hJ
  have HY := hid hY
  have H4 := hid h4
  clear hJ hJx hY h4
  have HP := hid hP
  have HX := hid hx
  have HWF := hid hwf
  clear hx hwf hP
  obtain ⟨pf, HPF⟩ : ∃ pf, Hid ((tF q.F t4 t6).v = .pointer pf) := (tF q.F t4 t6).vp
  refine callsIn_of_wp Try.func52 rfl trivial ?_ rfl
  simp only [Try.ntmps52, List.size_toArray, List.length_cons, List.length_nil, Nat.reduceAdd, Nat.reduceSub, Array.replicate_succ, Array.replicate_zero, List.push_toArray, List.append_toArray, List.nil_append, List.cons_append]
  by_cases hF : q.F = 4
  · have HV : Hid ((tF q.F t4 t6).v = .pointer p4) := by
      show _ = _
      unfold tF
      rw [if_pos hF]
      exact hp4
    clear hp4 hp6
    rw [hF] at c0
    rw [if_pos hF, hF] at kp
    gi_wp2
    refine regionN (S := fun wx => ∃ n, wx = W.drewN n) hmx ⟨1, rfl⟩ (fun hHeld => ?_)
    refine takeN (i := 0) 5 (.pointer (some ⟨k, 0, none⟩)) rfl rfl rfl (by kernel_rfl) (by kernel_rfl) (by kernel_rfl) (fun _ _ _ h => h) (Or.inl ⟨by kernel_rfl, fun w' h => ?_⟩) (fun _ => rfl) hHeld ?_
    · obtain ⟨nq, rfl⟩ := h
      go_simp
    try simp only [List.setIfInBounds_toArray, List.set_cons_zero, List.set_cons_succ]
    refine takeN (i := 1) 6 (.pointer (some ⟨bp, 0, none⟩)) rfl rfl rfl (by kernel_rfl) (by kernel_rfl) (by kernel_rfl) (fun _ _ _ h => h) (Or.inl ⟨by kernel_rfl, fun w' h => ?_⟩) (fun _ => rfl) hHeld ?_
    · go_simp
    try simp only [List.setIfInBounds_toArray, List.set_cons_zero, List.set_cons_succ]
    refine takeN (i := 2) 7 (.pointer (some ⟨bp, 0, none⟩)) rfl rfl rfl (by kernel_rfl) (by kernel_rfl) (by kernel_rfl) (fun _ _ _ h => h) (Or.inl ⟨by kernel_rfl, fun w' h => ?_⟩) (fun _ => rfl) hHeld ?_
    · go_simp
    try simp only [List.setIfInBounds_toArray, List.set_cons_zero, List.set_cons_succ]
    refine takeN (i := 3) 8 (.int .i64 4) rfl rfl rfl (by kernel_rfl) (by kernel_rfl) (by kernel_rfl) (fun _ _ _ h => h) (Or.inl ⟨by kernel_rfl, fun w' h => ?_⟩) (fun _ => rfl) hHeld ?_
    · obtain ⟨nq, rfl⟩ := h
      go_simp
    try simp only [List.setIfInBounds_toArray, List.set_cons_zero, List.set_cons_succ]
    refine takeN (i := 5) 10 (.pointer (some ⟨k, 0, none⟩)) rfl rfl rfl (by kernel_rfl) (by kernel_rfl) (by kernel_rfl) (fun _ _ _ h => h) (Or.inl ⟨by kernel_rfl, fun w' h => ?_⟩) (fun _ => rfl) hHeld ?_
    · go_simp
    try simp only [List.setIfInBounds_toArray, List.set_cons_zero, List.set_cons_succ]
    refine takeN (i := 6) 11 (.pointer (some ⟨k, 0, none⟩)) rfl rfl rfl (by kernel_rfl) (by kernel_rfl) (by kernel_rfl) (fun _ _ _ h => h) (Or.inl ⟨by kernel_rfl, fun w' h => ?_⟩) (fun _ => rfl) hHeld ?_
    · go_simp
    try simp only [List.setIfInBounds_toArray, List.set_cons_zero, List.set_cons_succ]
    refine nextN (i := 4) (by kernel_rfl) rfl (fun K hK => ?_)
    rw [if_pos (by kernel_rfl)]
    gi_wp2_with (refine ⟨trivial, ?_⟩; gi_at_call 42; refine (callsIn_wide.2 (kp _)).mono ?_; rintro e w' ⟨rfl, rfl⟩)
    refine hK.out _ _ hHeld (fun hHeld => ?_)
    clear hK K
    try simp only [Act.put, List.setIfInBounds_toArray, List.set_cons_zero, List.set_cons_succ]
    refine takeN (i := 7) 12 (.pointer (some ⟨k, 0, none⟩)) rfl rfl rfl (by kernel_rfl) (by kernel_rfl) (by kernel_rfl) (fun _ _ _ h => h) (Or.inl ⟨by kernel_rfl, fun w' h => ?_⟩) (fun _ => rfl) hHeld ?_
    · go_simp
    try simp only [List.setIfInBounds_toArray, List.set_cons_zero, List.set_cons_succ]
    refine takeN (i := 8) 13 (.pointer p4) rfl rfl rfl (by kernel_rfl) (by kernel_rfl) (by kernel_rfl) (fun _ _ _ h => h) (Or.inl ⟨by kernel_rfl, fun w' h => ?_⟩) (fun _ => rfl) hHeld ?_
    · obtain ⟨nq, rfl⟩ := h
      go_simp
    try simp only [List.setIfInBounds_toArray, List.set_cons_zero, List.set_cons_succ]
    refine takeN (i := 9) 4 (.pointer p4) rfl rfl rfl (by kernel_rfl) (by kernel_rfl) (by kernel_rfl) (fun _ _ _ h => h) (Or.inl ⟨by kernel_rfl, fun w' h => ?_⟩) (fun _ => rfl) hHeld ?_
    · go_simp
    try simp only [List.setIfInBounds_toArray, List.set_cons_zero, List.set_cons_succ]
    refine doneN (by kernel_rfl) ?_ _
    clear hHeld
    have HP0 : Hid (Pst n0 a b bt bp k q t4 t6 (tF q.F t4 t6) W.drew) := HP.out.kept ⟨rfl, rfl, rfl, Nat.le_refl _, fun _ _ => rfl⟩
    have h00 : J [] W.drew := HJ.out [] W _ h0 ⟨rfl, rfl, rfl, Nat.le_refl _, fun _ _ => rfl⟩
    generalize W.drew = w0 at *
    clear h0 HP ct c0 k0 k1 kp hF
    gi_wp2
    gi_loopw [4] (fun v wr => ∃ (pre : List (Zn (tF q.F t4 t6))) (t' : Tn), v = t'.v ∧ xs.map (·.1) = pre.map (·.1) ++ pth (nb q.F) q.A q.B t' ∧ Wf q.F t' ∧ (∀ z ∈ t'.nds, z ∈ (tF q.F t4 t6).nds) ∧ Nd wr t' ∧ Pst n0 a b bt bp k q t4 t6 (tF q.F t4 t6) wr ∧ J pre wr) (fun v wr => msn v wr)
    case atStart =>
      exact ⟨[], (tF q.F t4 t6), HV.out.symm, HX.out, HWF.out, fun z hz => hz, HP0.out.nd, HP0.out, h00⟩
    case round =>
      clear h00 HP0 HV HX HWF
      obtain ⟨pre, t', rfl, hxs, hwf, hsub, hnd, hP, hJs⟩ := hrel
      cases t' with
      | nil =>
        have HXS : Hid (xs = pre) := by
          show _ = _
          rw [pth, List.append_nil] at hxs
          exact (List.map_inj_right (fun _ _ h => Subtype.ext h)).1 hxs
        have HJS := hid hJs
        clear hxs hnd hwf hsub hJs hP
        simp only [Tn.v]
        gi_wp2
        refine regionN (S := fun _ => True) hmx trivial (fun hHeld => ?_)
        refine takeN (i := 0) 14 (.pointer none) rfl rfl rfl (by kernel_rfl) (by kernel_rfl) (by kernel_rfl) (fun _ _ _ h => h) (Or.inl ⟨by kernel_rfl, fun w' h => ?_⟩) (fun _ => rfl) hHeld ?_
        · go_simp
        try simp only [List.setIfInBounds_toArray, List.set_cons_zero, List.set_cons_succ]
        refine takeN (i := 1) 15 (.bool false) rfl rfl rfl (by kernel_rfl) (by kernel_rfl) (by kernel_rfl) (fun _ _ _ h => h) (Or.inl ⟨by kernel_rfl, fun w' h => ?_⟩) (fun _ => rfl) hHeld ?_
        · go_simp
        try simp only [List.setIfInBounds_toArray, List.set_cons_zero, List.set_cons_succ]
        refine takeN (i := 2) 16 (.bool false) rfl rfl rfl (by kernel_rfl) (by kernel_rfl) (by kernel_rfl) (fun _ _ _ h => h) (Or.inl ⟨by kernel_rfl, fun w' h => ?_⟩) (fun _ => rfl) hHeld ?_
        · go_simp
        try simp only [List.setIfInBounds_toArray, List.set_cons_zero, List.set_cons_succ]
        refine takeN (i := 3) 17 (undef) rfl rfl rfl (by kernel_rfl) (by kernel_rfl) (by kernel_rfl) (fun _ _ _ h => h) (Or.inr ⟨by kernel_rfl, rfl⟩) (fun _ => rfl) hHeld ?_
        try simp only [List.setIfInBounds_toArray, List.set_cons_zero, List.set_cons_succ]
        refine takeN (i := 4) 18 (undef) rfl rfl rfl (by kernel_rfl) (by kernel_rfl) (by kernel_rfl) (fun _ _ _ h => h) (Or.inr ⟨by kernel_rfl, rfl⟩) (fun _ => rfl) hHeld ?_
        try simp only [List.setIfInBounds_toArray, List.set_cons_zero, List.set_cons_succ]
        refine takeN (i := 5) 19 (undef) rfl rfl rfl (by kernel_rfl) (by kernel_rfl) (by kernel_rfl) (fun _ _ _ h => h) (Or.inr ⟨by kernel_rfl, rfl⟩) (fun _ => rfl) hHeld ?_
        try simp only [List.setIfInBounds_toArray, List.set_cons_zero, List.set_cons_succ]
        refine takeN (i := 6) 20 (undef) rfl rfl rfl (by kernel_rfl) (by kernel_rfl) (by kernel_rfl) (fun _ _ _ h => h) (Or.inr ⟨by kernel_rfl, rfl⟩) (fun _ => rfl) hHeld ?_
        try simp only [List.setIfInBounds_toArray, List.set_cons_zero, List.set_cons_succ]
        refine takeN (i := 7) 21 (undef) rfl rfl rfl (by kernel_rfl) (by kernel_rfl) (by kernel_rfl) (fun _ _ _ h => h) (Or.inr ⟨by kernel_rfl, rfl⟩) (fun _ => rfl) hHeld ?_
        try simp only [List.setIfInBounds_toArray, List.set_cons_zero, List.set_cons_succ]
        refine takeN (i := 8) 22 (undef) rfl rfl rfl (by kernel_rfl) (by kernel_rfl) (by kernel_rfl) (fun _ _ _ h => h) (Or.inr ⟨by kernel_rfl, rfl⟩) (fun _ => rfl) hHeld ?_
        try simp only [List.setIfInBounds_toArray, List.set_cons_zero, List.set_cons_succ]
        refine skipN (i := 9) 23 (by kernel_rfl) rfl rfl (by kernel_rfl) (fun _ => trivial) trivial ?_
        try simp only [List.setIfInBounds_toArray, List.set_cons_zero, List.set_cons_succ]
        refine takeN (i := 10) 24 (.bool false) rfl rfl rfl (by kernel_rfl) (by kernel_rfl) (by kernel_rfl) (fun _ _ _ h => h) (Or.inl ⟨by kernel_rfl, fun w' h => ?_⟩) (fun _ => rfl) hHeld ?_
        · go_simp
        try simp only [List.setIfInBounds_toArray, List.set_cons_zero, List.set_cons_succ]
        refine takeN (i := 11) 25 (.bool false) rfl rfl rfl (by kernel_rfl) (by kernel_rfl) (by kernel_rfl) (fun _ _ _ h => h) (Or.inl ⟨by kernel_rfl, fun w' h => ?_⟩) (fun _ => rfl) hHeld ?_
        · go_simp
        try simp only [List.setIfInBounds_toArray, List.set_cons_zero, List.set_cons_succ]
        refine takeN (i := 12) 26 (undef) rfl rfl rfl (by kernel_rfl) (by kernel_rfl) (by kernel_rfl) (fun _ _ _ h => h) (Or.inr ⟨by kernel_rfl, rfl⟩) (fun _ => rfl) hHeld ?_
        try simp only [List.setIfInBounds_toArray, List.set_cons_zero, List.set_cons_succ]
        refine takeN (i := 13) 27 (undef) rfl rfl rfl (by kernel_rfl) (by kernel_rfl) (by kernel_rfl) (fun _ _ _ h => h) (Or.inr ⟨by kernel_rfl, rfl⟩) (fun _ => rfl) hHeld ?_
        try simp only [List.setIfInBounds_toArray, List.set_cons_zero, List.set_cons_succ]
        refine skipN (i := 14) 28 (by kernel_rfl) rfl rfl (by kernel_rfl) (fun _ => trivial) trivial ?_
        try simp only [List.setIfInBounds_toArray, List.set_cons_zero, List.set_cons_succ]
        refine takeN (i := 15) 29 (.bool false) rfl rfl rfl (by kernel_rfl) (by kernel_rfl) (by kernel_rfl) (fun _ _ _ h => h) (Or.inl ⟨by kernel_rfl, fun w' h => ?_⟩) (fun _ => rfl) hHeld ?_
        · go_simp
        try simp only [List.setIfInBounds_toArray, List.set_cons_zero, List.set_cons_succ]
        refine takeN (i := 16) 30 (.bool false) rfl rfl rfl (by kernel_rfl) (by kernel_rfl) (by kernel_rfl) (fun _ _ _ h => h) (Or.inl ⟨by kernel_rfl, fun w' h => ?_⟩) (fun _ => rfl) hHeld ?_
        · go_simp
        try simp only [List.setIfInBounds_toArray, List.set_cons_zero, List.set_cons_succ]
        refine takeN (i := 17) 31 (undef) rfl rfl rfl (by kernel_rfl) (by kernel_rfl) (by kernel_rfl) (fun _ _ _ h => h) (Or.inr ⟨by kernel_rfl, rfl⟩) (fun _ => rfl) hHeld ?_
        try simp only [List.setIfInBounds_toArray, List.set_cons_zero, List.set_cons_succ]
        refine takeN (i := 18) 32 (undef) rfl rfl rfl (by kernel_rfl) (by kernel_rfl) (by kernel_rfl) (fun _ _ _ h => h) (Or.inr ⟨by kernel_rfl, rfl⟩) (fun _ => rfl) hHeld ?_
        try simp only [List.setIfInBounds_toArray, List.set_cons_zero, List.set_cons_succ]
        refine takeN (i := 19) 33 (undef) rfl rfl rfl (by kernel_rfl) (by kernel_rfl) (by kernel_rfl) (fun _ _ _ h => h) (Or.inr ⟨by kernel_rfl, rfl⟩) (fun _ => rfl) hHeld ?_
        try simp only [List.setIfInBounds_toArray, List.set_cons_zero, List.set_cons_succ]
        refine takeN (i := 20) 34 (undef) rfl rfl rfl (by kernel_rfl) (by kernel_rfl) (by kernel_rfl) (fun _ _ _ h => h) (Or.inr ⟨by kernel_rfl, rfl⟩) (fun _ => rfl) hHeld ?_
        try simp only [List.setIfInBounds_toArray, List.set_cons_zero, List.set_cons_succ]
        refine takeN (i := 21) 35 (undef) rfl rfl rfl (by kernel_rfl) (by kernel_rfl) (by kernel_rfl) (fun _ _ _ h => h) (Or.inr ⟨by kernel_rfl, rfl⟩) (fun _ => rfl) hHeld ?_
        try simp only [List.setIfInBounds_toArray, List.set_cons_zero, List.set_cons_succ]
        refine takeN (i := 22) 36 (undef) rfl rfl rfl (by kernel_rfl) (by kernel_rfl) (by kernel_rfl) (fun _ _ _ h => h) (Or.inr ⟨by kernel_rfl, rfl⟩) (fun _ => rfl) hHeld ?_
        try simp only [List.setIfInBounds_toArray, List.set_cons_zero, List.set_cons_succ]
        refine takeN (i := 23) 37 (undef) rfl rfl rfl (by kernel_rfl) (by kernel_rfl) (by kernel_rfl) (fun _ _ _ h => h) (Or.inr ⟨by kernel_rfl, rfl⟩) (fun _ => rfl) hHeld ?_
        try simp only [List.setIfInBounds_toArray, List.set_cons_zero, List.set_cons_succ]
        refine takeN (i := 24) 38 (undef) rfl rfl rfl (by kernel_rfl) (by kernel_rfl) (by kernel_rfl) (fun _ _ _ h => h) (Or.inr ⟨by kernel_rfl, rfl⟩) (fun _ => rfl) hHeld ?_
        try simp only [List.setIfInBounds_toArray, List.set_cons_zero, List.set_cons_succ]
        refine takeN (i := 25) 39 (.bool false) rfl rfl rfl (by kernel_rfl) (by kernel_rfl) (by kernel_rfl) (fun _ _ _ h => h) (Or.inl ⟨by kernel_rfl, fun w' h => ?_⟩) (fun _ => rfl) hHeld ?_
        · go_simp
        try simp only [List.setIfInBounds_toArray, List.set_cons_zero, List.set_cons_succ]
        refine doneN (by kernel_rfl) ?_ _
        gi_wp2
        go_end0
        exact ⟨⟨_, rfl⟩, .inl ⟨pre, HXS.out.symm, HJ.out pre wr _ HJS.out ⟨rfl, rfl, rfl, Nat.le_refl _, fun _ _ => rfl⟩⟩⟩
      | node b2 x l r =>
        have hmem : (b2, x) ∈ (tF q.F t4 t6).nds := hsub _ List.mem_cons_self
        have hb2 : b2 < n0 := H4.out _ hmem
        have m0 := hnd.1
        have hbx := hwf.1.b
        obtain ⟨vl, hvl⟩ := l.vp
        obtain ⟨vr, hvr⟩ := r.vp
        rw [hvl, hvr] at m0
        have mp := hP.cp
        have kh := fun w => holds_ x.F x.H x.L x.B q.F q.H q.L w hwf.1.1.1 hwf.1.1.2.1 hwf.1.1.2.2.1 hwf.1.1.2.2.2.1 hq.1 hq.2.1 hq.2.2.1
        have HHO : Hid (ho x.F x.H x.L x.B q.F q.H q.L = decide (x.A / 2 ^ (nb q.F - x.B.toNat) = q.A / 2 ^ (nb q.F - x.B.toNat))) := nk_ho hwf.1 ha
        rw [pth] at hxs
        have HJS := hid hJs
        have HWF := hid hwf
        have HND := hid hnd
        have HSB := hid hsub
        have HP := hid hP
        have HM := hid (msn_node m0)
        have HMEM := hid hmem
        have HVL := hid hvl
        have HVR := hid hvr
        simp only [Tn.v]
        clear hwf hnd hsub hP hmem hvl hvr hJs
        have x0 := m0.c0
        have x1 := m0.c1
        have x2 := m0.c2
        have x3 := m0.c3
        have f0 := mp.c0
        have f1 := mp.c1
        have f2 := mp.c2
        by_cases hh : x.A / 2 ^ (nb q.F - x.B.toNat) = q.A / 2 ^ (nb q.F - x.B.toNat)
        · rw [HHO.out, decide_eq_true hh] at kh
          rw [if_pos hh] at hxs
          have HXS := hid hxs
          clear hxs hh HHO
          gi_wp2
          refine regionN (S := fun _ => True) hmx trivial (fun hHeld => ?_)
          replace HP := hid (HP.out.kept (W' := wr.drew) ⟨rfl, rfl, rfl, Nat.le_refl _, fun _ _ => rfl⟩)
          replace HND := hid (Nd.kept (w := wr) (w' := wr.drew) ⟨rfl, rfl, rfl, Nat.le_refl _, fun _ _ => rfl⟩ HND.out)
          replace HJS := hid (HJ.out pre wr wr.drew HJS.out ⟨rfl, rfl, rfl, Nat.le_refl _, fun _ _ => rfl⟩)
          replace m0 := m0.drew
          replace mp := mp.drew
          refine takeN (i := 0) 14 (.pointer (some ⟨b2, 0, none⟩)) rfl rfl rfl (by kernel_rfl) (by kernel_rfl) (by kernel_rfl) (fun _ _ _ h => h) (Or.inl ⟨by kernel_rfl, fun w' h => ?_⟩) (fun _ => rfl) hHeld ?_
          · go_simp
          try simp only [List.setIfInBounds_toArray, List.set_cons_zero, List.set_cons_succ]
          refine takeN (i := 1) 15 (.bool true) rfl rfl rfl (by kernel_rfl) (by kernel_rfl) (by kernel_rfl) (fun _ _ _ h => h) (Or.inl ⟨by kernel_rfl, fun w' h => ?_⟩) (fun _ => rfl) hHeld ?_
          · go_simp
          try simp only [List.setIfInBounds_toArray, List.set_cons_zero, List.set_cons_succ]
          refine takeN (i := 2) 16 (.bool true) rfl rfl rfl (by kernel_rfl) (by kernel_rfl) (by kernel_rfl) (fun _ _ _ h => h) (Or.inl ⟨by kernel_rfl, fun w' h => ?_⟩) (fun _ => rfl) hHeld ?_
          · go_simp
          try simp only [List.setIfInBounds_toArray, List.set_cons_zero, List.set_cons_succ]
          refine takeN (i := 3) 17 (.pointer (some ⟨b2, 0, none⟩)) rfl rfl rfl (by kernel_rfl) (by kernel_rfl) (by kernel_rfl) (fun _ _ _ h => h) (Or.inl ⟨by kernel_rfl, fun w' h => ?_⟩) (fun _ => rfl) hHeld ?_
          · go_simp
          try simp only [List.setIfInBounds_toArray, List.set_cons_zero, List.set_cons_succ]
          refine takeN (i := 4) 18 (.pointer (some ⟨b2, 0, none⟩)) rfl rfl rfl (by kernel_rfl) (by kernel_rfl) (by kernel_rfl) (fun _ _ _ h => h) (Or.inl ⟨by kernel_rfl, fun w' h => ?_⟩) (fun _ => rfl) hHeld ?_
          · go_simp
          try simp only [List.setIfInBounds_toArray, List.set_cons_zero, List.set_cons_succ]
          refine takeN (i := 5) 19 (.pointer (some ⟨b2, 0, none⟩)) rfl rfl rfl (by kernel_rfl) (by kernel_rfl) (by kernel_rfl) (fun _ _ _ h => h) (Or.inl ⟨by kernel_rfl, fun w' h => ?_⟩) (fun _ => rfl) hHeld ?_
          · go_simp
          try simp only [List.setIfInBounds_toArray, List.set_cons_zero, List.set_cons_succ]
          refine takeN (i := 7) 21 (.pointer (some ⟨bp, 0, none⟩)) rfl rfl rfl (by kernel_rfl) (by kernel_rfl) (by kernel_rfl) (fun _ _ _ h => h) (Or.inl ⟨by kernel_rfl, fun w' h => ?_⟩) (fun _ => rfl) hHeld ?_
          · go_simp
          try simp only [List.setIfInBounds_toArray, List.set_cons_zero, List.set_cons_succ]
          refine readsN (i := 6) (j := 8) 20 22 (.agg #[.int .i64 x.F, .int .u64 x.H, .int .u64 x.L, .int .i64 x.B]) (.agg #[.int .i64 q.F, .int .u64 q.H, .int .u64 q.L]) rfl rfl rfl rfl rfl (by decide) (by decide) (by kernel_rfl) (by kernel_rfl) (by kernel_rfl) (Or.inl ⟨by kernel_rfl, fun w' h => ?_⟩) (Or.inl ⟨by kernel_rfl, fun w' h => ?_⟩) (Or.inl ⟨by kernel_rfl, fun w' h => ?_⟩) (Or.inl ⟨by kernel_rfl, fun w' h => ?_⟩) (fun _ _ => rfl) (fun _ _ => rfl) hHeld ?_
          · rw [h]
            go_simp
          · rw [h]
            go_simp
          · rw [h]
            go_simp
          · rw [h]
            go_simp
          try simp only [List.setIfInBounds_toArray, List.set_cons_zero, List.set_cons_succ]
          refine nextN (i := 9) (by kernel_rfl) rfl (fun K hK => ?_)
          rw [if_pos (by kernel_rfl)]
          gi_wp2_with (refine ⟨trivial, ?_⟩; gi_at_call 53; refine (callsIn_wide.2 (kh _)).mono ?_; rintro e wa ⟨rfl, g2⟩)
          replace HP := hid (HP.out.kept g2)
          replace HND := hid (HND.out.kept g2)
          replace HJS := hid (HJ.out pre _ wa HJS.out g2)
          replace m0 := m0.kept g2
          replace mp := mp.kept g2
          clear g2 x0 x1 x2 x3 f0 f1 f2 kh
          refine hK.out _ _ trivial (fun hHeld => ?_)
          clear hK K
          try simp only [Act.put, List.setIfInBounds_toArray, List.set_cons_zero, List.set_cons_succ]
          refine takeN (i := 10) 24 (.bool true) rfl rfl rfl (by kernel_rfl) (by kernel_rfl) (by kernel_rfl) (fun _ _ _ h => h) (Or.inl ⟨by kernel_rfl, fun w' h => ?_⟩) (fun _ => rfl) hHeld ?_
          · go_simp
          try simp only [List.setIfInBounds_toArray, List.set_cons_zero, List.set_cons_succ]
          refine takeN (i := 11) 25 (.bool true) rfl rfl rfl (by kernel_rfl) (by kernel_rfl) (by kernel_rfl) (fun _ _ _ h => h) (Or.inl ⟨by kernel_rfl, fun w' h => ?_⟩) (fun _ => rfl) hHeld ?_
          · go_simp
          try simp only [List.setIfInBounds_toArray, List.set_cons_zero, List.set_cons_succ]
          refine takeN (i := 12) 26 (.func (.yield lp) #[] #[]) rfl rfl rfl (by kernel_rfl) (by kernel_rfl) (by kernel_rfl) (fun _ _ _ h => h) (Or.inl ⟨by kernel_rfl, fun w' h => ?_⟩) (fun _ => rfl) hHeld ?_
          · go_simp
          try simp only [List.setIfInBounds_toArray, List.set_cons_zero, List.set_cons_succ]
          refine takeN (i := 13) 27 (.pointer (some ⟨b2, 0, none⟩)) rfl rfl rfl (by kernel_rfl) (by kernel_rfl) (by kernel_rfl) (fun _ _ _ h => h) (Or.inl ⟨by kernel_rfl, fun w' h => ?_⟩) (fun _ => rfl) hHeld ?_
          · go_simp
          try simp only [List.setIfInBounds_toArray, List.set_cons_zero, List.set_cons_succ]
          refine nextN (i := 14) (by kernel_rfl) rfl (fun K hK => ?_)
          rw [if_pos (by kernel_rfl)]
          obtain ⟨fn, tmps, assign, body, hy', hR⟩ := HY.out pre ⟨(b2, x), HMEM.out⟩ wa HJS.out (by have := congrArg List.length HXS.out; simp at this; omega)
          dsimp only at hy'
          gi_wp2
          refine hR.mono ?_
          rintro e W3 (⟨rfl, hJ3, hk3⟩ | ⟨rfl, hJx3⟩)
          · clear hy' hR
            have HJ3 := hid hJ3
            clear hJ3
            replace HP := hid (HP.out.kq hk3 h1 h2 h3 H4.out)
            replace HND := hid (HND.out.at (fun z hz => hk3.2.1 _ (.inl (H4.out _ (HSB.out z hz)))))
            replace m0 := m0.at (hk3.2.1 b2 (.inl hb2))
            replace mp := mp.at (hk3.2.1 bp (.inr h2))
            clear hk3
            refine hK.out _ _ trivial (fun hHeld => ?_)
            clear hK K
            have x3 := m0.c3
            have f3 := mp.c3
            try simp only [Act.put, List.setIfInBounds_toArray, List.set_cons_zero, List.set_cons_succ]
            refine takeN (i := 15) 29 (.bool true) rfl rfl rfl (by kernel_rfl) (by kernel_rfl) (by kernel_rfl) (fun _ _ _ h => h) (Or.inl ⟨by kernel_rfl, fun w' h => ?_⟩) (fun _ => rfl) hHeld ?_
            · go_simp
            try simp only [List.setIfInBounds_toArray, List.set_cons_zero, List.set_cons_succ]
            refine takeN (i := 16) 30 (.bool true) rfl rfl rfl (by kernel_rfl) (by kernel_rfl) (by kernel_rfl) (fun _ _ _ h => h) (Or.inl ⟨by kernel_rfl, fun w' h => ?_⟩) (fun _ => rfl) hHeld ?_
            · go_simp
            try simp only [List.setIfInBounds_toArray, List.set_cons_zero, List.set_cons_succ]
            refine takeN (i := 17) 31 (.pointer (some ⟨b2, 0, none⟩)) rfl rfl rfl (by kernel_rfl) (by kernel_rfl) (by kernel_rfl) (fun _ _ _ h => h) (Or.inl ⟨by kernel_rfl, fun w' h => ?_⟩) (fun _ => rfl) hHeld ?_
            · go_simp
            try simp only [List.setIfInBounds_toArray, List.set_cons_zero, List.set_cons_succ]
            refine takeN (i := 18) 32 (.pointer (some ⟨b2, 0, none⟩)) rfl rfl rfl (by kernel_rfl) (by kernel_rfl) (by kernel_rfl) (fun _ _ _ h => h) (Or.inl ⟨by kernel_rfl, fun w' h => ?_⟩) (fun _ => rfl) hHeld ?_
            · go_simp
            try simp only [List.setIfInBounds_toArray, List.set_cons_zero, List.set_cons_succ]
            refine takeN (i := 19) 33 (.pointer (some ⟨b2, 0, none⟩)) rfl rfl rfl (by kernel_rfl) (by kernel_rfl) (by kernel_rfl) (fun _ _ _ h => h) (Or.inl ⟨by kernel_rfl, fun w' h => ?_⟩) (fun _ => rfl) hHeld ?_
            · go_simp
            try simp only [List.setIfInBounds_toArray, List.set_cons_zero, List.set_cons_succ]
            refine takeN (i := 20) 34 (.pointer (some ⟨b2, 3, none⟩)) rfl rfl rfl (by kernel_rfl) (by kernel_rfl) (by kernel_rfl) (fun _ _ _ h => h) (Or.inl ⟨by kernel_rfl, fun w' h => ?_⟩) (fun _ => rfl) hHeld ?_
            · go_simp
            try simp only [List.setIfInBounds_toArray, List.set_cons_zero, List.set_cons_succ]
            refine takeN (i := 22) 36 (.pointer (some ⟨bp, 3, none⟩)) rfl rfl rfl (by kernel_rfl) (by kernel_rfl) (by kernel_rfl) (fun _ _ _ h => h) (Or.inl ⟨by kernel_rfl, fun w' h => ?_⟩) (fun _ => rfl) hHeld ?_
            · go_simp
            try simp only [List.setIfInBounds_toArray, List.set_cons_zero, List.set_cons_succ]
            refine readsN (i := 21) (j := 23) 35 37 (.int .i64 x.B) (.int .i64 q.B) rfl rfl rfl rfl rfl (by decide) (by decide) (by kernel_rfl) (by kernel_rfl) (by kernel_rfl) (Or.inl ⟨by kernel_rfl, fun w' h => ?_⟩) (Or.inl ⟨by kernel_rfl, fun w' h => ?_⟩) (Or.inl ⟨by kernel_rfl, fun w' h => ?_⟩) (Or.inl ⟨by kernel_rfl, fun w' h => ?_⟩) (fun _ _ => rfl) (fun _ _ => rfl) hHeld ?_
            · rw [h]
              go_simp
            · rw [h]
              go_simp
            · rw [h]
              go_simp
            · rw [h]
              go_simp
            try simp only [List.setIfInBounds_toArray, List.set_cons_zero, List.set_cons_succ]
            by_cases hlt : x.B < q.B
            · have hltd : decide (x.B < q.B) = true := decide_eq_true hlt
              refine takeN (i := 24) 38 (.bool true) rfl rfl rfl (by kernel_rfl) (by kernel_rfl) (by kernel_rfl) (fun _ _ _ h => h) (Or.inl ⟨by kernel_rfl, fun w' h => ?_⟩) (fun _ => rfl) hHeld ?_
              · go_simp
              try simp only [List.setIfInBounds_toArray, List.set_cons_zero, List.set_cons_succ]
              refine takeN (i := 25) 39 (.bool true) rfl rfl rfl (by kernel_rfl) (by kernel_rfl) (by kernel_rfl) (fun _ _ _ h => h) (Or.inl ⟨by kernel_rfl, fun w' h => ?_⟩) (fun _ => rfl) hHeld ?_
              · go_simp
              try simp only [List.setIfInBounds_toArray, List.set_cons_zero, List.set_cons_succ]
              refine doneN (by kernel_rfl) ?_ _
              clear hHeld x3 f3
              have HX2 : Hid (xs.map (·.1) = (pre ++ [(⟨(b2, x), HMEM.out⟩ : Zn (tF q.F t4 t6))]).map (·.1) ++ (if bi (nb q.F) q.A x.B.toNat = 0 then pth (nb q.F) q.A q.B l else pth (nb q.F) q.A q.B r)) := by
                show _ = _
                rw [HXS.out, if_pos hlt, List.map_append, List.append_assoc]
                rfl
              have hqb : x.B < nb q.F := by have := HQB.out; omega
              clear HXS hltd hlt
              have kb := fun w => bit_ q.F q.H q.L x.B w hq.2.1 hq.2.2.1 ha ⟨hbx.1, hqb⟩
              have HA : Hid (bi (nb q.F) (ad q.H q.L) x.B.toNat = bi (nb q.F) q.A x.B.toNat) := rfl
              rw [HA.out] at kb
              rcases bi_or (nb q.F) q.A x.B.toNat with hi | hi
              · rw [hi] at kb
                rw [if_pos hi] at HX2
                gi_wp2
                refine regionN (S := fun wx => Nm wx b2 x (.pointer vl) (.pointer vr) ∧ Pm wx bp q.F q.H q.L q.B) hmx ⟨m0.drew, mp.drew⟩ (fun hHeld => ?_)
                replace HP := hid (HP.out.kept (W' := W3.drew) ⟨rfl, rfl, rfl, Nat.le_refl _, fun _ _ => rfl⟩)
                replace HND := hid (Nd.kept (w := W3) (w' := W3.drew) ⟨rfl, rfl, rfl, Nat.le_refl _, fun _ _ => rfl⟩ HND.out)
                replace HJ3 := hid (HJ.out _ W3 W3.drew HJ3.out ⟨rfl, rfl, rfl, Nat.le_refl _, fun _ _ => rfl⟩)
                replace m0 := m0.drew
                replace mp := mp.drew
                refine takeN (i := 0) 40 (.pointer (some ⟨b2, 0, none⟩)) rfl rfl rfl (by kernel_rfl) (by kernel_rfl) (by kernel_rfl) (fun _ _ _ h => h) (Or.inl ⟨by kernel_rfl, fun w' h => ?_⟩) (fun _ => rfl) hHeld ?_
                · go_simp
                try simp only [List.setIfInBounds_toArray, List.set_cons_zero, List.set_cons_succ]
                refine takeN (i := 1) 41 (.pointer (some ⟨bp, 0, none⟩)) rfl rfl rfl (by kernel_rfl) (by kernel_rfl) (by kernel_rfl) (fun _ _ _ h => h) (Or.inl ⟨by kernel_rfl, fun w' h => ?_⟩) (fun _ => rfl) hHeld ?_
                · go_simp
                try simp only [List.setIfInBounds_toArray, List.set_cons_zero, List.set_cons_succ]
                refine takeN (i := 2) 42 (.agg #[.int .i64 q.F, .int .u64 q.H, .int .u64 q.L]) rfl rfl rfl (by kernel_rfl) (by kernel_rfl) (by kernel_rfl) (fun _ _ _ h => h) (Or.inl ⟨by kernel_rfl, fun w' h => ?_⟩) (fun _ => rfl) hHeld ?_
                · have y0 := Pm.c0 h.2; have y1 := Pm.c1 h.2; have y2 := Pm.c2 h.2
                  go_simp
                try simp only [List.setIfInBounds_toArray, List.set_cons_zero, List.set_cons_succ]
                refine takeN (i := 3) 43 (.pointer (some ⟨b2, 0, none⟩)) rfl rfl rfl (by kernel_rfl) (by kernel_rfl) (by kernel_rfl) (fun _ _ _ h => h) (Or.inl ⟨by kernel_rfl, fun w' h => ?_⟩) (fun _ => rfl) hHeld ?_
                · go_simp
                try simp only [List.setIfInBounds_toArray, List.set_cons_zero, List.set_cons_succ]
                refine takeN (i := 4) 44 (.pointer (some ⟨b2, 0, none⟩)) rfl rfl rfl (by kernel_rfl) (by kernel_rfl) (by kernel_rfl) (fun _ _ _ h => h) (Or.inl ⟨by kernel_rfl, fun w' h => ?_⟩) (fun _ => rfl) hHeld ?_
                · go_simp
                try simp only [List.setIfInBounds_toArray, List.set_cons_zero, List.set_cons_succ]
                refine takeN (i := 5) 45 (.pointer (some ⟨b2, 0, none⟩)) rfl rfl rfl (by kernel_rfl) (by kernel_rfl) (by kernel_rfl) (fun _ _ _ h => h) (Or.inl ⟨by kernel_rfl, fun w' h => ?_⟩) (fun _ => rfl) hHeld ?_
                · go_simp
                try simp only [List.setIfInBounds_toArray, List.set_cons_zero, List.set_cons_succ]
                refine takeN (i := 6) 46 (.pointer (some ⟨b2, 3, none⟩)) rfl rfl rfl (by kernel_rfl) (by kernel_rfl) (by kernel_rfl) (fun _ _ _ h => h) (Or.inl ⟨by kernel_rfl, fun w' h => ?_⟩) (fun _ => rfl) hHeld ?_
                · go_simp
                try simp only [List.setIfInBounds_toArray, List.set_cons_zero, List.set_cons_succ]
                refine takeN (i := 7) 47 (.int .i64 x.B) rfl rfl rfl (by kernel_rfl) (by kernel_rfl) (by kernel_rfl) (fun _ _ _ h => h) (Or.inl ⟨by kernel_rfl, fun w' h => ?_⟩) (fun _ => rfl) hHeld ?_
                · have y0 := Nm.c3 h.1
                  go_simp
                try simp only [List.setIfInBounds_toArray, List.set_cons_zero, List.set_cons_succ]
                refine takeN (i := 9) 49 (.pointer (some ⟨b2, 0, none⟩)) rfl rfl rfl (by kernel_rfl) (by kernel_rfl) (by kernel_rfl) (fun _ _ _ h => h) (Or.inl ⟨by kernel_rfl, fun w' h => ?_⟩) (fun _ => rfl) hHeld ?_
                · go_simp
                try simp only [List.setIfInBounds_toArray, List.set_cons_zero, List.set_cons_succ]
                refine takeN (i := 10) 50 (.pointer (some ⟨b2, 5, none⟩)) rfl rfl rfl (by kernel_rfl) (by kernel_rfl) (by kernel_rfl) (fun _ _ _ h => h) (Or.inl ⟨by kernel_rfl, fun w' h => ?_⟩) (fun _ => rfl) hHeld ?_
                · go_simp
                try simp only [List.setIfInBounds_toArray, List.set_cons_zero, List.set_cons_succ]
                refine nextN (i := 8) (by kernel_rfl) rfl (fun K hK => ?_)
                rw [if_pos (by kernel_rfl)]
                gi_wp2_with (refine ⟨trivial, ?_⟩; gi_at_call 54; refine (callsIn_wide.2 (kb _)).mono ?_; rintro e wb ⟨rfl, g2⟩)
                replace HP := hid (HP.out.kept g2)
                replace HND := hid (HND.out.kept g2)
                replace HJ3 := hid (HJ.out _ _ wb HJ3.out g2)
                replace m0 := m0.kept g2
                replace mp := mp.kept g2
                clear g2 kb
                refine hK.out _ _ ⟨m0, mp⟩ (fun hHeld => ?_)
                clear hK K
                try simp only [Act.put, List.setIfInBounds_toArray, List.set_cons_zero, List.set_cons_succ]
                refine takeN (i := 11) 51 (.pointer (some ⟨b2, 5, none⟩)) rfl rfl rfl (by kernel_rfl) (by kernel_rfl) (by kernel_rfl) (fun _ _ _ h => h) (Or.inl ⟨by kernel_rfl, fun w' h => ?_⟩) (fun _ => rfl) hHeld ?_
                · go_simp
                try simp only [List.setIfInBounds_toArray, List.set_cons_zero, List.set_cons_succ]
                refine takeN (i := 12) 52 (.pointer vl) rfl rfl rfl (by kernel_rfl) (by kernel_rfl) (by kernel_rfl) (fun _ _ _ h => h) (Or.inl ⟨by kernel_rfl, fun w' h => ?_⟩) (fun _ => rfl) hHeld ?_
                · have y0 := Nm.c5 h.1
                  go_simp
                try simp only [List.setIfInBounds_toArray, List.set_cons_zero, List.set_cons_succ]
                refine takeN (i := 13) 4 (.pointer vl) rfl rfl rfl (by kernel_rfl) (by kernel_rfl) (by kernel_rfl) (fun _ _ _ h => h) (Or.inl ⟨by kernel_rfl, fun w' h => ?_⟩) (fun _ => rfl) hHeld ?_
                · go_simp
                try simp only [List.setIfInBounds_toArray, List.set_cons_zero, List.set_cons_succ]
                refine doneN (by kernel_rfl) ?_ _
                clear hHeld
                gi_wp2
                go_roundw
                case rel =>
                  exact ⟨_, l, HVL.out.symm, HX2.out, HWF.out.2.2.2.1, fun z hz => HSB.out z (List.mem_cons_of_mem _ (List.mem_append_left _ hz)), HND.out.2.1, HP.out, HJ3.out⟩
                case measure =>
                  show msn (.pointer vl) wb < msn (.pointer (some ⟨b2, 0, none⟩)) wr
                  rw [HM.out, ← HVL.out]
                  exact msn_kid HND.out.2.1 (fun z hz => (HWF.out.2.1 z hz).1) (by omega)
              · rw [hi] at kb
                rw [if_neg (by omega)] at HX2
                gi_wp2
                refine regionN (S := fun wx => Nm wx b2 x (.pointer vl) (.pointer vr) ∧ Pm wx bp q.F q.H q.L q.B) hmx ⟨m0.drew, mp.drew⟩ (fun hHeld => ?_)
                replace HP := hid (HP.out.kept (W' := W3.drew) ⟨rfl, rfl, rfl, Nat.le_refl _, fun _ _ => rfl⟩)
                replace HND := hid (Nd.kept (w := W3) (w' := W3.drew) ⟨rfl, rfl, rfl, Nat.le_refl _, fun _ _ => rfl⟩ HND.out)
                replace HJ3 := hid (HJ.out _ W3 W3.drew HJ3.out ⟨rfl, rfl, rfl, Nat.le_refl _, fun _ _ => rfl⟩)
                replace m0 := m0.drew
                replace mp := mp.drew
                refine takeN (i := 0) 40 (.pointer (some ⟨b2, 0, none⟩)) rfl rfl rfl (by kernel_rfl) (by kernel_rfl) (by kernel_rfl) (fun _ _ _ h => h) (Or.inl ⟨by kernel_rfl, fun w' h => ?_⟩) (fun _ => rfl) hHeld ?_
                · go_simp
                try simp only [List.setIfInBounds_toArray, List.set_cons_zero, List.set_cons_succ]
                refine takeN (i := 1) 41 (.pointer (some ⟨bp, 0, none⟩)) rfl rfl rfl (by kernel_rfl) (by kernel_rfl) (by kernel_rfl) (fun _ _ _ h => h) (Or.inl ⟨by kernel_rfl, fun w' h => ?_⟩) (fun _ => rfl) hHeld ?_
                · go_simp
                try simp only [List.setIfInBounds_toArray, List.set_cons_zero, List.set_cons_succ]
                refine takeN (i := 2) 42 (.agg #[.int .i64 q.F, .int .u64 q.H, .int .u64 q.L]) rfl rfl rfl (by kernel_rfl) (by kernel_rfl) (by kernel_rfl) (fun _ _ _ h => h) (Or.inl ⟨by kernel_rfl, fun w' h => ?_⟩) (fun _ => rfl) hHeld ?_
                · have y0 := Pm.c0 h.2; have y1 := Pm.c1 h.2; have y2 := Pm.c2 h.2
                  go_simp
                try simp only [List.setIfInBounds_toArray, List.set_cons_zero, List.set_cons_succ]
                refine takeN (i := 3) 43 (.pointer (some ⟨b2, 0, none⟩)) rfl rfl rfl (by kernel_rfl) (by kernel_rfl) (by kernel_rfl) (fun _ _ _ h => h) (Or.inl ⟨by kernel_rfl, fun w' h => ?_⟩) (fun _ => rfl) hHeld ?_
                · go_simp
                try simp only [List.setIfInBounds_toArray, List.set_cons_zero, List.set_cons_succ]
                refine takeN (i := 4) 44 (.pointer (some ⟨b2, 0, none⟩)) rfl rfl rfl (by kernel_rfl) (by kernel_rfl) (by kernel_rfl) (fun _ _ _ h => h) (Or.inl ⟨by kernel_rfl, fun w' h => ?_⟩) (fun _ => rfl) hHeld ?_
                · go_simp
                try simp only [List.setIfInBounds_toArray, List.set_cons_zero, List.set_cons_succ]
                refine takeN (i := 5) 45 (.pointer (some ⟨b2, 0, none⟩)) rfl rfl rfl (by kernel_rfl) (by kernel_rfl) (by kernel_rfl) (fun _ _ _ h => h) (Or.inl ⟨by kernel_rfl, fun w' h => ?_⟩) (fun _ => rfl) hHeld ?_
                · go_simp
                try simp only [List.setIfInBounds_toArray, List.set_cons_zero, List.set_cons_succ]
                refine takeN (i := 6) 46 (.pointer (some ⟨b2, 3, none⟩)) rfl rfl rfl (by kernel_rfl) (by kernel_rfl) (by kernel_rfl) (fun _ _ _ h => h) (Or.inl ⟨by kernel_rfl, fun w' h => ?_⟩) (fun _ => rfl) hHeld ?_
                · go_simp
                try simp only [List.setIfInBounds_toArray, List.set_cons_zero, List.set_cons_succ]
                refine takeN (i := 7) 47 (.int .i64 x.B) rfl rfl rfl (by kernel_rfl) (by kernel_rfl) (by kernel_rfl) (fun _ _ _ h => h) (Or.inl ⟨by kernel_rfl, fun w' h => ?_⟩) (fun _ => rfl) hHeld ?_
                · have y0 := Nm.c3 h.1
                  go_simp
                try simp only [List.setIfInBounds_toArray, List.set_cons_zero, List.set_cons_succ]
                refine takeN (i := 9) 49 (.pointer (some ⟨b2, 0, none⟩)) rfl rfl rfl (by kernel_rfl) (by kernel_rfl) (by kernel_rfl) (fun _ _ _ h => h) (Or.inl ⟨by kernel_rfl, fun w' h => ?_⟩) (fun _ => rfl) hHeld ?_
                · go_simp
                try simp only [List.setIfInBounds_toArray, List.set_cons_zero, List.set_cons_succ]
                refine takeN (i := 10) 50 (.pointer (some ⟨b2, 5, none⟩)) rfl rfl rfl (by kernel_rfl) (by kernel_rfl) (by kernel_rfl) (fun _ _ _ h => h) (Or.inl ⟨by kernel_rfl, fun w' h => ?_⟩) (fun _ => rfl) hHeld ?_
                · go_simp
                try simp only [List.setIfInBounds_toArray, List.set_cons_zero, List.set_cons_succ]
                refine nextN (i := 8) (by kernel_rfl) rfl (fun K hK => ?_)
                rw [if_pos (by kernel_rfl)]
                gi_wp2_with (refine ⟨trivial, ?_⟩; gi_at_call 54; refine (callsIn_wide.2 (kb _)).mono ?_; rintro e wb ⟨rfl, g2⟩)
                replace HP := hid (HP.out.kept g2)
                replace HND := hid (HND.out.kept g2)
                replace HJ3 := hid (HJ.out _ _ wb HJ3.out g2)
                replace m0 := m0.kept g2
                replace mp := mp.kept g2
                clear g2 kb
                refine hK.out _ _ ⟨m0, mp⟩ (fun hHeld => ?_)
                clear hK K
                try simp only [Act.put, List.setIfInBounds_toArray, List.set_cons_zero, List.set_cons_succ]
                refine takeN (i := 11) 51 (.pointer (some ⟨b2, 6, none⟩)) rfl rfl rfl (by kernel_rfl) (by kernel_rfl) (by kernel_rfl) (fun _ _ _ h => h) (Or.inl ⟨by kernel_rfl, fun w' h => ?_⟩) (fun _ => rfl) hHeld ?_
                · go_simp
                try simp only [List.setIfInBounds_toArray, List.set_cons_zero, List.set_cons_succ]
                refine takeN (i := 12) 52 (.pointer vr) rfl rfl rfl (by kernel_rfl) (by kernel_rfl) (by kernel_rfl) (fun _ _ _ h => h) (Or.inl ⟨by kernel_rfl, fun w' h => ?_⟩) (fun _ => rfl) hHeld ?_
                · have y0 := Nm.c6 h.1
                  go_simp
                try simp only [List.setIfInBounds_toArray, List.set_cons_zero, List.set_cons_succ]
                refine takeN (i := 13) 4 (.pointer vr) rfl rfl rfl (by kernel_rfl) (by kernel_rfl) (by kernel_rfl) (fun _ _ _ h => h) (Or.inl ⟨by kernel_rfl, fun w' h => ?_⟩) (fun _ => rfl) hHeld ?_
                · go_simp
                try simp only [List.setIfInBounds_toArray, List.set_cons_zero, List.set_cons_succ]
                refine doneN (by kernel_rfl) ?_ _
                clear hHeld
                gi_wp2
                go_roundw
                case rel =>
                  exact ⟨_, r, HVR.out.symm, HX2.out, HWF.out.2.2.2.2, fun z hz => HSB.out z (List.mem_cons_of_mem _ (List.mem_append_right _ hz)), HND.out.2.2, HP.out, HJ3.out⟩
                case measure =>
                  show msn (.pointer vr) wb < msn (.pointer (some ⟨b2, 0, none⟩)) wr
                  rw [HM.out, ← HVR.out]
                  exact msn_kid HND.out.2.2 (fun z hz => (HWF.out.2.2.1 z hz).1) (by omega)
            · have hltd : decide (x.B < q.B) = false := decide_eq_false hlt
              have HX2 : Hid (xs = pre ++ [⟨(b2, x), HMEM.out⟩]) := by
                show _ = _
                refine (List.map_inj_right (fun _ _ h => Subtype.ext h)).1 ?_
                rw [HXS.out, if_neg hlt, List.map_append]
                rfl
              refine takeN (i := 24) 38 (.bool false) rfl rfl rfl (by kernel_rfl) (by kernel_rfl) (by kernel_rfl) (fun _ _ _ h => h) (Or.inl ⟨by kernel_rfl, fun w' h => ?_⟩) (fun _ => rfl) hHeld ?_
              · go_simp
              try simp only [List.setIfInBounds_toArray, List.set_cons_zero, List.set_cons_succ]
              refine takeN (i := 25) 39 (.bool false) rfl rfl rfl (by kernel_rfl) (by kernel_rfl) (by kernel_rfl) (fun _ _ _ h => h) (Or.inl ⟨by kernel_rfl, fun w' h => ?_⟩) (fun _ => rfl) hHeld ?_
              · go_simp
              try simp only [List.setIfInBounds_toArray, List.set_cons_zero, List.set_cons_succ]
              refine doneN (by kernel_rfl) ?_ _
              gi_wp2
              go_end0
              first
                | exact ⟨⟨_, rfl⟩, .inl ⟨_, HX2.out.symm, HJ3.out⟩⟩
                | exact ⟨⟨_, rfl⟩, .inl (by rw [HX2.out]; exact HJ3.out)⟩
          · clear hy' hR
            have HJX := hid hJx3
            clear hJx3
            refine hK.out _ _ trivial (fun hHeld => ?_)
            clear hK K
            have HX2 : Hid (pre ++ [⟨(b2, x), HMEM.out⟩] <+: xs) := by
              show _ <+: _
              refine pre_map (f := fun z : Zn (tF q.F t4 t6) => z.1) (fun _ _ h => Subtype.ext h) (r := (if x.B < q.B then (if bi (nb q.F) q.A x.B.toNat = 0 then pth (nb q.F) q.A q.B l else pth (nb q.F) q.A q.B r) else [])) ?_
              rw [HXS.out, List.map_append, List.append_assoc]
              rfl
            try simp only [Act.put, List.setIfInBounds_toArray, List.set_cons_zero, List.set_cons_succ]
            refine takeN (i := 15) 29 (.bool false) rfl rfl rfl (by kernel_rfl) (by kernel_rfl) (by kernel_rfl) (fun _ _ _ h => h) (Or.inl ⟨by kernel_rfl, fun w' h => ?_⟩) (fun _ => rfl) hHeld ?_
            · go_simp
            try simp only [List.setIfInBounds_toArray, List.set_cons_zero, List.set_cons_succ]
            refine takeN (i := 16) 30 (.bool false) rfl rfl rfl (by kernel_rfl) (by kernel_rfl) (by kernel_rfl) (fun _ _ _ h => h) (Or.inl ⟨by kernel_rfl, fun w' h => ?_⟩) (fun _ => rfl) hHeld ?_
            · go_simp
            try simp only [List.setIfInBounds_toArray, List.set_cons_zero, List.set_cons_succ]
            refine takeN (i := 17) 31 (undef) rfl rfl rfl (by kernel_rfl) (by kernel_rfl) (by kernel_rfl) (fun _ _ _ h => h) (Or.inr ⟨by kernel_rfl, rfl⟩) (fun _ => rfl) hHeld ?_
            try simp only [List.setIfInBounds_toArray, List.set_cons_zero, List.set_cons_succ]
            refine takeN (i := 18) 32 (undef) rfl rfl rfl (by kernel_rfl) (by kernel_rfl) (by kernel_rfl) (fun _ _ _ h => h) (Or.inr ⟨by kernel_rfl, rfl⟩) (fun _ => rfl) hHeld ?_
            try simp only [List.setIfInBounds_toArray, List.set_cons_zero, List.set_cons_succ]
            refine takeN (i := 19) 33 (undef) rfl rfl rfl (by kernel_rfl) (by kernel_rfl) (by kernel_rfl) (fun _ _ _ h => h) (Or.inr ⟨by kernel_rfl, rfl⟩) (fun _ => rfl) hHeld ?_
            try simp only [List.setIfInBounds_toArray, List.set_cons_zero, List.set_cons_succ]
            refine takeN (i := 20) 34 (undef) rfl rfl rfl (by kernel_rfl) (by kernel_rfl) (by kernel_rfl) (fun _ _ _ h => h) (Or.inr ⟨by kernel_rfl, rfl⟩) (fun _ => rfl) hHeld ?_
            try simp only [List.setIfInBounds_toArray, List.set_cons_zero, List.set_cons_succ]
            refine takeN (i := 21) 35 (undef) rfl rfl rfl (by kernel_rfl) (by kernel_rfl) (by kernel_rfl) (fun _ _ _ h => h) (Or.inr ⟨by kernel_rfl, rfl⟩) (fun _ => rfl) hHeld ?_
            try simp only [List.setIfInBounds_toArray, List.set_cons_zero, List.set_cons_succ]
            refine takeN (i := 22) 36 (undef) rfl rfl rfl (by kernel_rfl) (by kernel_rfl) (by kernel_rfl) (fun _ _ _ h => h) (Or.inr ⟨by kernel_rfl, rfl⟩) (fun _ => rfl) hHeld ?_
            try simp only [List.setIfInBounds_toArray, List.set_cons_zero, List.set_cons_succ]
            refine takeN (i := 23) 37 (undef) rfl rfl rfl (by kernel_rfl) (by kernel_rfl) (by kernel_rfl) (fun _ _ _ h => h) (Or.inr ⟨by kernel_rfl, rfl⟩) (fun _ => rfl) hHeld ?_
            try simp only [List.setIfInBounds_toArray, List.set_cons_zero, List.set_cons_succ]
            refine takeN (i := 24) 38 (undef) rfl rfl rfl (by kernel_rfl) (by kernel_rfl) (by kernel_rfl) (fun _ _ _ h => h) (Or.inr ⟨by kernel_rfl, rfl⟩) (fun _ => rfl) hHeld ?_
            try simp only [List.setIfInBounds_toArray, List.set_cons_zero, List.set_cons_succ]
            refine takeN (i := 25) 39 (.bool false) rfl rfl rfl (by kernel_rfl) (by kernel_rfl) (by kernel_rfl) (fun _ _ _ h => h) (Or.inl ⟨by kernel_rfl, fun w' h => ?_⟩) (fun _ => rfl) hHeld ?_
            · go_simp
            try simp only [List.setIfInBounds_toArray, List.set_cons_zero, List.set_cons_succ]
            refine doneN (by kernel_rfl) ?_ _
            gi_wp2
            go_end0
            exact ⟨⟨_, rfl⟩, .inr ⟨_, HX2.out, HJX.out⟩⟩
        · rw [HHO.out, decide_eq_false hh] at kh
          rw [if_neg hh, List.append_nil] at hxs
          have HXS : Hid (xs = pre) := (List.map_inj_right (fun _ _ h => Subtype.ext h)).1 hxs
          clear hxs hh HHO
          gi_wp2
          refine regionN (S := fun _ => True) hmx trivial (fun hHeld => ?_)
          replace HP := hid (HP.out.kept (W' := wr.drew) ⟨rfl, rfl, rfl, Nat.le_refl _, fun _ _ => rfl⟩)
          replace HND := hid (Nd.kept (w := wr) (w' := wr.drew) ⟨rfl, rfl, rfl, Nat.le_refl _, fun _ _ => rfl⟩ HND.out)
          replace HJS := hid (HJ.out pre wr wr.drew HJS.out ⟨rfl, rfl, rfl, Nat.le_refl _, fun _ _ => rfl⟩)
          replace m0 := m0.drew
          replace mp := mp.drew
          refine takeN (i := 0) 14 (.pointer (some ⟨b2, 0, none⟩)) rfl rfl rfl (by kernel_rfl) (by kernel_rfl) (by kernel_rfl) (fun _ _ _ h => h) (Or.inl ⟨by kernel_rfl, fun w' h => ?_⟩) (fun _ => rfl) hHeld ?_
          · go_simp
          try simp only [List.setIfInBounds_toArray, List.set_cons_zero, List.set_cons_succ]
          refine takeN (i := 1) 15 (.bool true) rfl rfl rfl (by kernel_rfl) (by kernel_rfl) (by kernel_rfl) (fun _ _ _ h => h) (Or.inl ⟨by kernel_rfl, fun w' h => ?_⟩) (fun _ => rfl) hHeld ?_
          · go_simp
          try simp only [List.setIfInBounds_toArray, List.set_cons_zero, List.set_cons_succ]
          refine takeN (i := 2) 16 (.bool true) rfl rfl rfl (by kernel_rfl) (by kernel_rfl) (by kernel_rfl) (fun _ _ _ h => h) (Or.inl ⟨by kernel_rfl, fun w' h => ?_⟩) (fun _ => rfl) hHeld ?_
          · go_simp
          try simp only [List.setIfInBounds_toArray, List.set_cons_zero, List.set_cons_succ]
          refine takeN (i := 3) 17 (.pointer (some ⟨b2, 0, none⟩)) rfl rfl rfl (by kernel_rfl) (by kernel_rfl) (by kernel_rfl) (fun _ _ _ h => h) (Or.inl ⟨by kernel_rfl, fun w' h => ?_⟩) (fun _ => rfl) hHeld ?_
          · go_simp
          try simp only [List.setIfInBounds_toArray, List.set_cons_zero, List.set_cons_succ]
          refine takeN (i := 4) 18 (.pointer (some ⟨b2, 0, none⟩)) rfl rfl rfl (by kernel_rfl) (by kernel_rfl) (by kernel_rfl) (fun _ _ _ h => h) (Or.inl ⟨by kernel_rfl, fun w' h => ?_⟩) (fun _ => rfl) hHeld ?_
          · go_simp
          try simp only [List.setIfInBounds_toArray, List.set_cons_zero, List.set_cons_succ]
          refine takeN (i := 5) 19 (.pointer (some ⟨b2, 0, none⟩)) rfl rfl rfl (by kernel_rfl) (by kernel_rfl) (by kernel_rfl) (fun _ _ _ h => h) (Or.inl ⟨by kernel_rfl, fun w' h => ?_⟩) (fun _ => rfl) hHeld ?_
          · go_simp
          try simp only [List.setIfInBounds_toArray, List.set_cons_zero, List.set_cons_succ]
          refine takeN (i := 7) 21 (.pointer (some ⟨bp, 0, none⟩)) rfl rfl rfl (by kernel_rfl) (by kernel_rfl) (by kernel_rfl) (fun _ _ _ h => h) (Or.inl ⟨by kernel_rfl, fun w' h => ?_⟩) (fun _ => rfl) hHeld ?_
          · go_simp
          try simp only [List.setIfInBounds_toArray, List.set_cons_zero, List.set_cons_succ]
          refine readsN (i := 6) (j := 8) 20 22 (.agg #[.int .i64 x.F, .int .u64 x.H, .int .u64 x.L, .int .i64 x.B]) (.agg #[.int .i64 q.F, .int .u64 q.H, .int .u64 q.L]) rfl rfl rfl rfl rfl (by decide) (by decide) (by kernel_rfl) (by kernel_rfl) (by kernel_rfl) (Or.inl ⟨by kernel_rfl, fun w' h => ?_⟩) (Or.inl ⟨by kernel_rfl, fun w' h => ?_⟩) (Or.inl ⟨by kernel_rfl, fun w' h => ?_⟩) (Or.inl ⟨by kernel_rfl, fun w' h => ?_⟩) (fun _ _ => rfl) (fun _ _ => rfl) hHeld ?_
          · rw [h]
            go_simp
          · rw [h]
            go_simp
          · rw [h]
            go_simp
          · rw [h]
            go_simp
          try simp only [List.setIfInBounds_toArray, List.set_cons_zero, List.set_cons_succ]
          refine nextN (i := 9) (by kernel_rfl) rfl (fun K hK => ?_)
          rw [if_pos (by kernel_rfl)]
          gi_wp2_with (refine ⟨trivial, ?_⟩; gi_at_call 53; refine (callsIn_wide.2 (kh _)).mono ?_; rintro e wa ⟨rfl, g2⟩)
          replace HP := hid (HP.out.kept g2)
          replace HND := hid (HND.out.kept g2)
          replace HJS := hid (HJ.out pre _ wa HJS.out g2)
          replace m0 := m0.kept g2
          replace mp := mp.kept g2
          clear g2 x0 x1 x2 x3 f0 f1 f2 kh
          refine hK.out _ _ trivial (fun hHeld => ?_)
          clear hK K
          try simp only [Act.put, List.setIfInBounds_toArray, List.set_cons_zero, List.set_cons_succ]
          refine takeN (i := 10) 24 (.bool false) rfl rfl rfl (by kernel_rfl) (by kernel_rfl) (by kernel_rfl) (fun _ _ _ h => h) (Or.inl ⟨by kernel_rfl, fun w' h => ?_⟩) (fun _ => rfl) hHeld ?_
          · go_simp
          try simp only [List.setIfInBounds_toArray, List.set_cons_zero, List.set_cons_succ]
          refine takeN (i := 11) 25 (.bool false) rfl rfl rfl (by kernel_rfl) (by kernel_rfl) (by kernel_rfl) (fun _ _ _ h => h) (Or.inl ⟨by kernel_rfl, fun w' h => ?_⟩) (fun _ => rfl) hHeld ?_
          · go_simp
          try simp only [List.setIfInBounds_toArray, List.set_cons_zero, List.set_cons_succ]
          refine takeN (i := 12) 26 (undef) rfl rfl rfl (by kernel_rfl) (by kernel_rfl) (by kernel_rfl) (fun _ _ _ h => h) (Or.inr ⟨by kernel_rfl, rfl⟩) (fun _ => rfl) hHeld ?_
          try simp only [List.setIfInBounds_toArray, List.set_cons_zero, List.set_cons_succ]
          refine takeN (i := 13) 27 (undef) rfl rfl rfl (by kernel_rfl) (by kernel_rfl) (by kernel_rfl) (fun _ _ _ h => h) (Or.inr ⟨by kernel_rfl, rfl⟩) (fun _ => rfl) hHeld ?_
          try simp only [List.setIfInBounds_toArray, List.set_cons_zero, List.set_cons_succ]
          refine skipN (i := 14) 28 (by kernel_rfl) rfl rfl (by kernel_rfl) (fun _ => trivial) trivial ?_
          try simp only [List.setIfInBounds_toArray, List.set_cons_zero, List.set_cons_succ]
          refine takeN (i := 15) 29 (.bool false) rfl rfl rfl (by kernel_rfl) (by kernel_rfl) (by kernel_rfl) (fun _ _ _ h => h) (Or.inl ⟨by kernel_rfl, fun w' h => ?_⟩) (fun _ => rfl) hHeld ?_
          · go_simp
          try simp only [List.setIfInBounds_toArray, List.set_cons_zero, List.set_cons_succ]
          refine takeN (i := 16) 30 (.bool false) rfl rfl rfl (by kernel_rfl) (by kernel_rfl) (by kernel_rfl) (fun _ _ _ h => h) (Or.inl ⟨by kernel_rfl, fun w' h => ?_⟩) (fun _ => rfl) hHeld ?_
          · go_simp
          try simp only [List.setIfInBounds_toArray, List.set_cons_zero, List.set_cons_succ]
          refine takeN (i := 17) 31 (undef) rfl rfl rfl (by kernel_rfl) (by kernel_rfl) (by kernel_rfl) (fun _ _ _ h => h) (Or.inr ⟨by kernel_rfl, rfl⟩) (fun _ => rfl) hHeld ?_
          try simp only [List.setIfInBounds_toArray, List.set_cons_zero, List.set_cons_succ]
          refine takeN (i := 18) 32 (undef) rfl rfl rfl (by kernel_rfl) (by kernel_rfl) (by kernel_rfl) (fun _ _ _ h => h) (Or.inr ⟨by kernel_rfl, rfl⟩) (fun _ => rfl) hHeld ?_
          try simp only [List.setIfInBounds_toArray, List.set_cons_zero, List.set_cons_succ]
          refine takeN (i := 19) 33 (undef) rfl rfl rfl (by kernel_rfl) (by kernel_rfl) (by kernel_rfl) (fun _ _ _ h => h) (Or.inr ⟨by kernel_rfl, rfl⟩) (fun _ => rfl) hHeld ?_
          try simp only [List.setIfInBounds_toArray, List.set_cons_zero, List.set_cons_succ]
          refine takeN (i := 20) 34 (undef) rfl rfl rfl (by kernel_rfl) (by kernel_rfl) (by kernel_rfl) (fun _ _ _ h => h) (Or.inr ⟨by kernel_rfl, rfl⟩) (fun _ => rfl) hHeld ?_
          try simp only [List.setIfInBounds_toArray, List.set_cons_zero, List.set_cons_succ]
          refine takeN (i := 21) 35 (undef) rfl rfl rfl (by kernel_rfl) (by kernel_rfl) (by kernel_rfl) (fun _ _ _ h => h) (Or.inr ⟨by kernel_rfl, rfl⟩) (fun _ => rfl) hHeld ?_
          try simp only [List.setIfInBounds_toArray, List.set_cons_zero, List.set_cons_succ]
          refine takeN (i := 22) 36 (undef) rfl rfl rfl (by kernel_rfl) (by kernel_rfl) (by kernel_rfl) (fun _ _ _ h => h) (Or.inr ⟨by kernel_rfl, rfl⟩) (fun _ => rfl) hHeld ?_
          try simp only [List.setIfInBounds_toArray, List.set_cons_zero, List.set_cons_succ]
          refine takeN (i := 23) 37 (undef) rfl rfl rfl (by kernel_rfl) (by kernel_rfl) (by kernel_rfl) (fun _ _ _ h => h) (Or.inr ⟨by kernel_rfl, rfl⟩) (fun _ => rfl) hHeld ?_
          try simp only [List.setIfInBounds_toArray, List.set_cons_zero, List.set_cons_succ]
          refine takeN (i := 24) 38 (undef) rfl rfl rfl (by kernel_rfl) (by kernel_rfl) (by kernel_rfl) (fun _ _ _ h => h) (Or.inr ⟨by kernel_rfl, rfl⟩) (fun _ => rfl) hHeld ?_
          try simp only [List.setIfInBounds_toArray, List.set_cons_zero, List.set_cons_succ]
          refine takeN (i := 25) 39 (.bool false) rfl rfl rfl (by kernel_rfl) (by kernel_rfl) (by kernel_rfl) (fun _ _ _ h => h) (Or.inl ⟨by kernel_rfl, fun w' h => ?_⟩) (fun _ => rfl) hHeld ?_
          · go_simp
          try simp only [List.setIfInBounds_toArray, List.set_cons_zero, List.set_cons_succ]
          refine doneN (by kernel_rfl) ?_ _
          gi_wp2
          go_end0
          exact ⟨⟨_, rfl⟩, .inl ⟨pre, HXS.out.symm, HJS.out⟩⟩
  · have HV : Hid ((tF q.F t4 t6).v = .pointer p6) := by
      show _ = _
      unfold tF
      rw [if_neg hF]
      exact hp6
    clear hp4 hp6
    rw [if_neg hF] at kp
    gi_wp2
    refine regionN (S := fun wx => ∃ n, wx = W.drewN n) hmx ⟨1, rfl⟩ (fun hHeld => ?_)
    refine takeN (i := 0) 5 (.pointer (some ⟨k, 0, none⟩)) rfl rfl rfl (by kernel_rfl) (by kernel_rfl) (by kernel_rfl) (fun _ _ _ h => h) (Or.inl ⟨by kernel_rfl, fun w' h => ?_⟩) (fun _ => rfl) hHeld ?_
    · obtain ⟨nq, rfl⟩ := h
      go_simp
    try simp only [List.setIfInBounds_toArray, List.set_cons_zero, List.set_cons_succ]
    refine takeN (i := 1) 6 (.pointer (some ⟨bp, 0, none⟩)) rfl rfl rfl (by kernel_rfl) (by kernel_rfl) (by kernel_rfl) (fun _ _ _ h => h) (Or.inl ⟨by kernel_rfl, fun w' h => ?_⟩) (fun _ => rfl) hHeld ?_
    · go_simp
    try simp only [List.setIfInBounds_toArray, List.set_cons_zero, List.set_cons_succ]
    refine takeN (i := 2) 7 (.pointer (some ⟨bp, 0, none⟩)) rfl rfl rfl (by kernel_rfl) (by kernel_rfl) (by kernel_rfl) (fun _ _ _ h => h) (Or.inl ⟨by kernel_rfl, fun w' h => ?_⟩) (fun _ => rfl) hHeld ?_
    · go_simp
    try simp only [List.setIfInBounds_toArray, List.set_cons_zero, List.set_cons_succ]
    refine takeN (i := 3) 8 (.int .i64 q.F) rfl rfl rfl (by kernel_rfl) (by kernel_rfl) (by kernel_rfl) (fun _ _ _ h => h) (Or.inl ⟨by kernel_rfl, fun w' h => ?_⟩) (fun _ => rfl) hHeld ?_
    · obtain ⟨nq, rfl⟩ := h
      go_simp
    try simp only [List.setIfInBounds_toArray, List.set_cons_zero, List.set_cons_succ]
    refine takeN (i := 5) 10 (.pointer (some ⟨k, 0, none⟩)) rfl rfl rfl (by kernel_rfl) (by kernel_rfl) (by kernel_rfl) (fun _ _ _ h => h) (Or.inl ⟨by kernel_rfl, fun w' h => ?_⟩) (fun _ => rfl) hHeld ?_
    · go_simp
    try simp only [List.setIfInBounds_toArray, List.set_cons_zero, List.set_cons_succ]
    refine takeN (i := 6) 11 (.pointer (some ⟨k, 0, none⟩)) rfl rfl rfl (by kernel_rfl) (by kernel_rfl) (by kernel_rfl) (fun _ _ _ h => h) (Or.inl ⟨by kernel_rfl, fun w' h => ?_⟩) (fun _ => rfl) hHeld ?_
    · go_simp
    try simp only [List.setIfInBounds_toArray, List.set_cons_zero, List.set_cons_succ]
    refine nextN (i := 4) (by kernel_rfl) rfl (fun K hK => ?_)
    rw [if_pos (by kernel_rfl)]
    gi_wp2_with (refine ⟨trivial, ?_⟩; gi_at_call 42; refine (callsIn_wide.2 (kp _)).mono ?_; rintro e w' ⟨rfl, rfl⟩)
    refine hK.out _ _ hHeld (fun hHeld => ?_)
    clear hK K
    try simp only [Act.put, List.setIfInBounds_toArray, List.set_cons_zero, List.set_cons_succ]
    refine takeN (i := 7) 12 (.pointer (some ⟨k, 1, none⟩)) rfl rfl rfl (by kernel_rfl) (by kernel_rfl) (by kernel_rfl) (fun _ _ _ h => h) (Or.inl ⟨by kernel_rfl, fun w' h => ?_⟩) (fun _ => rfl) hHeld ?_
    · go_simp
    try simp only [List.setIfInBounds_toArray, List.set_cons_zero, List.set_cons_succ]
    refine takeN (i := 8) 13 (.pointer p6) rfl rfl rfl (by kernel_rfl) (by kernel_rfl) (by kernel_rfl) (fun _ _ _ h => h) (Or.inl ⟨by kernel_rfl, fun w' h => ?_⟩) (fun _ => rfl) hHeld ?_
    · obtain ⟨nq, rfl⟩ := h
      go_simp
    try simp only [List.setIfInBounds_toArray, List.set_cons_zero, List.set_cons_succ]
    refine takeN (i := 9) 4 (.pointer p6) rfl rfl rfl (by kernel_rfl) (by kernel_rfl) (by kernel_rfl) (fun _ _ _ h => h) (Or.inl ⟨by kernel_rfl, fun w' h => ?_⟩) (fun _ => rfl) hHeld ?_
    · go_simp
    try simp only [List.setIfInBounds_toArray, List.set_cons_zero, List.set_cons_succ]
    refine doneN (by kernel_rfl) ?_ _
    clear hHeld
    have HP0 : Hid (Pst n0 a b bt bp k q t4 t6 (tF q.F t4 t6) W.drew) := HP.out.kept ⟨rfl, rfl, rfl, Nat.le_refl _, fun _ _ => rfl⟩
    have h00 : J [] W.drew := HJ.out [] W _ h0 ⟨rfl, rfl, rfl, Nat.le_refl _, fun _ _ => rfl⟩
    generalize W.drew = w0 at *
    clear h0 HP ct c0 k0 k1 kp hF
    gi_wp2
    gi_loopw [4] (fun v wr => ∃ (pre : List (Zn (tF q.F t4 t6))) (t' : Tn), v = t'.v ∧ xs.map (·.1) = pre.map (·.1) ++ pth (nb q.F) q.A q.B t' ∧ Wf q.F t' ∧ (∀ z ∈ t'.nds, z ∈ (tF q.F t4 t6).nds) ∧ Nd wr t' ∧ Pst n0 a b bt bp k q t4 t6 (tF q.F t4 t6) wr ∧ J pre wr) (fun v wr => msn v wr)
    case atStart =>
      exact ⟨[], (tF q.F t4 t6), HV.out.symm, HX.out, HWF.out, fun z hz => hz, HP0.out.nd, HP0.out, h00⟩
    case round =>
      clear h00 HP0 HV HX HWF
      obtain ⟨pre, t', rfl, hxs, hwf, hsub, hnd, hP, hJs⟩ := hrel
      cases t' with
      | nil =>
        have HXS : Hid (xs = pre) := by
          show _ = _
          rw [pth, List.append_nil] at hxs
          exact (List.map_inj_right (fun _ _ h => Subtype.ext h)).1 hxs
        have HJS := hid hJs
        clear hxs hnd hwf hsub hJs hP
        simp only [Tn.v]
        gi_wp2
        refine regionN (S := fun _ => True) hmx trivial (fun hHeld => ?_)
        refine takeN (i := 0) 14 (.pointer none) rfl rfl rfl (by kernel_rfl) (by kernel_rfl) (by kernel_rfl) (fun _ _ _ h => h) (Or.inl ⟨by kernel_rfl, fun w' h => ?_⟩) (fun _ => rfl) hHeld ?_
        · go_simp
        try simp only [List.setIfInBounds_toArray, List.set_cons_zero, List.set_cons_succ]
        refine takeN (i := 1) 15 (.bool false) rfl rfl rfl (by kernel_rfl) (by kernel_rfl) (by kernel_rfl) (fun _ _ _ h => h) (Or.inl ⟨by kernel_rfl, fun w' h => ?_⟩) (fun _ => rfl) hHeld ?_
        · go_simp
        try simp only [List.setIfInBounds_toArray, List.set_cons_zero, List.set_cons_succ]
        refine takeN (i := 2) 16 (.bool false) rfl rfl rfl (by kernel_rfl) (by kernel_rfl) (by kernel_rfl) (fun _ _ _ h => h) (Or.inl ⟨by kernel_rfl, fun w' h => ?_⟩) (fun _ => rfl) hHeld ?_
        · go_simp
        try simp only [List.setIfInBounds_toArray, List.set_cons_zero, List.set_cons_succ]
        refine takeN (i := 3) 17 (undef) rfl rfl rfl (by kernel_rfl) (by kernel_rfl) (by kernel_rfl) (fun _ _ _ h => h) (Or.inr ⟨by kernel_rfl, rfl⟩) (fun _ => rfl) hHeld ?_
        try simp only [List.setIfInBounds_toArray, List.set_cons_zero, List.set_cons_succ]
        refine takeN (i := 4) 18 (undef) rfl rfl rfl (by kernel_rfl) (by kernel_rfl) (by kernel_rfl) (fun _ _ _ h => h) (Or.inr ⟨by kernel_rfl, rfl⟩) (fun _ => rfl) hHeld ?_
        try simp only [List.setIfInBounds_toArray, List.set_cons_zero, List.set_cons_succ]
        refine takeN (i := 5) 19 (undef) rfl rfl rfl (by kernel_rfl) (by kernel_rfl) (by kernel_rfl) (fun _ _ _ h => h) (Or.inr ⟨by kernel_rfl, rfl⟩) (fun _ => rfl) hHeld ?_
        try simp only [List.setIfInBounds_toArray, List.set_cons_zero, List.set_cons_succ]
        refine takeN (i := 6) 20 (undef) rfl rfl rfl (by kernel_rfl) (by kernel_rfl) (by kernel_rfl) (fun _ _ _ h => h) (Or.inr ⟨by kernel_rfl, rfl⟩) (fun _ => rfl) hHeld ?_
        try simp only [List.setIfInBounds_toArray, List.set_cons_zero, List.set_cons_succ]
        refine takeN (i := 7) 21 (undef) rfl rfl rfl (by kernel_rfl) (by kernel_rfl) (by kernel_rfl) (fun _ _ _ h => h) (Or.inr ⟨by kernel_rfl, rfl⟩) (fun _ => rfl) hHeld ?_
        try simp only [List.setIfInBounds_toArray, List.set_cons_zero, List.set_cons_succ]
        refine takeN (i := 8) 22 (undef) rfl rfl rfl (by kernel_rfl) (by kernel_rfl) (by kernel_rfl) (fun _ _ _ h => h) (Or.inr ⟨by kernel_rfl, rfl⟩) (fun _ => rfl) hHeld ?_
        try simp only [List.setIfInBounds_toArray, List.set_cons_zero, List.set_cons_succ]
        refine skipN (i := 9) 23 (by kernel_rfl) rfl rfl (by kernel_rfl) (fun _ => trivial) trivial ?_
        try simp only [List.setIfInBounds_toArray, List.set_cons_zero, List.set_cons_succ]
        refine takeN (i := 10) 24 (.bool false) rfl rfl rfl (by kernel_rfl) (by kernel_rfl) (by kernel_rfl) (fun _ _ _ h => h) (Or.inl ⟨by kernel_rfl, fun w' h => ?_⟩) (fun _ => rfl) hHeld ?_
        · go_simp
        try simp only [List.setIfInBounds_toArray, List.set_cons_zero, List.set_cons_succ]
        refine takeN (i := 11) 25 (.bool false) rfl rfl rfl (by kernel_rfl) (by kernel_rfl) (by kernel_rfl) (fun _ _ _ h => h) (Or.inl ⟨by kernel_rfl, fun w' h => ?_⟩) (fun _ => rfl) hHeld ?_
        · go_simp
        try simp only [List.setIfInBounds_toArray, List.set_cons_zero, List.set_cons_succ]
        refine takeN (i := 12) 26 (undef) rfl rfl rfl (by kernel_rfl) (by kernel_rfl) (by kernel_rfl) (fun _ _ _ h => h) (Or.inr ⟨by kernel_rfl, rfl⟩) (fun _ => rfl) hHeld ?_
        try simp only [List.setIfInBounds_toArray, List.set_cons_zero, List.set_cons_succ]
        refine takeN (i := 13) 27 (undef) rfl rfl rfl (by kernel_rfl) (by kernel_rfl) (by kernel_rfl) (fun _ _ _ h => h) (Or.inr ⟨by kernel_rfl, rfl⟩) (fun _ => rfl) hHeld ?_
        try simp only [List.setIfInBounds_toArray, List.set_cons_zero, List.set_cons_succ]
        refine skipN (i := 14) 28 (by kernel_rfl) rfl rfl (by kernel_rfl) (fun _ => trivial) trivial ?_
        try simp only [List.setIfInBounds_toArray, List.set_cons_zero, List.set_cons_succ]
        refine takeN (i := 15) 29 (.bool false) rfl rfl rfl (by kernel_rfl) (by kernel_rfl) (by kernel_rfl) (fun _ _ _ h => h) (Or.inl ⟨by kernel_rfl, fun w' h => ?_⟩) (fun _ => rfl) hHeld ?_
        · go_simp
        try simp only [List.setIfInBounds_toArray, List.set_cons_zero, List.set_cons_succ]
        refine takeN (i := 16) 30 (.bool false) rfl rfl rfl (by kernel_rfl) (by kernel_rfl) (by kernel_rfl) (fun _ _ _ h => h) (Or.inl ⟨by kernel_rfl, fun w' h => ?_⟩) (fun _ => rfl) hHeld ?_
        · go_simp
        try simp only [List.setIfInBounds_toArray, List.set_cons_zero, List.set_cons_succ]
        refine takeN (i := 17) 31 (undef) rfl rfl rfl (by kernel_rfl) (by kernel_rfl) (by kernel_rfl) (fun _ _ _ h => h) (Or.inr ⟨by kernel_rfl, rfl⟩) (fun _ => rfl) hHeld ?_
        try simp only [List.setIfInBounds_toArray, List.set_cons_zero, List.set_cons_succ]
        refine takeN (i := 18) 32 (undef) rfl rfl rfl (by kernel_rfl) (by kernel_rfl) (by kernel_rfl) (fun _ _ _ h => h) (Or.inr ⟨by kernel_rfl, rfl⟩) (fun _ => rfl) hHeld ?_
        try simp only [List.setIfInBounds_toArray, List.set_cons_zero, List.set_cons_succ]
        refine takeN (i := 19) 33 (undef) rfl rfl rfl (by kernel_rfl) (by kernel_rfl) (by kernel_rfl) (fun _ _ _ h => h) (Or.inr ⟨by kernel_rfl, rfl⟩) (fun _ => rfl) hHeld ?_
        try simp only [List.setIfInBounds_toArray, List.set_cons_zero, List.set_cons_succ]
        refine takeN (i := 20) 34 (undef) rfl rfl rfl (by kernel_rfl) (by kernel_rfl) (by kernel_rfl) (fun _ _ _ h => h) (Or.inr ⟨by kernel_rfl, rfl⟩) (fun _ => rfl) hHeld ?_
        try simp only [List.setIfInBounds_toArray, List.set_cons_zero, List.set_cons_succ]
        refine takeN (i := 21) 35 (undef) rfl rfl rfl (by kernel_rfl) (by kernel_rfl) (by kernel_rfl) (fun _ _ _ h => h) (Or.inr ⟨by kernel_rfl, rfl⟩) (fun _ => rfl) hHeld ?_
        try simp only [List.setIfInBounds_toArray, List.set_cons_zero, List.set_cons_succ]
        refine takeN (i := 22) 36 (undef) rfl rfl rfl (by kernel_rfl) (by kernel_rfl) (by kernel_rfl) (fun _ _ _ h => h) (Or.inr ⟨by kernel_rfl, rfl⟩) (fun _ => rfl) hHeld ?_
        try simp only [List.setIfInBounds_toArray, List.set_cons_zero, List.set_cons_succ]
        refine takeN (i := 23) 37 (undef) rfl rfl rfl (by kernel_rfl) (by kernel_rfl) (by kernel_rfl) (fun _ _ _ h => h) (Or.inr ⟨by kernel_rfl, rfl⟩) (fun _ => rfl) hHeld ?_
        try simp only [List.setIfInBounds_toArray, List.set_cons_zero, List.set_cons_succ]
        refine takeN (i := 24) 38 (undef) rfl rfl rfl (by kernel_rfl) (by kernel_rfl) (by kernel_rfl) (fun _ _ _ h => h) (Or.inr ⟨by kernel_rfl, rfl⟩) (fun _ => rfl) hHeld ?_
        try simp only [List.setIfInBounds_toArray, List.set_cons_zero, List.set_cons_succ]
        refine takeN (i := 25) 39 (.bool false) rfl rfl rfl (by kernel_rfl) (by kernel_rfl) (by kernel_rfl) (fun _ _ _ h => h) (Or.inl ⟨by kernel_rfl, fun w' h => ?_⟩) (fun _ => rfl) hHeld ?_
        · go_simp
        try simp only [List.setIfInBounds_toArray, List.set_cons_zero, List.set_cons_succ]
        refine doneN (by kernel_rfl) ?_ _
        gi_wp2
        go_end0
        exact ⟨⟨_, rfl⟩, .inl ⟨pre, HXS.out.symm, HJ.out pre wr _ HJS.out ⟨rfl, rfl, rfl, Nat.le_refl _, fun _ _ => rfl⟩⟩⟩
      | node b2 x l r =>
        have hmem : (b2, x) ∈ (tF q.F t4 t6).nds := hsub _ List.mem_cons_self
        have hb2 : b2 < n0 := H4.out _ hmem
        have m0 := hnd.1
        have hbx := hwf.1.b
        obtain ⟨vl, hvl⟩ := l.vp
        obtain ⟨vr, hvr⟩ := r.vp
        rw [hvl, hvr] at m0
        have mp := hP.cp
        have kh := fun w => holds_ x.F x.H x.L x.B q.F q.H q.L w hwf.1.1.1 hwf.1.1.2.1 hwf.1.1.2.2.1 hwf.1.1.2.2.2.1 hq.1 hq.2.1 hq.2.2.1
        have HHO : Hid (ho x.F x.H x.L x.B q.F q.H q.L = decide (x.A / 2 ^ (nb q.F - x.B.toNat) = q.A / 2 ^ (nb q.F - x.B.toNat))) := nk_ho hwf.1 ha
        rw [pth] at hxs
        have HJS := hid hJs
        have HWF := hid hwf
        have HND := hid hnd
        have HSB := hid hsub
        have HP := hid hP
        have HM := hid (msn_node m0)
        have HMEM := hid hmem
        have HVL := hid hvl
        have HVR := hid hvr
        simp only [Tn.v]
        clear hwf hnd hsub hP hmem hvl hvr hJs
        have x0 := m0.c0
        have x1 := m0.c1
        have x2 := m0.c2
        have x3 := m0.c3
        have f0 := mp.c0
        have f1 := mp.c1
        have f2 := mp.c2
        by_cases hh : x.A / 2 ^ (nb q.F - x.B.toNat) = q.A / 2 ^ (nb q.F - x.B.toNat)
        · rw [HHO.out, decide_eq_true hh] at kh
          rw [if_pos hh] at hxs
          have HXS := hid hxs
          clear hxs hh HHO
          gi_wp2
          refine regionN (S := fun _ => True) hmx trivial (fun hHeld => ?_)
          replace HP := hid (HP.out.kept (W' := wr.drew) ⟨rfl, rfl, rfl, Nat.le_refl _, fun _ _ => rfl⟩)
          replace HND := hid (Nd.kept (w := wr) (w' := wr.drew) ⟨rfl, rfl, rfl, Nat.le_refl _, fun _ _ => rfl⟩ HND.out)
          replace HJS := hid (HJ.out pre wr wr.drew HJS.out ⟨rfl, rfl, rfl, Nat.le_refl _, fun _ _ => rfl⟩)
          replace m0 := m0.drew
          replace mp := mp.drew
          refine takeN (i := 0) 14 (.pointer (some ⟨b2, 0, none⟩)) rfl rfl rfl (by kernel_rfl) (by kernel_rfl) (by kernel_rfl) (fun _ _ _ h => h) (Or.inl ⟨by kernel_rfl, fun w' h => ?_⟩) (fun _ => rfl) hHeld ?_
          · go_simp
          try simp only [List.setIfInBounds_toArray, List.set_cons_zero, List.set_cons_succ]
          refine takeN (i := 1) 15 (.bool true) rfl rfl rfl (by kernel_rfl) (by kernel_rfl) (by kernel_rfl) (fun _ _ _ h => h) (Or.inl ⟨by kernel_rfl, fun w' h => ?_⟩) (fun _ => rfl) hHeld ?_
          · go_simp
          try simp only [List.setIfInBounds_toArray, List.set_cons_zero, List.set_cons_succ]
          refine takeN (i := 2) 16 (.bool true) rfl rfl rfl (by kernel_rfl) (by kernel_rfl) (by kernel_rfl) (fun _ _ _ h => h) (Or.inl ⟨by kernel_rfl, fun w' h => ?_⟩) (fun _ => rfl) hHeld ?_
          · go_simp
          try simp only [List.setIfInBounds_toArray, List.set_cons_zero, List.set_cons_succ]
          refine takeN (i := 3) 17 (.pointer (some ⟨b2, 0, none⟩)) rfl rfl rfl (by kernel_rfl) (by kernel_rfl) (by kernel_rfl) (fun _ _ _ h => h) (Or.inl ⟨by kernel_rfl, fun w' h => ?_⟩) (fun _ => rfl) hHeld ?_
          · go_simp
          try simp only [List.setIfInBounds_toArray, List.set_cons_zero, List.set_cons_succ]
          refine takeN (i := 4) 18 (.pointer (some ⟨b2, 0, none⟩)) rfl rfl rfl (by kernel_rfl) (by kernel_rfl) (by kernel_rfl) (fun _ _ _ h => h) (Or.inl ⟨by kernel_rfl, fun w' h => ?_⟩) (fun _ => rfl) hHeld ?_
          · go_simp
          try simp only [List.setIfInBounds_toArray, List.set_cons_zero, List.set_cons_succ]
          refine takeN (i := 5) 19 (.pointer (some ⟨b2, 0, none⟩)) rfl rfl rfl (by kernel_rfl) (by kernel_rfl) (by kernel_rfl) (fun _ _ _ h => h) (Or.inl ⟨by kernel_rfl, fun w' h => ?_⟩) (fun _ => rfl) hHeld ?_
          · go_simp
          try simp only [List.setIfInBounds_toArray, List.set_cons_zero, List.set_cons_succ]
          refine takeN (i := 7) 21 (.pointer (some ⟨bp, 0, none⟩)) rfl rfl rfl (by kernel_rfl) (by kernel_rfl) (by kernel_rfl) (fun _ _ _ h => h) (Or.inl ⟨by kernel_rfl, fun w' h => ?_⟩) (fun _ => rfl) hHeld ?_
          · go_simp
          try simp only [List.setIfInBounds_toArray, List.set_cons_zero, List.set_cons_succ]
          refine readsN (i := 6) (j := 8) 20 22 (.agg #[.int .i64 x.F, .int .u64 x.H, .int .u64 x.L, .int .i64 x.B]) (.agg #[.int .i64 q.F, .int .u64 q.H, .int .u64 q.L]) rfl rfl rfl rfl rfl (by decide) (by decide) (by kernel_rfl) (by kernel_rfl) (by kernel_rfl) (Or.inl ⟨by kernel_rfl, fun w' h => ?_⟩) (Or.inl ⟨by kernel_rfl, fun w' h => ?_⟩) (Or.inl ⟨by kernel_rfl, fun w' h => ?_⟩) (Or.inl ⟨by kernel_rfl, fun w' h => ?_⟩) (fun _ _ => rfl) (fun _ _ => rfl) hHeld ?_
          · rw [h]
            go_simp
          · rw [h]
            go_simp
          · rw [h]
            go_simp
          · rw [h]
            go_simp
          try simp only [List.setIfInBounds_toArray, List.set_cons_zero, List.set_cons_succ]
          refine nextN (i := 9) (by kernel_rfl) rfl (fun K hK => ?_)
          rw [if_pos (by kernel_rfl)]
          gi_wp2_with (refine ⟨trivial, ?_⟩; gi_at_call 53; refine (callsIn_wide.2 (kh _)).mono ?_; rintro e wa ⟨rfl, g2⟩)
          replace HP := hid (HP.out.kept g2)
          replace HND := hid (HND.out.kept g2)
          replace HJS := hid (HJ.out pre _ wa HJS.out g2)
          replace m0 := m0.kept g2
          replace mp := mp.kept g2
          clear g2 x0 x1 x2 x3 f0 f1 f2 kh
          refine hK.out _ _ trivial (fun hHeld => ?_)
          clear hK K
          try simp only [Act.put, List.setIfInBounds_toArray, List.set_cons_zero, List.set_cons_succ]
          refine takeN (i := 10) 24 (.bool true) rfl rfl rfl (by kernel_rfl) (by kernel_rfl) (by kernel_rfl) (fun _ _ _ h => h) (Or.inl ⟨by kernel_rfl, fun w' h => ?_⟩) (fun _ => rfl) hHeld ?_
          · go_simp
          try simp only [List.setIfInBounds_toArray, List.set_cons_zero, List.set_cons_succ]
          refine takeN (i := 11) 25 (.bool true) rfl rfl rfl (by kernel_rfl) (by kernel_rfl) (by kernel_rfl) (fun _ _ _ h => h) (Or.inl ⟨by kernel_rfl, fun w' h => ?_⟩) (fun _ => rfl) hHeld ?_
          · go_simp
          try simp only [List.setIfInBounds_toArray, List.set_cons_zero, List.set_cons_succ]
          refine takeN (i := 12) 26 (.func (.yield lp) #[] #[]) rfl rfl rfl (by kernel_rfl) (by kernel_rfl) (by kernel_rfl) (fun _ _ _ h => h) (Or.inl ⟨by kernel_rfl, fun w' h => ?_⟩) (fun _ => rfl) hHeld ?_
          · go_simp
          try simp only [List.setIfInBounds_toArray, List.set_cons_zero, List.set_cons_succ]
          refine takeN (i := 13) 27 (.pointer (some ⟨b2, 0, none⟩)) rfl rfl rfl (by kernel_rfl) (by kernel_rfl) (by kernel_rfl) (fun _ _ _ h => h) (Or.inl ⟨by kernel_rfl, fun w' h => ?_⟩) (fun _ => rfl) hHeld ?_
          · go_simp
          try simp only [List.setIfInBounds_toArray, List.set_cons_zero, List.set_cons_succ]
          refine nextN (i := 14) (by kernel_rfl) rfl (fun K hK => ?_)
          rw [if_pos (by kernel_rfl)]
          obtain ⟨fn, tmps, assign, body, hy', hR⟩ := HY.out pre ⟨(b2, x), HMEM.out⟩ wa HJS.out (by have := congrArg List.length HXS.out; simp at this; omega)
          dsimp only at hy'
          gi_wp2
          refine hR.mono ?_
          rintro e W3 (⟨rfl, hJ3, hk3⟩ | ⟨rfl, hJx3⟩)
          · clear hy' hR
            have HJ3 := hid hJ3
            clear hJ3
            replace HP := hid (HP.out.kq hk3 h1 h2 h3 H4.out)
            replace HND := hid (HND.out.at (fun z hz => hk3.2.1 _ (.inl (H4.out _ (HSB.out z hz)))))
            replace m0 := m0.at (hk3.2.1 b2 (.inl hb2))
            replace mp := mp.at (hk3.2.1 bp (.inr h2))
            clear hk3
            refine hK.out _ _ trivial (fun hHeld => ?_)
            clear hK K
            have x3 := m0.c3
            have f3 := mp.c3
            try simp only [Act.put, List.setIfInBounds_toArray, List.set_cons_zero, List.set_cons_succ]
            refine takeN (i := 15) 29 (.bool true) rfl rfl rfl (by kernel_rfl) (by kernel_rfl) (by kernel_rfl) (fun _ _ _ h => h) (Or.inl ⟨by kernel_rfl, fun w' h => ?_⟩) (fun _ => rfl) hHeld ?_
            · go_simp
            try simp only [List.setIfInBounds_toArray, List.set_cons_zero, List.set_cons_succ]
            refine takeN (i := 16) 30 (.bool true) rfl rfl rfl (by kernel_rfl) (by kernel_rfl) (by kernel_rfl) (fun _ _ _ h => h) (Or.inl ⟨by kernel_rfl, fun w' h => ?_⟩) (fun _ => rfl) hHeld ?_
            · go_simp
            try simp only [List.setIfInBounds_toArray, List.set_cons_zero, List.set_cons_succ]
            refine takeN (i := 17) 31 (.pointer (some ⟨b2, 0, none⟩)) rfl rfl rfl (by kernel_rfl) (by kernel_rfl) (by kernel_rfl) (fun _ _ _ h => h) (Or.inl ⟨by kernel_rfl, fun w' h => ?_⟩) (fun _ => rfl) hHeld ?_
            · go_simp
            try simp only [List.setIfInBounds_toArray, List.set_cons_zero, List.set_cons_succ]
            refine takeN (i := 18) 32 (.pointer (some ⟨b2, 0, none⟩)) rfl rfl rfl (by kernel_rfl) (by kernel_rfl) (by kernel_rfl) (fun _ _ _ h => h) (Or.inl ⟨by kernel_rfl, fun w' h => ?_⟩) (fun _ => rfl) hHeld ?_
            · go_simp
            try simp only [List.setIfInBounds_toArray, List.set_cons_zero, List.set_cons_succ]
            refine takeN (i := 19) 33 (.pointer (some ⟨b2, 0, none⟩)) rfl rfl rfl (by kernel_rfl) (by kernel_rfl) (by kernel_rfl) (fun _ _ _ h => h) (Or.inl ⟨by kernel_rfl, fun w' h => ?_⟩) (fun _ => rfl) hHeld ?_
            · go_simp
            try simp only [List.setIfInBounds_toArray, List.set_cons_zero, List.set_cons_succ]
            refine takeN (i := 20) 34 (.pointer (some ⟨b2, 3, none⟩)) rfl rfl rfl (by kernel_rfl) (by kernel_rfl) (by kernel_rfl) (fun _ _ _ h => h) (Or.inl ⟨by kernel_rfl, fun w' h => ?_⟩) (fun _ => rfl) hHeld ?_
            · go_simp
            try simp only [List.setIfInBounds_toArray, List.set_cons_zero, List.set_cons_succ]
            refine takeN (i := 22) 36 (.pointer (some ⟨bp, 3, none⟩)) rfl rfl rfl (by kernel_rfl) (by kernel_rfl) (by kernel_rfl) (fun _ _ _ h => h) (Or.inl ⟨by kernel_rfl, fun w' h => ?_⟩) (fun _ => rfl) hHeld ?_
            · go_simp
            try simp only [List.setIfInBounds_toArray, List.set_cons_zero, List.set_cons_succ]
            refine readsN (i := 21) (j := 23) 35 37 (.int .i64 x.B) (.int .i64 q.B) rfl rfl rfl rfl rfl (by decide) (by decide) (by kernel_rfl) (by kernel_rfl) (by kernel_rfl) (Or.inl ⟨by kernel_rfl, fun w' h => ?_⟩) (Or.inl ⟨by kernel_rfl, fun w' h => ?_⟩) (Or.inl ⟨by kernel_rfl, fun w' h => ?_⟩) (Or.inl ⟨by kernel_rfl, fun w' h => ?_⟩) (fun _ _ => rfl) (fun _ _ => rfl) hHeld ?_
            · rw [h]
              go_simp
            · rw [h]
              go_simp
            · rw [h]
              go_simp
            · rw [h]
              go_simp
            try simp only [List.setIfInBounds_toArray, List.set_cons_zero, List.set_cons_succ]
            by_cases hlt : x.B < q.B
            · have hltd : decide (x.B < q.B) = true := decide_eq_true hlt
              refine takeN (i := 24) 38 (.bool true) rfl rfl rfl (by kernel_rfl) (by kernel_rfl) (by kernel_rfl) (fun _ _ _ h => h) (Or.inl ⟨by kernel_rfl, fun w' h => ?_⟩) (fun _ => rfl) hHeld ?_
              · go_simp
              try simp only [List.setIfInBounds_toArray, List.set_cons_zero, List.set_cons_succ]
              refine takeN (i := 25) 39 (.bool true) rfl rfl rfl (by kernel_rfl) (by kernel_rfl) (by kernel_rfl) (fun _ _ _ h => h) (Or.inl ⟨by kernel_rfl, fun w' h => ?_⟩) (fun _ => rfl) hHeld ?_
              · go_simp
              try simp only [List.setIfInBounds_toArray, List.set_cons_zero, List.set_cons_succ]
              refine doneN (by kernel_rfl) ?_ _
              clear hHeld x3 f3
              have HX2 : Hid (xs.map (·.1) = (pre ++ [(⟨(b2, x), HMEM.out⟩ : Zn (tF q.F t4 t6))]).map (·.1) ++ (if bi (nb q.F) q.A x.B.toNat = 0 then pth (nb q.F) q.A q.B l else pth (nb q.F) q.A q.B r)) := by
                show _ = _
                rw [HXS.out, if_pos hlt, List.map_append, List.append_assoc]
                rfl
              have hqb : x.B < nb q.F := by have := HQB.out; omega
              clear HXS hltd hlt
              have kb := fun w => bit_ q.F q.H q.L x.B w hq.2.1 hq.2.2.1 ha ⟨hbx.1, hqb⟩
              have HA : Hid (bi (nb q.F) (ad q.H q.L) x.B.toNat = bi (nb q.F) q.A x.B.toNat) := rfl
              rw [HA.out] at kb
              rcases bi_or (nb q.F) q.A x.B.toNat with hi | hi
              · rw [hi] at kb
                rw [if_pos hi] at HX2
                gi_wp2
                refine regionN (S := fun wx => Nm wx b2 x (.pointer vl) (.pointer vr) ∧ Pm wx bp q.F q.H q.L q.B) hmx ⟨m0.drew, mp.drew⟩ (fun hHeld => ?_)
                replace HP := hid (HP.out.kept (W' := W3.drew) ⟨rfl, rfl, rfl, Nat.le_refl _, fun _ _ => rfl⟩)
                replace HND := hid (Nd.kept (w := W3) (w' := W3.drew) ⟨rfl, rfl, rfl, Nat.le_refl _, fun _ _ => rfl⟩ HND.out)
                replace HJ3 := hid (HJ.out _ W3 W3.drew HJ3.out ⟨rfl, rfl, rfl, Nat.le_refl _, fun _ _ => rfl⟩)
                replace m0 := m0.drew
                replace mp := mp.drew
                refine takeN (i := 0) 40 (.pointer (some ⟨b2, 0, none⟩)) rfl rfl rfl (by kernel_rfl) (by kernel_rfl) (by kernel_rfl) (fun _ _ _ h => h) (Or.inl ⟨by kernel_rfl, fun w' h => ?_⟩) (fun _ => rfl) hHeld ?_
                · go_simp
                try simp only [List.setIfInBounds_toArray, List.set_cons_zero, List.set_cons_succ]
                refine takeN (i := 1) 41 (.pointer (some ⟨bp, 0, none⟩)) rfl rfl rfl (by kernel_rfl) (by kernel_rfl) (by kernel_rfl) (fun _ _ _ h => h) (Or.inl ⟨by kernel_rfl, fun w' h => ?_⟩) (fun _ => rfl) hHeld ?_
                · go_simp
                try simp only [List.setIfInBounds_toArray, List.set_cons_zero, List.set_cons_succ]
                refine takeN (i := 2) 42 (.agg #[.int .i64 q.F, .int .u64 q.H, .int .u64 q.L]) rfl rfl rfl (by kernel_rfl) (by kernel_rfl) (by kernel_rfl) (fun _ _ _ h => h) (Or.inl ⟨by kernel_rfl, fun w' h => ?_⟩) (fun _ => rfl) hHeld ?_
                · have y0 := Pm.c0 h.2; have y1 := Pm.c1 h.2; have y2 := Pm.c2 h.2
                  go_simp
                try simp only [List.setIfInBounds_toArray, List.set_cons_zero, List.set_cons_succ]
                refine takeN (i := 3) 43 (.pointer (some ⟨b2, 0, none⟩)) rfl rfl rfl (by kernel_rfl) (by kernel_rfl) (by kernel_rfl) (fun _ _ _ h => h) (Or.inl ⟨by kernel_rfl, fun w' h => ?_⟩) (fun _ => rfl) hHeld ?_
                · go_simp
                try simp only [List.setIfInBounds_toArray, List.set_cons_zero, List.set_cons_succ]
                refine takeN (i := 4) 44 (.pointer (some ⟨b2, 0, none⟩)) rfl rfl rfl (by kernel_rfl) (by kernel_rfl) (by kernel_rfl) (fun _ _ _ h => h) (Or.inl ⟨by kernel_rfl, fun w' h => ?_⟩) (fun _ => rfl) hHeld ?_
                · go_simp
                try simp only [List.setIfInBounds_toArray, List.set_cons_zero, List.set_cons_succ]
                refine takeN (i := 5) 45 (.pointer (some ⟨b2, 0, none⟩)) rfl rfl rfl (by kernel_rfl) (by kernel_rfl) (by kernel_rfl) (fun _ _ _ h => h) (Or.inl ⟨by kernel_rfl, fun w' h => ?_⟩) (fun _ => rfl) hHeld ?_
                · go_simp
                try simp only [List.setIfInBounds_toArray, List.set_cons_zero, List.set_cons_succ]
                refine takeN (i := 6) 46 (.pointer (some ⟨b2, 3, none⟩)) rfl rfl rfl (by kernel_rfl) (by kernel_rfl) (by kernel_rfl) (fun _ _ _ h => h) (Or.inl ⟨by kernel_rfl, fun w' h => ?_⟩) (fun _ => rfl) hHeld ?_
                · go_simp
                try simp only [List.setIfInBounds_toArray, List.set_cons_zero, List.set_cons_succ]
                refine takeN (i := 7) 47 (.int .i64 x.B) rfl rfl rfl (by kernel_rfl) (by kernel_rfl) (by kernel_rfl) (fun _ _ _ h => h) (Or.inl ⟨by kernel_rfl, fun w' h => ?_⟩) (fun _ => rfl) hHeld ?_
                · have y0 := Nm.c3 h.1
                  go_simp
                try simp only [List.setIfInBounds_toArray, List.set_cons_zero, List.set_cons_succ]
                refine takeN (i := 9) 49 (.pointer (some ⟨b2, 0, none⟩)) rfl rfl rfl (by kernel_rfl) (by kernel_rfl) (by kernel_rfl) (fun _ _ _ h => h) (Or.inl ⟨by kernel_rfl, fun w' h => ?_⟩) (fun _ => rfl) hHeld ?_
                · go_simp
                try simp only [List.setIfInBounds_toArray, List.set_cons_zero, List.set_cons_succ]
                refine takeN (i := 10) 50 (.pointer (some ⟨b2, 5, none⟩)) rfl rfl rfl (by kernel_rfl) (by kernel_rfl) (by kernel_rfl) (fun _ _ _ h => h) (Or.inl ⟨by kernel_rfl, fun w' h => ?_⟩) (fun _ => rfl) hHeld ?_
                · go_simp
                try simp only [List.setIfInBounds_toArray, List.set_cons_zero, List.set_cons_succ]
                refine nextN (i := 8) (by kernel_rfl) rfl (fun K hK => ?_)
                rw [if_pos (by kernel_rfl)]
                gi_wp2_with (refine ⟨trivial, ?_⟩; gi_at_call 54; refine (callsIn_wide.2 (kb _)).mono ?_; rintro e wb ⟨rfl, g2⟩)
                replace HP := hid (HP.out.kept g2)
                replace HND := hid (HND.out.kept g2)
                replace HJ3 := hid (HJ.out _ _ wb HJ3.out g2)
                replace m0 := m0.kept g2
                replace mp := mp.kept g2
                clear g2 kb
                refine hK.out _ _ ⟨m0, mp⟩ (fun hHeld => ?_)
                clear hK K
                try simp only [Act.put, List.setIfInBounds_toArray, List.set_cons_zero, List.set_cons_succ]
                refine takeN (i := 11) 51 (.pointer (some ⟨b2, 5, none⟩)) rfl rfl rfl (by kernel_rfl) (by kernel_rfl) (by kernel_rfl) (fun _ _ _ h => h) (Or.inl ⟨by kernel_rfl, fun w' h => ?_⟩) (fun _ => rfl) hHeld ?_
                · go_simp
                try simp only [List.setIfInBounds_toArray, List.set_cons_zero, List.set_cons_succ]
                refine takeN (i := 12) 52 (.pointer vl) rfl rfl rfl (by kernel_rfl) (by kernel_rfl) (by kernel_rfl) (fun _ _ _ h => h) (Or.inl ⟨by kernel_rfl, fun w' h => ?_⟩) (fun _ => rfl) hHeld ?_
                · have y0 := Nm.c5 h.1
                  go_simp
                try simp only [List.setIfInBounds_toArray, List.set_cons_zero, List.set_cons_succ]
                refine takeN (i := 13) 4 (.pointer vl) rfl rfl rfl (by kernel_rfl) (by kernel_rfl) (by kernel_rfl) (fun _ _ _ h => h) (Or.inl ⟨by kernel_rfl, fun w' h => ?_⟩) (fun _ => rfl) hHeld ?_
                · go_simp
                try simp only [List.setIfInBounds_toArray, List.set_cons_zero, List.set_cons_succ]
                refine doneN (by kernel_rfl) ?_ _
                clear hHeld
                gi_wp2
                go_roundw
                case rel =>
                  exact ⟨_, l, HVL.out.symm, HX2.out, HWF.out.2.2.2.1, fun z hz => HSB.out z (List.mem_cons_of_mem _ (List.mem_append_left _ hz)), HND.out.2.1, HP.out, HJ3.out⟩
                case measure =>
                  show msn (.pointer vl) wb < msn (.pointer (some ⟨b2, 0, none⟩)) wr
                  rw [HM.out, ← HVL.out]
                  exact msn_kid HND.out.2.1 (fun z hz => (HWF.out.2.1 z hz).1) (by omega)
              · rw [hi] at kb
                rw [if_neg (by omega)] at HX2
                gi_wp2
                refine regionN (S := fun wx => Nm wx b2 x (.pointer vl) (.pointer vr) ∧ Pm wx bp q.F q.H q.L q.B) hmx ⟨m0.drew, mp.drew⟩ (fun hHeld => ?_)
                replace HP := hid (HP.out.kept (W' := W3.drew) ⟨rfl, rfl, rfl, Nat.le_refl _, fun _ _ => rfl⟩)
                replace HND := hid (Nd.kept (w := W3) (w' := W3.drew) ⟨rfl, rfl, rfl, Nat.le_refl _, fun _ _ => rfl⟩ HND.out)
                replace HJ3 := hid (HJ.out _ W3 W3.drew HJ3.out ⟨rfl, rfl, rfl, Nat.le_refl _, fun _ _ => rfl⟩)
                replace m0 := m0.drew
                replace mp := mp.drew
                refine takeN (i := 0) 40 (.pointer (some ⟨b2, 0, none⟩)) rfl rfl rfl (by kernel_rfl) (by kernel_rfl) (by kernel_rfl) (fun _ _ _ h => h) (Or.inl ⟨by kernel_rfl, fun w' h => ?_⟩) (fun _ => rfl) hHeld ?_
                · go_simp
                try simp only [List.setIfInBounds_toArray, List.set_cons_zero, List.set_cons_succ]
                refine takeN (i := 1) 41 (.pointer (some ⟨bp, 0, none⟩)) rfl rfl rfl (by kernel_rfl) (by kernel_rfl) (by kernel_rfl) (fun _ _ _ h => h) (Or.inl ⟨by kernel_rfl, fun w' h => ?_⟩) (fun _ => rfl) hHeld ?_
                · go_simp
                try simp only [List.setIfInBounds_toArray, List.set_cons_zero, List.set_cons_succ]
                refine takeN (i := 2) 42 (.agg #[.int .i64 q.F, .int .u64 q.H, .int .u64 q.L]) rfl rfl rfl (by kernel_rfl) (by kernel_rfl) (by kernel_rfl) (fun _ _ _ h => h) (Or.inl ⟨by kernel_rfl, fun w' h => ?_⟩) (fun _ => rfl) hHeld ?_
                · have y0 := Pm.c0 h.2; have y1 := Pm.c1 h.2; have y2 := Pm.c2 h.2
                  go_simp
                try simp only [List.setIfInBounds_toArray, List.set_cons_zero, List.set_cons_succ]
                refine takeN (i := 3) 43 (.pointer (some ⟨b2, 0, none⟩)) rfl rfl rfl (by kernel_rfl) (by kernel_rfl) (by kernel_rfl) (fun _ _ _ h => h) (Or.inl ⟨by kernel_rfl, fun w' h => ?_⟩) (fun _ => rfl) hHeld ?_
                · go_simp
                try simp only [List.setIfInBounds_toArray, List.set_cons_zero, List.set_cons_succ]
                refine takeN (i := 4) 44 (.pointer (some ⟨b2, 0, none⟩)) rfl rfl rfl (by kernel_rfl) (by kernel_rfl) (by kernel_rfl) (fun _ _ _ h => h) (Or.inl ⟨by kernel_rfl, fun w' h => ?_⟩) (fun _ => rfl) hHeld ?_
                · go_simp
                try simp only [List.setIfInBounds_toArray, List.set_cons_zero, List.set_cons_succ]
                refine takeN (i := 5) 45 (.pointer (some ⟨b2, 0, none⟩)) rfl rfl rfl (by kernel_rfl) (by kernel_rfl) (by kernel_rfl) (fun _ _ _ h => h) (Or.inl ⟨by kernel_rfl, fun w' h => ?_⟩) (fun _ => rfl) hHeld ?_
                · go_simp
                try simp only [List.setIfInBounds_toArray, List.set_cons_zero, List.set_cons_succ]
                refine takeN (i := 6) 46 (.pointer (some ⟨b2, 3, none⟩)) rfl rfl rfl (by kernel_rfl) (by kernel_rfl) (by kernel_rfl) (fun _ _ _ h => h) (Or.inl ⟨by kernel_rfl, fun w' h => ?_⟩) (fun _ => rfl) hHeld ?_
                · go_simp
                try simp only [List.setIfInBounds_toArray, List.set_cons_zero, List.set_cons_succ]
                refine takeN (i := 7) 47 (.int .i64 x.B) rfl rfl rfl (by kernel_rfl) (by kernel_rfl) (by kernel_rfl) (fun _ _ _ h => h) (Or.inl ⟨by kernel_rfl, fun w' h => ?_⟩) (fun _ => rfl) hHeld ?_
                · have y0 := Nm.c3 h.1
                  go_simp
                try simp only [List.setIfInBounds_toArray, List.set_cons_zero, List.set_cons_succ]
                refine takeN (i := 9) 49 (.pointer (some ⟨b2, 0, none⟩)) rfl rfl rfl (by kernel_rfl) (by kernel_rfl) (by kernel_rfl) (fun _ _ _ h => h) (Or.inl ⟨by kernel_rfl, fun w' h => ?_⟩) (fun _ => rfl) hHeld ?_
                · go_simp
                try simp only [List.setIfInBounds_toArray, List.set_cons_zero, List.set_cons_succ]
                refine takeN (i := 10) 50 (.pointer (some ⟨b2, 5, none⟩)) rfl rfl rfl (by kernel_rfl) (by kernel_rfl) (by kernel_rfl) (fun _ _ _ h => h) (Or.inl ⟨by kernel_rfl, fun w' h => ?_⟩) (fun _ => rfl) hHeld ?_
                · go_simp
                try simp only [List.setIfInBounds_toArray, List.set_cons_zero, List.set_cons_succ]
                refine nextN (i := 8) (by kernel_rfl) rfl (fun K hK => ?_)
                rw [if_pos (by kernel_rfl)]
                gi_wp2_with (refine ⟨trivial, ?_⟩; gi_at_call 54; refine (callsIn_wide.2 (kb _)).mono ?_; rintro e wb ⟨rfl, g2⟩)
                replace HP := hid (HP.out.kept g2)
                replace HND := hid (HND.out.kept g2)
                replace HJ3 := hid (HJ.out _ _ wb HJ3.out g2)
                replace m0 := m0.kept g2
                replace mp := mp.kept g2
                clear g2 kb
                refine hK.out _ _ ⟨m0, mp⟩ (fun hHeld => ?_)
                clear hK K
                try simp only [Act.put, List.setIfInBounds_toArray, List.set_cons_zero, List.set_cons_succ]
                refine takeN (i := 11) 51 (.pointer (some ⟨b2, 6, none⟩)) rfl rfl rfl (by kernel_rfl) (by kernel_rfl) (by kernel_rfl) (fun _ _ _ h => h) (Or.inl ⟨by kernel_rfl, fun w' h => ?_⟩) (fun _ => rfl) hHeld ?_
                · go_simp
                try simp only [List.setIfInBounds_toArray, List.set_cons_zero, List.set_cons_succ]
                refine takeN (i := 12) 52 (.pointer vr) rfl rfl rfl (by kernel_rfl) (by kernel_rfl) (by kernel_rfl) (fun _ _ _ h => h) (Or.inl ⟨by kernel_rfl, fun w' h => ?_⟩) (fun _ => rfl) hHeld ?_
                · have y0 := Nm.c6 h.1
                  go_simp
                try simp only [List.setIfInBounds_toArray, List.set_cons_zero, List.set_cons_succ]
                refine takeN (i := 13) 4 (.pointer vr) rfl rfl rfl (by kernel_rfl) (by kernel_rfl) (by kernel_rfl) (fun _ _ _ h => h) (Or.inl ⟨by kernel_rfl, fun w' h => ?_⟩) (fun _ => rfl) hHeld ?_
                · go_simp
                try simp only [List.setIfInBounds_toArray, List.set_cons_zero, List.set_cons_succ]
                refine doneN (by kernel_rfl) ?_ _
                clear hHeld
                gi_wp2
                go_roundw
                case rel =>
                  exact ⟨_, r, HVR.out.symm, HX2.out, HWF.out.2.2.2.2, fun z hz => HSB.out z (List.mem_cons_of_mem _ (List.mem_append_right _ hz)), HND.out.2.2, HP.out, HJ3.out⟩
                case measure =>
                  show msn (.pointer vr) wb < msn (.pointer (some ⟨b2, 0, none⟩)) wr
                  rw [HM.out, ← HVR.out]
                  exact msn_kid HND.out.2.2 (fun z hz => (HWF.out.2.2.1 z hz).1) (by omega)
            · have hltd : decide (x.B < q.B) = false := decide_eq_false hlt
              have HX2 : Hid (xs = pre ++ [⟨(b2, x), HMEM.out⟩]) := by
                show _ = _
                refine (List.map_inj_right (fun _ _ h => Subtype.ext h)).1 ?_
                rw [HXS.out, if_neg hlt, List.map_append]
                rfl
              refine takeN (i := 24) 38 (.bool false) rfl rfl rfl (by kernel_rfl) (by kernel_rfl) (by kernel_rfl) (fun _ _ _ h => h) (Or.inl ⟨by kernel_rfl, fun w' h => ?_⟩) (fun _ => rfl) hHeld ?_
              · go_simp
              try simp only [List.setIfInBounds_toArray, List.set_cons_zero, List.set_cons_succ]
              refine takeN (i := 25) 39 (.bool false) rfl rfl rfl (by kernel_rfl) (by kernel_rfl) (by kernel_rfl) (fun _ _ _ h => h) (Or.inl ⟨by kernel_rfl, fun w' h => ?_⟩) (fun _ => rfl) hHeld ?_
              · go_simp
              try simp only [List.setIfInBounds_toArray, List.set_cons_zero, List.set_cons_succ]
              refine doneN (by kernel_rfl) ?_ _
              gi_wp2
              go_end0
              first
                | exact ⟨⟨_, rfl⟩, .inl ⟨_, HX2.out.symm, HJ3.out⟩⟩
                | exact ⟨⟨_, rfl⟩, .inl (by rw [HX2.out]; exact HJ3.out)⟩
          · clear hy' hR
            have HJX := hid hJx3
            clear hJx3
            refine hK.out _ _ trivial (fun hHeld => ?_)
            clear hK K
            have HX2 : Hid (pre ++ [⟨(b2, x), HMEM.out⟩] <+: xs) := by
              show _ <+: _
              refine pre_map (f := fun z : Zn (tF q.F t4 t6) => z.1) (fun _ _ h => Subtype.ext h) (r := (if x.B < q.B then (if bi (nb q.F) q.A x.B.toNat = 0 then pth (nb q.F) q.A q.B l else pth (nb q.F) q.A q.B r) else [])) ?_
              rw [HXS.out, List.map_append, List.append_assoc]
              rfl
            try simp only [Act.put, List.setIfInBounds_toArray, List.set_cons_zero, List.set_cons_succ]
            refine takeN (i := 15) 29 (.bool false) rfl rfl rfl (by kernel_rfl) (by kernel_rfl) (by kernel_rfl) (fun _ _ _ h => h) (Or.inl ⟨by kernel_rfl, fun w' h => ?_⟩) (fun _ => rfl) hHeld ?_
            · go_simp
            try simp only [List.setIfInBounds_toArray, List.set_cons_zero, List.set_cons_succ]
            refine takeN (i := 16) 30 (.bool false) rfl rfl rfl (by kernel_rfl) (by kernel_rfl) (by kernel_rfl) (fun _ _ _ h => h) (Or.inl ⟨by kernel_rfl, fun w' h => ?_⟩) (fun _ => rfl) hHeld ?_
            · go_simp
            try simp only [List.setIfInBounds_toArray, List.set_cons_zero, List.set_cons_succ]
            refine takeN (i := 17) 31 (undef) rfl rfl rfl (by kernel_rfl) (by kernel_rfl) (by kernel_rfl) (fun _ _ _ h => h) (Or.inr ⟨by kernel_rfl, rfl⟩) (fun _ => rfl) hHeld ?_
            try simp only [List.setIfInBounds_toArray, List.set_cons_zero, List.set_cons_succ]
            refine takeN (i := 18) 32 (undef) rfl rfl rfl (by kernel_rfl) (by kernel_rfl) (by kernel_rfl) (fun _ _ _ h => h) (Or.inr ⟨by kernel_rfl, rfl⟩) (fun _ => rfl) hHeld ?_
            try simp only [List.setIfInBounds_toArray, List.set_cons_zero, List.set_cons_succ]
            refine takeN (i := 19) 33 (undef) rfl rfl rfl (by kernel_rfl) (by kernel_rfl) (by kernel_rfl) (fun _ _ _ h => h) (Or.inr ⟨by kernel_rfl, rfl⟩) (fun _ => rfl) hHeld ?_
            try simp only [List.setIfInBounds_toArray, List.set_cons_zero, List.set_cons_succ]
            refine takeN (i := 20) 34 (undef) rfl rfl rfl (by kernel_rfl) (by kernel_rfl) (by kernel_rfl) (fun _ _ _ h => h) (Or.inr ⟨by kernel_rfl, rfl⟩) (fun _ => rfl) hHeld ?_
            try simp only [List.setIfInBounds_toArray, List.set_cons_zero, List.set_cons_succ]
            refine takeN (i := 21) 35 (undef) rfl rfl rfl (by kernel_rfl) (by kernel_rfl) (by kernel_rfl) (fun _ _ _ h => h) (Or.inr ⟨by kernel_rfl, rfl⟩) (fun _ => rfl) hHeld ?_
            try simp only [List.setIfInBounds_toArray, List.set_cons_zero, List.set_cons_succ]
            refine takeN (i := 22) 36 (undef) rfl rfl rfl (by kernel_rfl) (by kernel_rfl) (by kernel_rfl) (fun _ _ _ h => h) (Or.inr ⟨by kernel_rfl, rfl⟩) (fun _ => rfl) hHeld ?_
            try simp only [List.setIfInBounds_toArray, List.set_cons_zero, List.set_cons_succ]
            refine takeN (i := 23) 37 (undef) rfl rfl rfl (by kernel_rfl) (by kernel_rfl) (by kernel_rfl) (fun _ _ _ h => h) (Or.inr ⟨by kernel_rfl, rfl⟩) (fun _ => rfl) hHeld ?_
            try simp only [List.setIfInBounds_toArray, List.set_cons_zero, List.set_cons_succ]
            refine takeN (i := 24) 38 (undef) rfl rfl rfl (by kernel_rfl) (by kernel_rfl) (by kernel_rfl) (fun _ _ _ h => h) (Or.inr ⟨by kernel_rfl, rfl⟩) (fun _ => rfl) hHeld ?_
            try simp only [List.setIfInBounds_toArray, List.set_cons_zero, List.set_cons_succ]
            refine takeN (i := 25) 39 (.bool false) rfl rfl rfl (by kernel_rfl) (by kernel_rfl) (by kernel_rfl) (fun _ _ _ h => h) (Or.inl ⟨by kernel_rfl, fun w' h => ?_⟩) (fun _ => rfl) hHeld ?_
            · go_simp
            try simp only [List.setIfInBounds_toArray, List.set_cons_zero, List.set_cons_succ]
            refine doneN (by kernel_rfl) ?_ _
            gi_wp2
            go_end0
            exact ⟨⟨_, rfl⟩, .inr ⟨_, HX2.out, HJX.out⟩⟩
        · rw [HHO.out, decide_eq_false hh] at kh
          rw [if_neg hh, List.append_nil] at hxs
          have HXS : Hid (xs = pre) := (List.map_inj_right (fun _ _ h => Subtype.ext h)).1 hxs
          clear hxs hh HHO
          gi_wp2
          refine regionN (S := fun _ => True) hmx trivial (fun hHeld => ?_)
          replace HP := hid (HP.out.kept (W' := wr.drew) ⟨rfl, rfl, rfl, Nat.le_refl _, fun _ _ => rfl⟩)
          replace HND := hid (Nd.kept (w := wr) (w' := wr.drew) ⟨rfl, rfl, rfl, Nat.le_refl _, fun _ _ => rfl⟩ HND.out)
          replace HJS := hid (HJ.out pre wr wr.drew HJS.out ⟨rfl, rfl, rfl, Nat.le_refl _, fun _ _ => rfl⟩)
          replace m0 := m0.drew
          replace mp := mp.drew
          refine takeN (i := 0) 14 (.pointer (some ⟨b2, 0, none⟩)) rfl rfl rfl (by kernel_rfl) (by kernel_rfl) (by kernel_rfl) (fun _ _ _ h => h) (Or.inl ⟨by kernel_rfl, fun w' h => ?_⟩) (fun _ => rfl) hHeld ?_
          · go_simp
          try simp only [List.setIfInBounds_toArray, List.set_cons_zero, List.set_cons_succ]
          refine takeN (i := 1) 15 (.bool true) rfl rfl rfl (by kernel_rfl) (by kernel_rfl) (by kernel_rfl) (fun _ _ _ h => h) (Or.inl ⟨by kernel_rfl, fun w' h => ?_⟩) (fun _ => rfl) hHeld ?_
          · go_simp
          try simp only [List.setIfInBounds_toArray, List.set_cons_zero, List.set_cons_succ]
          refine takeN (i := 2) 16 (.bool true) rfl rfl rfl (by kernel_rfl) (by kernel_rfl) (by kernel_rfl) (fun _ _ _ h => h) (Or.inl ⟨by kernel_rfl, fun w' h => ?_⟩) (fun _ => rfl) hHeld ?_
          · go_simp
          try simp only [List.setIfInBounds_toArray, List.set_cons_zero, List.set_cons_succ]
          refine takeN (i := 3) 17 (.pointer (some ⟨b2, 0, none⟩)) rfl rfl rfl (by kernel_rfl) (by kernel_rfl) (by kernel_rfl) (fun _ _ _ h => h) (Or.inl ⟨by kernel_rfl, fun w' h => ?_⟩) (fun _ => rfl) hHeld ?_
          · go_simp
          try simp only [List.setIfInBounds_toArray, List.set_cons_zero, List.set_cons_succ]
          refine takeN (i := 4) 18 (.pointer (some ⟨b2, 0, none⟩)) rfl rfl rfl (by kernel_rfl) (by kernel_rfl) (by kernel_rfl) (fun _ _ _ h => h) (Or.inl ⟨by kernel_rfl, fun w' h => ?_⟩) (fun _ => rfl) hHeld ?_
          · go_simp
          try simp only [List.setIfInBounds_toArray, List.set_cons_zero, List.set_cons_succ]
          refine takeN (i := 5) 19 (.pointer (some ⟨b2, 0, none⟩)) rfl rfl rfl (by kernel_rfl) (by kernel_rfl) (by kernel_rfl) (fun _ _ _ h => h) (Or.inl ⟨by kernel_rfl, fun w' h => ?_⟩) (fun _ => rfl) hHeld ?_
          · go_simp
          try simp only [List.setIfInBounds_toArray, List.set_cons_zero, List.set_cons_succ]
          refine takeN (i := 7) 21 (.pointer (some ⟨bp, 0, none⟩)) rfl rfl rfl (by kernel_rfl) (by kernel_rfl) (by kernel_rfl) (fun _ _ _ h => h) (Or.inl ⟨by kernel_rfl, fun w' h => ?_⟩) (fun _ => rfl) hHeld ?_
          · go_simp
          try simp only [List.setIfInBounds_toArray, List.set_cons_zero, List.set_cons_succ]
          refine readsN (i := 6) (j := 8) 20 22 (.agg #[.int .i64 x.F, .int .u64 x.H, .int .u64 x.L, .int .i64 x.B]) (.agg #[.int .i64 q.F, .int .u64 q.H, .int .u64 q.L]) rfl rfl rfl rfl rfl (by decide) (by decide) (by kernel_rfl) (by kernel_rfl) (by kernel_rfl) (Or.inl ⟨by kernel_rfl, fun w' h => ?_⟩) (Or.inl ⟨by kernel_rfl, fun w' h => ?_⟩) (Or.inl ⟨by kernel_rfl, fun w' h => ?_⟩) (Or.inl ⟨by kernel_rfl, fun w' h => ?_⟩) (fun _ _ => rfl) (fun _ _ => rfl) hHeld ?_
          · rw [h]
            go_simp
          · rw [h]
            go_simp
          · rw [h]
            go_simp
          · rw [h]
            go_simp
          try simp only [List.setIfInBounds_toArray, List.set_cons_zero, List.set_cons_succ]
          refine nextN (i := 9) (by kernel_rfl) rfl (fun K hK => ?_)
          rw [if_pos (by kernel_rfl)]
          gi_wp2_with (refine ⟨trivial, ?_⟩; gi_at_call 53; refine (callsIn_wide.2 (kh _)).mono ?_; rintro e wa ⟨rfl, g2⟩)
          replace HP := hid (HP.out.kept g2)
          replace HND := hid (HND.out.kept g2)
          replace HJS := hid (HJ.out pre _ wa HJS.out g2)
          replace m0 := m0.kept g2
          replace mp := mp.kept g2
          clear g2 x0 x1 x2 x3 f0 f1 f2 kh
          refine hK.out _ _ trivial (fun hHeld => ?_)
          clear hK K
          try simp only [Act.put, List.setIfInBounds_toArray, List.set_cons_zero, List.set_cons_succ]
          refine takeN (i := 10) 24 (.bool false) rfl rfl rfl (by kernel_rfl) (by kernel_rfl) (by kernel_rfl) (fun _ _ _ h => h) (Or.inl ⟨by kernel_rfl, fun w' h => ?_⟩) (fun _ => rfl) hHeld ?_
          · go_simp
          try simp only [List.setIfInBounds_toArray, List.set_cons_zero, List.set_cons_succ]
          refine takeN (i := 11) 25 (.bool false) rfl rfl rfl (by kernel_rfl) (by kernel_rfl) (by kernel_rfl) (fun _ _ _ h => h) (Or.inl ⟨by kernel_rfl, fun w' h => ?_⟩) (fun _ => rfl) hHeld ?_
          · go_simp
          try simp only [List.setIfInBounds_toArray, List.set_cons_zero, List.set_cons_succ]
          refine takeN (i := 12) 26 (undef) rfl rfl rfl (by kernel_rfl) (by kernel_rfl) (by kernel_rfl) (fun _ _ _ h => h) (Or.inr ⟨by kernel_rfl, rfl⟩) (fun _ => rfl) hHeld ?_
          try simp only [List.setIfInBounds_toArray, List.set_cons_zero, List.set_cons_succ]
          refine takeN (i := 13) 27 (undef) rfl rfl rfl (by kernel_rfl) (by kernel_rfl) (by kernel_rfl) (fun _ _ _ h => h) (Or.inr ⟨by kernel_rfl, rfl⟩) (fun _ => rfl) hHeld ?_
          try simp only [List.setIfInBounds_toArray, List.set_cons_zero, List.set_cons_succ]
          refine skipN (i := 14) 28 (by kernel_rfl) rfl rfl (by kernel_rfl) (fun _ => trivial) trivial ?_
          try simp only [List.setIfInBounds_toArray, List.set_cons_zero, List.set_cons_succ]
          refine takeN (i := 15) 29 (.bool false) rfl rfl rfl (by kernel_rfl) (by kernel_rfl) (by kernel_rfl) (fun _ _ _ h => h) (Or.inl ⟨by kernel_rfl, fun w' h => ?_⟩) (fun _ => rfl) hHeld ?_
          · go_simp
          try simp only [List.setIfInBounds_toArray, List.set_cons_zero, List.set_cons_succ]
          refine takeN (i := 16) 30 (.bool false) rfl rfl rfl (by kernel_rfl) (by kernel_rfl) (by kernel_rfl) (fun _ _ _ h => h) (Or.inl ⟨by kernel_rfl, fun w' h => ?_⟩) (fun _ => rfl) hHeld ?_
          · go_simp
          try simp only [List.setIfInBounds_toArray, List.set_cons_zero, List.set_cons_succ]
          refine takeN (i := 17) 31 (undef) rfl rfl rfl (by kernel_rfl) (by kernel_rfl) (by kernel_rfl) (fun _ _ _ h => h) (Or.inr ⟨by kernel_rfl, rfl⟩) (fun _ => rfl) hHeld ?_
          try simp only [List.setIfInBounds_toArray, List.set_cons_zero, List.set_cons_succ]
          refine takeN (i := 18) 32 (undef) rfl rfl rfl (by kernel_rfl) (by kernel_rfl) (by kernel_rfl) (fun _ _ _ h => h) (Or.inr ⟨by kernel_rfl, rfl⟩) (fun _ => rfl) hHeld ?_
          try simp only [List.setIfInBounds_toArray, List.set_cons_zero, List.set_cons_succ]
          refine takeN (i := 19) 33 (undef) rfl rfl rfl (by kernel_rfl) (by kernel_rfl) (by kernel_rfl) (fun _ _ _ h => h) (Or.inr ⟨by kernel_rfl, rfl⟩) (fun _ => rfl) hHeld ?_
          try simp only [List.setIfInBounds_toArray, List.set_cons_zero, List.set_cons_succ]
          refine takeN (i := 20) 34 (undef) rfl rfl rfl (by kernel_rfl) (by kernel_rfl) (by kernel_rfl) (fun _ _ _ h => h) (Or.inr ⟨by kernel_rfl, rfl⟩) (fun _ => rfl) hHeld ?_
          try simp only [List.setIfInBounds_toArray, List.set_cons_zero, List.set_cons_succ]
          refine takeN (i := 21) 35 (undef) rfl rfl rfl (by kernel_rfl) (by kernel_rfl) (by kernel_rfl) (fun _ _ _ h => h) (Or.inr ⟨by kernel_rfl, rfl⟩) (fun _ => rfl) hHeld ?_
          try simp only [List.setIfInBounds_toArray, List.set_cons_zero, List.set_cons_succ]
          refine takeN (i := 22) 36 (undef) rfl rfl rfl (by kernel_rfl) (by kernel_rfl) (by kernel_rfl) (fun _ _ _ h => h) (Or.inr ⟨by kernel_rfl, rfl⟩) (fun _ => rfl) hHeld ?_
          try simp only [List.setIfInBounds_toArray, List.set_cons_zero, List.set_cons_succ]
          refine takeN (i := 23) 37 (undef) rfl rfl rfl (by kernel_rfl) (by kernel_rfl) (by kernel_rfl) (fun _ _ _ h => h) (Or.inr ⟨by kernel_rfl, rfl⟩) (fun _ => rfl) hHeld ?_
          try simp only [List.setIfInBounds_toArray, List.set_cons_zero, List.set_cons_succ]
          refine takeN (i := 24) 38 (undef) rfl rfl rfl (by kernel_rfl) (by kernel_rfl) (by kernel_rfl) (fun _ _ _ h => h) (Or.inr ⟨by kernel_rfl, rfl⟩) (fun _ => rfl) hHeld ?_
          try simp only [List.setIfInBounds_toArray, List.set_cons_zero, List.set_cons_succ]
          refine takeN (i := 25) 39 (.bool false) rfl rfl rfl (by kernel_rfl) (by kernel_rfl) (by kernel_rfl) (fun _ _ _ h => h) (Or.inl ⟨by kernel_rfl, fun w' h => ?_⟩) (fun _ => rfl) hHeld ?_
          · go_simp
          try simp only [List.setIfInBounds_toArray, List.set_cons_zero, List.set_cons_succ]
          refine doneN (by kernel_rfl) ?_ _
          gi_wp2
          go_end0
          exact ⟨⟨_, rfl⟩, .inl ⟨pre, HXS.out.symm, HJS.out⟩⟩
end Go.Proofs.Ytcaecfdeieoenaa
