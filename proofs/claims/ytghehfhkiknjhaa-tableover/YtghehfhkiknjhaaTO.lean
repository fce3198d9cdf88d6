import Derived.Test.YtghehfhkiknjhaaXT
namespace Go.Proofs.Ytghehfhkiknjhaa
set_option maxRecDepth 100000
open Go.RowKit Go.Shelf Go.Maps
set_option linter.unusedVariables false
attribute [local go_sem] Oper.semAt_some

/-- What the body of a loop over a table keeps: what was gathered, and each block of a row. -/
structure Kt (V : Nat → Prop) (W W' : World) : Prop where
  size : W.heap.size ≤ W'.heap.size
  same : ∀ b, V b → W'.heap[b]? = W.heap[b]?
  rows : ∀ (k : Nat) (cur : Array Value) (fl : Nat × Nat), W.heap[k]? = some (Obj.cells cur 65 fl) → W'.heap[k]? = some (Obj.cells cur 65 fl)
theorem Kt.trans {V : Nat → Prop} {A B C : World} (h : Kt V A B) (k : Kt V B C) : Kt V A C := ⟨Nat.le_trans h.size k.size, fun b hb => (k.same b hb).trans (h.same b hb), fun q cur fl e => k.rows q cur fl (h.rows q cur fl e)⟩
theorem Kt.put {V : Nat → Prop} {B : Nat} (hV : ∀ b, V b → b < B) (W : World) (l : Nat) (o' : Obj) (hl : B ≤ l) (ho : ∃ o, W.heap[l]? = some o ∧ o.isCells = false) : Kt V W (W.putObj l o') := by
  obtain ⟨o, ho, hc⟩ := ho
  refine ⟨(grownBy_putObj' W l o').size, fun b hb => ?_, fun k cur fl e => ?_⟩
  · exact World.putObj_heap_other (by have := hV b hb; omega)
  · refine (World.putObj_heap_other (fun f => ?_)).trans e
    subst f
    rw [ho] at e
    cases e
    cases hc
/-- What is yielded. -/
structure Px13 (M : Tab) (B0 : Nat) (pre : List (Value × Value)) (x : Value × Value) (W : World) : Prop where
  lt : pre.length < M.length
  own : ∃ B B2, B0 ≤ B ∧ W.ownsRow B 5 1 x.1 (M.getD pre.length ([], [])).1.length (cells (M.getD pre.length ([], [])).1) ∧ B ≤ B2 ∧ (∀ q, x.1.ownBlock = some q → q < B2) ∧ W.ownsRow B2 5 1 x.2 (M.getD pre.length ([], [])).2.length (cells (M.getD pre.length ([], [])).2)
set_option maxHeartbeats 8000000 in
theorem all1In_ (nf : Nat) (hnf : 1 ≤ nf) (lp gl B0 : Nat) (a : Option Addr) (n c : Nat) (V : Nat → Prop) (M : Tab) (hT : Tok M) (hn : n = M.length) (hnm : n ≤ 1000000000) (J Jx : List (Value × Value) → World → Prop)
    (hJ : ∀ pre A B, J pre A → Below A.heap.size A B → J pre B)
    (hY : ∀ pre x A, J pre A → Px13 M B0 pre x A → YieldAt Fence.wide (nf - 1) Try.prog lp #[x.1, x.2] A fun e B => (e = .returned (.bool true) ∧ J (pre ++ [x]) B ∧ Kt V A B) ∨ (e = .returned (.bool false) ∧ Jx (pre ++ [x]) B ∧ Kt V A B))
    (W : World) (hB0 : B0 ≤ W.heap.size) (h0 : J [] W) (hG : Gd W V gl a n c M) :
    CallsIn Fence.wide nf Try.prog 71 #[.func (.yield lp) #[] #[], .pointer (some ⟨gl, 0, none⟩)] W fun e W' => (∃ v, e = .returned v) ∧ ((∃ xs, J xs W' ∧ xs.length = M.length) ∨ (∃ pre, Jx pre W' ∧ True)) := by
  have hmx : Try.prog.follows .mixedOrders = true := by kernel_rfl
  have c0 : W.cell? ⟨gl, 0, none⟩ = some (.slice a n c) := by rw [cell_of_row W gl 0 _ 51 (0, 0) hG.cell]; rfl
  have HJ := hid hJ
  have HY := hid hY
  have HT := hid hT
  have HN := hid hn
  have HG := hid hG
  have HJ0 := hid h0
  have HB0 := hid hB0
  clear hJ hY hT hn hG h0 hB0
  refine callsIn_of_wp Try.func71 rfl trivial ?_ rfl
  simp only [Try.ntmps71, List.size_toArray, List.length_cons, List.length_nil, Nat.reduceAdd, Nat.reduceSub, Array.replicate_succ, Array.replicate_zero, List.push_toArray, List.append_toArray, List.nil_append, List.cons_append]
  gi_wp2
  gi_loopw [7] (fun i wr => ∃ (j : Nat) (xs : List (Value × Value)), j ≤ n ∧ i = .int .i64 j ∧ xs.length = j ∧ Hid (J xs wr) ∧ Hid (Gd wr V gl a n c M) ∧ Hid (B0 ≤ wr.heap.size)) (fun i _ => n - (intOf i).toNat)
  case atStart => exact ⟨0, [], Nat.zero_le _, rfl, rfl, HJ0, HG, HB0⟩
  case round =>
    clear HJ0 HG HB0 c0
    obtain ⟨j, xs, hj, rfl, hxs, HJS, HGS, HBS⟩ := hrel
    by_cases hlt : j < n
    · have hIl : (j : Int) < n := by omega
      obtain ⟨bl, off, ka, kc, va, vc, kn, vn, rfl, hkn, hvn, c1, c2, v1, v2⟩ := HGS.out.rl.at hlt
      have hm := tab_mem (M := M) (k := j) (by rw [← HN.out]; exact hlt)
      have hkl : kn ≤ 40 := by rw [hkn]; exact (HT.out.key _ hm).2.2
      have hvl : vn ≤ 480 := by rw [hvn]; exact (HT.out.val _ hm).2
      obtain ⟨o, HOB⟩ : ∃ o, Hid (Obj.cells #[.slice ka kn kc, .slice va vn vc] 65 = o) := ⟨_, rfl⟩
      have BA : Below wr.heap.size wr (wr.alloc o).drew := ((Below.refl wr.heap.size wr).alloc (Nat.le_refl _) o).trans ⟨rfl, rfl, rfl, Nat.le_refl _, fun _ _ => rfl⟩
      have HBA := hid BA
      have hnw : (wr.alloc o).drew.heap[wr.heap.size]? = some o := heap_alloc_new wr o
      have hsz : (wr.alloc o).drew.heap.size = wr.heap.size + 1 := by show (wr.alloc o).heap.size = _; simp
      have HSZ := hid hsz
      have V1 := hid v1
      have V2 := hid v2
      have hcc := fun {wx : World} (h : wx.heap[wr.heap.size]? = some o) => (show wx.cell? ⟨wr.heap.size, 0, none⟩ = some (.slice ka kn kc) ∧ wx.cell? ⟨wr.heap.size, 1, none⟩ = some (.slice va vn vc) from by rw [← HOB.out] at h; exact ⟨by rw [cell_of_row wx wr.heap.size 0 _ 65 (0, 0) h]; rfl, by rw [cell_of_row wx wr.heap.size 1 _ 65 (0, 0) h]; rfl⟩)
      have HNW := hid hnw
      have HPX : Hid (∀ x A, ∀ B B2, B0 ≤ B → A.ownsRow B 5 1 x.1 kn (cells (M.getD j ([], [])).1) → B ≤ B2 → (∀ q, x.1.ownBlock = some q → q < B2) → A.ownsRow B2 5 1 x.2 vn (cells (M.getD j ([], [])).2) → Px13 M B0 xs x A) := fun x A B B2 h1 h2 h3 h4 h5 => ⟨by rw [hxs, ← HN.out]; exact hlt, B, B2, h1, by rw [hxs, ← hkn]; exact h2, h3, h4, by rw [hxs, ← hvn]; exact h5⟩
      obtain ⟨K, HK⟩ : ∃ K, Hid ((M.getD j ([], [])).1 = K) := ⟨_, rfl⟩
      obtain ⟨U, HU⟩ : ∃ U, Hid ((M.getD j ([], [])).2 = U) := ⟨_, rfl⟩
      rw [HK.out] at V1 HPX
      rw [HU.out] at V2 HPX
      have kk := fun wx (h1 : Bs wx ka kn K) => bclone_ ka kn kc K wx h1 V1.out.nil V1.out.nc (by omega)
      have kv := fun wx (h1 : Bs wx va vn U) => bclone_ va vn vc U wx h1 V2.out.nil V2.out.nc (by omega)
      rw [← HOB.out] at HBA HNW HSZ
      have hS0 := hcc (HOB.out ▸ HNW.out)
      rw [← HOB.out] at hS0
      clear v1 v2 hkn hvn hm BA hnw hsz
      gi_wp2
      refine regionN (S := fun wx => wx.cell? ⟨wr.heap.size, 0, none⟩ = some (.slice ka kn kc) ∧ wx.cell? ⟨wr.heap.size, 1, none⟩ = some (.slice va vn vc)) hmx hS0 (fun hHeld => ?_)
      clear hHeld
      change anyN _ _ _ _ _ _ _ _ _ _ (wr.alloc (.cells #[.slice ka kn kc, .slice va vn vc] 65)).drew
      generalize (wr.alloc (.cells #[.slice ka kn kc, .slice va vn vc] 65)).drew = wd at *
      refine takeN (i := 0) 11 (.func (.yield lp) #[] #[]) rfl rfl rfl (by kernel_rfl) (by kernel_rfl) (by kernel_rfl) (fun _ _ _ h => h) (Or.inl ⟨by kernel_rfl, fun w' h => ?_⟩) (fun _ => rfl) hS0 ?_
      · go_simp
      try simp only [List.setIfInBounds_toArray, List.set_cons_zero, List.set_cons_succ]
      refine takeN (i := 1) 12 (.pointer (some ⟨wr.heap.size, 0, none⟩)) rfl rfl rfl (by kernel_rfl) (by kernel_rfl) (by kernel_rfl) (fun _ _ _ h => h) (Or.inl ⟨by kernel_rfl, fun w' h => ?_⟩) (fun _ => rfl) hS0 ?_
      · go_simp
      try simp only [List.setIfInBounds_toArray, List.set_cons_zero, List.set_cons_succ]
      refine takeN (i := 2) 13 (.slice ka kn kc) rfl rfl rfl (by kernel_rfl) (by kernel_rfl) (by kernel_rfl) (fun _ _ _ h => h) (Or.inl ⟨by kernel_rfl, fun w' h => ?_⟩) (fun _ => rfl) hS0 ?_
      · obtain ⟨h1, h2⟩ := h; go_simp
      try simp only [List.setIfInBounds_toArray, List.set_cons_zero, List.set_cons_succ]
      refine takeN (i := 4) 15 (.pointer (some ⟨wr.heap.size, 1, none⟩)) rfl rfl rfl (by kernel_rfl) (by kernel_rfl) (by kernel_rfl) (fun _ _ _ h => h) (Or.inl ⟨by kernel_rfl, fun w' h => ?_⟩) (fun _ => rfl) hS0 ?_
      · go_simp
      try simp only [List.setIfInBounds_toArray, List.set_cons_zero, List.set_cons_succ]
      refine takeN (i := 5) 16 (.slice va vn vc) rfl rfl rfl (by kernel_rfl) (by kernel_rfl) (by kernel_rfl) (fun _ _ _ h => h) (Or.inl ⟨by kernel_rfl, fun w' h => ?_⟩) (fun _ => rfl) hS0 ?_
      · obtain ⟨h1, h2⟩ := h; go_simp
      try simp only [List.setIfInBounds_toArray, List.set_cons_zero, List.set_cons_succ]
      refine nextN (i := 3) (by kernel_rfl) rfl (fun K1 hK1 => ?_)
      rw [if_pos (by kernel_rfl)]
      gi_wp2
      refine ⟨trivial, (callsIn_wide.2 (kk wd (V1.out.bs.below HBA.out))).mono ?_⟩
      rintro e w2 ⟨kv1, rfl, o2, g2⟩
      have HN2 := hid ((g2.block wr.heap.size (by rw [HSZ.out]; omega)).trans HNW.out)
      have hS2 := hcc (HOB.out ▸ HN2.out)
      have HB2 : Hid (Below wr.heap.size wr w2) := HBA.out.trans ⟨g2.os, g2.tape, g2.output, g2.size, fun x hx => g2.block x (by rw [HSZ.out]; omega)⟩
      have HS2 : Hid (wr.heap.size + 1 ≤ w2.heap.size) := by have := g2.size; rw [HSZ.out] at this; exact this
      have HO2 := hid o2
      rw [HSZ.out] at HO2
      clear o2 g2 kk
      refine hK1.out _ _ hS2 (fun _ => ?_)
      clear hK1 K1 hS0
      try simp only [Act.put, List.setIfInBounds_toArray, List.set_cons_zero, List.set_cons_succ]
      refine nextN (i := 6) (by kernel_rfl) rfl (fun K1 hK1 => ?_)
      rw [if_pos (by kernel_rfl)]
      gi_wp2
      refine ⟨trivial, (callsIn_wide.2 (kv w2 (V2.out.bs.below HB2.out))).mono ?_⟩
      rintro e w3 ⟨vv1, rfl, o3, g3⟩
      have HN3 := hid ((g3.block wr.heap.size (by have := HS2.out; omega)).trans HN2.out)
      have hS3 := hcc (HOB.out ▸ HN3.out)
      have HB3 : Hid (Below wr.heap.size wr w3) := HB2.out.trans ⟨g3.os, g3.tape, g3.output, g3.size, fun x hx => g3.block x (by have := HS2.out; omega)⟩
      have HKB : Hid (∀ q, kv1.ownBlock = some q → q < w2.heap.size) := fun q e => (HO2.out.lt q e).2
      have HO3 := hid (own_bel HO2.out g3)
      have HO4 := hid o3
      clear o3 g3 kv HO2
      refine hK1.out _ _ hS3 (fun _ => ?_)
      clear hK1 K1 hS2
      try simp only [Act.put, List.setIfInBounds_toArray, List.set_cons_zero, List.set_cons_succ]
      have HP3 := hid (HPX.out (kv1, vv1) w3 (wr.heap.size + 1) w2.heap.size (by have := HBS.out; omega) HO3.out HS2.out HKB.out HO4.out)
      have HJ3 := hid (HJ.out xs wr w3 HJS.out HB3.out)
      have HG3 := hid (HGS.out.below HB3.out)
      refine nextN (i := 7) (by kernel_rfl) rfl (fun K1 hK1 => ?_)
      rw [if_pos (by kernel_rfl)]
      obtain ⟨fn, tmps, assign, body, hy', hR⟩ := HY.out xs (kv1, vv1) w3 HJ3.out HP3.out
      have hy' : _ := hy'
      simp only at hy'
      gi_wp2
      refine hR.mono ?_
      rintro e w4 (⟨rfl, hJ4, hk4⟩ | ⟨rfl, hJ4, hk4⟩)
      · have HN4 := hid (hk4.rows _ _ _ HN3.out)
        have hS4 := hcc (HOB.out ▸ HN4.out)
        have HJ4 := hid hJ4
        have HG4 : Hid (Gd _ V gl (some ⟨bl, off, none⟩) n c M) := HG3.out.step fun x _ hx _ => hk4.same x hx
        have HZ4 : Hid (B0 ≤ _) := Nat.le_trans (Nat.le_trans HBS.out HB3.out.size) hk4.size
        clear hk4 hJ4 hy' hR hS3
        refine hK1.out _ _ hS4 (fun _ => ?_)
        clear hK1 K1
        try simp only [Act.put, List.setIfInBounds_toArray, List.set_cons_zero, List.set_cons_succ]
        refine takeN (i := 8) 19 (.bool false) rfl rfl rfl (by kernel_rfl) (by kernel_rfl) (by kernel_rfl) (fun _ _ _ h => h) (Or.inl ⟨by kernel_rfl, fun w' h => ?_⟩) (fun _ => rfl) hS4 ?_
        · clear h; go_simp
        try simp only [List.setIfInBounds_toArray, List.set_cons_zero, List.set_cons_succ]
        refine doneN (by kernel_rfl) ?_ _
        clear hS4
        gi_wp2
        go_roundw
        case rel => exact ⟨j + 1, xs ++ [(kv1, vv1)], by omega, by go_num, by rw [List.length_append, hxs]; rfl, HJ4, HG4, HZ4⟩
        case measure => simp [intOf]; omega
      · have HN4 := hid (hk4.rows _ _ _ HN3.out)
        have hS4 := hcc (HOB.out ▸ HN4.out)
        have HJ4 := hid hJ4
        have HG4 : Hid (Gd _ V gl (some ⟨bl, off, none⟩) n c M) := HG3.out.step fun x _ hx _ => hk4.same x hx
        have HZ4 : Hid (B0 ≤ _) := Nat.le_trans (Nat.le_trans HBS.out HB3.out.size) hk4.size
        clear hk4 hJ4 hy' hR hS3
        refine hK1.out _ _ hS4 (fun _ => ?_)
        clear hK1 K1
        try simp only [Act.put, List.setIfInBounds_toArray, List.set_cons_zero, List.set_cons_succ]
        refine takeN (i := 8) 19 (.bool true) rfl rfl rfl (by kernel_rfl) (by kernel_rfl) (by kernel_rfl) (fun _ _ _ h => h) (Or.inl ⟨by kernel_rfl, fun w' h => ?_⟩) (fun _ => rfl) hS4 ?_
        · clear h; go_simp
        try simp only [List.setIfInBounds_toArray, List.set_cons_zero, List.set_cons_succ]
        refine doneN (by kernel_rfl) ?_ _
        clear hS4
        gi_wp2
        (try simp only [Exit.inBlock, Exit.then]); refine bodyPost_ret (results_none rfl _ _ _) rfl ?_
        exact ⟨⟨_, rfl⟩, .inr ⟨_, HJ4.out, trivial⟩⟩
    · have hIl : ¬ (j : Int) < n := by omega
      obtain rfl : j = n := by omega
      gi_wp2
      go_end0
      exact ⟨⟨_, rfl⟩, .inl ⟨xs, HJS.out, by rw [hxs, HN.out]⟩⟩
end Go.Proofs.Ytghehfhkiknjhaa
