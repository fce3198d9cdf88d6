import Derived.Test.YtmnmmkonkimjeaaGreatDoorCodeR
import Derived.Test.YtmnmmkonkimjeaaGreatDoorCodeB
import Derived.Test.YtmnmmkonkimjeaaGreatDoorCodeS
namespace Go.Proofs.YtmnmmkonkimjeaaGreatDoor
open Go.RowKit
set_option linter.unusedVariables false
set_option maxRecDepth 100000

theorem new_bad (a : Option Addr) (n cap : Nat) (w : World) (hn : n ≠ 32) (hm : n ≤ maxLen) :
    Calls Tryz.prog 43 #[.slice a n cap] w fun e w' => e = .returned (.tuple #[.pointer none, .int .i64 40]) ∧ Below w.heap.size w w' := by
  unfold maxLen at hm
  have e1 : ¬ (n : Int) = 32 := by omega
  have e2 : ((n : Int) != 32) = true := by simpa using e1
  go_enter Tryz.func43, Tryz.ntmps43
  go_wp2_with fail
  go_ret2
  exact ⟨rfl, Below.refl _ _⟩

theorem built_c (s : Nat → Nat) : Tryz.prog.built 130 [(0, .agg (rw8 256 s))] = some (rw8 496 (mix 256 s fun _ => 0)) := by kernel_rfl
theorem wpList_bldc {ops : Array Oper} {rest : List Oper} {o : Oper} {a : Act} {w : World} {Q : Exit → Act → World → Prop} (hgd : o.guard = none) (x : Operand) (ho : o.op = .build 130 #[(0, x)]) (s : Nat → Nat) (hx : a.eval x = .agg (rw8 256 s))
    (h : wpList Tryz.prog ops Q rest (a.put o.dst (.agg (rw8 496 (mix 256 s fun _ => 0)))) w) : wpList Tryz.prog ops Q (o :: rest) a w := by
  have e : ((#[(0, x)] : Array (Nat × Operand)).map fun (i, x) => (i, a.eval x)).toList = [(0, .agg (rw8 256 s))] := by simp [hx]
  exact wpList_build hgd 130 #[(0, x)] ho (by rw [e, built_c]; rfl) (by rw [e, built_c]; exact h)
theorem key_byte {zs : List Int} (h : ∀ z ∈ zs, 0 ≤ z ∧ z ≤ 255) (i : Nat) : (((zs.map Int.toNat).getD i 0 : Nat) : Int) = zs.getD i 0 := by
  have h := getD_byte h i
  simp only [List.getD, List.getElem?_map] at h ⊢
  revert h
  cases zs[i]? with
  | none => intro _; rfl
  | some z => intro h; simp at h ⊢; omega
theorem key_range {w : World} {b off : Nat} {zs : List Int} (hb : ∀ z ∈ zs, 0 ≤ z ∧ z ≤ 255) (hc : ∀ i, i < 32 → w.cell? ⟨b, off + i, none⟩ = some (.int .u8 (zs.getD i 0))) :
    w.rangeAt b off (rw8 32 fun j => (zs.map Int.toNat).getD j 0).toList := fun j v hv => by
  have hj : j < 32 := by have := (List.getElem?_eq_some_iff.1 hv).1; rwa [rw8_len] at this
  rw [Array.getElem?_toList, rw8_get _ _ j hj] at hv
  rw [hc j hj, ← hv, key_byte hb]
theorem rng_kept {w w' : World} {b o : Nat} {cs : List Value} (h : w.rangeAt b o cs) (hb : Below w.heap.size w w') : w'.rangeAt b o cs := fun j v hv => by
  have := h j v hv
  exact (hb.cell (World.block_lt_of_cell? w _ this)).trans this
theorem Bx.ofRw {w : World} {g t n : Nat} {F : Nat → Nat} (h : Rw w g t n F) (hn : 256 ≤ n) (hF : ∀ x, x < 256 → F x = sbx x) : Bx w g :=
  ⟨h.lt, fun x hx => by rw [h.byte x (by omega), hF x hx]⟩
set_option maxRecDepth 100000 in
set_option maxHeartbeats 1000000 in
theorem new_ (a : Option Addr) (n cap : Nat) (zs : List Int) (w : World) (hb : Bs w a n zs) (hn : n = 32) :
    Calls Tryz.prog 43 #[.slice a n cap] w fun e w' => ∃ g, e = .returned (.tuple #[.pointer (some ⟨g, 0, none⟩), .int .i64 0]) ∧ w.heap.size ≤ g ∧ Cp w' g (kf (zs.map Int.toNat)) ∧ Below w.heap.size w w' := by
  subst hn
  obtain ⟨hl, hby, hcs⟩ := hb
  obtain ⟨b, off, rfl, hcl⟩ : ∃ b off, a = some ⟨b, off, none⟩ ∧ ∀ i, i < 32 → w.cell? ⟨b, off + i, none⟩ = some (.int .u8 (zs.getD i 0)) := by
    rcases hcs with h | h
    · omega
    · exact h
  have HKL : Hid ((zs.map Int.toNat).length = 32) := by show _ = _; simp [hl]
  have HKB : Hid (∀ z ∈ zs.map Int.toNat, z < 256) := by
    intro z hz
    obtain ⟨y, hy, rfl⟩ := List.mem_map.1 hz
    have := hby y hy
    omega
  have hr := key_range hby hcl
  have hbl : b < w.heap.size := World.block_lt_of_cell? w _ (hcl 0 (by omega))
  clear hcl hcs hby hl
  generalize zs.map Int.toNat = key at *
  have k1 := fun g w hc => roundWords_ g key w hc HKL.out HKB.out
  have k2 := fun w => roundKeys_ (kf key) w
  obtain ⟨f, Hf⟩ : ∃ f, Hid ((fun j => key.getD j 0) = f) := ⟨_, rfl⟩
  obtain ⟨kk, Hk⟩ : ∃ kk, Hid (kf key = kk) := ⟨_, rfl⟩
  rw [Hf.out] at hr
  simp only [Hf.out, Hk.out] at k1 k2
  have ar := run_arr 135 32 5 under32
  go_enter Tryz.func43, Tryz.ntmps43
  go_wp2_with fail
  refine (allSubs_ _).mono ?_
  rintro e w1 ⟨rfl, B0⟩
  have hr := rng_kept hr B0
  have S0 := B0.size
  obtain ⟨A0, g1⟩ := rnew1 w1 130 496 (mix 256 sbx fun _ => 0)
  have hr := rng_kept hr g1
  have B0 := bel_bel B0 S0 g1
  clear g1
  have HM : Hid (∀ x, x < 256 → mix 256 sbx (fun _ => 0) x = sbx x) := fun x hx => by simp [mix, hx]
  go_wp2_with (refine wpList_bldc rfl _ rfl sbx rfl ?_)
  have S1 := B0.size
  generalize mix 256 sbx (fun _ => 0) = F at *
  generalize hgc : w1.heap.size = gc at *
  generalize w1.alloc (.cells (rw8 496 F) 130) = w2 at *
  clear hgc
  refine wp_region_held_drew (S := fun wx => wx.rangeAt b off (rw8 32 f).toList) (by kernel_rfl) (by simpa using hr) (fun hHeld => ?_)
  have A0 := A0.drew
  have B0 := bel_drew1 B0
  have hr := hHeld
  generalize w2.drew = wd at *
  refine take_to 0 11 (.pointer (some ⟨gc, 0, none⟩)) rfl rfl (by kernel_rfl) (by kernel_rfl) (by kernel_rfl) (fun _ _ _ h => h) (Or.inl ⟨by rfl, fun w' _ => ?_⟩) hHeld ?_
  · go_simp
  try simp only [List.setIfInBounds_toArray, List.set_cons_zero, List.set_cons_succ]
  refine take_to 1 12 (.pointer (some ⟨gc, 0, none⟩)) rfl rfl (by kernel_rfl) (by kernel_rfl) (by kernel_rfl) (fun _ _ _ h => h) (Or.inl ⟨by rfl, fun w' _ => ?_⟩) hHeld ?_
  · go_simp
  try simp only [List.setIfInBounds_toArray, List.set_cons_zero, List.set_cons_succ]
  refine take_to 2 13 (.pointer (some ⟨gc, 0, none⟩)) rfl rfl (by kernel_rfl) (by kernel_rfl) (by kernel_rfl) (fun _ _ _ h => h) (Or.inl ⟨by rfl, fun w' _ => ?_⟩) hHeld ?_
  · go_simp
  try simp only [List.setIfInBounds_toArray, List.set_cons_zero, List.set_cons_succ]
  refine take_to 3 14 (.pointer (some ⟨gc, 0, none⟩)) rfl rfl (by kernel_rfl) (by kernel_rfl) (by kernel_rfl) (fun _ _ _ h => h) (Or.inl ⟨by rfl, fun w' _ => ?_⟩) hHeld ?_
  · go_simp
  try simp only [List.setIfInBounds_toArray, List.set_cons_zero, List.set_cons_succ]
  refine take_to 4 15 (.slice (some ⟨b, off, none⟩) 32 cap) rfl rfl (by kernel_rfl) (by kernel_rfl) (by kernel_rfl) (fun _ _ _ h => h) (Or.inl ⟨by rfl, fun w' _ => ?_⟩) hHeld ?_
  · go_simp
  try simp only [List.setIfInBounds_toArray, List.set_cons_zero, List.set_cons_succ]
  refine take_to 5 16 (.pointer (some ⟨b, off, none⟩)) rfl rfl (by kernel_rfl) (by kernel_rfl) (by kernel_rfl) (fun _ _ _ h => h) (Or.inl ⟨by rfl, fun w' _ => ?_⟩) hHeld ?_
  · go_simp
  try simp only [List.setIfInBounds_toArray, List.set_cons_zero, List.set_cons_succ]
  refine take_to 6 17 (.agg (rw8 32 f)) rfl rfl (by kernel_rfl) (by kernel_rfl) (by kernel_rfl) (fun _ _ _ h => h) (yields_rng (by rfl) _ _ rfl b off 32 _ rfl (fun w' h => h) _ under32 rfl size32) hHeld ?_
  try simp only [List.setIfInBounds_toArray, List.set_cons_zero, List.set_cons_succ]
  refine wpAnyH_ready (rs := [7]) (by kernel_rfl) (by simp) ?_
  refine AllReadyH.cons rfl (fun K hK => ?_) AllReadyH.nil
  rw [if_pos (by rfl)]
  go_wp2_with fail
  refine (k1 gc _ (Bx.ofRw A0 (by omega) HM.out)).mono ?_
  rintro e wa ⟨rfl, g2⟩
  have A0 := A0.kept g2
  have hr := rng_kept hr g2
  have B0 := bel_bel B0 B0.size g2
  clear g2 hHeld
  try go_wp2_with fail
  refine hK.out _ _ hr (fun hHeld => ?_)
  clear hK K
  try simp only [Act.put, List.setIfInBounds_toArray, List.set_cons_zero, List.set_cons_succ]
  refine wpAnyH_ready (rs := [8]) (by kernel_rfl) (by simp) ?_
  refine AllReadyH.cons rfl (fun K hK => ?_) AllReadyH.nil
  rw [if_pos (by rfl)]
  go_wp2_with fail
  refine (k2 _).mono ?_
  rintro e wb ⟨rfl, g2⟩
  have A0 := A0.kept g2
  have hr := rng_kept hr g2
  have B0 := bel_bel B0 B0.size g2
  clear g2 hHeld
  try go_wp2_with fail
  refine hK.out _ _ hr (fun hHeld => ?_)
  clear hK K
  try simp only [Act.put, List.setIfInBounds_toArray, List.set_cons_zero, List.set_cons_succ]
  refine take_to 9 20 (.pointer (some ⟨gc, 0, none⟩)) rfl rfl (by kernel_rfl) (by kernel_rfl) (by kernel_rfl) (fun _ _ _ h => h) (Or.inl ⟨by rfl, fun w' _ => ?_⟩) hHeld ?_
  · go_simp
  try simp only [List.setIfInBounds_toArray, List.set_cons_zero, List.set_cons_succ]
  refine take_to 10 21 (.pointer (some ⟨gc, 256, none⟩)) rfl rfl (by kernel_rfl) (by kernel_rfl) (by kernel_rfl) (fun _ _ _ h => h) (Or.inl ⟨by rfl, fun w' _ => ?_⟩) hHeld ?_
  · go_simp
  try simp only [List.setIfInBounds_toArray, List.set_cons_zero, List.set_cons_succ]
  refine wpAnyH_ready (rs := [11]) (by kernel_rfl) (by simp) ?_
  refine AllReadyH.cons rfl (fun K hK => ?_) AllReadyH.nil
  rw [if_pos (by rfl)]
  refine wp_stm rfl _ _ _ rfl gc 256 rfl 240 kk rfl _ _ _ (by with_reducible exact A0) (by omega) sizek ?_
  have A0 := A0.mid 256 240 kk
  have B0 := bel_cells (B := w.heap.size) (g := gc) (by omega) (rw8 240 kk).toList 256 _ B0
  refine hK.out _ _ (World.rangeAt_setCells_apart hr _ _ _ (Or.inl (by omega))) (fun hHeld => ?_)
  clear hK K hr
  try simp only [Act.put, List.setIfInBounds_toArray, List.set_cons_zero, List.set_cons_succ]
  generalize wb.setCells gc 256 (rw8 240 kk).toList = we at *
  clear hHeld
  refine wpAnyH_done (by kernel_rfl) ?_ _
  have CC : Cp we gc kk := ⟨_, A0, fun x hx => by
    unfold put8
    rw [if_neg (by omega), HM.out x hx], fun j hj => by
    unfold put8
    rw [if_pos (by omega), show 256 + j - 256 = j from by omega]⟩
  rw [← Hk.out] at CC
  clear A0 k1 k2 ar
  go_wp2_with fail
  go_ret2
  exact ⟨_, rfl, by omega, CC, B0⟩
end Go.Proofs.YtmnmmkonkimjeaaGreatDoor
