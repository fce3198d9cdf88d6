import Derived.Test.YtnjfckijpbgagaaCPiece
import Derived.Test.YtnjfckijpbgagaaRefC
import Derived.Test.YtnjfckijpbgagaaCodeR
import Derived.Test.YtnjfckijpbgagaaCodeB
namespace Go.Proofs.Ytnjfckijpbgagaa
set_option maxRecDepth 100000
open Go.RowKit
set_option linter.unusedVariables false

/-- Turned left by k places. -/
def rl (x k : Nat) : Nat := x * 2 ^ k % 256 ||| x / 2 ^ (8 - k)
theorem rl_lt {x : Nat} (k : Nat) (h : x < 256) : rl x k < 256 := Nat.or_lt_two_pow (n := 8) (by omega) (Nat.lt_of_le_of_lt (Nat.div_le_self _ _) h)
theorem or_rl {x : Nat} (h : x < 256) (k a b : Nat) (ha : 2 ^ k = a) (hb : 2 ^ (8 - k) = b) : bits .or .u8 ((x : Int) * (a : Int) % 256) ((x : Int) / (b : Int)) = ((rl x k : Nat) : Int) := by
  subst ha hb
  have := u8_or_nat (x * 2 ^ k % 256) (x / 2 ^ (8 - k)) (by omega) (Nat.lt_of_le_of_lt (Nat.div_le_self _ _) h)
  unfold rl
  rw [← this]
  congr 1
set_option maxHeartbeats 400000 in
theorem rot8_ (x k : Nat) (w : World) (hx : x < 256) (h1 : 1 ≤ k) (h4 : k ≤ 4) :
    Calls Try.prog 122 #[.int .u8 x, .int .i64 k] w fun e w' => e = .returned (.int .u8 (rl x k : Nat)) ∧ w' = w := by
  obtain rfl | rfl | rfl | rfl : k = 1 ∨ k = 2 ∨ k = 3 ∨ k = 4 := by omega
  · have HO := hid (or_rl hx 1 2 128 rfl rfl)
    have e : bits .and .u64 1 7 = 1 := by decide
    go_enter Try.func122, Try.ntmps122
    go_wp2_with fail
    go_ret
    exact ⟨by rw [← HO.out]; rfl, rfl⟩
  · have HO := hid (or_rl hx 2 4 64 rfl rfl)
    have e : bits .and .u64 2 7 = 2 := by decide
    go_enter Try.func122, Try.ntmps122
    go_wp2_with fail
    go_ret
    exact ⟨by rw [← HO.out]; rfl, rfl⟩
  · have HO := hid (or_rl hx 3 8 32 rfl rfl)
    have e : bits .and .u64 3 7 = 3 := by decide
    go_enter Try.func122, Try.ntmps122
    go_wp2_with fail
    go_ret
    exact ⟨by rw [← HO.out]; rfl, rfl⟩
  · have HO := hid (or_rl hx 4 16 16 rfl rfl)
    have e : bits .and .u64 4 7 = 4 := by decide
    go_enter Try.func122, Try.ntmps122
    go_wp2_with fail
    go_ret
    exact ⟨by rw [← HO.out]; rfl, rfl⟩
/-- The substitution, n turns of it. -/
def sac (v : Nat) : Nat → Nat
  | 0 => v ^^^ 99
  | n + 1 => sac v n ^^^ rl v (n + 1)
theorem sac_lt {v : Nat} (h : v < 256) : ∀ n, sac v n < 256
  | 0 => xor_lt8 h (by omega)
  | n + 1 => xor_lt8 (sac_lt h n) (rl_lt _ h)
set_option maxRecDepth 100000 in
theorem sac_ok : ∀ x, x < 256 → sac (inv8 x) 4 = sbx x := by decide +kernel
set_option maxRecDepth 100000 in
set_option maxHeartbeats 1000000 in
theorem sbox0_ (x : Nat) (w : World) (hx : x < 256) :
    Calls Try.prog 110 #[.int .u8 x] w fun e w' => e = .returned (.int .u8 (sbx x : Nat)) ∧ w' = w := by
  have HE := hid (sac_ok x hx)
  have k1 := fun w => inv8_ x w hx
  have hv : inv8 x < 256 := (inv8_ok x hx).1
  generalize inv8 x = v at *
  have H0 : Hid (bits .xor .u8 (v : Int) 99 = ((sac v 0 : Nat) : Int)) := u8_xor_nat v 99 hv (by omega)
  go_enter Try.func110, Try.ntmps110
  go_wp2_with fail
  refine (k1 _).mono ?_
  rintro e w2 ⟨rfl, rfl⟩
  clear k1
  go_wp2_with fail
  rw [H0.out]
  go_loopw [4, 5] (fun o i wr => ∃ j : Nat, j ≤ 4 ∧ i = .int .i64 ((j : Int) + 1) ∧ o = .int .u8 (sac v j : Nat) ∧ wr = w2) (fun _ i _ => 5 - (intOf i).toNat)
  case atStart => exact ⟨0, by omega, rfl, rfl, rfl⟩
  case round =>
    obtain ⟨j, hj, rfl, rfl, rfl⟩ := hrel
    by_cases hlt : j < 4
    · have HX : Hid (bits .xor .u8 (sac v j : Int) (rl v (j + 1) : Int) = ((sac v (j + 1) : Nat) : Int)) := u8_xor_nat _ _ (sac_lt hv j) (rl_lt _ hv)
      have k2 := fun w => rot8_ v (j + 1) w hv (by omega) (by omega)
      rw [show ((j + 1 : Nat) : Int) = (j : Int) + 1 from rfl] at k2
      generalize rl v (j + 1) = r at *
      go_wp2_with fail
      refine (k2 _).mono ?_
      rintro e w3 ⟨rfl, rfl⟩
      clear k2
      go_wp2_with fail
      go_roundw
      case rel => exact ⟨j + 1, by omega, by go_num, by rw [HX.out], trivial⟩
      case measure => simp [intOf]; omega
    · obtain rfl : j = 4 := by omega
      rw [HE.out]
      go_wp2_with fail
      go_ret
      exact ⟨rfl, rfl⟩
theorem sbox_ (x : Nat) (w : World) (hx : x < 256) :
    Calls Try.prog 110 #[.int .u8 x] w fun e w' => e = .returned (.int .u8 (sbx x : Nat)) ∧ Below w.heap.size w w' := by
  refine (sbox0_ x w hx).mono ?_
  rintro e w' ⟨rfl, rfl⟩
  exact ⟨rfl, Below.refl _ _⟩

theorem under256 : Try.prog.underlying 142 = some (.array 256 5) := by kernel_rfl
theorem size256 : (Try.prog.info? 142).map (·.size) = some 256 := by kernel_rfl
theorem zero256 : (Try.prog.info? 142).map (·.zero) = some (some (.agg (rw8 256 fun _ => 0))) := by kernel_rfl
set_option maxRecDepth 100000 in
set_option maxHeartbeats 1000000 in
theorem allSubs_ (w : World) :
    Calls Try.prog 91 #[] w fun e w' => e = .returned (.agg (rw8 256 sbx)) ∧ Below w.heap.size w w' := by
  go_enter Try.func91, Try.ntmps91
  go_wp2_with (refine wpList_al rfl _ rfl 256 (by exact zero256) ?_)
  obtain ⟨A0, A1, B0⟩ := rnew2 w 142 256 (fun _ => 0) 142 256 (fun _ => 0)
  generalize (w.alloc (.cells (rw8 256 fun _ => 0) 142)).alloc (.cells (rw8 256 fun _ => 0) 142) = w1 at *
  go_loopw [3] (fun i wr => ∃ j : Nat, j ≤ 256 ∧ i = .int .i64 j ∧ Rw wr w.heap.size 142 256 (fun _ => 0) ∧ Rw wr (w.heap.size + 1) 142 256 (mix j sbx fun _ => 0) ∧ Below w.heap.size w wr) (fun i _ => 256 - (intOf i).toNat)
  case atStart => exact ⟨0, by omega, rfl, A0, by rw [mix0]; exact A1, B0⟩
  case round =>
    obtain ⟨j, hj, rfl, a0, a1, b0⟩ := hrel
    clear A0 A1 B0
    by_cases hlt : j < 256
    · have c1 := a1.byte j hlt
      have f1 := a1.fz j
      have A1 := a1.step
      have A0 := a0.other (g' := w.heap.size + 1) (by omega) j (.int .u8 (sbx j : Nat))
      have B3 : Below w.heap.size w (wr.setCell ⟨w.heap.size + 1, j, none⟩ (.int .u8 (sbx j : Nat))) := b0.setCell (by show _ ≤ w.heap.size + 1; omega) _
      have k1 := fun w => sbox0_ j w hlt
      have e : (j : Int) % 256 = j := by omega
      clear a0 a1 b0
      generalize mix j sbx (fun _ => 0) j = o at *
      generalize sbx j = y at *
      go_wp2_with fail
      refine (k1 _).mono ?_
      rintro e w3 ⟨rfl, rfl⟩
      clear k1
      go_wp2_with fail
      go_roundw
      case rel => exact ⟨j + 1, by omega, by go_num, A0, A1, B3⟩
      case measure => simp [intOf]; omega
    · obtain rfl : j = 256 := by omega
      have a1 := a1.full
      go_wp2_with (first | (refine wpList_ldw rfl _ _ rfl _ rfl _ _ 256 _ (by exact a1) (by omega) _ (by exact under256) rfl (by exact size256) ?_) | (refine wpList_stm rfl rfl _ _ _ rfl w.heap.size 0 rfl 256 sbx rfl _ _ _ (by exact a0) (by omega) (by exact size256) ?_))
      refine bodyPost_ret (v := .agg (rw8 256 sbx)) ?_ rfl ⟨rfl, bel_cells (Nat.le_refl _) _ _ _ b0⟩
      exact results_rw rfl _ _ w.heap.size 256 sbx _ rfl (a0.whole _) under256 rfl size256
end Go.Proofs.Ytnjfckijpbgagaa
namespace Go.Proofs.Ytnjfckijpbgagaa
set_option maxRecDepth 100000
open Go.RowKit
set_option linter.unusedVariables false

theorem new_bad (a : Option Addr) (n cap : Nat) (w : World) (hn : n ≠ 32) (hm : n ≤ maxLen) :
    Calls Try.prog 70 #[.slice a n cap] w fun e w' => e = .returned (.tuple #[.pointer none, .int .i64 40]) ∧ Below w.heap.size w w' := by
  unfold maxLen at hm
  have e1 : ¬ (n : Int) = 32 := by omega
  have e2 : ((n : Int) != 32) = true := by simpa using e1
  go_enter Try.func70, Try.ntmps70
  go_wp2_with fail
  go_ret2
  exact ⟨rfl, Below.refl _ _⟩

theorem built_c (s : Nat → Nat) : Try.prog.built 146 [(0, .agg (rw8 256 s))] = some (rw8 496 (mix 256 s fun _ => 0)) := by kernel_rfl
theorem wpList_bldc {ops : Array Oper} {rest : List Oper} {o : Oper} {a : Act} {w : World} {Q : Exit → Act → World → Prop} (hgd : o.guard = none) (x : Operand) (ho : o.op = .build 146 #[(0, x)]) (s : Nat → Nat) (hx : a.eval x = .agg (rw8 256 s))
    (h : wpList Try.prog ops Q rest (a.put o.dst (.agg (rw8 496 (mix 256 s fun _ => 0)))) w) : wpList Try.prog ops Q (o :: rest) a w := by
  have e : ((#[(0, x)] : Array (Nat × Operand)).map fun (i, x) => (i, a.eval x)).toList = [(0, .agg (rw8 256 s))] := by simp [hx]
  exact wpList_build hgd 146 #[(0, x)] ho (by rw [e, built_c]; rfl) (by rw [e, built_c]; exact h)
theorem key_byte {zs : List Int} (h : ∀ z ∈ zs, 0 ≤ z ∧ z ≤ 255) (i : Nat) : (((zs.map Int.toNat).getD i 0 : Nat) : Int) = zs.getD i 0 := by
  have h := getD_byte h i
  simp only [List.getD, List.getElem?_map] at h ⊢
  revert h
  cases zs[i]? with
  | none => intro _; rfl
  | some z => intro h; simp at h ⊢; omega
theorem key_range {w : World} {b off : Nat} {zs : List Int} (hb : ∀ z ∈ zs, 0 ≤ z ∧ z ≤ 255) (hc : ∀ i, i < 32 → w.cell? ⟨b, off + i, none⟩ = some (.int .u8 (zs.getD i 0))) :
    w.rangeAt b off (rw8 32 fun j => (zs.map Int.toNat).getD j 0).toList := fun j v hv => by
  have hj : j < 32 := by have := (List.getElem?_eq_some_iff.1 hv).1; rwa [rw8_len] at this
  rw [Array.getElem?_toList, rw8_get _ _ j hj] at hv
  rw [hc j hj, ← hv, key_byte hb]
theorem rng_kept {w w' : World} {b o : Nat} {cs : List Value} (h : w.rangeAt b o cs) (hb : Below w.heap.size w w') : w'.rangeAt b o cs := fun j v hv => by
  have := h j v hv
  exact (hb.cell (World.block_lt_of_cell? w _ this)).trans this
theorem Bx.ofRw {w : World} {g t n : Nat} {F : Nat → Nat} (h : Rw w g t n F) (hn : 256 ≤ n) (hF : ∀ x, x < 256 → F x = sbx x) : Bx w g :=
  ⟨h.lt, fun x hx => by rw [h.byte x (by omega), hF x hx]⟩
set_option maxRecDepth 100000 in
set_option maxHeartbeats 1000000 in
theorem new_ (a : Option Addr) (n cap : Nat) (zs : List Int) (w : World) (hb : Bs w a n zs) (hn : n = 32) :
    Calls Try.prog 70 #[.slice a n cap] w fun e w' => ∃ g, e = .returned (.tuple #[.pointer (some ⟨g, 0, none⟩), .int .i64 0]) ∧ w.heap.size ≤ g ∧ Cp w' g (kf (zs.map Int.toNat)) ∧ Below w.heap.size w w' := by
  subst hn
  obtain ⟨hl, hby, hcs⟩ := hb
  obtain ⟨b, off, rfl, hcl⟩ : ∃ b off, a = some ⟨b, off, none⟩ ∧ ∀ i, i < 32 → w.cell? ⟨b, off + i, none⟩ = some (.int .u8 (zs.getD i 0)) := by
    rcases hcs with h | h
    · omega
    · exact h
  have HKL : Hid ((zs.map Int.toNat).length = 32) := by show _ = _; simp [hl]
  have HKB : Hid (∀ z ∈ zs.map Int.toNat, z < 256) := by
    intro z hz
    obtain ⟨y, hy, rfl⟩ := List.mem_map.1 hz
    have := hby y hy
    omega
  have hr := key_range hby hcl
  have hbl : b < w.heap.size := World.block_lt_of_cell? w _ (hcl 0 (by omega))
  clear hcl hcs hby hl
  generalize zs.map Int.toNat = key at *
  have k1 := fun g w hc => roundWords_ g key w hc HKL.out HKB.out
  have k2 := fun w => roundKeys_ (kf key) w
  obtain ⟨f, Hf⟩ : ∃ f, Hid ((fun j => key.getD j 0) = f) := ⟨_, rfl⟩
  obtain ⟨kk, Hk⟩ : ∃ kk, Hid (kf key = kk) := ⟨_, rfl⟩
  rw [Hf.out] at hr
  simp only [Hf.out, Hk.out] at k1 k2
  have ar := run_arr 151 32 5 under32
  go_enter Try.func70, Try.ntmps70
  go_wp2_with fail
  refine (allSubs_ _).mono ?_
  rintro e w1 ⟨rfl, B0⟩
  have hr := rng_kept hr B0
  have S0 := B0.size
  obtain ⟨A0, g1⟩ := rnew1 w1 146 496 (mix 256 sbx fun _ => 0)
  have hr := rng_kept hr g1
  have B0 := bel_bel B0 S0 g1
  clear g1
  have HM : Hid (∀ x, x < 256 → mix 256 sbx (fun _ => 0) x = sbx x) := fun x hx => by simp [mix, hx]
  go_wp2_with (refine wpList_bldc rfl _ rfl sbx rfl ?_)
  have S1 := B0.size
  generalize mix 256 sbx (fun _ => 0) = F at *
  generalize hgc : w1.heap.size = gc at *
  generalize w1.alloc (.cells (rw8 496 F) 146) = w2 at *
  clear hgc
  refine wp_region_held_drew (S := fun wx => wx.rangeAt b off (rw8 32 f).toList) (by kernel_rfl) (by simpa using hr) (fun hHeld => ?_)
  have A0 := A0.drew
  have B0 := bel_drew1 B0
  have hr := hHeld
  generalize w2.drew = wd at *
  refine take_to 0 11 (.pointer (some ⟨gc, 0, none⟩)) rfl rfl (by kernel_rfl) (by kernel_rfl) (by kernel_rfl) (fun _ _ _ h => h) (Or.inl ⟨by rfl, fun w' _ => ?_⟩) hHeld ?_
  · go_simp
  try simp only [List.setIfInBounds_toArray, List.set_cons_zero, List.set_cons_succ]
  refine take_to 1 12 (.pointer (some ⟨gc, 0, none⟩)) rfl rfl (by kernel_rfl) (by kernel_rfl) (by kernel_rfl) (fun _ _ _ h => h) (Or.inl ⟨by rfl, fun w' _ => ?_⟩) hHeld ?_
  · go_simp
  try simp only [List.setIfInBounds_toArray, List.set_cons_zero, List.set_cons_succ]
  refine take_to 2 13 (.pointer (some ⟨gc, 0, none⟩)) rfl rfl (by kernel_rfl) (by kernel_rfl) (by kernel_rfl) (fun _ _ _ h => h) (Or.inl ⟨by rfl, fun w' _ => ?_⟩) hHeld ?_
  · go_simp
  try simp only [List.setIfInBounds_toArray, List.set_cons_zero, List.set_cons_succ]
  refine take_to 3 14 (.pointer (some ⟨gc, 0, none⟩)) rfl rfl (by kernel_rfl) (by kernel_rfl) (by kernel_rfl) (fun _ _ _ h => h) (Or.inl ⟨by rfl, fun w' _ => ?_⟩) hHeld ?_
  · go_simp
  try simp only [List.setIfInBounds_toArray, List.set_cons_zero, List.set_cons_succ]
  refine take_to 4 15 (.slice (some ⟨b, off, none⟩) 32 cap) rfl rfl (by kernel_rfl) (by kernel_rfl) (by kernel_rfl) (fun _ _ _ h => h) (Or.inl ⟨by rfl, fun w' _ => ?_⟩) hHeld ?_
  · go_simp
  try simp only [List.setIfInBounds_toArray, List.set_cons_zero, List.set_cons_succ]
  refine take_to 5 16 (.pointer (some ⟨b, off, none⟩)) rfl rfl (by kernel_rfl) (by kernel_rfl) (by kernel_rfl) (fun _ _ _ h => h) (Or.inl ⟨by rfl, fun w' _ => ?_⟩) hHeld ?_
  · go_simp
  try simp only [List.setIfInBounds_toArray, List.set_cons_zero, List.set_cons_succ]
  refine take_to 6 17 (.agg (rw8 32 f)) rfl rfl (by kernel_rfl) (by kernel_rfl) (by kernel_rfl) (fun _ _ _ h => h) (yields_rng (by rfl) _ _ rfl b off 32 _ rfl (fun w' h => h) _ under32 rfl size32) hHeld ?_
  try simp only [List.setIfInBounds_toArray, List.set_cons_zero, List.set_cons_succ]
  refine wpAnyH_ready (rs := [7]) (by kernel_rfl) (by simp) ?_
  refine AllReadyH.cons rfl (fun K hK => ?_) AllReadyH.nil
  rw [if_pos (by rfl)]
  go_wp2_with fail
  refine (k1 gc _ (Bx.ofRw A0 (by omega) HM.out)).mono ?_
  rintro e wa ⟨rfl, g2⟩
  have A0 := A0.kept g2
  have hr := rng_kept hr g2
  have B0 := bel_bel B0 B0.size g2
  clear g2 hHeld
  try go_wp2_with fail
  refine hK.out _ _ hr (fun hHeld => ?_)
  clear hK K
  try simp only [Act.put, List.setIfInBounds_toArray, List.set_cons_zero, List.set_cons_succ]
  refine wpAnyH_ready (rs := [8]) (by kernel_rfl) (by simp) ?_
  refine AllReadyH.cons rfl (fun K hK => ?_) AllReadyH.nil
  rw [if_pos (by rfl)]
  go_wp2_with fail
  refine (k2 _).mono ?_
  rintro e wb ⟨rfl, g2⟩
  have A0 := A0.kept g2
  have hr := rng_kept hr g2
  have B0 := bel_bel B0 B0.size g2
  clear g2 hHeld
  try go_wp2_with fail
  refine hK.out _ _ hr (fun hHeld => ?_)
  clear hK K
  try simp only [Act.put, List.setIfInBounds_toArray, List.set_cons_zero, List.set_cons_succ]
  refine take_to 9 20 (.pointer (some ⟨gc, 0, none⟩)) rfl rfl (by kernel_rfl) (by kernel_rfl) (by kernel_rfl) (fun _ _ _ h => h) (Or.inl ⟨by rfl, fun w' _ => ?_⟩) hHeld ?_
  · go_simp
  try simp only [List.setIfInBounds_toArray, List.set_cons_zero, List.set_cons_succ]
  refine take_to 10 21 (.pointer (some ⟨gc, 256, none⟩)) rfl rfl (by kernel_rfl) (by kernel_rfl) (by kernel_rfl) (fun _ _ _ h => h) (Or.inl ⟨by rfl, fun w' _ => ?_⟩) hHeld ?_
  · go_simp
  try simp only [List.setIfInBounds_toArray, List.set_cons_zero, List.set_cons_succ]
  refine wpAnyH_ready (rs := [11]) (by kernel_rfl) (by simp) ?_
  refine AllReadyH.cons rfl (fun K hK => ?_) AllReadyH.nil
  rw [if_pos (by rfl)]
  refine wp_stm rfl _ _ _ rfl gc 256 rfl 240 kk rfl _ _ _ (by with_reducible exact A0) (by omega) sizek ?_
  have A0 := A0.mid 256 240 kk
  have B0 := bel_cells (B := w.heap.size) (g := gc) (by omega) (rw8 240 kk).toList 256 _ B0
  refine hK.out _ _ (World.rangeAt_setCells_apart hr _ _ _ (Or.inl (by omega))) (fun hHeld => ?_)
  clear hK K hr
  try simp only [Act.put, List.setIfInBounds_toArray, List.set_cons_zero, List.set_cons_succ]
  generalize wb.setCells gc 256 (rw8 240 kk).toList = we at *
  clear hHeld
  refine wpAnyH_done (by kernel_rfl) ?_ _
  have CC : Cp we gc kk := ⟨_, A0, fun x hx => by
    unfold put8
    rw [if_neg (by omega), HM.out x hx], fun j hj => by
    unfold put8
    rw [if_pos (by omega), show 256 + j - 256 = j from by omega]⟩
  rw [← Hk.out] at CC
  clear A0 k1 k2 ar
  go_wp2_with fail
  go_ret2
  exact ⟨_, rfl, by omega, CC, B0⟩
end Go.Proofs.Ytnjfckijpbgagaa
