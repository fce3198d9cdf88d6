import Derived.Test.YtnjfckijpbgagaaCode5
import Derived.Test.YtnjfckijpbgagaaH5
import Derived.Test.YtnjfckijpbgagaaN5
namespace Go.Proofs.Ytnjfckijpbgagaa
set_option maxRecDepth 100000
open Go.RowKit
set_option linter.unusedVariables false

theorem tl_eq6 {G : Nat → Nat} {L s : List Nat} {n : Nat} (hs : s.length = n + 16) (hL : L.length = 16) (hg : ∀ j, j < 16 → L.getD j 0 = G j) (h : ∀ i, i < 16 → G i = s.getD (n + i) 0) : s.drop n = L := by
  refine list_ext (by rw [List.length_drop, hL]; omega) fun i hi => ?_
  rw [List.length_drop] at hi
  rw [hg i (by omega), h i (by omega)]
  simp only [List.getD, List.getElem?_drop]
theorem fb_tl {G : Nat → Nat} {L s : List Nat} {n : Nat} (hs : s.length = n + 16) (hL : L.length = 16) (hg : ∀ j, j < 16 → L.getD j 0 = G j) : ((List.range 16).all fun i => fb (s.drop n) i == G i) = true ↔ s.drop n = L := by
  rw [all16_iff]
  constructor
  · intro h
    refine tl_eq6 hs hL hg fun i hi => ?_
    rw [← h i hi]
    unfold fb
    rw [getD_drop]
  · intro h i hi
    unfold fb
    rw [h, hg i hi]
set_option maxHeartbeats 2000000 in
theorem open_own (a0 a1 a2 a3 : Option Addr) (c0 c1 n2 c2 n c3 : Nat) (key nz ad s : List Nat) (w : World) (hb0 : Bs w a0 32 (ic key)) (hb1 : Bs w a1 12 (ic nz)) (hb2 : Bs w a2 n2 (ic ad)) (hb3 : Bs w a3 (n + 16) (ic s)) (hy0 : ∀ x ∈ key, x < 256) (hy1 : ∀ x ∈ nz, x < 256) (hy2 : ∀ x ∈ ad, x < 256) (hy3 : ∀ x ∈ s, x < 256) (hn2 : n2 ≤ 65536) (hn3 : n ≤ 65536) (hcap : n + 16 ≤ c3) (hc2 : n2 ≤ c2) (hm2 : c2 ≤ maxLen) (hm3 : c3 ≤ maxLen) :
    Calls Try.prog 34 #[.slice a0 32 c0, .slice a1 12 c1, .slice a2 n2 c2, .slice a3 (n + 16 : Nat) c3] w fun e w' => Below w.heap.size w w' ∧ ((s.drop n = tl (kf key) nz ad (s.take n) ∧ ∃ g, e = .returned (.tuple #[.slice (some ⟨g, 0, none⟩) n (n + 16), .bool true]) ∧ Ob w' w.heap.size g n (n + 16) (st (kf key) nz (s.take n))) ∨ (s.drop n ≠ tl (kf key) nz ad (s.take n) ∧ e = .returned (.tuple #[.slice none 0 0, .bool false]))) := by
  have HK : Hid (∀ j, kf key j < 256) := kf_lt hy0
  have HL : Hid (s.length = n + 16) := by have := hb3.1; rw [ic_length] at this; exact this
  obtain ⟨b, off, rfl⟩ : ∃ b off, a3 = some ⟨b, off, none⟩ := by
    rcases hb3.2.2 with h | ⟨b, off, e, hc⟩
    · omega
    · exact ⟨b, off, e⟩
  have hl1 : nz.length = 12 := by have := hb1.1; rwa [ic_length] at this
  have k0 := fun w hb0 hb1 => ready_ a0 a1 a2 (some ⟨b, off, none⟩) c0 c1 n2 c2 n c3 key nz w hb0 hb1 hn2 hn3
  generalize kf key = k at *
  have hyt : ∀ x ∈ s.take n, x < 256 := fun x hx => hy3 x (List.mem_of_mem_take hx)
  have hbt := bs_front hb3 (m := n) (by omega)
  have hbd := bs_rest hb3 hcap (m := n) (by omega)
  rw [if_neg (by omega), show n + 16 - n = 16 from by omega] at hbd
  have hbd : Bs w (some ⟨b, off + n, none⟩) 16 (ic (s.drop n)) := by rw [Option.map_some, Addr.add_mid] at hbd; exact hbd
  have kf1 := fun w hb => firstBlock_ (some ⟨b, off + n, none⟩) 16 (c3 - n) 16 (s.drop n) w hb (by unfold maxLen; omega) rfl
  have kh := fun gc w cc hb => hide_ gc k nz (some ⟨b, off, none⟩) n c3 (s.take n) w cc HK.out hl1 hy1 hb (by omega) hm3 hyt hn3
  have kt := fun gc w cc hb2 hb3 => tag5_ gc k nz a2 n2 c2 ad (some ⟨b, off, none⟩) n c3 (s.take n) w cc HK.out hl1 hy1 hb2 hc2 hm2 hy2 hb3 (by omega) hm3 hyt hn2 hn3
  have hq := fun w => run_eqav (fb (s.drop n)) (tg k nz ad (s.take n)) w
  have HR := hid (fb_tl (G := tg k nz ad (s.take n)) HL.out (tl_length k nz ad (s.take n)) (fun j hj => tl_get _ _ _ _ j hj))
  have hq : ∀ w, (Op.equalIn 10000 96 (.agg (rw8 16 (fb (s.drop n)))) (.agg (rw8 16 (tg k nz ad (s.take n))))).run Try.prog w = .ok ((List.range 16).all fun i => fb (s.drop n) i == tg k nz ad (s.take n) i) w := hq
  generalize ((List.range 16).all fun i => fb (s.drop n) i == tg k nz ad (s.take n) i) = r at *
  obtain ⟨f, Hf⟩ : ∃ f, Hid (fb nz = f) := ⟨_, rfl⟩
  simp only [Hf.out] at k0 kh kt
  generalize tl k nz ad (s.take n) = L at *
  generalize tg k nz ad (s.take n) = tt at *
  generalize fb (s.drop n) = G at *
  generalize st k nz (s.take n) = p at *
  have HBT := hid hbt
  have HB2 := hid hb2
  have b3 : decide ((n : Int) < 0) = false := decide_eq_false (by omega)
  have hcI : (n : Int) ≤ (c3 : Int) := by omega
  have hc0 : ¬ c3 = 0 := by omega
  have hcn : ¬ c3 = n := by omega
  have hg16 := guard16
  unfold maxLen at hm2 hm3
  clear hb2 hb3 hl1 hy0 hy1 hy2 hy3 hyt hbt
  go_enter Try.func34, Try.ntmps34
  go_wp2_with fail
  refine (kf1 _ hbd).mono ?_
  rintro e w1 ⟨rfl, b0⟩
  clear kf1 hbd b3 hcI hc0 hcn
  have hs1 := b0.size
  have a4 := Rw.new w1 96 16 G
  have b0 := b0.alloc b0.size (.cells (rw8 16 G) 96)
  go_wp2_with (first | (refine wpList_al rfl _ rfl 16 (by exact zeroa) ?_) | (refine wpList_stnr rfl rfl _ _ rfl _ _ G rfl rfl rfl (by simp [rw8_size]) ?_))
  have hlt := a4.lt
  generalize w1.heap.size = gg at *
  generalize w1.alloc (.cells (rw8 16 G) 96) = w2 at *
  refine (k0 _ (hb0.below b0) (hb1.below b0)).mono ?_
  rintro e w3 ⟨gc, rfl, hgc, cc, g2⟩
  have a4 := a4.kept g2
  have b0 := bel_bel b0 b0.size g2
  have hs3 := b0.size
  have hgl := cc.lt
  clear g2 k0 hb0 hb1
  have s0 := Se.new w3 gc f
  have cc := cc.alloc (.cells (sv gc f) 93)
  have a4 := a4.alloc (.cells (sv gc f) 93)
  have b0 := b0.alloc b0.size (.cells (sv gc f) 93)
  go_wp2_with (first | (refine wpList_als rfl rfl ?_) | (refine wpList_stns rfl rfl _ _ rfl _ (sv gc f) rfl rfl (sv_size _ _) (sv_one _ _) rfl ?_))
  generalize w3.heap.size = gs at *
  generalize w3.alloc (.cells (sv gc f) 93) = w4 at *
  refine wp_region_held_drew (S := fun wx => Rw wx gg 96 16 G ∧ Se wx gs gc f) (by kernel_rfl) ⟨a4.drew, s0.drew⟩ (fun hHeld => ?_)
  have a4 := a4.drew
  have s0 := s0.drew
  have cc := cc.drew
  have b0 := bel_drew1 b0
  generalize w4.drew = wd at *
  refine take_to 0 39 (.int .i64 0) rfl rfl (by kernel_rfl) (by kernel_rfl) (by kernel_rfl) (fun _ _ _ h => h) (Or.inl ⟨by rfl, fun w' _ => ?_⟩) hHeld ?_
  · go_simp
  try simp only [List.setIfInBounds_toArray, List.set_cons_zero, List.set_cons_succ]
  refine take_to 1 40 (.bool false) rfl rfl (by kernel_rfl) (by kernel_rfl) (by kernel_rfl) (fun _ _ _ h => h) (Or.inl ⟨by rfl, fun w' _ => ?_⟩) hHeld ?_
  · go_simp
  try simp only [List.setIfInBounds_toArray, List.set_cons_zero, List.set_cons_succ]
  refine take_to 2 41 (.bool false) rfl rfl (by kernel_rfl) (by kernel_rfl) (by kernel_rfl) (fun _ _ _ h => h) (Or.inl ⟨by rfl, fun w' _ => ?_⟩) hHeld ?_
  · go_simp
  try simp only [List.setIfInBounds_toArray, List.set_cons_zero, List.set_cons_succ]
  refine take_to 3 42 (.agg (rw8 16 G)) rfl rfl (by kernel_rfl) (by kernel_rfl) (by kernel_rfl) (fun _ _ _ h => h) (yields_rng (by rfl) _ _ rfl (gg) 0 16 _ rfl (fun w' h => h.1.rng0) _ under16 rfl size16) hHeld ?_
  try simp only [List.setIfInBounds_toArray, List.set_cons_zero, List.set_cons_succ]
  refine take_to 4 43 (.agg (sv gc f)) rfl rfl (by kernel_rfl) (by kernel_rfl) (by kernel_rfl) (fun _ _ _ h => h) (yields_se (by rfl) _ rfl (gs) gc f rfl (fun w' h => h.2)) hHeld ?_
  try simp only [List.setIfInBounds_toArray, List.set_cons_zero, List.set_cons_succ]
  refine take_to 5 44 (.slice a2 n2 c2) rfl rfl (by kernel_rfl) (by kernel_rfl) (by kernel_rfl) (fun _ _ _ h => h) (Or.inl ⟨by rfl, fun w' _ => ?_⟩) hHeld ?_
  · go_simp
  try simp only [List.setIfInBounds_toArray, List.set_cons_zero, List.set_cons_succ]
  refine take_to 6 45 (.slice (some ⟨b, off, none⟩) n c3) rfl rfl (by kernel_rfl) (by kernel_rfl) (by kernel_rfl) (fun _ _ _ h => h) (Or.inl ⟨by rfl, fun w' _ => ?_⟩) hHeld ?_
  · go_simp
  try simp only [List.setIfInBounds_toArray, List.set_cons_zero, List.set_cons_succ]
  refine wpAnyH_ready (rs := [7]) (by kernel_rfl) (by simp) ?_
  refine AllReadyH.cons rfl (fun K hK => ?_) AllReadyH.nil
  rw [if_pos (by rfl)]
  go_wp2_with fail
  refine (kt gc _ cc (HB2.out.below b0) (HBT.out.below b0)).mono ?_
  rintro e wa ⟨rfl, g2⟩
  have a4 := a4.kept g2
  have s0 := s0.kept g2
  have cc := cc.kept g2
  have b0 := bel_bel b0 b0.size g2
  clear g2 hHeld
  try go_wp2_with fail
  refine hK.out _ _ ⟨a4, s0⟩ (fun hHeld => ?_)
  clear hK K
  try simp only [Act.put, List.setIfInBounds_toArray, List.set_cons_zero, List.set_cons_succ]
  refine take_to 8 47 (.bool (!r)) rfl rfl (by kernel_rfl) (by kernel_rfl) (by kernel_rfl) (fun _ _ _ h => h) (Or.inl ⟨by rfl, fun w' _ => ?_⟩) hHeld ?_
  · go_simp
  try simp only [List.setIfInBounds_toArray, List.set_cons_zero, List.set_cons_succ]
  refine take_to 9 48 (.bool (!r)) rfl rfl (by kernel_rfl) (by kernel_rfl) (by kernel_rfl) (fun _ _ _ h => h) (Or.inl ⟨by rfl, fun w' _ => ?_⟩) hHeld ?_
  · go_simp
  try simp only [List.setIfInBounds_toArray, List.set_cons_zero, List.set_cons_succ]
  refine wpAnyH_done (by kernel_rfl) ?_ _
  clear hHeld kt hq hg16 a4
  cases r with
  | true =>
    have HE := HR.out.1 rfl
    have HE := hid HE
    clear HR
    go_wp2_with (refine wpList_lds rfl _ rfl _ rfl gc f (by with_reducible exact s0) ?_)
    have hsa := b0.size
    refine (kh gc _ cc (HBT.out.below b0)).mono ?_
    rintro e w5 ⟨g, rfl, o0, g2⟩
    have b0 := bel_bel b0 b0.size g2
    have o0 := o0.le hsa
    clear g2 kh s0 cc
    go_wp2_with fail
    go_ret2
    exact ⟨b0, .inl ⟨HE.out, g, rfl, o0⟩⟩
  | false =>
    have HE : Hid (¬ s.drop n = L) := fun h => by have := HR.out.2 h; simp at this
    clear HR
    go_wp2_with fail
    go_ret2
    exact ⟨b0, .inr ⟨HE.out, rfl⟩⟩

theorem open_ (a0 a1 a2 a3 : Option Addr) (c0 c1 n2 c2 n c3 : Nat) (key nz ad s : List Nat) (w : World) (hb0 : Bs w a0 32 (ic key)) (hb1 : Bs w a1 12 (ic nz)) (hb2 : Bs w a2 n2 (ic ad)) (hb3 : Bs w a3 (n + 16) (ic s)) (hy0 : ∀ x ∈ key, x < 256) (hy1 : ∀ x ∈ nz, x < 256) (hy2 : ∀ x ∈ ad, x < 256) (hy3 : ∀ x ∈ s, x < 256) (hn2 : n2 ≤ 65536) (hn3 : n ≤ 65536) (hcap : n + 16 ≤ c3) (hc2 : n2 ≤ c2) (hm2 : c2 ≤ maxLen) (hm3 : c3 ≤ maxLen) :
    Calls Try.prog 34 #[.slice a0 32 c0, .slice a1 12 c1, .slice a2 n2 c2, .slice a3 (n + 16 : Nat) c3] w fun e w' => Below w.heap.size w w' ∧ ((s.drop n = tl (kf key) nz ad (s.take n) ∧ ∃ a cap, e = .returned (.tuple #[.slice a n cap, .bool true]) ∧ Bs w' a n (ic (st (kf key) nz (s.take n))) ∧ n ≤ cap ∧ cap ≤ maxLen) ∨ (s.drop n ≠ tl (kf key) nz ad (s.take n) ∧ ∃ a cap, e = .returned (.tuple #[.slice a 0 cap, .bool false]))) := by
  refine (open_own a0 a1 a2 a3 c0 c1 n2 c2 n c3 key nz ad s w hb0 hb1 hb2 hb3 hy0 hy1 hy2 hy3 hn2 hn3 hcap hc2 hm2 hm3).mono ?_
  rintro e w' ⟨b0, ⟨h, g, rfl, o0⟩ | ⟨h, rfl⟩⟩
  · exact ⟨b0, .inl ⟨h, _, _, rfl, o0.bs (st_lt (kf_lt hy0) hy1 fun x hx => hy3 x (List.mem_of_mem_take hx)), by omega, by unfold maxLen; omega⟩⟩
  · exact ⟨b0, .inr ⟨h, _, _, rfl⟩⟩

set_option maxHeartbeats 1000000 in
theorem open_bad (a0 a1 a2 a3 : Option Addr) (n0 c0 n1 c1 n2 c2 n3 c3 : Nat) (zs : List Int) (s : List Nat) (w : World) (hb0 : Bs w a0 n0 zs) (hb3 : Bs w a3 n3 (ic s)) (hc3 : n3 ≤ c3) (h0 : n0 ≤ maxLen) (h1 : n1 ≤ maxLen) (h2 : n2 ≤ maxLen) (h3 : c3 ≤ maxLen) (hn : n0 ≠ 32 ∨ n1 ≠ 12 ∨ 65536 < n2 ∨ n3 < 16 ∨ 65552 < n3) :
    Calls Try.prog 34 #[.slice a0 n0 c0, .slice a1 n1 c1, .slice a2 n2 c2, .slice a3 n3 c3] w fun e w' => (∃ a cap, e = .returned (.tuple #[.slice a 0 cap, .bool false])) ∧ Below w.heap.size w w' := by
  by_cases e3 : n3 < 16
  · have b3 : decide ((n3 : Int) - 16 < 0) = true := decide_eq_true (by omega)
    have b3' : (n3 : Int) - 16 < 0 := by omega
    unfold maxLen at h0 h1 h2 h3
    clear e3 hn hb0 hb3
    go_enter Try.func34, Try.ntmps34
    go_wp2_with fail
    go_ret2
    exact ⟨⟨_, _, rfl⟩, Below.refl _ _⟩
  · obtain ⟨n, rfl⟩ : ∃ n, n3 = n + 16 := ⟨n3 - 16, by omega⟩
    obtain ⟨b, off, rfl⟩ : ∃ b off, a3 = some ⟨b, off, none⟩ := by
      rcases hb3.2.2 with h | ⟨b, off, e, hc⟩
      · omega
      · exact ⟨b, off, e⟩
    have k0 := fun w hb => ready_bad a0 a1 a2 (some ⟨b, off, none⟩) n0 c0 n1 c1 n2 c2 n c3 zs w hb h0 h1 h2 (by omega) (by omega)
    obtain ⟨q, Hq, hq⟩ : ∃ q : Int, Hid ((if n0 ≠ 32 then (40 : Int) else if n1 ≠ 12 then 50 else 51) = q) ∧ (q != 0) = true := by
      refine ⟨_, rfl, ?_⟩
      split
      · rfl
      · split <;> rfl
    simp only [Hq.out] at k0
    have hbd := bs_rest hb3 hc3 (m := n) (by omega)
    rw [if_neg (by omega), show n + 16 - n = 16 from by omega] at hbd
    have hbd : Bs w (some ⟨b, off + n, none⟩) 16 (ic (s.drop n)) := by rw [Option.map_some, Addr.add_mid] at hbd; exact hbd
    have kf1 := fun w hb => firstBlock_ (some ⟨b, off + n, none⟩) 16 (c3 - n) 16 (s.drop n) w hb (by unfold maxLen; omega) rfl
    generalize fb (s.drop n) = G at *
    have b3 : decide ((n : Int) < 0) = false := decide_eq_false (by omega)
    have hcI : (n : Int) ≤ (c3 : Int) := by omega
    have hc0 : ¬ c3 = 0 := by omega
    have hcn : ¬ c3 = n := by omega
    unfold maxLen at h0 h1 h2 h3
    clear e3 hn hb3
    go_enter Try.func34, Try.ntmps34
    go_wp2_with fail
    refine (kf1 _ hbd).mono ?_
    rintro e w1 ⟨rfl, b0⟩
    clear kf1 hbd b3 hcI hc0 hcn
    have b0 := b0.alloc b0.size (.cells (rw8 16 G) 96)
    go_wp2_with (first | (refine wpList_al rfl _ rfl 16 (by exact zeroa) ?_) | (refine wpList_stnr rfl rfl _ _ rfl _ _ G rfl rfl rfl (by simp [rw8_size]) ?_))
    generalize w1.alloc (.cells (rw8 16 G) 96) = w2 at *
    refine (k0 _ (hb0.below b0)).mono ?_
    rintro e w3 ⟨rfl, g2⟩
    have b0 := bel_bel b0 b0.size g2
    clear g2 k0 hb0
    have b0 := b0.alloc b0.size (.cells sz 93)
    go_wp2_with (first | (refine wpList_als rfl rfl ?_) | (refine wpList_stns rfl rfl _ _ rfl _ sz rfl rfl sz_size sz_one rfl ?_))
    generalize w3.alloc (.cells sz 93) = w4 at *
    go_quiet (fail)
    go_wp2_with fail
    go_ret2
    exact ⟨⟨_, _, rfl⟩, bel_drawn b0 _⟩
end Go.Proofs.Ytnjfckijpbgagaa
namespace Go.Proofs.Ytnjfckijpbgagaa
set_option maxRecDepth 100000
open Go.RowKit
set_option linter.unusedVariables false

set_option maxHeartbeats 4000000 in
theorem seal9_ (a0 : Option Addr) (n0 c0 : Nat) (ks : List Int) (S T K G C : Int) (a1 : Option Addr) (n1 c1 : Nat) (zs : List Int) (w : World) (hb0 : Bs w a0 n0 ks) (hb1 : Bs w a1 n1 zs) (hn0 : n0 ≤ maxLen) (hc1 : n1 ≤ c1) (hm1 : c1 ≤ maxLen) (hC : InU C) :
    Calls Try.prog 9 #[.slice a0 n0 c0, .int .i64 S, .agg #[.int .i64 T, .int .i64 K, .int .i64 G, .int .u64 C, .slice a1 n1 c1]] w fun e w' => ∃ v, e = .returned (.tuple #[v, .int .i64 (sE ks S T K G C zs)]) ∧ w'.ownsRow w.heap.size 5 1 v (sB ks S T K G C zs).length (cells (sB ks S T K G C zs)) ∧ Below w.heap.size w w' := by
  have B0 := knew w T K G C (.slice a1 n1 c1)
  have m0 := Km.new w T K G C (.slice a1 n1 c1)
  have l0 := hb0.1
  have l1 := hb1.1
  have hmx := hm1
  unfold maxLen at hn0 hm1
  by_cases hk : n0 = 32
  · subst hk
    have kp := fun w => putHead_ T K G C w hC
    have ks1 := fun w => validSide_ S w
    have kf1 := fun w => fitsC_ T (n1 : Int) w
    have kn := fun w => nonce_ S G C w hC
    have HE : Hid (sE ks S T K G C zs = if kOk ks S T K G C n1 then 0 else 90) := by
      show _ = _
      unfold sE
      rw [if_pos l0, l1]
    have HB : Hid (sB ks S T K G C zs = if kOk ks S T K G C n1 = true then hRow T K G C ++ sealt ks S T K G C zs else []) := by
      show _ = _
      unfold sB
      rw [l1]
      cases kOk ks S T K G C n1 with
      | false => simp
      | true => rw [if_pos ⟨l0, rfl⟩, if_pos rfl]
    have HKK : Hid (kOk ks S T K G C n1 = (decide (S = 0 ∨ S = 1) && (hOk T K G C && fit T n1))) := rfl
    go_enter Try.func9, Try.ntmps9
    go_wp2_with fail
    refine (kp _).mono ?_
    rintro e w1 ⟨v, rfl, o1, g2⟩
    replace m0 := m0.kept g2
    replace B0 := bel_bel B0 B0.size g2
    clear g2 kp
    have BAD : ∀ w2, Below w.heap.size w w2 → kOk ks S T K G C n1 = false → (∃ v, Ending.returned (.tuple #[.slice none 0 0, .int .i64 90]) = .returned (.tuple #[v, .int .i64 (sE ks S T K G C zs)]) ∧ w2.ownsRow w.heap.size 5 1 v (sB ks S T K G C zs).length (cells (sB ks S T K G C zs)) ∧ Below w.heap.size w w2) := fun w2 B2 h => by
      rw [HE.out, HB.out, h]
      exact ⟨_, rfl, World.ownsRow_nil _ _ _ _, B2⟩
    have HBAD := hid BAD
    clear BAD
    cases hh : hOk T K G C with
    | false =>
      have e1 : hE T K G C = 90 := by unfold hE; rw [hh]; rfl
      rw [hh, Bool.false_and, Bool.and_false] at HKK
      rw [e1]
      clear e1 hh kn ks1 kf1
      go_wp2_with fail
      go_ret2
      exact HBAD.out _ B0 HKK.out
    | true =>
      have e1 : hE T K G C = 0 := by unfold hE; rw [hh]; rfl
      have e2 : hB T K G C = hRow T K G C := by unfold hB; rw [hh]; rfl
      have HHB := hid (hRow_byte hh)
      have HHH := hid (hOk_in hh)
      rw [hh, Bool.true_and] at HKK
      rw [e1]
      rw [e2, hRow_length] at o1
      clear e1 e2 hh
      go_wp2_with fail
      refine (ks1 _).mono ?_
      rintro e w2 ⟨rfl, hw⟩
      obtain rfl := hw.symm
      clear hw ks1
      by_cases hS : S = 0 ∨ S = 1
      · rw [decide_eq_true hS, Bool.true_and] at HKK
        rw [decide_eq_true hS]
        have e3 : nOk S G C = true := by
          obtain ⟨h1, h2, h3, h4, h5, h6, h7⟩ := HHH.out
          exact decide_eq_true ⟨hS, h5, h6, h7⟩
        have e4 : nB S G C = nRow S G C := by unfold nB; rw [e3]; rfl
        rw [e4, nRow_length] at kn
        have d0 := m0.c0
        have d4 := m0.c4
        clear e3 e4 hS
        go_wp2_with fail
        refine (kf1 _).mono ?_
        rintro e w2 ⟨rfl, hw⟩
        obtain rfl := hw.symm
        clear hw kf1 d0 d4
        cases hf : fit T (n1 : Int) with
        | false =>
          rw [hf] at HKK
          clear hf kn
          go_wp2_with fail
          go_ret2
          exact HBAD.out _ B0 HKK.out
        | true =>
          rw [hf] at HKK
          have hn5 : n1 ≤ 65536 := by
            have := fit_in hf
            omega
          rw [HKK.out, if_pos rfl] at HE HB
          have d2 := m0.c2
          have d3 := m0.c3
          clear hf HBAD HKK
          go_wp2_with fail
          have d4 := m0.c4
          have hlt1 := m0.lt
          have HO1 := hid o1
          obtain ⟨ah, dh, rfl, yh, dh1, dh2, _⟩ := own_form o1 HHB.out
          have HBK : Hid (Bs w1 a0 32 (ic (nt ks))) := by show Bs _ _ _ _; rw [ic_nt hb0.2.1]; exact hb0.below B0
          have HBT : Hid (Bs w1 a1 n1 (ic (nt zs))) := by show Bs _ _ _ _; rw [ic_nt hb1.2.1]; exact hb1.below B0
          have HBH : Hid (Bs w1 ah 20 (ic (nt (hRow T K G C)))) := by show Bs _ _ _ _; rw [ic_nt HHB.out]; exact yh
          have HNR : Hid (ic (nt (nRow S G C)) = nRow S G C) := ic_nt (nRow_byte S G C)
          have HSL := hid (ic_bytes (sl_lt (ad := nt (hRow T K G C)) (kf_lt (nt_lt hb0.2.1)) (nt_lt (nRow_byte S G C)) (nt_lt hb1.2.1)))
          have kz := fun an dn w3 x0 x1 x2 x3 => seal_own a0 an ah a1 c0 dn 20 dh n1 c1 (nt ks) (nt (nRow S G C)) (nt (hRow T K G C)) (nt zs) w3 x0 x1 x2 x3 (nt_lt hb0.2.1) (nt_lt (nRow_byte S G C)) (nt_lt HHB.out) (nt_lt hb1.2.1) (by decide) hn5 dh1 dh2 hc1 hmx
          have BB := hid B0
          have hbs := B0.size
          clear o1 yh hb0 hb1 m0 B0
          go_region_held (fun wx => wx.cell? ⟨w.heap.size, 2, none⟩ = some (.int .i64 G) ∧ wx.cell? ⟨w.heap.size, 3, none⟩ = some (.int .u64 C) ∧ wx.cell? ⟨w.heap.size, 4, none⟩ = some (.slice a1 n1 c1)) (go_keep) (first | (go_at_call 23; refine (kn _).mono ?_; rintro e w3 ⟨vn, rfl, o3, g3⟩; obtain ⟨an, dn, rfl, yn, _⟩ := own_form o3 (nRow_byte S G C); have y2 := (g3.cell (p := ⟨w.heap.size, 2, none⟩) hlt1).trans d2; have y3 := (g3.cell (p := ⟨w.heap.size, 3, none⟩) hlt1).trans d3; have y4 := (g3.cell (p := ⟨w.heap.size, 4, none⟩) hlt1).trans d4; have X0 := hid (Bs.below (by exact HBK.out) g3); have X2 := hid (Bs.below (by exact HBH.out) g3); have X3 := hid (Bs.below (by exact HBT.out) g3); have X1 : Hid (Bs w3 an 12 (ic (nt (nRow S G C)))) := (by show Bs _ _ _ _; rw [HNR.out]; exact yn); have O3 : Hid (w3.ownsRow _ 5 1 (.slice ah 20 dh) 20 (cells (hRow T K G C))) := own_bel7 (by exact HO1.out) g3; have G3 := hid g3; clear yn o3 g3) | (go_at_call 27; refine (kz an dn w3 X0.out X1.out X2.out X3.out).mono ?_; rintro e w4 ⟨g, rfl, o4, g4⟩; have y2 := (g4.cell (p := ⟨w.heap.size, 2, none⟩) (by have := G3.out.size; exact Nat.lt_of_lt_of_le hlt1 this)).trans y2; have y3 := (g4.cell (p := ⟨w.heap.size, 3, none⟩) (by have := G3.out.size; exact Nat.lt_of_lt_of_le hlt1 this)).trans y3; have y4 := (g4.cell (p := ⟨w.heap.size, 4, none⟩) (by have := G3.out.size; exact Nat.lt_of_lt_of_le hlt1 this)).trans y4))
          have o5 : w4.ownsRow (w.heap.size + 1) 5 1 (.slice ah 20 dh) 20 (cells (hRow T K G C)) := own_le7 (own_bel7 O3.out g4) (by simp)
          have y5 : Bs w4 (some ⟨g, 0, none⟩) (n1 + 16) (sealt ks S T K G C zs) := by
            obtain ⟨a, cap, e, hb, _⟩ := own_form o4 HSL.out
            obtain ⟨rfl, -, rfl⟩ : some (⟨g, 0, none⟩ : Addr) = a ∧ n1 + 16 = n1 + 16 ∧ n1 + 16 = cap := by simpa using e
            exact hb
          have B1 : Below w.heap.size w w1.drew := ⟨BB.out.os, BB.out.tape, BB.out.output, BB.out.size, BB.out.block⟩
          have B5 := bel_bel (bel_bel B1 B1.size G3.out) (bel_bel B1 B1.size G3.out).size g4
          have hz5 := B5.size
          have hz6 : w.heap.size + 1 ≤ w4.heap.size := by
            have h1 := G3.out.size
            have h2 := g4.size
            have h3 : w.heap.size < w1.drew.heap.size := hlt1
            omega
          clear y2 y3 y4 g4 o4 X0 X1 X2 X3 O3 G3 kz kn
          go_wp2_with (at_builtin; refine wpList_app7 rfl _ _ rfl (w.heap.size + 1) (.slice ah 20 dh) 20 (hRow T K G C) rfl o5 (by decide) (some ⟨g, 0, none⟩) (n1 + 16) (n1 + 16) (sealt ks S T K G C zs) rfl y5 (by omega) hz6 ?_; intro v6 w6 o6 j6; have f6 : Below w.heap.size w w6 := B5.grown j6 hz5 fun p hp => (by have := (o5.lt p hp).1; omega))
          go_ret2
          refine ⟨_, by rw [HE.out]; rfl, ?_, f6⟩
          rw [HB.out]
          have e : (hRow T K G C ++ sealt ks S T K G C zs).length = 20 + (n1 + 16) := by
            rw [List.length_append, hRow_length, sealt_length, l1]
          rw [e]
          exact own_le7 o6 (Nat.le_succ _)
      · rw [decide_eq_false hS, Bool.false_and] at HKK
        rw [decide_eq_false hS]
        clear hS kn kf1
        go_wp2_with fail
        go_ret2
        exact HBAD.out _ B0 HKK.out
  · have hI : ((n0 : Int) != 32) = true := by rw [bne_iff_ne]; omega
    have HE : Hid (sE ks S T K G C zs = 40) := by
      show _ = _
      unfold sE
      rw [if_neg (by omega)]
    have HB : Hid (sB ks S T K G C zs = []) := by
      show _ = _
      unfold sB
      rw [if_neg (fun h => hk (by omega))]
    clear hk
    go_enter Try.func9, Try.ntmps9
    go_wp2_with fail
    go_ret2
    rw [HE.out, HB.out]
    exact ⟨_, rfl, World.ownsRow_nil _ _ _ _, B0⟩
end Go.Proofs.Ytnjfckijpbgagaa
