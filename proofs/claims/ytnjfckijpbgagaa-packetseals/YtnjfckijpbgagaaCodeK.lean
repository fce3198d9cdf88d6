import Derived.Test.YtnjfckijpbgagaaG5
import Derived.Test.YtnjfckijpbgagaaGBase
namespace Go.Proofs.Ytnjfckijpbgagaa
set_option maxRecDepth 100000
open Go.RowKit
set_option linter.unusedVariables false

theorem built0 : Try.prog.built 96 [] = some (av fun _ => 0) := by kernel_rfl
theorem Se.rng0 {w : World} {g gc : Nat} {f : Nat → Nat} (h : Se w g gc f) : w.rangeAt g 0 (sv gc f).toList := fun j v hv => by
  rw [Nat.zero_add, cell_of_row w g j _ _ (0, 0) h]
  simpa using hv
theorem yields_se {ops : Array Oper} {S : World → Prop} {o : Oper} {a : Act} (hw : Region.wanted o (yielded ops a.tmps) = true) (x : Operand) (ho : o.op = .load 93 x) (g gc : Nat) (f : Nat → Nat) (hx : a.eval x = .pointer (some ⟨g, 0, none⟩))
    (hS : ∀ w, S w → Se w g gc f) : YieldsIf Try.prog ops S o (.agg (sv gc f)) a := by
  obtain ⟨d, hu, hd⟩ := Option.map_eq_some_iff.1 unders
  have := yieldsIf_load_mid (P := Try.prog) (ops := ops) (S := S) hw _ x ho g 0 hx (sv gc f).toList d (fun w h => (hS w h).rng0) hu hd (by rw [Array.length_toList, sv_size]; exact sizes)
  simpa using this
set_option maxHeartbeats 2000000 in
theorem tag5_ (gc : Nat) (k : Nat → Nat) (nz : List Nat) (a2 : Option Addr) (n2 c2 : Nat) (ad : List Nat) (a3 : Option Addr) (n3 c3 : Nat) (ct : List Nat) (w : World) (cc : Cp w gc k) (hk : ∀ j, k j < 256) (hl : nz.length = 12) (hy : ∀ x ∈ nz, x < 256) (hb2 : Bs w a2 n2 (ic ad)) (hc2 : n2 ≤ c2) (hm2 : c2 ≤ maxLen) (hy2 : ∀ x ∈ ad, x < 256) (hb3 : Bs w a3 n3 (ic ct)) (hc3 : n3 ≤ c3) (hm3 : c3 ≤ maxLen) (hy3 : ∀ x ∈ ct, x < 256) (hn2 : n2 ≤ 65536) (hn3 : n3 ≤ 65536) :
    Calls Try.prog 54 #[.agg (sv gc (fb nz)), .slice a2 n2 c2, .slice a3 n3 c3] w fun e w' => e = .returned (.agg (rw8 16 (tg k nz ad ct))) ∧ Below w.heap.size w w' := by
  have hl2 : ad.length = n2 := by have := hb2.1; rwa [ic_length] at this
  have hl3 : ct.length = n3 := by have := hb3.1; rwa [ic_length] at this
  have z0 : ∀ i, i < 16 → (fun _ : Nat => 0) i < 256 := fun _ _ => by show 0 < 256; omega
  have hH := bl_lt hk (f := fun _ => 0) (fun _ _ => by omega) 14
  have kb := fun w cc => block8_ gc k (fun _ => 0) w cc hk (fun _ _ => by omega)
  have kl := fun w => bitLengths_ a2 a3 n2 c2 n3 c3 w hn2 hn3
  have LY : ∀ x ∈ e8 (8 * n2) ++ e8 (8 * n3), x < 256 := fun x hx => by
    rcases List.mem_append.1 hx with h | h
    · exact e8_lt _ x h
    · exact e8_lt _ x h
  have LL : (e8 (8 * n2) ++ e8 (8 * n3)).length = 16 := by rw [List.length_append, e8_length, e8_length]
  have k1 := fun w hb => fold_ (fun _ => 0) (bl k (fun _ => 0) 14) a2 n2 c2 ad w hb hc2 hm2 z0 hH hy2
  have h1 := fo_lt (h := bl k (fun _ => 0) 14) (b := ad) z0
  have k2 := fun w hb => fold_ (fo (bl k (fun _ => 0) 14) ad fun _ => 0) (bl k (fun _ => 0) 14) a3 n3 c3 ct w hb hc3 hm3 h1 hH hy3
  have h2 := fo_lt (h := bl k (fun _ => 0) 14) (b := ct) h1
  have k3 := fun g w hb => fold_ (fo (bl k (fun _ => 0) 14) ct (fo (bl k (fun _ => 0) 14) ad fun _ => 0)) (bl k (fun _ => 0) 14) (some ⟨g, 0, none⟩) 16 16 (e8 (8 * n2) ++ e8 (8 * n3)) w hb (by omega) (by unfold maxLen; omega) h2 hH LY
  have h3 := fo_lt (h := bl k (fun _ => 0) 14) (b := e8 (8 * n2) ++ e8 (8 * n3)) h2
  have kc := fun w cc => counted_ gc 1 k nz w cc hk hl hy (by omega)
  have hC := bl_lt hk (cb_lt hy 1) 14
  have kx := fun w => xor16_ _ _ w h3 hC
  have HT : Hid (xr (fo (bl k (fun _ => 0) 14) (e8 (8 * n2) ++ e8 (8 * n3)) (fo (bl k (fun _ => 0) 14) ct (fo (bl k (fun _ => 0) 14) ad fun _ => 0))) (bl k (cb nz 1) 14) = tg k nz ad ct) := by
    show _ = _
    unfold tg xr
    rw [hl2, hl3]
  rw [HT.out] at kx
  obtain ⟨f, Hf⟩ : ∃ f, Hid (fb nz = f) := ⟨_, rfl⟩
  obtain ⟨tt, Ht⟩ : ∃ f, Hid (tg k nz ad ct = f) := ⟨_, rfl⟩
  rw [Ht.out] at kx ⊢
  simp only [Hf.out] at kc
  rw [Hf.out]
  obtain ⟨E, HE⟩ : ∃ E, Hid (e8 (8 * n2) ++ e8 (8 * n3) = E) := ⟨_, rfl⟩
  obtain ⟨EF, HEF⟩ : ∃ EF, Hid ((fun i => (e8 (8 * n2) ++ e8 (8 * n3)).getD i 0) = EF) := ⟨_, rfl⟩
  have HEG : Hid (∀ i, i < 16 → EF (0 + i) = E.getD i 0) := fun i _ => by rw [← HEF.out, ← HE.out, Nat.zero_add]
  rw [HEF.out] at kl
  rw [HE.out] at LL LY
  simp only [HE.out] at k3 kx h3
  have HLL := hid LL
  have HLY := hid LY
  clear hl2 hl3 h1 h2 h3 hC LL LY z0 HT
  generalize fo (bl k (fun _ => 0) 14) E (fo (bl k (fun _ => 0) 14) ct (fo (bl k (fun _ => 0) 14) ad fun _ => 0)) = s3 at *
  generalize fo (bl k (fun _ => 0) 14) ct (fo (bl k (fun _ => 0) 14) ad fun _ => 0) = s2 at *
  generalize fo (bl k (fun _ => 0) 14) ad (fun _ => 0) = s1 at *
  generalize bl k (cb nz 1) 14 = ctr at *
  generalize bl k (fun _ => 0) 14 = H at *
  have hgl := cc.lt
  obtain ⟨s0, b0⟩ := snew w gc f
  have HB2 := hid hb2
  have HB3 := hid hb3
  have a1 := Rw.new (w.alloc (.cells (sv gc f) 93)) 96 16 (fun _ => 0)
  rw [World.size_alloc] at a1
  have s0 := s0.alloc (.cells (rw8 16 fun _ => 0) 96)
  have b0 := b0.alloc (by simp) (.cells (rw8 16 fun _ => 0) 96)
  have cc := cc.kept b0
  have cp := s0.ptr
  clear hH hb2 hb3 hy2 hy3 hk hy
  go_enter Try.func54, Try.ntmps54
  go_wp2_with (first | (refine wpList_al rfl _ rfl 16 (by exact zeroa) ?_) | (refine wpList_blda rfl _ rfl [] rfl (fun _ => 0) (by exact built0) ?_))
  generalize (w.alloc (.cells (sv gc f) 93)).alloc (.cells (rw8 16 fun _ => 0) 96) = wa at *
  refine (kb _ cc).mono ?_
  rintro e w1 ⟨rfl, g2⟩
  have bs1 := a1.lt
  have s0 := s0.kept g2
  have a1 := a1.kept g2
  have cc := cc.kept g2
  have b0 := bel_bel b0 b0.size g2
  have l1 := a1.lt
  clear g2 kb cp
  have s0 := s0.alloc (.cells (rw8 16 H) 96)
  have a1 := a1.alloc (.cells (rw8 16 H) 96)
  have cc := cc.alloc (.cells (rw8 16 H) 96)
  have a2r := Rw.new w1 96 16 H
  have b0 := b0.alloc b0.size (.cells (rw8 16 H) 96)
  go_wp2_with (first | (refine wpList_al rfl _ rfl 16 (by exact zeroa) ?_) | (refine wpList_stnr rfl rfl _ _ rfl _ _ H rfl rfl rfl (by simp [rw8_size]) ?_))
  generalize w1.heap.size = gh at *
  generalize w1.alloc (.cells (rw8 16 H) 96) = w2 at *
  refine (kl _).mono ?_
  rintro e w3 ⟨rfl, g2⟩
  have s0 := s0.kept g2
  have a1 := a1.kept g2
  have cc := cc.kept g2
  have a2r := a2r.kept g2
  have b0 := bel_bel b0 b0.size g2
  have l2 := a2r.lt
  clear g2 kl
  have s0 := s0.alloc (.cells (rw8 16 EF) 96)
  have a1 := a1.alloc (.cells (rw8 16 EF) 96)
  have cc := cc.alloc (.cells (rw8 16 EF) 96)
  have a2r := a2r.alloc (.cells (rw8 16 EF) 96)
  have a3r := Rw.new w3 96 16 EF
  have b0 := b0.alloc b0.size (.cells (rw8 16 EF) 96)
  go_wp2_with (first | (refine wpList_al rfl _ rfl 16 (by exact zeroa) ?_) | (refine wpList_stnr rfl rfl _ _ rfl _ _ EF rfl rfl rfl (by simp [rw8_size]) ?_) | (refine wpList_blda rfl _ rfl [] rfl (fun _ => 0) (by exact built0) ?_) | (refine wpList_ldw rfl _ _ rfl _ rfl _ _ 16 _ (by with_reducible exact a2r) (by omega) _ (by exact under16) rfl (by exact size16) ?_))
  generalize w3.heap.size = ge at *
  generalize w3.alloc (.cells (rw8 16 EF) 96) = w4 at *
  refine (k1 _ (HB2.out.below b0)).mono ?_
  rintro e w5 ⟨rfl, g2⟩
  have s0 := s0.kept g2
  have a1 := a1.kept g2
  have cc := cc.kept g2
  have a2r := a2r.kept g2
  have a3r := a3r.kept g2
  have b0 := bel_bel b0 b0.size g2
  have l3 := a3r.lt
  clear g2 k1
  have s0 := s0.alloc (.cells (rw8 16 s1) 96)
  have a1 := a1.alloc (.cells (rw8 16 s1) 96)
  have cc := cc.alloc (.cells (rw8 16 s1) 96)
  have a2r := a2r.alloc (.cells (rw8 16 s1) 96)
  have a3r := a3r.alloc (.cells (rw8 16 s1) 96)
  have a4r := Rw.new w5 96 16 s1
  have b0 := b0.alloc b0.size (.cells (rw8 16 s1) 96)
  go_wp2_with (first | (refine wpList_al rfl _ rfl 16 (by exact zeroa) ?_) | (refine wpList_stnr rfl rfl _ _ rfl _ _ s1 rfl rfl rfl (by simp [rw8_size]) ?_) | (refine wpList_ldw rfl _ _ rfl _ rfl _ _ 16 _ (by with_reducible exact a4r) (by omega) _ (by exact under16) rfl (by exact size16) ?_) | (refine wpList_ldw rfl _ _ rfl _ rfl _ _ 16 _ (by with_reducible exact a2r) (by omega) _ (by exact under16) rfl (by exact size16) ?_))
  generalize w5.heap.size = gt at *
  generalize w5.alloc (.cells (rw8 16 s1) 96) = w6 at *
  refine (k2 _ (HB3.out.below b0)).mono ?_
  rintro e w7 ⟨rfl, g2⟩
  have s0 := s0.kept g2
  have a1 := a1.kept g2
  have cc := cc.kept g2
  have a2r := a2r.kept g2
  have a3r := a3r.kept g2
  have a4r := a4r.kept g2
  have b0 := bel_bel b0 b0.size g2
  clear g2 k2
  go_wp2_with (refine wpList_stm rfl rfl _ _ _ rfl gt 0 rfl 16 s2 rfl _ _ _ (by with_reducible exact a4r) (by omega) (by exact size16) ?_)
  have s0 := s0.omid (g' := gt) (by omega) 0 (rw8 16 s2).toList
  have a1 := a1.omid (g' := gt) (by omega) 0 (rw8 16 s2).toList
  have cc := cc.omid (g' := gt) (by omega) 0 (rw8 16 s2).toList
  have a2r := a2r.omid (g' := gt) (by omega) 0 (rw8 16 s2).toList
  have a3r := a3r.omid (g' := gt) (by omega) 0 (rw8 16 s2).toList
  have a4r := a4r.whole s2
  have b0 := bel_cells (g := gt) (by omega) (rw8 16 s2).toList 0 _ b0
  generalize w7.setCells gt 0 (rw8 16 s2).toList = w8 at *
  refine wp_region_held_drew (S := fun wx => Rw wx gh 96 16 H ∧ Rw wx ge 96 16 EF) (by kernel_rfl) ⟨a2r.drew, a3r.drew⟩ (fun hHeld => ?_)
  have s0 := s0.drew
  have a1 := a1.drew
  have cc := cc.drew
  have a2r := a2r.drew
  have a3r := a3r.drew
  have a4r := a4r.drew
  have b0 := bel_drew1 b0
  generalize w8.drew = wd at *
  refine take_to 1 26 (.agg (rw8 16 H)) rfl rfl (by kernel_rfl) (by kernel_rfl) (by kernel_rfl) (fun _ _ _ h => h) (yields_rng (by rfl) _ _ rfl (gh) 0 16 _ rfl (fun w' h => h.1.rng0) _ under16 rfl size16) hHeld ?_
  try simp only [List.setIfInBounds_toArray, List.set_cons_zero, List.set_cons_succ]
  refine take_to 2 27 (.slice (some ⟨ge, 0, none⟩) 16 16) rfl rfl (by kernel_rfl) (by kernel_rfl) (by kernel_rfl) (fun _ _ _ h => h) (Or.inl ⟨by rfl, fun w' _ => ?_⟩) hHeld ?_
  · go_simp
  try simp only [List.setIfInBounds_toArray, List.set_cons_zero, List.set_cons_succ]
  refine wpAnyH_ready (rs := [0]) (by kernel_rfl) (by simp) ?_
  refine AllReadyH.cons rfl (fun K hK => ?_) AllReadyH.nil
  rw [if_pos (by rfl)]
  refine wp_ldw (some 25) rfl _ _ rfl _ rfl _ 16 _ (by with_reducible exact a4r) _ under16 rfl size16 ?_
  refine hK.out _ _ ⟨a2r, a3r⟩ (fun hHeld => ?_)
  clear hK K
  try simp only [Act.put, List.setIfInBounds_toArray, List.set_cons_zero, List.set_cons_succ]
  refine wpAnyH_ready (rs := [3]) (by kernel_rfl) (by simp) ?_
  refine AllReadyH.cons rfl (fun K hK => ?_) AllReadyH.nil
  rw [if_pos (by rfl)]
  go_wp2_with fail
  refine (k3 ge _ (a3r.bs 0 16 E (by omega) HLL.out HLY.out HEG.out)).mono ?_
  rintro e wx ⟨rfl, g2⟩
  have s0 := s0.kept g2
  have a1 := a1.kept g2
  have cc := cc.kept g2
  have a2r := a2r.kept g2
  have a3r := a3r.kept g2
  have a4r := a4r.kept g2
  have b0 := bel_bel b0 b0.size g2
  clear g2 hHeld
  try go_wp2_with fail
  refine hK.out _ _ ⟨a2r, a3r⟩ (fun hHeld => ?_)
  clear hK K
  try simp only [Act.put, List.setIfInBounds_toArray, List.set_cons_zero, List.set_cons_succ]
  refine wpAnyH_ready (rs := [4]) (by kernel_rfl) (by simp) ?_
  refine AllReadyH.cons rfl (fun K hK => ?_) AllReadyH.nil
  rw [if_pos (by rfl)]
  refine wp_stm rfl _ _ _ rfl (gt) 0 rfl 16 s3 rfl _ _ _ (by with_reducible exact a4r) (by omega) size16 ?_
  have s0 := s0.omid (g' := gt) (by omega) 0 (rw8 16 s3).toList
  have a1 := a1.omid (g' := gt) (by omega) 0 (rw8 16 s3).toList
  have cc := cc.omid (g' := gt) (by omega) 0 (rw8 16 s3).toList
  have a2r := a2r.omid (g' := gt) (by omega) 0 (rw8 16 s3).toList
  have a3r := a3r.omid (g' := gt) (by omega) 0 (rw8 16 s3).toList
  have a4r := a4r.whole s3
  have b0 := bel_cells (B := w.heap.size) (g := gt) (by omega) (rw8 16 s3).toList 0 _ b0
  refine hK.out _ _ ⟨a2r, a3r⟩ (fun hHeld => ?_)
  clear hK K
  try simp only [Act.put, List.setIfInBounds_toArray, List.set_cons_zero, List.set_cons_succ]
  generalize wx.setCells (gt) 0 (rw8 16 s3).toList = we at *
  refine wpAnyH_done (by kernel_rfl) ?_ _
  clear hHeld k3
  go_wp2_with fail
  clear a2r a3r
  refine wp_region_held_drew (S := fun wx => Rw wx gt 96 16 s3 ∧ Se wx w.heap.size gc f) (by kernel_rfl) ⟨a4r.drew, s0.drew⟩ (fun hHeld => ?_)
  have s0 := s0.drew
  have a1 := a1.drew
  have cc := cc.drew
  have a4r := a4r.drew
  have b0 := bel_drew1 b0
  generalize we.drew = wd at *
  refine take_to 0 29 (.agg (rw8 16 s3)) rfl rfl (by kernel_rfl) (by kernel_rfl) (by kernel_rfl) (fun _ _ _ h => h) (yields_rng (by rfl) _ _ rfl (gt) 0 16 _ rfl (fun w' h => h.1.rng0) _ under16 rfl size16) hHeld ?_
  try simp only [List.setIfInBounds_toArray, List.set_cons_zero, List.set_cons_succ]
  refine take_to 1 30 (.agg (sv gc f)) rfl rfl (by kernel_rfl) (by kernel_rfl) (by kernel_rfl) (fun _ _ _ h => h) (yields_se (by rfl) _ rfl (w.heap.size) gc f rfl (fun w' h => h.2)) hHeld ?_
  try simp only [List.setIfInBounds_toArray, List.set_cons_zero, List.set_cons_succ]
  refine wpAnyH_ready (rs := [2]) (by kernel_rfl) (by simp) ?_
  refine AllReadyH.cons rfl (fun K hK => ?_) AllReadyH.nil
  rw [if_pos (by rfl)]
  go_wp2_with fail
  refine (kc _ cc).mono ?_
  rintro e wy ⟨rfl, g2⟩
  have s0 := s0.kept g2
  have a1 := a1.kept g2
  have cc := cc.kept g2
  have a4r := a4r.kept g2
  have b0 := bel_bel b0 b0.size g2
  clear g2 hHeld
  try go_wp2_with fail
  refine hK.out _ _ ⟨a4r, s0⟩ (fun hHeld => ?_)
  clear hK K
  try simp only [Act.put, List.setIfInBounds_toArray, List.set_cons_zero, List.set_cons_succ]
  refine wpAnyH_ready (rs := [3]) (by kernel_rfl) (by simp) ?_
  refine AllReadyH.cons rfl (fun K hK => ?_) AllReadyH.nil
  rw [if_pos (by rfl)]
  go_wp2_with fail
  refine (kx _).mono ?_
  rintro e wz ⟨rfl, g2⟩
  have s0 := s0.kept g2
  have a1 := a1.kept g2
  have cc := cc.kept g2
  have a4r := a4r.kept g2
  have b0 := bel_bel b0 b0.size g2
  clear g2 hHeld
  try go_wp2_with fail
  refine hK.out _ _ ⟨a4r, s0⟩ (fun hHeld => ?_)
  clear hK K
  try simp only [Act.put, List.setIfInBounds_toArray, List.set_cons_zero, List.set_cons_succ]
  refine wpAnyH_ready (rs := [4]) (by kernel_rfl) (by simp) ?_
  refine AllReadyH.cons rfl (fun K hK => ?_) AllReadyH.nil
  rw [if_pos (by rfl)]
  refine wp_stm rfl _ _ _ rfl (w.heap.size + 1) 0 rfl 16 tt rfl _ _ _ (by with_reducible exact a1) (by omega) size16 ?_
  have s0 := s0.omid (g' := w.heap.size + 1) (by omega) 0 (rw8 16 tt).toList
  have cc := cc.omid (g' := w.heap.size + 1) (by omega) 0 (rw8 16 tt).toList
  have a4r := a4r.omid (g' := w.heap.size + 1) (by omega) 0 (rw8 16 tt).toList
  have a1 := a1.whole tt
  have b0 := bel_cells (B := w.heap.size) (g := w.heap.size + 1) (by omega) (rw8 16 tt).toList 0 _ b0
  refine hK.out _ _ ⟨a4r, s0⟩ (fun hHeld => ?_)
  clear hK K
  try simp only [Act.put, List.setIfInBounds_toArray, List.set_cons_zero, List.set_cons_succ]
  generalize wz.setCells (w.heap.size + 1) 0 (rw8 16 tt).toList = wf at *
  refine wpAnyH_done (by kernel_rfl) ?_ _
  clear hHeld kc kx
  go_wp2_with fail
  refine bodyPost_ret (v := .agg (rw8 16 tt)) ?_ rfl ⟨rfl, b0⟩
  exact results_rw rfl _ _ (w.heap.size + 1) 16 tt _ rfl a1 under16 rfl size16
end Go.Proofs.Ytnjfckijpbgagaa
namespace Go.Proofs.Ytnjfckijpbgagaa
set_option maxRecDepth 100000
open Go.RowKit
set_option linter.unusedVariables false

theorem underW : Try.prog.underlying 149 = some (.array 60 148) := by kernel_rfl
theorem sizeW : (Try.prog.info? 149).map (·.size) = some 240 := by kernel_rfl
theorem zeroW : (Try.prog.info? 149).map (·.zero) = some (some (.agg (rw8 240 fun _ => 0))) := by kernel_rfl
theorem zerok : (Try.prog.info? 144).map (·.zero) = some (some (.agg (rw8 240 fun _ => 0))) := by kernel_rfl
set_option maxRecDepth 100000 in
set_option maxHeartbeats 1000000 in
theorem roundKeys_ (f : Nat → Nat) (w : World) :
    Calls Try.prog 92 #[.agg (rw8 240 f)] w fun e w' => e = .returned (.agg (rw8 240 f)) ∧ Below w.heap.size w w' := by
  obtain ⟨A0, A1, A2, B0⟩ := rnew3 w 149 240 f 144 240 (fun _ => 0) 144 240 (fun _ => 0)
  go_enter Try.func92, Try.ntmps92
  go_wp2_with (refine wpList_al rfl _ rfl 240 (by exact zerok) ?_)
  generalize ((w.alloc (.cells (rw8 240 f) 149)).alloc (.cells (rw8 240 fun _ => 0) 144)).alloc (.cells (rw8 240 fun _ => 0) 144) = w1 at *
  go_loopw [5] (fun i wr => ∃ j : Nat, j ≤ 15 ∧ i = .int .i64 j ∧ Rw wr w.heap.size 149 240 f ∧ Rw wr (w.heap.size + 1) 144 240 (fun _ => 0) ∧ Rw wr (w.heap.size + 1 + 1) 144 240 (mix (16 * j) f fun _ => 0) ∧ Below w.heap.size w wr) (fun i _ => 15 - (intOf i).toNat)
  case atStart => exact ⟨0, by omega, rfl, A0, A1, by rw [Nat.mul_zero, mix0]; exact A2, B0⟩
  case round =>
    obtain ⟨j, hj, rfl, a0, a1, a2, b0⟩ := hrel
    clear A0 A1 A2 B0
    by_cases hlt : j < 15
    · have sr := run_arr 160 4 148 underws
      have sc := fun w' => run_cut4 149 60 148 4 underW sizew w.heap.size j (16 * j) (by omega) (by omega) w'
      have k1 := fun w => joinColumns_ (from8 (16 * j) f) w
      have s0 := b0.size
      go_wp2_with (refine wpList_ldm rfl _ _ rfl w.heap.size (16 * j) rfl _ _ 16 f (by with_reducible exact a0) (by omega) _ (by exact underws) rfl (by exact sizews) ?_)
      refine (k1 _).mono ?_
      rintro e w2 ⟨rfl, g⟩
      have a0 := a0.kept g
      have a1 := a1.kept g
      have a2 := a2.kept g
      have b0 := bel_bel b0 s0 g
      clear g k1 s0 sc sr
      go_wp2_with (refine wpList_stm rfl rfl _ _ _ rfl (w.heap.size + 1 + 1) (j * 16) rfl 16 (from8 (16 * j) f) rfl _ _ _ (by with_reducible exact a2) (by omega) (by exact size16) ?_; rw [Nat.mul_comm j 16])
      have A0 := a0.omid (g' := w.heap.size + 1 + 1) (by omega) (16 * j) (rw8 16 (from8 (16 * j) f)).toList
      have A1 := a1.omid (g' := w.heap.size + 1 + 1) (by omega) (16 * j) (rw8 16 (from8 (16 * j) f)).toList
      have A2 := a2.stepm
      have B3 : Below w.heap.size w (w2.setCells (w.heap.size + 1 + 1) (16 * j) (rw8 16 (from8 (16 * j) f)).toList) := bel_cells (by omega) _ _ _ b0
      clear a0 a1 a2 b0
      generalize w2.setCells (w.heap.size + 1 + 1) (16 * j) (rw8 16 (from8 (16 * j) f)).toList = w3 at *
      go_roundw
      case rel => exact ⟨j + 1, by omega, by go_num, A0, A1, A2, B3⟩
      case measure => simp [intOf]; omega
    · obtain rfl : j = 15 := by omega
      have a2 := a2.full
      go_wp2_with (first | (refine wpList_ldw rfl _ _ rfl _ rfl _ _ 240 _ (by with_reducible exact a2) (by omega) _ (by exact underk) rfl (by exact sizek) ?_) | (refine wpList_stm rfl rfl _ _ _ rfl (w.heap.size + 1) 0 rfl 240 f rfl _ _ _ (by with_reducible exact a1) (by omega) (by exact sizek) ?_))
      refine bodyPost_ret (v := .agg (rw8 240 f)) ?_ rfl ⟨rfl, bel_cells (by omega) _ _ _ b0⟩
      exact results_rw rfl _ _ (w.heap.size + 1) 240 f _ rfl (a1.whole _) underk rfl sizek
end Go.Proofs.Ytnjfckijpbgagaa
