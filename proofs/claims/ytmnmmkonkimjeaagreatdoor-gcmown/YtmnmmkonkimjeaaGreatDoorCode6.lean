import Derived.Test.YtmnmmkonkimjeaaGreatDoorG7
import Derived.Test.YtmnmmkonkimjeaaGreatDoorRefZ
namespace Go.Proofs.YtmnmmkonkimjeaaGreatDoor
open Go.RowKit
set_option linter.unusedVariables false
set_option maxRecDepth 100000

theorem wpList_stns {ops : Array Oper} {rest : List Oper} {o : Oper} {a : Act} {w : World} {Q : Exit → Act → World → Prop} (hgd : o.guard = none) (hdst : o.dst = none) (x y : Operand) (ho : o.op = .store 60 x y)
    (g : Nat) (vs : Array Value) (hx : a.eval x = .pointer (some ⟨g, 0, none⟩)) (hy : a.eval y = .agg vs) (hs : vs.size = 13) (h1 : vs.all (·.oneCell') = true) (hg : w.heap.size = g)
    (h : wpList Tryz.prog ops Q rest a (w.alloc (.cells vs 60))) : wpList Tryz.prog ops Q (o :: rest) a (w.alloc (.cells sz 60)) := by
  subst hg
  refine wpList_sts hgd hdst x y ho w.heap.size vs hx hy hs h1 sz sz_size (heap_alloc_new w _) ?_
  rw [World.setRow_alloc_new]
  exact h
theorem Ob.le {w : World} {B B' g p cap : Nat} {xs : List Nat} (h : Ob w B g p cap xs) (hB : B' ≤ B) : Ob w B' g p cap xs := own_le h hB
theorem Ob.bs {w : World} {B g p cap : Nat} {xs : List Nat} (h : Ob w B g p cap xs) (hy : ∀ x ∈ xs, x < 256) : Bs w (some ⟨g, 0, none⟩) p (ic xs) := by
  obtain ⟨a, c, e, hb, _⟩ := own_form h (ic_bytes hy)
  simp at e
  obtain ⟨rfl, rfl⟩ := e
  exact hb

set_option maxHeartbeats 1000000 in
theorem seal_bad (a0 a1 a2 a3 : Option Addr) (n0 c0 n1 c1 n2 c2 n3 c3 : Nat) (zs : List Int) (w : World) (hb0 : Bs w a0 n0 zs) (h0 : n0 ≤ maxLen) (h1 : n1 ≤ maxLen) (h2 : n2 ≤ maxLen) (h3 : n3 ≤ maxLen) (hn : n0 ≠ 32 ∨ n1 ≠ 12 ∨ 65536 < n2 ∨ 65536 < n3) :
    Calls Tryz.prog 6 #[.slice a0 n0 c0, .slice a1 n1 c1, .slice a2 n2 c2, .slice a3 n3 c3] w fun e w' => (∃ a cap, e = .returned (.tuple #[.slice a 0 cap, .int .i64 (if n0 ≠ 32 then 40 else if n1 ≠ 12 then 50 else 51)])) ∧ Below w.heap.size w w' := by
  have k0 := fun w hb => ready_bad a0 a1 a2 a3 n0 c0 n1 c1 n2 c2 n3 c3 zs w hb h0 h1 h2 h3 hn
  obtain ⟨q, Hq, hq⟩ : ∃ q : Int, Hid ((if n0 ≠ 32 then (40 : Int) else if n1 ≠ 12 then 50 else 51) = q) ∧ (q != 0) = true := by
    refine ⟨_, rfl, ?_⟩
    split
    · rfl
    · split <;> rfl
  simp only [Hq.out] at k0
  rw [Hq.out]
  clear hn
  unfold maxLen at h0 h1 h2 h3
  go_enter Tryz.func6, Tryz.ntmps6
  go_wp2_with fail
  refine (k0 _ hb0).mono ?_
  rintro e w1 ⟨rfl, b0⟩
  have b0 := b0.alloc b0.size (.cells sz 60)
  clear k0 hb0
  go_wp2_with (first | (refine wpList_als rfl rfl ?_) | (refine wpList_stns rfl rfl _ _ rfl _ sz rfl rfl sz_size sz_one rfl ?_))
  go_ret2
  exact ⟨⟨_, _, rfl⟩, b0⟩

set_option maxHeartbeats 2000000 in
theorem seal_own (a0 a1 a2 a3 : Option Addr) (c0 c1 n2 c2 n3 c3 : Nat) (key nz ad t : List Nat) (w : World) (hb0 : Bs w a0 32 (ic key)) (hb1 : Bs w a1 12 (ic nz)) (hb2 : Bs w a2 n2 (ic ad)) (hb3 : Bs w a3 n3 (ic t)) (hy0 : ∀ x ∈ key, x < 256) (hy1 : ∀ x ∈ nz, x < 256) (hy2 : ∀ x ∈ ad, x < 256) (hy3 : ∀ x ∈ t, x < 256) (hn2 : n2 ≤ 65536) (hn3 : n3 ≤ 65536) (hc2 : n2 ≤ c2) (hm2 : c2 ≤ maxLen) (hc3 : n3 ≤ c3) (hm3 : c3 ≤ maxLen) :
    Calls Tryz.prog 6 #[.slice a0 32 c0, .slice a1 12 c1, .slice a2 n2 c2, .slice a3 n3 c3] w fun e w' => ∃ g, e = .returned (.tuple #[.slice (some ⟨g, 0, none⟩) (n3 + 16) (n3 + 16), .int .i64 0]) ∧ Ob w' w.heap.size g (n3 + 16) (n3 + 16) (sl (kf key) nz ad t) ∧ Below w.heap.size w w' := by
  have HK : Hid (∀ j, kf key j < 256) := kf_lt hy0
  have k0 := fun w hb0 hb1 => ready_ a0 a1 a2 a3 c0 c1 n2 c2 n3 c3 key nz w hb0 hb1 hn2 hn3
  have hl1 : nz.length = 12 := by have := hb1.1; rwa [ic_length] at this
  have hl3 : t.length = n3 := by have := hb3.1; rwa [ic_length] at this
  generalize kf key = k at *
  have HCY := hid (st_lt (k := k) (nz := nz) HK.out hy1 hy3)
  have kh := fun gc w cc hb => hide_ gc k nz a3 n3 c3 t w cc HK.out hl1 hy1 hb hc3 hm3 hy3 hn3
  have kt := fun gc g w cc hb2 hb3 => tag5_ gc k nz a2 n2 c2 ad (some ⟨g, 0, none⟩) n3 (n3 + 16) (st k nz t) w cc HK.out hl1 hy1 hb2 hc2 hm2 hy2 hb3 (by omega) (by unfold maxLen; omega) HCY.out hn2 hn3
  have HTG : Hid (∀ i, i < 16 → tg k nz ad (st k nz t) (0 + i) = (tl k nz ad (st k nz t)).getD i 0) := fun i hi => by rw [Nat.zero_add, tl_get _ _ _ _ i hi]
  have HTL : Hid ((tl k nz ad (st k nz t)).length = 16) := tl_length _ _ _ _
  have HTY := hid (tl_lt (k := k) (nz := nz) HK.out hy1 ad (st k nz t))
  have HSL : Hid (st k nz t ++ tl k nz ad (st k nz t) = sl k nz ad t) := rfl
  obtain ⟨S, HS⟩ : ∃ S, Hid (sl k nz ad t = S) := ⟨_, rfl⟩
  rw [HS.out] at HSL ⊢
  obtain ⟨f, Hf⟩ : ∃ f, Hid (fb nz = f) := ⟨_, rfl⟩
  simp only [Hf.out] at k0 kh kt
  generalize tl k nz ad (st k nz t) = L at *
  generalize tg k nz ad (st k nz t) = G at *
  generalize st k nz t = C at *
  have HB2 := hid hb2
  have HB3 := hid hb3
  unfold maxLen at hm2 hm3
  clear hb2 hb3 hl1 hl3 hy0 hy1 hy2 hy3
  go_enter Tryz.func6, Tryz.ntmps6
  go_wp2_with fail
  refine (k0 _ hb0 hb1).mono ?_
  rintro e w1 ⟨gc, rfl, hgc, cc, b0⟩
  clear k0 hb0 hb1
  have hgl := cc.lt
  have hgs := b0.size
  have s0 := Se.new w1 gc f
  have cc := cc.alloc (.cells (sv gc f) 60)
  have b0 := b0.alloc b0.size (.cells (sv gc f) 60)
  go_wp2_with (first | (refine wpList_als rfl rfl ?_) | (refine wpList_stns rfl rfl _ _ rfl _ (sv gc f) rfl rfl (sv_size _ _) (sv_one _ _) rfl ?_) | (refine wpList_lds rfl _ rfl _ rfl gc f (by with_reducible exact s0) ?_))
  generalize w1.heap.size = gs at *
  generalize w1.alloc (.cells (sv gc f) 60) = w2 at *
  have hs2 := b0.size
  refine (kh gc _ cc (HB3.out.below b0)).mono ?_
  rintro e w3 ⟨g, rfl, o0, g2⟩
  have s0 := s0.kept g2
  have cc := cc.kept g2
  have b0 := bel_bel b0 b0.size g2
  have o0 := o0.le hs2
  clear g2 kh
  go_wp2_with (refine wpList_lds rfl _ rfl _ rfl gc f (by with_reducible exact s0) ?_)
  refine (kt gc g _ cc (HB2.out.below b0) (o0.bs HCY.out)).mono ?_
  rintro e w4 ⟨rfl, g2⟩
  have o0 := o0.kept g2
  have b0 := bel_bel b0 b0.size g2
  have hgo := o0.blk.1
  have hgt := o0.lt
  clear g2 kt s0 cc
  have o0 := o0.alloc (.cells (rw8 16 G) 63)
  have a3r := Rw.new w4 63 16 G
  have b0 := b0.alloc b0.size (.cells (rw8 16 G) 63)
  have L1 := (a3r.bs 0 16 L (by omega) HTL.out HTY.out HTG.out).src1 (grown_self _ none)
  have L2 : (cells (ic L)).length = 16 * 1 := by rw [cells_length, ic_length, HTL.out]
  have L3 := cells_one (ic L)
  obtain ⟨ps, Hps⟩ : ∃ ps, Hid (cells (ic L) = ps) := ⟨_, rfl⟩
  rw [Hps.out] at L1 L2 L3
  have HL1 := hid L1
  have HL2 := hid L2
  have HL3 := hid L3
  have HO0 := hid o0
  clear L1 L2 L3 o0 a3r
  obtain ⟨i, hi, hz0, hz1, hz2⟩ := info_parts info5
  have hP : n3 + 16 ≤ n3 + 16 := Nat.le_refl _
  go_wp2_with (first | (refine wpList_al rfl _ rfl 16 (by exact zeroa) ?_) | (refine wpList_stnr rfl rfl _ _ rfl _ _ G rfl rfl rfl (by simp [rw8_size]) ?_) | (at_builtin; refine wpList_append_fits _ rfl _ _ 22 rfl w.heap.size 5 i 1 Tryz.underlying22 hi hz1 g n3 (n3 + 16) _ rfl HO0.out ⟨w4.heap.size, 0, none⟩ 16 16 ps rfl HL2.out HL1.out HL3.out hP ?_; intro w6 hown hg; have b0 := bel_grown b0 b0.size hgo hg; clear hg hi hz0 hz1 hz2))
  have o1 : Ob w6 w.heap.size g (n3 + 16) (n3 + 16) S := by
    rw [← Hps.out, ← cells_append, ← ic_append, HSL.out] at hown
    exact hown
  go_ret2
  exact ⟨g, rfl, o1, b0⟩

theorem seal_ (a0 a1 a2 a3 : Option Addr) (c0 c1 n2 c2 n3 c3 : Nat) (key nz ad t : List Nat) (w : World) (hb0 : Bs w a0 32 (ic key)) (hb1 : Bs w a1 12 (ic nz)) (hb2 : Bs w a2 n2 (ic ad)) (hb3 : Bs w a3 n3 (ic t)) (hy0 : ∀ x ∈ key, x < 256) (hy1 : ∀ x ∈ nz, x < 256) (hy2 : ∀ x ∈ ad, x < 256) (hy3 : ∀ x ∈ t, x < 256) (hn2 : n2 ≤ 65536) (hn3 : n3 ≤ 65536) (hc2 : n2 ≤ c2) (hm2 : c2 ≤ maxLen) (hc3 : n3 ≤ c3) (hm3 : c3 ≤ maxLen) :
    Calls Tryz.prog 6 #[.slice a0 32 c0, .slice a1 12 c1, .slice a2 n2 c2, .slice a3 n3 c3] w fun e w' => ∃ a cap, e = .returned (.tuple #[.slice a (n3 + 16 : Nat) cap, .int .i64 0]) ∧ Bs w' a (n3 + 16) (ic (sl (kf key) nz ad t)) ∧ n3 + 16 ≤ cap ∧ cap ≤ maxLen ∧ Below w.heap.size w w' := by
  refine (seal_own a0 a1 a2 a3 c0 c1 n2 c2 n3 c3 key nz ad t w hb0 hb1 hb2 hb3 hy0 hy1 hy2 hy3 hn2 hn3 hc2 hm2 hc3 hm3).mono ?_
  rintro e w' ⟨g, rfl, o0, b0⟩
  exact ⟨_, _, rfl, o0.bs (sl_lt (kf_lt hy0) hy1 hy3), Nat.le_refl _, by unfold maxLen; omega, b0⟩
end Go.Proofs.YtmnmmkonkimjeaaGreatDoor
namespace Go.Proofs.YtmnmmkonkimjeaaGreatDoor
open Go.RowKit
set_option linter.unusedVariables false
set_option maxRecDepth 100000

theorem tl_eq {G : Nat → Nat} {L s : List Nat} {n : Nat} (hs : s.length = n + 16) (hL : L.length = 16) (hg : ∀ j, j < 16 → L.getD j 0 = G j) (h : ∀ i, i < 16 → G i = s.getD (n + i) 0) : s.drop n = L := by
  refine list_ext (by rw [List.length_drop, hL]; omega) fun i hi => ?_
  rw [List.length_drop] at hi
  rw [hg i (by omega), h i (by omega)]
  simp only [List.getD, List.getElem?_drop]
theorem fb_tl {G : Nat → Nat} {L s : List Nat} {n : Nat} (hs : s.length = n + 16) (hL : L.length = 16) (hg : ∀ j, j < 16 → L.getD j 0 = G j) : ((List.range 16).all fun i => fb (s.drop n) i == G i) = true ↔ s.drop n = L := by
  rw [all16_iff]
  constructor
  · intro h
    refine tl_eq hs hL hg fun i hi => ?_
    rw [← h i hi]
    unfold fb
    rw [getD_drop]
  · intro h i hi
    unfold fb
    rw [h, hg i hi]
set_option maxHeartbeats 2000000 in
theorem open_own (a0 a1 a2 a3 : Option Addr) (c0 c1 n2 c2 n c3 : Nat) (key nz ad s : List Nat) (w : World) (hb0 : Bs w a0 32 (ic key)) (hb1 : Bs w a1 12 (ic nz)) (hb2 : Bs w a2 n2 (ic ad)) (hb3 : Bs w a3 (n + 16) (ic s)) (hy0 : ∀ x ∈ key, x < 256) (hy1 : ∀ x ∈ nz, x < 256) (hy2 : ∀ x ∈ ad, x < 256) (hy3 : ∀ x ∈ s, x < 256) (hn2 : n2 ≤ 65536) (hn3 : n ≤ 65536) (hcap : n + 16 ≤ c3) (hc2 : n2 ≤ c2) (hm2 : c2 ≤ maxLen) (hm3 : c3 ≤ maxLen) :
    Calls Tryz.prog 10 #[.slice a0 32 c0, .slice a1 12 c1, .slice a2 n2 c2, .slice a3 (n + 16 : Nat) c3] w fun e w' => Below w.heap.size w w' ∧ ((s.drop n = tl (kf key) nz ad (s.take n) ∧ ∃ g, e = .returned (.tuple #[.slice (some ⟨g, 0, none⟩) n (n + 16), .bool true]) ∧ Ob w' w.heap.size g n (n + 16) (st (kf key) nz (s.take n))) ∨ (s.drop n ≠ tl (kf key) nz ad (s.take n) ∧ e = .returned (.tuple #[.slice none 0 0, .bool false]))) := by
  have HK : Hid (∀ j, kf key j < 256) := kf_lt hy0
  have HL : Hid (s.length = n + 16) := by have := hb3.1; rw [ic_length] at this; exact this
  obtain ⟨b, off, rfl⟩ : ∃ b off, a3 = some ⟨b, off, none⟩ := by
    rcases hb3.2.2 with h | ⟨b, off, e, hc⟩
    · omega
    · exact ⟨b, off, e⟩
  have hl1 : nz.length = 12 := by have := hb1.1; rwa [ic_length] at this
  have k0 := fun w hb0 hb1 => ready_ a0 a1 a2 (some ⟨b, off, none⟩) c0 c1 n2 c2 n c3 key nz w hb0 hb1 hn2 hn3
  generalize kf key = k at *
  have hyt : ∀ x ∈ s.take n, x < 256 := fun x hx => hy3 x (List.mem_of_mem_take hx)
  have hbt := bs_front hb3 (m := n) (by omega)
  have hbd := bs_rest hb3 hcap (m := n) (by omega)
  rw [if_neg (by omega), show n + 16 - n = 16 from by omega] at hbd
  have hbd : Bs w (some ⟨b, off + n, none⟩) 16 (ic (s.drop n)) := by rw [Option.map_some, Addr.add_mid] at hbd; exact hbd
  have kf1 := fun w hb => firstBlock_ (some ⟨b, off + n, none⟩) 16 (c3 - n) 16 (s.drop n) w hb (by unfold maxLen; omega) rfl
  have kh := fun gc w cc hb => hide_ gc k nz (some ⟨b, off, none⟩) n c3 (s.take n) w cc HK.out hl1 hy1 hb (by omega) hm3 hyt hn3
  have kt := fun gc w cc hb2 hb3 => tag5_ gc k nz a2 n2 c2 ad (some ⟨b, off, none⟩) n c3 (s.take n) w cc HK.out hl1 hy1 hb2 hc2 hm2 hy2 hb3 (by omega) hm3 hyt hn2 hn3
  have hq := fun w => run_eqav (fb (s.drop n)) (tg k nz ad (s.take n)) w
  have HR := hid (fb_tl (G := tg k nz ad (s.take n)) HL.out (tl_length k nz ad (s.take n)) (fun j hj => tl_get _ _ _ _ j hj))
  have hq : ∀ w, (Op.equalIn 10000 63 (.agg (rw8 16 (fb (s.drop n)))) (.agg (rw8 16 (tg k nz ad (s.take n))))).run Tryz.prog w = .ok ((List.range 16).all fun i => fb (s.drop n) i == tg k nz ad (s.take n) i) w := hq
  generalize ((List.range 16).all fun i => fb (s.drop n) i == tg k nz ad (s.take n) i) = r at *
  obtain ⟨f, Hf⟩ : ∃ f, Hid (fb nz = f) := ⟨_, rfl⟩
  simp only [Hf.out] at k0 kh kt
  generalize tl k nz ad (s.take n) = L at *
  generalize tg k nz ad (s.take n) = tt at *
  generalize fb (s.drop n) = G at *
  generalize st k nz (s.take n) = p at *
  have HBT := hid hbt
  have HB2 := hid hb2
  have b3 : decide ((n : Int) < 0) = false := decide_eq_false (by omega)
  have hcI : (n : Int) ≤ (c3 : Int) := by omega
  have hc0 : ¬ c3 = 0 := by omega
  have hcn : ¬ c3 = n := by omega
  have hg16 := guard16
  unfold maxLen at hm2 hm3
  clear hb2 hb3 hl1 hy0 hy1 hy2 hy3 hyt hbt
  go_enter Tryz.func10, Tryz.ntmps10
  go_wp2_with fail
  refine (kf1 _ hbd).mono ?_
  rintro e w1 ⟨rfl, b0⟩
  clear kf1 hbd b3 hcI hc0 hcn
  have hs1 := b0.size
  have a4 := Rw.new w1 63 16 G
  have b0 := b0.alloc b0.size (.cells (rw8 16 G) 63)
  go_wp2_with (first | (refine wpList_al rfl _ rfl 16 (by exact zeroa) ?_) | (refine wpList_stnr rfl rfl _ _ rfl _ _ G rfl rfl rfl (by simp [rw8_size]) ?_))
  have hlt := a4.lt
  generalize w1.heap.size = gg at *
  generalize w1.alloc (.cells (rw8 16 G) 63) = w2 at *
  refine (k0 _ (hb0.below b0) (hb1.below b0)).mono ?_
  rintro e w3 ⟨gc, rfl, hgc, cc, g2⟩
  have a4 := a4.kept g2
  have b0 := bel_bel b0 b0.size g2
  have hs3 := b0.size
  have hgl := cc.lt
  clear g2 k0 hb0 hb1
  have s0 := Se.new w3 gc f
  have cc := cc.alloc (.cells (sv gc f) 60)
  have a4 := a4.alloc (.cells (sv gc f) 60)
  have b0 := b0.alloc b0.size (.cells (sv gc f) 60)
  go_wp2_with (first | (refine wpList_als rfl rfl ?_) | (refine wpList_stns rfl rfl _ _ rfl _ (sv gc f) rfl rfl (sv_size _ _) (sv_one _ _) rfl ?_))
  generalize w3.heap.size = gs at *
  generalize w3.alloc (.cells (sv gc f) 60) = w4 at *
  refine wp_region_held_drew (S := fun wx => Rw wx gg 63 16 G ∧ Se wx gs gc f) (by kernel_rfl) ⟨a4.drew, s0.drew⟩ (fun hHeld => ?_)
  have a4 := a4.drew
  have s0 := s0.drew
  have cc := cc.drew
  have b0 := bel_drew1 b0
  generalize w4.drew = wd at *
  refine take_to 0 39 (.int .i64 0) rfl rfl (by kernel_rfl) (by kernel_rfl) (by kernel_rfl) (fun _ _ _ h => h) (Or.inl ⟨by rfl, fun w' _ => ?_⟩) hHeld ?_
  · go_simp
  try simp only [List.setIfInBounds_toArray, List.set_cons_zero, List.set_cons_succ]
  refine take_to 1 40 (.bool false) rfl rfl (by kernel_rfl) (by kernel_rfl) (by kernel_rfl) (fun _ _ _ h => h) (Or.inl ⟨by rfl, fun w' _ => ?_⟩) hHeld ?_
  · go_simp
  try simp only [List.setIfInBounds_toArray, List.set_cons_zero, List.set_cons_succ]
  refine take_to 2 41 (.bool false) rfl rfl (by kernel_rfl) (by kernel_rfl) (by kernel_rfl) (fun _ _ _ h => h) (Or.inl ⟨by rfl, fun w' _ => ?_⟩) hHeld ?_
  · go_simp
  try simp only [List.setIfInBounds_toArray, List.set_cons_zero, List.set_cons_succ]
  refine take_to 3 42 (.agg (rw8 16 G)) rfl rfl (by kernel_rfl) (by kernel_rfl) (by kernel_rfl) (fun _ _ _ h => h) (yields_rng (by rfl) _ _ rfl (gg) 0 16 _ rfl (fun w' h => h.1.rng0) _ under16 rfl size16) hHeld ?_
  try simp only [List.setIfInBounds_toArray, List.set_cons_zero, List.set_cons_succ]
  refine take_to 4 43 (.agg (sv gc f)) rfl rfl (by kernel_rfl) (by kernel_rfl) (by kernel_rfl) (fun _ _ _ h => h) (yields_se (by rfl) _ rfl (gs) gc f rfl (fun w' h => h.2)) hHeld ?_
  try simp only [List.setIfInBounds_toArray, List.set_cons_zero, List.set_cons_succ]
  refine take_to 5 44 (.slice a2 n2 c2) rfl rfl (by kernel_rfl) (by kernel_rfl) (by kernel_rfl) (fun _ _ _ h => h) (Or.inl ⟨by rfl, fun w' _ => ?_⟩) hHeld ?_
  · go_simp
  try simp only [List.setIfInBounds_toArray, List.set_cons_zero, List.set_cons_succ]
  refine take_to 6 45 (.slice (some ⟨b, off, none⟩) n c3) rfl rfl (by kernel_rfl) (by kernel_rfl) (by kernel_rfl) (fun _ _ _ h => h) (Or.inl ⟨by rfl, fun w' _ => ?_⟩) hHeld ?_
  · go_simp
  try simp only [List.setIfInBounds_toArray, List.set_cons_zero, List.set_cons_succ]
  refine wpAnyH_ready (rs := [7]) (by kernel_rfl) (by simp) ?_
  refine AllReadyH.cons rfl (fun K hK => ?_) AllReadyH.nil
  rw [if_pos (by rfl)]
  go_wp2_with fail
  refine (kt gc _ cc (HB2.out.below b0) (HBT.out.below b0)).mono ?_
  rintro e wa ⟨rfl, g2⟩
  have a4 := a4.kept g2
  have s0 := s0.kept g2
  have cc := cc.kept g2
  have b0 := bel_bel b0 b0.size g2
  clear g2 hHeld
  try go_wp2_with fail
  refine hK.out _ _ ⟨a4, s0⟩ (fun hHeld => ?_)
  clear hK K
  try simp only [Act.put, List.setIfInBounds_toArray, List.set_cons_zero, List.set_cons_succ]
  refine take_to 8 47 (.bool (!r)) rfl rfl (by kernel_rfl) (by kernel_rfl) (by kernel_rfl) (fun _ _ _ h => h) (Or.inl ⟨by rfl, fun w' _ => ?_⟩) hHeld ?_
  · go_simp
  try simp only [List.setIfInBounds_toArray, List.set_cons_zero, List.set_cons_succ]
  refine take_to 9 48 (.bool (!r)) rfl rfl (by kernel_rfl) (by kernel_rfl) (by kernel_rfl) (fun _ _ _ h => h) (Or.inl ⟨by rfl, fun w' _ => ?_⟩) hHeld ?_
  · go_simp
  try simp only [List.setIfInBounds_toArray, List.set_cons_zero, List.set_cons_succ]
  refine wpAnyH_done (by kernel_rfl) ?_ _
  clear hHeld kt hq hg16 a4
  cases r with
  | true =>
    have HE := HR.out.1 rfl
    have HE := hid HE
    clear HR
    go_wp2_with (refine wpList_lds rfl _ rfl _ rfl gc f (by with_reducible exact s0) ?_)
    have hsa := b0.size
    refine (kh gc _ cc (HBT.out.below b0)).mono ?_
    rintro e w5 ⟨g, rfl, o0, g2⟩
    have b0 := bel_bel b0 b0.size g2
    have o0 := o0.le hsa
    clear g2 kh s0 cc
    go_wp2_with fail
    go_ret2
    exact ⟨b0, .inl ⟨HE.out, g, rfl, o0⟩⟩
  | false =>
    have HE : Hid (¬ s.drop n = L) := fun h => by have := HR.out.2 h; simp at this
    clear HR
    go_wp2_with fail
    go_ret2
    exact ⟨b0, .inr ⟨HE.out, rfl⟩⟩

theorem open_ (a0 a1 a2 a3 : Option Addr) (c0 c1 n2 c2 n c3 : Nat) (key nz ad s : List Nat) (w : World) (hb0 : Bs w a0 32 (ic key)) (hb1 : Bs w a1 12 (ic nz)) (hb2 : Bs w a2 n2 (ic ad)) (hb3 : Bs w a3 (n + 16) (ic s)) (hy0 : ∀ x ∈ key, x < 256) (hy1 : ∀ x ∈ nz, x < 256) (hy2 : ∀ x ∈ ad, x < 256) (hy3 : ∀ x ∈ s, x < 256) (hn2 : n2 ≤ 65536) (hn3 : n ≤ 65536) (hcap : n + 16 ≤ c3) (hc2 : n2 ≤ c2) (hm2 : c2 ≤ maxLen) (hm3 : c3 ≤ maxLen) :
    Calls Tryz.prog 10 #[.slice a0 32 c0, .slice a1 12 c1, .slice a2 n2 c2, .slice a3 (n + 16 : Nat) c3] w fun e w' => Below w.heap.size w w' ∧ ((s.drop n = tl (kf key) nz ad (s.take n) ∧ ∃ a cap, e = .returned (.tuple #[.slice a n cap, .bool true]) ∧ Bs w' a n (ic (st (kf key) nz (s.take n))) ∧ n ≤ cap ∧ cap ≤ maxLen) ∨ (s.drop n ≠ tl (kf key) nz ad (s.take n) ∧ ∃ a cap, e = .returned (.tuple #[.slice a 0 cap, .bool false]))) := by
  refine (open_own a0 a1 a2 a3 c0 c1 n2 c2 n c3 key nz ad s w hb0 hb1 hb2 hb3 hy0 hy1 hy2 hy3 hn2 hn3 hcap hc2 hm2 hm3).mono ?_
  rintro e w' ⟨b0, ⟨h, g, rfl, o0⟩ | ⟨h, rfl⟩⟩
  · exact ⟨b0, .inl ⟨h, _, _, rfl, o0.bs (st_lt (kf_lt hy0) hy1 fun x hx => hy3 x (List.mem_of_mem_take hx)), by omega, by unfold maxLen; omega⟩⟩
  · exact ⟨b0, .inr ⟨h, _, _, rfl⟩⟩

set_option maxHeartbeats 1000000 in
theorem open_bad (a0 a1 a2 a3 : Option Addr) (n0 c0 n1 c1 n2 c2 n3 c3 : Nat) (zs : List Int) (s : List Nat) (w : World) (hb0 : Bs w a0 n0 zs) (hb3 : Bs w a3 n3 (ic s)) (hc3 : n3 ≤ c3) (h0 : n0 ≤ maxLen) (h1 : n1 ≤ maxLen) (h2 : n2 ≤ maxLen) (h3 : c3 ≤ maxLen) (hn : n0 ≠ 32 ∨ n1 ≠ 12 ∨ 65536 < n2 ∨ n3 < 16 ∨ 65552 < n3) :
    Calls Tryz.prog 10 #[.slice a0 n0 c0, .slice a1 n1 c1, .slice a2 n2 c2, .slice a3 n3 c3] w fun e w' => (∃ a cap, e = .returned (.tuple #[.slice a 0 cap, .bool false])) ∧ Below w.heap.size w w' := by
  by_cases e3 : n3 < 16
  · have b3 : decide ((n3 : Int) - 16 < 0) = true := decide_eq_true (by omega)
    have b3' : (n3 : Int) - 16 < 0 := by omega
    unfold maxLen at h0 h1 h2 h3
    clear e3 hn hb0 hb3
    go_enter Tryz.func10, Tryz.ntmps10
    go_wp2_with fail
    go_ret2
    exact ⟨⟨_, _, rfl⟩, Below.refl _ _⟩
  · obtain ⟨n, rfl⟩ : ∃ n, n3 = n + 16 := ⟨n3 - 16, by omega⟩
    obtain ⟨b, off, rfl⟩ : ∃ b off, a3 = some ⟨b, off, none⟩ := by
      rcases hb3.2.2 with h | ⟨b, off, e, hc⟩
      · omega
      · exact ⟨b, off, e⟩
    have k0 := fun w hb => ready_bad a0 a1 a2 (some ⟨b, off, none⟩) n0 c0 n1 c1 n2 c2 n c3 zs w hb h0 h1 h2 (by omega) (by omega)
    obtain ⟨q, Hq, hq⟩ : ∃ q : Int, Hid ((if n0 ≠ 32 then (40 : Int) else if n1 ≠ 12 then 50 else 51) = q) ∧ (q != 0) = true := by
      refine ⟨_, rfl, ?_⟩
      split
      · rfl
      · split <;> rfl
    simp only [Hq.out] at k0
    have hbd := bs_rest hb3 hc3 (m := n) (by omega)
    rw [if_neg (by omega), show n + 16 - n = 16 from by omega] at hbd
    have hbd : Bs w (some ⟨b, off + n, none⟩) 16 (ic (s.drop n)) := by rw [Option.map_some, Addr.add_mid] at hbd; exact hbd
    have kf1 := fun w hb => firstBlock_ (some ⟨b, off + n, none⟩) 16 (c3 - n) 16 (s.drop n) w hb (by unfold maxLen; omega) rfl
    generalize fb (s.drop n) = G at *
    have b3 : decide ((n : Int) < 0) = false := decide_eq_false (by omega)
    have hcI : (n : Int) ≤ (c3 : Int) := by omega
    have hc0 : ¬ c3 = 0 := by omega
    have hcn : ¬ c3 = n := by omega
    unfold maxLen at h0 h1 h2 h3
    clear e3 hn hb3
    go_enter Tryz.func10, Tryz.ntmps10
    go_wp2_with fail
    refine (kf1 _ hbd).mono ?_
    rintro e w1 ⟨rfl, b0⟩
    clear kf1 hbd b3 hcI hc0 hcn
    have b0 := b0.alloc b0.size (.cells (rw8 16 G) 63)
    go_wp2_with (first | (refine wpList_al rfl _ rfl 16 (by exact zeroa) ?_) | (refine wpList_stnr rfl rfl _ _ rfl _ _ G rfl rfl rfl (by simp [rw8_size]) ?_))
    generalize w1.alloc (.cells (rw8 16 G) 63) = w2 at *
    refine (k0 _ (hb0.below b0)).mono ?_
    rintro e w3 ⟨rfl, g2⟩
    have b0 := bel_bel b0 b0.size g2
    clear g2 k0 hb0
    have b0 := b0.alloc b0.size (.cells sz 60)
    go_wp2_with (first | (refine wpList_als rfl rfl ?_) | (refine wpList_stns rfl rfl _ _ rfl _ sz rfl rfl sz_size sz_one rfl ?_))
    generalize w3.alloc (.cells sz 60) = w4 at *
    go_quiet (fail)
    go_wp2_with fail
    go_ret2
    exact ⟨⟨_, _, rfl⟩, bel_drawn b0 _⟩
end Go.Proofs.YtmnmmkonkimjeaaGreatDoor
