import Derived.Test.YtgjamfnhkeoedaaG7
import Derived.Test.YtgjamfnhkeoedaaRefO
namespace Go.Proofs.Ytgjamfnhkeoedaa
open Go.RowKit
set_option linter.unusedVariables false

theorem wpList_stns {ops : Array Oper} {rest : List Oper} {o : Oper} {a : Act} {w : World} {Q : Exit → Act → World → Prop} (hgd : o.guard = none) (hdst : o.dst = none) (x y : Operand) (ho : o.op = .store 41 x y)
    (g : Nat) (vs : Array Value) (hx : a.eval x = .pointer (some ⟨g, 0, none⟩)) (hy : a.eval y = .agg vs) (hs : vs.size = 13) (h1 : vs.all (·.oneCell') = true) (hg : w.heap.size = g)
    (h : wpList Try.prog ops Q rest a (w.alloc (.cells vs 41))) : wpList Try.prog ops Q (o :: rest) a (w.alloc (.cells sz 41)) := by
  subst hg
  refine wpList_sts hgd hdst x y ho w.heap.size vs hx hy hs h1 sz sz_size (heap_alloc_new w _) ?_
  rw [World.setRow_alloc_new]
  exact h
theorem Ob.le {w : World} {B B' g p cap : Nat} {xs : List Nat} (h : Ob w B g p cap xs) (hB : B' ≤ B) : Ob w B' g p cap xs := own_le h hB
theorem Ob.bs {w : World} {B g p cap : Nat} {xs : List Nat} (h : Ob w B g p cap xs) (hy : ∀ x ∈ xs, x < 256) : Bs w (some ⟨g, 0, none⟩) p (ic xs) := by
  obtain ⟨a, c, e, hb, _⟩ := own_form h (ic_bytes hy)
  simp at e
  obtain ⟨rfl, rfl⟩ := e
  exact hb

set_option maxHeartbeats 1000000 in
theorem seal_bad (a0 a1 a2 a3 : Option Addr) (n0 c0 n1 c1 n2 c2 n3 c3 : Nat) (zs : List Int) (w : World) (hb0 : Bs w a0 n0 zs) (h0 : n0 ≤ maxLen) (h1 : n1 ≤ maxLen) (h2 : n2 ≤ maxLen) (h3 : n3 ≤ maxLen) (hn : n0 ≠ 32 ∨ n1 ≠ 12 ∨ 65536 < n2 ∨ 65536 < n3) :
    Calls Try.prog 9 #[.slice a0 n0 c0, .slice a1 n1 c1, .slice a2 n2 c2, .slice a3 n3 c3] w fun e w' => (∃ a cap, e = .returned (.tuple #[.slice a 0 cap, .int .i64 (if n0 ≠ 32 then 40 else if n1 ≠ 12 then 50 else 51)])) ∧ Below w.heap.size w w' := by
  have k0 := fun w hb => ready_bad a0 a1 a2 a3 n0 c0 n1 c1 n2 c2 n3 c3 zs w hb h0 h1 h2 h3 hn
  obtain ⟨q, Hq, hq⟩ : ∃ q : Int, Hid ((if n0 ≠ 32 then (40 : Int) else if n1 ≠ 12 then 50 else 51) = q) ∧ (q != 0) = true := by
    refine ⟨_, rfl, ?_⟩
    split
    · rfl
    · split <;> rfl
  simp only [Hq.out] at k0
  rw [Hq.out]
  clear hn
  unfold maxLen at h0 h1 h2 h3
  go_enter Try.func9, Try.ntmps9
  go_wp2_with fail
  refine (k0 _ hb0).mono ?_
  rintro e w1 ⟨rfl, b0⟩
  have b0 := b0.alloc b0.size (.cells sz 41)
  clear k0 hb0
  go_wp2_with (first | (refine wpList_als rfl rfl ?_) | (refine wpList_stns rfl rfl _ _ rfl _ sz rfl rfl sz_size sz_one rfl ?_))
  go_ret2
  exact ⟨⟨_, _, rfl⟩, b0⟩

set_option maxHeartbeats 2000000 in
theorem seal_own (a0 a1 a2 a3 : Option Addr) (c0 c1 n2 c2 n3 c3 : Nat) (key nz ad t : List Nat) (w : World) (hb0 : Bs w a0 32 (ic key)) (hb1 : Bs w a1 12 (ic nz)) (hb2 : Bs w a2 n2 (ic ad)) (hb3 : Bs w a3 n3 (ic t)) (hy0 : ∀ x ∈ key, x < 256) (hy1 : ∀ x ∈ nz, x < 256) (hy2 : ∀ x ∈ ad, x < 256) (hy3 : ∀ x ∈ t, x < 256) (hn2 : n2 ≤ 65536) (hn3 : n3 ≤ 65536) (hc2 : n2 ≤ c2) (hm2 : c2 ≤ maxLen) (hc3 : n3 ≤ c3) (hm3 : c3 ≤ maxLen) :
    Calls Try.prog 9 #[.slice a0 32 c0, .slice a1 12 c1, .slice a2 n2 c2, .slice a3 n3 c3] w fun e w' => ∃ g, e = .returned (.tuple #[.slice (some ⟨g, 0, none⟩) (n3 + 16) (n3 + 16), .int .i64 0]) ∧ Ob w' w.heap.size g (n3 + 16) (n3 + 16) (sl (kf key) nz ad t) ∧ Below w.heap.size w w' := by
  have HK : Hid (∀ j, kf key j < 256) := kf_lt hy0
  have k0 := fun w hb0 hb1 => ready_ a0 a1 a2 a3 c0 c1 n2 c2 n3 c3 key nz w hb0 hb1 hn2 hn3
  have hl1 : nz.length = 12 := by have := hb1.1; rwa [ic_length] at this
  have hl3 : t.length = n3 := by have := hb3.1; rwa [ic_length] at this
  generalize kf key = k at *
  have HCY := hid (st_lt (k := k) (nz := nz) HK.out hy1 hy3)
  have kh := fun gc w cc hb => hide_ gc k nz a3 n3 c3 t w cc HK.out hl1 hy1 hb hc3 hm3 hy3 hn3
  have kt := fun gc g w cc hb2 hb3 => tag5_ gc k nz a2 n2 c2 ad (some ⟨g, 0, none⟩) n3 (n3 + 16) (st k nz t) w cc HK.out hl1 hy1 hb2 hc2 hm2 hy2 hb3 (by omega) (by unfold maxLen; omega) HCY.out hn2 hn3
  have HTG : Hid (∀ i, i < 16 → tg k nz ad (st k nz t) (0 + i) = (tl k nz ad (st k nz t)).getD i 0) := fun i hi => by rw [Nat.zero_add, tl_get _ _ _ _ i hi]
  have HTL : Hid ((tl k nz ad (st k nz t)).length = 16) := tl_length _ _ _ _
  have HTY := hid (tl_lt (k := k) (nz := nz) HK.out hy1 ad (st k nz t))
  have HSL : Hid (st k nz t ++ tl k nz ad (st k nz t) = sl k nz ad t) := rfl
  obtain ⟨S, HS⟩ : ∃ S, Hid (sl k nz ad t = S) := ⟨_, rfl⟩
  rw [HS.out] at HSL ⊢
  obtain ⟨f, Hf⟩ : ∃ f, Hid (fb nz = f) := ⟨_, rfl⟩
  simp only [Hf.out] at k0 kh kt
  generalize tl k nz ad (st k nz t) = L at *
  generalize tg k nz ad (st k nz t) = G at *
  generalize st k nz t = C at *
  have HB2 := hid hb2
  have HB3 := hid hb3
  unfold maxLen at hm2 hm3
  clear hb2 hb3 hl1 hl3 hy0 hy1 hy2 hy3
  go_enter Try.func9, Try.ntmps9
  go_wp2_with fail
  refine (k0 _ hb0 hb1).mono ?_
  rintro e w1 ⟨gc, rfl, hgc, cc, b0⟩
  clear k0 hb0 hb1
  have hgl := cc.lt
  have hgs := b0.size
  have s0 := Se.new w1 gc f
  have cc := cc.alloc (.cells (sv gc f) 41)
  have b0 := b0.alloc b0.size (.cells (sv gc f) 41)
  go_wp2_with (first | (refine wpList_als rfl rfl ?_) | (refine wpList_stns rfl rfl _ _ rfl _ (sv gc f) rfl rfl (sv_size _ _) (sv_one _ _) rfl ?_) | (refine wpList_lds rfl _ rfl _ rfl gc f (by with_reducible exact s0) ?_))
  generalize w1.heap.size = gs at *
  generalize w1.alloc (.cells (sv gc f) 41) = w2 at *
  have hs2 := b0.size
  refine (kh gc _ cc (HB3.out.below b0)).mono ?_
  rintro e w3 ⟨g, rfl, o0, g2⟩
  have s0 := s0.kept g2
  have cc := cc.kept g2
  have b0 := bel_bel b0 b0.size g2
  have o0 := o0.le hs2
  clear g2 kh
  go_wp2_with (refine wpList_lds rfl _ rfl _ rfl gc f (by with_reducible exact s0) ?_)
  refine (kt gc g _ cc (HB2.out.below b0) (o0.bs HCY.out)).mono ?_
  rintro e w4 ⟨rfl, g2⟩
  have o0 := o0.kept g2
  have b0 := bel_bel b0 b0.size g2
  have hgo := o0.blk.1
  have hgt := o0.lt
  clear g2 kt s0 cc
  have o0 := o0.alloc (.cells (rw8 16 G) 44)
  have a3r := Rw.new w4 44 16 G
  have b0 := b0.alloc b0.size (.cells (rw8 16 G) 44)
  have L1 := (a3r.bs 0 16 L (by omega) HTL.out HTY.out HTG.out).src1 (grown_self _ none)
  have L2 : (cells (ic L)).length = 16 * 1 := by rw [cells_length, ic_length, HTL.out]
  have L3 := cells_one (ic L)
  obtain ⟨ps, Hps⟩ : ∃ ps, Hid (cells (ic L) = ps) := ⟨_, rfl⟩
  rw [Hps.out] at L1 L2 L3
  have HL1 := hid L1
  have HL2 := hid L2
  have HL3 := hid L3
  have HO0 := hid o0
  clear L1 L2 L3 o0 a3r
  obtain ⟨i, hi, hz0, hz1, hz2⟩ := info_parts info5
  have hP : n3 + 16 ≤ n3 + 16 := Nat.le_refl _
  go_wp2_with (first | (refine wpList_al rfl _ rfl 16 (by exact zeroa) ?_) | (refine wpList_stnr rfl rfl _ _ rfl _ _ G rfl rfl rfl (by simp [rw8_size]) ?_) | (at_builtin; refine wpList_append_fits _ rfl _ _ 22 rfl w.heap.size 5 i 1 Try.underlying22 hi hz1 g n3 (n3 + 16) _ rfl HO0.out ⟨w4.heap.size, 0, none⟩ 16 16 ps rfl HL2.out HL1.out HL3.out hP ?_; intro w6 hown hg; have b0 := bel_grown b0 b0.size hgo hg; clear hg hi hz0 hz1 hz2))
  have o1 : Ob w6 w.heap.size g (n3 + 16) (n3 + 16) S := by
    rw [← Hps.out, ← cells_append, ← ic_append, HSL.out] at hown
    exact hown
  go_ret2
  exact ⟨g, rfl, o1, b0⟩

theorem seal_ (a0 a1 a2 a3 : Option Addr) (c0 c1 n2 c2 n3 c3 : Nat) (key nz ad t : List Nat) (w : World) (hb0 : Bs w a0 32 (ic key)) (hb1 : Bs w a1 12 (ic nz)) (hb2 : Bs w a2 n2 (ic ad)) (hb3 : Bs w a3 n3 (ic t)) (hy0 : ∀ x ∈ key, x < 256) (hy1 : ∀ x ∈ nz, x < 256) (hy2 : ∀ x ∈ ad, x < 256) (hy3 : ∀ x ∈ t, x < 256) (hn2 : n2 ≤ 65536) (hn3 : n3 ≤ 65536) (hc2 : n2 ≤ c2) (hm2 : c2 ≤ maxLen) (hc3 : n3 ≤ c3) (hm3 : c3 ≤ maxLen) :
    Calls Try.prog 9 #[.slice a0 32 c0, .slice a1 12 c1, .slice a2 n2 c2, .slice a3 n3 c3] w fun e w' => ∃ a cap, e = .returned (.tuple #[.slice a (n3 + 16 : Nat) cap, .int .i64 0]) ∧ Bs w' a (n3 + 16) (ic (sl (kf key) nz ad t)) ∧ n3 + 16 ≤ cap ∧ cap ≤ maxLen ∧ Below w.heap.size w w' := by
  refine (seal_own a0 a1 a2 a3 c0 c1 n2 c2 n3 c3 key nz ad t w hb0 hb1 hb2 hb3 hy0 hy1 hy2 hy3 hn2 hn3 hc2 hm2 hc3 hm3).mono ?_
  rintro e w' ⟨g, rfl, o0, b0⟩
  exact ⟨_, _, rfl, o0.bs (sl_lt (kf_lt hy0) hy1 hy3), Nat.le_refl _, by unfold maxLen; omega, b0⟩
end Go.Proofs.Ytgjamfnhkeoedaa
