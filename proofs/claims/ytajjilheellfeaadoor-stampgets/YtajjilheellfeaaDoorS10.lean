import Derived.Test.YtajjilheellfeaaDoorS9
namespace Go.Proofs.YtajjilheellfeaaDoor
open Go.RowKit
set_option linter.unusedVariables false

/-! Three marks behind a list. -/
theorem three_own {i5 : TypeInfo} {w6 : World} {B n : Nat} {v : Value} {xs : List Int} (hi : Tryd.prog.info? 5 = some i5) (hz0 : i5.zero = some (.int .u8 0)) (hz1 : i5.size = 1) (hz2 : i5.bytes = 1) (ho : w6.ownsRow B 5 1 v n (cells xs)) (hn : n + 3 ≤ 1000000) (hB : B ≤ w6.heap.size)
    {ops : Array Oper} {rest : List Oper} {o : Oper} {a : Act} {Q : Exit → Act → World → Prop} (hg : o.guard = none) (s x : Operand) (hop : o.op = Op.call { callee := Callee.builtin Builtin.append, args := #[s, x], argTypes := #[29, 29] }) (hs : a.eval s = v) (hx : a.eval x = .slice (some ⟨w6.heap.size, 0, none⟩) 3 3)
    (hK : ∀ g cap w', Head w' g cap (xs ++ [201, 202, 203]) → n + 3 ≤ cap → cap ≤ maxLen → Below B w6 w' → wpList Tryd.prog ops Q rest (a.put o.dst (.slice (some ⟨g, 0, none⟩) (n + 3) cap)) w') : wpList Tryd.prog ops Q (o :: rest) a (w6.alloc (.cells #[.int .u8 201, .int .u8 202, .int .u8 203] 5)) := by
  have ho' := ho.alloc (.cells #[.int .u8 201, .int .u8 202, .int .u8 203] 5)
  have hnew : ∀ (q : Nat) u, ([.int .u8 201, .int .u8 202, .int .u8 203] : List Value)[q]? = some u → (w6.alloc (.cells #[.int .u8 201, .int .u8 202, .int .u8 203] 5)).cell? ((⟨w6.heap.size, 0, none⟩ : Addr).add q) = some u := by
    intro q u hq
    rw [Addr.add_lit, Nat.zero_add, cell_of_row _ _ q _ 5 (0, 0) (heap_alloc_new w6 _)]
    simpa using hq
  have hone : ∀ u ∈ ([.int .u8 201, .int .u8 202, .int .u8 203] : List Value), u.oneCell' = true := by
    intro u hu
    simp at hu
    rcases hu with rfl | rfl | rfl <;> rfl
  refine wpList_append_own _ hg s x 29 hop B 5 i5 (.int .u8 0) 1 1 Tryd.underlying29 hi hz0 hz1 hz2 rfl (by decide) v n _ hs ho' ⟨w6.heap.size, 0, none⟩ 3 3 [.int .u8 201, .int .u8 202, .int .u8 203] hx rfl hnew hone (by unfold maxLen; omega) (by omega) (by simp; omega) ?_
  intro v' w' hown hgrow _
  have e : cells xs ++ [.int .u8 201, .int .u8 202, .int .u8 203] = cells (xs ++ [201, 202, 203]) := by simp [cells]
  rw [e] at hown
  have hb : Below B w6 w' := ((Below.refl B w6).alloc hB _).grown hgrow (by simp; omega) (fun q hq => (ho.lt q hq).1)
  obtain ⟨g, cap, rfl, h1, h2, _, hh, _⟩ := own_head hown (by omega)
  exact hK g cap w' hh h1 h2 hb
theorem Head.kept6 {w w' : World} {g cap : Nat} {ys : List Int} (h : Head w g cap ys) (hb : Below w.heap.size w w') : Head w' g cap ys := h.below hb
theorem at_mark {xs : List Int} {n k : Nat} (h : xs.length = n) : (xs ++ [201, 202, 203]).getD (n + k) 0 = [201, 202, 203].getD k 0 := by
  subst h
  simp [List.getD, List.getElem?_append_right]
set_option maxHeartbeats 2000000 in
theorem stampGets_ (a : Option Addr) (n c : Nat) (zs : List Int) (w : World) (hT : Tb w) (hb : Bs w a n zs) (hn : n ≤ maxLen) :
    Calls Tryd.prog 7 #[.slice a n c] w fun e w' => e = .returned (.bool true) ∧ Below w.heap.size w w' := by
  unfold maxLen at hn
  have B0 := Below.refl w.heap.size w
  by_cases hbig : 65536 < n
  · have hI : (65536 : Int) < (n : Int) := by omega
    go_enter Tryd.func7, Tryd.ntmps7
    go_wp2_with fail
    refine (known_ _ (hT.kept B0)).mono ?_
    rintro e w1 ⟨rfl, g2⟩
    go_wp2_with fail
    go_ret
    exact ⟨rfl, g2⟩
  · have hI : ¬ (65536 : Int) < (n : Int) := by omega
    have HB := hid hb
    have HBY := hid hb.2.1
    have HL := hid hb.1
    have k2 := fun w hb => refGet_ a n c zs w hb (by unfold maxLen; omega)
    have k1 := fun g cap w hb hnc hcm => get_ (some ⟨g, 0, none⟩) n cap zs w hb hnc hcm
    obtain ⟨b, Hb⟩ : ∃ b, Hid (qe zs = b) := ⟨_, rfl⟩
    obtain ⟨x, Hx⟩ : ∃ b, Hid (qs zs = b) := ⟨_, rfl⟩
    obtain ⟨y, Hy⟩ : ∃ b, Hid (qn zs = b) := ⟨_, rfl⟩
    rw [Hb.out, Hx.out, Hy.out] at k2
    rw [Hb.out, Hx.out, Hy.out] at k1
    have hbb : (b == b) = true := by simp
    have k3 := fun w => sameStamp_ x y x y w
    rw [sme_self] at k3
    clear hb
    go_enter Tryd.func7, Tryd.ntmps7
    go_wp2_with fail
    refine (known_ _ (hT.kept B0)).mono ?_
    rintro e w1 ⟨rfl, g2⟩
    replace B0 := bel_bel B0 B0.size g2
    clear g2
    go_wp2_with fail
    refine (refBytes a n c zs _ (HB.out.below B0) (by omega)).mono ?_
    rintro e w2 ⟨v, rfl, ho, g2⟩
    have HO := hid ho
    have HG := hid g2
    have hsz := g2.size
    obtain ⟨i5, hi, hz0, hz1, hz2⟩ := info_parts info5
    have HI5 := hid hi
    have HZ0 := hid hz0
    have HZ1 := hid hz1
    have HZ2 := hid hz2
    clear hi hz0 hz1 hz2 ho g2
    go_wp2_with (at_builtin; refine three_own HI5.out HZ0.out HZ1.out HZ2.out HO.out (by omega) hsz rfl _ _ rfl rfl rfl ?_; intro g cap w3 hh h1 h2 g3; have g2 := HG.out.trans g3; have x1 : (n : Int) ≤ (cap : Int) := (by omega); have x2 : ¬ cap = 0 := (by omega); unfold maxLen at h2)
    replace B0 := bel_bel B0 B0.size g2
    have HYS : Hid (∀ z ∈ zs ++ [201, 202, 203], 0 ≤ z ∧ z ≤ 255) := fun z hz => by
      rcases List.mem_append.1 hz with h | h
      · exact HBY.out z h
      · simp at h; omega
    have HTK : Hid ((zs ++ [201, 202, 203]).take n = zs) := by show _ = _; rw [← HL.out, List.take_left]
    have hp : Bs w3 (some ⟨g, 0, none⟩) n zs := by
      have := hh.bs (m := n) (by rw [List.length_append, HL.out]; omega) HYS.out
      rwa [HTK.out] at this
    clear g2 g3 HO HG hsz HI5 HZ0 HZ1 HZ2
    refine (k1 g cap _ hp (by omega) (by unfold maxLen; omega)).mono ?_
    rintro e w4 ⟨rfl, g2⟩
    replace hh := hh.below g2
    replace hp := hp.below g2
    replace B0 := bel_bel B0 B0.size g2
    clear g2 k1
    have m1 := Sm.new w4 x y
    replace hp := hp.below ((Below.refl _ _).alloc (Nat.le_refl _) (.cells #[.int .i64 x, .int .i64 y] 23))
    replace hh := hh.below ((Below.refl _ _).alloc (Nat.le_refl _) (.cells #[.int .i64 x, .int .i64 y] 23))
    replace B0 := B0.alloc B0.size (.cells #[.int .i64 x, .int .i64 y] 23)
    go_wp2_with fail
    refine (k2 _ (HB.out.below B0)).mono ?_
    rintro e w5 ⟨rfl, g2⟩
    replace hh := hh.below g2
    replace hp := hp.below g2
    replace m1 := m1.kept g2
    replace B0 := bel_bel B0 B0.size g2
    clear g2 k2
    have m2 := Sm.new w5 x y
    replace m1 := m1.alloc (.cells #[.int .i64 x, .int .i64 y] 23)
    replace hp := hp.below ((Below.refl _ _).alloc (Nat.le_refl _) (.cells #[.int .i64 x, .int .i64 y] 23))
    replace hh := hh.below ((Below.refl _ _).alloc (Nat.le_refl _) (.cells #[.int .i64 x, .int .i64 y] 23))
    replace B0 := B0.alloc B0.size (.cells #[.int .i64 x, .int .i64 y] 23)
    have c10 := m1.c0
    have c11 := m1.c1
    have c20 := m2.c0
    have c21 := m2.c1
    go_wp2_with fail
    refine (k3 _).mono ?_
    rintro e w6 ⟨rfl, g2⟩
    replace hh := hh.below g2
    replace hp := hp.below g2
    replace B0 := bel_bel B0 B0.size g2
    clear g2 k3 c10 c11 c20 c21 m1 m2
    go_wp2_with fail
    refine (same_yes (some ⟨g, 0, none⟩) a n cap n c zs _ hp (HB.out.below B0) (by omega) (by omega)).mono ?_
    rintro e w7 ⟨rfl, D⟩
    replace hh := hh.below D.below
    replace B0 := bel_bel B0 B0.size D.below
    clear D hp x1 x2
    have hl3 : (zs ++ [201, 202, 203]).length = n + 3 := by rw [List.length_append, HL.out]; rfl
    have z1 := hh.cell n (by omega)
    have z2 := hh.cell (n + 1) (by omega)
    have z3 := hh.cell (n + 2) (by omega)
    rw [show n = n + 0 from rfl, at_mark HL.out] at z1
    rw [at_mark HL.out] at z2 z3
    have z1 : w7.cell? ⟨g, n, none⟩ = some (.int .u8 201) := z1
    have z2 : w7.cell? ⟨g, n + 1, none⟩ = some (.int .u8 202) := z2
    have z3 : w7.cell? ⟨g, n + 2, none⟩ = some (.int .u8 203) := z3
    have y1 : (n : Int) < (n : Int) + 3 := by omega
    have y2 : (n : Int) + 1 < (n : Int) + 3 := by omega
    have y3 : (n : Int) + 2 < (n : Int) + 3 := by omega
    clear hh hl3
    go_wp2_with fail
    refine (num6_ b _).mono ?_
    rintro e w8 ⟨rfl, rfl⟩
    go_wp2_with fail
    go_ret
    exact ⟨rfl, B0⟩
end Go.Proofs.YtajjilheellfeaaDoor
