import Derived.Test.YthjfgdldclhbhaaME
namespace Go.Proofs.Ythjfgdldclhbhaa
set_option maxRecDepth 100000
open Go.RowKit Go.Shelf
set_option linter.unusedVariables false

/-- A model's cells when it is new. -/
def mz : Array Value := Array.replicate 33 (.slice none 0 0)
theorem mz_built : Try.prog.built 63 [] = some mz := by kernel_rfl
theorem wpList_mz {ops : Array Oper} {rest : List Oper} {o : Oper} {a : Act} {w : World} {Q : Exit → Act → World → Prop} (hg : o.guard = none) (ho : o.op = .build 63 #[])
    (h : wpList Try.prog ops Q rest (a.put o.dst (.agg mz)) w) : wpList Try.prog ops Q (o :: rest) a w := by
  exact wpList_build hg 63 #[] ho (by simp [mz_built]) (by simpa [mz_built] using h)
theorem sy_new {w0 w : World} {d : Nat} {Q : Nat → Prop} (D : Dev w d (st0 32) Q) (lo : ∀ b, Q b → w0.heap.size ≤ b) (B : Below w0.heap.size w0 w) : Sy w0 (w.alloc (.cells mz 63)) d (st0 32) Q w.heap.size := by
  have BA : Below w.heap.size w (w.alloc (.cells mz 63)) := (Below.refl _ _).alloc (Nat.le_refl _) _
  refine ⟨D.below BA, ⟨mz, none, 0, [], ⟨heap_alloc_new w _, by simp [mz], fun i hi => ⟨.slice none 0 0, by unfold mz; rw [Array.getElem?_replicate, if_pos (by omega)], .inl ⟨rfl, rfl⟩⟩, by simp [mz], World.ownsRow_nil _ _ _ _, fun x hx => by simp at hx, rfl, ⟨B.size, fun hq => by have := D.lt _ hq; omega⟩, fun q hq => by simp [Value.ownBlock] at hq⟩⟩, lo, bel_bel B B.size BA, rfl⟩
theorem IsOps.cells {w wx : World} {a : Option Addr} {n j : Nat} {O : Nat → Ov} (h : IsOps w a n O) (hj : j < n) (hb : Below w.heap.size w wx) : ∃ b off, a = some ⟨b, off, none⟩ ∧ wx.cell? ⟨b, off + j * 6, none⟩ = some (.int .i64 (O j).K) ∧ wx.cell? ⟨b, off + j * 6 + 1, none⟩ = some (.int .i64 (O j).I) ∧ wx.cell? ⟨b, off + j * 6 + 2, none⟩ = some (.bool (O j).sc) ∧ wx.cell? ⟨b, off + j * 6 + 3, none⟩ = some (.slice (O j).Da (O j).Dn (O j).Dc) ∧ wx.cell? ⟨b, off + j * 6 + 4, none⟩ = some (.slice (O j).Fa (O j).Fn (O j).Fc) ∧ wx.cell? ⟨b, off + j * 6 + 5, none⟩ = some (.slice (O j).Ka (O j).Kn (O j).Kc) := by
  rcases h with h0 | ⟨b, off, e, hc⟩
  · omega
  · obtain ⟨⟨c0, c1, c2, c3, c4, c5⟩, _⟩ := hc j hj
    have hl := World.block_lt_of_cell? w _ c0
    exact ⟨b, off, e, (hb.cell (p := ⟨b, off + j * 6, none⟩) hl).trans c0, (hb.cell (p := ⟨b, off + j * 6 + 1, none⟩) hl).trans c1, (hb.cell (p := ⟨b, off + j * 6 + 2, none⟩) hl).trans c2, (hb.cell (p := ⟨b, off + j * 6 + 3, none⟩) hl).trans c3, (hb.cell (p := ⟨b, off + j * 6 + 4, none⟩) hl).trans c4, (hb.cell (p := ⟨b, off + j * 6 + 5, none⟩) hl).trans c5⟩
theorem IsOps.ok {w : World} {a : Option Addr} {n j : Nat} {O : Nat → Ov} (h : IsOps w a n O) (hj : j < n) : (O j).Ok w := by
  rcases h with h0 | ⟨b, off, e, hc⟩
  · omega
  · exact (hc j hj).2
/-- m.is(d.Durable()). -/
theorem isDur_ {w0 w w' : World} {d g : Nat} {s : St} {Q : Nat → Prop} {v : Value} (h : Sy w0 w d s Q g) (o : w'.ownsRow w.heap.size 5 1 v (512 * s.n) (cells (flat s.S s.n))) (gb : Below w.heap.size w w') :
    (∃ a c, v = .slice a 16384 c) ∧ Sy w0 w' d s Q g ∧ ∀ wx, Below w'.heap.size w' wx → Calls Try.prog 26 #[.pointer (some ⟨g, 0, none⟩), v] wx fun e w2 => e = .returned (.bool true) ∧ Below wx.heap.size wx w2 := by
  have hn := h.n
  have hsec := h.dev.sec
  rw [hn] at o hsec
  obtain ⟨a, c, rfl, b1, c1, c2, _⟩ := own_form o (flat_byte 32 hsec)
  have h2 := h.below gb
  refine ⟨⟨a, c, rfl⟩, h2, fun wx hx => ?_⟩
  obtain ⟨cur, pa, pc, I, m⟩ := (h2.below hx).md
  exact mis_ g _ _ _ cur pa pc I a c wx m (b1.below hx) c1 c2 (fun i hi => (hsec i hi).1)
set_option maxHeartbeats 8000000 in
theorem diskLasts_ (a : Option Addr) (n c : Nat) (O : Nat → Ov) (w : World) (hO : IsOps w a n O) (hn : n ≤ 140737488355328) :
    Calls Try.prog 6 #[.slice a n c] w fun e w' => e = .returned (.bool true) ∧ Below w.heap.size w w' := by
  have HO := hid hO
  clear hO
  go_enter Try.func6, Try.ntmps6
  go_wp2_with fail
  refine (first_ w).mono ?_
  rintro e w1 ⟨rfl, B1⟩
  go_wp2_with fail
  refine (new_ 32 w1 (by decide) (by decide)).mono ?_
  rintro e w2 ⟨d, rfl, D2, g2⟩
  have B2 := bel_bel B1 B1.size g2
  have S0 := hid (sy_new (w0 := w) D2 (fun b hb => Nat.le_trans B1.size hb.1) B2)
  generalize (fun b => w1.heap.size ≤ b ∧ b < w2.heap.size) = Q0 at *
  clear B1 g2 D2 B2
  go_wp2_with (refine wpList_mz rfl rfl ?_)
  go_loopw [3, 6] (fun ok i wr => ∃ (j : Nat) (s : St) (Q : Nat → Prop), j ≤ n ∧ j ≤ 300 ∧ ok = .bool true ∧ i = .int .i64 j ∧ Sy w wr d s Q w2.heap.size ∧ s.c ≤ j ∧ s.P.length ≤ j ∧ s.k ≤ j) (fun _ i _ => n - (intOf i).toNat)
  case atStart => exact ⟨0, _, _, Nat.zero_le _, Nat.zero_le _, rfl, rfl, S0.out, Nat.le_refl _, Nat.le_refl _, Nat.le_refl _⟩
  case round =>
    clear S0
    obtain ⟨j, s, Q, hj, hj3, rfl, rfl, hs, hc, hp, hk⟩ := hrel
    generalize w2.heap.size = g at *
    by_cases hlt : j < n ∧ j < 300
    · have hjI : (j : Int) < (n : Int) := by omega
      have hjI3 : (j : Int) < 300 := by omega
      obtain ⟨b, off, rfl, c0, c1, c2, c3, c4, c5⟩ := HO.out.cells hlt.1 hs.bel
      have kf := follows_ w wr d g s Q (O j) hs (HO.out.ok hlt.1) (by omega) (by omega) (by omega)
      have hle := fol_le (O j) s
      have HOK := hid (HO.out.ok hlt.1)
      have HCL : Hid (∀ wx, Below w.heap.size w wx → wx.cell? ⟨b, off + j * 6, none⟩ = some (.int .i64 (O j).K)) := fun wx hx => by
        obtain ⟨b', off', e, q, _⟩ := HO.out.cells hlt.1 hx
        obtain ⟨rfl, rfl⟩ : b = b' ∧ off = off' := by simpa using e
        exact q
      obtain ⟨s', HS'⟩ : ∃ s', Hid ((O j).fol s = s') := ⟨_, rfl⟩
      rw [HS'.out] at kf hle
      obtain ⟨K, HK⟩ : ∃ K, Hid ((O j).K = K) := ⟨_, rfl⟩
      rw [HK.out] at c0 HCL kf
      generalize (O j).I = oI at *
      generalize (O j).sc = osc at *
      generalize (O j).Da = oDa at *
      generalize (O j).Dn = oDn at *
      generalize (O j).Dc = oDc at *
      generalize (O j).Fa = oFa at *
      generalize (O j).Fn = oFn at *
      generalize (O j).Fc = oFc at *
      generalize (O j).Ka = oKa at *
      generalize (O j).Kn = oKn at *
      generalize (O j).Kc = oKc at *
      clear hs hlt
      go_wp2_with fail
      refine kf.mono ?_
      rintro e w3 ⟨rfl, Q3, S3⟩
      have d0 := HCL.out _ S3.bel
      have HS3 := hid S3
      clear kf c0 c1 c2 c3 c4 c5 S3
      by_cases hk64 : K = 6 ∨ K = 4
      · have kd := durable_ d s' Q3 w3 HS3.out.dev
        have kk : (K == 6) = true ∨ ((K == 6) = false ∧ (K == 4) = true) := by
          rcases hk64 with rfl | rfl
          · exact .inl rfl
          · exact .inr ⟨rfl, rfl⟩
        clear hk64
        rcases kk with k6 | ⟨k6, k4⟩
        all_goals
          go_wp2_with fail
          refine kd.mono ?_
          rintro e w4 ⟨v4, rfl, o4, g4⟩
          obtain ⟨⟨a4, c4, rfl⟩, S4, km⟩ := isDur_ HS3.out o4 g4
          have HS4 := hid S4
          have km4 := km w4 (Below.refl _ _)
          clear kd o4 g4 S4 km
          go_wp2_with fail
          refine km4.mono ?_
          rintro e w5 ⟨rfl, g5⟩
          have S5 := hid (HS4.out.below g5)
          clear km4 g5 d0
          go_wp2_with fail
          go_roundw
          case rel => exact ⟨j + 1, s', Q3, by omega, by omega, rfl, by go_num, S5.out, by omega, by omega, by omega⟩
          case measure => simp [intOf]; omega
      · have k6 : (K == 6) = false := by simp; omega
        have k4 : (K == 4) = false := by simp; omega
        clear hk64
        go_wp2_with fail
        go_roundw
        case rel => exact ⟨j + 1, s', Q3, by omega, by omega, rfl, by go_num, HS3.out, by omega, by omega, by omega⟩
        case measure => simp [intOf]; omega
    · have kq := pending_ d s Q wr hs.dev (by omega)
      have HS := hid hs
      clear hs
      have hjj : ¬ (j : Int) < (n : Int) ∨ ((j : Int) < (n : Int) ∧ ¬ (j : Int) < 300) := by omega
      clear hlt
      rcases hjj with hjI | ⟨hjI, hjI3⟩
      all_goals
        go_wp2_with fail
        refine kq.mono ?_
        rintro e w3 ⟨⟨v3, J, rfl, hJ⟩, g3⟩
        have S3 := HS.out.below g3
        obtain ⟨cur, pa, pc, I, m3⟩ := S3.md
        have c32 := m3.c32
        obtain ⟨va, vc, rfl⟩ : ∃ va vc, v3 = .slice va J.length vc := by
          rcases hJ.own.2 with ⟨rfl, h0⟩ | ⟨g, cap, cur, rfl, _⟩
          · exact ⟨none, 0, by rw [h0]⟩
          · exact ⟨_, _, rfl⟩
        have hIl : I.length ≤ 1000000 := by have := congrArg List.length m3.ip; rw [List.length_map] at this; omega
        have kp := samePending_ va pa vc pc _ _ J I w3 hJ.own m3.own (fun x hx => (hJ.it x hx).1) (fun x hx => (m3.it x hx).2.1) (by rw [← hJ.ip, ← m3.ip]) hIl
        have HS3 := hid S3
        clear kq hJ g3 m3 S3
        go_wp2_with fail
        refine kp.mono ?_
        rintro e w4 ⟨rfl, g4⟩
        have S4 := HS3.out.below g4.below
        have kd := durable_ d s Q w4 S4.dev
        have HS4 := hid S4
        clear kp g4 c32 S4
        go_wp2_with fail
        refine kd.mono ?_
        rintro e w5 ⟨v5, rfl, o5, g5⟩
        obtain ⟨⟨a5, c5, rfl⟩, S5, km⟩ := isDur_ HS4.out o5 g5
        have km5 := km w5 (Below.refl _ _)
        have HS5 := hid S5
        clear kd o5 g5 S5 km
        go_wp2_with (go_at_call 26; refine km5.mono ?_; rintro e w6 ⟨rfl, g6⟩)
        go_ret
        exact ⟨rfl, (HS5.out.below g6).bel⟩
end Go.Proofs.Ythjfgdldclhbhaa
