import Derived.Test.YtnmklleoilicdaaUJ
namespace Go.Proofs.Ytnmklleoilicdaa
set_option maxRecDepth 100000
open Go.RowKit Go.Shelf Go.Maps
set_option linter.unusedVariables false

theorem take_sx {l : List Sx} {k : Nat} (hk : k < l.length) : l.take (k + 1) = l.take k ++ [l.getD k default] := by
  have e : l.getD k default = l[k] := by simp [List.getD, hk]
  rw [List.take_succ_eq_append_getElem hk, e]
set_option maxHeartbeats 2000000 in
/-- The document's Sets: a copy in new memory. -/
theorem rsets_ (U : Nat → Prop) (a : Option Addr) (n c : Nat) (l : List Sx) (w : World) (hl : Sl w U a n l) (hn : n ≤ 100000) (hsh : ∀ s ∈ l, s.k.length ≤ 100000 ∧ s.v.length ≤ 100000) :
    Calls Try.prog 14 #[.slice a n c] w fun e w' => ∃ v ds, e = .returned v ∧ Sw w w' v ds ∧ ds.map (·.s) = l := by
  have HL := hid hl
  have HLN : Hid (l.length = n) := hl.len
  have HSH := hid hsh
  have HOK := hid hl.okS
  clear hl hsh
  go_enter Try.func14, Try.ntmps14
  go_wp2_with fail
  go_loopw [3, 4] (fun v i wr => ∃ (k : Nat) (ds : List SD), k ≤ n ∧ i = .int .i64 k ∧ Hid (Sw w wr v ds) ∧ Hid (ds.map (·.s) = l.take k)) (fun _ i _ => n - (intOf i).toNat)
  case atStart => exact ⟨0, [], Nat.zero_le _, rfl, ⟨World.ownsRow_nil _ _ _ _, fun d hd => by simp at hd, Below.refl _ _⟩, rfl⟩
  case round =>
    obtain ⟨k, ds, hk, rfl, HS, HI⟩ := hrel
    by_cases hlt : k < n
    · have hI : (k : Int) < n := by omega
      have hkL : k < l.length := by rw [HLN.out]; exact hlt
      obtain ⟨bl, off, ka, kc, va, vc, kn, vn, rfl, hkn, hvn, c0, c1, c2, v1, v2⟩ := (HL.out.below HS.out.bel).at hlt
      have hmem : l.getD k default ∈ l := by
        have e : l.getD k default = l[k] := by simp [List.getD, hkL]
        rw [e]; exact List.getElem_mem hkL
      have hsz := HSH.out _ hmem
      have hok := HOK.out _ hmem
      rw [← hkn, ← hvn] at hsz
      have HTK := hid (take_sx hkL)
      obtain ⟨s, HSx⟩ : ∃ s, Hid (l.getD k default = s) := ⟨_, rfl⟩
      rw [HSx.out] at c2 v1 v2 hok HTK hkn hvn
      obtain ⟨K, X, g⟩ := s
      simp only at c2 v1 v2 hkn hvn
      have HDL : Hid (ds.length ≤ 100000) := by have h := congrArg List.length HI.out; rw [List.length_map, List.length_take] at h; show _ ≤ _; omega
      have HOK1 := hid hok.1
      have HOK2 := hid hok.2
      have k1 := refBytes ka kn kc K wr v1.bs (by omega)
      have HV2 := hid v2
      have HKN := hid hkn
      have HVN := hid hvn
      clear hlt hkL hmem hok v1 v2 hkn hvn
      go_wp2_with fail
      refine k1.mono ?_
      rintro e w1 ⟨x1, rfl, o1, g1⟩
      obtain ⟨p1, q1, rfl, vs1⟩ := Vs.own o1 HOK1.out
      have hlt1 : ∀ x, (Value.slice p1 kn q1).ownBlock = some x → wr.heap.size ≤ x := fun x e => (o1.lt x e).1
      have HS1 := hid (HS.out.below g1)
      have d1 := (g1.cell (World.block_lt_of_cell? _ _ c1)).trans c1
      have d2 := (g1.cell (World.block_lt_of_cell? _ _ c2)).trans c2
      have HV2 := hid (HV2.out.lift g1 (fun _ _ h => h))
      have hown : ∀ x, u3.ownBlock = some x → x < wr.heap.size := fun x e => (HS.out.own.lt x e).2
      have HW1 : Hid (Vs w1 (fun x => w.heap.size ≤ x ∧ u3.ownBlock ≠ some x) p1 kn q1 K) := vs1.wide fun x _ hx => ⟨Nat.le_trans HS.out.bel.size (hlt1 x hx), fun e => by have := hown x e; have := hlt1 x hx; omega⟩
      have k2 := refBytes va vn vc X w1 HV2.out.bs (by omega)
      have HC2 := hid d2
      clear k1 o1 vs1 g1 c0 c1 c2 HS hlt1 hown
      go_wp2_with fail
      refine k2.mono ?_
      rintro e w2 ⟨x2, rfl, o2, g2⟩
      obtain ⟨p2, q2, rfl, vs2⟩ := Vs.own o2 HOK2.out
      have hlt2 : ∀ x, (Value.slice p2 vn q2).ownBlock = some x → w1.heap.size ≤ x := fun x e => (o2.lt x e).1
      have hown : ∀ x, u3.ownBlock = some x → x < w1.heap.size := fun x e => (HS1.out.own.lt x e).2
      have HW2 : Hid (Vs w2 (fun x => w.heap.size ≤ x ∧ u3.ownBlock ≠ some x) p2 vn q2 X) := vs2.wide fun x _ hx => ⟨Nat.le_trans HS1.out.bel.size (hlt2 x hx), fun e => by have := hown x e; have := hlt2 x hx; omega⟩
      have HW1 := hid (HW1.out.lift g2 (fun _ _ h => h))
      have HS2 := hid (HS1.out.below g2)
      have e2 := (g2.cell (World.block_lt_of_cell? _ _ HC2.out)).trans HC2.out
      clear k2 o2 vs2 g2 d1 d2 HC2 HS1 hlt2 hown HV2
      have HOA := hid (HS2.out.own.alloc (.cells #[.slice p1 kn q1, .slice p2 vn q2, .bool g] 37))
      have HNW : Hid (∀ j u, (sdc ⟨p1, q1, p2, q2, ⟨K, X, g⟩⟩)[j]? = some u → (w2.alloc (.cells #[.slice p1 kn q1, .slice p2 vn q2, .bool g] 37)).cell? ⟨w2.heap.size, j, none⟩ = some u) := fun j u hj => by
        rw [cell_of_row _ w2.heap.size j _ 37 (0, 0) (heap_alloc_new w2 _)]
        simp only [sdc, ← HKN.out, ← HVN.out] at hj
        simpa using hj
      have HSZ : Hid (w.heap.size ≤ (w2.alloc (.cells #[.slice p1 kn q1, .slice p2 vn q2, .bool g] 37)).heap.size) := by have := HS2.out.bel.size; show _ ≤ _; simp; omega
      go_wp2_with (at_builtin; refine wpList_appSet rfl _ _ rfl w.heap.size _ ds rfl (by exact HOA.out) w2.heap.size ⟨p1, q1, p2, q2, ⟨K, X, g⟩⟩ rfl (by exact HNW.out) (by have := HDL.out; omega) (by exact HSZ.out) ?_; intro v5 w5 o5 g5 l5; have HO5 := hid o5; have HG5 := hid g5; have HL5 := hid l5; clear o5 g5 l5 HNW)
      have HSV : Hid (SV w2 (fun x => w.heap.size ≤ x ∧ u3.ownBlock ≠ some x) ⟨p1, q1, p2, q2, ⟨K, X, g⟩⟩) := by
        refine ⟨?_, ?_⟩
        · show Vs _ _ _ K.length _ _
          rw [← HKN.out]; exact HW1.out
        · show Vs _ _ _ X.length _ _
          rw [← HVN.out]; exact HW2.out
      have HS5 := hid (HS2.out.app HSV.out HO5.out HG5.out HL5.out)
      have HI5 : Hid ((ds ++ [⟨p1, q1, p2, q2, ⟨K, X, g⟩⟩] : List SD).map (·.s) = l.take (k + 1)) := by
        show _ = _
        rw [HTK.out, List.map_append, HI.out]
        rfl
      go_roundw
      case rel => exact ⟨k + 1, _, by omega, by go_num, HS5, HI5⟩
      case measure => simp [intOf]; omega
    · have hI : ¬ (k : Int) < n := by omega
      have HF : Hid (ds.map (·.s) = l) := HI.out.trans (List.take_of_length_le (by rw [HLN.out]; omega))
      clear hlt
      go_wp2_with fail
      go_ret
      exact ⟨_, rfl, ds, HS.out, HF.out⟩
end Go.Proofs.Ytnmklleoilicdaa
