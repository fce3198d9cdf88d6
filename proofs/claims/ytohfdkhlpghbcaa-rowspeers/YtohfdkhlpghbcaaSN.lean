import Derived.Test.YtohfdkhlpghbcaaSM
namespace Go.Proofs.Ytohfdkhlpghbcaa
set_option maxRecDepth 100000
open Go.RowKit
set_option linter.unusedVariables false

set_option maxHeartbeats 1000000 in
/-- The document's GetPeer, of rows of other lengths. -/
theorem rgetPeer0_ (ka va : Option Addr) (kn kc vn vc : Nat) (k v : List Int) (w : World) (hk : Bs w ka kn k) (hv : Bs w va vn v) (h3 : kn ≤ maxLen) (h4 : vn ≤ maxLen) (hno : ¬ (kn = 5 ∧ 33 ≤ vn)) (q : Bool) (hq : (q = true) ↔ Gp k v) :
    Calls Try.prog 13 #[.agg #[.slice ka kn kc, .slice va vn vc]] w fun e w' => Gq w k v q e w' := by
  unfold maxLen at h3 h4
  have HQF : Hid (q = false) := by
    show _ = _
    cases hqq : q with
    | false => rfl
    | true =>
      obtain ⟨g1, g2, -⟩ := hq.1 hqq
      rw [hk.1] at g1
      rw [hv.1] at g2
      exact absurd ⟨g1, g2⟩ hno
  have BA : Below w.heap.size w ((w.alloc (.cells #[.slice ka kn kc, .slice va vn vc] 27)).alloc (.cells #[.int .i64 0, .slice none 0 0, .slice none 0 0] 25)) := (bel_al w _).alloc (by simp) _
  have m1 : ((w.alloc (.cells #[.slice ka kn kc, .slice va vn vc] 27)).alloc (.cells #[.int .i64 0, .slice none 0 0, .slice none 0 0] 25)).heap[w.heap.size]? = some (.cells #[.slice ka kn kc, .slice va vn vc] 27 (0, 0)) := (Below.heap_alloc _ _ _ (by simp)).trans (heap_alloc_new w _)
  have m2 := Pe.new (w.alloc (.cells #[.slice ka kn kc, .slice va vn vc] 27)) 0 none 0 0 none 0 0
  rw [World.size_alloc] at m2
  have HBA := hid BA
  have HZ := hid m2
  have y0 := (two_cell m1).1
  have y1 := (two_cell m1).2
  clear BA m1 m2 hk hv hq
  rw [HQF.out]
  by_cases h5 : kn = 5
  · subst h5
    have hv' : (vn : Int) < 33 := by omega
    clear hno HQF
    go_enter Try.func13, Try.ntmps13
    go_wp2_with (refine wpList_spe rfl rfl _ _ rfl (w.heap.size + 1) 0 none 0 0 none 0 0 rfl rfl (by with_reducible exact HZ.out) ?_)
    refine bodyPost_ret (v := .tuple #[.agg #[.int .i64 0, .slice none 0 0, .slice none 0 0], .int .i64 114]) ?_ rfl ?_
    · exact results_pe rfl _ _ (w.heap.size + 1) 0 none 0 0 none 0 0 _ rfl rfl (HZ.out.row 0 none 0 0 none 0 0)
    · exact ⟨none, 0, none, 0, rfl, vs_none _ _, pv_none _ _, bel_row HBA.out (Nat.le_succ _) _⟩
  · have h5' : ((kn : Int) != 5) = true := bne_iff_ne.2 (by omega)
    have h5'' : ¬ (kn : Int) = 5 := by omega
    clear hno HQF
    go_enter Try.func13, Try.ntmps13
    go_wp2_with (refine wpList_spe rfl rfl _ _ rfl (w.heap.size + 1) 0 none 0 0 none 0 0 rfl rfl (by with_reducible exact HZ.out) ?_)
    refine bodyPost_ret (v := .tuple #[.agg #[.int .i64 0, .slice none 0 0, .slice none 0 0], .int .i64 114]) ?_ rfl ?_
    · exact results_pe rfl _ _ (w.heap.size + 1) 0 none 0 0 none 0 0 _ rfl rfl (HZ.out.row 0 none 0 0 none 0 0)
    · exact ⟨none, 0, none, 0, rfl, vs_none _ _, pv_none _ _, bel_row HBA.out (Nat.le_succ _) _⟩
/-- The document's GetPeer. -/
theorem rgetPeer_ (ka va : Option Addr) (kn kc vn vc : Nat) (k v : List Int) (w : World) (hk : Bs w ka kn k) (hv : Bs w va vn v) (hkc : kn ≤ kc) (hvc : vn ≤ vc) (h3 : kc ≤ maxLen) (h4 : vc ≤ maxLen) (h2 : vn ≤ 140737488351232) (q : Bool) (hq : (q = true) ↔ Gp k v) :
    Calls Try.prog 13 #[.agg #[.slice ka kn kc, .slice va vn vc]] w fun e w' => Gq w k v q e w' := by
  by_cases h : kn = 5 ∧ 33 ≤ vn
  · obtain ⟨rfl, h33⟩ := h
    rcases hv.2.2 with h0 | ⟨b, off, rfl, hc⟩
    · omega
    · exact rgetPeer1_ ka b off kc vn vc k v w hk hv hkc hvc h3 h4 h33 h2 q hq
  · exact rgetPeer0_ ka va kn kc vn vc k v w hk hv (Nat.le_trans hkc h3) (Nat.le_trans hvc h4) h q hq
set_option maxHeartbeats 1000000 in
/-- The landed GetPeer. -/
theorem getPeer_ (ka va : Option Addr) (kn kc vn vc : Nat) (k v : List Int) (w : World) (hk : Bs w ka kn k) (hv : Bs w va vn v) (hka : ka = none → kc = 0) (hva : va = none → vc = 0) (hkc : kn ≤ kc) (hvc : vn ≤ vc) (h1 : kn ≤ 140737488351232) (h2 : vn ≤ 140737488351232) (q : Bool) (hq : (q = true) ↔ Gp k v) :
    Calls Try.prog 11 #[.agg #[.slice ka kn kc, .slice va vn vc]] w fun e w' => Gq w k v q e w' := by
  have BA : Below w.heap.size w ((w.alloc (.cells #[.slice ka kn kc, .slice va vn vc] 27)).alloc (.cells #[.int .i64 0, .slice none 0 0, .slice none 0 0] 25)) := (bel_al w _).alloc (by simp) _
  have m2 := Pe.new (w.alloc (.cells #[.slice ka kn kc, .slice va vn vc] 27)) 0 none 0 0 none 0 0
  rw [World.size_alloc] at m2
  have kk := getP_ ka va kn kc vn vc k v _ (hk.below BA) (hv.below BA) hka hva hkc hvc h1 h2 q hq
  unfold Gq at *
  clear hk hv hka hva hkc hvc h1 h2 hq
  generalize (if q then xK k else 0) = K at *
  generalize (if q then v.take 32 else []) = KB at *
  generalize (if q then xP v else []) = PS at *
  generalize (if q then (0 : Int) else 114) = O at *
  have HBA := hid BA
  have HM := hid m2
  clear BA m2
  obtain ⟨kl, HKL⟩ : ∃ x : Nat, Hid (KB.length = x) := ⟨_, rfl⟩
  obtain ⟨pn, HPN⟩ : ∃ x : Nat, Hid (PS.length = x) := ⟨_, rfl⟩
  rw [HKL.out, HPN.out] at kk ⊢
  go_enter Try.func11, Try.ntmps11
  go_wp2_with fail
  refine kk.mono ?_
  rintro e w1 ⟨a, c, pa, d, rfl, vs, pv, g1⟩
  have HB1 := hid (bel_bel HBA.out HBA.out.size g1)
  have HZ := hid (HM.out.kept g1)
  have HVS := hid vs
  have HPV := hid pv
  clear kk vs pv g1 HBA HM
  go_wp2_with (refine wpList_spe rfl rfl _ _ rfl (w.heap.size + 1) K a kl c pa pn d rfl rfl (by with_reducible exact HZ.out) ?_)
  refine bodyPost_ret (v := .tuple #[.agg #[.int .i64 K, .slice a kl c, .slice pa pn d], .int .i64 O]) ?_ rfl ⟨a, c, pa, d, rfl, ?_, ?_, bel_row HB1.out (Nat.le_succ _) _⟩
  · exact results_pe rfl _ _ (w.heap.size + 1) K a kl c pa pn d _ rfl rfl (HZ.out.row K a kl c pa pn d)
  · exact ((HVS.out.wide (V' := fun x => w.heap.size + 2 ≤ x) fun x _ hx => by simp at hx; omega).step fun x _ hV _ => setRow_other _ _ _ _ (by omega)).wide fun x _ hx => by omega
  · exact ((HPV.out.wide (V' := fun x => w.heap.size + 2 ≤ x) fun x _ hx => by simp at hx; omega).step (fun x _ hV => setRow_other _ _ _ _ (by omega)) (by simp [World.setRow])).wide fun x _ hx => by omega
end Go.Proofs.Ytohfdkhlpghbcaa
