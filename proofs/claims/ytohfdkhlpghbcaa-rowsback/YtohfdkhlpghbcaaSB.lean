import Derived.Test.YtohfdkhlpghbcaaRY
import Derived.Test.YtohfdkhlpghbcaaSA
import Derived.Test.YtohfdkhlpghbcaaRL
namespace Go.Proofs.Ytohfdkhlpghbcaa
set_option maxRecDepth 100000
open Go.RowKit
set_option linter.unusedVariables false

/-- The document's GetLane, of any row. -/
theorem rgetLaneA_ (ka va : Option Addr) (kn kc vn vc : Nat) (k v : List Int) (w : World) (hk : Bs w ka kn k) (hv : Bs w va vn v) (h1 : kn ≤ kc) (h2 : vn ≤ vc) (h3 : kc ≤ maxLen) (h4 : vc ≤ maxLen) :
    Calls Try.prog 21 #[.agg #[.slice ka kn kc, .slice va vn vc]] w fun e w' => Gb w k v e w' := by
  by_cases h : kn = 33 ∧ vn = 37
  · exact (rgetLane_ ka va kn kc vn vc k v w hk hv h1 h2 h3 h4 h).mono fun e w' h => h.gb
  · exact (rgetLane0_ ka va kn kc vn vc k v w hk hv (Nat.le_trans h1 h3) (Nat.le_trans h2 h4) h).mono fun e w' h => h.gb
set_option maxHeartbeats 1000000 in
/-- The landed GetLane. -/
theorem getLane_ (ka va : Option Addr) (kn kc vn vc : Nat) (k v : List Int) (w : World) (hk : Bs w ka kn k) (hv : Bs w va vn v) (hka : ka = none → kc = 0) (hva : va = none → vc = 0) (hkc : kn ≤ kc) (hvc : vn ≤ vc) (h1 : kn ≤ 140737488351232) (h2 : vn ≤ 140737488351232) :
    Calls Try.prog 20 #[.agg #[.slice ka kn kc, .slice va vn vc]] w fun e w' => Gb w k v e w' := by
  have BA : Below w.heap.size w ((w.alloc (.cells #[.slice ka kn kc, .slice va vn vc] 27)).alloc (.cells #[.slice none 0 0, .int .i64 0, .int .i64 0, .int .i64 0, .int .u64 0, .int .u64 0, .int .i64 0, .int .i64 0] 48)) := (bel_al w _).alloc (by simp) _
  have m2 := Lm.new (w.alloc (.cells #[.slice ka kn kc, .slice va vn vc] 27)) none 0 0 0 0 0 0 0 0 0
  rw [World.size_alloc] at m2
  have kk := (getL_ ka va kn kc vn vc k v _ (hk.below BA) (hv.below BA) hka hva hkc hvc h1 h2).mono fun e w' h => Ga.gb h
  unfold Gb at *
  clear hk hv hka hva hkc hvc h1 h2
  generalize zK k v = K at *
  generalize zS k v = S at *
  generalize zC k v = C at *
  generalize zN k v = N at *
  generalize zD k v = D at *
  generalize zE k v = E at *
  generalize zs k v = s at *
  generalize zn k v = n at *
  generalize zO k v = O at *
  have HBA := hid BA
  have HM := hid m2
  clear BA m2
  obtain ⟨kl, HKL⟩ : ∃ x : Nat, Hid (K.length = x) := ⟨_, rfl⟩
  rw [HKL.out] at kk ⊢
  go_enter Try.func20, Try.ntmps20
  go_wp2_with fail
  refine kk.mono ?_
  rintro e w1 ⟨a, c, rfl, vs, g1⟩
  have HB1 := hid (bel_bel HBA.out HBA.out.size g1)
  have HZ := hid (HM.out.kept g1)
  have HVS := hid vs
  clear kk vs g1 HBA HM
  go_wp2_with (refine wpList_sln rfl rfl _ _ rfl (w.heap.size + 1) a kl c S C N D E s n rfl rfl (by with_reducible exact HZ.out) ?_)
  refine bodyPost_ret (v := .tuple #[.agg #[.slice a kl c, .int .i64 S, .int .i64 C, .int .i64 N, .int .u64 D, .int .u64 E, .int .i64 s, .int .i64 n], .int .i64 O]) ?_ rfl ⟨a, c, rfl, ?_, bel_row HB1.out (Nat.le_succ _) _⟩
  · exact results_ln rfl _ _ (w.heap.size + 1) a kl c S C N D E s n _ rfl rfl (HZ.out.row a kl c S C N D E s n)
  · exact ((HVS.out.wide (V' := fun x => w.heap.size + 2 ≤ x) fun x _ hx => by simp at hx; omega).step fun x _ hV _ => setRow_other _ _ _ _ (by omega)).wide fun x _ hx => by omega
theorem lnum_ (e : Int) (w : World) : Calls Try.prog 15 #[.int .i64 e] w fun en w' => en = .returned (.int .i64 e) ∧ w' = w := by
  go_enter Try.func15, Try.ntmps15
  go_wp2_with fail
  go_ret
  exact ⟨rfl, rfl⟩
set_option maxHeartbeats 1000000 in
/-- The laws' key: 32 bytes x. -/
theorem lkey_ (x : Int) (w : World) (hx : 0 ≤ x ∧ x ≤ 255) :
    Calls Try.prog 43 #[.int .u8 x] w fun e w' => ∃ v, e = .returned v ∧ w'.ownsRow w.heap.size 5 1 v 32 (cells (List.replicate 32 x)) ∧ Below w.heap.size w w' := by
  have HT : ∀ j, Hid (List.replicate j x ++ [x] = List.replicate (j + 1) x) := fun j => List.replicate_succ'.symm
  obtain ⟨f, Hf⟩ : ∃ f : Nat → List Int, Hid (∀ j, f j = List.replicate j x) := ⟨_, fun _ => rfl⟩
  rw [← Hf.out 32]
  go_enter Try.func43, Try.ntmps43
  go_wp2_with fail
  go_loopw [3, 4] (fun v i wr => ∃ k : Nat, k ≤ 32 ∧ i = .int .i64 (k : Int) ∧ Hid (wr.ownsRow w.heap.size 5 1 v k (cells (f k))) ∧ Hid (Below w.heap.size w wr)) (fun _ i _ => (32 - intOf i).toNat)
  case atStart => exact ⟨0, by omega, rfl, by rw [Hf.out 0]; exact World.ownsRow_nil _ _ _ _, Below.refl _ _⟩
  case round =>
    obtain ⟨k, hk, rfl, HO, HB⟩ := hrel
    have hsz : w.heap.size ≤ wr.heap.size := HB.out.size
    by_cases hlt : k < 32
    · have hkI : (k : Int) < 32 := by omega
      have HOA := hid (HO.out.alloc (.cells #[.int .u8 x] 5))
      have HBS : Hid (Bs (wr.alloc (.cells #[.int .u8 x] 5)) (some ⟨wr.heap.size, 0, none⟩) 1 [x]) := bs_lit wr [x] (0, 0) (Okb1 x hx)
      have HSZ : Hid (w.heap.size ≤ (wr.alloc (.cells #[.int .u8 x] 5)).heap.size) := by show _ ≤ _; simp; omega
      go_wp2_with (at_builtin; refine wpList_appT rfl _ _ rfl w.heap.size _ k (f k) rfl (by exact HOA.out) (some ⟨wr.heap.size, 0, none⟩) 1 1 [x] rfl (by exact HBS.out) (by omega) (by exact HSZ.out) ?_; intro v5 w5 o5 g5; have HO5 := hid o5; have HG5 := hid g5; clear o5 g5)
      have HO6 : Hid (w5.ownsRow w.heap.size 5 1 v5 (k + 1) (cells (f (k + 1)))) := by
        have h := HO5.out
        have e : f k ++ [x] = f (k + 1) := by rw [Hf.out k, Hf.out (k + 1)]; exact (HT k).out
        rw [e] at h
        exact h
      have HB5 : Hid (Below w.heap.size w w5) := (HB.out.alloc hsz (.cells #[.int .u8 x] 5)).grown HG5.out (by exact HSZ.out) (fun p hp => (HO.out.lt p hp).1)
      clear HO5 HG5 HOA HBS
      go_roundw
      case rel => exact ⟨k + 1, by omega, by go_num, HO6, HB5⟩
      case measure => simp [intOf]; omega
    · have hkI : ¬ (k : Int) < 32 := by omega
      have HKE : Hid (k = 32) := by show _ = _; omega
      clear hlt hk
      go_wp2_with fail
      go_ret
      exact ⟨_, rfl, by have h := HO.out; rw [HKE.out] at h; exact h, HB.out⟩
end Go.Proofs.Ytohfdkhlpghbcaa
