import Derived.Test.YtcbmgpmjnehjdaaGreatRJ
namespace Go.Proofs.YtcbmgpmjnehjdaaGreat
set_option maxRecDepth 100000
open Go.RowKit
set_option linter.unusedVariables false

set_option maxHeartbeats 400000 in
/-- The document's GetLane, where a length is another. -/
theorem rgetLane0_ (ka va : Option Addr) (kn kc vn vc : Nat) (k v : List Int) (w : World) (hk : Bs w ka kn k) (hv : Bs w va vn v) (h3 : kn ≤ maxLen) (h4 : vn ≤ maxLen) (hok : ¬ (kn = 33 ∧ vn = 37)) :
    Calls Tryz.prog 30 #[.agg #[.slice ka kn kc, .slice va vn vc]] w fun e w' => Ga w k v e w' := by
  have hy : yok k v = false := by
    unfold yok
    rw [decide_eq_false (by rw [hk.1, hv.1]; exact hok), Bool.false_and]
  have HY := hid hy
  unfold maxLen at h3 h4
  have BA : Below w.heap.size w ((w.alloc (.cells #[.slice ka kn kc, .slice va vn vc] 54)).alloc (.cells #[.slice none 0 0, .int .i64 0, .int .i64 0, .int .i64 0, .int .u64 0, .int .u64 0, .int .i64 0, .int .i64 0] 64)) := ((Below.refl _ _).alloc (Nat.le_refl _) _).alloc (by simp) _
  have m2 := Lm.new (w.alloc (.cells #[.slice ka kn kc, .slice va vn vc] 54)) none 0 0 0 0 0 0 0 0 0
  rw [World.size_alloc] at m2
  have HBA := hid BA
  have HM2 := hid m2
  clear BA m2 hk hv hy
  by_cases h33 : kn = 33
  · have h37 : ((vn : Int) != 37) = true := bne_iff_ne.2 (by omega)
    subst h33
    have h37' : ¬ (vn : Int) = 37 := by omega
    clear hok
    go_enter Tryz.func30, Tryz.ntmps30
    go_wp2_with fail
    refine bodyPost_ret (v := .tuple #[.agg #[.slice none 0 0, .int .i64 0, .int .i64 0, .int .i64 0, .int .u64 0, .int .u64 0, .int .i64 0, .int .i64 0], .int .i64 114]) ?_ rfl ⟨⟨none, 0, ?_⟩, HBA.out⟩
    · exact results_ln rfl _ _ (w.heap.size + 1) none 0 0 0 0 0 0 0 0 0 _ rfl rfl HM2.out
    · rw [HY.out]
      exact rfl
  · have h33' : ((kn : Int) != 33) = true := bne_iff_ne.2 (by omega)
    have h33'' : ¬ (kn : Int) = 33 := by omega
    clear hok h33
    go_enter Tryz.func30, Tryz.ntmps30
    go_wp2_with fail
    refine bodyPost_ret (v := .tuple #[.agg #[.slice none 0 0, .int .i64 0, .int .i64 0, .int .i64 0, .int .u64 0, .int .u64 0, .int .i64 0, .int .i64 0], .int .i64 114]) ?_ rfl ⟨⟨none, 0, ?_⟩, HBA.out⟩
    · exact results_ln rfl _ _ (w.heap.size + 1) none 0 0 0 0 0 0 0 0 0 _ rfl rfl HM2.out
    · rw [HY.out]
      exact rfl
end Go.Proofs.YtcbmgpmjnehjdaaGreat
namespace Go.Proofs.YtcbmgpmjnehjdaaGreat
set_option maxRecDepth 100000
open Go.RowKit
set_option linter.unusedVariables false

theorem sizerw : (Tryz.prog.info? 54).map (·.size) = some 2 := by kernel_rfl
end Go.Proofs.YtcbmgpmjnehjdaaGreat
