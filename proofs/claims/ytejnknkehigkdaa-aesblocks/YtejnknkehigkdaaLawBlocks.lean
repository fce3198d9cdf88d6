import Derived.Test.YtejnknkehigkdaaLawNews
import Derived.Test.YtejnknkehigkdaaRefD
namespace Go.Proofs.Ytejnknkehigkdaa
open Go.RowKit
set_option linter.unusedVariables false

theorem keyB {zs : List Int} (h : ∀ z ∈ zs, 0 ≤ z ∧ z ≤ 255) : ∀ z ∈ zs.map Int.toNat, z < 256 := by
  intro z hz
  obtain ⟨y, hy, rfl⟩ := List.mem_map.1 hz
  have := h y hy
  omega

set_option maxHeartbeats 2000000 in
theorem aesBlocks_ (a : Option Addr) (n cap : Nat) (zs : List Int) (f : Nat → Nat) (w : World) (hb : Bs w a n zs) (hn : n ≤ 140737488351232) (hf : ∀ i, i < 16 → f i < 256) :
    Calls Try.prog 5 #[.slice a n cap, .agg (av f)] w fun e w' => e = .returned (.bool true) ∧ Below w.heap.size w w' := by
  have KB : Hid (∀ j, kf (zs.map Int.toNat) j < 256) := kf_lt (keyB hb.2.1)
  have HF := hid hf
  clear hf
  obtain ⟨A0, B0⟩ := new1 w (av f)
  go_enter Try.func5, Try.ntmps5
  go_wp2_with fail
  have b0 := hb.below B0
  generalize w.alloc (.cells (av f) 36) = w0 at *
  have S0 := B0.size
  refine (first_ w0).mono ?_
  rintro e w1 ⟨rfl, g⟩
  have b1 := b0.below g
  have A0 := A0.kept g
  have B0 := bel_bel B0 S0 g
  have S0 := B0.size
  clear g b0
  go_wp2_with fail
  refine (refBytes a n cap zs w1 b1 hn).mono ?_
  rintro e w2 ⟨v, rfl, ho, g⟩
  have b2 := b1.below g
  have A0 := A0.kept g
  have B0 := bel_bel B0 S0 g
  have S0 := B0.size
  obtain ⟨ka, kc, rfl, kb, _⟩ := own_form ho hb.2.1
  clear g ho b1 hb
  by_cases h : n = 32
  · have kn := fun w hb => new_ ka n kc zs w hb h
    have kr := fun w hb => refNew_ a n cap zs w hb h
    generalize kf (zs.map Int.toNat) = k at *
    clear h
    go_wp2_with fail
    refine (kn _ kb).mono ?_
    rintro e w3 ⟨gc, rfl, _, cc, g⟩
    have b3 := b2.below g
    have A0 := A0.kept g
    have B0 := bel_bel B0 S0 g
    have S0 := B0.size
    clear g kb b2 kn
    go_wp2_with fail
    refine (kr _ b3).mono ?_
    rintro e w4 ⟨gd, rfl, _, cd, g⟩
    have cc := cc.keep g cc.lt
    have A0 := A0.kept g
    have B0 := bel_bel B0 S0 g
    have S0 := B0.size
    clear g b3 kr
    go_wp2_with fail
    refine (num_ 0 _).mono ?_
    rintro e w5 ⟨rfl, rfl⟩
    have k1 := fun w h => block_ gc k f w h KB.out HF.out
    have k2 := fun w h => refBlock_ gd k f w h KB.out HF.out
    generalize bl k f 14 = o at *
    go_wp2_with (refine wpList_lda rfl _ rfl _ rfl _ (by exact A0) ?_)
    refine (k1 _ cc).mono ?_
    rintro e w6 ⟨rfl, g⟩
    have cd := (cd.keep g cd.lt)
    have cdl := cd.lt
    have B1 : Below w6.heap.size w6 (w6.alloc (.cells (av o) 36)) := (new1 w6 (av o)).2
    have cd := cd.keep B1 cdl
    have A0 := (A0.kept g).alloc (.cells (av o) 36)
    have A1 := Ar.new w6 (av o)
    have B0 := bel_bel B0 S0 g
    have B0 := B0.alloc B0.size (.cells (av o) 36)
    clear g k1 cc S0 B1 cdl
    go_wp2_with (first | (refine wpList_stna rfl rfl _ _ rfl _ _ _ rfl rfl rfl (by rfl) ?_) | (refine wpList_lda rfl _ rfl _ rfl _ (by exact A0) ?_))
    generalize hg6 : w6.heap.size = g6 at *
    generalize w6.alloc (.cells (av o) 36) = w7 at *
    clear hg6
    have S0 := B0.size
    refine (k2 _ cd).mono ?_
    rintro e w8 ⟨rfl, g⟩
    have A1 := (A1.kept g).alloc (.cells (av o) 36)
    have A2 := Ar.new w8 (av o)
    have B0 := bel_bel B0 S0 g
    have B0 := B0.alloc B0.size (.cells (av o) 36)
    have Q1 := hid (run_eqyes (f := o) (g := o) fun _ _ => rfl)
    clear g k2 cd S0 A0
    go_wp2_with (first | (refine wpList_stna rfl rfl _ _ rfl _ _ _ rfl rfl rfl (by rfl) ?_) | (refine wpList_lda rfl _ rfl g6 rfl _ (by exact A1) ?_) | (refine wpList_lda rfl _ rfl w8.heap.size rfl _ (by exact A2) ?_) | (refine wpList_eqa rfl _ _ _ rfl _ _ rfl rfl true Q1.out ?_))
    go_ret
    exact ⟨rfl, B0⟩
  · have kn := fun w => new_bad ka n kc w h (by unfold maxLen; omega)
    have kr := fun w => refNew_bad a n cap w h (by unfold maxLen; omega)
    clear h
    go_wp2_with fail
    refine (kn _).mono ?_
    rintro e w3 ⟨rfl, g⟩
    have B0 := bel_bel B0 S0 g
    clear g kb b2 kn S0
    go_wp2_with fail
    refine (kr _).mono ?_
    rintro e w4 ⟨rfl, rfl⟩
    clear kr
    go_wp2_with fail
    refine (num_ 40 _).mono ?_
    rintro e w5 ⟨rfl, rfl⟩
    go_wp2_with fail
    go_ret
    exact ⟨rfl, B0⟩
end Go.Proofs.Ytejnknkehigkdaa
