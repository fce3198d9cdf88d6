import Derived.Test.YthflghjmpellpaaLT1
namespace Go.Proofs.Ythflghjmpellpaa
open Go.RowKit
set_option linter.unusedVariables false
set_option maxRecDepth 100000

section
variable {w0 w : World} {K V : Nat → Prop} {p : Nat} {L B : List Fl} {g : Int} {sc : Bool} {kd tt no x at' : Int} {a da : Option Addr} {n c dn dc : Nat}
set_option maxHeartbeats 8000000 in
theorem leavesN_ (h : Hk w0 w K p L g) (hno : i64r no) (hkd : kd ≠ 3) (hth : fnd L no = none) :
    Calls Try.prog 11 #[.pointer (some ⟨p, 0, none⟩), .agg #[.int .i64 kd, .bool sc, .int .i64 tt, .int .i64 no, .int .i64 x, .int .i64 at', .slice da dn dc], .slice a n c, .bool false] w fun e w' => e = .returned (.bool true) ∧ Hk w0 w' K p (outL L no) g ∧ Kx K w w' := by
  have hb := op_box w kd sc tt no x at' da dn dc
  have HOM := hid (om_new w kd sc tt no x at' da dn dc)
  have hkb : (kd == 3) = false := by simp [hkd]
  have o0 := HOM.out.c0
  have o3 := HOM.out.c3
  have HKK : Hid (Kx K w (w.alloc (.cells #[.int .i64 kd, .bool sc, .int .i64 tt, .int .i64 no, .int .i64 x, .int .i64 at', .slice da dn dc] 30))) := fun k e => hb.block k (h.kl k e)
  have h1 := h.on hb
  have he : erN L no = 218 := by unfold erN; rw [hth]; rfl
  have k1 := takeB h1 hno (f := fl0) (n := 0) (by rw [hth]; rfl) rfl he rfl
  clear hb h h1 hth he hno hkd
  go_enter Try.func11, Try.ntmps11
  go_wp2_with fail
  refine k1.mono ?_
  rintro e w2 ⟨a1, c1, rfl, K', hK', hkl, b1, h2, hx⟩
  simp only [fl0] at b1 h2 hx hkl
  have HB4 : Hid (Below (w2.alloc (.cells #[.int .i64 0, .int .i64 0, .slice a1 0 c1] 34)).heap.size (w2.alloc (.cells #[.int .i64 0, .int .i64 0, .slice a1 0 c1] 34)) ((w2.alloc (.cells #[.int .i64 0, .int .i64 0, .slice a1 0 c1] 34)).alloc (.cells #[.int .i64 0, .int .i64 0, .slice none 0 0] 34))) := (Below.refl _ _).alloc (Nat.le_refl _) _
  have HF1 : Hid (Fm ((w2.alloc (.cells #[.int .i64 0, .int .i64 0, .slice a1 0 c1] 34)).alloc (.cells #[.int .i64 0, .int .i64 0, .slice none 0 0] 34)) w2.heap.size 0 0 a1 0 c1) := (HB4.out.block _ (by simp)).trans b1.1
  have HF2 : Hid (Fm ((w2.alloc (.cells #[.int .i64 0, .int .i64 0, .slice a1 0 c1] 34)).alloc (.cells #[.int .i64 0, .int .i64 0, .slice none 0 0] 34)) (w2.heap.size + 1) 0 0 none 0 0) := by
    have := Fm.new (w2.alloc (.cells #[.int .i64 0, .int .i64 0, .slice a1 0 c1] 34)) 0 0 none 0 0
    rw [World.size_alloc] at this
    exact this
  have x0 := HF1.out.c0
  have x1 := HF1.out.c1
  have x2 := HF1.out.c2
  have y0 := HF2.out.c0
  have y1 := HF2.out.c1
  have y2 := HF2.out.c2
  have k2 := sameFlight_ a1 none 0 c1 0 0 fl0 fl0 ((w2.alloc (.cells #[.int .i64 0, .int .i64 0, .slice a1 0 c1] 34)).alloc (.cells #[.int .i64 0, .int .i64 0, .slice none 0 0] 34)) ⟨rfl, fun z hz => by simp [fl0] at hz, .inl rfl⟩ ⟨rfl, fun z hz => by simp [fl0] at hz, .inl rfl⟩ (by omega) (by omega) (Q := true) (by decide)
  have H4 := hid (h2.on HB4.out)
  have HX4 : Hid (Kx K w ((w2.alloc (.cells #[.int .i64 0, .int .i64 0, .slice a1 0 c1] 34)).alloc (.cells #[.int .i64 0, .int .i64 0, .slice none 0 0] 34))) := (HKK.out.trans (hx.weak fun k e => .inl e)).trans fun k e => HB4.out.block k (h2.kl k (hK' k (.inl e)))
  have HKP := hid hK'
  clear k1 b1 h2 hx hkl hK' o0 o3
  go_wp2_with fail
  refine k2.mono ?_
  rintro e w5 ⟨rfl, g5⟩
  have H5 : Hid (Hk w0 w5 K p (outL L no) g ∧ Kx K w w5) := ⟨(H4.out.on g5).less fun k e => .inl (.inl (HKP.out k (.inl e))), HX4.out.trans fun k e => g5.block k (H4.out.kl k (.inl (HKP.out k (.inl e))))⟩
  have kn := num_ 218 w5
  clear k2 g5 x0 x1 x2 y0 y1 y2
  go_wp2_with (go_at_call 9; refine kn.mono ?_; rintro e wz ⟨rfl, hwz⟩; subst hwz)
  go_ret
  exact ⟨rfl, H5.out⟩
end
end Go.Proofs.Ythflghjmpellpaa
