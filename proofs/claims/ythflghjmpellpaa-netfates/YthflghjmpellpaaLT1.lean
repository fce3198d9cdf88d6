import Derived.Test.YthflghjmpellpaaLT0
namespace Go.Proofs.Ythflghjmpellpaa
open Go.RowKit
set_option linter.unusedVariables false
set_option maxRecDepth 100000

section
variable {w0 w : World} {K V : Nat → Prop} {p : Nat} {L B : List Fl} {g : Int} {th sc : Bool} {tt no x at' : Int} {a da : Option Addr} {n c dn dc : Nat}
set_option maxHeartbeats 8000000 in
theorem leaves3_ (h : Hk w0 w K p L g) (hno : i64r no) (hth : (fnd L no).isSome = th) :
    Calls Try.prog 11 #[.pointer (some ⟨p, 0, none⟩), .agg #[.int .i64 3, .bool sc, .int .i64 tt, .int .i64 no, .int .i64 x, .int .i64 at', .slice da dn dc], .slice a n c, .bool th] w fun e w' => e = .returned (.bool true) ∧ Hk w0 w' K p (outL L no) g ∧ Kx K w w' := by
  have hb := op_box w 3 sc tt no x at' da dn dc
  have HOM := hid (om_new w 3 sc tt no x at' da dn dc)
  have o0 := HOM.out.c0
  have o3 := HOM.out.c3
  have HKK : Hid (Kx K w (w.alloc (.cells #[.int .i64 3, .bool sc, .int .i64 tt, .int .i64 no, .int .i64 x, .int .i64 at', .slice da dn dc] 30))) := fun k e => hb.block k (h.kl k e)
  have h1 := h.on hb
  cases th
  · have he : erN L no = 218 := by unfold erN; rw [hth]; rfl
    have k1 := dropK h1 hno he rfl
    clear hb h h1 hth he hno
    go_enter Try.func11, Try.ntmps11
    go_wp2_with fail
    refine k1.mono ?_
    rintro e w2 ⟨rfl, h2, h3⟩
    have H2 := hid h2
    have H3 := hid h3
    have kn := num_ 218 w2
    clear k1 h2 h3 o0 o3
    go_wp2_with (go_at_call 9; refine kn.mono ?_; rintro e wz ⟨rfl, hwz⟩; subst hwz)
    go_ret
    exact ⟨rfl, H2.out.less fun k e => .inl e, HKK.out.trans (H3.out.weak fun k e => .inl e)⟩
  · have he : erN L no = 0 := by unfold erN; rw [hth]; rfl
    have k1 := dropK h1 hno he rfl
    clear hb h h1 hth he hno
    go_enter Try.func11, Try.ntmps11
    go_wp2_with fail
    refine k1.mono ?_
    rintro e w2 ⟨rfl, h2, h3⟩
    have H2 := hid h2
    have H3 := hid h3
    have kn := num_ 0 w2
    clear k1 h2 h3 o0 o3
    go_wp2_with (go_at_call 9; refine kn.mono ?_; rintro e wz ⟨rfl, hwz⟩; subst hwz)
    go_ret
    exact ⟨rfl, H2.out.less fun k e => .inl e, HKK.out.trans (H3.out.weak fun k e => .inl e)⟩
end
end Go.Proofs.Ythflghjmpellpaa
