import Derived.Test.YthflghjmpellpaaLT2
namespace Go.Proofs.Ythflghjmpellpaa
open Go.RowKit
set_option linter.unusedVariables false
set_option maxRecDepth 100000

section
variable {w0 w : World} {K V : Nat → Prop} {p : Nat} {L B : List Fl} {g : Int} {sc : Bool} {kd tt no x at' : Int} {a da : Option Addr} {n c dn dc : Nat}
set_option maxHeartbeats 8000000 in
theorem leavesY_ {i m : Nat} {fno ft : Int} {fd : List Int} (h : Hk w0 w K p L g) (hB : Fls w V a n B) (hV : ∀ k, V k → K k) (hni : no = (i : Int) + 1) (hi : i < n) (hno : i64r no) (hkd : kd ≠ 3) (hm : fd.length = m) (hm2 : m ≤ 65536) (hBi : B.getD i fl0 = ⟨fno, ft, fd⟩) (hth : fnd L no = some ⟨fno, ft, fd⟩) :
    Calls Try.prog 11 #[.pointer (some ⟨p, 0, none⟩), .agg #[.int .i64 kd, .bool sc, .int .i64 tt, .int .i64 no, .int .i64 x, .int .i64 at', .slice da dn dc], .slice a n c, .bool true] w fun e w' => e = .returned (.bool true) ∧ Hk w0 w' K p (outL L no) g ∧ Kx K w w' := by
  have hb := op_box w kd sc tt no x at' da dn dc
  have HOM := hid (om_new w kd sc tt no x at' da dn dc)
  have hkb : (kd == 3) = false := by simp [hkd]
  have o0 := HOM.out.c0
  have o3 := HOM.out.c3
  have HKK : Hid (Kx K w (w.alloc (.cells #[.int .i64 kd, .bool sc, .int .i64 tt, .int .i64 no, .int .i64 x, .int .i64 at', .slice da dn dc] 30))) := fun k e => hb.block k (h.kl k e)
  have h1 := h.on hb
  have he : erN L no = 0 := by unfold erN; rw [hth]; rfl
  have k1 := takeB h1 hno (f := ⟨fno, ft, fd⟩) (n := m) (by rw [hth]; rfl) hm he rfl
  have HFL := hid hB
  have HVK := hid hV
  have HM := hid hm
  have HM2 := hid hm2
  have HBI := hid hBi
  have HSZ : Hid (w.heap.size < (w.alloc (.cells #[.int .i64 kd, .bool sc, .int .i64 tt, .int .i64 no, .int .i64 x, .int .i64 at', .slice da dn dc] 30)).heap.size) := by show _ < _; simp
  have HNI := hid hni
  have HI := hid hi
  clear hb h h1 hth he hkd hB hV hm hm2 hBi hni hi
  go_enter Try.func11, Try.ntmps11
  go_wp2_with fail
  refine k1.mono ?_
  rintro e w2 ⟨a1, c1, rfl, K', hK', hkl, b1, h2, hx⟩
  try simp only [] at b1 h2 hx hkl
  have HB4 : Hid (Below (w2.alloc (.cells #[.int .i64 fno, .int .i64 ft, .slice a1 m c1] 34)).heap.size (w2.alloc (.cells #[.int .i64 fno, .int .i64 ft, .slice a1 m c1] 34)) ((w2.alloc (.cells #[.int .i64 fno, .int .i64 ft, .slice a1 m c1] 34)).alloc (.cells #[.int .i64 0, .int .i64 0, .slice none 0 0] 34))) := (Below.refl _ _).alloc (Nat.le_refl _) _
  have HF1 : Hid (Fm ((w2.alloc (.cells #[.int .i64 fno, .int .i64 ft, .slice a1 m c1] 34)).alloc (.cells #[.int .i64 0, .int .i64 0, .slice none 0 0] 34)) w2.heap.size fno ft a1 m c1) := (HB4.out.block _ (by simp)).trans b1.1
  have HF2 : Hid (Fm ((w2.alloc (.cells #[.int .i64 fno, .int .i64 ft, .slice a1 m c1] 34)).alloc (.cells #[.int .i64 0, .int .i64 0, .slice none 0 0] 34)) (w2.heap.size + 1) 0 0 none 0 0) := by
    have := Fm.new (w2.alloc (.cells #[.int .i64 fno, .int .i64 ft, .slice a1 m c1] 34)) 0 0 none 0 0
    rw [World.size_alloc] at this
    exact this
  have HX4 : Hid (Kx (fun k => K k ∨ (w.heap.size ≤ k ∧ k < (w.alloc (.cells #[.int .i64 kd, .bool sc, .int .i64 tt, .int .i64 no, .int .i64 x, .int .i64 at', .slice da dn dc] 30)).heap.size)) (w.alloc (.cells #[.int .i64 kd, .bool sc, .int .i64 tt, .int .i64 no, .int .i64 x, .int .i64 at', .slice da dn dc] 30)) ((w2.alloc (.cells #[.int .i64 fno, .int .i64 ft, .slice a1 m c1] 34)).alloc (.cells #[.int .i64 0, .int .i64 0, .slice none 0 0] 34))) := hx.trans fun k e => HB4.out.block k (h2.kl k (hK' k e))
  have o3' := (World.cell?_of_block (w := w.alloc (.cells #[.int .i64 kd, .bool sc, .int .i64 tt, .int .i64 no, .int .i64 x, .int .i64 at', .slice da dn dc] 30)) (w' := ((w2.alloc (.cells #[.int .i64 fno, .int .i64 ft, .slice a1 m c1] 34)).alloc (.cells #[.int .i64 0, .int .i64 0, .slice none 0 0] 34))) (a := ⟨w.heap.size, 3, none⟩) (HX4.out _ (.inr ⟨Nat.le_refl _, HSZ.out⟩))).trans o3
  have HX5 : Hid (Kx K w ((w2.alloc (.cells #[.int .i64 fno, .int .i64 ft, .slice a1 m c1] 34)).alloc (.cells #[.int .i64 0, .int .i64 0, .slice none 0 0] 34))) := HKK.out.trans (HX4.out.weak fun k e => .inl e)
  have HF4 := hid (HFL.out.kx HX5.out HVK.out)
  obtain ⟨bb, off, ba, bc, dm, rfl, hdm, z0, z1, z2, hzv⟩ := HF4.out.at HI.out
  rw [HBI.out] at hdm z0 z1 hzv
  obtain rfl : m = dm := (hdm.trans HM.out).symm
  have f0 := HF2.out.fz 0
  have f1 := HF2.out.fz 1
  have f2 := HF2.out.fz 2
  have y0 := HF2.out.c0
  have y1 := HF2.out.c1
  have y2 := HF2.out.c2
  have HXF : Hid (Below (w2.alloc (.cells #[.int .i64 fno, .int .i64 ft, .slice a1 m c1] 34)).heap.size (w2.alloc (.cells #[.int .i64 fno, .int .i64 ft, .slice a1 m c1] 34)) ((w2.alloc (.cells #[.int .i64 fno, .int .i64 ft, .slice a1 m c1] 34)).alloc (.cells #[.int .i64 fno, .int .i64 ft, .slice ba m bc] 34))) := (Below.refl _ _).alloc (Nat.le_refl _) _
  have HSZ4 : Hid (((w2.alloc (.cells #[.int .i64 fno, .int .i64 ft, .slice a1 m c1] 34)).alloc (.cells #[.int .i64 0, .int .i64 0, .slice none 0 0] 34)).heap.size = w2.heap.size + 2) := by show _ = _; simp
  have HG1 : Hid (Fm ((w2.alloc (.cells #[.int .i64 fno, .int .i64 ft, .slice a1 m c1] 34)).alloc (.cells #[.int .i64 fno, .int .i64 ft, .slice ba m bc] 34)) w2.heap.size fno ft a1 m c1) := (HXF.out.block _ (by simp)).trans b1.1
  have HG2 : Hid (Fm ((w2.alloc (.cells #[.int .i64 fno, .int .i64 ft, .slice a1 m c1] 34)).alloc (.cells #[.int .i64 fno, .int .i64 ft, .slice ba m bc] 34)) (w2.heap.size + 1) fno ft ba m bc) := by
    have := Fm.new (w2.alloc (.cells #[.int .i64 fno, .int .i64 ft, .slice a1 m c1] 34)) fno ft ba m bc
    rw [World.size_alloc] at this
    exact this
  have g0 := HG1.out.c0
  have g1 := HG1.out.c1
  have g2 := HG1.out.c2
  have q0 := HG2.out.c0
  have q1 := HG2.out.c1
  have q2 := HG2.out.c2
  have HK5 : Hid (Kx K' (w2.alloc (.cells #[.int .i64 fno, .int .i64 ft, .slice a1 m c1] 34)) ((w2.alloc (.cells #[.int .i64 fno, .int .i64 ft, .slice a1 m c1] 34)).alloc (.cells #[.int .i64 fno, .int .i64 ft, .slice ba m bc] 34))) := fun k e => HXF.out.block k (h2.kl k e)
  have hs1 : Bs ((w2.alloc (.cells #[.int .i64 fno, .int .i64 ft, .slice a1 m c1] 34)).alloc (.cells #[.int .i64 fno, .int .i64 ft, .slice ba m bc] 34)) a1 m fd := (b1.kx HK5.out).bs
  have hs2 : Bs ((w2.alloc (.cells #[.int .i64 fno, .int .i64 ft, .slice a1 m c1] 34)).alloc (.cells #[.int .i64 fno, .int .i64 ft, .slice ba m bc] 34)) ba m fd := (hzv.step (w' := ((w2.alloc (.cells #[.int .i64 fno, .int .i64 ft, .slice a1 m c1] 34)).alloc (.cells #[.int .i64 fno, .int .i64 ft, .slice ba m bc] 34))) fun k hk e _ => (HK5.out k (hK' k (.inl (HVK.out k e)))).trans (HB4.out.block k (h2.kl k (hK' k (.inl (HVK.out k e))))).symm).bs
  have k2 := sameFlight_ a1 ba m c1 m bc ⟨fno, ft, fd⟩ ⟨fno, ft, fd⟩ ((w2.alloc (.cells #[.int .i64 fno, .int .i64 ft, .slice a1 m c1] 34)).alloc (.cells #[.int .i64 fno, .int .i64 ft, .slice ba m bc] 34)) hs1 hs2 (by have := HM2.out; omega) (by have := HM2.out; omega) (Q := true) (by simp)
  have H5 : Hid (Hk w0 ((w2.alloc (.cells #[.int .i64 fno, .int .i64 ft, .slice a1 m c1] 34)).alloc (.cells #[.int .i64 fno, .int .i64 ft, .slice ba m bc] 34)) K' p (outL L no) g) := (h2.on HXF.out).less fun k e => .inl e
  have HKW : Hid (Kx K w ((w2.alloc (.cells #[.int .i64 fno, .int .i64 ft, .slice a1 m c1] 34)).alloc (.cells #[.int .i64 fno, .int .i64 ft, .slice ba m bc] 34))) := (HKK.out.trans (hx.weak fun k e => .inl e)).trans fun k e => HK5.out k (hK' k (.inl e))
  have HKP := hid hK'
  clear k1 b1 h2 hx hkl hK' o0 o3 hs1 hs2 hzv hdm
  have hiI : (i : Int) < n := by have := HI.out; omega
  obtain rfl : no = (i : Int) + 1 := HNI.out
  unfold i64r at hno
  go_wp2_with fail
  refine k2.mono ?_
  rintro e w6 ⟨rfl, g6⟩
  have H6 : Hid (Hk w0 w6 K p (outL L ((i : Int) + 1)) g ∧ Kx K w w6) := ⟨(H5.out.on g6).less fun k e => .inl (HKP.out k (.inl e)), HKW.out.trans fun k e => g6.block k (H5.out.kl k (HKP.out k (.inl e)))⟩
  have kn := num_ 0 w6
  clear k2 g6 g0 g1 g2 q0 q1 q2 y0 y1 y2 z0 z1 z2 o3' f0 f1 f2
  go_wp2_with (go_at_call 9; refine kn.mono ?_; rintro e wz ⟨rfl, hwz⟩; subst hwz)
  go_ret
  exact ⟨rfl, H6.out⟩
end
end Go.Proofs.Ythflghjmpellpaa
