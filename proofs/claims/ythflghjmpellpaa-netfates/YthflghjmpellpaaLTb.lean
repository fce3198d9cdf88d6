import Derived.Test.YthflghjmpellpaaLTa
namespace Go.Proofs.Ythflghjmpellpaa
open Go.RowKit
set_option linter.unusedVariables false
set_option maxRecDepth 100000

/-- Bytes made anew since wa. -/
def Bq (wa w4 : World) (a : Option Addr) (n c : Nat) (d : List Int) : Prop := Below wa.heap.size wa w4 ∧ ∃ b, wa.heap.size ≤ b ∧ w4.ownsRow b 5 1 (.slice a n c) n (cells d)
/-- What a call that adds has left. -/
def Sq (w0 wa wx : World) (p : Nat) (K : Nat → Prop) (ds : List FD) (H : List Bool) (f : Fl) : Prop :=
  Hk w0 wx K p (her (ds.map (·.f)) H ++ [f]) ((ds.length : Int) + 1) ∧ Kx K wa wx
section
variable {w0 w wa : World} {p j : Nat} {bv hv : Value} {K : Nat → Prop} {ds : List FD} {H : List Bool} {V : Nat → Prop} {a : Option Addr} {n c : Nat} {d : List Int}
theorem bytesK (hV : Vs wa V a n c d) (hn : n ≤ 4096) : ∀ wx, Below wa.heap.size wa wx → Calls Try.prog 7 #[.slice a n c] wx fun e w4 => ∃ a1 c1, e = .returned (.slice a1 n c1) ∧ Hid (Bq wa w4 a1 n c1 d) := by
  intro wx hb
  have hx : Vs wx V a n c d := hV.step fun k hk _ _ => hb.block k hk
  refine (refBytes a n c d wx hx.bs (by omega)).mono ?_
  rintro e w4 ⟨v, rfl, ho, g4⟩
  obtain ⟨a1, c1, e1, _⟩ := own_addr ho
  subst e1
  exact ⟨a1, c1, rfl, bel_bel hb hb.size g4, wx.heap.size, hb.size, ho⟩
theorem Fa.sendK (h : Fa w0 wa p bv hv j K ds H) {m : Nat} (hm : ds.length = m) (hm2 : m ≤ 1000) {tt : Int} (htt : i64r tt) (hd : Okb d) (hn : n ≤ 4096) :
    ∀ w4 a1 c1, Bq wa w4 a1 n c1 d → Calls Try.prog 6 #[.pointer (some ⟨p, 0, none⟩), .int .i64 tt, .slice a1 n c1] w4 fun e w5 => e = .returned (.int .i64 ((m : Int) + 1)) ∧ Hid (Sq w0 wa w5 p K ds H ⟨(m : Int) + 1, tt, d⟩) := by
  intro w4 a1 c1 hB
  obtain ⟨hb, b, hbb, ho⟩ := hB
  subst hm
  have hlen : (her (ds.map (·.f)) H).length < 1024 := by
    have := her_len (ds.map (·.f)) H
    rw [List.length_map] at this
    omega
  obtain ⟨a2, c2, e2, hv⟩ := Vs.own ho hd
  obtain ⟨rfl, rfl⟩ : a1 = a2 ∧ c1 = c2 := by simpa using e2
  have hp := h.hk.p0
  have h4 := h.hk.on hb
  have hx4 := h.hk.kx hb
  refine (Go.Proofs.Ythflghjmpellpaa.sendK h4 (to := tt) hv (fun k e q => ?_) (by omega) htt (by omega) (A := (ds.length : Int) + 1) (by unfold sndA; rw [if_pos hlen]) (by unfold sndL; rw [if_pos hlen]) (by unfold sndG; rw [if_pos hlen])).mono ?_
  · have := (ho.lt k e).1
    omega
  · rintro e w5 ⟨rfl, h5, hx5⟩
    exact ⟨rfl, h5.less fun k e => .inl e, hx4.trans (hx5.weak fun k e => .inl e)⟩
theorem Fa.copyK (h : Fa w0 wa p bv hv j K ds H) {m i : Nat} {fno ft : Int} {fd : List Int} (hm : ds.length = m) (hm2 : m ≤ 1000) (hi : i < m) (hg : H.getD i false = true) (hf : (ds.map (·.f)).getD i fl0 = ⟨fno, ft, fd⟩) :
    Calls Try.prog 8 #[.pointer (some ⟨p, 0, none⟩), .int .i64 ((i : Int) + 1)] wa fun e w5 => e = .returned (.tuple #[.int .i64 ((m : Int) + 1), .int .i64 0]) ∧ Hid (Sq w0 wa w5 p K ds H ⟨(m : Int) + 1, ft, fd⟩) := by
  subst hm
  have hlen : (her (ds.map (·.f)) H).length < 1024 := by
    have := her_len (ds.map (·.f)) H
    rw [List.length_map] at this
    omega
  have hfn := Thr.fnd (B := ds.map (·.f)) (H := H) (List.length_map _) (by rw [List.length_map]; exact h.fs.len) h.fs.nos hi hg
  rw [hf] at hfn
  refine (Go.Proofs.Ythflghjmpellpaa.copyK h.hk (k := (i : Int) + 1) ⟨by omega, by omega⟩ (by omega) (A := (ds.length : Int) + 1) (G := (ds.length : Int) + 1) (E := 0) (L' := her (ds.map (·.f)) H ++ [⟨(ds.length : Int) + 1, ft, fd⟩]) ?_ ?_ ?_ ?_).mono ?_
  · unfold cpyA sndA; rw [hfn, if_pos (by rfl), if_pos hlen]
  · unfold erN; rw [hfn]; rfl
  · unfold cpyL; rw [hfn]; simp only; unfold sndL; rw [if_pos hlen]
  · unfold cpyG sndG; rw [hfn, if_pos (by rfl), if_pos hlen]
  · rintro e w5 ⟨rfl, h5, hx5⟩
    exact ⟨rfl, h5, hx5⟩
theorem Fa.copyN (h : Fa w0 wa p bv hv j K ds H) {no : Int} (hno : i64r no) (hm2 : ds.length ≤ 1000) (hf : fnd (her (ds.map (·.f)) H) no = none) :
    Calls Try.prog 8 #[.pointer (some ⟨p, 0, none⟩), .int .i64 no] wa fun e w5 => e = .returned (.tuple #[.int .i64 0, .int .i64 218]) ∧ Hid (Fa w0 w5 p bv hv j K ds H) := by
  refine (Go.Proofs.Ythflghjmpellpaa.copyK h.hk (k := no) hno (by omega) (A := 0) (G := (ds.length : Int)) (E := 218) (L' := her (ds.map (·.f)) H) ?_ ?_ ?_ ?_).mono ?_
  · unfold cpyA; rw [hf]; rfl
  · unfold erN; rw [hf]; rfl
  · unfold cpyL; rw [hf]
  · unfold cpyG; rw [hf]; rfl
  · rintro e w5 ⟨rfl, h5, hx5⟩
    exact ⟨rfl, h.net h5 hx5 rfl rfl⟩
/-- Bytes behind what has been made: the cells of a flight in a block of its own. -/
theorem fl_cells {w6 : World} {no tq : Int} {a2 : Option Addr} {n2 c2 : Nat} (hd : d.length = n2) : ∀ j u, (fdc ⟨⟨no, tq, d⟩, a2, c2⟩)[j]? = some u → (w6.alloc (.cells #[.int .i64 no, .int .i64 tq, .slice a2 n2 c2] 34)).cell? ⟨w6.heap.size, j, none⟩ = some u := fun j u hj => by
  simp only [fdc, fv, hd] at hj
  exact (cell_of_row (w6.alloc _) w6.heap.size j _ 34 (0, 0) (heap_alloc_new w6 _)).trans (by simpa using hj)
end
end Go.Proofs.Ythflghjmpellpaa
