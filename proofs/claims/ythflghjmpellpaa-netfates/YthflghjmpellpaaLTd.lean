import Derived.Test.YthflghjmpellpaaLTc
namespace Go.Proofs.Ythflghjmpellpaa
open Go.RowKit
set_option linter.unusedVariables false
set_option maxRecDepth 100000

section
variable {w0 w wa w5 : World} {p j m : Nat} {ba ea : Option Addr} {bc ec : Nat} {K : Nat → Prop} {ds : List FD} {H : List Bool} {no atv : Int} {th : Bool}
theorem Fa.fnd_len (h : Fa w0 wa p (.slice ba m bc) (.slice ea m ec) j K ds H) {i : Nat} (hm : ds.length = m) (hi : i < m) : ((ds.map (·.f)).getD i fl0).d.length ≤ 4096 ∧ Okb ((ds.map (·.f)).getD i fl0).d := by
  have h9 : i < (ds.map (·.f)).length := by rw [List.length_map, hm]; exact hi
  have h1 : (ds.map (·.f)).getD i fl0 ∈ ds.map (·.f) := by
    simp only [List.getD, List.getElem?_eq_getElem h9]
    exact List.getElem_mem h9
  obtain ⟨dd, h2, h3⟩ := List.mem_map.1 h1
  have := h.fs.byt dd h2
  rw [h3] at this
  exact ⟨this.2, this.1⟩
/-- KDrop, KTake: the flight goes, as the book has it. -/
theorem Fa.leaves (h : Fa w0 wa p (.slice ba m bc) (.slice ea m ec) j K ds H) (hm : ds.length = m) (ht : Thr (ds.map (·.f)) H m no atv th) (hno : i64r no) (hlen : (ds.map (·.f)).length = H.length) (kd : Int) (hkd : kd = 3 ∨ kd = 2) (sc : Bool) (tt x at' : Int) (da : Option Addr) (dn dc : Nat) :
    Calls Try.prog 11 #[.pointer (some ⟨p, 0, none⟩), .agg #[.int .i64 kd, .bool sc, .int .i64 tt, .int .i64 no, .int .i64 x, .int .i64 at', .slice da dn dc], .slice ba m bc, .bool th] wa fun e w5 => e = .returned (.bool true) ∧ Hid (Hk w0 w5 K p (outL (her (ds.map (·.f)) H) no) (ds.length : Int) ∧ Kx K wa w5) := by
  rcases hkd with rfl | rfl
  · refine (leaves3_ (L := her (ds.map (·.f)) H) (g := (ds.length : Int)) h.hk hno ?_).mono fun e w5 h => ⟨h.1, hid h.2⟩
    rcases ht with ⟨rfl, i, hi, _, rfl, hg⟩ | ⟨rfl, hn⟩
    · rw [Thr.fnd (by rw [List.length_map, hm]) hlen h.fs.nos hi hg]; rfl
    · rw [hn]; rfl
  · rcases ht with ⟨rfl, i, hi, _, rfl, hg⟩ | ⟨rfl, hn⟩
    · have hf := Thr.fnd (by rw [List.length_map, hm]) hlen h.fs.nos hi hg
      have hd := h.fnd_len hm hi
      obtain ⟨f, hf2⟩ : ∃ z, (ds.map (·.f)).getD i fl0 = z := ⟨_, rfl⟩
      rw [hf2] at hf hd
      obtain ⟨fno, ft, fd⟩ := f
      obtain ⟨a2, c2, e2, hfl⟩ := h.fs.fls
      rw [hm] at e2 hfl
      obtain ⟨rfl, rfl⟩ : ba = a2 ∧ bc = c2 := by simpa using e2
      have hd1 : fd.length ≤ 4096 := hd.1
      exact (leavesY_ (L := her (ds.map (·.f)) H) (g := (ds.length : Int)) (B := ds.map (·.f)) (V := K) (m := fd.length) h.hk hfl (fun k e => e) rfl hi hno (by decide) rfl (by omega) hf2 hf).mono fun e w5 h => ⟨h.1, hid h.2⟩
    · exact (leavesN_ (L := her (ds.map (·.f)) H) (g := (ds.length : Int)) h.hk hno (by decide) hn).mono fun e w5 h => ⟨h.1, hid h.2⟩
end
end Go.Proofs.Ythflghjmpellpaa
