import Derived.Test.YthflghjmpellpaaLTd
namespace Go.Proofs.Ythflghjmpellpaa
open Go.RowKit
set_option linter.unusedVariables false
set_option maxRecDepth 100000

section
variable {w0 w wa w5 : World} {p j m : Nat} {ba ea : Option Addr} {bc ec : Nat} {hv : Value} {K : Nat → Prop} {ds : List FD} {H : List Bool} {no atv : Int} {th : Bool}
/-- A flight of the book, its bytes. -/
structure Fat (w : World) (ba : Option Addr) (ds : List FD) (i bb g dn dc : Nat) (fd : List Int) : Prop where
  ba : ba = some ⟨bb, 0, none⟩
  hi : i < ds.length
  get : (ds.map (·.f)).getD i fl0 = (ds[i]'hi).f
  hd : (ds[i]'hi).f.d = fd
  hfv : fv (ds[i]'hi) = .slice (some ⟨g, 0, none⟩) dn dc
  len : fd.length = dn
  cell : w.cell? ⟨bb, i * 3 + 2, none⟩ = some (.slice (some ⟨g, 0, none⟩) dn dc)
  row : w.ownsRow 0 5 1 (.slice (some ⟨g, 0, none⟩) dn dc) dn (cells fd)
  ok : Okb fd
theorem Fs.fat (h : Fs w K (.slice ba m bc) hv ds H) (hm : ds.length = m) {i : Nat} (hi : i < m) (h0 : 0 < ((ds.map (·.f)).getD i fl0).d.length) : ∃ bb g dn dc fd, Fat w ba ds i bb g dn dc fd := by
  have hi' : i < ds.length := by omega
  have e : (ds.map (·.f)).getD i fl0 = (ds[i]'hi').f := by simp [List.getD, hi']
  rw [e] at h0
  have hd := h.down _ (List.getElem_mem hi')
  obtain ⟨a, c, ea, _, _, _, h4⟩ := own_addr hd
  rcases h4 with ⟨_, q⟩ | ⟨g, rfl, _, _, _⟩
  · omega
  have hb := h.bown
  rw [hm] at hb
  obtain ⟨a2, c2, ea2, _, _, _, h5⟩ := own_addr hb
  obtain ⟨rfl, rfl⟩ : ba = a2 ∧ bc = c2 := by simpa using ea2
  rcases h5 with ⟨_, q⟩ | ⟨bb, rfl, _, _, _⟩
  · omega
  refine ⟨bb, g, _, c, _, rfl, hi', e, rfl, ea, rfl, ?_, ?_, (h.byt _ (List.getElem_mem hi')).1⟩
  · rw [hb.cellAt (i * 3 + 2) (by omega), fds_get ds i hi' 2 (by decide)]
    show some (fv _) = _
    rw [ea]
  · have hd2 := hd
    rw [ea] at hd2
    exact hd2
theorem Fat.at {i bb g dn dc t : Nat} {fd : List Int} (h : Fat w ba ds i bb g dn dc fd) (ht : t < dn) : w.cell? ⟨g, t, none⟩ = some (.int .u8 (fd.getD t 0)) := by
  rw [h.row.cellAt t (by omega)]
  have := h.len
  simp [cells, List.getD, show t < fd.length by omega]
theorem Fat.set {i bb g dn dc t : Nat} {fd : List Int} (h : Fat w ba ds i bb g dn dc fd) (ht : t < dn) (v : Int) : (w.setCell ⟨g, t, none⟩ (.int .u8 (bits .xor .u8 (fd.getD t 0) v))).ownsRow 0 5 1 (fv (ds[i]'h.hi)) (flD (ds[i]'h.hi) t v).f.d.length (cells (flD (ds[i]'h.hi) t v).f.d) := by
  have hr := row_set h.row ht (.int .u8 (bits .xor .u8 (fd.getD t 0) v))
  have e : (flD (ds[i]'h.hi) t v).f.d = fd.set t (bits .xor .u8 (fd.getD t 0) v) := by
    show ((ds[i]'h.hi).f.d.set t _) = _
    rw [h.hd]
  rw [e, h.hfv, List.length_set, h.len]
  have e2 : (cells fd).set t (.int .u8 (bits .xor .u8 (fd.getD t 0) v)) = cells (fd.set t (bits .xor .u8 (fd.getD t 0) v)) := by simp [cells, List.map_set]
  rw [← e2]
  exact hr
theorem Fa.flipNo (h : Fa w0 wa p (.slice ba m bc) (.slice ea m ec) j K ds H) {t x : Int} (hno : i64r no) (ht : i64r t) (hx : i64r x) (hf : fnd (her (ds.map (·.f)) H) no = none) :
    Calls Try.prog 10 #[.pointer (some ⟨p, 0, none⟩), .int .i64 no, .int .i64 t, .int .i64 x] wa fun e w5 => e = .returned (.int .i64 218) ∧ Hid (Fa w0 w5 p (.slice ba m bc) (.slice ea m ec) j K ds H) := by
  have e : flE (her (ds.map (·.f)) H) no t x = 218 := by unfold flE; rw [hf]
  refine (flipK h.hk hno ht hx e (L' := her (ds.map (·.f)) H) (by unfold flL; rw [e]; rfl)).mono ?_
  rintro e w5 ⟨rfl, h5, hx5⟩
  exact ⟨rfl, h.net h5 hx5 rfl rfl⟩
theorem Fa.flipBad (h : Fa w0 wa p (.slice ba m bc) (.slice ea m ec) j K ds H) {t x : Int} {f : Fl} (hno : i64r no) (ht : i64r t) (hx : i64r x) (hf : fnd (her (ds.map (·.f)) H) no = some f) (hb : t < 0 ∨ (f.d.length : Int) ≤ t ∨ x < 1 ∨ 255 < x) :
    Calls Try.prog 10 #[.pointer (some ⟨p, 0, none⟩), .int .i64 no, .int .i64 t, .int .i64 x] wa fun e w5 => e = .returned (.int .i64 2) ∧ Hid (Fa w0 w5 p (.slice ba m bc) (.slice ea m ec) j K ds H ∧ Kx K wa w5) := by
  have e : flE (her (ds.map (·.f)) H) no t x = 2 := by unfold flE; rw [hf]; simp only; rw [if_pos hb]
  refine (flipK h.hk hno ht hx e (L' := her (ds.map (·.f)) H) (by unfold flL; rw [e]; rfl)).mono ?_
  rintro e w5 ⟨rfl, h5, hx5⟩
  exact ⟨rfl, h.net h5 hx5 rfl rfl, hx5⟩
theorem Fa.flipOk (h : Fa w0 wa p (.slice ba m bc) (.slice ea m ec) j K ds H) {t : Nat} {x : Int} {f : Fl} (hno : i64r no) (hx : i64r x) (hf : fnd (her (ds.map (·.f)) H) no = some f) (ht : t < f.d.length) (ht2 : (t : Int) ≤ 9223372036854775807) (hx2 : 1 ≤ x ∧ x ≤ 255) :
    Calls Try.prog 10 #[.pointer (some ⟨p, 0, none⟩), .int .i64 no, .int .i64 (t : Int), .int .i64 x] wa fun e w5 => e = .returned (.int .i64 0) ∧ Hid (Hk w0 w5 K p (flipL (her (ds.map (·.f)) H) no t x) (ds.length : Int) ∧ Kx K wa w5) := by
  have e := fl_e hf rfl ht hx2
  refine (flipK h.hk hno ⟨by omega, ht2⟩ hx e.1 e.2).mono ?_
  rintro e w5 ⟨rfl, h5, hx5⟩
  exact ⟨rfl, h5, hx5⟩
end
end Go.Proofs.Ythflghjmpellpaa
