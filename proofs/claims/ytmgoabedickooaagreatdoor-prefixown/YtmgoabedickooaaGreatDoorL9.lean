import Derived.Test.YtmgoabedickooaaGreatDoorL8
namespace Go.Proofs.YtmgoabedickooaaGreatDoor
set_option maxRecDepth 100000
open Go.RowKit
set_option linter.unusedVariables false

def PuP (q : Option Nat) (e : Ending) : Prop :=
  match q with
  | some u => e = .returned (.tuple #[.int .u64 (u : Nat), .nilIface])
  | none => ∃ (u : Int) (t : TypeId) (p : Value), e = .returned (.tuple #[.int .u64 u, .iface t p])
theorem gSyn : Tryz.prog.globalNamed "strconv.ErrSyntax" = some 1 := by kernel_rfl
theorem gRng : Tryz.prog.globalNamed "strconv.ErrRange" = some 2 := by kernel_rfl
theorem Tb.synCell {w : World} (h : Tb w) : ∃ tp p, w.cell? ⟨1, 0, none⟩ = some (.iface tp p) := by
  obtain ⟨tp, p, h⟩ := h.syn
  exact ⟨tp, p, by have := World.var?_cell gSyn h 0; simpa using this⟩
theorem Tb.rngCell {w : World} (h : Tb w) : ∃ tp p, w.cell? ⟨2, 0, none⟩ = some (.iface tp p) := by
  obtain ⟨tp, p, h⟩ := h.rng
  exact ⟨tp, p, by have := World.var?_cell gRng h 0; simpa using this⟩
set_option maxHeartbeats 400000 in
theorem puI0_ (w : World) : Calls Tryz.prog 209 #[.string ⟨#[]⟩, .int .i64 16, .int .i64 16] w fun e w' => PuR none e ∧ w' = w := by
  go_enter Tryz.func209, Tryz.ntmps209
  go_wp2_with fail
  go_ret2
  exact ⟨⟨_, _, .inr rfl, rfl⟩, rfl⟩
theorem puI_ (l : List Nat) (w : World) (hy : ∀ x ∈ l, x < 256) (hl : l.length ≤ maxLen) :
    Calls Tryz.prog 209 #[.string (sb l), .int .i64 16, .int .i64 16] w fun e w' => PuR (q16 l) e ∧ Below w.heap.size w w' := by
  unfold q16
  by_cases h : l = []
  · subst h
    rw [if_pos rfl]
    refine (puI0_ w).mono ?_
    rintro e w' ⟨h1, rfl⟩
    exact ⟨h1, Below.refl _ _⟩
  · rw [if_neg h]
    refine (puI16_ l w hy hl h).mono ?_
    rintro e w' ⟨h1, rfl⟩
    exact ⟨h1, Lib.bytesWorld_below _ _ _⟩
set_option maxHeartbeats 1000000 in
theorem pu16_ (l : List Nat) (w : World) (hy : ∀ x ∈ l, x < 256) (hl : l.length ≤ 140737488355328) (hT : Tb w) :
    Calls Tryz.prog 207 #[.string (sb l), .int .i64 16, .int .i64 16] w fun e w' => PuP (q16 l) e ∧ Below w.heap.size w w' := by
  have k := fun w => puI_ l w hy (by unfold maxLen; omega)
  have hsz : (sb l).size ≤ 281474976710656 := by rw [sb_size]; omega
  have kS := fun ev w hv hev => Tryz.strconv_toError_syntax ⟨#[80, 97, 114, 115, 101, 85, 105, 110, 116]⟩ (sb l) 16 16 ev w hsz hv hev
  have kR := fun ev w hv hev => Tryz.strconv_toError_range ⟨#[80, 97, 114, 115, 101, 85, 105, 110, 116]⟩ (sb l) 16 16 ev w hsz hv hev
  obtain ⟨Q, HQ⟩ : ∃ Q, Hid (q16 l = Q) := ⟨_, rfl⟩
  simp only [HQ.out] at k
  rw [HQ.out]
  generalize sb l = S at *
  go_enter Tryz.func207, Tryz.ntmps207
  go_wp2_with fail
  refine (k _).mono ?_
  rintro e w1 ⟨h1, g1⟩
  have hT1 := hT.kept g1
  cases Q with
  | some u =>
    obtain rfl : e = _ := h1
    clear k kS kR HQ
    go_wp2_with fail
    go_ret2
    exact ⟨rfl, g1⟩
  | none =>
    obtain ⟨u, q, hq, rfl⟩ := h1
    clear k HQ
    rcases hq with rfl | rfl
    · obtain ⟨tp, p, hc⟩ := hT1.rngCell
      have kk := kR _ _ hc (.inr ⟨tp, p, rfl⟩)
      clear kS kR hc
      go_wp2_with fail
      refine kk.mono ?_
      rintro e w2 ⟨N, rfl, _, _, g2⟩
      clear kk
      go_wp2_with fail
      go_ret2
      exact ⟨⟨_, _, _, rfl⟩, bel_bel g1 g1.size g2⟩
    · obtain ⟨tp, p, hc⟩ := hT1.synCell
      have kk := kS _ _ hc (.inr ⟨tp, p, rfl⟩)
      clear kS kR hc
      go_wp2_with fail
      refine kk.mono ?_
      rintro e w2 ⟨N, rfl, _, _, g2⟩
      clear kk
      go_wp2_with fail
      go_ret2
      exact ⟨⟨_, _, _, rfl⟩, bel_bel g1 g1.size g2⟩
def q10 (l : List Nat) : Option Nat := match Lib.parseUintB 8 (l.map UInt8.ofNat) with
  | .ok u => some u
  | _ => none
theorem pu10_ (l : List Nat) (w : World) (hl : l.length ≤ 140737488355328) (hT : Tb w) :
    Calls Tryz.prog 207 #[.string (sb l), .int .i64 10, .int .i64 8] w fun e w' => PuP (q10 l) e ∧ Below w.heap.size w w' := by
  have hsz : (sb l).size = l.length := sb_size l
  have hd := sb_data l
  unfold q10
  cases hq : Lib.parseUintB 8 (l.map UInt8.ofNat) with
  | ok u =>
    refine (Tryz.strconv_ParseUint_10_at8_ok (sb l) (by omega) u (by rw [hd]; exact hq) w).mono ?_
    rintro e w' ⟨rfl, hw⟩
    refine ⟨rfl, ?_⟩
    rcases hw with rfl | rfl
    · exact Below.refl _ _
    · exact Lib.bytesWorld_below _ _ _
  | «syntax» =>
    obtain ⟨tp, p, hv⟩ := hT.syn
    refine (Tryz.strconv_ParseUint_10_at8_syntax_var (sb l) (by omega) (by rw [hd]; exact hq) tp p w hv).mono ?_
    rintro e w' ⟨N, rfl, _, _, g⟩
    exact ⟨⟨_, _, _, rfl⟩, g⟩
  | range =>
    obtain ⟨tp, p, hv⟩ := hT.rng
    refine (Tryz.strconv_ParseUint_10_at8_range_var (sb l) (by omega) (by rw [hd]; exact hq) tp p w hv).mono ?_
    rintro e w' ⟨N, rfl, _, _, g⟩
    exact ⟨⟨_, _, _, rfl⟩, g⟩
/-- strconv.Atoi. -/
def qA (l : List Nat) : Option Int := match Lib.atoiAll (l.map UInt8.ofNat) with
  | .ok v => some v
  | _ => none
def AtP (q : Option Int) (e : Ending) : Prop :=
  match q with
  | some v => e = .returned (.tuple #[.int .i64 v, .nilIface])
  | none => ∃ (v : Int) (t : TypeId) (p : Value), e = .returned (.tuple #[.int .i64 v, .iface t p])
theorem atoi_ (l : List Nat) (w : World) (hl : l.length ≤ 140737488355328) (hT : Tb w) :
    Calls Tryz.prog 56 #[.string (sb l)] w fun e w' => AtP (qA l) e ∧ Below w.heap.size w w' := by
  have hsz : (sb l).size = l.length := sb_size l
  have hd := sb_data l
  unfold qA
  cases hq : Lib.atoiAll (l.map UInt8.ofNat) with
  | ok u =>
    refine (Tryz.strconv_Atoi_ok (sb l) (by omega) u (by rw [hd]; exact hq) w).mono ?_
    rintro e w' ⟨rfl, hw⟩
    refine ⟨rfl, ?_⟩
    rcases hw with rfl | ⟨t, rfl⟩
    · exact Below.refl _ _
    · exact Lib.bytesWorld_below _ _ _
  | «syntax» =>
    obtain ⟨tp, p, hv⟩ := hT.syn
    refine (Tryz.strconv_Atoi_syntax_var (sb l) (by omega) (by rw [hd]; exact hq) tp p w hv).mono ?_
    rintro e w' ⟨N, rfl, _, _, g⟩
    exact ⟨⟨_, _, _, rfl⟩, g⟩
  | range =>
    obtain ⟨tp, p, hv⟩ := hT.rng
    refine (Tryz.strconv_Atoi_range_var (sb l) (by omega) (by rw [hd]; exact hq) tp p w hv).mono ?_
    rintro e w' ⟨N, rfl, _, _, g⟩
    exact ⟨⟨_, _, _, rfl⟩, g⟩
end Go.Proofs.YtmgoabedickooaaGreatDoor
