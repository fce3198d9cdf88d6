import Derived.Test.YtghehfhkiknjhaaUJ
namespace Go.Proofs.Ytghehfhkiknjhaa
set_option maxRecDepth 100000
open Go.RowKit Go.Shelf Go.Maps
set_option linter.unusedVariables false

theorem lastS_take {l : List Sx} {k : Nat} (hk : k < l.length) (key : List Int) : lastS (l.take (k + 1)) key = if (l.getD k default).k = key then some (l.getD k default) else lastS (l.take k) key := by
  have e : l.getD k default = l[k] := by simp [List.getD, hk]
  rw [List.take_succ_eq_append_getElem hk, lastS_snoc, e]
theorem lastS_hit {l : List Sx} {k : Nat} {key : List Int} (hk : k < l.length) (hr : lastS l key = lastS (l.take (k + 1)) key) (h : (l.getD k default).k = key) : lastS l key = some (l.getD k default) := by
  rw [hr, lastS_take hk, if_pos h]
theorem lastS_miss {l : List Sx} {k : Nat} {key : List Int} (hk : k < l.length) (hr : lastS l key = lastS (l.take (k + 1)) key) (h : (l.getD k default).k ≠ key) : lastS l key = lastS (l.take k) key := by
  rw [hr, lastS_take hk, if_neg h]
/-- What the sets say of a key: the value, and whether it is there. -/
def sayV (l : List Sx) (key : List Int) : List Int := match lastS l key with
  | some s => s.v
  | none => []
def sayT (l : List Sx) (key : List Int) : Bool := match lastS l key with
  | some s => !s.g
  | none => false
set_option maxHeartbeats 2000000 in
theorem last_ (V : Nat → Prop) (a ak : Option Addr) (n c m d : Nat) (l : List Sx) (key : List Int) (w : World) (h : Sl w V a n l) (hk : Bs w ak m key) (hn : n ≤ 100000000) (hm : m ≤ 1000000000) :
    Calls Try.prog 28 #[.slice a n c, .slice ak m d] w fun e w' => ∃ av nv cv, e = .returned (.tuple #[.slice av nv cv, .bool (sayT l key)]) ∧ Vs w' V av nv cv (sayV l key) ∧ Below w.heap.size w w' := by
  have HL := hid h
  have HLN : Hid (l.length = n) := h.len
  have HK := hid hk
  clear h hk
  go_enter Try.func28, Try.ntmps28
  go_wp2_with fail
  go_loopw [6] (fun i wr => ∃ k : Nat, k ≤ n ∧ i = .int .i64 ((k : Int) - 1) ∧ Hid (lastS l key = lastS (l.take k) key) ∧ Hid (Below w.heap.size w wr)) (fun i _ => (intOf i + 1).toNat)
  case atStart => exact ⟨n, Nat.le_refl _, by go_num, (by rw [List.take_of_length_le (by rw [HLN.out]; exact Nat.le_refl _)]; rfl), Below.refl _ _⟩
  case round =>
    obtain ⟨k, hk, rfl, HE, HB⟩ := hrel
    cases k with
    | zero =>
      have hX : lastS l key = none := by rw [HE.out]; rfl
      have HT : Hid (sayT l key = false) := by show _ = _; unfold sayT; rw [hX]
      have HV : Hid (sayV l key = []) := by show _ = _; unfold sayV; rw [hX]
      clear hX
      have e0 : ((0 : Nat) : Int) - 1 = -1 := rfl
      rw [e0]
      go_wp2_with fail
      go_ret2
      rw [HT.out, HV.out]
      exact ⟨none, 0, 0, rfl, ⟨⟨rfl, by simp, .inl rfl⟩, Nat.le_refl _, Nat.zero_le _, fun _ => rfl, fun ad e => by cases e⟩, HB.out⟩
    | succ k =>
      have e0 : ((k + 1 : Nat) : Int) - 1 = k := by omega
      rw [e0]
      have hI : (k : Int) ≥ 0 := by omega
      have hlt : k < n := by omega
      obtain ⟨bl, off, ka, kc, va, vc, kn, vn, rfl, hkn, hvn, c0, c1, c2, v1, v2⟩ := (HL.out.below HB.out).at hlt
      obtain ⟨s, HS⟩ : ∃ s, Hid (l.getD k default = s) := ⟨_, rfl⟩
      rw [HS.out] at hkn hvn c2 v1 v2
      obtain ⟨g, HG⟩ : ∃ g, Hid (s.g = g) := ⟨_, rfl⟩
      rw [HG.out] at c2
      have hkl : kn ≤ maxLen := Nat.le_trans v1.nc v1.cm
      have hml : m ≤ maxLen := by unfold maxLen; omega
      have hc := fun (e : s.k = key) => lastS_hit (k := k) (by rw [HLN.out]; exact hlt) HE.out (by rw [HS.out]; exact e)
      have hd := fun (e : s.k ≠ key) => lastS_miss (k := k) (by rw [HLN.out]; exact hlt) HE.out (by rw [HS.out]; exact e)
      rw [HS.out] at hc
      have ks := same_d ka ak kn kc m d s.k key wr v1.bs (HK.out.below HB.out) hkl hml
      have HC1 := hid c1
      have HC2 := hid c2
      have HV2 := hid v2
      have hI2 : (k : Int) < n := by omega
      clear hkn hvn v1 v2 c1 c2 HE hkl hml e0
      go_wp2_with fail
      refine ks.mono ?_
      rintro e w1 ⟨rfl, g1⟩
      have HB1 : Hid (Below w.heap.size w w1) := bel_bel HB.out HB.out.size g1.below
      have x1 : w1.cell? ⟨bl, off + k * 3 + 1, none⟩ = some (.slice va vn vc) := (World.cell?_of_block (g1.at bl)).trans HC1.out
      have x2 : w1.cell? ⟨bl, off + k * 3 + 2, none⟩ = some (.bool g) := (World.cell?_of_block (g1.at bl)).trans HC2.out
      have HV2 := hid (HV2.out.lift g1.below (fun _ _ h => h))
      clear ks g1 c0 HC1 HC2
      by_cases hsk : s.k = key
      · have hX := hc hsk
        have HT : Hid (sayT l key = !g) := by show _ = _; unfold sayT; rw [hX]; show (!s.g) = _; rw [HG.out]
        have HVV : Hid (sayV l key = s.v) := by show _ = _; unfold sayV; rw [hX]
        have hsb : sameB s.k key = true := by rw [hsk]; exact sameB_self _
        rw [hsb]
        clear hX hc hd hsb hsk
        go_wp2_with fail
        go_region
        go_wp2_with fail
        go_ret2
        rw [HT.out, HVV.out]
        exact ⟨va, vn, vc, rfl, HV2.out.lift (below_drew w1) (fun _ _ h => h), bel_bel HB1.out HB1.out.size (below_drew w1)⟩
      · have HE1 := hid (hd hsk)
        have hsb : sameB s.k key = false := decide_eq_false hsk
        rw [hsb]
        clear hc hd hsb hsk x1 x2
        go_wp2_with fail
        go_roundw
        case rel => exact ⟨k, by omega, by go_num, HE1, HB1⟩
        case measure => simp [intOf]
end Go.Proofs.Ytghehfhkiknjhaa
