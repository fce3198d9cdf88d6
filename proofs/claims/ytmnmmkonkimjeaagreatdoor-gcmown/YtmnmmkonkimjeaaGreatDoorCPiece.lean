import Derived.Test.YtmnmmkonkimjeaaGreatDoorCBase
import Derived.Test.YtmnmmkonkimjeaaGreatDoorABytes
namespace Go.Proofs.YtmnmmkonkimjeaaGreatDoor
open Go.RowKit
set_option linter.unusedVariables false
set_option maxRecDepth 100000

/-! copy of what a slice of bytes reads into a row of bytes. -/
theorem run_cpb (w : World) (dT sT ty elem : TypeId) (hu : Tryz.prog.underlying dT = some (.slice elem)) (hsz : (Tryz.prog.info? elem).map (·.size) = some 1) (g off dLen dCap : Nat) (sa : Option Addr) (sLen sCap : Nat) (t n : Nat) (f : Nat → Nat) (hr : Rw w g t n f)
    (m : Nat) (hm : m = Nat.min sLen dLen) (hfit : off + m ≤ n) (zs : List Int) (hb : Bs w sa sLen zs) (z : Nat → Nat) (hz : ∀ i, i < m → zs.getD i 0 = ((z i : Nat) : Int)) :
    (Builtin.copy_ #[dT, sT] ty #[.slice (some ⟨g, off, none⟩) dLen dCap, .slice sa sLen sCap]).run Tryz.prog w = .ok (goInt m) (w.setCells g off (rw8 m z).toList) := by
  by_cases h0 : m = 0
  · have e : rw8 m z = #[] := by rw [h0]; rfl
    rw [run_copy_none w dT sT ty elem _ _ dLen dCap sLen sCap hu hsz (by omega), e, h0]
    rfl
  · rcases hb.2.2 with hs0 | ⟨b, o, rfl, hc⟩
    · exfalso
      have : Nat.min sLen dLen ≤ sLen := Nat.min_le_left _ _
      omega
    · have hle : m ≤ sLen := by rw [hm]; exact Nat.min_le_left _ _
      have ht := hr.there off m hfit
      have hsrc : ∀ j u, (rw8 m z).toList[j]? = some u → w.cell? ((⟨b, o, none⟩ : Addr).add j) = some u := fun j u hu => by
        have hj : j < m := by have := (List.getElem?_eq_some_iff.1 hu).1; rwa [rw8_len] at this
        rw [Array.getElem?_toList, rw8_get _ _ j hj] at hu
        rw [Addr.add_mid, hc j (by omega), hz j hj]
        exact hu
      have := run_copy_cells (P := Tryz.prog) w dT sT ty elem g off dLen dCap ⟨b, o, none⟩ sLen sCap (rw8 m z).toList hu hsz (by rw [rw8_len]; exact hm) hsrc (by rw [rw8_len]; exact fun j hj => (ht j hj).1) (by rw [rw8_len]; exact fun j hj => (ht j hj).2) (fun u hu => (Array.all_eq_true_iff_forall_mem.1 (rw8_one m z)) u (by simpa using hu))
      rw [rw8_len] at this
      exact this
theorem wpList_cpb {ops : Array Oper} {rest : List Oper} {o : Oper} {a : Act} {w : World} {Q : Exit → Act → World → Prop} (hgd : o.guard = none) (d s : Operand) (dT sT : TypeId)
    (ho : o.op = .call { callee := .builtin .copy, args := #[d, s], argTypes := #[dT, sT] }) (elem : TypeId) (hu : Tryz.prog.underlying dT = some (.slice elem)) (hsz : (Tryz.prog.info? elem).map (·.size) = some 1)
    (g off dLen dCap : Nat) (sa : Option Addr) (sLen sCap : Nat) (hd : a.eval d = .slice (some ⟨g, off, none⟩) dLen dCap) (hs : a.eval s = .slice sa sLen sCap) (t n : Nat) (f : Nat → Nat) (hr : Rw w g t n f)
    (m : Nat) (hm : m = Nat.min sLen dLen) (hfit : off + m ≤ n) (zs : List Int) (hb : Bs w sa sLen zs) (z : Nat → Nat) (hz : ∀ i, i < m → zs.getD i 0 = ((z i : Nat) : Int))
    (h : wpList Tryz.prog ops Q rest (a.put o.dst (goInt m)) (w.setCells g off (rw8 m z).toList)) : wpList Tryz.prog ops Q (o :: rest) a w :=
  wpList_plain hgd fun K hK => by
    have hrun := run_cpb w dT sT o.type elem hu hsz g off dLen dCap sa sLen sCap t n f hr m hm hfit zs hb z hz
    unfold Oper.wp
    simp [execOp, ho, resolve, invoke, builtin, hd, hs, hrun, Result.andThen]
    exact hK _ _ h
theorem step_cpb {ops : Array Oper} {o : Oper} {a : Act} {w : World} {K : Act → World → Prop} {Q : Exit → Act → World → Prop} {E : Prop} (hgd : o.guard = none) (d s : Operand) (dT sT : TypeId)
    (ho : o.op = .call { callee := .builtin .copy, args := #[d, s], argTypes := #[dT, sT] }) (elem : TypeId) (hu : Tryz.prog.underlying dT = some (.slice elem)) (hsz : (Tryz.prog.info? elem).map (·.size) = some 1)
    (g off dLen dCap : Nat) (sa : Option Addr) (sLen sCap : Nat) (hd : a.eval d = .slice (some ⟨g, off, none⟩) dLen dCap) (hs : a.eval s = .slice sa sLen sCap) (t n : Nat) (f : Nat → Nat) (hr : Rw w g t n f)
    (m : Nat) (hm : m = Nat.min sLen dLen) (hfit : off + m ≤ n) (zs : List Int) (hb : Bs w sa sLen zs) (z : Nat → Nat) (hz : ∀ i, i < m → zs.getD i 0 = ((z i : Nat) : Int))
    (h : K (a.put o.dst (goInt m)) (w.setCells g off (rw8 m z).toList)) : if Region.wanted o (yielded ops a.tmps) = true then Oper.wp Tryz.prog o a w K Q else E := by
  have hw : Region.wanted o (yielded ops a.tmps) = true := by simp [Region.wanted, hgd]
  rw [if_pos hw]
  have hrun := run_cpb w dT sT o.type elem hu hsz g off dLen dCap sa sLen sCap t n f hr m hm hfit zs hb z hz
  unfold Oper.wp
  simp [execOp, ho, resolve, invoke, builtin, hd, hs, hrun, Result.andThen]
  exact h
end Go.Proofs.YtmnmmkonkimjeaaGreatDoor
