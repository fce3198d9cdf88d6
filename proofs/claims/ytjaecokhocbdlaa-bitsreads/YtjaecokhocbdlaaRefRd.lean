import Derived.Test.YtjaecokhocbdlaaEnc
import Derived.Deep.RegionHeld
namespace Go.Proofs.Ytjaecokhocbdlaa
open Go.RowKit
set_option linter.unusedVariables false

/-- The document's reader in block d. -/
def Rfc (w : World) (d : Nat) (a : Option Addr) (n c : Nat) (p e : Int) : Prop := w.heap[d]? = some (.cells #[.slice a n c, .int .i64 p, .int .i64 e] 68 (0, 0))
section
variable {w w' : World} {r : Nat} {a : Option Addr} {n c : Nat} {p e : Int}
theorem Rfc.c0 (h : Rfc w r a n c p e) : w.cell? ⟨r, 0, none⟩ = some (.slice a n c) := by rw [cell_of_row w r 0 _ 68 (0, 0) h]; rfl
theorem Rfc.c1 (h : Rfc w r a n c p e) : w.cell? ⟨r, 1, none⟩ = some (.int .i64 p) := by rw [cell_of_row w r 1 _ 68 (0, 0) h]; rfl
theorem Rfc.c2 (h : Rfc w r a n c p e) : w.cell? ⟨r, 2, none⟩ = some (.int .i64 e) := by rw [cell_of_row w r 2 _ 68 (0, 0) h]; rfl
theorem Rfc.fz (h : Rfc w r a n c p e) (i : Nat) : w.frozen? ⟨r, i, none⟩ = false := by unfold Rfc at h; simp [World.frozen?, h]
theorem Rfc.lt (h : Rfc w r a n c p e) : r < w.heap.size := (Array.getElem?_eq_some_iff.1 h).1
theorem Rfc.set1 (h : Rfc w r a n c p e) (p' : Int) : Rfc (w.setCell ⟨r, 1, none⟩ (.int .i64 p')) r a n c p' e := by
  unfold Rfc at *; simp [World.setCell, Array.getElem?_modify, h]
theorem Rfc.set2 (h : Rfc w r a n c p e) (e' : Int) : Rfc (w.setCell ⟨r, 2, none⟩ (.int .i64 e')) r a n c p e' := by
  unfold Rfc at *; simp [World.setCell, Array.getElem?_modify, h]
theorem Rfc.at (h : Rfc w r a n c p e) (hk : w'.heap[r]? = w.heap[r]?) : Rfc w' r a n c p e := by
  unfold Rfc; rw [hk]; exact h
end

set_option maxHeartbeats 400000 in
theorem num_broken (r n c : Nat) (a : Option Addr) (p e m : Int) (w : World) (h : Rfc w r a n c p e) (he : (e != 0) = true) :
    Calls Try.prog 34 #[.pointer (some ⟨r, 0, none⟩), .int .i64 m] w fun en w' => en = .returned (.int .u64 0) ∧ w' = w := by
  have h2 := h.c2
  clear h
  go_enter Try.func34, Try.ntmps34
  go_wp2
  go_ret
  exact ⟨rfl, rfl⟩

set_option maxHeartbeats 400000 in
theorem num_short (r n c p W : Nat) (a : Option Addr) (w : World) (h : Rfc w r a n c p 0) (hpn : p ≤ n) (hn : n ≤ 1000000) (hW : W ≤ 8) (hs : n - p < W) :
    Calls Try.prog 34 #[.pointer (some ⟨r, 0, none⟩), .int .i64 W] w fun en w' => en = .returned (.int .u64 0) ∧ Rfc w' r a n c p 10 ∧ Only r w w' := by
  have h0 := h.c0
  have h1 := h.c1
  have h2 := h.c2
  have f2 := h.fz 2
  have hwr : IntKind.i64.wrap ((n : Int) - (p : Int)) = (n : Int) - (p : Int) := by rw [IntKind.wrap_i64]; omega
  have i1 : (n : Int) - (p : Int) < (W : Int) := by omega
  have HR : Hid (∀ nq, Rfc ((w.drewN nq).setCell ⟨r, 2, none⟩ (.int .i64 10)) r a n c p 10) := fun nq => Rfc.set2 (h.at rfl) 10
  have HO : Hid (∀ nq, Only r w ((w.drewN nq).setCell ⟨r, 2, none⟩ (.int .i64 10))) := fun nq => ((Only.refl r w).drewN nq).set 2 _
  clear h
  go_enter Try.func34, Try.ntmps34
  go_wp2
  go_quiet (fail)
  go_wp2
  go_ret
  exact ⟨rfl, HR.out _, HO.out _⟩

set_option maxHeartbeats 400000 in
theorem num_whole (r n c p W : Nat) (a : Option Addr) (bs : List Int) (w : World) (h : Rfc w r a n c p 0) (hb : Bs w a n bs) (hn : n ≤ 1000000) (hW : W ≤ 8) (hs : p + W ≤ n) :
    Calls Try.prog 34 #[.pointer (some ⟨r, 0, none⟩), .int .i64 W] w fun en w' => en = .returned (.int .u64 (val ((bs.drop p).take W))) ∧ Rfc w' r a n c (p + W) 0 ∧ Only r w w' := by
  have h0 := h.c0
  have h1 := h.c1
  have h2 := h.c2
  have f1 := h.fz 1
  have hwr : IntKind.i64.wrap ((n : Int) - (p : Int)) = (n : Int) - (p : Int) := by rw [IntKind.wrap_i64]; omega
  have i1 : ¬ (n : Int) - (p : Int) < (W : Int) := by omega
  obtain ⟨b1, b2, b3⟩ := hb
  have hbb : ∀ z ∈ (bs.drop p).take W, 0 ≤ z ∧ z ≤ 255 := fun z hz => b2 z (List.mem_of_mem_drop (List.mem_of_mem_take hz))
  have HR : Hid (∀ nq, Rfc ((w.drewN nq).setCell ⟨r, 1, none⟩ (.int .i64 ((p : Int) + W))) r a n c ((p : Int) + W) 0) := fun nq => Rfc.set1 (h.at rfl) _
  have HO : Hid (∀ nq v, Only r w ((w.drewN nq).setCell ⟨r, 1, none⟩ v)) := fun nq v => ((Only.refl r w).drewN nq).set 1 _
  clear h
  go_enter Try.func34, Try.ntmps34
  go_wp2
  go_quiet (fail)
  go_wp2
  go_loopw [5, 6] (fun x i wr => ∃ k nq : Nat, k ≤ W ∧ x = .int .u64 (vk (bs.drop p) W k) ∧ i = .int .i64 k ∧ wr = w.drewN nq) (fun _ i _ => W - (intOf i).toNat)
  case atStart => exact ⟨0, _, by omega, by rw [vk_zero], rfl, rfl⟩
  case round =>
    obtain ⟨k, nq, hk, rfl, rfl, rfl⟩ := hrel
    by_cases hlt : k < W
    · rcases b3 with b3 | ⟨b, off, rfl, hc⟩
      · omega
      have hlen : k < ((bs.drop p).take W).length := by simp; omega
      have hck := hc (p + k) (by omega)
      have hgd : bs.getD (p + k) 0 = ((bs.drop p).take W).getD k 0 := by simp only [List.getD, List.getElem?_take, if_pos hlt, List.getElem?_drop]
      rw [hgd] at hck
      have hzb := getD_byte _ k hlen hbb
      have hst := hid (vk_step (bs.drop p) W k hlen)
      have hv := vk_small (bs.drop p) W k hlen (by omega) hbb
      clear hc hgd hbb hlen b2
      generalize ((bs.drop p).take W).getD k 0 = z at *
      have hor := or8 (vk (bs.drop p) W k) z hv.1 hv.2 hzb.1 hzb.2
      obtain ⟨z0, z1⟩ := hzb
      obtain ⟨v0, v1⟩ := hv
      have hw1 : IntKind.i64.wrap ((p : Int) + (k : Int)) = (p : Int) + (k : Int) := by rw [IntKind.wrap_i64]; omega
      have i2 : (0 : Int) ≤ (p : Int) + (k : Int) := by omega
      have i3 : (p : Int) + (k : Int) < (n : Int) := by omega
      have i4 : ((p : Int) + (k : Int)).toNat = p + k := by omega
      have hwz : IntKind.u64.wrap z = z := by rw [show IntKind.u64.wrap z = z % 18446744073709551616 from rfl]; omega
      have hws : IntKind.u64.wrap (vk (bs.drop p) W k * 256) = vk (bs.drop p) W k * 256 := by rw [show IntKind.u64.wrap (vk (bs.drop p) W k * 256) = (vk (bs.drop p) W k * 256) % 18446744073709551616 from rfl]; omega
      go_wp2
      go_quiet (fail)
      go_wp2
      go_roundw
      case rel => exact ⟨k + 1, _, by omega, by rw [hst.out], by go_num, rfl⟩
      case measure => simp [intOf]; omega
    · obtain rfl : W = k := by omega
      have hva := vk_all (bs.drop p) W (by simp; omega)
      generalize hgv : vk (bs.drop p) W W = v at *
      have HV := hid hva
      clear hva b3 hbb b2 hgv
      go_wp2
      go_ret
      exact ⟨congrArg (fun q => Ending.returned (.int .u64 q)) HV.out, HR.out _, HO.out _ _⟩
end Go.Proofs.Ytjaecokhocbdlaa
