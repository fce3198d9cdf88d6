import Derived.Test.YtajjilheellfeabDoorS6
import Derived.WideShapes
namespace Go.Proofs.YtajjilheellfeabDoor
open Go.RowKit
set_option linter.unusedVariables false

theorem dv_lt (l : List Nat) (h : ∀ x ∈ l, x ≤ 57) : dv l < 10 ^ l.length := by
  have e : ∀ (l : List Nat) (x m : Nat), (∀ z ∈ l, z ≤ 57) → x < 10 ^ m → l.foldl (fun x z => x * 10 + (z - 48)) x < 10 ^ (m + l.length) := by
    intro l
    induction l with
    | nil => intro x m _ h; exact h
    | cons b l ih =>
      intro x m hl hx
      have hb := hl b (by simp)
      have := ih (x * 10 + (b - 48)) (m + 1) (fun z hz => hl z (by simp [hz])) (by rw [Nat.pow_succ]; omega)
      rw [show m + 1 + l.length = m + (b :: l).length from by simp; omega] at this
      exact this
  have := e l 0 0 h (by decide)
  rwa [Nat.zero_add] at this
theorem sb_inj {a b : List Nat} (ha : ∀ x ∈ a, x < 256) (hb : ∀ x ∈ b, x < 256) (h : sb a = sb b) : a = b := by
  have e : a.map UInt8.ofNat = b.map UInt8.ofNat := by
    have := congrArg ByteArray.data h
    simpa [sb] using this
  have hl : a.length = b.length := by have := congrArg List.length e; simpa using this
  refine list_ext6 hl fun i hi => ?_
  have h1 := congrArg (fun l : List UInt8 => (l.map UInt8.toNat).getD i 0) e
  simp only [List.map_map] at h1
  have h2 : ∀ (l : List Nat) (hy : ∀ x ∈ l, x < 256), (l.map (UInt8.toNat ∘ UInt8.ofNat)).getD i 0 = l.getD i 0 := fun l hy => by
    simp only [List.getD, List.getElem?_map]
    cases q : l[i]? with
    | none => rfl
    | some z =>
      have := hy z (List.mem_of_getElem? q)
      simp
      omega
  rw [h2 a ha, h2 b hb] at h1
  exact h1
theorem pr_lt (s n : Int) : ∀ x ∈ pr s n, x < 256 := by
  intro x hx
  unfold pr at hx
  split at hx
  · rcases List.mem_append.1 hx with h | h
    · have := dl_digit _ _ x h; omega
    · rcases List.mem_cons.1 h with rfl | h
      · omega
      · have := dl_digit _ _ x h; omega
  · simp at hx
theorem size_data (bs : ByteArray) : bs.data.toList.length = bs.size := Array.length_toList
theorem loop_data (bs : ByteArray) : ∀ (k i : Nat) (r : List UInt8), bs.size - i = k → ByteArray.toList.loop bs i r = r.reverse ++ bs.data.toList.drop i := by
  intro k
  induction k with
  | zero =>
    intro i r h
    rw [ByteArray.toList.loop]
    rw [if_neg (by omega)]
    have : bs.data.toList.drop i = [] := List.drop_eq_nil_of_le (by rw [size_data]; omega)
    rw [this, List.append_nil]
  | succ k ih =>
    intro i r h
    rw [ByteArray.toList.loop]
    rw [if_pos (by omega), ih (i + 1) _ (by omega)]
    have hi : i < bs.data.toList.length := by rw [size_data]; omega
    rw [List.drop_eq_getElem_cons hi, List.reverse_cons, List.append_assoc]
    have : bs.get! i = bs.data.toList[i] := by
      show bs.data[i]! = _
      rw [getElem!_pos bs.data i (by rw [← Array.length_toList]; exact hi)]
      simp
    rw [this]
    rfl
theorem toList_data (bs : ByteArray) : bs.toList = bs.data.toList := by
  unfold ByteArray.toList
  rw [loop_data bs _ 0 [] rfl]
  simp
theorem toList_inj {a b : ByteArray} (h : a.toList = b.toList) : a = b := by
  rw [toList_data, toList_data] at h
  exact Go.WideShapes.bytes_inj h
theorem getD_lt6 {l : List Nat} (h : ∀ x ∈ l, x < 256) (i : Nat) : l.getD i 0 < 256 := by
  simp only [List.getD]
  cases e : l[i]? with
  | none => simp
  | some z => exact h z (List.mem_of_getElem? e)
theorem run_at (l : List Nat) (hy : ∀ x ∈ l, x < 256) (i : Nat) (h : i < l.length) (w : World) : (Instr.index 9 (.string (sb l)) (.int .i64 (i : Int))).run Tryd.prog w = .ok (.int .u8 ((l.getD i 0 : Nat) : Int)) w := by
  obtain ⟨h', e⟩ := sb_get l hy i h
  have hi : (0 : Int) ≤ (i : Int) ∧ (i : Int) < ((sb l).size : Int) := by rw [sb_size]; omega
  rw [run_index_string w _ _ _ _ (by kernel_rfl), dif_pos hi]
  have e2 : ((sb l)[(i : Int).toNat]'(by rw [Int.toNat_natCast]; exact h')).toNat = l.getD i 0 := e
  rw [e2]
end Go.Proofs.YtajjilheellfeabDoor
