import Derived.Test.YtmgoabedickooaaGreatDoorP10
namespace Go.Proofs.YtmgoabedickooaaGreatDoor
set_option maxRecDepth 100000
open Go.RowKit
set_option linter.unusedVariables false

theorem ta_le (F H L : Int) : (ta F H L).length ≤ 64 := by
  have h1 := txj_le (nl (pa F H L)).length (nl (pa F H L)) (nl_lt (pa_byte F H L)) (nl (pa F H L)).length
  have h2 : (pa F H L).length ≤ 16 := by
    rw [pa_length]
    have := nb_le F
    split <;> omega
  rw [nl_length] at h1
  unfold ta tx
  rw [nl_length]
  omega
theorem sb_slash : (⟨#[47]⟩ : ByteArray) = sb [47] := rfl
end Go.Proofs.YtmgoabedickooaaGreatDoor
