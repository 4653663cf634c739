/- strings.Trim of blanks (and tabs), as the plain functions say; nothing that was there is changed. -/
import Derived.Test.YtehiaenicfmpbaaDoorTrimSet
import Derived.Test.YtehiaenicfmpbaaDoorPlainP
namespace Go.Proofs.YtehiaenicfmpbaaDoor
open Go.RowKit

theorem isSp_eq : isSp = (· == 32) := by
  funext c
  have h : isSp c = decide (c = 32) := by simp [isSp]
  rw [h]
  rfl
theorem trimSp_any (X T : ByteArray) (hT : T.data.toList = trimBy isSp X.data.toList) (w : World) (hX : X.size ≤ 1000000000) :
    Calls Tryd.prog 85 #[.string X, .string ⟨#[32]⟩] w fun e w' => e = .returned (.string T) ∧ Below w.heap.size w w' := by
  refine (Tryd.strings_Trim_one X 32 (by decide) w (by omega)).mono ?_
  rintro e w' ⟨rfl, h⟩
  refine ⟨?_, ?_⟩
  · have e1 : Lib.trimB X.data.toList 32 = T.data.toList := by rw [hT, isSp_eq]; rfl
    rw [e1]
  · rcases h with rfl | rfl
    · exact Below.refl _ _
    · exact (Below.refl _ _).drew
theorem trimBT_any (X T : ByteArray) (hT : T.data.toList = trimBy isBT X.data.toList) (w : World) (hX : X.size ≤ 1000000000) :
    Calls Tryd.prog 85 #[.string X, .string ⟨#[32, 9]⟩] w fun e w' => e = .returned (.string T) ∧ Below w.heap.size w w' := by
  refine (trim_set ⟨#[32, 9]⟩ X w hX (by decide) (by decide) (fun j b hb => ?_)).mono ?_
  · have : b ∈ [(32 : UInt8), 9] := List.mem_of_getElem? hb
    simp at this
    rcases this with rfl | rfl <;> decide
  · rintro e w' ⟨rfl, hb⟩
    refine ⟨?_, hb⟩
    have e1 : trimBy (List.contains [32, 9]) X.data.toList = T.data.toList := hT.symm
    rw [show (ByteArray.mk #[32, 9]).data.toList = [32, 9] from rfl, e1]
theorem mk_trim (p : UInt8 → Bool) (l : List UInt8) : ∃ T : ByteArray, T.data.toList = trimBy p l ∧ T.size ≤ l.length := ⟨⟨(trimBy p l).toArray⟩, rfl, by show (trimBy p l).toArray.size ≤ _; rw [List.size_toArray]; exact trimBy_length p l⟩
end Go.Proofs.YtehiaenicfmpbaaDoor
