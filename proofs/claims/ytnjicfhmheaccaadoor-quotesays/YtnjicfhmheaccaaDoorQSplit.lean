/- strings.SplitAfter at a line feed answers the pieces in a new array. Conditions: the text is shorter than 4294967281 bytes; internal/bytealg.MaxLen holds some number. -/
import Derived.Test.YtnjicfhmheaccaaDoorCommon
import Derived.Test.YtnjicfhmheaccaaDoorShelf
import Derived.Test.YtnjicfhmheaccaaDoorPlainR
namespace Go.Proofs.YtnjicfhmheaccaaDoor
open Go.RowKit

theorem splitAfter_any (s : ByteArray) (m : Int) (w : World) (hs : s.size ≤ 1000000) (hm : w.cell? ⟨0, 0, none⟩ = some (.int .i64 m)) :
    Calls Tryd.prog 37 #[.string s, .string ⟨#[10]⟩] w fun e w' => ∃ xs : List ByteArray, xs.map (·.data.toList) = Lib.splitK [10] 1 (Lib.count s.data.toList [10]) s.data.toList ∧ xs.length ≤ 1000001 ∧
      e = .returned (.slice (some ⟨w.heap.size, 0, none⟩) xs.length xs.length) ∧ w' = w.alloc (.cells (xs.map Value.string).toArray 9) := by
  have hlen := Lib.splitB_all ⟨#[10]⟩ (by decide) 1 _ s rfl
  have hcl := Lib.countB_le ⟨#[10]⟩ (by decide) s.size s (Nat.le_refl _)
  have hd := Lib.splitB_data ⟨#[10]⟩ 1 (Lib.countB s ⟨#[10]⟩) s
  have c := Tryd.strings_genSplit s ⟨#[10]⟩ 1 (-1) (Lib.countB s ⟨#[10]⟩ + 1) m w (by omega) hm (by decide) (by decide) (by decide) (by decide) (by rw [if_pos (by decide)]; omega)
  rw [Nat.add_sub_cancel, hlen] at c
  have e2 : Lib.cellsOf (Lib.splitB ⟨#[10]⟩ 1 (Lib.countB s ⟨#[10]⟩) s) (Lib.countB s ⟨#[10]⟩ + 1) = ((Lib.splitB ⟨#[10]⟩ 1 (Lib.countB s ⟨#[10]⟩) s).map Value.string).toArray := by rw [← hlen]; exact Lib.cellsOf_full _
  rw [e2] at c
  have HD : Hid ((Lib.splitB ⟨#[10]⟩ 1 (Lib.countB s ⟨#[10]⟩) s).map (·.data.toList) = Lib.splitK [10] 1 (Lib.count s.data.toList [10]) s.data.toList) := hd
  have HL : Hid ((Lib.splitB ⟨#[10]⟩ 1 (Lib.countB s ⟨#[10]⟩) s).length = Lib.countB s ⟨#[10]⟩ + 1) := hlen
  clear hd e2 hm hlen
  generalize Lib.splitB ⟨#[10]⟩ 1 (Lib.countB s ⟨#[10]⟩) s = xs at *
  generalize hcnt : Lib.countB s ⟨#[10]⟩ = cnt at *
  clear hcnt
  go_enter Tryd.func37, Tryd.ntmps37
  go_wp2_with fail
  refine c.mono ?_
  rintro e w1 ⟨rfl, rfl⟩
  clear c
  go_wp2
  go_ret
  exact ⟨xs, HD.out, by rw [HL.out]; omega, by rw [HL.out]; rfl, rfl⟩
end Go.Proofs.YtnjicfhmheaccaaDoor
