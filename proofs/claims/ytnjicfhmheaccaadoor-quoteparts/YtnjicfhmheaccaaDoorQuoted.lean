/- The law's closed fact 'quoted' answers true; nothing that was there is changed. No condition. -/
import Derived.Test.YtnjicfhmheaccaaDoorQWrite
import Derived.Test.YtnjicfhmheaccaaDoorDRead
import Derived.Lib.SlBytesConst
namespace Go.Proofs.YtnjicfhmheaccaaDoor
open Go.RowKit

theorem enc_three : encQ [97, 61, 10] = [97, 61, 51, 68, 61, 48, 65] := by decide +kernel
theorem read_lines : readQ [120, 61, 51, 100, 32, 13, 10, 121, 61, 10] = ([120, 61, 13, 10, 121], 0) := by decide +kernel

theorem BRow_three (w : World) (x y z : UInt8) (t : TypeId) (fr : Nat × Nat) : BRow (w.alloc (.cells #[.int .u8 (x.toNat : Int), .int .u8 (y.toNat : Int), .int .u8 (z.toNat : Int)] t fr)) (some ⟨w.heap.size, 0, none⟩) [x, y, z] := by
  intro _
  refine ⟨w.heap.size, 0, rfl, fun i hi => ?_⟩
  rcases (by simpa using hi : i < 3) with hi
  match i, hi with
  | 0, _ => exact World.cell?_alloc_mark w _ t fr 0
  | 1, _ => exact World.cell?_alloc_mark w _ t fr 1
  | 2, _ => exact World.cell?_alloc_mark w _ t fr 2

set_option maxHeartbeats 1000000 in
theorem quoted_any (w : World) :
    Calls Tryd.prog 16 #[] w fun e w' => e = .returned (.bool true) ∧ Below w.heap.size w w' := by
  have kc := fun (w : World) (C : Array Value) (n c : Nat) => Lib.run_convert_bytes_const (P := Tryd.prog) w 22 5 C n c Tryd.underlying22 Tryd.underlying5
  go_enter Tryd.func16, Tryd.ntmps16
  go_wp2_with fail
  refine (qwrite_any _ _ 3 [97, 61, 10] rfl _ (by decide) (BRow_three w 97 61 10 _ _)).mono ?_
  rintro e w1 ⟨rfl, hb1⟩
  rw [enc_three]
  have hbw : Below w.heap.size w w1 := ((Below.refl w.heap.size w).alloc (Nat.le_refl _) _).trans (hb1.mono (by simp))
  clear hb1
  go_wp2_with fail
  refine (dread_any _ _ (by decide)).mono ?_
  rintro e w2 ⟨hb2, p, c, rfl, hc1, hc2, hrow⟩
  rw [show (readQ (ByteArray.mk #[120, 61, 51, 100, 32, 13, 10, 121, 61, 10]).data.toList) = ([120, 61, 13, 10, 121], 0) from read_lines] at hrow hc1 ⊢
  obtain ⟨b, o, rfl, hc⟩ := hrow (by simp)
  have hcv := run_convert_bytes_back (P := Tryd.prog) w2 22 9 5 ⟨b, o, none⟩ c [120, 61, 13, 10, 121] Tryd.underlying22 Tryd.underlying5 Tryd.underlying9 (fun j hj => by
    rw [Addr.add_lit, hc j hj]
    simp [List.getD_eq_getElem?_getD, List.getElem?_eq_getElem hj])
  simp only [List.length_cons, List.length_nil, Nat.reduceAdd] at hcv
  have hb := hbw.trans (hb2.mono hbw.size)
  clear hc hrow hb2 hbw hc1 hc2
  go_wp2
  go_ret
  exact ⟨rfl, hb⟩
end Go.Proofs.YtnjicfhmheaccaaDoor
