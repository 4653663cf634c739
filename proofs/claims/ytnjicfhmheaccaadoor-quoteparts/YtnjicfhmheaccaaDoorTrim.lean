/- strings.Trim at two bytes and the 22 hexadecimal digits leaves nothing just where both are such digits; nothing that was there is changed. No condition. -/
import Derived.Test.YtnjicfhmheaccaaDoorCommon
import Derived.Test.YtnjicfhmheaccaaDoorShelf
import Derived.Test.YtnjicfhmheaccaaDoorPlainR
import Derived.Deep.WholeRow
namespace Go.Proofs.YtnjicfhmheaccaaDoor
open Go.RowKit

def hexB : ByteArray := ⟨#[48, 49, 50, 51, 52, 53, 54, 55, 56, 57, 65, 66, 67, 68, 69, 70, 97, 98, 99, 100, 101, 102]⟩

theorem zero_set (w : World) : (zeroValue 88).run Tryd.prog w = .ok (.agg (Array.replicate 256 (.bool false))) w := by kernel_rfl

theorem has_any (g : Nat) (c : UInt8) (cc : Int) (e : cc = (c.toNat : Int)) (v : Bool) (w : World) (hc : w.cell? ⟨g, c.toNat, none⟩ = some (.bool v)) :
    Calls Tryd.prog 83 #[.pointer (some ⟨g, 0, none⟩), .int .u8 cc] w fun e w' => e = .returned (.bool v) ∧ w' = w := by
  subst e
  have := c.toNat_lt
  go_enter Tryd.func83, Tryd.ntmps83
  go_wp2
  go_ret
  exact ⟨rfl, rfl⟩

theorem cut_two (a b : UInt8) : (ByteArray.mk #[a, b]).extract 0 1 = ⟨#[a]⟩ := rfl
theorem cut_one (a : UInt8) : (ByteArray.mk #[a]).extract 0 0 = ⟨#[]⟩ := rfl
theorem tail_two (a b : UInt8) : (ByteArray.mk #[a, b]).extract 1 2 = ⟨#[b]⟩ := rfl

set_option maxHeartbeats 1000000 in
theorem right2 (g : Nat) (a b : UInt8) (va vb : Bool) (w : World) (ha : w.cell? ⟨g, a.toNat, none⟩ = some (.bool va)) (hb : w.cell? ⟨g, b.toNat, none⟩ = some (.bool vb)) :
    Calls Tryd.prog 61 #[.string ⟨#[a, b]⟩, .pointer (some ⟨g, 0, none⟩)] w fun e w' => e = .returned (.string (if vb = true then (if va = true then ⟨#[]⟩ else ⟨#[a]⟩) else ⟨#[a, b]⟩)) ∧ w' = w := by
  have x1 := cut_two a b
  have x2 := cut_one a
  cases vb
  · go_enter Tryd.func61, Tryd.ntmps61
    go_wp2_with fail
    refine wp_loop_rounds 1 ?_
    rw [rounds_succ]
    go_wp2_with fail
    refine (has_any g b _ rfl false w hb).mono ?_
    rintro e w' ⟨rfl, hw'⟩
    have hw'' := hw'.symm
    subst hw''
    go_wp2
    go_ret
    exact ⟨rfl, rfl⟩
  · cases va
    · go_enter Tryd.func61, Tryd.ntmps61
      go_wp2_with fail
      refine wp_loop_rounds 2 ?_
      rw [rounds_succ]
      go_wp2_with fail
      refine (has_any g b _ rfl true w hb).mono ?_
      rintro e w' ⟨rfl, hw'⟩
      have hw'' := hw'.symm
      subst hw''
      go_wp2
      rw [rounds_succ]
      go_wp2_with fail
      refine (has_any g a _ rfl false w ha).mono ?_
      rintro e w' ⟨rfl, hw'⟩
      have hw'' := hw'.symm
      subst hw''
      go_wp2
      go_ret
      exact ⟨rfl, rfl⟩
    · go_enter Tryd.func61, Tryd.ntmps61
      go_wp2_with fail
      refine wp_loop_rounds 3 ?_
      rw [rounds_succ]
      go_wp2_with fail
      refine (has_any g b _ rfl true w hb).mono ?_
      rintro e w' ⟨rfl, hw'⟩
      have hw'' := hw'.symm
      subst hw''
      go_wp2
      rw [rounds_succ]
      go_wp2_with fail
      refine (has_any g a _ rfl true w ha).mono ?_
      rintro e w' ⟨rfl, hw'⟩
      have hw'' := hw'.symm
      subst hw''
      go_wp2
      rw [rounds_succ]
      go_wp2
      go_ret
      exact ⟨rfl, rfl⟩

theorem left0 (g : Nat) (w : World) :
    Calls Tryd.prog 66 #[.string ⟨#[]⟩, .pointer (some ⟨g, 0, none⟩)] w fun e w' => e = .returned (.string ⟨#[]⟩) ∧ w' = w := by
  go_enter Tryd.func66, Tryd.ntmps66
  go_wp2_with fail
  refine wp_loop_rounds 1 ?_
  rw [rounds_succ]
  go_wp2
  go_ret
  exact ⟨rfl, rfl⟩

set_option maxHeartbeats 1000000 in
theorem left1 (g : Nat) (a : UInt8) (w : World) (ha : w.cell? ⟨g, a.toNat, none⟩ = some (.bool false)) :
    Calls Tryd.prog 66 #[.string ⟨#[a]⟩, .pointer (some ⟨g, 0, none⟩)] w fun e w' => e = .returned (.string ⟨#[a]⟩) ∧ w' = w := by
  go_enter Tryd.func66, Tryd.ntmps66
  go_wp2_with fail
  refine wp_loop_rounds 1 ?_
  rw [rounds_succ]
  go_wp2_with fail
  refine (has_any g a _ rfl false w ha).mono ?_
  rintro e w' ⟨rfl, hw'⟩
  have hw'' := hw'.symm
  subst hw''
  go_wp2
  go_ret
  exact ⟨rfl, rfl⟩

set_option maxHeartbeats 1000000 in
theorem left2 (g : Nat) (a b : UInt8) (va : Bool) (w : World) (ha : w.cell? ⟨g, a.toNat, none⟩ = some (.bool va)) (hb : w.cell? ⟨g, b.toNat, none⟩ = some (.bool false)) :
    Calls Tryd.prog 66 #[.string ⟨#[a, b]⟩, .pointer (some ⟨g, 0, none⟩)] w fun e w' => e = .returned (.string (if va = true then ⟨#[b]⟩ else ⟨#[a, b]⟩)) ∧ w' = w := by
  have x1 := tail_two a b
  cases va
  · go_enter Tryd.func66, Tryd.ntmps66
    go_wp2_with fail
    refine wp_loop_rounds 1 ?_
    rw [rounds_succ]
    go_wp2_with fail
    refine (has_any g a _ rfl false w ha).mono ?_
    rintro e w' ⟨rfl, hw'⟩
    have hw'' := hw'.symm
    subst hw''
    go_wp2
    go_ret
    exact ⟨rfl, rfl⟩
  · go_enter Tryd.func66, Tryd.ntmps66
    go_wp2_with fail
    refine wp_loop_rounds 2 ?_
    rw [rounds_succ]
    go_wp2_with fail
    refine (has_any g a _ rfl true w ha).mono ?_
    rintro e w' ⟨rfl, hw'⟩
    have hw'' := hw'.symm
    subst hw''
    go_wp2
    rw [rounds_succ]
    go_wp2_with fail
    refine (has_any g b _ rfl false w hb).mono ?_
    rintro e w' ⟨rfl, hw'⟩
    have hw'' := hw'.symm
    subst hw''
    go_wp2
    go_ret
    exact ⟨rfl, rfl⟩

set_option maxHeartbeats 2000000 in
set_option maxRecDepth 100000 in
theorem trim_hex (a b : UInt8) (w : World) :
    Calls Tryd.prog 40 #[.string ⟨#[a, b]⟩, .string ⟨#[48, 49, 50, 51, 52, 53, 54, 55, 56, 57, 65, 66, 67, 68, 69, 70, 97, 98, 99, 100, 101, 102]⟩] w fun e w' =>
      ∃ r : ByteArray, r.toList.isEmpty = (isHex a && isHex b) ∧ e = .returned (.string r) ∧ Below w.heap.size w w' := by
  go_enter Tryd.func40, Tryd.ntmps40
  go_wp2_with fail
  refine (Tryd.strings_makeASCIISet zero_set ⟨#[48, 49, 50, 51, 52, 53, 54, 55, 56, 57, 65, 66, 67, 68, 69, 70, 97, 98, 99, 100, 101, 102]⟩ w (by decide) (fun j c hc => (List.all_eq_true.1 (show hexl.all (fun c => decide (c.toNat < 128)) = true by decide) c (List.mem_of_getElem? hc) |> of_decide_eq_true))).mono ?_
  rintro e w1 ⟨rfl, rfl⟩
  have hA1 : (Lib.setCells (ByteArray.mk #[48, 49, 50, 51, 52, 53, 54, 55, 56, 57, 65, 66, 67, 68, 69, 70, 97, 98, 99, 100, 101, 102]).data.toList).size = 256 := Lib.setCells_size _
  have hA2 : ∀ c : UInt8, (Lib.setCells (ByteArray.mk #[48, 49, 50, 51, 52, 53, 54, 55, 56, 57, 65, 66, 67, 68, 69, 70, 97, 98, 99, 100, 101, 102]).data.toList)[c.toNat]? = some (.bool (isHex c)) := fun c => Lib.setCells_at _ c
  have HA3 : Hid ((Lib.setCells (ByteArray.mk #[48, 49, 50, 51, 52, 53, 54, 55, 56, 57, 65, 66, 67, 68, 69, 70, 97, 98, 99, 100, 101, 102]).data.toList).all (·.oneCell') = true) := Lib.setCells_one _
  generalize Lib.setCells (ByteArray.mk #[48, 49, 50, 51, 52, 53, 54, 55, 56, 57, 65, 66, 67, 68, 69, 70, 97, 98, 99, 100, 101, 102]).data.toList = SA at *
  have hA3 : SA.all (·.oneCell') = true := HA3.out
  have hsc : (storeCells ⟨w.heap.size + 1, 0, none⟩ SA.toList 0).run Tryd.prog ((w.alloc (.cells SA 88)).alloc (.cells Tryd.zeroCells88 88)) = .ok () ((w.alloc (.cells SA 88)).alloc (.cells SA 88)) := by
    have := run_storeCells_new (P := Tryd.prog) (w.alloc (.cells SA 88)) 88 Tryd.zeroCells88 SA (by rw [hA1]; kernel_rfl) (by rw [hA1]; kernel_rfl) hA3
    simpa using this
  have hcell : ∀ c : UInt8, ((w.alloc (.cells SA 88)).alloc (.cells SA 88)).cell? ⟨w.heap.size + 1, c.toNat, none⟩ = some (.bool (isHex c)) := fun c => by
    rw [World.cell?_alloc_at _ _ _ _ (by simp)]; exact hA2 c
  have hb2 : Below w.heap.size w ((w.alloc (.cells SA 88)).alloc (.cells SA 88)) := ((Below.refl _ _).alloc (Nat.le_refl _) _).alloc (by simp) _
  clear hA2 hA3 HA3
  go_wp2_with fail
  clear hsc
  generalize ((w.alloc (.cells SA 88)).alloc (.cells SA 88)) = w2 at *
  have ha := hcell a
  have hb := hcell b
  clear hcell
  obtain ⟨va, hva⟩ : ∃ v, isHex a = v := ⟨_, rfl⟩
  obtain ⟨vb, hvb⟩ : ∃ v, isHex b = v := ⟨_, rfl⟩
  rw [hva] at ha
  rw [hvb] at hb
  have HV : Hid (isHex a = va ∧ isHex b = vb) := ⟨hva, hvb⟩
  clear hva hvb
  refine (right2 (w.heap.size + 1) a b va vb w2 ha hb).mono ?_
  rintro e w3 ⟨rfl, hw3⟩
  have hw3' := hw3.symm
  subst hw3'
  cases vb
  · rw [if_neg (by decide)]
    cases va
    · go_wp2_with fail
      refine (left2 (w.heap.size + 1) a b false w2 ha hb).mono ?_
      rintro e w3 ⟨rfl, hw3⟩
      have hw3' := hw3.symm
      subst hw3'
      rw [if_neg (by decide)]
      go_wp2
      go_ret
      exact ⟨_, by rw [HV.out.1, HV.out.2, ByteArray.toList_eq]; rfl, rfl, hb2⟩
    · go_wp2_with fail
      refine (left2 (w.heap.size + 1) a b true w2 ha hb).mono ?_
      rintro e w3 ⟨rfl, hw3⟩
      have hw3' := hw3.symm
      subst hw3'
      rw [if_pos rfl]
      go_wp2
      go_ret
      exact ⟨_, by rw [HV.out.1, HV.out.2, ByteArray.toList_eq]; rfl, rfl, hb2⟩
  · rw [if_pos rfl]
    cases va
    · rw [if_neg (by decide)]
      go_wp2_with fail
      refine (left1 (w.heap.size + 1) a w2 ha).mono ?_
      rintro e w3 ⟨rfl, hw3⟩
      have hw3' := hw3.symm
      subst hw3'
      go_wp2
      go_ret
      exact ⟨_, by rw [HV.out.1, HV.out.2, ByteArray.toList_eq]; rfl, rfl, hb2⟩
    · rw [if_pos rfl]
      go_wp2_with fail
      refine (left0 (w.heap.size + 1) w2).mono ?_
      rintro e w3 ⟨rfl, hw3⟩
      have hw3' := hw3.symm
      subst hw3'
      go_wp2
      go_ret
      exact ⟨_, by rw [HV.out.1, HV.out.2, ByteArray.toList_eq]; rfl, rfl, hb2⟩
end Go.Proofs.YtnjicfhmheaccaaDoor
