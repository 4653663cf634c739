/- strconv.FormatInt at a byte and base 16 answers its one or two digits; nothing that was there is changed. Condition: the table of math/bits holds 4 at its place 15. -/
import Derived.Test.YtnjicfhmheaccaaDoorRows
import Derived.WalkKit
import Derived.WalkSpells
import Derived.WalkSmall
import Derived.Laws.IdiomStrings
import Derived.Laws.BitsAllLaws
namespace Go.Proofs.YtnjicfhmheaccaaDoor
open Go.RowKit

theorem tz16 (w : World) (hT : w.cell? ⟨8, 15, none⟩ = some (.int .u8 4)) :
    Calls Tryd.prog 125 #[.int .u64 16] w fun e w' => e = .returned (.int .i64 4) ∧ w' = w := by
  have h1 : bits BinOp.and IntKind.u64 16 (IntKind.u64.wrap (-16)) = 16 := by decide
  have h2 : IntKind.u64.wrap (16 * 285870213051353865) = 4573923408821661840 := by decide
  have h3 : IntKind.u64.wrap 4573923408821661840 = 4573923408821661840 := by decide
  go_enter Tryd.func125, Tryd.ntmps125
  go_wp2
  go_ret
  exact ⟨rfl, rfl⟩

theorem tz16u (w : World) (hT : w.cell? ⟨8, 15, none⟩ = some (.int .u8 4)) :
    Calls Tryd.prog 117 #[.int .u64 16] w fun e w' => e = .returned (.int .i64 4) ∧ w' = w := by
  go_enter Tryd.func117, Tryd.ntmps117
  go_wp2_with (go_at_call 125; refine (tz16 _ hT).mono ?_; rintro e w' ⟨rfl, rfl⟩)
  go_ret
  exact ⟨rfl, rfl⟩

theorem pow2_16 (w : World) : Calls Tryd.prog 116 #[.int .i64 16] w fun e w' => e = .returned (.bool true) ∧ w' = w := by
  have h1 : bits BinOp.and IntKind.i64 16 15 = 0 := by decide
  go_enter Tryd.func116, Tryd.ntmps116
  go_wp2
  go_ret
  exact ⟨rfl, rfl⟩

/-- The digit of a number below 16, with small letters. -/
def lowHex (u : Nat) : UInt8 := if u < 10 then UInt8.ofNat (48 + u) else UInt8.ofNat (87 + u)
def digB : ByteArray := ⟨#[48, 49, 50, 51, 52, 53, 54, 55, 56, 57, 97, 98, 99, 100, 101, 102, 103, 104, 105, 106, 107, 108, 109, 110, 111, 112, 113, 114, 115, 116, 117, 118, 119, 120, 121, 122]⟩
theorem digB_at : ∀ u : Fin 16, digB[u.val]'(Nat.lt_trans u.isLt (by decide)) = lowHex u.val := by decide

theorem z65 : Tryd.zeroCells136.size = 65 := by kernel_rfl

theorem conv1 (w : World) (d : UInt8) : (convert 22 9 (.slice (some ⟨w.heap.size, 64, none⟩) 1 1)).run Tryd.prog (w.alloc (.cells (Tryd.zeroCells136.setIfInBounds 64 (.int .u8 (d.toNat : Int))) 136)) =
    .ok (.string ⟨#[d]⟩) (w.alloc (.cells (Tryd.zeroCells136.setIfInBounds 64 (.int .u8 (d.toNat : Int))) 136)) := by
  refine run_convert_bytes_back (P := Tryd.prog) _ 22 9 5 ⟨w.heap.size, 64, none⟩ 1 [d] Tryd.underlying22 Tryd.underlying5 Tryd.underlying9 (fun j hj => ?_)
  obtain rfl : j = 0 := by simpa using hj
  rw [Addr.add_lit, World.cell?_alloc_at _ _ _ _ rfl]
  have := z65
  simp [this]

theorem conv2 (w : World) (d c : UInt8) : (convert 22 9 (.slice (some ⟨w.heap.size, 63, none⟩) 2 2)).run Tryd.prog (w.alloc (.cells ((Tryd.zeroCells136.setIfInBounds 64 (.int .u8 (d.toNat : Int))).setIfInBounds 63 (.int .u8 (c.toNat : Int))) 136)) =
    .ok (.string ⟨#[c, d]⟩) (w.alloc (.cells ((Tryd.zeroCells136.setIfInBounds 64 (.int .u8 (d.toNat : Int))).setIfInBounds 63 (.int .u8 (c.toNat : Int))) 136)) := by
  refine run_convert_bytes_back (P := Tryd.prog) _ 22 9 5 ⟨w.heap.size, 63, none⟩ 2 [c, d] Tryd.underlying22 Tryd.underlying5 Tryd.underlying9 (fun j hj => ?_)
  have := z65
  rw [Addr.add_lit, World.cell?_alloc_at _ _ _ _ rfl]
  rcases (by simpa using hj : j < 2) with hj'
  match j, hj' with
  | 0, _ => simp [this]
  | 1, _ => simp [this]

set_option maxHeartbeats 1000000 in
set_option maxRecDepth 100000 in
theorem bits16_one (u : Nat) (hu : u < 16) (w : World) (hT : w.cell? ⟨8, 15, none⟩ = some (.int .u8 4)) :
    Calls Tryd.prog 99 #[.slice none 0 0, .int .u64 (u : Int), .int .i64 16, .bool false, .bool false] w fun e w' => e = .returned (.tuple #[.slice none 0 0, .string ⟨#[lowHex u]⟩]) ∧ Below w.heap.size w w' := by
  have hg : 8 < w.heap.size := World.block_lt_of_cell? w _ hT
  have hcv := conv1 w
  go_enter Tryd.func99, Tryd.ntmps99
  go_wp2_with (first | (go_at_call 116; refine (pow2_16 _).mono ?_; rintro e w' ⟨rfl, hw'⟩; have hw'' := hw'.symm; subst hw'') | (go_at_call 117; refine (tz16u _ (by simp [hg, hT, World.cell?_alloc_past])).mono ?_; rintro e w' ⟨rfl, hw'⟩; have hw'' := hw'.symm; subst hw''))
  refine wp_loop_rounds 1 ?_
  rw [rounds_succ]
  go_wp2
  go_ret2
  exact ⟨by rw [← digB_at ⟨u, hu⟩]; rfl, (Below.refl _ _).alloc (Nat.le_refl _) _⟩

set_option maxHeartbeats 1000000 in
set_option maxRecDepth 100000 in
theorem bits16_two (u : Nat) (hu : 16 ≤ u) (hu2 : u < 256) (w : World) (hT : w.cell? ⟨8, 15, none⟩ = some (.int .u8 4)) :
    Calls Tryd.prog 99 #[.slice none 0 0, .int .u64 (u : Int), .int .i64 16, .bool false, .bool false] w fun e w' => e = .returned (.tuple #[.slice none 0 0, .string ⟨#[lowHex (u / 16), lowHex (u % 16)]⟩]) ∧ Below w.heap.size w w' := by
  have hg : 8 < w.heap.size := World.block_lt_of_cell? w _ hT
  have hcv := conv2 w
  obtain ⟨lo, hlo⟩ : ∃ lo, lo = u % 16 := ⟨_, rfl⟩
  have hand : bits BinOp.and IntKind.u64 (u : Int) 15 = (lo : Int) := by
    have e : (15 : Int) = ((15 : Nat) : Int) := rfl
    rw [e, u64_and_nat u 15 (by omega) (by omega), hlo, show (15 : Nat) = 2 ^ 4 - 1 from rfl, Nat.and_two_pow_sub_one_eq_mod]
  have hlo16 : lo < 16 := by omega
  obtain ⟨hh, hhi⟩ : ∃ hh : Nat, hh = u / 16 := ⟨_, rfl⟩
  have hsh : ((u : Int) / 16) = (hh : Int) := by omega
  have hh16 : hh < 16 := by omega
  rw [← hlo, ← hhi]
  clear hlo hhi
  go_enter Tryd.func99, Tryd.ntmps99
  go_wp2_with (first | (go_at_call 116; refine (pow2_16 _).mono ?_; rintro e w' ⟨rfl, hw'⟩; have hw'' := hw'.symm; subst hw'') | (go_at_call 117; refine (tz16u _ (by simp [hg, hT, World.cell?_alloc_past])).mono ?_; rintro e w' ⟨rfl, hw'⟩; have hw'' := hw'.symm; subst hw''))
  refine wp_loop_rounds 2 ?_
  rw [rounds_succ]
  go_wp2
  rw [rounds_succ]
  go_wp2
  go_ret2
  exact ⟨by rw [← digB_at ⟨lo, hlo16⟩, ← digB_at ⟨hh, hh16⟩]; rfl, (Below.refl _ _).alloc (Nat.le_refl _) _⟩

/-- The digits of a byte, with small letters. -/
def hexLow (u : Nat) : List UInt8 := if u < 16 then [lowHex u] else [lowHex (u / 16), lowHex (u % 16)]

theorem format16 (u : Nat) (hu : u < 256) (w : World) (hT : w.cell? ⟨8, 15, none⟩ = some (.int .u8 4)) :
    Calls Tryd.prog 73 #[.int .i64 (u : Int), .int .i64 16] w fun e w' => e = .returned (.string ⟨(hexLow u).toArray⟩) ∧ Below w.heap.size w w' := by
  by_cases h : u < 16
  · go_enter Tryd.func73, Tryd.ntmps73
    go_wp2_with fail
    refine (bits16_one u h w hT).mono ?_
    rintro e w' ⟨rfl, hb⟩
    go_wp2
    go_ret
    exact ⟨by rw [hexLow, if_pos h]; rfl, hb⟩
  · go_enter Tryd.func73, Tryd.ntmps73
    go_wp2_with fail
    refine (bits16_two u (by omega) hu w hT).mono ?_
    rintro e w' ⟨rfl, hb⟩
    go_wp2
    go_ret
    exact ⟨by rw [hexLow, if_neg h]; rfl, hb⟩

theorem formatInt16 (u : Nat) (hu : u < 256) (w : World) (hT : w.cell? ⟨8, 15, none⟩ = some (.int .u8 4)) :
    Calls Tryd.prog 43 #[.int .i64 (u : Int), .int .i64 16] w fun e w' => e = .returned (.string ⟨(hexLow u).toArray⟩) ∧ Below w.heap.size w w' := by
  go_enter Tryd.func43, Tryd.ntmps43
  go_wp2_with fail
  refine (format16 u hu w hT).mono ?_
  rintro e w' ⟨rfl, hb⟩
  go_wp2
  go_ret
  exact ⟨rfl, hb⟩
end Go.Proofs.YtnjicfhmheaccaaDoor
