
import Derived.Test.YtlndhdimamnnlaaGreatDoorXmimesays15
import Derived.Test.YtlndhdimamnnlaaGreatDoorXmimesays28
import Derived.Lib.IndexMore
import Derived.Lib.Join
namespace Go.Proofs.YtlndhdimamnnlaaGreatDoor
open Go.RowKit
theorem tz16 (w : World) (hT : w.cell? ⟨11, 15, none⟩ = some (.int .u8 4)) :
  Calls Tryz.prog 233 #[.int .u64 16] w fun e w' => e = .returned (.int .i64 4) ∧ w' = w := by
 have h1 : bits BinOp.and IntKind.u64 16 (IntKind.u64.wrap (-16)) = 16 := by decide
 have h2 : IntKind.u64.wrap (16 * 285870213051353865) = 4573923408821661840 := by decide
 have h3 : IntKind.u64.wrap 4573923408821661840 = 4573923408821661840 := by decide
 go_enter Tryz.func233, Tryz.ntmps233
 go_wp2
 go_ret
 exact ⟨rfl, rfl⟩
theorem tz16u (w : World) (hT : w.cell? ⟨11, 15, none⟩ = some (.int .u8 4)) :
  Calls Tryz.prog 218 #[.int .u64 16] w fun e w' => e = .returned (.int .i64 4) ∧ w' = w := by
 go_enter Tryz.func218, Tryz.ntmps218
 go_wp2_with (go_at_call 233; refine (tz16 _ hT).mono ?_; rintro e w' ⟨rfl, rfl⟩)
 go_ret
 exact ⟨rfl, rfl⟩
theorem pow2_16 (w : World) : Calls Tryz.prog 217 #[.int .i64 16] w fun e w' => e = .returned (.bool true) ∧ w' = w := by
 have h1 : bits BinOp.and IntKind.i64 16 15 = 0 := by decide
 go_enter Tryz.func217, Tryz.ntmps217
 go_wp2
 go_ret
 exact ⟨rfl, rfl⟩
def lowHex (u : Nat) : UInt8 := if u < 10 then UInt8.ofNat (48 + u) else UInt8.ofNat (87 + u)
def digB : ByteArray := ⟨#[48, 49, 50, 51, 52, 53, 54, 55, 56, 57, 97, 98, 99, 100, 101, 102, 103, 104, 105, 106, 107, 108, 109, 110, 111, 112, 113, 114, 115, 116, 117, 118, 119, 120, 121, 122]⟩
theorem digB_at : ∀ u : Fin 16, digB[u.val]'(Nat.lt_trans u.isLt (by decide)) = lowHex u.val := by decide
theorem z65 : Tryz.zeroCells227.size = 65 := by kernel_rfl
theorem conv1 (w : World) (d : UInt8) : (convert 22 9 (.slice (some ⟨w.heap.size, 64, none⟩) 1 1)).run Tryz.prog (w.alloc (.cells (Tryz.zeroCells227.setIfInBounds 64 (.int .u8 (d.toNat : Int))) 227)) =
  .ok (.string ⟨#[d]⟩) (w.alloc (.cells (Tryz.zeroCells227.setIfInBounds 64 (.int .u8 (d.toNat : Int))) 227)) := by
 refine run_convert_bytes_back (P := Tryz.prog) _ 22 9 5 ⟨w.heap.size, 64, none⟩ 1 [d] Tryz.underlying22 Tryz.underlying5 Tryz.underlying9 (fun j hj => ?_)
 obtain rfl : j = 0 := by simpa using hj
 rw [Addr.add_lit, World.cell?_alloc_at _ _ _ _ rfl]
 have := z65
 simp [this]
theorem conv2 (w : World) (d c : UInt8) : (convert 22 9 (.slice (some ⟨w.heap.size, 63, none⟩) 2 2)).run Tryz.prog (w.alloc (.cells ((Tryz.zeroCells227.setIfInBounds 64 (.int .u8 (d.toNat : Int))).setIfInBounds 63 (.int .u8 (c.toNat : Int))) 227)) =
  .ok (.string ⟨#[c, d]⟩) (w.alloc (.cells ((Tryz.zeroCells227.setIfInBounds 64 (.int .u8 (d.toNat : Int))).setIfInBounds 63 (.int .u8 (c.toNat : Int))) 227)) := by
 refine run_convert_bytes_back (P := Tryz.prog) _ 22 9 5 ⟨w.heap.size, 63, none⟩ 2 [c, d] Tryz.underlying22 Tryz.underlying5 Tryz.underlying9 (fun j hj => ?_)
 have := z65
 rw [Addr.add_lit, World.cell?_alloc_at _ _ _ _ rfl]
 rcases (by simpa using hj : j < 2) with hj'
 match j, hj' with
 | 0, _ => simp [this]
 | 1, _ => simp [this]
set_option maxHeartbeats 1000000 in
set_option maxRecDepth 100000 in
theorem bits16_one (u : Nat) (hu : u < 16) (w : World) (hT : w.cell? ⟨11, 15, none⟩ = some (.int .u8 4)) :
  Calls Tryz.prog 177 #[.slice none 0 0, .int .u64 (u : Int), .int .i64 16, .bool false, .bool false] w fun e w' => e = .returned (.tuple #[.slice none 0 0, .string ⟨#[lowHex u]⟩]) ∧ Below w.heap.size w w' := by
 have hg : 11 < w.heap.size := World.block_lt_of_cell? w _ hT
 have hcv := conv1 w
 go_enter Tryz.func177, Tryz.ntmps177
 go_wp2_with (first | (go_at_call 217; refine (pow2_16 _).mono ?_; rintro e w' ⟨rfl, hw'⟩; have hw'' := hw'.symm; subst hw'') | (go_at_call 218; refine (tz16u _ (by simp [hg, hT, World.cell?_alloc_past])).mono ?_; rintro e w' ⟨rfl, hw'⟩; have hw'' := hw'.symm; subst hw''))
 refine wp_loop_rounds 1 ?_
 rw [rounds_succ]
 go_wp2
 go_ret2
 exact ⟨by rw [← digB_at ⟨u, hu⟩]; rfl, (Below.refl _ _).alloc (Nat.le_refl _) _⟩
set_option maxHeartbeats 1000000 in
set_option maxRecDepth 100000 in
theorem bits16_two (u : Nat) (hu : 16 ≤ u) (hu2 : u < 256) (w : World) (hT : w.cell? ⟨11, 15, none⟩ = some (.int .u8 4)) :
  Calls Tryz.prog 177 #[.slice none 0 0, .int .u64 (u : Int), .int .i64 16, .bool false, .bool false] w fun e w' => e = .returned (.tuple #[.slice none 0 0, .string ⟨#[lowHex (u / 16), lowHex (u % 16)]⟩]) ∧ Below w.heap.size w w' := by
 have hg : 11 < w.heap.size := World.block_lt_of_cell? w _ hT
 have hcv := conv2 w
 obtain ⟨lo, hlo⟩ : ∃ lo, lo = u % 16 := ⟨_, rfl⟩
 have hand : bits BinOp.and IntKind.u64 (u : Int) 15 = (lo : Int) := by
  have e : (15 : Int) = ((15 : Nat) : Int) := rfl
  rw [e, u64_and_nat u 15 (by omega) (by omega), hlo, show (15 : Nat) = 2 ^ 4 - 1 from rfl, Nat.and_two_pow_sub_one_eq_mod]
 have hlo16 : lo < 16 := by omega
 obtain ⟨hh, hhi⟩ : ∃ hh : Nat, hh = u / 16 := ⟨_, rfl⟩
 have hsh : ((u : Int) / 16) = (hh : Int) := by omega
 have hh16 : hh < 16 := by omega
 rw [← hlo, ← hhi]
 clear hlo hhi
 go_enter Tryz.func177, Tryz.ntmps177
 go_wp2_with (first | (go_at_call 217; refine (pow2_16 _).mono ?_; rintro e w' ⟨rfl, hw'⟩; have hw'' := hw'.symm; subst hw'') | (go_at_call 218; refine (tz16u _ (by simp [hg, hT, World.cell?_alloc_past])).mono ?_; rintro e w' ⟨rfl, hw'⟩; have hw'' := hw'.symm; subst hw''))
 refine wp_loop_rounds 2 ?_
 rw [rounds_succ]
 go_wp2
 rw [rounds_succ]
 go_wp2
 go_ret2
 exact ⟨by rw [← digB_at ⟨lo, hlo16⟩, ← digB_at ⟨hh, hh16⟩]; rfl, (Below.refl _ _).alloc (Nat.le_refl _) _⟩
def hexLow (u : Nat) : List UInt8 := if u < 16 then [lowHex u] else [lowHex (u / 16), lowHex (u % 16)]
theorem format16 (u : Nat) (hu : u < 256) (w : World) (hT : w.cell? ⟨11, 15, none⟩ = some (.int .u8 4)) :
  Calls Tryz.prog 125 #[.int .i64 (u : Int), .int .i64 16] w fun e w' => e = .returned (.string ⟨(hexLow u).toArray⟩) ∧ Below w.heap.size w w' := by
 by_cases h : u < 16
 ·go_enter Tryz.func125, Tryz.ntmps125
  go_wp2_with fail
  refine (bits16_one u h w hT).mono ?_
  rintro e w' ⟨rfl, hb⟩
  go_wp2
  go_ret
  exact ⟨by rw [hexLow, if_pos h]; rfl, hb⟩
 ·go_enter Tryz.func125, Tryz.ntmps125
  go_wp2_with fail
  refine (bits16_two u (by omega) hu w hT).mono ?_
  rintro e w' ⟨rfl, hb⟩
  go_wp2
  go_ret
  exact ⟨by rw [hexLow, if_neg h]; rfl, hb⟩
theorem formatInt16 (u : Nat) (hu : u < 256) (w : World) (hT : w.cell? ⟨11, 15, none⟩ = some (.int .u8 4)) :
  Calls Tryz.prog 76 #[.int .i64 (u : Int), .int .i64 16] w fun e w' => e = .returned (.string ⟨(hexLow u).toArray⟩) ∧ Below w.heap.size w w' := by
 go_enter Tryz.func76, Tryz.ntmps76
 go_wp2_with fail
 refine (format16 u hu w hT).mono ?_
 rintro e w' ⟨rfl, hb⟩
 go_wp2
 go_ret
 exact ⟨rfl, hb⟩
end Go.Proofs.YtlndhdimamnnlaaGreatDoor



namespace Go.Proofs.YtlndhdimamnnlaaGreatDoor
open Go.RowKit
theorem up_low : ∀ u : Fin 16, Lib.upperB (lowHex u.val) = upHex u.val ∧ (lowHex u.val).toNat < 128 := by decide
theorem str_eq {s : ByteArray} {l : List UInt8} (h : s.data.toList = l) : Value.string s = .string ⟨l.toArray⟩ := by
 subst h
 rfl
theorem toUpper_hex (u : Nat) (hu : u < 256) (w : World) :
  Calls Tryz.prog 75 #[.string ⟨(hexLow u).toArray⟩] w fun e w' => e = .returned (.string ⟨(if u < 16 then [upHex u] else [upHex (u / 16), upHex (u % 16)]).toArray⟩) ∧ Below w.heap.size w w' := by
 have hl : (hexLow u).length ≤ 2 := by unfold hexLow; split <;> simp
 have hasc : ∀ c ∈ hexLow u, c.toNat < 128 := by
  intro c hc
  unfold hexLow at hc
  split at hc
  ·simp at hc; subst hc; exact (up_low ⟨u, by omega⟩).2
  ·simp at hc
   rcases hc with rfl | rfl
   ·exact (up_low ⟨u / 16, by omega⟩).2
   ·exact (up_low ⟨u % 16, by omega⟩).2
 refine (Tryz.strings_ToUpper_ascii ⟨(hexLow u).toArray⟩ w (by show (hexLow u).toArray.size ≤ _; rw [List.size_toArray]; omega) (fun j b hb => hasc b (List.mem_of_getElem? hb))).mono ?_
 rintro e w' ⟨rfl, hb⟩
 refine ⟨?_, hb⟩
 have e : Lib.toUpperA (hexLow u) = if u < 16 then [upHex u] else [upHex (u / 16), upHex (u % 16)] := by
  unfold hexLow Lib.toUpperA
  split
  ·simp [(up_low ⟨u, by omega⟩).1]
  ·have h1 := (up_low ⟨u / 16, by omega⟩).1
   have h2 := (up_low ⟨u % 16, by omega⟩).1
   simp only at h1 h2
   simp [h1, h2]
 rw [show (ByteArray.mk (hexLow u).toArray).data.toList = hexLow u from rfl, e]
theorem conv_one (w : World) (d : UInt8) : (convert 22 9 (.slice (some ⟨w.heap.size, 0, none⟩) 1 1)).run Tryz.prog (w.alloc (.cells #[.int .u8 (d.toNat : Int)] 5)) =
  .ok (.string ⟨#[d]⟩) (w.alloc (.cells #[.int .u8 (d.toNat : Int)] 5)) := by
 refine run_convert_bytes_back (P := Tryz.prog) _ 22 9 5 ⟨w.heap.size, 0, none⟩ 1 [d] Tryz.underlying22 Tryz.underlying5 Tryz.underlying9 (fun j hj => ?_)
 obtain rfl : j = 0 := by simpa using hj
 rw [Addr.add_lit, World.cell?_alloc_at _ _ _ _ rfl]
 simp
theorem qtext_nil (p : Option Addr) (c : Nat) (w : World) :
  Calls Tryz.prog 40 #[.slice p 0 c] w fun e w' => e = .returned (.string ⟨#[]⟩) ∧ w' = w := by
 go_enter Tryz.func40, Tryz.ntmps40
 go_wp2
 refine wp_loop_rounds 1 ?_
 rw [rounds_succ]
 go_wp2
 go_ret
 exact ⟨rfl, rfl⟩
set_option maxHeartbeats 4000000 in
set_option maxRecDepth 100000 in
theorem qtext_some (b o c : Nat) (L : List UInt8) (w : World) (h0 : L ≠ []) (hn : L.length ≤ 4000) (hT : w.cell? ⟨11, 15, none⟩ = some (.int .u8 4))
  (hc : ∀ i, i < L.length → w.cell? ⟨b, o + i, none⟩ = some (.int .u8 ((L.getD i 0).toNat : Int))) :
  Calls Tryz.prog 40 #[.slice (some ⟨b, o, none⟩) L.length c] w fun e w' => e = .returned (.string ⟨(encQ L).toArray⟩) ∧ Below w.heap.size w w' := by
 obtain ⟨n, hL⟩ : ∃ n, n = L.length := ⟨_, rfl⟩
 rw [← hL] at hn hc ⊢
 have h1 : 1 ≤ n := by rw [hL]; exact List.length_pos_iff.2 h0
 have hbB : b < w.heap.size := World.block_lt_of_cell? w _ (hc 0 (by omega))
 have htB : 11 < w.heap.size := World.block_lt_of_cell? w _ hT
 have HL : Hid (n = L.length) := hL
 clear hL
 go_enter Tryz.func40, Tryz.ntmps40
 go_wp2
 go_loopw [3, 4, 10] (fun ov lv iv wr => ∃ k : Nat, k ≤ n ∧ iv = .int .i64 k ∧ ov = .string ⟨(qst L k).1.toArray⟩ ∧ lv = .string ⟨(qst L k).2.toArray⟩ ∧ Below w.heap.size w wr) (fun _ _ iv _ => n - (intOf iv).toNat)
 case atStart => exact ⟨0, Nat.zero_le _, rfl, rfl, rfl, Below.refl _ _⟩
 case round =>
  obtain ⟨k, hk, rfl, rfl, rfl, hbel⟩ := hrel
  obtain ⟨hq1, hq2⟩ := qst_length L k
  have HQ : Hid (qst L (k + 1) = qstep (qst L k) (L.getD k 0)) := rfl
  by_cases hlt : k < n
  ·have hcell : wr.cell? ⟨b, o + k, none⟩ = some (.int .u8 ((L.getD k 0).toNat : Int)) := (hbel.cell (p := ⟨b, o + k, none⟩) hbB).trans (hc k hlt)
   clear hc
   generalize hst : qst L k = st at *
   obtain ⟨O, M⟩ := st
   simp only at hq1 hq2
   clear hst
   generalize L.getD k 0 = d at *
   have hcv := conv_one wr d
   have hd := d.toNat_lt
   have hsz := hbel.size
   by_cases hp : plainQ d = true
   ·have hq : q1 d = [d] := by rw [q1, if_pos hp]
    have hpp : 33 ≤ d.toNat ∧ d.toNat ≤ 126 ∧ d.toNat ≠ 61 := by simpa [plainQ] using hp
    have e1 : decide ((d.toNat : Int) < 33) = false := by simp; omega
    have e2 : decide ((126 : Int) < (d.toNat : Int)) = false := by simp; omega
    have e3 : ((d.toNat : Int) == 61) = false := by rw [beq_eq_false_iff_ne]; omega
    by_cases hw : 75 < M.length + 1
    ·have HS : Hid (qst L (k + 1) = (O ++ M ++ [61, 13, 10], [d])) := by unfold Hid; rw [HQ.out, qstep, if_pos (by rw [hq]; simpa using hw), hq]
     clear HQ hp hq hpp
     go_wp2
     go_roundw
     case rel => exact ⟨k + 1, by omega, by go_num, by rw [HS.out]; exact str_eq (by simp), by rw [HS.out]; exact str_eq (by simp), hbel.alloc hsz _⟩
     case measure => simp [intOf]; omega
    ·have HS : Hid (qst L (k + 1) = (O, M ++ [d])) := by unfold Hid; rw [HQ.out, qstep, if_neg (by rw [hq]; simpa using hw), hq]
     clear HQ hp hq hpp
     go_wp2
     go_roundw
     case rel => exact ⟨k + 1, by omega, by go_num, by rw [HS.out], by rw [HS.out]; exact str_eq (by simp), hbel.alloc hsz _⟩
     case measure => simp [intOf]; omega
   ·have hq : q1 d = [61, upHex (d.toNat / 16), upHex (d.toNat % 16)] := by rw [q1, if_neg hp]
    have hpp : d.toNat < 33 ∨ 126 < d.toNat ∨ d.toNat = 61 := by
     have : ¬ (33 ≤ d.toNat ∧ d.toNat ≤ 126 ∧ d.toNat ≠ 61) := by simpa [plainQ] using hp
     omega
    by_cases h16 : d.toNat < 16
    ·have e1 : decide ((d.toNat : Int) < 33) = true := by simp; omega
     clear hpp
     have hT1 : (wr.alloc (.cells #[.int .u8 (d.toNat : Int)] 5)).cell? ⟨11, 15, none⟩ = some (.int .u8 4) := by
      rw [World.cell?_alloc_past _ _ _ (by omega)]
      exact (hbel.cell (p := ⟨11, 15, none⟩) htB).trans hT
     go_wp2_with fail
     refine (formatInt16 d.toNat (by omega) _ hT1).mono ?_
     rintro e w1 ⟨rfl, hb1⟩
     have hbw1 : Below w.heap.size w w1 := (hbel.alloc hsz _).trans (hb1.mono (by simp; omega))
     clear hb1 hT1
     go_wp2_with fail
     refine (toUpper_hex d.toNat (by omega) _).mono ?_
     rintro e w2 ⟨rfl, hb2⟩
     have hbw2 : Below w.heap.size w w2 := hbw1.trans (hb2.mono hbw1.size)
     clear hb2 hbw1
     rw [if_pos h16]
     have hsm : Hid (upHex (d.toNat / 16) = 48 ∧ upHex (d.toNat % 16) = upHex d.toNat) := ⟨by rw [show d.toNat / 16 = 0 from by omega]; rfl, by rw [show d.toNat % 16 = d.toNat from by omega]⟩
     generalize upHex d.toNat = H at *
     by_cases hw : 75 < M.length + 3
     ·have HS : Hid (qst L (k + 1) = (O ++ M ++ [61, 13, 10], [61, upHex (d.toNat / 16), upHex (d.toNat % 16)])) := by unfold Hid; rw [HQ.out, qstep, if_pos (by rw [hq]; simpa using hw), hq]
      clear HQ hp hq
      rw [hsm.out.1, hsm.out.2] at HS
      go_wp2
      go_roundw
      case rel => exact ⟨k + 1, by omega, by go_num, by rw [HS.out]; exact str_eq (by simp), by rw [HS.out]; exact str_eq (by simp), hbw2⟩
      case measure => simp [intOf]; omega
     ·have HS : Hid (qst L (k + 1) = (O, M ++ [61, upHex (d.toNat / 16), upHex (d.toNat % 16)])) := by unfold Hid; rw [HQ.out, qstep, if_neg (by rw [hq]; simpa using hw), hq]
      clear HQ hp hq
      rw [hsm.out.1, hsm.out.2] at HS
      go_wp2
      go_roundw
      case rel => exact ⟨k + 1, by omega, by go_num, by rw [HS.out], by rw [HS.out]; exact str_eq (by simp), hbw2⟩
      case measure => simp [intOf]; omega
    ·by_cases h33 : d.toNat < 33
     ·have e1 : decide ((d.toNat : Int) < 33) = true := by simp; omega
      clear hpp
      have hT1 : (wr.alloc (.cells #[.int .u8 (d.toNat : Int)] 5)).cell? ⟨11, 15, none⟩ = some (.int .u8 4) := by
       rw [World.cell?_alloc_past _ _ _ (by omega)]
       exact (hbel.cell (p := ⟨11, 15, none⟩) htB).trans hT
      go_wp2_with fail
      refine (formatInt16 d.toNat (by omega) _ hT1).mono ?_
      rintro e w1 ⟨rfl, hb1⟩
      have hbw1 : Below w.heap.size w w1 := (hbel.alloc hsz _).trans (hb1.mono (by simp; omega))
      clear hb1 hT1
      go_wp2_with fail
      refine (toUpper_hex d.toNat (by omega) _).mono ?_
      rintro e w2 ⟨rfl, hb2⟩
      have hbw2 : Below w.heap.size w w2 := hbw1.trans (hb2.mono hbw1.size)
      clear hb2 hbw1
      rw [if_neg h16]
      generalize upHex (d.toNat / 16) = H1 at *
      generalize upHex (d.toNat % 16) = H2 at *
      by_cases hw : 75 < M.length + 3
      ·have HS : Hid (qst L (k + 1) = (O ++ M ++ [61, 13, 10], [61, H1, H2])) := by unfold Hid; rw [HQ.out, qstep, if_pos (by rw [hq]; simpa using hw), hq]
       clear HQ hp hq
       go_wp2
       go_roundw
       case rel => exact ⟨k + 1, by omega, by go_num, by rw [HS.out]; exact str_eq (by simp), by rw [HS.out]; exact str_eq (by simp), hbw2⟩
       case measure => simp [intOf]; omega
      ·have HS : Hid (qst L (k + 1) = (O, M ++ [61, H1, H2])) := by unfold Hid; rw [HQ.out, qstep, if_neg (by rw [hq]; simpa using hw), hq]
       clear HQ hp hq
       go_wp2
       go_roundw
       case rel => exact ⟨k + 1, by omega, by go_num, by rw [HS.out], by rw [HS.out]; exact str_eq (by simp), hbw2⟩
       case measure => simp [intOf]; omega
     ·have e1 : decide ((d.toNat : Int) < 33) = false := by simp; omega
      by_cases h126 : 126 < d.toNat
      ·have e2 : decide ((126 : Int) < (d.toNat : Int)) = true := by simp; omega
       clear hpp
       have hT1 : (wr.alloc (.cells #[.int .u8 (d.toNat : Int)] 5)).cell? ⟨11, 15, none⟩ = some (.int .u8 4) := by
        rw [World.cell?_alloc_past _ _ _ (by omega)]
        exact (hbel.cell (p := ⟨11, 15, none⟩) htB).trans hT
       go_wp2_with fail
       refine (formatInt16 d.toNat (by omega) _ hT1).mono ?_
       rintro e w1 ⟨rfl, hb1⟩
       have hbw1 : Below w.heap.size w w1 := (hbel.alloc hsz _).trans (hb1.mono (by simp; omega))
       clear hb1 hT1
       go_wp2_with fail
       refine (toUpper_hex d.toNat (by omega) _).mono ?_
       rintro e w2 ⟨rfl, hb2⟩
       have hbw2 : Below w.heap.size w w2 := hbw1.trans (hb2.mono hbw1.size)
       clear hb2 hbw1
       rw [if_neg h16]
       generalize upHex (d.toNat / 16) = H1 at *
       generalize upHex (d.toNat % 16) = H2 at *
       by_cases hw : 75 < M.length + 3
       ·have HS : Hid (qst L (k + 1) = (O ++ M ++ [61, 13, 10], [61, H1, H2])) := by unfold Hid; rw [HQ.out, qstep, if_pos (by rw [hq]; simpa using hw), hq]
        clear HQ hp hq
        go_wp2
        go_roundw
        case rel => exact ⟨k + 1, by omega, by go_num, by rw [HS.out]; exact str_eq (by simp), by rw [HS.out]; exact str_eq (by simp), hbw2⟩
        case measure => simp [intOf]; omega
       ·have HS : Hid (qst L (k + 1) = (O, M ++ [61, H1, H2])) := by unfold Hid; rw [HQ.out, qstep, if_neg (by rw [hq]; simpa using hw), hq]
        clear HQ hp hq
        go_wp2
        go_roundw
        case rel => exact ⟨k + 1, by omega, by go_num, by rw [HS.out], by rw [HS.out]; exact str_eq (by simp), hbw2⟩
        case measure => simp [intOf]; omega
      ·have e2 : decide ((126 : Int) < (d.toNat : Int)) = false := by simp; omega
       have e3 : ((d.toNat : Int) == 61) = true := by rw [beq_iff_eq]; omega
       clear hpp
       have hT1 : (wr.alloc (.cells #[.int .u8 (d.toNat : Int)] 5)).cell? ⟨11, 15, none⟩ = some (.int .u8 4) := by
        rw [World.cell?_alloc_past _ _ _ (by omega)]
        exact (hbel.cell (p := ⟨11, 15, none⟩) htB).trans hT
       go_wp2_with fail
       refine (formatInt16 d.toNat (by omega) _ hT1).mono ?_
       rintro e w1 ⟨rfl, hb1⟩
       have hbw1 : Below w.heap.size w w1 := (hbel.alloc hsz _).trans (hb1.mono (by simp; omega))
       clear hb1 hT1
       go_wp2_with fail
       refine (toUpper_hex d.toNat (by omega) _).mono ?_
       rintro e w2 ⟨rfl, hb2⟩
       have hbw2 : Below w.heap.size w w2 := hbw1.trans (hb2.mono hbw1.size)
       clear hb2 hbw1
       rw [if_neg h16]
       generalize upHex (d.toNat / 16) = H1 at *
       generalize upHex (d.toNat % 16) = H2 at *
       by_cases hw : 75 < M.length + 3
       ·have HS : Hid (qst L (k + 1) = (O ++ M ++ [61, 13, 10], [61, H1, H2])) := by unfold Hid; rw [HQ.out, qstep, if_pos (by rw [hq]; simpa using hw), hq]
        clear HQ hp hq
        go_wp2
        go_roundw
        case rel => exact ⟨k + 1, by omega, by go_num, by rw [HS.out]; exact str_eq (by simp), by rw [HS.out]; exact str_eq (by simp), hbw2⟩
        case measure => simp [intOf]; omega
       ·have HS : Hid (qst L (k + 1) = (O, M ++ [61, H1, H2])) := by unfold Hid; rw [HQ.out, qstep, if_neg (by rw [hq]; simpa using hw), hq]
        clear HQ hp hq
        go_wp2
        go_roundw
        case rel => exact ⟨k + 1, by omega, by go_num, by rw [HS.out], by rw [HS.out]; exact str_eq (by simp), hbw2⟩
        case measure => simp [intOf]; omega
  ·obtain rfl : k = n := by omega
   have hfin : Hid (encQ L = (qst L k).1 ++ (qst L k).2) := by unfold Hid encQ; rw [← HL.out]
   clear hc
   go_wp2
   go_ret
   exact ⟨by rw [hfin.out]; exact congrArg Ending.returned (str_eq (by simp)), hbel⟩
theorem qtext_any (p : Option Addr) (n c : Nat) (L : List UInt8) (en : n = L.length) (w : World) (hn : L.length ≤ 4000) (hT : w.cell? ⟨11, 15, none⟩ = some (.int .u8 4)) (hr : BRow w p L) :
  Calls Tryz.prog 40 #[.slice p n c] w fun e w' => e = .returned (.string ⟨(encQ L).toArray⟩) ∧ Below w.heap.size w w' := by
 subst en
 by_cases h0 : L = []
 ·subst h0
  refine (qtext_nil p c w).mono ?_
  rintro e w' ⟨rfl, rfl⟩
  exact ⟨rfl, Below.refl _ _⟩
 ·obtain ⟨b, o, rfl, hc⟩ := hr h0
  exact qtext_some b o c L w h0 hn hT hc
end Go.Proofs.YtlndhdimamnnlaaGreatDoor



namespace Go.Proofs.YtlndhdimamnnlaaGreatDoor
theorem join_len (sep : List UInt8) (xs : List (List UInt8)) : (Lib.join xs sep).length ≤ sep.length * xs.length + Lib.lens xs := by
 cases xs with
 | nil => simp [Lib.join_nil]
 | cons x r =>
  rw [Lib.join_length]
  have := Nat.mul_le_mul_left sep.length (show r.length ≤ (x :: r).length by simp)
  omega
end Go.Proofs.YtlndhdimamnnlaaGreatDoor

