
import Derived.Test.YtlndhdimamnnlaaGreatDoorXmimesays13
import Derived.Lib.Walk
namespace Go.Proofs.YtlndhdimamnnlaaGreatDoor
open Go.RowKit
set_option maxRecDepth 100000
theorem write_nil (p : Option Addr) (c : Nat) (w : World) :
  Calls Tryz.prog 104 #[.slice p 0 c] w fun e w' => e = .returned (.tuple #[.string ⟨#[]⟩, .int .i64 0]) ∧ w' = w := by
 have hcv := convert_nil w
 go_enter Tryz.func104, Tryz.ntmps104
 go_wp2_with (go_at_call 154; refine (fours_any 0 _ rfl (by omega) _).mono ?_; rintro e w' ⟨rfl, rfl⟩)
 refine wp_loop_rounds 1 ?_
 rw [rounds_succ]
 go_wp2
 go_ret2
 exact ⟨rfl, rfl⟩
set_option maxHeartbeats 2000000 in
theorem write_some (b o c : Nat) (L : List UInt8) (w : World) (h0 : L ≠ []) (hn : L.length ≤ 4000) (hcap : L.length ≤ c)
  (hc : ∀ i, i < L.length → w.cell? ⟨b, o + i, none⟩ = some (.int .u8 ((L.getD i 0).toNat : Int))) :
  Calls Tryz.prog 104 #[.slice (some ⟨b, o, none⟩) L.length c] w fun e w' => e = .returned (.tuple #[.string ⟨(encode L).toArray⟩, .int .i64 0]) ∧ Below w.heap.size w w' := by
 obtain ⟨n, hL⟩ : ∃ n, n = L.length := ⟨_, rfl⟩
 rw [← hL] at hn hcap ⊢
 have h1 : 1 ≤ n := by rw [hL]; exact List.length_pos_iff.2 h0
 have hbB : b < w.heap.size := by
  have := hc 0 (by omega)
  exact World.block_lt_of_cell? w _ this
 have HL : Hid (n = L.length) := hL
 rw [← hL] at hc
 clear hL
 obtain ⟨i0, hi, hz0, hz1, hz2⟩ := info_parts info_u8
 obtain ⟨M, hM⟩ : ∃ M, M = (n + 2) / 3 * 4 := ⟨_, rfl⟩
 go_enter Tryz.func104, Tryz.ntmps104
 go_wp2_with (go_at_call 154; refine (fours_any n _ rfl (by omega) _).mono ?_; rintro e w' ⟨rfl, hw'⟩; have hw'' := hw'.symm; subst hw'')
 go_loopw [4, 14] (fun v i wr => ∃ k : Nat, k ≤ M ∧ i = .int .i64 k ∧ wr.ownsRow w.heap.size 5 1 v (text L k).length (bv (text L k)) ∧ Below w.heap.size w wr)
  (fun _ i _ => M - (intOf i).toNat)
 case atStart => exact ⟨0, Nat.zero_le _, rfl, World.ownsRow_nil _ _ _ _, Below.refl _ _⟩
 case round =>
  obtain ⟨k, hk, rfl, hown, hbel⟩ := hrel
  have hlen := text_length L k
  have hq : k / 4 * 3 < n ∨ M ≤ k := by omega
  have hsz := hbel.size
  by_cases hlt : k < M
  ·have hTl : (trio L k).length = min 3 (n - k / 4 * 3) := by unfold trio; rw [List.length_take, List.length_drop, HL.out]
   have hcT : ∀ w2, Below w.heap.size w w2 → ∀ i, i < (trio L k).length → w2.cell? ⟨b, o + k / 4 * 3 + i, none⟩ = some (.int .u8 (((trio L k).getD i 0).toNat : Int)) := by
    intro w2 hb2 i hi
    rw [hTl] at hi
    rw [hb2.cell (p := ⟨b, o + k / 4 * 3 + i, none⟩) hbB, Nat.add_assoc, hc (k / 4 * 3 + i) (by omega), trio_getD L k i (by omega)]
   clear hc
   by_cases hle : k / 4 * 3 + 3 ≤ n
   ·have _hh : True := trivial
    by_cases hs : 0 < k ∧ k % 76 = 0
    ·have HS : Hid (0 < k ∧ k % 76 = 0) := hs
     obtain ⟨hs1, hs2⟩ := hs
     clear hs2
     have hb : ((k : Int) % 76 == 0) = true := by have := HS.out; simp; omega
     go_wp2_with (at_builtin; refine wpList_append_own _ rfl (.tmp 24) (.tmp 25) 22 rfl w.heap.size 5 i0 (.int .u8 0) 1 1 Tryz.underlying22 hi hz0 hz1 hz2 rfl (by decide) _ _ _ rfl (hown.alloc _) ⟨wr.heap.size, 0, none⟩ 2 2 [.int .u8 13, .int .u8 10] rfl rfl ?d1 ?d2 ?d3 ?d4 ?d5 ?_)
     case d1 => exact cell_two _ _ _ _
     case d2 => intro u hu; simp at hu; rcases hu with rfl | rfl <;> rfl
     case d3 => unfold maxLen; omega
     case d4 => omega
     case d5 => simp; omega
     intro v1 w1 hown1 hgrow1 _
     have RB1 : Below w.heap.size w w1 := push_below hown hbel hsz hgrow1
     have hsz1 := RB1.size
     have hcT1 : ∀ i, i < (trio L k).length → w1.cell? ⟨b, o + k / 4 * 3 + i, none⟩ = some (.int .u8 (((trio L k).getD i 0).toNat : Int)) := hcT w1 RB1
     clear hgrow1 hown hcT
     go_wp2_with fail
     refine (letter_any b _ _ _ (trio L k) (k % 4) _ (by rw [hTl]; omega) (by omega) _ (by omega) (by rw [hTl]; omega) (by rw [hTl]; omega) hcT1).mono ?_
     rintro e w' ⟨rfl, hw'⟩
     have hw'' := hw'.symm
     subst hw''
     go_wp2_with (at_builtin; refine wpList_append_own _ rfl (.tmp 39) (.tmp 44) 22 rfl w.heap.size 5 i0 (.int .u8 0) 1 1 Tryz.underlying22 hi hz0 hz1 hz2 rfl (by decide) _ _ _ rfl (hown1.alloc _) ⟨w1.heap.size, 0, none⟩ 1 1 [.int .u8 ((encAt L k).toNat : Int)] rfl rfl ?c1 ?c2 ?c3 ?c4 ?c5 ?_)
     case c1 => exact cell_one _ _ _ rfl
     case c2 => intro u hu; simp at hu; subst hu; rfl
     case c3 => unfold maxLen; omega
     case c4 => omega
     case c5 => simp; omega
     intro v' w2 hown' hgrow _
     have R : w2.ownsRow w.heap.size 5 1 v' (text L (k + 1)).length (bv (text L (k + 1))) := by
      rw [text_sep L k HS.out]
      simpa [bv, Nat.add_assoc] using hown'
     have RB : Below w.heap.size w w2 := push_below hown1 RB1 hsz1 hgrow
     clear hown' hgrow hown1
     go_wp2
     go_roundw
     case rel => exact ⟨k + 1, by omega, by go_num, R, RB⟩
     case measure => simp [intOf]; omega
    ·by_cases hk0 : 0 < k
     ·have hb : ((k : Int) % 76 == 0) = false := by rw [beq_eq_false_iff_ne]; omega
      have HS : Hid (¬ (0 < k ∧ k % 76 = 0)) := hs
      clear hs
      have hcT := hcT wr hbel
      go_wp2_with fail
      refine (letter_any b _ _ _ (trio L k) (k % 4) _ (by rw [hTl]; omega) (by omega) _ (by omega) (by rw [hTl]; omega) (by rw [hTl]; omega) hcT).mono ?_
      rintro e w' ⟨rfl, hw'⟩
      have hw'' := hw'.symm
      subst hw''
      go_wp2_with (at_builtin; refine wpList_append_own _ rfl (.tmp 39) (.tmp 44) 22 rfl w.heap.size 5 i0 (.int .u8 0) 1 1 Tryz.underlying22 hi hz0 hz1 hz2 rfl (by decide) _ _ _ rfl (hown.alloc _) ⟨wr.heap.size, 0, none⟩ 1 1 [.int .u8 ((encAt L k).toNat : Int)] rfl rfl ?c1 ?c2 ?c3 ?c4 ?c5 ?_)
      case c1 => exact cell_one _ _ _ rfl
      case c2 => intro u hu; simp at hu; subst hu; rfl
      case c3 => unfold maxLen; omega
      case c4 => omega
      case c5 => simp; omega
      intro v' w1 hown' hgrow _
      have R : w1.ownsRow w.heap.size 5 1 v' (text L (k + 1)).length (bv (text L (k + 1))) := by
       rw [text_plain L k HS.out]
       simpa [bv] using hown'
      have RB : Below w.heap.size w w1 := push_below hown hbel hsz hgrow
      clear hown' hgrow hown
      go_wp2
      go_roundw
      case rel => exact ⟨k + 1, by omega, by go_num, R, RB⟩
      case measure => simp [intOf]; omega
     ·have hd : decide ((0 : Int) < (k : Int)) = false := by simp; omega
      have HS : Hid (¬ (0 < k ∧ k % 76 = 0)) := hs
      clear hs
      have hcT := hcT wr hbel
      go_wp2_with fail
      refine (letter_any b _ _ _ (trio L k) (k % 4) _ (by rw [hTl]; omega) (by omega) _ (by omega) (by rw [hTl]; omega) (by rw [hTl]; omega) hcT).mono ?_
      rintro e w' ⟨rfl, hw'⟩
      have hw'' := hw'.symm
      subst hw''
      go_wp2_with (at_builtin; refine wpList_append_own _ rfl (.tmp 39) (.tmp 44) 22 rfl w.heap.size 5 i0 (.int .u8 0) 1 1 Tryz.underlying22 hi hz0 hz1 hz2 rfl (by decide) _ _ _ rfl (hown.alloc _) ⟨wr.heap.size, 0, none⟩ 1 1 [.int .u8 ((encAt L k).toNat : Int)] rfl rfl ?c1 ?c2 ?c3 ?c4 ?c5 ?_)
      case c1 => exact cell_one _ _ _ rfl
      case c2 => intro u hu; simp at hu; subst hu; rfl
      case c3 => unfold maxLen; omega
      case c4 => omega
      case c5 => simp; omega
      intro v' w1 hown' hgrow _
      have R : w1.ownsRow w.heap.size 5 1 v' (text L (k + 1)).length (bv (text L (k + 1))) := by
       rw [text_plain L k HS.out]
       simpa [bv] using hown'
      have RB : Below w.heap.size w w1 := push_below hown hbel hsz hgrow
      clear hown' hgrow hown
      go_wp2
      go_roundw
      case rel => exact ⟨k + 1, by omega, by go_num, R, RB⟩
      case measure => simp [intOf]; omega
   ·have _hh : True := trivial
    by_cases hs : 0 < k ∧ k % 76 = 0
    ·have HS : Hid (0 < k ∧ k % 76 = 0) := hs
     obtain ⟨hs1, hs2⟩ := hs
     clear hs2
     have hb : ((k : Int) % 76 == 0) = true := by have := HS.out; simp; omega
     go_wp2_with (at_builtin; refine wpList_append_own _ rfl (.tmp 24) (.tmp 25) 22 rfl w.heap.size 5 i0 (.int .u8 0) 1 1 Tryz.underlying22 hi hz0 hz1 hz2 rfl (by decide) _ _ _ rfl (hown.alloc _) ⟨wr.heap.size, 0, none⟩ 2 2 [.int .u8 13, .int .u8 10] rfl rfl ?d1 ?d2 ?d3 ?d4 ?d5 ?_)
     case d1 => exact cell_two _ _ _ _
     case d2 => intro u hu; simp at hu; rcases hu with rfl | rfl <;> rfl
     case d3 => unfold maxLen; omega
     case d4 => omega
     case d5 => simp; omega
     intro v1 w1 hown1 hgrow1 _
     have RB1 : Below w.heap.size w w1 := push_below hown hbel hsz hgrow1
     have hsz1 := RB1.size
     have hcT1 : ∀ i, i < (trio L k).length → w1.cell? ⟨b, o + k / 4 * 3 + i, none⟩ = some (.int .u8 (((trio L k).getD i 0).toNat : Int)) := hcT w1 RB1
     clear hgrow1 hown hcT
     go_wp2_with fail
     refine (letter_any b _ _ _ (trio L k) (k % 4) _ (by rw [hTl]; omega) (by omega) _ (by omega) (by rw [hTl]; omega) (by rw [hTl]; omega) hcT1).mono ?_
     rintro e w' ⟨rfl, hw'⟩
     have hw'' := hw'.symm
     subst hw''
     go_wp2_with (at_builtin; refine wpList_append_own _ rfl (.tmp 39) (.tmp 44) 22 rfl w.heap.size 5 i0 (.int .u8 0) 1 1 Tryz.underlying22 hi hz0 hz1 hz2 rfl (by decide) _ _ _ rfl (hown1.alloc _) ⟨w1.heap.size, 0, none⟩ 1 1 [.int .u8 ((encAt L k).toNat : Int)] rfl rfl ?c1 ?c2 ?c3 ?c4 ?c5 ?_)
     case c1 => exact cell_one _ _ _ rfl
     case c2 => intro u hu; simp at hu; subst hu; rfl
     case c3 => unfold maxLen; omega
     case c4 => omega
     case c5 => simp; omega
     intro v' w2 hown' hgrow _
     have R : w2.ownsRow w.heap.size 5 1 v' (text L (k + 1)).length (bv (text L (k + 1))) := by
      rw [text_sep L k HS.out]
      simpa [bv, Nat.add_assoc] using hown'
     have RB : Below w.heap.size w w2 := push_below hown1 RB1 hsz1 hgrow
     clear hown' hgrow hown1
     go_wp2
     go_roundw
     case rel => exact ⟨k + 1, by omega, by go_num, R, RB⟩
     case measure => simp [intOf]; omega
    ·by_cases hk0 : 0 < k
     ·have hb : ((k : Int) % 76 == 0) = false := by rw [beq_eq_false_iff_ne]; omega
      have HS : Hid (¬ (0 < k ∧ k % 76 = 0)) := hs
      clear hs
      have hcT := hcT wr hbel
      go_wp2_with fail
      refine (letter_any b _ _ _ (trio L k) (k % 4) _ (by rw [hTl]; omega) (by omega) _ (by omega) (by rw [hTl]; omega) (by rw [hTl]; omega) hcT).mono ?_
      rintro e w' ⟨rfl, hw'⟩
      have hw'' := hw'.symm
      subst hw''
      go_wp2_with (at_builtin; refine wpList_append_own _ rfl (.tmp 39) (.tmp 44) 22 rfl w.heap.size 5 i0 (.int .u8 0) 1 1 Tryz.underlying22 hi hz0 hz1 hz2 rfl (by decide) _ _ _ rfl (hown.alloc _) ⟨wr.heap.size, 0, none⟩ 1 1 [.int .u8 ((encAt L k).toNat : Int)] rfl rfl ?c1 ?c2 ?c3 ?c4 ?c5 ?_)
      case c1 => exact cell_one _ _ _ rfl
      case c2 => intro u hu; simp at hu; subst hu; rfl
      case c3 => unfold maxLen; omega
      case c4 => omega
      case c5 => simp; omega
      intro v' w1 hown' hgrow _
      have R : w1.ownsRow w.heap.size 5 1 v' (text L (k + 1)).length (bv (text L (k + 1))) := by
       rw [text_plain L k HS.out]
       simpa [bv] using hown'
      have RB : Below w.heap.size w w1 := push_below hown hbel hsz hgrow
      clear hown' hgrow hown
      go_wp2
      go_roundw
      case rel => exact ⟨k + 1, by omega, by go_num, R, RB⟩
      case measure => simp [intOf]; omega
     ·have hd : decide ((0 : Int) < (k : Int)) = false := by simp; omega
      have HS : Hid (¬ (0 < k ∧ k % 76 = 0)) := hs
      clear hs
      have hcT := hcT wr hbel
      go_wp2_with fail
      refine (letter_any b _ _ _ (trio L k) (k % 4) _ (by rw [hTl]; omega) (by omega) _ (by omega) (by rw [hTl]; omega) (by rw [hTl]; omega) hcT).mono ?_
      rintro e w' ⟨rfl, hw'⟩
      have hw'' := hw'.symm
      subst hw''
      go_wp2_with (at_builtin; refine wpList_append_own _ rfl (.tmp 39) (.tmp 44) 22 rfl w.heap.size 5 i0 (.int .u8 0) 1 1 Tryz.underlying22 hi hz0 hz1 hz2 rfl (by decide) _ _ _ rfl (hown.alloc _) ⟨wr.heap.size, 0, none⟩ 1 1 [.int .u8 ((encAt L k).toNat : Int)] rfl rfl ?c1 ?c2 ?c3 ?c4 ?c5 ?_)
      case c1 => exact cell_one _ _ _ rfl
      case c2 => intro u hu; simp at hu; subst hu; rfl
      case c3 => unfold maxLen; omega
      case c4 => omega
      case c5 => simp; omega
      intro v' w1 hown' hgrow _
      have R : w1.ownsRow w.heap.size 5 1 v' (text L (k + 1)).length (bv (text L (k + 1))) := by
       rw [text_plain L k HS.out]
       simpa [bv] using hown'
      have RB : Below w.heap.size w w1 := push_below hown hbel hsz hgrow
      clear hown' hgrow hown
      go_wp2
      go_roundw
      case rel => exact ⟨k + 1, by omega, by go_num, R, RB⟩
      case measure => simp [intOf]; omega
  ·obtain rfl : k = M := by omega
   have hge := text_length_ge L k
   have hfin : Hid ((encode L) = text L k) := by unfold Hid encode; rw [← HL.out, ← hM]
   rcases hown.2 with ⟨_, h00⟩ | ⟨g, cap, cur, rfl, hg, hh, hnc, hcp, hcs, htake⟩
   ·omega
   ·have hcells : ∀ j (hj : j < (text L k).length), wr.cell? ((⟨g, 0, none⟩ : Addr).add j) = some (.int .u8 ((text L k)[j].toNat : Int)) := fun j hj => by
     rw [Addr.add_lit, Nat.zero_add, hown.cellAt j (by omega)]
     simp [bv, hj]
    have hcv := run_convert_bytes_back (P := Tryz.prog) wr 22 9 5 ⟨g, 0, none⟩ cap (text L k) Tryz.underlying22 Tryz.underlying5 Tryz.underlying9 hcells
    have hno : ((n : Int) + 2) / 3 * 4 ≤ (k : Int) := by omega
    clear hown hcells htake hh hc hM hlt
    go_wp2
    go_ret2
    exact ⟨by rw [hfin.out]; rfl, hbel⟩
theorem write_any (p : Option Addr) (n c : Nat) (L : List UInt8) (en : n = L.length) (w : World) (hn : L.length ≤ 4000) (hcap : L.length ≤ c) (hr : BRow w p L) :
  Calls Tryz.prog 104 #[.slice p n c] w fun e w' => e = .returned (.tuple #[.string ⟨(encode L).toArray⟩, .int .i64 0]) ∧ Below w.heap.size w w' := by
 subst en
 by_cases h0 : L = []
 ·subst h0
  refine (write_nil p c w).mono ?_
  rintro e w' ⟨rfl, rfl⟩
  exact ⟨rfl, Below.refl _ _⟩
 ·obtain ⟨b, o, rfl, hc⟩ := hr h0
  exact write_some b o c L w h0 hn hcap hc
end Go.Proofs.YtlndhdimamnnlaaGreatDoor



namespace Go.Proofs.YtlndhdimamnnlaaGreatDoor
open Go.RowKit
set_option maxRecDepth 100000
theorem byte_eq (c : UInt8) (n : Nat) (h : n < 256) : ((c.toNat : Int) == (n : Int)) = (c == UInt8.ofNat n) := by
 rw [Bool.eq_iff_iff, beq_iff_eq, beq_iff_eq]
 constructor
 ·intro e
  have : c.toNat = n := by omega
  subst this
  simp
 ·intro e
  subst e
  simp
  omega
theorem byte_eq_ofNat (c : UInt8) (n : Nat) (h : n < 256) (v : Int) (e : v = n) (d : UInt8) (ed : d = UInt8.ofNat n) : ((c.toNat : Int) == v) = (c == d) := by
 subst e; subst ed; exact byte_eq c n h
theorem space_any (c : UInt8) (w : World) :
  Calls Tryz.prog 212 #[.int .u8 (c.toNat : Int)] w fun e w' => e = .returned (.bool (sp c)) ∧ w' = w := by
 have e1 := byte_eq_ofNat c 32 (by decide) 32 rfl 32 rfl
 have e2 := byte_eq_ofNat c 9 (by decide) 9 rfl 9 rfl
 have e3 := byte_eq_ofNat c 13 (by decide) 13 rfl 13 rfl
 have e4 := byte_eq_ofNat c 10 (by decide) 10 rfl 10 rfl
 by_cases h1 : (c == 32) = true
 ·rw [h1] at e1
  have hf : sp c = true := by simp [sp, h1]
  rw [hf]
  clear hf h1 e2 e3 e4
  go_enter Tryz.func212, Tryz.ntmps212
  go_wp2
  go_ret
  exact ⟨rfl, rfl⟩
 ·rw [Bool.not_eq_true] at h1
  rw [h1] at e1
  by_cases h2 : (c == 9) = true
  ·rw [h2] at e2
   have hf : sp c = true := by simp [sp, h2]
   rw [hf]
   clear hf h1 h2 e3 e4
   go_enter Tryz.func212, Tryz.ntmps212
   go_wp2
   go_ret
   exact ⟨rfl, rfl⟩
  ·rw [Bool.not_eq_true] at h2
   rw [h2] at e2
   by_cases h3 : (c == 13) = true
   ·rw [h3] at e3
    have hf : sp c = true := by simp [sp, h3]
    rw [hf]
    clear hf h1 h2 h3 e4
    go_enter Tryz.func212, Tryz.ntmps212
    go_wp2
    go_ret
    exact ⟨rfl, rfl⟩
   ·rw [Bool.not_eq_true] at h3
    rw [h3] at e3
    have hf : sp c = (c == 10) := by simp only [sp, h1, h2, h3, Bool.false_or]
    rw [hf, ← e4]
    clear hf h1 h2 h3 e4
    go_enter Tryz.func212, Tryz.ntmps212
    go_wp2
    go_ret
    exact ⟨rfl, rfl⟩
set_option maxHeartbeats 1000000 in
set_option maxRecDepth 100000 in
theorem indexByte_lite (s : ByteArray) (c : Int) (w : World) :
  Calls Tryz.prog 136 #[.string s, .int .u8 c] w fun e w' => e = .returned (.int .i64 (Lib.indexByte s.data.toList c.toNat.toUInt8)) ∧ w' = w := by
 go_enter Tryz.func136, Tryz.ntmps136
 go_wp2
 rw [run_callFunc_extern Tryz.func183 (by kernel_rfl) (by kernel_rfl) (by kernel_rfl) (e := Extern.BytealgIndexByte.indexByte) (by kernel_rfl), Lib.run_indexByteString]
 simp only [Result.andThen]
 rw [Oper.upon_value]
 go_wp2
 go_ret
 exact ⟨rfl, rfl⟩
theorem indexByte_any (s : ByteArray) (l : List UInt8) (hs : s.data.toList = l) (c : UInt8) (w : World) :
  Calls Tryz.prog 89 #[.string s, .int .u8 (c.toNat : Int)] w fun e w' => e = .returned (.int .i64 (Lib.indexByte l c)) ∧ w' = w := by
 subst hs
 go_enter Tryz.func89, Tryz.ntmps89
 go_wp2_with (go_at_call 136; refine (indexByte_lite _ _ _).mono ?_; rintro e w' ⟨rfl, rfl⟩)
 go_ret
 exact ⟨by simp, rfl⟩
end Go.Proofs.YtlndhdimamnnlaaGreatDoor



namespace Go.Proofs.YtlndhdimamnnlaaGreatDoor
open Go.RowKit
set_option maxRecDepth 100000
def DigitsPost (w : World) (l : List UInt8) (e : Ending) (w' : World) : Prop :=
 Below w.heap.size w w' ∧ ((digitsS l = none ∧ e = .returned (.tuple #[.slice none 0 0, .int .i64 0, .bool false])) ∨
  ∃ x f v, digitsS l = some (x, f) ∧ e = .returned (.tuple #[v, .int .i64 ((f : Nat) : Int), .bool true]) ∧ w'.ownsRow w.heap.size 5 1 v x.length (bv x))
theorem drop_at (s : ByteArray) (k : Nat) (h : k < s.size) : s.data.toList.drop k = s[k] :: s.data.toList.drop (k + 1) := by
 rw [List.drop_eq_getElem_cons (by simpa using h)]; rfl
theorem scan_space {s : ByteArray} {k : Nat} (h : k < s.size) (st : List UInt8 × Nat) (h1 : sp s[k] = true) : scan (s.data.toList.drop (k + 1)) st = scan (s.data.toList.drop k) st := by
 rw [drop_at s k h, scan, scanStep, if_pos h1]; rfl
theorem scan_fill {s : ByteArray} {k : Nat} (h : k < s.size) (x : List UInt8) (f : Nat) (h1 : sp s[k] = false) (h2 : s[k] = 61) : scan (s.data.toList.drop (k + 1)) (x ++ [0], f + 1) = scan (s.data.toList.drop k) (x, f) := by
 rw [drop_at s k h, scan, scanStep, if_neg (by simp [h1]), if_pos h2]; rfl
theorem scan_bad {s : ByteArray} {k : Nat} (h : k < s.size) (x : List UInt8) (f : Nat) (h1 : sp s[k] = false) (h2 : ¬ s[k] = 61) (h3 : Lib.indexByte abc s[k] < 0 ∨ 0 < f) : scan (s.data.toList.drop k) (x, f) = none := by
 rw [drop_at s k h, scan, scanStep, if_neg (by simp [h1]), if_neg h2, if_pos h3]; rfl
theorem scan_letter {s : ByteArray} {k : Nat} (h : k < s.size) (x : List UInt8) (f I : Nat) (h1 : sp s[k] = false) (h2 : ¬ s[k] = 61) (h3 : Lib.indexByte abc s[k] = (I : Int)) (h4 : f = 0) : scan (s.data.toList.drop (k + 1)) (x ++ [UInt8.ofNat I], f) = scan (s.data.toList.drop k) (x, f) := by
 rw [drop_at s k h, scan, scanStep, if_neg (by simp [h1]), if_neg h2, if_neg (by omega), h3]; rfl
set_option maxHeartbeats 2000000 in
theorem digits_any (s : ByteArray) (w : World) (hs : s.size ≤ 8000) :
  Calls Tryz.prog 169 #[.string s] w fun e w' => DigitsPost w s.data.toList e w' := by
 obtain ⟨i0, hi, hz0, hz1, hz2⟩ := info_parts info_u8
 go_enter Tryz.func169, Tryz.ntmps169
 go_wp2
 go_loopw [2, 3, 10] (fun v fv i wr => ∃ (k : Nat) (x : List UInt8) (f : Nat), k ≤ s.size ∧ i = .int .i64 k ∧ fv = .int .i64 f ∧ x.length ≤ k ∧ f ≤ k ∧ wr.ownsRow w.heap.size 5 1 v x.length (bv x) ∧ Below w.heap.size w wr ∧ scan (s.data.toList.drop k) (x, f) = scan s.data.toList ([], 0))
  (fun _ _ i _ => s.size - (intOf i).toNat)
 case atStart => exact ⟨0, [], 0, Nat.zero_le _, rfl, rfl, Nat.zero_le _, Nat.zero_le _, World.ownsRow_nil _ _ _ _, Below.refl _ _, rfl⟩
 case round =>
  obtain ⟨k, x, f, hk, rfl, rfl, hxk, hfk, hown, hbel, hsc0⟩ := hrel
  have hsc : Hid (scan (s.data.toList.drop k) (x, f) = scan s.data.toList ([], 0)) := hsc0
  clear hsc0
  have hsz := hbel.size
  by_cases hlt : k < s.size
  ·by_cases h1 : sp s[k] = true
   ·have HN : Hid (scan (s.data.toList.drop (k + 1)) (x, f) = scan (s.data.toList.drop k) (x, f)) := scan_space hlt (x, f) h1
    go_wp2_with (go_at_call 212; refine (space_any _ _).mono ?_; rintro e w' ⟨rfl, hw'⟩; have hw'' := hw'.symm; subst hw'')
    go_roundw
    case rel => exact ⟨k + 1, x, f, by omega, by go_num, rfl, by omega, by omega, hown, hbel, by rw [← hsc.out]; exact HN.out⟩
    case measure => simp [intOf]; omega
   ·rw [Bool.not_eq_true] at h1
    have e61 := byte_eq_ofNat s[k] 61 (by decide) 61 rfl 61 rfl
    by_cases h2 : s[k] = 61
    ·have HN : Hid (scan (s.data.toList.drop (k + 1)) (x ++ [0], f + 1) = scan (s.data.toList.drop k) (x, f)) := scan_fill hlt x f h1 h2
     have e61' : ((s[k].toNat : Int) == 61) = true := by rw [e61]; simp [h2]
     clear h2 e61
     go_wp2_with (first | (go_at_call 212; refine (space_any _ _).mono ?_; rintro e w' ⟨rfl, hw'⟩; have hw'' := hw'.symm; subst hw'') | (go_at_call 89; refine (indexByte_any _ abc rfl _ _).mono ?_; rintro e w' ⟨rfl, hw'⟩; have hw'' := hw'.symm; subst hw'') | (at_builtin; refine wpList_append_own _ rfl (.tmp 22) (.tmp 23) 22 rfl w.heap.size 5 i0 (.int .u8 0) 1 1 Tryz.underlying22 hi hz0 hz1 hz2 rfl (by decide) _ _ _ rfl (hown.alloc _) ⟨wr.heap.size, 0, none⟩ 1 1 [.int .u8 0] rfl rfl ?c1 ?c2 ?c3 ?c4 ?c5 ?_))
     case c1 => exact cell_one _ _ _ rfl
     case c2 => intro u hu; simp at hu; subst hu; rfl
     case c3 => unfold maxLen; omega
     case c4 => omega
     case c5 => simp; omega
     intro v' w1 hown' hgrow _
     have RB : Below w.heap.size w w1 := push_below hown hbel hsz hgrow
     have R : w1.ownsRow w.heap.size 5 1 v' (x ++ [0]).length (bv (x ++ [0])) := by
      simpa [bv] using hown'
     clear hown' hgrow hown
     go_wp2
     go_roundw
     case rel => exact ⟨k + 1, x ++ [0], f + 1, by omega, by go_num, by go_num, by simp; omega, by omega, R, RB, by rw [← hsc.out]; exact HN.out⟩
     case measure => simp [intOf]; omega
    ·have e61' : ((s[k].toNat : Int) == 61) = false := by rw [e61]; simp [h2]
     have hge := idx_ge s[k]
     have hltI := idx_lt s[k]
     by_cases h3 : Lib.indexByte abc s[k] < 0 ∨ 0 < f
     ·have HN : Hid (scan (s.data.toList.drop k) (x, f) = none) := scan_bad hlt x f h1 h2 h3
      clear h2 e61
      by_cases h4 : Lib.indexByte abc s[k] < 0
      ·go_wp2_with (first | (go_at_call 212; refine (space_any _ _).mono ?_; rintro e w' ⟨rfl, hw'⟩; have hw'' := hw'.symm; subst hw'') | (go_at_call 89; refine (indexByte_any _ abc rfl _ _).mono ?_; rintro e w' ⟨rfl, hw'⟩; have hw'' := hw'.symm; subst hw''))
       go_ret3
       exact ⟨hbel, .inl ⟨by unfold digitsS; rw [← hsc.out, HN.out]; rfl, rfl⟩⟩
      ·have hd : decide (Lib.indexByte abc s[k] < 0) = false := by simpa using h4
       have hf : (0 : Int) < (f : Int) := by omega
       go_wp2_with (first | (go_at_call 212; refine (space_any _ _).mono ?_; rintro e w' ⟨rfl, hw'⟩; have hw'' := hw'.symm; subst hw'') | (go_at_call 89; refine (indexByte_any _ abc rfl _ _).mono ?_; rintro e w' ⟨rfl, hw'⟩; have hw'' := hw'.symm; subst hw''))
       go_ret3
       exact ⟨hbel, .inl ⟨by unfold digitsS; rw [← hsc.out, HN.out]; rfl, rfl⟩⟩
     ·obtain ⟨I, hI⟩ : ∃ I : Nat, Lib.indexByte abc s[k] = (I : Int) := ⟨(Lib.indexByte abc s[k]).toNat, by omega⟩
      have HN : Hid (scan (s.data.toList.drop (k + 1)) (x ++ [UInt8.ofNat I], f) = scan (s.data.toList.drop k) (x, f)) := scan_letter hlt x f I h1 h2 hI (by omega)
      have hI64 : I < 64 := by omega
      have hf0 : ¬ 0 < f := by omega
      have hd2 : decide ((0 : Int) < (f : Int)) = false := by simp; omega
      clear h2 e61 h3 hge hltI
      go_wp2_with (first | (go_at_call 212; refine (space_any _ _).mono ?_; rintro e w' ⟨rfl, hw'⟩; have hw'' := hw'.symm; subst hw'') | (go_at_call 89; refine (indexByte_any _ abc rfl _ _).mono ?_; rintro e w' ⟨rfl, hw'⟩; have hw'' := hw'.symm; subst hw'') | (at_builtin; refine wpList_append_own _ rfl (.tmp 33) (.tmp 36) 22 rfl w.heap.size 5 i0 (.int .u8 0) 1 1 Tryz.underlying22 hi hz0 hz1 hz2 rfl (by decide) _ _ _ rfl (hown.alloc _) ⟨wr.heap.size, 0, none⟩ 1 1 [.int .u8 (I : Int)] rfl rfl ?c1 ?c2 ?c3 ?c4 ?c5 ?_))
      case c1 => exact cell_one _ _ _ rfl
      case c2 => intro u hu; simp at hu; subst hu; rfl
      case c3 => unfold maxLen; omega
      case c4 => omega
      case c5 => simp; omega
      intro v' w1 hown' hgrow _
      have RB : Below w.heap.size w w1 := push_below hown hbel hsz hgrow
      have R : w1.ownsRow w.heap.size 5 1 v' (x ++ [UInt8.ofNat I]).length (bv (x ++ [UInt8.ofNat I])) := by
       simpa [bv, show ((I : Int) % 256) = (I : Int) from by omega] using hown'
      clear hown' hgrow hown
      go_wp2
      go_roundw
      case rel => exact ⟨k + 1, x ++ [UInt8.ofNat I], f, by omega, by go_num, by rfl, by simp; omega, by omega, R, RB, by rw [← hsc.out]; exact HN.out⟩
      case measure => simp [intOf]; omega
  ·obtain rfl : k = s.size := by omega
   have hfin : scan s.data.toList ([], 0) = some (x, f) := by
    rw [← hsc.out, List.drop_of_length_le (by rw [Array.length_toList]; exact Nat.le_refl _)]; rfl
   have hdg : digitsS s.data.toList = if 2 < f ∨ x.length % 4 ≠ 0 then none else some (x, f) := by
    unfold digitsS; rw [hfin]; rfl
   clear hfin
   have hown0 := hown
   by_cases h2 : 2 < f
   ·have hno : Hid (digitsS s.data.toList = none) := by unfold Hid; rw [hdg, if_pos (.inl h2)]
    clear hdg hown0
    rcases hown.2 with ⟨rfl, hx0⟩ | ⟨g, cap, cur, rfl, hg, hh, hnc, hcp, hcs, htake⟩
    ·clear hown hsc
     go_wp2
     go_ret3
     exact ⟨hbel, .inl ⟨hno.out, rfl⟩⟩
    ·clear hown hsc htake hh hcs
     go_wp2
     go_ret3
     exact ⟨hbel, .inl ⟨hno.out, rfl⟩⟩
   ·have hd2 : decide ((2 : Int) < (f : Int)) = false := by simp; omega
    by_cases h4 : x.length % 4 = 0
    ·have hyes : Hid (digitsS s.data.toList = some (x, f)) := by unfold Hid; rw [hdg, if_neg (by omega)]
     have HO : Hid (wr.ownsRow w.heap.size 5 1 _ x.length (bv x)) := hown0
     have hb4 : ((x.length : Int) % 4 != 0) = false := by rw [bne_eq_false_iff_eq]; omega
     clear hdg hown0
     rcases hown.2 with ⟨rfl, hx0⟩ | ⟨g, cap, cur, rfl, hg, hh, hnc, hcp, hcs, htake⟩
     ·clear hown hsc hb4 hx0
      go_wp2
      go_ret3
      exact ⟨hbel, .inr ⟨x, f, _, hyes.out, rfl, HO.out⟩⟩
     ·clear hown hsc htake hh hcs
      go_wp2
      go_ret3
      exact ⟨hbel, .inr ⟨x, f, _, hyes.out, rfl, HO.out⟩⟩
    ·have hno : Hid (digitsS s.data.toList = none) := by unfold Hid; rw [hdg, if_pos (.inr h4)]
     have hb4 : ((x.length : Int) % 4 != 0) = true := by rw [bne_iff_ne]; omega
     clear hdg hown0
     rcases hown.2 with ⟨rfl, hx0⟩ | ⟨g, cap, cur, rfl, hg, hh, hnc, hcp, hcs, htake⟩
     ·exact absurd (by rw [hx0]) h4
     ·clear hown hsc htake hh hcs
      go_wp2
      go_ret3
      exact ⟨hbel, .inl ⟨hno.out, rfl⟩⟩
end Go.Proofs.YtlndhdimamnnlaaGreatDoor

