/- base.Write answers the letters of the bytes, in lines, or ErrMany; nothing that was there is changed. Conditions: the bytes lie there. -/
import Derived.Test.YtpgnkhaanoalhaaGreatDoorXmimeborders17
import Derived.WalkSmall
import Derived.Laws.IdiomStrings
import Derived.Test.YtpgnkhaanoalhaaGreatDoorXmimeborders3
import Derived.Lib.Walk
namespace Go.Proofs.YtpgnkhaanoalhaaGreatDoor
open Go.RowKit
set_option maxRecDepth 100000

theorem write_many (p : Option Addr) (n c : Nat) (w : World) (h : 4000 < n) (hm : n ≤ maxLen) :
    Calls Tryz.prog 111 #[.slice p n c] w fun e w' => e = .returned (.tuple #[.string ⟨#[]⟩, .int .i64 2]) ∧ w' = w := by
  unfold maxLen at hm
  have h' : (4000 : Int) < (n : Int) := by omega
  go_enter Tryz.func111, Tryz.ntmps111
  go_wp2
  go_ret2
  exact ⟨rfl, rfl⟩

theorem write_nil (p : Option Addr) (c : Nat) (w : World) :
    Calls Tryz.prog 111 #[.slice p 0 c] w fun e w' => e = .returned (.tuple #[.string ⟨#[]⟩, .int .i64 0]) ∧ w' = w := by
  have hcv := convert_nil w
  go_enter Tryz.func111, Tryz.ntmps111
  go_wp2_with (go_at_call 160; refine (fours_any 0 _ rfl (by omega) _).mono ?_; rintro e w' ⟨rfl, rfl⟩)
  refine wp_loop_rounds 1 ?_
  rw [rounds_succ]
  go_wp2
  go_ret2
  exact ⟨rfl, rfl⟩

set_option maxHeartbeats 2000000 in
theorem write_some (b o c : Nat) (L : List UInt8) (w : World) (h0 : L ≠ []) (hn : L.length ≤ 4000) (hcap : L.length ≤ c)
    (hc : ∀ i, i < L.length → w.cell? ⟨b, o + i, none⟩ = some (.int .u8 ((L.getD i 0).toNat : Int))) :
    Calls Tryz.prog 111 #[.slice (some ⟨b, o, none⟩) L.length c] w fun e w' => e = .returned (.tuple #[.string ⟨(encode L).toArray⟩, .int .i64 0]) ∧ Below w.heap.size w w' := by
  obtain ⟨n, hL⟩ : ∃ n, n = L.length := ⟨_, rfl⟩
  rw [← hL] at hn hcap ⊢
  have h1 : 1 ≤ n := by rw [hL]; exact List.length_pos_iff.2 h0
  have hbB : b < w.heap.size := by
    have := hc 0 (by omega)
    exact World.block_lt_of_cell? w _ this
  have HL : Hid (n = L.length) := hL
  rw [← hL] at hc
  clear hL
  obtain ⟨i0, hi, hz0, hz1, hz2⟩ := info_parts info_u8
  obtain ⟨M, hM⟩ : ∃ M, M = (n + 2) / 3 * 4 := ⟨_, rfl⟩
  go_enter Tryz.func111, Tryz.ntmps111
  go_wp2_with (go_at_call 160; refine (fours_any n _ rfl (by omega) _).mono ?_; rintro e w' ⟨rfl, hw'⟩; have hw'' := hw'.symm; subst hw'')
  go_loopw [4, 14] (fun v i wr => ∃ k : Nat, k ≤ M ∧ i = .int .i64 k ∧ wr.ownsRow w.heap.size 5 1 v (text L k).length (bv (text L k)) ∧ Below w.heap.size w wr)
    (fun _ i _ => M - (intOf i).toNat)
  case atStart => exact ⟨0, Nat.zero_le _, rfl, World.ownsRow_nil _ _ _ _, Below.refl _ _⟩
  case round =>
    obtain ⟨k, hk, rfl, hown, hbel⟩ := hrel
    have hlen := text_length L k
    have hq : k / 4 * 3 < n ∨ M ≤ k := by omega
    have hsz := hbel.size
    by_cases hlt : k < M
    · have hTl : (trio L k).length = min 3 (n - k / 4 * 3) := by unfold trio; rw [List.length_take, List.length_drop, HL.out]
      have hcT : ∀ w2, Below w.heap.size w w2 → ∀ i, i < (trio L k).length → w2.cell? ⟨b, o + k / 4 * 3 + i, none⟩ = some (.int .u8 (((trio L k).getD i 0).toNat : Int)) := by
        intro w2 hb2 i hi
        rw [hTl] at hi
        rw [hb2.cell (p := ⟨b, o + k / 4 * 3 + i, none⟩) hbB, Nat.add_assoc, hc (k / 4 * 3 + i) (by omega), trio_getD L k i (by omega)]
      clear hc
      by_cases hle : k / 4 * 3 + 3 ≤ n
      · have _hh : True := trivial
        by_cases hs : 0 < k ∧ k % 76 = 0
        · have HS : Hid (0 < k ∧ k % 76 = 0) := hs
          obtain ⟨hs1, hs2⟩ := hs
          clear hs2
          have hb : ((k : Int) % 76 == 0) = true := by have := HS.out; simp; omega
          go_wp2_with (at_builtin; refine wpList_append_own _ rfl (.tmp 24) (.tmp 25) 22 rfl w.heap.size 5 i0 (.int .u8 0) 1 1 Tryz.underlying22 hi hz0 hz1 hz2 rfl (by decide) _ _ _ rfl (hown.alloc _) ⟨wr.heap.size, 0, none⟩ 2 2 [.int .u8 13, .int .u8 10] rfl rfl ?d1 ?d2 ?d3 ?d4 ?d5 ?_)
          case d1 => exact cell_two _ _ _ _
          case d2 => intro u hu; simp at hu; rcases hu with rfl | rfl <;> rfl
          case d3 => unfold maxLen; omega
          case d4 => omega
          case d5 => simp; omega
          intro v1 w1 hown1 hgrow1 _
          have RB1 : Below w.heap.size w w1 := push_below hown hbel hsz hgrow1
          have hsz1 := RB1.size
          have hcT1 : ∀ i, i < (trio L k).length → w1.cell? ⟨b, o + k / 4 * 3 + i, none⟩ = some (.int .u8 (((trio L k).getD i 0).toNat : Int)) := hcT w1 RB1
          clear hgrow1 hown hcT
          go_wp2_with fail
          refine (letter_any b _ _ _ (trio L k) (k % 4) _ (by rw [hTl]; omega) (by omega) _ (by omega) (by rw [hTl]; omega) (by rw [hTl]; omega) hcT1).mono ?_
          rintro e w' ⟨rfl, hw'⟩
          have hw'' := hw'.symm
          subst hw''
          go_wp2_with (at_builtin; refine wpList_append_own _ rfl (.tmp 39) (.tmp 44) 22 rfl w.heap.size 5 i0 (.int .u8 0) 1 1 Tryz.underlying22 hi hz0 hz1 hz2 rfl (by decide) _ _ _ rfl (hown1.alloc _) ⟨w1.heap.size, 0, none⟩ 1 1 [.int .u8 ((encAt L k).toNat : Int)] rfl rfl ?c1 ?c2 ?c3 ?c4 ?c5 ?_)
          case c1 => exact cell_one _ _ _ rfl
          case c2 => intro u hu; simp at hu; subst hu; rfl
          case c3 => unfold maxLen; omega
          case c4 => omega
          case c5 => simp; omega
          intro v' w2 hown' hgrow _
          have R : w2.ownsRow w.heap.size 5 1 v' (text L (k + 1)).length (bv (text L (k + 1))) := by
            rw [text_sep L k HS.out]
            simpa [bv, Nat.add_assoc] using hown'
          have RB : Below w.heap.size w w2 := push_below hown1 RB1 hsz1 hgrow
          clear hown' hgrow hown1
          go_wp2
          go_roundw
          case rel => exact ⟨k + 1, by omega, by go_num, R, RB⟩
          case measure => simp [intOf]; omega
        · by_cases hk0 : 0 < k
          · have hb : ((k : Int) % 76 == 0) = false := by rw [beq_eq_false_iff_ne]; omega
            have HS : Hid (¬ (0 < k ∧ k % 76 = 0)) := hs
            clear hs
            have hcT := hcT wr hbel
            go_wp2_with fail
            refine (letter_any b _ _ _ (trio L k) (k % 4) _ (by rw [hTl]; omega) (by omega) _ (by omega) (by rw [hTl]; omega) (by rw [hTl]; omega) hcT).mono ?_
            rintro e w' ⟨rfl, hw'⟩
            have hw'' := hw'.symm
            subst hw''
            go_wp2_with (at_builtin; refine wpList_append_own _ rfl (.tmp 39) (.tmp 44) 22 rfl w.heap.size 5 i0 (.int .u8 0) 1 1 Tryz.underlying22 hi hz0 hz1 hz2 rfl (by decide) _ _ _ rfl (hown.alloc _) ⟨wr.heap.size, 0, none⟩ 1 1 [.int .u8 ((encAt L k).toNat : Int)] rfl rfl ?c1 ?c2 ?c3 ?c4 ?c5 ?_)
            case c1 => exact cell_one _ _ _ rfl
            case c2 => intro u hu; simp at hu; subst hu; rfl
            case c3 => unfold maxLen; omega
            case c4 => omega
            case c5 => simp; omega
            intro v' w1 hown' hgrow _
            have R : w1.ownsRow w.heap.size 5 1 v' (text L (k + 1)).length (bv (text L (k + 1))) := by
              rw [text_plain L k HS.out]
              simpa [bv] using hown'
            have RB : Below w.heap.size w w1 := push_below hown hbel hsz hgrow
            clear hown' hgrow hown
            go_wp2
            go_roundw
            case rel => exact ⟨k + 1, by omega, by go_num, R, RB⟩
            case measure => simp [intOf]; omega
          · have hd : decide ((0 : Int) < (k : Int)) = false := by simp; omega
            have HS : Hid (¬ (0 < k ∧ k % 76 = 0)) := hs
            clear hs
            have hcT := hcT wr hbel
            go_wp2_with fail
            refine (letter_any b _ _ _ (trio L k) (k % 4) _ (by rw [hTl]; omega) (by omega) _ (by omega) (by rw [hTl]; omega) (by rw [hTl]; omega) hcT).mono ?_
            rintro e w' ⟨rfl, hw'⟩
            have hw'' := hw'.symm
            subst hw''
            go_wp2_with (at_builtin; refine wpList_append_own _ rfl (.tmp 39) (.tmp 44) 22 rfl w.heap.size 5 i0 (.int .u8 0) 1 1 Tryz.underlying22 hi hz0 hz1 hz2 rfl (by decide) _ _ _ rfl (hown.alloc _) ⟨wr.heap.size, 0, none⟩ 1 1 [.int .u8 ((encAt L k).toNat : Int)] rfl rfl ?c1 ?c2 ?c3 ?c4 ?c5 ?_)
            case c1 => exact cell_one _ _ _ rfl
            case c2 => intro u hu; simp at hu; subst hu; rfl
            case c3 => unfold maxLen; omega
            case c4 => omega
            case c5 => simp; omega
            intro v' w1 hown' hgrow _
            have R : w1.ownsRow w.heap.size 5 1 v' (text L (k + 1)).length (bv (text L (k + 1))) := by
              rw [text_plain L k HS.out]
              simpa [bv] using hown'
            have RB : Below w.heap.size w w1 := push_below hown hbel hsz hgrow
            clear hown' hgrow hown
            go_wp2
            go_roundw
            case rel => exact ⟨k + 1, by omega, by go_num, R, RB⟩
            case measure => simp [intOf]; omega
      · have _hh : True := trivial
        by_cases hs : 0 < k ∧ k % 76 = 0
        · have HS : Hid (0 < k ∧ k % 76 = 0) := hs
          obtain ⟨hs1, hs2⟩ := hs
          clear hs2
          have hb : ((k : Int) % 76 == 0) = true := by have := HS.out; simp; omega
          go_wp2_with (at_builtin; refine wpList_append_own _ rfl (.tmp 24) (.tmp 25) 22 rfl w.heap.size 5 i0 (.int .u8 0) 1 1 Tryz.underlying22 hi hz0 hz1 hz2 rfl (by decide) _ _ _ rfl (hown.alloc _) ⟨wr.heap.size, 0, none⟩ 2 2 [.int .u8 13, .int .u8 10] rfl rfl ?d1 ?d2 ?d3 ?d4 ?d5 ?_)
          case d1 => exact cell_two _ _ _ _
          case d2 => intro u hu; simp at hu; rcases hu with rfl | rfl <;> rfl
          case d3 => unfold maxLen; omega
          case d4 => omega
          case d5 => simp; omega
          intro v1 w1 hown1 hgrow1 _
          have RB1 : Below w.heap.size w w1 := push_below hown hbel hsz hgrow1
          have hsz1 := RB1.size
          have hcT1 : ∀ i, i < (trio L k).length → w1.cell? ⟨b, o + k / 4 * 3 + i, none⟩ = some (.int .u8 (((trio L k).getD i 0).toNat : Int)) := hcT w1 RB1
          clear hgrow1 hown hcT
          go_wp2_with fail
          refine (letter_any b _ _ _ (trio L k) (k % 4) _ (by rw [hTl]; omega) (by omega) _ (by omega) (by rw [hTl]; omega) (by rw [hTl]; omega) hcT1).mono ?_
          rintro e w' ⟨rfl, hw'⟩
          have hw'' := hw'.symm
          subst hw''
          go_wp2_with (at_builtin; refine wpList_append_own _ rfl (.tmp 39) (.tmp 44) 22 rfl w.heap.size 5 i0 (.int .u8 0) 1 1 Tryz.underlying22 hi hz0 hz1 hz2 rfl (by decide) _ _ _ rfl (hown1.alloc _) ⟨w1.heap.size, 0, none⟩ 1 1 [.int .u8 ((encAt L k).toNat : Int)] rfl rfl ?c1 ?c2 ?c3 ?c4 ?c5 ?_)
          case c1 => exact cell_one _ _ _ rfl
          case c2 => intro u hu; simp at hu; subst hu; rfl
          case c3 => unfold maxLen; omega
          case c4 => omega
          case c5 => simp; omega
          intro v' w2 hown' hgrow _
          have R : w2.ownsRow w.heap.size 5 1 v' (text L (k + 1)).length (bv (text L (k + 1))) := by
            rw [text_sep L k HS.out]
            simpa [bv, Nat.add_assoc] using hown'
          have RB : Below w.heap.size w w2 := push_below hown1 RB1 hsz1 hgrow
          clear hown' hgrow hown1
          go_wp2
          go_roundw
          case rel => exact ⟨k + 1, by omega, by go_num, R, RB⟩
          case measure => simp [intOf]; omega
        · by_cases hk0 : 0 < k
          · have hb : ((k : Int) % 76 == 0) = false := by rw [beq_eq_false_iff_ne]; omega
            have HS : Hid (¬ (0 < k ∧ k % 76 = 0)) := hs
            clear hs
            have hcT := hcT wr hbel
            go_wp2_with fail
            refine (letter_any b _ _ _ (trio L k) (k % 4) _ (by rw [hTl]; omega) (by omega) _ (by omega) (by rw [hTl]; omega) (by rw [hTl]; omega) hcT).mono ?_
            rintro e w' ⟨rfl, hw'⟩
            have hw'' := hw'.symm
            subst hw''
            go_wp2_with (at_builtin; refine wpList_append_own _ rfl (.tmp 39) (.tmp 44) 22 rfl w.heap.size 5 i0 (.int .u8 0) 1 1 Tryz.underlying22 hi hz0 hz1 hz2 rfl (by decide) _ _ _ rfl (hown.alloc _) ⟨wr.heap.size, 0, none⟩ 1 1 [.int .u8 ((encAt L k).toNat : Int)] rfl rfl ?c1 ?c2 ?c3 ?c4 ?c5 ?_)
            case c1 => exact cell_one _ _ _ rfl
            case c2 => intro u hu; simp at hu; subst hu; rfl
            case c3 => unfold maxLen; omega
            case c4 => omega
            case c5 => simp; omega
            intro v' w1 hown' hgrow _
            have R : w1.ownsRow w.heap.size 5 1 v' (text L (k + 1)).length (bv (text L (k + 1))) := by
              rw [text_plain L k HS.out]
              simpa [bv] using hown'
            have RB : Below w.heap.size w w1 := push_below hown hbel hsz hgrow
            clear hown' hgrow hown
            go_wp2
            go_roundw
            case rel => exact ⟨k + 1, by omega, by go_num, R, RB⟩
            case measure => simp [intOf]; omega
          · have hd : decide ((0 : Int) < (k : Int)) = false := by simp; omega
            have HS : Hid (¬ (0 < k ∧ k % 76 = 0)) := hs
            clear hs
            have hcT := hcT wr hbel
            go_wp2_with fail
            refine (letter_any b _ _ _ (trio L k) (k % 4) _ (by rw [hTl]; omega) (by omega) _ (by omega) (by rw [hTl]; omega) (by rw [hTl]; omega) hcT).mono ?_
            rintro e w' ⟨rfl, hw'⟩
            have hw'' := hw'.symm
            subst hw''
            go_wp2_with (at_builtin; refine wpList_append_own _ rfl (.tmp 39) (.tmp 44) 22 rfl w.heap.size 5 i0 (.int .u8 0) 1 1 Tryz.underlying22 hi hz0 hz1 hz2 rfl (by decide) _ _ _ rfl (hown.alloc _) ⟨wr.heap.size, 0, none⟩ 1 1 [.int .u8 ((encAt L k).toNat : Int)] rfl rfl ?c1 ?c2 ?c3 ?c4 ?c5 ?_)
            case c1 => exact cell_one _ _ _ rfl
            case c2 => intro u hu; simp at hu; subst hu; rfl
            case c3 => unfold maxLen; omega
            case c4 => omega
            case c5 => simp; omega
            intro v' w1 hown' hgrow _
            have R : w1.ownsRow w.heap.size 5 1 v' (text L (k + 1)).length (bv (text L (k + 1))) := by
              rw [text_plain L k HS.out]
              simpa [bv] using hown'
            have RB : Below w.heap.size w w1 := push_below hown hbel hsz hgrow
            clear hown' hgrow hown
            go_wp2
            go_roundw
            case rel => exact ⟨k + 1, by omega, by go_num, R, RB⟩
            case measure => simp [intOf]; omega
    · obtain rfl : k = M := by omega
      have hge := text_length_ge L k
      have hfin : Hid ((encode L) = text L k) := by unfold Hid encode; rw [← HL.out, ← hM]
      rcases hown.2 with ⟨_, h00⟩ | ⟨g, cap, cur, rfl, hg, hh, hnc, hcp, hcs, htake⟩
      · omega
      · have hcells : ∀ j (hj : j < (text L k).length), wr.cell? ((⟨g, 0, none⟩ : Addr).add j) = some (.int .u8 ((text L k)[j].toNat : Int)) := fun j hj => by
          rw [Addr.add_lit, Nat.zero_add, hown.cellAt j (by omega)]
          simp [bv, hj]
        have hcv := run_convert_bytes_back (P := Tryz.prog) wr 22 9 5 ⟨g, 0, none⟩ cap (text L k) Tryz.underlying22 Tryz.underlying5 Tryz.underlying9 hcells
        have hno : ((n : Int) + 2) / 3 * 4 ≤ (k : Int) := by omega
        clear hown hcells htake hh hc hM hlt
        go_wp2
        go_ret2
        exact ⟨by rw [hfin.out]; rfl, hbel⟩

/-- base.Write of few enough bytes. -/
theorem write_any (p : Option Addr) (n c : Nat) (L : List UInt8) (en : n = L.length) (w : World) (hn : L.length ≤ 4000) (hcap : L.length ≤ c) (hr : BRow w p L) :
    Calls Tryz.prog 111 #[.slice p n c] w fun e w' => e = .returned (.tuple #[.string ⟨(encode L).toArray⟩, .int .i64 0]) ∧ Below w.heap.size w w' := by
  subst en
  by_cases h0 : L = []
  · subst h0
    refine (write_nil p c w).mono ?_
    rintro e w' ⟨rfl, rfl⟩
    exact ⟨rfl, Below.refl _ _⟩
  · obtain ⟨b, o, rfl, hc⟩ := hr h0
    exact write_some b o c L w h0 hn hcap hc
end Go.Proofs.YtpgnkhaanoalhaaGreatDoor

/- base.space and strings.IndexByte answer what the plain functions say; the world is as it was. No condition. -/
namespace Go.Proofs.YtpgnkhaanoalhaaGreatDoor
open Go.RowKit
set_option maxRecDepth 100000

theorem byte_eq (c : UInt8) (n : Nat) (h : n < 256) : ((c.toNat : Int) == (n : Int)) = (c == UInt8.ofNat n) := by
  rw [Bool.eq_iff_iff, beq_iff_eq, beq_iff_eq]
  constructor
  · intro e
    have : c.toNat = n := by omega
    subst this
    simp
  · intro e
    subst e
    simp
    omega
theorem byte_eq_ofNat (c : UInt8) (n : Nat) (h : n < 256) (v : Int) (e : v = n) (d : UInt8) (ed : d = UInt8.ofNat n) : ((c.toNat : Int) == v) = (c == d) := by
  subst e; subst ed; exact byte_eq c n h

theorem space_any (c : UInt8) (w : World) :
    Calls Tryz.prog 217 #[.int .u8 (c.toNat : Int)] w fun e w' => e = .returned (.bool (sp c)) ∧ w' = w := by
  have e1 := byte_eq_ofNat c 32 (by decide) 32 rfl 32 rfl
  have e2 := byte_eq_ofNat c 9 (by decide) 9 rfl 9 rfl
  have e3 := byte_eq_ofNat c 13 (by decide) 13 rfl 13 rfl
  have e4 := byte_eq_ofNat c 10 (by decide) 10 rfl 10 rfl
  by_cases h1 : (c == 32) = true
  · rw [h1] at e1
    have hf : sp c = true := by simp [sp, h1]
    rw [hf]
    clear hf h1 e2 e3 e4
    go_enter Tryz.func217, Tryz.ntmps217
    go_wp2
    go_ret
    exact ⟨rfl, rfl⟩
  · rw [Bool.not_eq_true] at h1
    rw [h1] at e1
    by_cases h2 : (c == 9) = true
    · rw [h2] at e2
      have hf : sp c = true := by simp [sp, h2]
      rw [hf]
      clear hf h1 h2 e3 e4
      go_enter Tryz.func217, Tryz.ntmps217
      go_wp2
      go_ret
      exact ⟨rfl, rfl⟩
    · rw [Bool.not_eq_true] at h2
      rw [h2] at e2
      by_cases h3 : (c == 13) = true
      · rw [h3] at e3
        have hf : sp c = true := by simp [sp, h3]
        rw [hf]
        clear hf h1 h2 h3 e4
        go_enter Tryz.func217, Tryz.ntmps217
        go_wp2
        go_ret
        exact ⟨rfl, rfl⟩
      · rw [Bool.not_eq_true] at h3
        rw [h3] at e3
        have hf : sp c = (c == 10) := by simp only [sp, h1, h2, h3, Bool.false_or]
        rw [hf, ← e4]
        clear hf h1 h2 h3 e4
        go_enter Tryz.func217, Tryz.ntmps217
        go_wp2
        go_ret
        exact ⟨rfl, rfl⟩

set_option maxHeartbeats 1000000 in
set_option maxRecDepth 100000 in
theorem indexByte_lite (s : ByteArray) (c : Int) (w : World) :
    Calls Tryz.prog 143 #[.string s, .int .u8 c] w fun e w' => e = .returned (.int .i64 (Lib.indexByte s.data.toList c.toNat.toUInt8)) ∧ w' = w := by
  go_enter Tryz.func143, Tryz.ntmps143
  go_wp2
  rw [run_callFunc_extern Tryz.func188 (by kernel_rfl) (by kernel_rfl) (by kernel_rfl) (e := Extern.BytealgIndexByte.indexByte) (by kernel_rfl), Lib.run_indexByteString]
  simp only [Result.andThen]
  rw [Oper.upon_value]
  go_wp2
  go_ret
  exact ⟨rfl, rfl⟩

theorem indexByte_any (s : ByteArray) (l : List UInt8) (hs : s.data.toList = l) (c : UInt8) (w : World) :
    Calls Tryz.prog 95 #[.string s, .int .u8 (c.toNat : Int)] w fun e w' => e = .returned (.int .i64 (Lib.indexByte l c)) ∧ w' = w := by
  subst hs
  go_enter Tryz.func95, Tryz.ntmps95
  go_wp2_with (go_at_call 143; refine (indexByte_lite _ _ _).mono ?_; rintro e w' ⟨rfl, rfl⟩)
  go_ret
  exact ⟨by simp, rfl⟩
end Go.Proofs.YtpgnkhaanoalhaaGreatDoor
