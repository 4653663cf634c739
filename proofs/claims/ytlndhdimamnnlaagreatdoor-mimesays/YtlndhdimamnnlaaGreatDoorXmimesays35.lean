
import Derived.Test.YtlndhdimamnnlaaGreatDoorXmimesays15
import Derived.Test.YtlndhdimamnnlaaGreatDoorXmimesays28
import Derived.Deep.RegionWith
namespace Go.Proofs.YtlndhdimamnnlaaGreatDoor
open Go.RowKit
set_option maxRecDepth 100000
theorem readS_some {l : List UInt8} {x : List UInt8} {f : Nat} (h : l.length ≤ 8000) (h' : scan l ([], 0) = some (x, f)) :
  readS l = if 2 < f ∨ x.length % 4 ≠ 0 then ([], 1) else match cutS (joinS x) f with | none => ([], 1) | some b => if 4000 < b.length then ([], 2) else (b, 0) := by
 unfold readS
 rw [if_neg (by omega)]
 have e : digitsS l = if 2 < f ∨ x.length % 4 ≠ 0 then none else some (x, f) := by unfold digitsS; rw [h']; rfl
 rw [e]
 by_cases hh : 2 < f ∨ x.length % 4 ≠ 0
 ·rw [if_pos hh, if_pos hh]
 ·rw [if_neg hh, if_neg hh]; rfl
theorem bread_many (s : ByteArray) (w : World) (hs : s.size ≤ maxLen) (h : 8000 < s.size) :
  Calls Tryz.prog 47 #[.string s] w fun e w' => e = .returned (.tuple #[.slice none 0 0, .int .i64 2]) ∧ w' = w := by
 unfold maxLen at hs
 have h' : (8000 : Int) < (s.size : Int) := by omega
 go_enter Tryz.func47, Tryz.ntmps47
 go_wp2
 go_ret2
 exact ⟨rfl, rfl⟩
set_option maxHeartbeats 16000000 in
theorem bread_few (s : ByteArray) (w : World) (hs : s.size ≤ 8000) :
  Calls Tryz.prog 47 #[.string s] w fun e w' => ReadPostN w (readS s.data.toList) e w' := by
 have hand := i64_and_1
 obtain ⟨i0, hi, hz0, hz1, hz2⟩ := info_parts info_int
 obtain ⟨i5, hi5, hy0, hy1, hy2⟩ := info_parts info_u8
 go_enter Tryz.func47, Tryz.ntmps47
 go_wp2
 go_loopw [4, 5, 6, 21] (fun v fv lv i wr => ∃ (k : Nat) (x : List UInt8) (f : Nat), k ≤ s.size ∧ i = .int .i64 k ∧ fv = .int .i64 f ∧ lv = .int .i64 (x.length : Int) ∧ x.length ≤ k ∧ f ≤ k ∧ wr.ownsRow w.heap.size 3 1 v (flat x).length (iv (flat x)) ∧ Below w.heap.size w wr ∧ scan (s.data.toList.drop k) (x, f) = scan s.data.toList ([], 0))
  (fun _ _ _ i _ => s.size - (intOf i).toNat)
 case atStart => exact ⟨0, [], 0, Nat.zero_le _, rfl, rfl, rfl, Nat.zero_le _, Nat.zero_le _, World.ownsRow_lit w #[] 0 (Nat.le_refl _) (by decide) rfl, (Below.refl _ _).alloc (Nat.le_refl _) _, rfl⟩
 case round =>
  obtain ⟨k, x, f, hk, rfl, rfl, rfl, hxk, hfk, hown, hbel, hsc0⟩ := hrel
  have hsc : Hid (scan (s.data.toList.drop k) (x, f) = scan s.data.toList ([], 0)) := hsc0
  clear hsc0
  have hsz := hbel.size
  have HF : Hid ((flat x).length = 6 * x.length) := flat_length x
  have hfl : (flat x).length ≤ 48000 := by have := HF.out; omega
  by_cases hlt : k < s.size
  ·have hspi := sp_idx s[k]
   by_cases h1 : sp s[k] = true
   ·have HN : Hid (scan (s.data.toList.drop (k + 1)) (x, f) = scan (s.data.toList.drop k) (x, f)) := scan_space hlt (x, f) h1
    have hge0 := hspi.2 h1
    clear hspi
    go_wp2_with fail
    refine (indexByte_any _ [32, 9, 13, 10] rfl _ _).mono ?_
    rintro e w' ⟨rfl, hw'⟩
    have hw'' := hw'.symm
    subst hw''
    go_wp2
    go_roundw
    case rel => exact ⟨k + 1, x, f, by omega, by go_num, rfl, rfl, by omega, by omega, hown, hbel, by rw [← hsc.out]; exact HN.out⟩
    case measure => simp [intOf]; omega
   ·have hge0 : ¬ 0 ≤ Lib.indexByte [32, 9, 13, 10] s[k] := fun h => h1 (hspi.1 h)
    rw [Bool.not_eq_true] at h1
    clear hspi
    have e61 := byte_eq_ofNat s[k] 61 (by decide) 61 rfl 61 rfl
    by_cases h2 : s[k] = 61
    ·have HN : Hid (scan (s.data.toList.drop (k + 1)) (x ++ [0], f + 1) = scan (s.data.toList.drop k) (x, f)) := scan_fill hlt x f h1 h2
     have e61' : ((s[k].toNat : Int) == 61) = true := by rw [e61]; simp [h2]
     clear h2 e61
     go_wp2_with fail
     refine (indexByte_any _ [32, 9, 13, 10] rfl _ _).mono ?_
     rintro e w' ⟨rfl, hw'⟩
     have hw'' := hw'.symm
     subst hw''
     go_wp2_with fail
     refine wp_loop_rounds 7 ?_
     rw [rounds_succ]
     go_wp2_with (at_builtin; refine wpList_append_own _ rfl (.tmp 51) (.tmp 56) 113 rfl w.heap.size 3 i0 (.int .i64 0) 1 8 Tryz.underlying113 hi hz0 hz1 hz2 rfl (by decide) _ _ _ rfl (hown.alloc _) ⟨wr.heap.size, 0, none⟩ 1 1 [.int .i64 (0)] rfl rfl (cell_one _ _ _ rfl) (one_int _) (by unfold maxLen; omega) (by omega) (by simp; omega) ?_)
     intro v1 w1 own1 grow1 _
     have bel1 : Below w.heap.size w w1 := push_below hown hbel hsz grow1
     have sz1 := bel1.size
     clear grow1 hown
     go_wp2
     rw [rounds_succ]
     go_wp2_with (at_builtin; refine wpList_append_own _ rfl (.tmp 51) (.tmp 56) 113 rfl w.heap.size 3 i0 (.int .i64 0) 1 8 Tryz.underlying113 hi hz0 hz1 hz2 rfl (by decide) _ _ _ rfl (own1.alloc _) ⟨w1.heap.size, 0, none⟩ 1 1 [.int .i64 (0)] rfl rfl (cell_one _ _ _ rfl) (one_int _) (by unfold maxLen; omega) (by omega) (by simp; omega) ?_)
     intro v2 w2 own2 grow2 _
     have bel2 : Below w.heap.size w w2 := push_below own1 bel1 sz1 grow2
     have sz2 := bel2.size
     clear grow2 own1
     go_wp2
     rw [rounds_succ]
     go_wp2_with (at_builtin; refine wpList_append_own _ rfl (.tmp 51) (.tmp 56) 113 rfl w.heap.size 3 i0 (.int .i64 0) 1 8 Tryz.underlying113 hi hz0 hz1 hz2 rfl (by decide) _ _ _ rfl (own2.alloc _) ⟨w2.heap.size, 0, none⟩ 1 1 [.int .i64 (0)] rfl rfl (cell_one _ _ _ rfl) (one_int _) (by unfold maxLen; omega) (by omega) (by simp; omega) ?_)
     intro v3 w3 own3 grow3 _
     have bel3 : Below w.heap.size w w3 := push_below own2 bel2 sz2 grow3
     have sz3 := bel3.size
     clear grow3 own2
     go_wp2
     rw [rounds_succ]
     go_wp2_with (at_builtin; refine wpList_append_own _ rfl (.tmp 51) (.tmp 56) 113 rfl w.heap.size 3 i0 (.int .i64 0) 1 8 Tryz.underlying113 hi hz0 hz1 hz2 rfl (by decide) _ _ _ rfl (own3.alloc _) ⟨w3.heap.size, 0, none⟩ 1 1 [.int .i64 (0)] rfl rfl (cell_one _ _ _ rfl) (one_int _) (by unfold maxLen; omega) (by omega) (by simp; omega) ?_)
     intro v4 w4 own4 grow4 _
     have bel4 : Below w.heap.size w w4 := push_below own3 bel3 sz3 grow4
     have sz4 := bel4.size
     clear grow4 own3
     go_wp2
     rw [rounds_succ]
     go_wp2_with (at_builtin; refine wpList_append_own _ rfl (.tmp 51) (.tmp 56) 113 rfl w.heap.size 3 i0 (.int .i64 0) 1 8 Tryz.underlying113 hi hz0 hz1 hz2 rfl (by decide) _ _ _ rfl (own4.alloc _) ⟨w4.heap.size, 0, none⟩ 1 1 [.int .i64 (0)] rfl rfl (cell_one _ _ _ rfl) (one_int _) (by unfold maxLen; omega) (by omega) (by simp; omega) ?_)
     intro v5 w5 own5 grow5 _
     have bel5 : Below w.heap.size w w5 := push_below own4 bel4 sz4 grow5
     have sz5 := bel5.size
     clear grow5 own4
     go_wp2
     rw [rounds_succ]
     go_wp2_with (at_builtin; refine wpList_append_own _ rfl (.tmp 51) (.tmp 56) 113 rfl w.heap.size 3 i0 (.int .i64 0) 1 8 Tryz.underlying113 hi hz0 hz1 hz2 rfl (by decide) _ _ _ rfl (own5.alloc _) ⟨w5.heap.size, 0, none⟩ 1 1 [.int .i64 (0)] rfl rfl (cell_one _ _ _ rfl) (one_int _) (by unfold maxLen; omega) (by omega) (by simp; omega) ?_)
     intro v6 w6 own6 grow6 _
     have bel6 : Below w.heap.size w w6 := push_below own5 bel5 sz5 grow6
     have sz6 := bel6.size
     clear grow6 own5
     go_wp2
     rw [rounds_succ]
     go_wp2
     have R : w6.ownsRow w.heap.size 3 1 v6 (flat (x ++ [0])).length (iv (flat (x ++ [0]))) := by
      rw [flat_snoc]
      simpa [iv, bits6, Nat.add_assoc] using own6
     go_roundw
     case rel => exact ⟨k + 1, x ++ [0], f + 1, by omega, by go_num, by go_num, by simp, by simp; omega, by omega, R, bel6, by rw [← hsc.out]; exact HN.out⟩
     case measure => simp [intOf]; omega
    ·have e61' : ((s[k].toNat : Int) == 61) = false := by rw [e61]; simp [h2]
     have hge := idx_ge s[k]
     have hltI := idx_lt s[k]
     by_cases h3 : Lib.indexByte abc s[k] < 0 ∨ 0 < f
     ·have HN : Hid (scan (s.data.toList.drop k) (x, f) = none) := scan_bad hlt x f h1 h2 h3
      have hbad : Hid (readS s.data.toList = ([], 1)) := readS_bad (by rw [Array.length_toList]; exact hs) (by rw [← hsc.out]; exact HN.out)
      clear h2 e61
      by_cases h4 : Lib.indexByte abc s[k] < 0
      all_goals
       have hd : decide (Lib.indexByte abc s[k] < 0) = decide (Lib.indexByte abc s[k] < 0) := rfl
       go_wp2_with fail
       refine (indexByte_any _ [32, 9, 13, 10] rfl _ _).mono ?_
       rintro e w' ⟨rfl, hw'⟩
       have hw'' := hw'.symm
       subst hw''
       go_wp2_with fail
       refine (indexByte_any _ abc rfl _ _).mono ?_
       rintro e w' ⟨rfl, hw'⟩
       have hw'' := hw'.symm
       subst hw''
      ·go_wp2
       go_ret2
       rw [hbad.out]
       exact readPostN_none hbel 1
      ·have hd : decide (Lib.indexByte abc s[k] < 0) = false := by simpa using h4
       have hf : (0 : Int) < (f : Int) := by omega
       go_wp2
       go_ret2
       rw [hbad.out]
       exact readPostN_none hbel 1
     ·obtain ⟨I, hI⟩ : ∃ I : Nat, Lib.indexByte abc s[k] = (I : Int) := ⟨(Lib.indexByte abc s[k]).toNat, by omega⟩
      have HN : Hid (scan (s.data.toList.drop (k + 1)) (x ++ [UInt8.ofNat I], f) = scan (s.data.toList.drop k) (x, f)) := scan_letter hlt x f I h1 h2 hI (by omega)
      have hI64 : I < 64 := by omega
      have hf0 : ¬ 0 < f := by omega
      have hd2 : decide ((0 : Int) < (f : Int)) = false := by simp; omega
      clear h2 e61 h3 hge hltI
      go_wp2_with fail
      refine (indexByte_any _ [32, 9, 13, 10] rfl _ _).mono ?_
      rintro e w' ⟨rfl, hw'⟩
      have hw'' := hw'.symm
      subst hw''
      go_wp2_with fail
      refine (indexByte_any _ abc rfl _ _).mono ?_
      rintro e w' ⟨rfl, hw'⟩
      have hw'' := hw'.symm
      subst hw''
      rw [hI]
      go_wp2_with fail
      refine wp_loop_rounds 7 ?_
      rw [rounds_succ]
      go_wp2_with (at_builtin; refine wpList_append_own _ rfl (.tmp 51) (.tmp 56) 113 rfl w.heap.size 3 i0 (.int .i64 0) 1 8 Tryz.underlying113 hi hz0 hz1 hz2 rfl (by decide) _ _ _ rfl (hown.alloc _) ⟨wr.heap.size, 0, none⟩ 1 1 [.int .i64 ((I : Int) / 32 % 2)] rfl rfl (cell_one _ _ _ rfl) (one_int _) (by unfold maxLen; omega) (by omega) (by simp; omega) ?_)
      intro v1 w1 own1 grow1 _
      have bel1 : Below w.heap.size w w1 := push_below hown hbel hsz grow1
      have sz1 := bel1.size
      clear grow1 hown
      go_wp2
      rw [rounds_succ]
      go_wp2_with (at_builtin; refine wpList_append_own _ rfl (.tmp 51) (.tmp 56) 113 rfl w.heap.size 3 i0 (.int .i64 0) 1 8 Tryz.underlying113 hi hz0 hz1 hz2 rfl (by decide) _ _ _ rfl (own1.alloc _) ⟨w1.heap.size, 0, none⟩ 1 1 [.int .i64 ((I : Int) / 16 % 2)] rfl rfl (cell_one _ _ _ rfl) (one_int _) (by unfold maxLen; omega) (by omega) (by simp; omega) ?_)
      intro v2 w2 own2 grow2 _
      have bel2 : Below w.heap.size w w2 := push_below own1 bel1 sz1 grow2
      have sz2 := bel2.size
      clear grow2 own1
      go_wp2
      rw [rounds_succ]
      go_wp2_with (at_builtin; refine wpList_append_own _ rfl (.tmp 51) (.tmp 56) 113 rfl w.heap.size 3 i0 (.int .i64 0) 1 8 Tryz.underlying113 hi hz0 hz1 hz2 rfl (by decide) _ _ _ rfl (own2.alloc _) ⟨w2.heap.size, 0, none⟩ 1 1 [.int .i64 ((I : Int) / 8 % 2)] rfl rfl (cell_one _ _ _ rfl) (one_int _) (by unfold maxLen; omega) (by omega) (by simp; omega) ?_)
      intro v3 w3 own3 grow3 _
      have bel3 : Below w.heap.size w w3 := push_below own2 bel2 sz2 grow3
      have sz3 := bel3.size
      clear grow3 own2
      go_wp2
      rw [rounds_succ]
      go_wp2_with (at_builtin; refine wpList_append_own _ rfl (.tmp 51) (.tmp 56) 113 rfl w.heap.size 3 i0 (.int .i64 0) 1 8 Tryz.underlying113 hi hz0 hz1 hz2 rfl (by decide) _ _ _ rfl (own3.alloc _) ⟨w3.heap.size, 0, none⟩ 1 1 [.int .i64 ((I : Int) / 4 % 2)] rfl rfl (cell_one _ _ _ rfl) (one_int _) (by unfold maxLen; omega) (by omega) (by simp; omega) ?_)
      intro v4 w4 own4 grow4 _
      have bel4 : Below w.heap.size w w4 := push_below own3 bel3 sz3 grow4
      have sz4 := bel4.size
      clear grow4 own3
      go_wp2
      rw [rounds_succ]
      go_wp2_with (at_builtin; refine wpList_append_own _ rfl (.tmp 51) (.tmp 56) 113 rfl w.heap.size 3 i0 (.int .i64 0) 1 8 Tryz.underlying113 hi hz0 hz1 hz2 rfl (by decide) _ _ _ rfl (own4.alloc _) ⟨w4.heap.size, 0, none⟩ 1 1 [.int .i64 ((I : Int) / 2 % 2)] rfl rfl (cell_one _ _ _ rfl) (one_int _) (by unfold maxLen; omega) (by omega) (by simp; omega) ?_)
      intro v5 w5 own5 grow5 _
      have bel5 : Below w.heap.size w w5 := push_below own4 bel4 sz4 grow5
      have sz5 := bel5.size
      clear grow5 own4
      go_wp2
      rw [rounds_succ]
      go_wp2_with (at_builtin; refine wpList_append_own _ rfl (.tmp 51) (.tmp 56) 113 rfl w.heap.size 3 i0 (.int .i64 0) 1 8 Tryz.underlying113 hi hz0 hz1 hz2 rfl (by decide) _ _ _ rfl (own5.alloc _) ⟨w5.heap.size, 0, none⟩ 1 1 [.int .i64 ((I : Int) % 2)] rfl rfl (cell_one _ _ _ rfl) (one_int _) (by unfold maxLen; omega) (by omega) (by simp; omega) ?_)
      intro v6 w6 own6 grow6 _
      have bel6 : Below w.heap.size w w6 := push_below own5 bel5 sz5 grow6
      have sz6 := bel6.size
      clear grow6 own5
      go_wp2
      rw [rounds_succ]
      go_wp2
      have R : w6.ownsRow w.heap.size 3 1 v6 (flat (x ++ [UInt8.ofNat I])).length (iv (flat (x ++ [UInt8.ofNat I]))) := by
       rw [flat_snoc, show (UInt8.ofNat I).toNat = I from by simp; omega]
       simpa [iv, bits6, Nat.add_assoc] using own6
      go_roundw
      case rel => exact ⟨k + 1, x ++ [UInt8.ofNat I], f, by omega, by go_num, by go_num, by simp, by simp; omega, by omega, R, bel6, by rw [← hsc.out]; exact HN.out⟩
      case measure => simp [intOf]; omega
  ·obtain rfl : k = s.size := by omega
   have hfin : scan s.data.toList ([], 0) = some (x, f) := by
    rw [← hsc.out, List.drop_of_length_le (by rw [Array.length_toList]; exact Nat.le_refl _)]; rfl
   obtain ⟨hb64, hfx, _⟩ := scan_bounds _ _ _ _ hfin (by simp) (by simp)
   have hRS := readS_some (by rw [Array.length_toList]; exact hs) hfin
   clear hfin hsc
   by_cases h4 : x.length % 4 = 0
   ·by_cases h2 : 2 < f
    ·have hbad : Hid (readS s.data.toList = ([], 1)) := by unfold Hid; rw [hRS, if_pos (.inl h2)]
     have hb4 : ((x.length : Int) % 4 != 0) = false := by rw [bne_eq_false_iff_eq]; omega
     clear hRS hown HF
     go_wp2
     go_ret2
     rw [hbad.out]
     exact readPostN_none hbel 1
    ·have HR : Hid (readS s.data.toList = match cutS (joinS x) f with | none => ([], 1) | some b => if 4000 < b.length then ([], 2) else (b, 0)) := by
      unfold Hid; rw [hRS, if_neg (by omega)]
     have hb4 : ((x.length : Int) % 4 != 0) = false := by rw [bne_eq_false_iff_eq]; omega
     have hd2 : decide ((2 : Int) < (f : Int)) = false := by simp; omega
     have HJ : Hid ((joinS x).length = 3 * (x.length / 4)) := joinTo_length x _
     clear hRS
     rcases hown.2 with ⟨rfl, hx0⟩ | ⟨gb, cap, cur, rfl, hgb, hh, hnc, hcp, hcs, htake⟩
     ·have hx1 : x = [] := by have := HF.out; exact List.length_eq_zero_iff.1 (by omega)
      subst hx1
      obtain rfl : f = 0 := by simpa using hfx
      have hr : Hid (readS s.data.toList = ([], 0)) := by unfold Hid; rw [HR.out]; rfl
      clear hown HF HR HJ hx0 hb64 hfx hb4 hd2
      go_wp2_with fail
      refine wp_loop_rounds 1 ?_
      rw [rounds_succ]
      go_wp2_with fail
      refine wp_loop_rounds 1 ?_
      rw [rounds_succ]
      go_wp2
      go_ret2
      rw [hr.out]
      exact readPostN_none hbel 0
     ·obtain ⟨wo, rfl⟩ : ∃ wo : World, wo = wr := ⟨_, rfl⟩
      obtain ⟨G, hG⟩ : ∃ G, G = 3 * (x.length / 4) := ⟨_, rfl⟩
      have hGa : (flat x).length ≤ 8 * G := by have := HF.out; omega
      have hGb : 8 * G ≤ (flat x).length := by have := HF.out; omega
      have hJl : Hid ((joinS x).length = G) := by unfold Hid; rw [HJ.out, hG]
      have hgl : gb < wo.heap.size := (Array.getElem?_eq_some_iff.1 hh).1
      have hcells : ∀ i, i < (flat x).length → wo.cell? ⟨gb, i, none⟩ = some (.int .i64 (((flat x).getD i 0 : Nat) : Int)) := by
       intro i hi
       rw [hown.cellAt i (by omega)]
       simp [iv, hi, List.getD_eq_getElem?_getD]
      have hG6 : G ≤ 6000 := by omega
      have hfG : f ≤ G := by omega
      have HG : Hid (G = 3 * (x.length / 4)) := hG
      clear hown HF HJ hh hcs htake hG
      go_wp2_with fail
      go_loopw [10, 11] (fun ov qv wr => ∃ q : Nat, q ≤ G ∧ qv = .int .i64 ((8 * q : Nat) : Int) ∧ wr.ownsRow wo.heap.size 5 1 ov ((joinS x).take q).length (bv ((joinS x).take q)) ∧ Below wo.heap.size wo wr)
       (fun _ qv _ => 8 * G + 8 - (intOf qv).toNat)
      case atStart => exact ⟨0, Nat.zero_le _, rfl, World.ownsRow_nil _ _ _ _, Below.refl _ _⟩
      case round =>
       obtain ⟨q, hq, rfl, hown2, hbel2⟩ := hrel
       have hsz2 := hbel2.size
       by_cases hlq : q < G
       ·have hcb : ∀ i, i < (flat x).length → wr.cell? ⟨gb, i, none⟩ = some (.int .i64 (((flat x).getD i 0 : Nat) : Int)) := fun i hi => (hbel2.cell (p := ⟨gb, i, none⟩) hgl).trans (hcells i hi)
        have HBY : Hid _ := byte_bits x hb64 q (by have := HG.out; omega)
        have hql : ((joinS x).take q).length ≤ 6000 := by rw [List.length_take]; omega
        have c0 : wr.cell? ⟨gb, 8 * q, none⟩ = some (.int .i64 (((flat x).getD (8 * q) 0 : Nat) : Int)) := hcb (8 * q) (by omega)
        have l0 := flat_le x (8 * q)
        have c1 : wr.cell? ⟨gb, 8 * q + 1, none⟩ = some (.int .i64 (((flat x).getD (8 * q + 1) 0 : Nat) : Int)) := hcb (8 * q + 1) (by omega)
        have l1 := flat_le x (8 * q + 1)
        have c2 : wr.cell? ⟨gb, 8 * q + 2, none⟩ = some (.int .i64 (((flat x).getD (8 * q + 2) 0 : Nat) : Int)) := hcb (8 * q + 2) (by omega)
        have l2 := flat_le x (8 * q + 2)
        have c3 : wr.cell? ⟨gb, 8 * q + 3, none⟩ = some (.int .i64 (((flat x).getD (8 * q + 3) 0 : Nat) : Int)) := hcb (8 * q + 3) (by omega)
        have l3 := flat_le x (8 * q + 3)
        have c4 : wr.cell? ⟨gb, 8 * q + 4, none⟩ = some (.int .i64 (((flat x).getD (8 * q + 4) 0 : Nat) : Int)) := hcb (8 * q + 4) (by omega)
        have l4 := flat_le x (8 * q + 4)
        have c5 : wr.cell? ⟨gb, 8 * q + 5, none⟩ = some (.int .i64 (((flat x).getD (8 * q + 5) 0 : Nat) : Int)) := hcb (8 * q + 5) (by omega)
        have l5 := flat_le x (8 * q + 5)
        have c6 : wr.cell? ⟨gb, 8 * q + 6, none⟩ = some (.int .i64 (((flat x).getD (8 * q + 6) 0 : Nat) : Int)) := hcb (8 * q + 6) (by omega)
        have l6 := flat_le x (8 * q + 6)
        have c7 : wr.cell? ⟨gb, 8 * q + 7, none⟩ = some (.int .i64 (((flat x).getD (8 * q + 7) 0 : Nat) : Int)) := hcb (8 * q + 7) (by omega)
        have l7 := flat_le x (8 * q + 7)
        have HTK : Hid ((joinS x).take (q + 1) = (joinS x).take q ++ [(joinS x).getD q 0]) := by
         have hql' : q < (joinS x).length := by have := hJl.out; omega
         unfold Hid
         rw [List.take_succ_eq_append_getElem hql']
         simp [List.getD_eq_getElem?_getD, List.getElem?_eq_getElem hql']
        clear hcells hcb
        generalize (flat x).getD (8 * q) 0 = b0 at c0 l0 HBY
        generalize (flat x).getD (8 * q + 1) 0 = b1 at c1 l1 HBY
        generalize (flat x).getD (8 * q + 2) 0 = b2 at c2 l2 HBY
        generalize (flat x).getD (8 * q + 3) 0 = b3 at c3 l3 HBY
        generalize (flat x).getD (8 * q + 4) 0 = b4 at c4 l4 HBY
        generalize (flat x).getD (8 * q + 5) 0 = b5 at c5 l5 HBY
        generalize (flat x).getD (8 * q + 6) 0 = b6 at c6 l6 HBY
        generalize (flat x).getD (8 * q + 7) 0 = b7 at c7 l7 HBY
        obtain ⟨C1, hC1⟩ : ∃ C, C = b0 * 2 + b1 := ⟨_, rfl⟩
        rw [← hC1] at HBY
        have r1 : 2 * (b0 : Int) + (b1 : Int) = (C1 : Int) := by omega
        have k1 : C1 < 4 := by omega
        clear hC1
        obtain ⟨C2, hC2⟩ : ∃ C, C = C1 * 2 + b2 := ⟨_, rfl⟩
        rw [← hC2] at HBY
        have r2 : 2 * (C1 : Int) + (b2 : Int) = (C2 : Int) := by omega
        have k2 : C2 < 8 := by omega
        clear hC2
        obtain ⟨C3, hC3⟩ : ∃ C, C = C2 * 2 + b3 := ⟨_, rfl⟩
        rw [← hC3] at HBY
        have r3 : 2 * (C2 : Int) + (b3 : Int) = (C3 : Int) := by omega
        have k3 : C3 < 16 := by omega
        clear hC3
        obtain ⟨C4, hC4⟩ : ∃ C, C = C3 * 2 + b4 := ⟨_, rfl⟩
        rw [← hC4] at HBY
        have r4 : 2 * (C3 : Int) + (b4 : Int) = (C4 : Int) := by omega
        have k4 : C4 < 32 := by omega
        clear hC4
        obtain ⟨C5, hC5⟩ : ∃ C, C = C4 * 2 + b5 := ⟨_, rfl⟩
        rw [← hC5] at HBY
        have r5 : 2 * (C4 : Int) + (b5 : Int) = (C5 : Int) := by omega
        have k5 : C5 < 64 := by omega
        clear hC5
        obtain ⟨C6, hC6⟩ : ∃ C, C = C5 * 2 + b6 := ⟨_, rfl⟩
        rw [← hC6] at HBY
        have r6 : 2 * (C5 : Int) + (b6 : Int) = (C6 : Int) := by omega
        have k6 : C6 < 128 := by omega
        clear hC6
        obtain ⟨C7, hC7⟩ : ∃ C, C = C6 * 2 + b7 := ⟨_, rfl⟩
        rw [← hC7] at HBY
        have r7 : 2 * (C6 : Int) + (b7 : Int) = (C7 : Int) := by omega
        have k7 : C7 < 256 := by omega
        clear hC7
        go_wp2_with fail
        refine wp_loop_rounds 9 ?_
        rw [rounds_succ]
        go_wp2
        rw [rounds_succ]
        go_wp2
        rw [rounds_succ]
        go_wp2
        rw [rounds_succ]
        go_wp2
        rw [rounds_succ]
        go_wp2
        rw [rounds_succ]
        go_wp2
        rw [rounds_succ]
        go_wp2
        rw [rounds_succ]
        go_wp2
        rw [rounds_succ]
        go_wp2_with (at_builtin; refine wpList_append_own _ rfl (.tmp 87) (.tmp 90) 22 rfl wo.heap.size 5 i5 (.int .u8 0) 1 1 Tryz.underlying22 hi5 hy0 hy1 hy2 rfl (by decide) _ _ _ rfl (hown2.alloc _) ⟨wr.heap.size, 0, none⟩ 1 1 [.int .u8 (C7 : Int)] rfl rfl (cell_one _ _ _ rfl) (one_int _) (by unfold maxLen; omega) (by omega) (by simp; omega) ?_)
        intro v' w1 hown' hgrow _
        have RB : Below wo.heap.size wo w1 := push_below hown2 hbel2 hsz2 hgrow
        have R : w1.ownsRow wo.heap.size 5 1 v' ((joinS x).take (q + 1)).length (bv ((joinS x).take (q + 1))) := by
         rw [HTK.out, bv_append, List.length_append, List.length_take]
         rw [HBY.out] at hown'
         exact hown'
        clear hown' hgrow hown2
        go_wp2
        go_roundw
        case rel => exact ⟨q + 1, by omega, by go_num, R, RB⟩
        case measure => simp [intOf]; omega
       ·obtain rfl : q = G := by omega
        have hall : (joinS x).take q = joinS x := List.take_of_length_le (by have := hJl.out; omega)
        rw [hall] at hown2
        obtain ⟨p2, c2, rfl, hd1, hd2', hp2, hrow2⟩ := owned_row hown2
        have HFP : Hid (FreshP w wr p2 c2) := own_freshP hown2 (by first | exact Nat.le_refl _ | exact hbel.size | omega)
        have hball : Below w.heap.size w wr := hbel.trans (hbel2.mono hbel.size)
        have hJ6 : (joinS x).length ≤ 6000 := by have := hJl.out; omega
        have hfJ : f ≤ (joinS x).length := by have := hJl.out; omega
        clear hown2 hcells hb64 hall hbel2 hsz2 hbel hsz HG hJl
        generalize joinS x = J at *
        rcases (by omega : f = 0 ∨ f = 1 ∨ f = 2) with rfl | rfl | rfl
        ·have hcut : Hid (cutS J 0 = some J) := by simp [Hid, cutS]
         by_cases h4 : 4000 < J.length
         ·have hr : Hid (readS s.data.toList = ([], 2)) := by unfold Hid; rw [HR.out, hcut.out]; simp only [if_pos h4]
          go_wp2_with fail
          refine wp_loop_rounds 1 ?_
          rw [rounds_succ]
          go_wp2
          go_ret2
          rw [hr.out]
          exact readPostN_none hball 2
         ·have hr : Hid (readS s.data.toList = (J, 0)) := by unfold Hid; rw [HR.out, hcut.out]; simp only [if_neg h4]
          go_wp2_with fail
          refine wp_loop_rounds 1 ?_
          rw [rounds_succ]
          go_wp2
          go_ret2
          rw [hr.out]
          exact ⟨hball, _, c2, rfl, hd1, hd2', hrow2, HFP.out⟩
        ·obtain ⟨m, hm⟩ : ∃ m, J.length = m + 1 := ⟨J.length - 1, by omega⟩
         obtain ⟨b2, o2, rfl, hc2⟩ := hrow2 (fun e => by rw [e] at hm; simp at hm)
         have htk : BRow wr (some ⟨b2, o2, none⟩) (J.take m) := hrow2.take m
         have hcell := hc2 m (by omega)
         have hcut : Hid (cutS J 1 = if (J.getD m 0).toNat = 0 then some (J.take m) else none) := cutS_one J m hm
         have htl : Hid ((J.take m).length = m) := by unfold Hid; rw [List.length_take]; omega
         generalize (J.getD m 0).toNat = z at hcell hcut
         have hm6 : m + 1 ≤ c2 := by omega
         have hmb : m ≤ 6000 := by omega
         rw [hm]
         clear hm hc2 hrow2 hd1 hJ6 hfJ hp2
         by_cases hz : z = 0
         ·subst hz
          by_cases h4 : 4000 < m
          ·have hr : Hid (readS s.data.toList = ([], 2)) := by unfold Hid; rw [HR.out, hcut.out, if_pos rfl]; simp only [htl.out, if_pos h4]
           go_wp2_with fail
           refine wp_loop_rounds 2 ?_
           rw [rounds_succ]
           go_wp2
           rw [rounds_succ]
           go_wp2
           go_ret2
           rw [hr.out]
           exact readPostN_none hball 2
          ·have hr : Hid (readS s.data.toList = (J.take m, 0)) := by unfold Hid; rw [HR.out, hcut.out, if_pos rfl]; simp only [htl.out, if_neg h4]
           go_wp2_with fail
           refine wp_loop_rounds 2 ?_
           rw [rounds_succ]
           go_wp2
           rw [rounds_succ]
           go_wp2
           go_ret2
           rw [hr.out]
           exact ⟨hball, _, c2, by rw [htl.out]; rfl, by have := htl.out; simp only; omega, hd2', htk, HFP.out⟩
         ·have hb : ((z : Int) != 0) = true := by rw [bne_iff_ne]; omega
          have hr : Hid (readS s.data.toList = ([], 1)) := by unfold Hid; rw [HR.out, hcut.out, if_neg hz]
          go_wp2_with fail
          refine wp_loop_rounds 2 ?_
          rw [rounds_succ]
          go_wp2
          go_ret2
          rw [hr.out]
          exact readPostN_none hball 1
        ·obtain ⟨m, hm⟩ : ∃ m, J.length = m + 2 := ⟨J.length - 2, by omega⟩
         obtain ⟨b2, o2, rfl, hc2⟩ := hrow2 (fun e => by rw [e] at hm; simp at hm)
         have htk : BRow wr (some ⟨b2, o2, none⟩) (J.take m) := hrow2.take m
         have hcell := hc2 m (by omega)
         have hcell1 := hc2 (m + 1) (by omega)
         have hcut : Hid (cutS J 2 = if (J.getD m 0).toNat = 0 ∧ (J.getD (m + 1) 0).toNat = 0 then some (J.take m) else none) := cutS_two J m hm
         have htl : Hid ((J.take m).length = m) := by unfold Hid; rw [List.length_take]; omega
         generalize (J.getD m 0).toNat = z at hcell hcut
         generalize (J.getD (m + 1) 0).toNat = u at hcell1 hcut
         have hm6 : m + 2 ≤ c2 := by omega
         have hmb : m ≤ 6000 := by omega
         rw [hm]
         clear hm hc2 hrow2 hd1 hJ6 hfJ hp2
         by_cases hu : u = 0
         ·subst hu
          by_cases hz : z = 0
          ·subst hz
           by_cases h4 : 4000 < m
           ·have hr : Hid (readS s.data.toList = ([], 2)) := by unfold Hid; rw [HR.out, hcut.out, if_pos ⟨rfl, rfl⟩]; simp only [htl.out, if_pos h4]
            go_wp2_with fail
            refine wp_loop_rounds 3 ?_
            rw [rounds_succ]
            go_wp2
            rw [rounds_succ]
            go_wp2
            rw [rounds_succ]
            go_wp2
            go_ret2
            rw [hr.out]
            exact readPostN_none hball 2
           ·have hr : Hid (readS s.data.toList = (J.take m, 0)) := by unfold Hid; rw [HR.out, hcut.out, if_pos ⟨rfl, rfl⟩]; simp only [htl.out, if_neg h4]
            go_wp2_with fail
            refine wp_loop_rounds 3 ?_
            rw [rounds_succ]
            go_wp2
            rw [rounds_succ]
            go_wp2
            rw [rounds_succ]
            go_wp2
            go_ret2
            rw [hr.out]
            exact ⟨hball, _, c2, by rw [htl.out]; rfl, by have := htl.out; simp only; omega, hd2', htk, HFP.out⟩
          ·have hb : ((z : Int) != 0) = true := by rw [bne_iff_ne]; omega
           have hr : Hid (readS s.data.toList = ([], 1)) := by unfold Hid; rw [HR.out, hcut.out, if_neg (fun h => hz h.1)]
           go_wp2_with fail
           refine wp_loop_rounds 3 ?_
           rw [rounds_succ]
           go_wp2
           rw [rounds_succ]
           go_wp2
           go_ret2
           rw [hr.out]
           exact readPostN_none hball 1
         ·have hb : ((u : Int) != 0) = true := by rw [bne_iff_ne]; omega
          have hr : Hid (readS s.data.toList = ([], 1)) := by unfold Hid; rw [HR.out, hcut.out, if_neg (fun h => hu h.2)]
          go_wp2_with fail
          refine wp_loop_rounds 3 ?_
          rw [rounds_succ]
          go_wp2
          go_ret2
          rw [hr.out]
          exact readPostN_none hball 1
   ·have hbad : Hid (readS s.data.toList = ([], 1)) := by unfold Hid; rw [hRS, if_pos (.inr h4)]
    have hb4 : ((x.length : Int) % 4 != 0) = true := by rw [bne_iff_ne]; omega
    clear hRS hown HF
    go_wp2
    go_ret2
    rw [hbad.out]
    exact readPostN_none hbel 1
theorem bread_new (s : ByteArray) (w : World) (h : s.size ≤ maxLen) :
  Calls Tryz.prog 47 #[.string s] w fun e w' => ReadPostN w (readS s.data.toList) e w' := by
 by_cases h8 : 8000 < s.size
 ·refine (bread_many s w h h8).mono ?_
  rintro e w' ⟨rfl, rfl⟩
  have : readS s.data.toList = ([], 2) := by
   unfold readS; rw [if_pos (by rw [Array.length_toList]; exact h8)]
  rw [this]
  exact readPostN_none (Below.refl _ _) 2
 ·exact bread_few s w (by omega)
end Go.Proofs.YtlndhdimamnnlaaGreatDoor

