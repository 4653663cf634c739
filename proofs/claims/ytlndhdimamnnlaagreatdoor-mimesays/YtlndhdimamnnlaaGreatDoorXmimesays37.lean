
import Derived.Test.YtlndhdimamnnlaaGreatDoorXmimesays29
import Derived.Test.YtlndhdimamnnlaaGreatDoorXmimesays36
namespace Go.Proofs.YtlndhdimamnnlaaGreatDoor
open Go.RowKit
theorem ba_nil {s : ByteArray} (h : s.size = 0) : s = ⟨#[]⟩ := by
 apply ByteArray.ext
 exact Array.eq_empty_of_size_eq_zero h
theorem ba_ne {s : ByteArray} (h : 0 < s.size) : s.toList.isEmpty = false := by
 rw [ByteArray.toList_eq]
 cases e : s.data.toList with
 | nil => have := Lib.size_eq s; rw [e, List.length_nil] at this; omega
 | cons _ _ => rfl
theorem lineQ_of {Y S1 s7 : List UInt8} {W : Bool} (h : (if endsQ Y 10 = true then Y.dropLast else Y) = S1 ∧ endsQ Y 10 = W) (h1 : stripR s7 = stripR S1) (h2 : stripR s7 = s7) (h3 : endsQ s7 61 = false) : lineQ Y = (s7, W) := by
 unfold lineQ
 rw [h.1, h.2, ← h1, h2, h3]
 rfl
theorem lineQ_soft {Y S1 s7 : List UInt8} {W : Bool} (h : (if endsQ Y 10 = true then Y.dropLast else Y) = S1 ∧ endsQ Y 10 = W) (h1 : stripR s7 = stripR S1) (h2 : stripR s7 = s7) (h3 : endsQ s7 61 = true) : lineQ Y = (s7.dropLast, false) := by
 unfold lineQ
 rw [h.1, ← h1, h2, h3]
 rfl
theorem linesQ_step {Y T : List UInt8} {W : Bool} {d o : List UInt8} {rest : List (List UInt8)} (hq : lineQ Y = (T, W)) (hd : decQ T = some d) :
  linesQ (Y :: rest) o = if 4000 < (o ++ d ++ (if W = true then [13, 10] else [])).length then ([], 2) else linesQ rest (o ++ d ++ (if W = true then [13, 10] else [])) := by
 rw [linesQ, hq]
 simp only [hd]
theorem linesQ_bad {Y T : List UInt8} {W : Bool} {o : List UInt8} {rest : List (List UInt8)} (hq : lineQ Y = (T, W)) (hd : decQ T = none) : linesQ (Y :: rest) o = ([], 1) := by
 rw [linesQ, hq]
 simp only [hd]
theorem two_int {k : IntKind} (n m : Int) : ∀ u ∈ [Value.int k n, Value.int k m], u.oneCell' = true := by
 intro u hu; simp at hu; rcases hu with rfl | rfl <;> rfl
theorem hexv_fin : ∀ n : Fin 256, isHex (UInt8.ofNat n.val) = true → hexv (UInt8.ofNat n.val) ≤ 15 := by decide +kernel
theorem hexv_15 (a : UInt8) (h : isHex a = true) : hexv a ≤ 15 := by
 have hc : UInt8.ofNat a.toNat = a := by simp
 have := hexv_fin ⟨a.toNat, a.toNat_lt⟩
 simp only [hc] at this
 exact this h
theorem qread_many (s : ByteArray) (w : World) (hs : s.size ≤ maxLen) (h : 16000 < s.size) :
  Calls Tryz.prog 48 #[.string s] w fun e w' => e = .returned (.tuple #[.slice none 0 0, .int .i64 2]) ∧ w' = w := by
 unfold maxLen at hs
 have h' : (16000 : Int) < (s.size : Int) := by omega
 go_enter Tryz.func48, Tryz.ntmps48
 go_wp2
 go_ret2
 exact ⟨rfl, rfl⟩
set_option maxHeartbeats 16000000 in
set_option maxRecDepth 100000 in
theorem qread_few (s : ByteArray) (m : Int) (w : World) (hs : s.size ≤ 16000) (hm : w.cell? ⟨1, 0, none⟩ = some (.int .i64 m)) :
  Calls Tryz.prog 48 #[.string s] w fun e w' => ReadPostN w (readQ s.data.toList) e w' := by
 obtain ⟨i5, hi5, hy0, hy1, hy2⟩ := info_parts info_u8
 have hsl : s.data.toList.length ≤ 16000 := by rw [Array.length_toList]; exact hs
 go_enter Tryz.func48, Tryz.ntmps48
 go_wp2_with fail
 refine (splitAfter_any s m w (by omega) hm).mono ?_
 rintro e w1 ⟨xs, hxs, hxl, rfl, hw1⟩
 have hxc : ∀ j, j < xs.length → w1.cell? ⟨w.heap.size, j, none⟩ = some (.string (xs.getD j ByteArray.empty)) := by
  intro j hj
  rw [hw1, World.cell?_alloc_at _ _ _ _ rfl]
  simp [List.getD_eq_getElem?_getD, hj]
 have hb1 : Below w.heap.size w w1 := by rw [hw1]; exact (Below.refl _ _).alloc (Nat.le_refl _) _
 have hg1 : w.heap.size < w1.heap.size := by rw [hw1]; simp
 have hple : ∀ j, j < xs.length → (xs.getD j ByteArray.empty).size ≤ 16000 := by
  intro j hj
  have h1 := splitK_le [10] 1 (Lib.count s.data.toList [10]) s.data.toList (xs.getD j ByteArray.empty).data.toList (by
   rw [← hxs, List.mem_map]
   exact ⟨_, by rw [List.getD_eq_getElem?_getD, List.getElem?_eq_getElem hj]; exact List.getElem_mem hj, rfl⟩)
  rw [Array.length_toList] at h1
  exact Nat.le_trans h1 hsl
 have HR : Hid (readQ s.data.toList = linesQ (xs.map (·.data.toList)) []) := by unfold Hid readQ; rw [if_neg (by omega), hxs]
 clear hxs hw1 hm hsl
 go_wp2_with fail
 go_loopw [4, 18] (fun ov iv wr => ∃ (j : Nat) (o : List UInt8), j ≤ xs.length ∧ iv = .int .i64 j ∧ o.length ≤ 4000 ∧ wr.ownsRow w1.heap.size 5 1 ov o.length (bv o) ∧ Below w1.heap.size w1 wr ∧ linesQ ((xs.map (·.data.toList)).drop j) o = linesQ (xs.map (·.data.toList)) [])
  (fun _ iv _ => xs.length - (intOf iv).toNat)
 case atStart => exact ⟨0, [], Nat.zero_le _, rfl, by simp, World.ownsRow_nil _ _ _ _, Below.refl _ _, rfl⟩
 case round =>
  obtain ⟨j, o, hj, rfl, ho4, hown, hbel, hln0⟩ := hrel
  have hln : Hid (linesQ ((xs.map (·.data.toList)).drop j) o = linesQ (xs.map (·.data.toList)) []) := hln0
  clear hln0
  have hsz := hbel.size
  by_cases hlt : j < xs.length
  ·have hcell := (hbel.cell (p := ⟨w.heap.size, j, none⟩) hg1).trans (hxc j hlt)
   have hS0 := hple j hlt
   have HD : Hid ((xs.map (·.data.toList)).drop j = (xs.getD j ByteArray.empty).data.toList :: (xs.map (·.data.toList)).drop (j + 1)) := by
    unfold Hid
    rw [List.drop_eq_getElem_cons (by simpa using hlt)]
    simp [List.getD_eq_getElem?_getD, List.getElem?_eq_getElem hlt]
   clear hxc hple
   generalize xs.getD j ByteArray.empty = S0 at *
   obtain ⟨Y, hY⟩ : ∃ Y, S0.data.toList = Y := ⟨_, rfl⟩
   rw [hY] at HD
   by_cases hE : endsQ Y 10 = true
   ·obtain ⟨n0, hn0⟩ : ∃ n0, S0.size = n0 + 1 := ⟨S0.size - 1, by
     have : S0.size ≠ 0 := fun e => by rw [← hY, ba_nil e] at hE; simp [endsQ] at hE
     omega⟩
    obtain ⟨c0, S1, _, y2, hS1s, hl1⟩ := ba_snoc S0 n0 hn0
    have hS1 : S1.size ≤ 16000 := by omega
    have HY : Hid ((if endsQ Y 10 = true then Y.dropLast else Y) = S1.data.toList ∧ endsQ Y 10 = true) := ⟨by rw [if_pos hE, ← hY, hl1]; simp, hE⟩
    have hsf := hasSuffix_one Y 10
    rw [hE, ← hY] at hsf
    clear hl1 hE hY
    go_wp2_with fail
    refine (Tryz.strings_HasSuffix S0 _ _ (by omega)).mono ?_
    rintro e w' ⟨rfl, hw'⟩
    have hw'' := hw'.symm
    subst hw''
    rw [show Lib.hasSuffix S0.data.toList (ByteArray.mk #[10]).data.toList = true from hsf]
    clear hsf
    go_wp2_with fail
    go_loop [7] (fun lv => ∃ s7 : ByteArray, lv = .string s7 ∧ s7.size ≤ 16000 ∧ stripR s7.data.toList = stripR S1.data.toList) (fun lv => strLen lv)
    case atStart => exact ⟨S1, rfl, hS1, rfl⟩
    case round =>
     obtain ⟨s7, rfl, hs7, hst0⟩ := hrel
     have hst : Hid (stripR s7.data.toList = stripR S1.data.toList) := hst0
     clear hst0
     by_cases hz : s7.size = 0
     ·obtain rfl : s7 = ⟨#[]⟩ := ba_nil hz
      have HQ : Hid (lineQ Y = ((ByteArray.mk #[]).data.toList, true)) := lineQ_of HY hst.out (by decide) (by decide)
      clear hst hz hs7
      go_wp2_with fail
      refine (Tryz.strings_HasSuffix ⟨#[]⟩ _ _ (by decide)).mono ?_
      rintro e w' ⟨rfl, hw'⟩
      have hw'' := hw'.symm
      subst hw''
      rw [show Lib.hasSuffix (ByteArray.mk #[]).data.toList (ByteArray.mk #[61]).data.toList = false from by decide]
      go_wp2_with fail
      have HST : Hid (linesQ (xs.map (·.data.toList)) [] = if 4000 < (o ++ [13, 10]).length then ([], 2) else linesQ ((xs.map (·.data.toList)).drop (j + 1)) (o ++ [13, 10])) := by
       unfold Hid; rw [← hln.out, HD.out, linesQ_step HQ.out (show decQ [] = some [] from rfl)]; simp
      clear HQ
      refine wp_loop_rounds 1 ?_
      rw [rounds_succ]
      go_wp2_with (at_builtin; refine wpList_append_own _ rfl (.tmp 87) (.tmp 88) 22 rfl w1.heap.size 5 i5 (.int .u8 0) 1 1 Tryz.underlying22 hi5 hy0 hy1 hy2 rfl (by decide) _ _ _ rfl (hown.alloc _) ⟨wr.heap.size, 0, none⟩ 2 2 [.int .u8 13, .int .u8 10] rfl rfl (cell_two _ _ _ _) (two_int _ _) (by unfold maxLen; omega) (by omega) (by simp; omega) ?_)
      intro v9 w9 own9 grow9 _
      have bel9 : Below w1.heap.size w1 w9 := push_below hown hbel hsz grow9
      have R : w9.ownsRow w1.heap.size 5 1 v9 (o ++ [13, 10]).length (bv (o ++ [13, 10])) := by simpa [bv] using own9
      clear own9 grow9 hown
      obtain ⟨p9, c9, rfl, _, _, _, _⟩ := owned_row R
      by_cases h4 : 4000 < (o ++ [13, 10]).length
      ·have hbad : Hid (readQ s.data.toList = ([], 2)) := by unfold Hid; rw [HR.out, HST.out, if_pos h4]
       have h4' : (4000 : Int) < (o.length : Int) + 2 := by have := h4; simp only [List.length_append, List.length_cons, List.length_nil] at this; omega
       go_wp2
       go_ret2
       rw [hbad.out]
       exact readPostN_none (hb1.trans (bel9.mono hb1.size)) 2
      ·have HNX : Hid (linesQ ((xs.map (·.data.toList)).drop (j + 1)) (o ++ [13, 10]) = linesQ (xs.map (·.data.toList)) []) := by unfold Hid; rw [HST.out, if_neg h4]
       have h4' : ¬ (4000 : Int) < (o.length : Int) + 2 := by have := h4; simp only [List.length_append, List.length_cons, List.length_nil] at this; omega
       go_wp2
       go_roundw
       case rel => exact ⟨j + 1, o ++ [13, 10], by omega, by go_num, by omega, R, bel9, HNX.out⟩
       case measure => simp [intOf]; omega
     ·obtain ⟨n, hn⟩ : ∃ n, s7.size = n + 1 := ⟨s7.size - 1, by omega⟩
      obtain ⟨c, s8, x1, x2, hs8, hl8⟩ := ba_snoc s7 n hn
      have hne : s7.toList.isEmpty = false := ba_ne (by omega)
      have hix := idx_blank c
      by_cases hbl : blankQ c = true
      ·rw [hbl] at hix
       have HS : Hid (stripR s8.data.toList = stripR S1.data.toList) := by unfold Hid; rw [← hst.out, hl8, stripR_blank _ _ hbl]
       clear hl8
       go_wp2_with fail
       refine (Tryz.strings_Contains_one _ c _).mono ?_
       rintro e w' ⟨rfl, hw'⟩
       have hw'' := hw'.symm
       subst hw''
       go_wp2
       go_round
       case rel => exact ⟨s8, rfl, by omega, HS.out⟩
       case measure => simp [strLen]; omega
      ·rw [Bool.not_eq_true] at hbl
       rw [hbl] at hix
       go_wp2_with fail
       refine (Tryz.strings_Contains_one _ c _).mono ?_
       rintro e w' ⟨rfl, hw'⟩
       have hw'' := hw'.symm
       subst hw''
       by_cases hc61 : c = 61
       ·have hc61' : (c == 61) = true := by simpa using hc61
        have HQ : Hid (lineQ Y = (s8.data.toList, false)) := by
         have := lineQ_soft HY hst.out (by rw [hl8, stripR_other _ _ hbl]) (by rw [hl8, endsQ_snoc, hc61'])
         unfold Hid
         rw [this, hl8]
         simp
        have hsf := hasSuffix_one s7.data.toList 61
        rw [hl8, endsQ_snoc, hc61', ← hl8] at hsf
        clear hl8 hc61 hc61' hbl x1 hst
        go_wp2_with fail
        refine (Tryz.strings_HasSuffix s7 _ _ (by omega)).mono ?_
        clear hix
        rintro e w' ⟨rfl, hw'⟩
        have hw'' := hw'.symm
        subst hw''
        rw [show Lib.hasSuffix s7.data.toList (ByteArray.mk #[61]).data.toList = true from hsf]
        have hT : s8.size ≤ 16000 := by omega
        clear hsf
        go_wp2_with fail
        clear hne hn hz hs7 x2 hs8
        generalize s8 = T at *
        obtain ⟨wq, rfl⟩ : ∃ wq : World, wq = wr := ⟨_, rfl⟩
        go_loopw [4, 7] (fun ov lv wr => ∃ (s7 : ByteArray) (o' : List UInt8), lv = .string s7 ∧ s7.size ≤ 16000 ∧ o'.length + s7.size ≤ 20000 ∧ wr.ownsRow w1.heap.size 5 1 ov o'.length (bv o') ∧ Below w1.heap.size w1 wr ∧ (decQ s7.data.toList).map (o' ++ ·) = (decQ T.data.toList).map (o ++ ·))
         (fun _ lv _ => strLen lv)
        case atStart => exact ⟨T, o, rfl, hT, by omega, hown, hbel, rfl⟩
        case round =>
         obtain ⟨s7, o', rfl, hs7, hos, hown', hbel', hdq0⟩ := hrel
         have hdq : Hid ((decQ s7.data.toList).map (o' ++ ·) = (decQ T.data.toList).map (o ++ ·)) := hdq0
         clear hdq0
         have hsz' := hbel'.size
         by_cases hz : s7.size = 0
         ·obtain rfl : s7 = ⟨#[]⟩ := ba_nil hz
          obtain ⟨d, hd, hod⟩ : ∃ d, decQ T.data.toList = some d ∧ o' = o ++ d := by
           have e := hdq.out
           rw [show decQ (ByteArray.mk #[]).data.toList = some [] from rfl, Option.map_some] at e
           cases hdT : decQ T.data.toList with
           | none => rw [hdT] at e; cases e
           | some d => rw [hdT] at e; refine ⟨d, rfl, ?_⟩; simpa using e
          have HST : Hid (linesQ (xs.map (·.data.toList)) [] = if 4000 < (o').length then ([], 2) else linesQ ((xs.map (·.data.toList)).drop (j + 1)) (o')) := by
           unfold Hid; rw [← hln.out, HD.out, linesQ_step HQ.out hd, hod]; simp
          clear hd hod hdq hz HQ
          obtain ⟨p9, c9, rfl, _, _, _, _⟩ := owned_row hown'
          by_cases h4 : 4000 < (o').length
          ·have hbad : Hid (readQ s.data.toList = ([], 2)) := by unfold Hid; rw [HR.out, HST.out, if_pos h4]
           have h4' : (4000 : Int) < (o'.length : Int) := by have := h4; omega
           go_wp2
           go_ret2
           rw [hbad.out]
           exact readPostN_none (hb1.trans (hbel'.mono hb1.size)) 2
          ·have HNX : Hid (linesQ ((xs.map (·.data.toList)).drop (j + 1)) (o') = linesQ (xs.map (·.data.toList)) []) := by unfold Hid; rw [HST.out, if_neg h4]
           have h4' : ¬ (4000 : Int) < (o'.length : Int) := by have := h4; omega
           go_wp2
           go_roundw
           case rel => exact ⟨j + 1, o', by omega, by go_num, by omega, hown', hbel', HNX.out⟩
           case measure => simp [intOf]; omega
         ·obtain ⟨n, hn⟩ : ∃ n, s7.size = n + 1 := ⟨s7.size - 1, by omega⟩
          obtain ⟨c, s8, x0, x1, hs8, hl8⟩ := ba_cons s7 n hn
          have hne : s7.toList.isEmpty = false := ba_ne (by omega)
          by_cases hc : c = 61
          ·have hcb : ((c.toNat : Int) != 61) = false := by rw [hc]; rfl
           by_cases h3 : s7.size < 3
           ·have hno : decQ s7.data.toList = none := by
             rw [hl8, hc]
             exact decQ_short _ (by rw [Array.length_toList]; show s8.size < 2; omega)
            have hnT : decQ T.data.toList = none := by
             have e := hdq.out
             rw [hno] at e
             cases hdT : decQ T.data.toList with
             | none => rfl
             | some d => rw [hdT] at e; cases e
            have hbad : Hid (readQ s.data.toList = ([], 1)) := by unfold Hid; rw [HR.out, ← hln.out, HD.out, linesQ_bad HQ.out hnT]
            have h3' : (n : Int) + 1 < 3 := by omega
            clear hl8 hc hdq hno hnT
            go_wp2
            go_ret2
            rw [hbad.out]
            exact readPostN_none (hb1.trans (hbel'.mono hb1.size)) 1
           ·obtain ⟨k3, hk3⟩ : ∃ k3, s7.size = k3 + 3 := ⟨s7.size - 3, by omega⟩
            obtain ⟨c', a, b, s9, z0, z1, z2, hs9, hl9⟩ := ba_three s7 k3 hk3
            obtain rfl : c' = 61 := by rw [← z0, x0, hc]
            obtain rfl : n = k3 + 2 := by omega
            have h3' : ¬ (k3 : Int) + 3 < 3 := by omega
            have h3d : decide ((k3 : Int) + 3 < 3) = false := by simp; omega
            clear hl8 x1 hs8
            by_cases hh : (isHex a && isHex b) = true
            ·have HS : Hid ((decQ s9.data.toList).map ((o' ++ [UInt8.ofNat (hexv a * 16 + hexv b)]) ++ ·) = (decQ T.data.toList).map (o ++ ·)) := by unfold Hid; rw [← hdq.out, hl9, decQ_hex _ _ _ hh, Option.map_map]; congr 1; funext x; simp
             have hha : isHex a = true := by rw [Bool.and_eq_true] at hh; exact hh.1
             have hhb : isHex b = true := by rw [Bool.and_eq_true] at hh; exact hh.2
             have hv256 : hexv a * 16 + hexv b < 256 := by have := hexv_15 a hha; have := hexv_15 b hhb; omega
             have hPU : Hid (∀ w, Calls Tryz.prog 90 #[.string ⟨#[a, b]⟩, .int .i64 16, .int .i64 8] w fun e w' => e = .returned (.tuple #[.int .u64 ((hexv a * 16 + hexv b : Nat) : Int), .nilIface]) ∧ Below w.heap.size w w') := fun w => parseUint_hex a b hha hhb w
             generalize hexv a * 16 + hexv b = V at *
             clear hl9 hdq hc hha hhb
             go_wp2_with fail
             refine (trim_hex a b _).mono ?_
             rintro e w4 ⟨r, hr, rfl, hb4⟩
             rw [hh] at hr
             have bel4 : Below w1.heap.size w1 w4 := hbel'.trans (hb4.mono hsz')
             have own4 := ownsRow_below hown' hb4
             clear hb4 hh hown' hbel'
             go_wp2_with fail
             refine (hPU.out _).mono ?_
             rintro e w5 ⟨rfl, hb5⟩
             have bel5 : Below w1.heap.size w1 w5 := bel4.trans (hb5.mono bel4.size)
             have own5 := ownsRow_below own4 hb5
             have hsz5 := bel5.size
             clear hb5 own4 bel4 hPU
             have hi3 : (3 : Int) ≤ (k3 : Int) + 3 := by omega
             go_wp2_with fail
             go_region_law (refine step_append_own rfl (.tmp 79) (.tmp 82) 22 rfl w1.heap.size 5 i5 (.int .u8 0) 1 1 Tryz.underlying22 hi5 hy0 hy1 hy2 rfl (by decide) u4 _ _ (by simp [Act.eval]) (by first | exact (own5.drew).alloc _ | exact (own5.alloc _).drew) ⟨w5.heap.size, 0, none⟩ 1 1 [.int .u8 ((V : Int) % 256)] (by simp [Act.eval]) rfl (cell_one _ _ _ rfl) (one_int _) (by unfold maxLen; omega) (by omega) (by simp; omega) ?_; intro v9 w9 own9 grow9)
             have bel9 : Below w1.heap.size w1 w9 := push_below_drew own5 bel5 hsz5 grow9
             have R : w9.ownsRow w1.heap.size 5 1 v9 (o' ++ [UInt8.ofNat V]).length (bv (o' ++ [UInt8.ofNat V])) := by simpa [bv, show ((V : Int) % 256) = (V : Int) from by omega] using own9
             clear own9 grow9 own5
             simp [Act.put]
             go_wp2
             go_roundw
             case rel => exact ⟨s9, o' ++ [UInt8.ofNat V], rfl, by omega, by simp; omega, R, bel9, HS.out⟩
             case measure => simp [strLen]; omega
            ·have hno : decQ T.data.toList = none := by
              rw [Bool.not_eq_true] at hh
              have e := hdq.out
              rw [hl9, decQ_bad _ _ _ hh] at e
              cases hdT : decQ T.data.toList with
              | none => rfl
              | some d => rw [hdT] at e; cases e
             have hbad : Hid (readQ s.data.toList = ([], 1)) := by unfold Hid; rw [HR.out, ← hln.out, HD.out, linesQ_bad HQ.out hno]
             rw [Bool.not_eq_true] at hh
             clear hl9 hdq hno hc
             go_wp2_with fail
             refine (trim_hex a b _).mono ?_
             rintro e w4 ⟨r, hr, rfl, hb4⟩
             rw [hh] at hr
             have bel4 : Below w1.heap.size w1 w4 := hbel'.trans (hb4.mono hsz')
             clear hb4 hh
             go_wp2
             go_ret2
             rw [hbad.out]
             exact readPostN_none (hb1.trans (bel4.mono hb1.size)) 1
          ·have hcb : ((c.toNat : Int) != 61) = true := by rw [bne_iff_ne]; intro e; apply hc; rw [← UInt8.toNat_inj]; exact Int.ofNat.inj e
           have HS : Hid ((decQ s8.data.toList).map ((o' ++ [c]) ++ ·) = (decQ T.data.toList).map (o ++ ·)) := by unfold Hid; rw [← hdq.out, hl8, decQ_plain _ _ hc, Option.map_map]; congr 1; funext x; simp
           have hi1 : (1 : Int) ≤ (n : Int) + 1 := by omega
           clear hl8 hc hz hdq
           go_wp2_with fail
           go_region_law (refine step_append_own rfl (.tmp 57) (.tmp 60) 22 rfl w1.heap.size 5 i5 (.int .u8 0) 1 1 Tryz.underlying22 hi5 hy0 hy1 hy2 rfl (by decide) u4 _ _ (by simp [Act.eval]) (by first | exact (hown'.drew).alloc _ | exact (hown'.alloc _).drew) ⟨wr.heap.size, 0, none⟩ 1 1 [.int .u8 (c.toNat : Int)] (by simp [Act.eval]) rfl (cell_one _ _ _ rfl) (one_int _) (by unfold maxLen; omega) (by omega) (by simp; omega) ?_; intro v9 w9 own9 grow9)
           have bel9 : Below w1.heap.size w1 w9 := push_below_drew hown' hbel' hsz' grow9
           have R : w9.ownsRow w1.heap.size 5 1 v9 (o' ++ [c]).length (bv (o' ++ [c])) := by simpa [bv] using own9
           clear own9 grow9 hown'
           simp [Act.put]
           go_wp2
           go_roundw
           case rel => exact ⟨s8, o' ++ [c], rfl, by omega, by simp; omega, R, bel9, HS.out⟩
           case measure => simp [strLen]; omega
       ·have hc61' : (c == 61) = false := by simpa using hc61
        have HQ : Hid (lineQ Y = (s7.data.toList, true)) := lineQ_of HY hst.out (by rw [hl8, stripR_other _ _ hbl]) (by rw [hl8, endsQ_snoc, hc61'])
        have hsf := hasSuffix_one s7.data.toList 61
        rw [hl8, endsQ_snoc, hc61', ← hl8] at hsf
        clear hl8 hc61 hc61' hbl x1 x2 hst
        go_wp2_with fail
        refine (Tryz.strings_HasSuffix s7 _ _ (by omega)).mono ?_
        clear hix
        rintro e w' ⟨rfl, hw'⟩
        have hw'' := hw'.symm
        subst hw''
        rw [show Lib.hasSuffix s7.data.toList (ByteArray.mk #[61]).data.toList = false from hsf]
        have hT : s7.size ≤ 16000 := hs7
        clear hsf hne hn hz hs7
        generalize s7 = T at *
        go_wp2_with fail
        obtain ⟨wq, rfl⟩ : ∃ wq : World, wq = wr := ⟨_, rfl⟩
        go_loopw [4, 7] (fun ov lv wr => ∃ (s7 : ByteArray) (o' : List UInt8), lv = .string s7 ∧ s7.size ≤ 16000 ∧ o'.length + s7.size ≤ 20000 ∧ wr.ownsRow w1.heap.size 5 1 ov o'.length (bv o') ∧ Below w1.heap.size w1 wr ∧ (decQ s7.data.toList).map (o' ++ ·) = (decQ T.data.toList).map (o ++ ·))
         (fun _ lv _ => strLen lv)
        case atStart => exact ⟨T, o, rfl, hT, by omega, hown, hbel, rfl⟩
        case round =>
         obtain ⟨s7, o', rfl, hs7, hos, hown', hbel', hdq0⟩ := hrel
         have hdq : Hid ((decQ s7.data.toList).map (o' ++ ·) = (decQ T.data.toList).map (o ++ ·)) := hdq0
         clear hdq0
         have hsz' := hbel'.size
         by_cases hz : s7.size = 0
         ·obtain rfl : s7 = ⟨#[]⟩ := ba_nil hz
          obtain ⟨d, hd, hod⟩ : ∃ d, decQ T.data.toList = some d ∧ o' = o ++ d := by
           have e := hdq.out
           rw [show decQ (ByteArray.mk #[]).data.toList = some [] from rfl, Option.map_some] at e
           cases hdT : decQ T.data.toList with
           | none => rw [hdT] at e; cases e
           | some d => rw [hdT] at e; refine ⟨d, rfl, ?_⟩; simpa using e
          have HST : Hid (linesQ (xs.map (·.data.toList)) [] = if 4000 < (o' ++ [13, 10]).length then ([], 2) else linesQ ((xs.map (·.data.toList)).drop (j + 1)) (o' ++ [13, 10])) := by
           unfold Hid; rw [← hln.out, HD.out, linesQ_step HQ.out hd, hod]; simp
          clear hd hod hdq hz HQ
          go_wp2_with (at_builtin; refine wpList_append_own _ rfl (.tmp 87) (.tmp 88) 22 rfl w1.heap.size 5 i5 (.int .u8 0) 1 1 Tryz.underlying22 hi5 hy0 hy1 hy2 rfl (by decide) _ _ _ rfl (hown'.alloc _) ⟨wr.heap.size, 0, none⟩ 2 2 [.int .u8 13, .int .u8 10] rfl rfl (cell_two _ _ _ _) (two_int _ _) (by unfold maxLen; omega) (by omega) (by simp; omega) ?_)
          intro v9 w9 own9 grow9 _
          have bel9 : Below w1.heap.size w1 w9 := push_below hown' hbel' hsz' grow9
          have R : w9.ownsRow w1.heap.size 5 1 v9 (o' ++ [13, 10]).length (bv (o' ++ [13, 10])) := by simpa [bv] using own9
          clear own9 grow9 hown'
          obtain ⟨p9, c9, rfl, _, _, _, _⟩ := owned_row R
          by_cases h4 : 4000 < (o' ++ [13, 10]).length
          ·have hbad : Hid (readQ s.data.toList = ([], 2)) := by unfold Hid; rw [HR.out, HST.out, if_pos h4]
           have h4' : (4000 : Int) < (o'.length : Int) + 2 := by have := h4; simp only [List.length_append, List.length_cons, List.length_nil] at this; omega
           go_wp2
           go_ret2
           rw [hbad.out]
           exact readPostN_none (hb1.trans (bel9.mono hb1.size)) 2
          ·have HNX : Hid (linesQ ((xs.map (·.data.toList)).drop (j + 1)) (o' ++ [13, 10]) = linesQ (xs.map (·.data.toList)) []) := by unfold Hid; rw [HST.out, if_neg h4]
           have h4' : ¬ (4000 : Int) < (o'.length : Int) + 2 := by have := h4; simp only [List.length_append, List.length_cons, List.length_nil] at this; omega
           go_wp2
           go_roundw
           case rel => exact ⟨j + 1, o' ++ [13, 10], by omega, by go_num, by omega, R, bel9, HNX.out⟩
           case measure => simp [intOf]; omega
         ·obtain ⟨n, hn⟩ : ∃ n, s7.size = n + 1 := ⟨s7.size - 1, by omega⟩
          obtain ⟨c, s8, x0, x1, hs8, hl8⟩ := ba_cons s7 n hn
          have hne : s7.toList.isEmpty = false := ba_ne (by omega)
          by_cases hc : c = 61
          ·have hcb : ((c.toNat : Int) != 61) = false := by rw [hc]; rfl
           by_cases h3 : s7.size < 3
           ·have hno : decQ s7.data.toList = none := by
             rw [hl8, hc]
             exact decQ_short _ (by rw [Array.length_toList]; show s8.size < 2; omega)
            have hnT : decQ T.data.toList = none := by
             have e := hdq.out
             rw [hno] at e
             cases hdT : decQ T.data.toList with
             | none => rfl
             | some d => rw [hdT] at e; cases e
            have hbad : Hid (readQ s.data.toList = ([], 1)) := by unfold Hid; rw [HR.out, ← hln.out, HD.out, linesQ_bad HQ.out hnT]
            have h3' : (n : Int) + 1 < 3 := by omega
            clear hl8 hc hdq hno hnT
            go_wp2
            go_ret2
            rw [hbad.out]
            exact readPostN_none (hb1.trans (hbel'.mono hb1.size)) 1
           ·obtain ⟨k3, hk3⟩ : ∃ k3, s7.size = k3 + 3 := ⟨s7.size - 3, by omega⟩
            obtain ⟨c', a, b, s9, z0, z1, z2, hs9, hl9⟩ := ba_three s7 k3 hk3
            obtain rfl : c' = 61 := by rw [← z0, x0, hc]
            obtain rfl : n = k3 + 2 := by omega
            have h3' : ¬ (k3 : Int) + 3 < 3 := by omega
            have h3d : decide ((k3 : Int) + 3 < 3) = false := by simp; omega
            clear hl8 x1 hs8
            by_cases hh : (isHex a && isHex b) = true
            ·have HS : Hid ((decQ s9.data.toList).map ((o' ++ [UInt8.ofNat (hexv a * 16 + hexv b)]) ++ ·) = (decQ T.data.toList).map (o ++ ·)) := by unfold Hid; rw [← hdq.out, hl9, decQ_hex _ _ _ hh, Option.map_map]; congr 1; funext x; simp
             have hha : isHex a = true := by rw [Bool.and_eq_true] at hh; exact hh.1
             have hhb : isHex b = true := by rw [Bool.and_eq_true] at hh; exact hh.2
             have hv256 : hexv a * 16 + hexv b < 256 := by have := hexv_15 a hha; have := hexv_15 b hhb; omega
             have hPU : Hid (∀ w, Calls Tryz.prog 90 #[.string ⟨#[a, b]⟩, .int .i64 16, .int .i64 8] w fun e w' => e = .returned (.tuple #[.int .u64 ((hexv a * 16 + hexv b : Nat) : Int), .nilIface]) ∧ Below w.heap.size w w') := fun w => parseUint_hex a b hha hhb w
             generalize hexv a * 16 + hexv b = V at *
             clear hl9 hdq hc hha hhb
             go_wp2_with fail
             refine (trim_hex a b _).mono ?_
             rintro e w4 ⟨r, hr, rfl, hb4⟩
             rw [hh] at hr
             have bel4 : Below w1.heap.size w1 w4 := hbel'.trans (hb4.mono hsz')
             have own4 := ownsRow_below hown' hb4
             clear hb4 hh hown' hbel'
             go_wp2_with fail
             refine (hPU.out _).mono ?_
             rintro e w5 ⟨rfl, hb5⟩
             have bel5 : Below w1.heap.size w1 w5 := bel4.trans (hb5.mono bel4.size)
             have own5 := ownsRow_below own4 hb5
             have hsz5 := bel5.size
             clear hb5 own4 bel4 hPU
             have hi3 : (3 : Int) ≤ (k3 : Int) + 3 := by omega
             go_wp2_with fail
             go_region_law (refine step_append_own rfl (.tmp 79) (.tmp 82) 22 rfl w1.heap.size 5 i5 (.int .u8 0) 1 1 Tryz.underlying22 hi5 hy0 hy1 hy2 rfl (by decide) u4 _ _ (by simp [Act.eval]) (by first | exact (own5.drew).alloc _ | exact (own5.alloc _).drew) ⟨w5.heap.size, 0, none⟩ 1 1 [.int .u8 ((V : Int) % 256)] (by simp [Act.eval]) rfl (cell_one _ _ _ rfl) (one_int _) (by unfold maxLen; omega) (by omega) (by simp; omega) ?_; intro v9 w9 own9 grow9)
             have bel9 : Below w1.heap.size w1 w9 := push_below_drew own5 bel5 hsz5 grow9
             have R : w9.ownsRow w1.heap.size 5 1 v9 (o' ++ [UInt8.ofNat V]).length (bv (o' ++ [UInt8.ofNat V])) := by simpa [bv, show ((V : Int) % 256) = (V : Int) from by omega] using own9
             clear own9 grow9 own5
             simp [Act.put]
             go_wp2
             go_roundw
             case rel => exact ⟨s9, o' ++ [UInt8.ofNat V], rfl, by omega, by simp; omega, R, bel9, HS.out⟩
             case measure => simp [strLen]; omega
            ·have hno : decQ T.data.toList = none := by
              rw [Bool.not_eq_true] at hh
              have e := hdq.out
              rw [hl9, decQ_bad _ _ _ hh] at e
              cases hdT : decQ T.data.toList with
              | none => rfl
              | some d => rw [hdT] at e; cases e
             have hbad : Hid (readQ s.data.toList = ([], 1)) := by unfold Hid; rw [HR.out, ← hln.out, HD.out, linesQ_bad HQ.out hno]
             rw [Bool.not_eq_true] at hh
             clear hl9 hdq hno hc
             go_wp2_with fail
             refine (trim_hex a b _).mono ?_
             rintro e w4 ⟨r, hr, rfl, hb4⟩
             rw [hh] at hr
             have bel4 : Below w1.heap.size w1 w4 := hbel'.trans (hb4.mono hsz')
             clear hb4 hh
             go_wp2
             go_ret2
             rw [hbad.out]
             exact readPostN_none (hb1.trans (bel4.mono hb1.size)) 1
          ·have hcb : ((c.toNat : Int) != 61) = true := by rw [bne_iff_ne]; intro e; apply hc; rw [← UInt8.toNat_inj]; exact Int.ofNat.inj e
           have HS : Hid ((decQ s8.data.toList).map ((o' ++ [c]) ++ ·) = (decQ T.data.toList).map (o ++ ·)) := by unfold Hid; rw [← hdq.out, hl8, decQ_plain _ _ hc, Option.map_map]; congr 1; funext x; simp
           have hi1 : (1 : Int) ≤ (n : Int) + 1 := by omega
           clear hl8 hc hz hdq
           go_wp2_with fail
           go_region_law (refine step_append_own rfl (.tmp 57) (.tmp 60) 22 rfl w1.heap.size 5 i5 (.int .u8 0) 1 1 Tryz.underlying22 hi5 hy0 hy1 hy2 rfl (by decide) u4 _ _ (by simp [Act.eval]) (by first | exact (hown'.drew).alloc _ | exact (hown'.alloc _).drew) ⟨wr.heap.size, 0, none⟩ 1 1 [.int .u8 (c.toNat : Int)] (by simp [Act.eval]) rfl (cell_one _ _ _ rfl) (one_int _) (by unfold maxLen; omega) (by omega) (by simp; omega) ?_; intro v9 w9 own9 grow9)
           have bel9 : Below w1.heap.size w1 w9 := push_below_drew hown' hbel' hsz' grow9
           have R : w9.ownsRow w1.heap.size 5 1 v9 (o' ++ [c]).length (bv (o' ++ [c])) := by simpa [bv] using own9
           clear own9 grow9 hown'
           simp [Act.put]
           go_wp2
           go_roundw
           case rel => exact ⟨s8, o' ++ [c], rfl, by omega, by simp; omega, R, bel9, HS.out⟩
           case measure => simp [strLen]; omega
   ·rw [Bool.not_eq_true] at hE
    have hS1 : S0.size ≤ 16000 := hS0
    have HY : Hid ((if endsQ Y 10 = true then Y.dropLast else Y) = S0.data.toList ∧ endsQ Y 10 = false) := ⟨by rw [if_neg (by simp [hE]), hY], hE⟩
    have hsf := hasSuffix_one Y 10
    rw [hE, ← hY] at hsf
    clear hE hY
    go_wp2_with fail
    refine (Tryz.strings_HasSuffix S0 _ _ (by omega)).mono ?_
    rintro e w' ⟨rfl, hw'⟩
    have hw'' := hw'.symm
    subst hw''
    rw [show Lib.hasSuffix S0.data.toList (ByteArray.mk #[10]).data.toList = false from hsf]
    clear hsf
    obtain ⟨S1, rfl⟩ : ∃ S1, S1 = S0 := ⟨_, rfl⟩
    go_wp2_with fail
    go_loop [7] (fun lv => ∃ s7 : ByteArray, lv = .string s7 ∧ s7.size ≤ 16000 ∧ stripR s7.data.toList = stripR S1.data.toList) (fun lv => strLen lv)
    case atStart => exact ⟨S1, rfl, hS1, rfl⟩
    case round =>
     obtain ⟨s7, rfl, hs7, hst0⟩ := hrel
     have hst : Hid (stripR s7.data.toList = stripR S1.data.toList) := hst0
     clear hst0
     by_cases hz : s7.size = 0
     ·obtain rfl : s7 = ⟨#[]⟩ := ba_nil hz
      have HQ : Hid (lineQ Y = ((ByteArray.mk #[]).data.toList, false)) := lineQ_of HY hst.out (by decide) (by decide)
      clear hst hz hs7
      go_wp2_with fail
      refine (Tryz.strings_HasSuffix ⟨#[]⟩ _ _ (by decide)).mono ?_
      rintro e w' ⟨rfl, hw'⟩
      have hw'' := hw'.symm
      subst hw''
      rw [show Lib.hasSuffix (ByteArray.mk #[]).data.toList (ByteArray.mk #[61]).data.toList = false from by decide]
      go_wp2_with fail
      have HST : Hid (linesQ (xs.map (·.data.toList)) [] = if 4000 < (o).length then ([], 2) else linesQ ((xs.map (·.data.toList)).drop (j + 1)) (o)) := by
       unfold Hid; rw [← hln.out, HD.out, linesQ_step HQ.out (show decQ [] = some [] from rfl)]; simp
      clear HQ
      refine wp_loop_rounds 1 ?_
      rw [rounds_succ]
      obtain ⟨p9, c9, rfl, _, _, _, _⟩ := owned_row hown
      by_cases h4 : 4000 < (o).length
      ·have hbad : Hid (readQ s.data.toList = ([], 2)) := by unfold Hid; rw [HR.out, HST.out, if_pos h4]
       have h4' : (4000 : Int) < (o.length : Int) := by have := h4; omega
       go_wp2
       go_ret2
       rw [hbad.out]
       exact readPostN_none (hb1.trans (hbel.mono hb1.size)) 2
      ·have HNX : Hid (linesQ ((xs.map (·.data.toList)).drop (j + 1)) (o) = linesQ (xs.map (·.data.toList)) []) := by unfold Hid; rw [HST.out, if_neg h4]
       have h4' : ¬ (4000 : Int) < (o.length : Int) := by have := h4; omega
       go_wp2
       go_roundw
       case rel => exact ⟨j + 1, o, by omega, by go_num, by omega, hown, hbel, HNX.out⟩
       case measure => simp [intOf]; omega
     ·obtain ⟨n, hn⟩ : ∃ n, s7.size = n + 1 := ⟨s7.size - 1, by omega⟩
      obtain ⟨c, s8, x1, x2, hs8, hl8⟩ := ba_snoc s7 n hn
      have hne : s7.toList.isEmpty = false := ba_ne (by omega)
      have hix := idx_blank c
      by_cases hbl : blankQ c = true
      ·rw [hbl] at hix
       have HS : Hid (stripR s8.data.toList = stripR S1.data.toList) := by unfold Hid; rw [← hst.out, hl8, stripR_blank _ _ hbl]
       clear hl8
       go_wp2_with fail
       refine (Tryz.strings_Contains_one _ c _).mono ?_
       rintro e w' ⟨rfl, hw'⟩
       have hw'' := hw'.symm
       subst hw''
       go_wp2
       go_round
       case rel => exact ⟨s8, rfl, by omega, HS.out⟩
       case measure => simp [strLen]; omega
      ·rw [Bool.not_eq_true] at hbl
       rw [hbl] at hix
       go_wp2_with fail
       refine (Tryz.strings_Contains_one _ c _).mono ?_
       rintro e w' ⟨rfl, hw'⟩
       have hw'' := hw'.symm
       subst hw''
       by_cases hc61 : c = 61
       ·have hc61' : (c == 61) = true := by simpa using hc61
        have HQ : Hid (lineQ Y = (s8.data.toList, false)) := by
         have := lineQ_soft HY hst.out (by rw [hl8, stripR_other _ _ hbl]) (by rw [hl8, endsQ_snoc, hc61'])
         unfold Hid
         rw [this, hl8]
         simp
        have hsf := hasSuffix_one s7.data.toList 61
        rw [hl8, endsQ_snoc, hc61', ← hl8] at hsf
        clear hl8 hc61 hc61' hbl x1 hst
        go_wp2_with fail
        refine (Tryz.strings_HasSuffix s7 _ _ (by omega)).mono ?_
        clear hix
        rintro e w' ⟨rfl, hw'⟩
        have hw'' := hw'.symm
        subst hw''
        rw [show Lib.hasSuffix s7.data.toList (ByteArray.mk #[61]).data.toList = true from hsf]
        have hT : s8.size ≤ 16000 := by omega
        clear hsf
        go_wp2_with fail
        clear hne hn hz hs7 x2 hs8
        generalize s8 = T at *
        obtain ⟨wq, rfl⟩ : ∃ wq : World, wq = wr := ⟨_, rfl⟩
        go_loopw [4, 7] (fun ov lv wr => ∃ (s7 : ByteArray) (o' : List UInt8), lv = .string s7 ∧ s7.size ≤ 16000 ∧ o'.length + s7.size ≤ 20000 ∧ wr.ownsRow w1.heap.size 5 1 ov o'.length (bv o') ∧ Below w1.heap.size w1 wr ∧ (decQ s7.data.toList).map (o' ++ ·) = (decQ T.data.toList).map (o ++ ·))
         (fun _ lv _ => strLen lv)
        case atStart => exact ⟨T, o, rfl, hT, by omega, hown, hbel, rfl⟩
        case round =>
         obtain ⟨s7, o', rfl, hs7, hos, hown', hbel', hdq0⟩ := hrel
         have hdq : Hid ((decQ s7.data.toList).map (o' ++ ·) = (decQ T.data.toList).map (o ++ ·)) := hdq0
         clear hdq0
         have hsz' := hbel'.size
         by_cases hz : s7.size = 0
         ·obtain rfl : s7 = ⟨#[]⟩ := ba_nil hz
          obtain ⟨d, hd, hod⟩ : ∃ d, decQ T.data.toList = some d ∧ o' = o ++ d := by
           have e := hdq.out
           rw [show decQ (ByteArray.mk #[]).data.toList = some [] from rfl, Option.map_some] at e
           cases hdT : decQ T.data.toList with
           | none => rw [hdT] at e; cases e
           | some d => rw [hdT] at e; refine ⟨d, rfl, ?_⟩; simpa using e
          have HST : Hid (linesQ (xs.map (·.data.toList)) [] = if 4000 < (o').length then ([], 2) else linesQ ((xs.map (·.data.toList)).drop (j + 1)) (o')) := by
           unfold Hid; rw [← hln.out, HD.out, linesQ_step HQ.out hd, hod]; simp
          clear hd hod hdq hz HQ
          obtain ⟨p9, c9, rfl, _, _, _, _⟩ := owned_row hown'
          by_cases h4 : 4000 < (o').length
          ·have hbad : Hid (readQ s.data.toList = ([], 2)) := by unfold Hid; rw [HR.out, HST.out, if_pos h4]
           have h4' : (4000 : Int) < (o'.length : Int) := by have := h4; omega
           go_wp2
           go_ret2
           rw [hbad.out]
           exact readPostN_none (hb1.trans (hbel'.mono hb1.size)) 2
          ·have HNX : Hid (linesQ ((xs.map (·.data.toList)).drop (j + 1)) (o') = linesQ (xs.map (·.data.toList)) []) := by unfold Hid; rw [HST.out, if_neg h4]
           have h4' : ¬ (4000 : Int) < (o'.length : Int) := by have := h4; omega
           go_wp2
           go_roundw
           case rel => exact ⟨j + 1, o', by omega, by go_num, by omega, hown', hbel', HNX.out⟩
           case measure => simp [intOf]; omega
         ·obtain ⟨n, hn⟩ : ∃ n, s7.size = n + 1 := ⟨s7.size - 1, by omega⟩
          obtain ⟨c, s8, x0, x1, hs8, hl8⟩ := ba_cons s7 n hn
          have hne : s7.toList.isEmpty = false := ba_ne (by omega)
          by_cases hc : c = 61
          ·have hcb : ((c.toNat : Int) != 61) = false := by rw [hc]; rfl
           by_cases h3 : s7.size < 3
           ·have hno : decQ s7.data.toList = none := by
             rw [hl8, hc]
             exact decQ_short _ (by rw [Array.length_toList]; show s8.size < 2; omega)
            have hnT : decQ T.data.toList = none := by
             have e := hdq.out
             rw [hno] at e
             cases hdT : decQ T.data.toList with
             | none => rfl
             | some d => rw [hdT] at e; cases e
            have hbad : Hid (readQ s.data.toList = ([], 1)) := by unfold Hid; rw [HR.out, ← hln.out, HD.out, linesQ_bad HQ.out hnT]
            have h3' : (n : Int) + 1 < 3 := by omega
            clear hl8 hc hdq hno hnT
            go_wp2
            go_ret2
            rw [hbad.out]
            exact readPostN_none (hb1.trans (hbel'.mono hb1.size)) 1
           ·obtain ⟨k3, hk3⟩ : ∃ k3, s7.size = k3 + 3 := ⟨s7.size - 3, by omega⟩
            obtain ⟨c', a, b, s9, z0, z1, z2, hs9, hl9⟩ := ba_three s7 k3 hk3
            obtain rfl : c' = 61 := by rw [← z0, x0, hc]
            obtain rfl : n = k3 + 2 := by omega
            have h3' : ¬ (k3 : Int) + 3 < 3 := by omega
            have h3d : decide ((k3 : Int) + 3 < 3) = false := by simp; omega
            clear hl8 x1 hs8
            by_cases hh : (isHex a && isHex b) = true
            ·have HS : Hid ((decQ s9.data.toList).map ((o' ++ [UInt8.ofNat (hexv a * 16 + hexv b)]) ++ ·) = (decQ T.data.toList).map (o ++ ·)) := by unfold Hid; rw [← hdq.out, hl9, decQ_hex _ _ _ hh, Option.map_map]; congr 1; funext x; simp
             have hha : isHex a = true := by rw [Bool.and_eq_true] at hh; exact hh.1
             have hhb : isHex b = true := by rw [Bool.and_eq_true] at hh; exact hh.2
             have hv256 : hexv a * 16 + hexv b < 256 := by have := hexv_15 a hha; have := hexv_15 b hhb; omega
             have hPU : Hid (∀ w, Calls Tryz.prog 90 #[.string ⟨#[a, b]⟩, .int .i64 16, .int .i64 8] w fun e w' => e = .returned (.tuple #[.int .u64 ((hexv a * 16 + hexv b : Nat) : Int), .nilIface]) ∧ Below w.heap.size w w') := fun w => parseUint_hex a b hha hhb w
             generalize hexv a * 16 + hexv b = V at *
             clear hl9 hdq hc hha hhb
             go_wp2_with fail
             refine (trim_hex a b _).mono ?_
             rintro e w4 ⟨r, hr, rfl, hb4⟩
             rw [hh] at hr
             have bel4 : Below w1.heap.size w1 w4 := hbel'.trans (hb4.mono hsz')
             have own4 := ownsRow_below hown' hb4
             clear hb4 hh hown' hbel'
             go_wp2_with fail
             refine (hPU.out _).mono ?_
             rintro e w5 ⟨rfl, hb5⟩
             have bel5 : Below w1.heap.size w1 w5 := bel4.trans (hb5.mono bel4.size)
             have own5 := ownsRow_below own4 hb5
             have hsz5 := bel5.size
             clear hb5 own4 bel4 hPU
             have hi3 : (3 : Int) ≤ (k3 : Int) + 3 := by omega
             go_wp2_with fail
             go_region_law (refine step_append_own rfl (.tmp 79) (.tmp 82) 22 rfl w1.heap.size 5 i5 (.int .u8 0) 1 1 Tryz.underlying22 hi5 hy0 hy1 hy2 rfl (by decide) u4 _ _ (by simp [Act.eval]) (by first | exact (own5.drew).alloc _ | exact (own5.alloc _).drew) ⟨w5.heap.size, 0, none⟩ 1 1 [.int .u8 ((V : Int) % 256)] (by simp [Act.eval]) rfl (cell_one _ _ _ rfl) (one_int _) (by unfold maxLen; omega) (by omega) (by simp; omega) ?_; intro v9 w9 own9 grow9)
             have bel9 : Below w1.heap.size w1 w9 := push_below_drew own5 bel5 hsz5 grow9
             have R : w9.ownsRow w1.heap.size 5 1 v9 (o' ++ [UInt8.ofNat V]).length (bv (o' ++ [UInt8.ofNat V])) := by simpa [bv, show ((V : Int) % 256) = (V : Int) from by omega] using own9
             clear own9 grow9 own5
             simp [Act.put]
             go_wp2
             go_roundw
             case rel => exact ⟨s9, o' ++ [UInt8.ofNat V], rfl, by omega, by simp; omega, R, bel9, HS.out⟩
             case measure => simp [strLen]; omega
            ·have hno : decQ T.data.toList = none := by
              rw [Bool.not_eq_true] at hh
              have e := hdq.out
              rw [hl9, decQ_bad _ _ _ hh] at e
              cases hdT : decQ T.data.toList with
              | none => rfl
              | some d => rw [hdT] at e; cases e
             have hbad : Hid (readQ s.data.toList = ([], 1)) := by unfold Hid; rw [HR.out, ← hln.out, HD.out, linesQ_bad HQ.out hno]
             rw [Bool.not_eq_true] at hh
             clear hl9 hdq hno hc
             go_wp2_with fail
             refine (trim_hex a b _).mono ?_
             rintro e w4 ⟨r, hr, rfl, hb4⟩
             rw [hh] at hr
             have bel4 : Below w1.heap.size w1 w4 := hbel'.trans (hb4.mono hsz')
             clear hb4 hh
             go_wp2
             go_ret2
             rw [hbad.out]
             exact readPostN_none (hb1.trans (bel4.mono hb1.size)) 1
          ·have hcb : ((c.toNat : Int) != 61) = true := by rw [bne_iff_ne]; intro e; apply hc; rw [← UInt8.toNat_inj]; exact Int.ofNat.inj e
           have HS : Hid ((decQ s8.data.toList).map ((o' ++ [c]) ++ ·) = (decQ T.data.toList).map (o ++ ·)) := by unfold Hid; rw [← hdq.out, hl8, decQ_plain _ _ hc, Option.map_map]; congr 1; funext x; simp
           have hi1 : (1 : Int) ≤ (n : Int) + 1 := by omega
           clear hl8 hc hz hdq
           go_wp2_with fail
           go_region_law (refine step_append_own rfl (.tmp 57) (.tmp 60) 22 rfl w1.heap.size 5 i5 (.int .u8 0) 1 1 Tryz.underlying22 hi5 hy0 hy1 hy2 rfl (by decide) u4 _ _ (by simp [Act.eval]) (by first | exact (hown'.drew).alloc _ | exact (hown'.alloc _).drew) ⟨wr.heap.size, 0, none⟩ 1 1 [.int .u8 (c.toNat : Int)] (by simp [Act.eval]) rfl (cell_one _ _ _ rfl) (one_int _) (by unfold maxLen; omega) (by omega) (by simp; omega) ?_; intro v9 w9 own9 grow9)
           have bel9 : Below w1.heap.size w1 w9 := push_below_drew hown' hbel' hsz' grow9
           have R : w9.ownsRow w1.heap.size 5 1 v9 (o' ++ [c]).length (bv (o' ++ [c])) := by simpa [bv] using own9
           clear own9 grow9 hown'
           simp [Act.put]
           go_wp2
           go_roundw
           case rel => exact ⟨s8, o' ++ [c], rfl, by omega, by simp; omega, R, bel9, HS.out⟩
           case measure => simp [strLen]; omega
       ·have hc61' : (c == 61) = false := by simpa using hc61
        have HQ : Hid (lineQ Y = (s7.data.toList, false)) := lineQ_of HY hst.out (by rw [hl8, stripR_other _ _ hbl]) (by rw [hl8, endsQ_snoc, hc61'])
        have hsf := hasSuffix_one s7.data.toList 61
        rw [hl8, endsQ_snoc, hc61', ← hl8] at hsf
        clear hl8 hc61 hc61' hbl x1 x2 hst
        go_wp2_with fail
        refine (Tryz.strings_HasSuffix s7 _ _ (by omega)).mono ?_
        clear hix
        rintro e w' ⟨rfl, hw'⟩
        have hw'' := hw'.symm
        subst hw''
        rw [show Lib.hasSuffix s7.data.toList (ByteArray.mk #[61]).data.toList = false from hsf]
        have hT : s7.size ≤ 16000 := hs7
        clear hsf hne hn hz hs7
        generalize s7 = T at *
        go_wp2_with fail
        obtain ⟨wq, rfl⟩ : ∃ wq : World, wq = wr := ⟨_, rfl⟩
        go_loopw [4, 7] (fun ov lv wr => ∃ (s7 : ByteArray) (o' : List UInt8), lv = .string s7 ∧ s7.size ≤ 16000 ∧ o'.length + s7.size ≤ 20000 ∧ wr.ownsRow w1.heap.size 5 1 ov o'.length (bv o') ∧ Below w1.heap.size w1 wr ∧ (decQ s7.data.toList).map (o' ++ ·) = (decQ T.data.toList).map (o ++ ·))
         (fun _ lv _ => strLen lv)
        case atStart => exact ⟨T, o, rfl, hT, by omega, hown, hbel, rfl⟩
        case round =>
         obtain ⟨s7, o', rfl, hs7, hos, hown', hbel', hdq0⟩ := hrel
         have hdq : Hid ((decQ s7.data.toList).map (o' ++ ·) = (decQ T.data.toList).map (o ++ ·)) := hdq0
         clear hdq0
         have hsz' := hbel'.size
         by_cases hz : s7.size = 0
         ·obtain rfl : s7 = ⟨#[]⟩ := ba_nil hz
          obtain ⟨d, hd, hod⟩ : ∃ d, decQ T.data.toList = some d ∧ o' = o ++ d := by
           have e := hdq.out
           rw [show decQ (ByteArray.mk #[]).data.toList = some [] from rfl, Option.map_some] at e
           cases hdT : decQ T.data.toList with
           | none => rw [hdT] at e; cases e
           | some d => rw [hdT] at e; refine ⟨d, rfl, ?_⟩; simpa using e
          have HST : Hid (linesQ (xs.map (·.data.toList)) [] = if 4000 < (o').length then ([], 2) else linesQ ((xs.map (·.data.toList)).drop (j + 1)) (o')) := by
           unfold Hid; rw [← hln.out, HD.out, linesQ_step HQ.out hd, hod]; simp
          clear hd hod hdq hz HQ
          obtain ⟨p9, c9, rfl, _, _, _, _⟩ := owned_row hown'
          by_cases h4 : 4000 < (o').length
          ·have hbad : Hid (readQ s.data.toList = ([], 2)) := by unfold Hid; rw [HR.out, HST.out, if_pos h4]
           have h4' : (4000 : Int) < (o'.length : Int) := by have := h4; omega
           go_wp2
           go_ret2
           rw [hbad.out]
           exact readPostN_none (hb1.trans (hbel'.mono hb1.size)) 2
          ·have HNX : Hid (linesQ ((xs.map (·.data.toList)).drop (j + 1)) (o') = linesQ (xs.map (·.data.toList)) []) := by unfold Hid; rw [HST.out, if_neg h4]
           have h4' : ¬ (4000 : Int) < (o'.length : Int) := by have := h4; omega
           go_wp2
           go_roundw
           case rel => exact ⟨j + 1, o', by omega, by go_num, by omega, hown', hbel', HNX.out⟩
           case measure => simp [intOf]; omega
         ·obtain ⟨n, hn⟩ : ∃ n, s7.size = n + 1 := ⟨s7.size - 1, by omega⟩
          obtain ⟨c, s8, x0, x1, hs8, hl8⟩ := ba_cons s7 n hn
          have hne : s7.toList.isEmpty = false := ba_ne (by omega)
          by_cases hc : c = 61
          ·have hcb : ((c.toNat : Int) != 61) = false := by rw [hc]; rfl
           by_cases h3 : s7.size < 3
           ·have hno : decQ s7.data.toList = none := by
             rw [hl8, hc]
             exact decQ_short _ (by rw [Array.length_toList]; show s8.size < 2; omega)
            have hnT : decQ T.data.toList = none := by
             have e := hdq.out
             rw [hno] at e
             cases hdT : decQ T.data.toList with
             | none => rfl
             | some d => rw [hdT] at e; cases e
            have hbad : Hid (readQ s.data.toList = ([], 1)) := by unfold Hid; rw [HR.out, ← hln.out, HD.out, linesQ_bad HQ.out hnT]
            have h3' : (n : Int) + 1 < 3 := by omega
            clear hl8 hc hdq hno hnT
            go_wp2
            go_ret2
            rw [hbad.out]
            exact readPostN_none (hb1.trans (hbel'.mono hb1.size)) 1
           ·obtain ⟨k3, hk3⟩ : ∃ k3, s7.size = k3 + 3 := ⟨s7.size - 3, by omega⟩
            obtain ⟨c', a, b, s9, z0, z1, z2, hs9, hl9⟩ := ba_three s7 k3 hk3
            obtain rfl : c' = 61 := by rw [← z0, x0, hc]
            obtain rfl : n = k3 + 2 := by omega
            have h3' : ¬ (k3 : Int) + 3 < 3 := by omega
            have h3d : decide ((k3 : Int) + 3 < 3) = false := by simp; omega
            clear hl8 x1 hs8
            by_cases hh : (isHex a && isHex b) = true
            ·have HS : Hid ((decQ s9.data.toList).map ((o' ++ [UInt8.ofNat (hexv a * 16 + hexv b)]) ++ ·) = (decQ T.data.toList).map (o ++ ·)) := by unfold Hid; rw [← hdq.out, hl9, decQ_hex _ _ _ hh, Option.map_map]; congr 1; funext x; simp
             have hha : isHex a = true := by rw [Bool.and_eq_true] at hh; exact hh.1
             have hhb : isHex b = true := by rw [Bool.and_eq_true] at hh; exact hh.2
             have hv256 : hexv a * 16 + hexv b < 256 := by have := hexv_15 a hha; have := hexv_15 b hhb; omega
             have hPU : Hid (∀ w, Calls Tryz.prog 90 #[.string ⟨#[a, b]⟩, .int .i64 16, .int .i64 8] w fun e w' => e = .returned (.tuple #[.int .u64 ((hexv a * 16 + hexv b : Nat) : Int), .nilIface]) ∧ Below w.heap.size w w') := fun w => parseUint_hex a b hha hhb w
             generalize hexv a * 16 + hexv b = V at *
             clear hl9 hdq hc hha hhb
             go_wp2_with fail
             refine (trim_hex a b _).mono ?_
             rintro e w4 ⟨r, hr, rfl, hb4⟩
             rw [hh] at hr
             have bel4 : Below w1.heap.size w1 w4 := hbel'.trans (hb4.mono hsz')
             have own4 := ownsRow_below hown' hb4
             clear hb4 hh hown' hbel'
             go_wp2_with fail
             refine (hPU.out _).mono ?_
             rintro e w5 ⟨rfl, hb5⟩
             have bel5 : Below w1.heap.size w1 w5 := bel4.trans (hb5.mono bel4.size)
             have own5 := ownsRow_below own4 hb5
             have hsz5 := bel5.size
             clear hb5 own4 bel4 hPU
             have hi3 : (3 : Int) ≤ (k3 : Int) + 3 := by omega
             go_wp2_with fail
             go_region_law (refine step_append_own rfl (.tmp 79) (.tmp 82) 22 rfl w1.heap.size 5 i5 (.int .u8 0) 1 1 Tryz.underlying22 hi5 hy0 hy1 hy2 rfl (by decide) u4 _ _ (by simp [Act.eval]) (by first | exact (own5.drew).alloc _ | exact (own5.alloc _).drew) ⟨w5.heap.size, 0, none⟩ 1 1 [.int .u8 ((V : Int) % 256)] (by simp [Act.eval]) rfl (cell_one _ _ _ rfl) (one_int _) (by unfold maxLen; omega) (by omega) (by simp; omega) ?_; intro v9 w9 own9 grow9)
             have bel9 : Below w1.heap.size w1 w9 := push_below_drew own5 bel5 hsz5 grow9
             have R : w9.ownsRow w1.heap.size 5 1 v9 (o' ++ [UInt8.ofNat V]).length (bv (o' ++ [UInt8.ofNat V])) := by simpa [bv, show ((V : Int) % 256) = (V : Int) from by omega] using own9
             clear own9 grow9 own5
             simp [Act.put]
             go_wp2
             go_roundw
             case rel => exact ⟨s9, o' ++ [UInt8.ofNat V], rfl, by omega, by simp; omega, R, bel9, HS.out⟩
             case measure => simp [strLen]; omega
            ·have hno : decQ T.data.toList = none := by
              rw [Bool.not_eq_true] at hh
              have e := hdq.out
              rw [hl9, decQ_bad _ _ _ hh] at e
              cases hdT : decQ T.data.toList with
              | none => rfl
              | some d => rw [hdT] at e; cases e
             have hbad : Hid (readQ s.data.toList = ([], 1)) := by unfold Hid; rw [HR.out, ← hln.out, HD.out, linesQ_bad HQ.out hno]
             rw [Bool.not_eq_true] at hh
             clear hl9 hdq hno hc
             go_wp2_with fail
             refine (trim_hex a b _).mono ?_
             rintro e w4 ⟨r, hr, rfl, hb4⟩
             rw [hh] at hr
             have bel4 : Below w1.heap.size w1 w4 := hbel'.trans (hb4.mono hsz')
             clear hb4 hh
             go_wp2
             go_ret2
             rw [hbad.out]
             exact readPostN_none (hb1.trans (bel4.mono hb1.size)) 1
          ·have hcb : ((c.toNat : Int) != 61) = true := by rw [bne_iff_ne]; intro e; apply hc; rw [← UInt8.toNat_inj]; exact Int.ofNat.inj e
           have HS : Hid ((decQ s8.data.toList).map ((o' ++ [c]) ++ ·) = (decQ T.data.toList).map (o ++ ·)) := by unfold Hid; rw [← hdq.out, hl8, decQ_plain _ _ hc, Option.map_map]; congr 1; funext x; simp
           have hi1 : (1 : Int) ≤ (n : Int) + 1 := by omega
           clear hl8 hc hz hdq
           go_wp2_with fail
           go_region_law (refine step_append_own rfl (.tmp 57) (.tmp 60) 22 rfl w1.heap.size 5 i5 (.int .u8 0) 1 1 Tryz.underlying22 hi5 hy0 hy1 hy2 rfl (by decide) u4 _ _ (by simp [Act.eval]) (by first | exact (hown'.drew).alloc _ | exact (hown'.alloc _).drew) ⟨wr.heap.size, 0, none⟩ 1 1 [.int .u8 (c.toNat : Int)] (by simp [Act.eval]) rfl (cell_one _ _ _ rfl) (one_int _) (by unfold maxLen; omega) (by omega) (by simp; omega) ?_; intro v9 w9 own9 grow9)
           have bel9 : Below w1.heap.size w1 w9 := push_below_drew hown' hbel' hsz' grow9
           have R : w9.ownsRow w1.heap.size 5 1 v9 (o' ++ [c]).length (bv (o' ++ [c])) := by simpa [bv] using own9
           clear own9 grow9 hown'
           simp [Act.put]
           go_wp2
           go_roundw
           case rel => exact ⟨s8, o' ++ [c], rfl, by omega, by simp; omega, R, bel9, HS.out⟩
           case measure => simp [strLen]; omega
  ·obtain rfl : j = xs.length := by omega
   have hfin : Hid (readQ s.data.toList = (o, 0)) := by
    unfold Hid; rw [HR.out, ← hln.out, List.drop_of_length_le (by simp)]; rfl
   obtain ⟨p9, c9, rfl, hd1, hd2, _, hrow⟩ := owned_row hown
   have HFP : Hid (FreshP w wr p9 c9) := own_freshP hown hb1.size
   clear hxc hple hown
   go_wp2
   go_ret2
   rw [hfin.out]
   exact ⟨hb1.trans (hbel.mono hb1.size), p9, c9, rfl, hd1, hd2, hrow, HFP.out⟩
theorem qread_new (s : ByteArray) (m : Int) (w : World) (h : s.size ≤ maxLen) (hm : w.cell? ⟨1, 0, none⟩ = some (.int .i64 m)) :
  Calls Tryz.prog 48 #[.string s] w fun e w' => ReadPostN w (readQ s.data.toList) e w' := by
 by_cases h8 : 16000 < s.size
 ·refine (qread_many s w h h8).mono ?_
  rintro e w' ⟨rfl, rfl⟩
  have : readQ s.data.toList = ([], 2) := by
   unfold readQ; rw [if_pos (by rw [Array.length_toList]; exact h8)]
  rw [this]
  exact readPostN_none (Below.refl _ _) 2
 ·exact qread_few s m w (by omega) hm
end Go.Proofs.YtlndhdimamnnlaaGreatDoor

