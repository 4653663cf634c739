
import Derived.Test.YtlndhdimamnnlaaGreatDoorXmimesays16
import Derived.Deep.DeepMust
namespace Go.Proofs.YtlndhdimamnnlaaGreatDoor
def restQ (m : Bool) (t x : List UInt8) : List UInt8 × Nat := if m = true then linesQ (Lib.splitK [10] 1 (Lib.count t [10]) t) x else (x, 0)
theorem readQ_rest (s : List UInt8) (h : s.length ≤ 16000) : readQ s = restQ true s [] := by
 unfold readQ restQ
 rw [if_neg (by omega), if_pos rfl]
theorem stripR_length (l : List UInt8) : (stripR l).length ≤ l.length := by
 unfold stripR
 rw [List.length_reverse]
 have := (List.dropWhile_sublist blankQ (l := l.reverse)).length_le
 simpa using this
theorem trim_length (l p : List UInt8) : (Lib.trimSuffix l p).length ≤ l.length := by
 unfold Lib.trimSuffix
 split
 ·rw [List.length_take]; omega
 ·exact Nat.le_refl _
theorem trim_one (l : List UInt8) : Lib.trimSuffix l [61] = if endsQ l 61 = true then l.dropLast else l := by
 unfold Lib.trimSuffix
 rw [hasSuffix_one]
 split
 ·rw [List.dropLast_eq_take]; rfl
 ·rfl
theorem line_ten (a : List UInt8) : lineQ (a ++ [10]) = (Lib.trimSuffix (stripR a) [61], !Lib.hasSuffix (stripR a) [61]) := by
 unfold lineQ
 rw [endsQ_snoc, trim_one, hasSuffix_one]
 simp only [beq_self_eq_true, if_true, List.dropLast_concat]
 split
 ·rename_i h; rw [h]; rfl
 ·rename_i h; rw [Bool.not_eq_true] at h; rw [h]; rfl
theorem ends_no (a : List UInt8) (h : ∀ c ∈ a, c ≠ 10) : endsQ a 10 = false := by
 rcases List.eq_nil_or_concat a with rfl | ⟨x, d, rfl⟩
 ·rfl
 ·rw [List.concat_eq_append] at h ⊢
  rw [endsQ_snoc]
  exact beq_eq_false_iff_ne.2 (h d (by simp))
theorem line_last (a : List UInt8) (h : ∀ c ∈ a, c ≠ 10) : lineQ a = (Lib.trimSuffix (stripR a) [61], false) := by
 unfold lineQ
 rw [ends_no a h, trim_one]
 simp only [Bool.false_eq_true, if_false]
 split <;> rfl
theorem split_ten (a r : List UInt8) (h : ∀ c ∈ a, c ≠ 10) : Lib.splitK [10] 1 (Lib.count (a ++ 10 :: r) [10]) (a ++ 10 :: r) = (a ++ [10]) :: Lib.splitK [10] 1 (Lib.count r [10]) r := by
 have hi := index_at1 10 a r h
 have hd := drop_one 10 a r
 have ht := take_one 10 a r
 rw [show a ++ 10 :: r = a ++ ([10] ++ r) from rfl, Lib.count_hit (by simp) hi]
 rw [show a.length + [(10 : UInt8)].length = a.length + 1 from rfl, hd, Nat.add_comm 1, Lib.splitK, hi, if_neg (by simp), Int.toNat_natCast, ht]
 rw [show a.length + [(10 : UInt8)].length = a.length + 1 from rfl, hd]
theorem split_last (a : List UInt8) (h : ∀ c ∈ a, c ≠ 10) : Lib.splitK [10] 1 (Lib.count a [10]) a = [a] := by
 rw [Lib.count_miss (index_none1 10 _ h)]
 rfl
theorem restQ_bad (a r x : List UInt8) (h : ∀ c ∈ a, c ≠ 10) (hd : decQ (Lib.trimSuffix (stripR a) [61]) = none) : restQ true (a ++ 10 :: r) x = ([], 1) := by
 unfold restQ
 rw [if_pos rfl, split_ten a r h, linesQ, line_ten]
 simp only [hd]
theorem restQ_next (a r x d : List UInt8) (F : Bool) (h : ∀ c ∈ a, c ≠ 10) (hd : decQ (Lib.trimSuffix (stripR a) [61]) = some d) (hF : Lib.hasSuffix (stripR a) [61] = F) :
  restQ true (a ++ 10 :: r) x = if 4000 < (x ++ d ++ (if F = true then [] else [13, 10])).length then ([], 2) else restQ true r (x ++ d ++ (if F = true then [] else [13, 10])) := by
 unfold restQ
 rw [if_pos rfl, if_pos rfl, split_ten a r h, linesQ, line_ten]
 simp only [hd, hF]
 cases F <;> rfl
theorem restQ_soft (a r x d : List UInt8) (h : ∀ c ∈ a, c ≠ 10) (hd : decQ (Lib.trimSuffix (stripR a) [61]) = some d) (hF : Lib.hasSuffix (stripR a) [61] = true) :
  restQ true (a ++ 10 :: r) x = if 4000 < (x ++ d).length then ([], 2) else restQ true r (x ++ d) := by
 have := restQ_next a r x d true h hd hF
 rwa [if_pos rfl, List.append_nil] at this
theorem restQ_hard (a r x d : List UInt8) (h : ∀ c ∈ a, c ≠ 10) (hd : decQ (Lib.trimSuffix (stripR a) [61]) = some d) (hF : Lib.hasSuffix (stripR a) [61] = false) :
  restQ true (a ++ 10 :: r) x = if 4000 < (x ++ d ++ [13, 10]).length then ([], 2) else restQ true r (x ++ d ++ [13, 10]) :=
 restQ_next a r x d false h hd hF
theorem restQ_lastbad (a x : List UInt8) (h : ∀ c ∈ a, c ≠ 10) (hd : decQ (Lib.trimSuffix (stripR a) [61]) = none) : restQ true a x = ([], 1) := by
 unfold restQ
 rw [if_pos rfl, split_last a h, linesQ, line_last a h]
 simp only [hd]
theorem restQ_last (a x d : List UInt8) (h : ∀ c ∈ a, c ≠ 10) (hd : decQ (Lib.trimSuffix (stripR a) [61]) = some d) :
  restQ true a x = if 4000 < (x ++ d).length then ([], 2) else restQ false [] (x ++ d) := by
 unfold restQ
 rw [if_pos rfl, split_last a h, linesQ, line_last a h]
 simp [hd, linesQ]
end Go.Proofs.YtlndhdimamnnlaaGreatDoor



namespace Go.Proofs.YtlndhdimamnnlaaGreatDoor
open Go.RowKit
def boolN : Value → Nat
 | .bool true => 1
 | _ => 0
theorem dread_many (s : ByteArray) (w : World) (hs : s.size ≤ maxLen) (h : 16000 < s.size) :
  Calls Tryz.prog 122 #[.string s] w fun e w' => e = .returned (.tuple #[.slice none 0 0, .int .i64 2]) ∧ w' = w := by
 unfold maxLen at hs
 have h' : (16000 : Int) < (s.size : Int) := by omega
 go_enter Tryz.func122, Tryz.ntmps122
 go_wp2
 go_ret2
 exact ⟨rfl, rfl⟩
theorem readPost_own {w w' : World} {out : List UInt8 × Nat} {x : List UInt8} {p : Option Addr} {c n : Nat} (hb : Below w.heap.size w w') (ho : out = (x, n)) (h1 : x.length ≤ c) (h2 : c ≤ maxLen) (hr : BRow w' p x) (hf : FreshP w w' p c) : ReadPostN w out (.returned (.tuple #[.slice p x.length c, .int .i64 (n : Int)])) w' := by
 subst ho
 exact ⟨hb, p, c, rfl, h1, h2, hr, hf⟩
set_option maxHeartbeats 4000000 in
set_option maxRecDepth 100000 in
theorem dread_some (s : ByteArray) (w : World) (hs : s.size ≤ 16000) :
  Calls Tryz.prog 122 #[.string s] w fun e w' => ReadPostN w (readQ s.data.toList) e w' := by
 obtain ⟨i0, hi, hz0, hz1, hz2⟩ := info_parts info_u8
 have hnl : ¬ (16000 : Int) < (s.size : Int) := by omega
 go_enter Tryz.func122, Tryz.ntmps122
 go_wp2
 go_loopw [0, 4, 5] (fun sv ov mv wr => ∃ (t : ByteArray) (x : List UInt8) (m : Bool), sv = .string t ∧ mv = .bool m ∧ t.size ≤ s.size ∧ x.length ≤ 4000 ∧ wr.ownsRow w.heap.size 5 1 ov x.length (bv x) ∧ Below w.heap.size w wr ∧ Hid (restQ m t.data.toList x = readQ s.data.toList))
  (fun sv _ mv _ => strLen sv + boolN mv)
 case atStart => exact ⟨s, [], true, rfl, rfl, Nat.le_refl _, by simp, World.ownsRow_nil _ _ _ _, Below.refl _ _, (readQ_rest _ (by rw [← Lib.size_eq]; exact hs)).symm⟩
 case round =>
  obtain ⟨t, x, m, rfl, rfl, hts, hx4, hown, hbel, HR⟩ := hrel
  cases m
  ·obtain ⟨p, c, rfl, h1, h2, _, hr⟩ := owned_row hown
   have HF : Hid (readQ s.data.toList = (x, 0)) := HR.out.symm
   have HFR : Hid (FreshP w wr p c) := own_freshP hown (Nat.le_refl _)
   clear HR hown
   have HB : Hid (BRow wr p x) := hr
   clear hr
   go_wp2
   go_ret2
   exact readPost_own hbel HF.out h1 h2 HB.out HFR.out
  ·go_wp2_with fail
   refine (cut_ten t wr (by omega)).mono ?_
   rintro e w1 ⟨hb1, ⟨rfl, hno⟩ | ⟨A, R, rfl, h3, hno⟩⟩
   ·have _hh : True := trivial
    have HNO : Hid (∀ c ∈ t.data.toList, c ≠ 10) := hno
    clear hno
    have hAs : t.size ≤ 16000 := by omega
    have hown1 := ownsRow_below hown hb1
    have hbw1 : Below w.heap.size w w1 := hbel.trans (hb1.mono hbel.size)
    clear hown hb1 hbel
    go_wp2_with fail
    refine (trim_blank t w1 hAs).mono ?_
    rintro e w2 ⟨rfl, hb2⟩
    have hown2 := ownsRow_below hown1 hb2
    have hbw2 : Below w.heap.size w w2 := hbw1.trans (hb2.mono hbw1.size)
    clear hown1 hb2 hbw1
    have hsl : (stripR t.data.toList).length ≤ t.size := by rw [Lib.size_eq]; exact stripR_length _
    have htl := trim_length (stripR t.data.toList) [61]
    go_wp2_with fail
    refine (Tryz.strings_CutSuffix ⟨(stripR t.data.toList).toArray⟩ ⟨#[61]⟩ w2 (by show (stripR t.data.toList).toArray.size ≤ _; rw [List.size_toArray]; omega)).mono ?_
    rintro e w2' ⟨rfl, hw'⟩
    have hw'' := hw'.symm
    subst hw''
    obtain ⟨X, hX⟩ : ∃ X, X = Lib.trimSuffix (stripR t.data.toList) [61] := ⟨_, rfl⟩
    obtain ⟨F, hF⟩ : ∃ F, F = Lib.hasSuffix (stripR t.data.toList) [61] := ⟨_, rfl⟩
    rw [show Lib.trimSuffix (ByteArray.mk (stripR t.data.toList).toArray).data.toList (ByteArray.mk #[61]).data.toList = X from hX.symm, show Lib.hasSuffix (ByteArray.mk (stripR t.data.toList).toArray).data.toList (ByteArray.mk #[61]).data.toList = F from hF.symm]
    have HX : Hid (Lib.trimSuffix (stripR t.data.toList) [61] = X) := hX.symm
    have HF : Hid (Lib.hasSuffix (stripR t.data.toList) [61] = F) := hF.symm
    clear hX hF
    have hXl : X.length ≤ 16000 := by rw [← HX.out]; omega
    have hsz2 := hbw2.size
    clear htl hsl
    go_wp2_with fail
    refine (appendRead_any w.heap.size _ _ x ⟨X.toArray⟩ w2 rfl (by omega) (by show X.toArray.size ≤ _; rw [List.size_toArray]; exact hXl) hsz2 hown2).mono ?_
    rintro e w3 ⟨hb3, hB3, ⟨hd, rfl⟩ | ⟨d, v, hd, rfl, hdl, hown3⟩⟩
    ·have HF' : Hid (readQ s.data.toList = ([], 1)) := HR.out.symm.trans (restQ_lastbad _ _ HNO.out (by rw [HX.out]; exact hd))
     have hbw3 : Below w.heap.size w w3 := hbw2.trans hb3
     clear hd hown2 hb3 HR
     go_wp2
     go_ret2
     show ReadPostN _ _ _ _
     rw [HF'.out]
     exact readPostN_none hbw3 1
    ·have hbw3 : Below w.heap.size w w3 := hbw2.trans hb3
     have hdl' : d.length ≤ 16000 := Nat.le_trans hdl hXl
     clear hb3 hown2 hdl
     have hd' : Hid (decQ X = some d) := hd
     clear hd
     obtain ⟨p, c, rfl, h1, h2, _, hr⟩ := owned_row hown3
     have HB : Hid (BRow w3 p (x ++ d)) := hr
     have HO := hown3
     have HO' : Hid (w3.ownsRow w.heap.size 5 1 (.slice p (x ++ d).length c) (x ++ d).length (bv (x ++ d))) := HO
     clear hr HO hown3
     obtain ⟨N, hN⟩ : ∃ N, N = (x ++ d).length := ⟨_, rfl⟩
     rw [← hN] at h1 HO' ⊢
     by_cases h4 : 4000 < N
     ·have HQ : Hid (readQ s.data.toList = ([], 2)) := HR.out.symm.trans ((restQ_last _ _ d HNO.out (by rw [HX.out]; exact hd'.out)).trans (if_pos (by rw [← hN]; exact h4)))
      have h4' : (4000 : Int) < (N : Int) := by omega
      clear hN HO' HB HR
      go_wp2
      go_ret2
      show ReadPostN _ _ _ _
      rw [HQ.out]
      exact readPostN_none hbw3 2
     ·have HQ : Hid (restQ false [] (x ++ d) = readQ s.data.toList) := (((restQ_last _ _ d HNO.out (by rw [HX.out]; exact hd'.out)).trans (if_neg (by rw [← hN]; exact h4))).symm.trans HR.out)
      have h4' : ¬ (4000 : Int) < (N : Int) := by omega
      have HNN : Hid (N = (x ++ d).length) := hN
      clear hN HB HR
      go_wp2
      go_roundw
      case rel => exact ⟨⟨#[]⟩, x ++ d, false, rfl, rfl, by show 0 ≤ _; omega, by rw [← HNN.out]; omega, by rw [← HNN.out] at *; exact HO'.out, hbw3, HQ⟩
      case measure => simp [strLen, boolN]; show 0 < _; omega
   ·have _hh : True := trivial
    have HNO : Hid (∀ c ∈ A.data.toList, c ≠ 10) := hno
    have hsizes : A.size + R.size + 1 = t.size := by rw [Lib.size_eq, Lib.size_eq, Lib.size_eq t, h3, List.length_append, List.length_cons]; omega
    rw [h3] at HR
    clear hno h3
    have hAs : A.size ≤ 16000 := by omega
    have hown1 := ownsRow_below hown hb1
    have hbw1 : Below w.heap.size w w1 := hbel.trans (hb1.mono hbel.size)
    clear hown hb1 hbel
    go_wp2_with fail
    refine (trim_blank A w1 hAs).mono ?_
    rintro e w2 ⟨rfl, hb2⟩
    have hown2 := ownsRow_below hown1 hb2
    have hbw2 : Below w.heap.size w w2 := hbw1.trans (hb2.mono hbw1.size)
    clear hown1 hb2 hbw1
    have hsl : (stripR A.data.toList).length ≤ A.size := by rw [Lib.size_eq]; exact stripR_length _
    have htl := trim_length (stripR A.data.toList) [61]
    go_wp2_with fail
    refine (Tryz.strings_CutSuffix ⟨(stripR A.data.toList).toArray⟩ ⟨#[61]⟩ w2 (by show (stripR A.data.toList).toArray.size ≤ _; rw [List.size_toArray]; omega)).mono ?_
    rintro e w2' ⟨rfl, hw'⟩
    have hw'' := hw'.symm
    subst hw''
    obtain ⟨X, hX⟩ : ∃ X, X = Lib.trimSuffix (stripR A.data.toList) [61] := ⟨_, rfl⟩
    obtain ⟨F, hF⟩ : ∃ F, F = Lib.hasSuffix (stripR A.data.toList) [61] := ⟨_, rfl⟩
    rw [show Lib.trimSuffix (ByteArray.mk (stripR A.data.toList).toArray).data.toList (ByteArray.mk #[61]).data.toList = X from hX.symm, show Lib.hasSuffix (ByteArray.mk (stripR A.data.toList).toArray).data.toList (ByteArray.mk #[61]).data.toList = F from hF.symm]
    have HX : Hid (Lib.trimSuffix (stripR A.data.toList) [61] = X) := hX.symm
    have HF : Hid (Lib.hasSuffix (stripR A.data.toList) [61] = F) := hF.symm
    clear hX hF
    have hXl : X.length ≤ 16000 := by rw [← HX.out]; omega
    have hsz2 := hbw2.size
    clear htl hsl
    go_wp2_with fail
    refine (appendRead_any w.heap.size _ _ x ⟨X.toArray⟩ w2 rfl (by omega) (by show X.toArray.size ≤ _; rw [List.size_toArray]; exact hXl) hsz2 hown2).mono ?_
    rintro e w3 ⟨hb3, hB3, ⟨hd, rfl⟩ | ⟨d, v, hd, rfl, hdl, hown3⟩⟩
    ·have HF' : Hid (readQ s.data.toList = ([], 1)) := HR.out.symm.trans (restQ_bad _ _ _ HNO.out (by rw [HX.out]; exact hd))
     have hbw3 : Below w.heap.size w w3 := hbw2.trans hb3
     clear hd hown2 hb3 HR
     go_wp2
     go_ret2
     show ReadPostN _ _ _ _
     rw [HF'.out]
     exact readPostN_none hbw3 1
    ·have hbw3 : Below w.heap.size w w3 := hbw2.trans hb3
     have hdl' : d.length ≤ 16000 := Nat.le_trans hdl hXl
     clear hb3 hown2 hdl
     have hd' : Hid (decQ X = some d) := hd
     clear hd
     have hsz3 := hbw3.size
     cases F
     ·have _hh : True := trivial
      have hl3 : (x ++ d).length ≤ 30000 := by rw [List.length_append]; omega
      go_wp2_with (at_builtin; refine wpList_append_own _ rfl (.tmp 38) (.tmp 39) 22 rfl w.heap.size 5 i0 (.int .u8 0) 1 1 Tryz.underlying22 hi hz0 hz1 hz2 rfl (by decide) _ _ _ rfl (hown3.alloc _) ⟨w3.heap.size, 0, none⟩ 2 2 [.int .u8 13, .int .u8 10] rfl rfl ?d1 ?d2 ?d3 ?d4 ?d5 ?_)
      case d1 => exact cell_two _ _ _ _
      case d2 => intro u hu; simp at hu; rcases hu with rfl | rfl <;> rfl
      case d3 => unfold maxLen; omega
      case d4 => omega
      case d5 => simp; omega
      intro v4 w4 hown4 hg4 _
      have hbw4 : Below w.heap.size w w4 := push_below hown3 hbw3 hsz3 hg4
      have R4 := row_eq (l := x ++ d ++ [13, 10]) hown4 (by simp; omega) (by simp [bv])
      clear hown4 hg4 hown3 hbw3
      obtain ⟨p, c, rfl, h1, h2, _, hr⟩ := owned_row R4
      have HB : Hid (BRow w4 p (x ++ d ++ [13, 10])) := hr
      have HO := R4
      have HO' : Hid (w4.ownsRow w.heap.size 5 1 (.slice p (x ++ d ++ [13, 10]).length c) (x ++ d ++ [13, 10]).length (bv (x ++ d ++ [13, 10]))) := HO
      clear hr HO R4
      obtain ⟨N, hN⟩ : ∃ N, N = (x ++ d ++ [13, 10]).length := ⟨_, rfl⟩
      rw [← hN] at h1 HO' ⊢
      by_cases h4 : 4000 < N
      ·have HQ : Hid (readQ s.data.toList = ([], 2)) := HR.out.symm.trans ((restQ_hard _ _ _ d HNO.out (by rw [HX.out]; exact hd'.out) HF.out).trans (if_pos (by rw [← hN]; exact h4)))
       have h4' : (4000 : Int) < (N : Int) := by omega
       clear hN HO' HB HR
       go_wp2
       go_ret2
       show ReadPostN _ _ _ _
       rw [HQ.out]
       exact readPostN_none hbw4 2
      ·have HQ : Hid (restQ true R.data.toList (x ++ d ++ [13, 10]) = readQ s.data.toList) := (((restQ_hard _ _ _ d HNO.out (by rw [HX.out]; exact hd'.out) HF.out).trans (if_neg (by rw [← hN]; exact h4))).symm.trans HR.out)
       have h4' : ¬ (4000 : Int) < (N : Int) := by omega
       have HNN : Hid (N = (x ++ d ++ [13, 10]).length) := hN
       clear hN HB HR
       go_wp2
       go_roundw
       case rel => exact ⟨R, x ++ d ++ [13, 10], true, rfl, rfl, by omega, by rw [← HNN.out]; omega, by rw [← HNN.out] at *; exact HO'.out, hbw4, HQ⟩
       case measure => simp [strLen, boolN]; omega
     ·have hown4 := hown3
      clear hown3
      obtain ⟨p, c, rfl, h1, h2, _, hr⟩ := owned_row hown4
      have HB : Hid (BRow w3 p (x ++ d)) := hr
      have HO := hown4
      have HO' : Hid (w3.ownsRow w.heap.size 5 1 (.slice p (x ++ d).length c) (x ++ d).length (bv (x ++ d))) := HO
      clear hr HO hown4
      obtain ⟨N, hN⟩ : ∃ N, N = (x ++ d).length := ⟨_, rfl⟩
      rw [← hN] at h1 HO' ⊢
      by_cases h4 : 4000 < N
      ·have HQ : Hid (readQ s.data.toList = ([], 2)) := HR.out.symm.trans ((restQ_soft _ _ _ d HNO.out (by rw [HX.out]; exact hd'.out) HF.out).trans (if_pos (by rw [← hN]; exact h4)))
       have h4' : (4000 : Int) < (N : Int) := by omega
       clear hN HO' HB HR
       go_wp2
       go_ret2
       show ReadPostN _ _ _ _
       rw [HQ.out]
       exact readPostN_none hbw3 2
      ·have HQ : Hid (restQ true R.data.toList (x ++ d) = readQ s.data.toList) := (((restQ_soft _ _ _ d HNO.out (by rw [HX.out]; exact hd'.out) HF.out).trans (if_neg (by rw [← hN]; exact h4))).symm.trans HR.out)
       have h4' : ¬ (4000 : Int) < (N : Int) := by omega
       have HNN : Hid (N = (x ++ d).length) := hN
       clear hN HB HR
       go_wp2
       go_roundw
       case rel => exact ⟨R, x ++ d, true, rfl, rfl, by omega, by rw [← HNN.out]; omega, by rw [← HNN.out] at *; exact HO'.out, hbw3, HQ⟩
       case measure => simp [strLen, boolN]; omega
theorem dread_new (s : ByteArray) (w : World) (h : s.size ≤ maxLen) :
  Calls Tryz.prog 122 #[.string s] w fun e w' => ReadPostN w (readQ s.data.toList) e w' := by
 by_cases h8 : 16000 < s.size
 ·refine (dread_many s w h h8).mono ?_
  rintro e w' ⟨rfl, rfl⟩
  have e : readQ s.data.toList = ([], 2) := by unfold readQ; rw [if_pos (by rw [← Lib.size_eq]; exact h8)]
  rw [e]
  exact readPostN_none (Below.refl _ _) 2
 ·exact dread_some s w (by omega)
end Go.Proofs.YtlndhdimamnnlaaGreatDoor



namespace Go.Proofs.YtlndhdimamnnlaaGreatDoor
open Go.RowKit Go.Lib
def AscTab (w : World) : Prop := ∀ i, i < 128 → w.cell? ⟨2, i, none⟩ = some (.int .u16 ((asc.getD i 0 : Nat) : Int))
def OrbTab (w : World) : Prop := ∃ R oR cap, w.cell? ⟨3, 0, none⟩ = some (.slice (some ⟨R, oR, none⟩) 94 cap) ∧
 ∀ i, i < 94 → w.cell? ⟨R, oR + i * 2, none⟩ = some (.int .u16 (((orb.getD i (0, 0)).1 : Nat) : Int)) ∧ w.cell? ⟨R, oR + i * 2 + 1, none⟩ = some (.int .u16 (((orb.getD i (0, 0)).2 : Nat) : Int))
def FoldTabs (w : World) : Prop := AscTab w ∧ OrbTab w ∧ CaseVar 4 caseA w
theorem FoldTabs.below {w w' : World} (h : FoldTabs w) (hb : Below w.heap.size w w') : FoldTabs w' := by
 obtain ⟨h1, ⟨R, oR, cap, h2, h3⟩, ⟨S, oS, cs, h4, h5⟩⟩ := h
 have cl : ∀ {q : Addr} {v : Value}, w.cell? q = some v → w'.cell? q = some v := fun {q v} h => by
  rw [hb.cell (World.block_lt_of_cell? w _ h)]; exact h
 refine ⟨fun i hi => cl (h1 i hi), ⟨R, oR, cap, cl h2, fun i hi => ⟨cl (h3 i hi).1, cl (h3 i hi).2⟩⟩, ⟨S, oS, cs, cl h4, fun i hi => ?_⟩⟩
 obtain ⟨a, b, c, d, e⟩ := h5 i hi
 exact ⟨cl a, cl b, cl c, cl d, cl e⟩
def ptrOf (S oS : Nat) : Option Nat → Value
 | some i => .pointer (some ⟨S, oS + i * 5, none⟩)
 | none => .pointer none
set_option maxHeartbeats 1000000 in
set_option maxRecDepth 1000000 in
theorem sfold_small (r : Nat) (h : r < 128) (w : World) (hT : AscTab w) :
  Calls Tryz.prog 131 #[.int .i32 (r : Int)] w fun e w' => e = .returned (.int .i32 (sfold r : Nat)) ∧ Below w.heap.size w w' := by
 have hc := hT r h
 have hi := asc_in r h
 have HS : Hid (sfold r = asc.getD r 0) := sfold_low r h
 obtain ⟨v, hv⟩ : ∃ v, asc.getD r 0 = v := ⟨_, rfl⟩
 rw [hv] at hc hi HS
 clear hv
 clear hT
 go_enter Tryz.func131, Tryz.ntmps131
 go_wp2
 go_ret
 exact ⟨by rw [HS.out]; rfl, Below.refl _ _⟩
set_option maxHeartbeats 2000000 in
set_option maxRecDepth 1000000 in
theorem sfold_large (r : Nat) (h : ¬ r < 128) (hr : r ≤ 1114111) (w : World) (hO : OrbTab w) (hV : CaseVar 4 caseA w) :
  Calls Tryz.prog 131 #[.int .i32 (r : Int)] w fun e w' => e = .returned (.int .i32 (sfold r : Nat)) ∧ Below w.heap.size w w' := by
 obtain ⟨R, oR, cap, hg, hc⟩ := hO
 obtain ⟨S, oS, cs, hk, hT⟩ := hV
 have hh : ¬ ((r : Int) < 128) := by omega
 have CL := Tryz.unicode_lookupCaseRange caseA S oS cs r w hT caseA_ok2.ok (by rw [caseA_size]; omega)
 have HN : Hid (orb.find? (fun x => x.1 == r) = none → lookupIdx caseA r (caseA.size + 1) 0 caseA.size = none → sfold r = r) := fun a b => sfold_none r h a b
 have HR : Hid (∀ i, orb.find? (fun x => x.1 == r) = none → lookupIdx caseA r (caseA.size + 1) 0 caseA.size = some i → ∃ l u : Int, ∃ w1 : World, 0 ≤ l ∧ 0 ≤ u ∧ l ≤ 1114111 ∧ u ≤ 1114111 ∧ sfold r = (if l ≠ r then l.toNat else u.toNat) ∧
   (∀ w2, w2 = w → Calls Tryz.prog 180 #[.int .i64 1, .int .i32 (r : Int), .pointer (some ⟨S, oS + i * 5, none⟩)] w2 fun e w' => e = .returned (.int .i32 l) ∧ ∃ q, w' = w2.drewN q) ∧
   (∀ q, Calls Tryz.prog 180 #[.int .i64 0, .int .i32 (r : Int), .pointer (some ⟨S, oS + i * 5, none⟩)] (w.drewN q) fun e w' => e = .returned (.int .i32 u) ∧ ∃ q', w' = (w.drewN q).drewN q')) := fun i ho hl => by
  obtain ⟨hi, h1, h2⟩ := lookup_in caseA r _ _ _ i hl
  have r0 := conv_in i hi 0 (by omega) r h1 h2
  have r1 := conv_in i hi 1 (by omega) r h1 h2
  have f0 := convert_fits _ (caseA_row i hi) 0 (by omega) r h1 h2
  have f1 := convert_fits _ (caseA_row i hi) 1 (by omega) r h1 h2
  have hH := (caseA_ok2 i hi).2
  refine ⟨_, _, w, r1.1, r0.1, r1.2, r0.2, sfold_row r i h ho hl, fun w2 e => ?_, fun q => ?_⟩
  ·subst e
   have := Tryz.unicode_convertCase 1 (by omega) r S (oS + i * 5) _ _ h1 h2 hH (hT i hi).1 (hT.delta i hi 1 (by omega))
   rwa [f1] at this
  ·have := Tryz.unicode_convertCase 0 (by omega) r S (oS + i * 5) _ (w.drewN q) h1 h2 hH ((hT.drewN q) i hi).1 ((hT.drewN q).delta i hi 0 (by omega))
   rwa [f0] at this
 generalize lookupIdx caseA r (caseA.size + 1) 0 caseA.size = ANS at CL HN HR
 clear hT
 generalize caseA.size = ks at hk CL
 have CL' : Hid (∀ w', w' = w → Calls Tryz.prog 179 #[.int .i32 (r : Int), .slice (some ⟨S, oS, none⟩) ks cs] w' fun e w'' =>
   e = .returned (ptrOf S oS ANS) ∧ w'' = w') := fun w' e => by
  subst e
  refine CL.mono ?_
  rintro e w'' ⟨rfl, rfl⟩
  cases ANS <;> exact ⟨rfl, rfl⟩
 clear CL
 go_enter Tryz.func131, Tryz.ntmps131
 go_wp2
 go_loopg [3, 4, 5] 95 (fun g s3 s4 s5 wx => w = wx ∧ ∃ lo hi : Nat, s3 = .int .i64 lo ∧ s4 = .int .i64 hi ∧ lo ≤ hi ∧ hi ≤ 94 ∧ hi - lo < g ∧ Hid (∀ i, i < lo → i < 94 → (orb.getD i (0, 0)).1 < r) ∧ Hid (∀ i, hi ≤ i → i < 94 → r ≤ (orb.getD i (0, 0)).1))
 case atStart => exact ⟨rfl, 0, 94, rfl, rfl, Nat.zero_le _, Nat.le_refl _, by omega, fun i hi => by omega, fun i hi h2 => by omega⟩
 case round =>
  obtain ⟨rfl, lo, hi, rfl, rfl, hlh, hhn, hgg, hl1, hl2⟩ := hrel
  by_cases hlt : lo < hi
  ·obtain ⟨g', rfl⟩ : ∃ g', gk = g' + 1 := ⟨gk - 1, by omega⟩
   have hz : (lo : Int) < (hi : Int) := by omega
   obtain ⟨m, hm⟩ : ∃ m, (lo + hi) / 2 = m := ⟨_, rfl⟩
   have hmr : lo ≤ m ∧ m < hi := by omega
   have hmz : ((lo : Int) + (hi : Int)) / 2 = (m : Int) := by omega
   have hmz2 : (m : Int) < 94 := by omega
   obtain ⟨c0, -⟩ := hc m (by omega)
   obtain ⟨o0, -⟩ := orb_in m (by omega)
   have HS : Hid (∀ i, i < m → (orb.getD i (0, 0)).1 < (orb.getD m (0, 0)).1) := fun i hi => orb_lt i m hi (by omega)
   have HS2 : Hid (∀ i, m ≤ i → i < 94 → (orb.getD m (0, 0)).1 ≤ (orb.getD i (0, 0)).1) := fun i hi h9 => by
    rcases Nat.lt_or_ge m i with h | h
    ·exact Nat.le_of_lt (orb_lt m i h h9)
    ·rw [show i = m from by omega]; exact Nat.le_refl _
   obtain ⟨V, hV⟩ : ∃ V, (orb.getD m (0, 0)).1 = V := ⟨_, rfl⟩
   rw [hV] at c0 o0 HS HS2
   have HV : Hid ((orb.getD m (0, 0)).1 = V) := hV
   clear hV hc hm
   by_cases hb : V < r
   ·have hbz : (V : Int) < (r : Int) := by omega
    go_wp2
    go_roundg g'
    case measure => omega
    case rel => exact ⟨rfl, m + 1, hi, by first | rfl | simp, rfl, by omega, by omega, by omega, fun i hi h9 => by
     rcases Nat.lt_or_ge i m with h | h
     ·have := HS.out i h; omega
     ·rw [show i = m from by omega, HV.out]; exact hb, hl2⟩
   ·have hbz : ¬ ((V : Int) < (r : Int)) := by omega
    go_wp2
    go_roundg g'
    case measure => omega
    case rel => exact ⟨rfl, lo, m, rfl, by first | rfl | simp, by omega, by omega, by omega, hl1, fun i hi h9 => by have := HS2.out i hi h9; omega⟩
  ·have hz : ¬ ((lo : Int) < (hi : Int)) := by omega
   obtain rfl : lo = hi := by omega
   by_cases hf : lo < 94 ∧ (orb.getD lo (0, 0)).1 = r
   ·have HS : Hid (sfold r = (orb.getD lo (0, 0)).2) := sfold_orb r lo h hf.1 hf.2
    obtain ⟨c0, c1⟩ := hc lo hf.1
    obtain ⟨o0, o1⟩ := orb_in lo hf.1
    have hl9 : (lo : Int) < 94 := by omega
    rw [hf.2] at c0 o0
    obtain ⟨V, hV⟩ : ∃ V, (orb.getD lo (0, 0)).2 = V := ⟨_, rfl⟩
    rw [hV] at c1 o1 HS
    clear hV
    clear hc hf hl1 hl2 hz hlt
    go_wp2
    go_ret
    exact ⟨by rw [HS.out]; rfl, Below.refl _ _⟩
   ·have ho : orb.find? (fun x => x.1 == r) = none := find_none r lo hl1.out hl2.out hf
    have HC : Hid (lo < 94 → ∃ V : Nat, V < 65536 ∧ V ≠ r ∧ w.cell? ⟨R, oR + lo * 2, none⟩ = some (.int .u16 (V : Int))) := fun hl => ⟨_, (orb_in lo hl).1, fun e => hf ⟨hl, e⟩, (hc lo hl).1⟩
    clear hc hf hl1 hl2 hlt
    by_cases hl94 : lo < 94
    ·obtain ⟨V, v1, v2, c0⟩ := HC.out hl94
     have hl9 : (lo : Int) < 94 := by omega
     have hne : ¬ ((V : Int) = (r : Int)) := by omega
     clear HC
     go_wp2_with fail
     refine (CL'.out _ rfl).mono ?_
     rintro e w' ⟨rfl, hw'⟩
     have hw'' := hw'.symm
     subst hw''
     cases ANS with
     | none =>
      simp only [ptrOf]
      have HS : Hid (sfold r = r) := HN.out ho rfl
      clear HN HR CL'
      go_wp2
      go_ret
      exact ⟨by rw [HS.out]; rfl, Below.refl _ _⟩
     | some i =>
      simp only [ptrOf]
      obtain ⟨l, u, w1, l0, u0, l1, u1, HS', C1', C0'⟩ := HR.out i ho rfl
      have C1 : Hid (∀ w2, w2 = w → Calls Tryz.prog 180 #[.int .i64 1, .int .i32 (r : Int), .pointer (some ⟨S, oS + i * 5, none⟩)] w2 fun e w' => e = .returned (.int .i32 l) ∧ ∃ q, w' = w2.drewN q) := C1'
      have C0 : Hid (∀ q, Calls Tryz.prog 180 #[.int .i64 0, .int .i32 (r : Int), .pointer (some ⟨S, oS + i * 5, none⟩)] (w.drewN q) fun e w' => e = .returned (.int .i32 u) ∧ ∃ q', w' = (w.drewN q).drewN q') := C0'
      have HS : Hid (sfold r = (if l ≠ r then l.toNat else u.toNat)) := HS'
      clear HN HR CL' C1' C0' HS' ho
      by_cases hlr : l = (r : Int)
      ·have HS2 : Hid (((sfold r : Nat) : Int) = u) := by unfold Hid; rw [HS.out, if_neg (by simpa using hlr)]; omega
       clear HS
       go_wp2_with fail
       refine (C1.out _ rfl).mono ?_
       rintro e w' ⟨rfl, q, rfl⟩
       go_wp2_with fail
       refine (C0.out q).mono ?_
       rintro e w' ⟨rfl, q', rfl⟩
       go_wp2
       go_ret
       exact ⟨by rw [HS2.out]; rfl, below_drewN' (Below.refl _ _) _⟩
      ·have HS2 : Hid (((sfold r : Nat) : Int) = l) := by unfold Hid; rw [HS.out, if_pos hlr]; omega
       clear HS
       go_wp2_with fail
       refine (C1.out _ rfl).mono ?_
       rintro e w' ⟨rfl, q, rfl⟩
       go_wp2
       go_ret
       exact ⟨by rw [HS2.out]; rfl, below_drewN' (Below.refl _ _) q⟩
    ·have hl9 : ¬ ((lo : Int) < 94) := by omega
     clear HC
     go_wp2_with fail
     refine (CL'.out _ rfl).mono ?_
     rintro e w' ⟨rfl, hw'⟩
     have hw'' := hw'.symm
     subst hw''
     cases ANS with
     | none =>
      simp only [ptrOf]
      have HS : Hid (sfold r = r) := HN.out ho rfl
      clear HN HR CL'
      go_wp2
      go_ret
      exact ⟨by rw [HS.out]; rfl, Below.refl _ _⟩
     | some i =>
      simp only [ptrOf]
      obtain ⟨l, u, w1, l0, u0, l1, u1, HS', C1', C0'⟩ := HR.out i ho rfl
      have C1 : Hid (∀ w2, w2 = w → Calls Tryz.prog 180 #[.int .i64 1, .int .i32 (r : Int), .pointer (some ⟨S, oS + i * 5, none⟩)] w2 fun e w' => e = .returned (.int .i32 l) ∧ ∃ q, w' = w2.drewN q) := C1'
      have C0 : Hid (∀ q, Calls Tryz.prog 180 #[.int .i64 0, .int .i32 (r : Int), .pointer (some ⟨S, oS + i * 5, none⟩)] (w.drewN q) fun e w' => e = .returned (.int .i32 u) ∧ ∃ q', w' = (w.drewN q).drewN q') := C0'
      have HS : Hid (sfold r = (if l ≠ r then l.toNat else u.toNat)) := HS'
      clear HN HR CL' C1' C0' HS' ho
      by_cases hlr : l = (r : Int)
      ·have HS2 : Hid (((sfold r : Nat) : Int) = u) := by unfold Hid; rw [HS.out, if_neg (by simpa using hlr)]; omega
       clear HS
       go_wp2_with fail
       refine (C1.out _ rfl).mono ?_
       rintro e w' ⟨rfl, q, rfl⟩
       go_wp2_with fail
       refine (C0.out q).mono ?_
       rintro e w' ⟨rfl, q', rfl⟩
       go_wp2
       go_ret
       exact ⟨by rw [HS2.out]; rfl, below_drewN' (Below.refl _ _) _⟩
      ·have HS2 : Hid (((sfold r : Nat) : Int) = l) := by unfold Hid; rw [HS.out, if_pos hlr]; omega
       clear HS
       go_wp2_with fail
       refine (C1.out _ rfl).mono ?_
       rintro e w' ⟨rfl, q, rfl⟩
       go_wp2
       go_ret
       exact ⟨by rw [HS2.out]; rfl, below_drewN' (Below.refl _ _) q⟩
theorem sfold_any (r : Nat) (hr : r ≤ 1114111) (w : World) (hT : FoldTabs w) :
  Calls Tryz.prog 131 #[.int .i32 (r : Int)] w fun e w' => e = .returned (.int .i32 (sfold r : Nat)) ∧ Below w.heap.size w w' := by
 by_cases h : r < 128
 ·exact sfold_small r h w hT.1
 ·exact sfold_large r h hr w hT.2.1 hT.2.2
end Go.Proofs.YtlndhdimamnnlaaGreatDoor

