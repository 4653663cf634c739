/- quote.Read answers the bytes that a text stands for, or an error; nothing that was there is changed. Condition: the text is no longer than a text can be. -/
import Derived.Test.YtpgnkhaanoalhaaGreatDoorXmimeborders16
import Derived.Test.YtpgnkhaanoalhaaGreatDoorXmimeborders22
namespace Go.Proofs.YtpgnkhaanoalhaaGreatDoor
open Go.RowKit

def boolN : Value → Nat
  | .bool true => 1
  | _ => 0

theorem dread_many (s : ByteArray) (w : World) (hs : s.size ≤ maxLen) (h : 16000 < s.size) :
    Calls Tryz.prog 129 #[.string s] w fun e w' => e = .returned (.tuple #[.slice none 0 0, .int .i64 2]) ∧ w' = w := by
  unfold maxLen at hs
  have h' : (16000 : Int) < (s.size : Int) := by omega
  go_enter Tryz.func129, Tryz.ntmps129
  go_wp2
  go_ret2
  exact ⟨rfl, rfl⟩

theorem readPost_own {w w' : World} {out : List UInt8 × Nat} {x : List UInt8} {p : Option Addr} {c n : Nat} (hb : Below w.heap.size w w') (ho : out = (x, n)) (h1 : x.length ≤ c) (h2 : c ≤ maxLen) (hr : BRow w' p x) (hf : FreshP w w' p c) : ReadPostN w out (.returned (.tuple #[.slice p x.length c, .int .i64 (n : Int)])) w' := by
  subst ho
  exact ⟨hb, p, c, rfl, h1, h2, hr, hf⟩

set_option maxHeartbeats 4000000 in
set_option maxRecDepth 100000 in
theorem dread_some (s : ByteArray) (w : World) (hs : s.size ≤ 16000) :
    Calls Tryz.prog 129 #[.string s] w fun e w' => ReadPostN w (readQ s.data.toList) e w' := by
  obtain ⟨i0, hi, hz0, hz1, hz2⟩ := info_parts info_u8
  have hnl : ¬ (16000 : Int) < (s.size : Int) := by omega
  go_enter Tryz.func129, Tryz.ntmps129
  go_wp2
  go_loopw [0, 4, 5] (fun sv ov mv wr => ∃ (t : ByteArray) (x : List UInt8) (m : Bool), sv = .string t ∧ mv = .bool m ∧ t.size ≤ s.size ∧ x.length ≤ 4000 ∧ wr.ownsRow w.heap.size 5 1 ov x.length (bv x) ∧ Below w.heap.size w wr ∧ Hid (restQ m t.data.toList x = readQ s.data.toList))
    (fun sv _ mv _ => strLen sv + boolN mv)
  case atStart => exact ⟨s, [], true, rfl, rfl, Nat.le_refl _, by simp, World.ownsRow_nil _ _ _ _, Below.refl _ _, (readQ_rest _ (by rw [← Lib.size_eq]; exact hs)).symm⟩
  case round =>
    obtain ⟨t, x, m, rfl, rfl, hts, hx4, hown, hbel, HR⟩ := hrel
    cases m
    · obtain ⟨p, c, rfl, h1, h2, _, hr⟩ := owned_row hown
      have HF : Hid (readQ s.data.toList = (x, 0)) := HR.out.symm
      have HFR : Hid (FreshP w wr p c) := own_freshP hown (Nat.le_refl _)
      clear HR hown
      have HB : Hid (BRow wr p x) := hr
      clear hr
      go_wp2
      go_ret2
      exact readPost_own hbel HF.out h1 h2 HB.out HFR.out
    · go_wp2_with fail
      refine (cut_ten t wr (by omega)).mono ?_
      rintro e w1 ⟨hb1, ⟨rfl, hno⟩ | ⟨A, R, rfl, h3, hno⟩⟩
      · have _hh : True := trivial
        have HNO : Hid (∀ c ∈ t.data.toList, c ≠ 10) := hno
        clear hno
        have hAs : t.size ≤ 16000 := by omega
        have hown1 := ownsRow_below hown hb1
        have hbw1 : Below w.heap.size w w1 := hbel.trans (hb1.mono hbel.size)
        clear hown hb1 hbel
        go_wp2_with fail
        refine (trim_blank t w1 hAs).mono ?_
        rintro e w2 ⟨rfl, hb2⟩
        have hown2 := ownsRow_below hown1 hb2
        have hbw2 : Below w.heap.size w w2 := hbw1.trans (hb2.mono hbw1.size)
        clear hown1 hb2 hbw1
        have hsl : (stripR t.data.toList).length ≤ t.size := by rw [Lib.size_eq]; exact stripR_length _
        have htl := trim_length (stripR t.data.toList) [61]
        go_wp2_with fail
        refine (Tryz.strings_CutSuffix ⟨(stripR t.data.toList).toArray⟩ ⟨#[61]⟩ w2 (by show (stripR t.data.toList).toArray.size ≤ _; rw [List.size_toArray]; omega)).mono ?_
        rintro e w2' ⟨rfl, hw'⟩
        have hw'' := hw'.symm
        subst hw''
        obtain ⟨X, hX⟩ : ∃ X, X = Lib.trimSuffix (stripR t.data.toList) [61] := ⟨_, rfl⟩
        obtain ⟨F, hF⟩ : ∃ F, F = Lib.hasSuffix (stripR t.data.toList) [61] := ⟨_, rfl⟩
        rw [show Lib.trimSuffix (ByteArray.mk (stripR t.data.toList).toArray).data.toList (ByteArray.mk #[61]).data.toList = X from hX.symm, show Lib.hasSuffix (ByteArray.mk (stripR t.data.toList).toArray).data.toList (ByteArray.mk #[61]).data.toList = F from hF.symm]
        have HX : Hid (Lib.trimSuffix (stripR t.data.toList) [61] = X) := hX.symm
        have HF : Hid (Lib.hasSuffix (stripR t.data.toList) [61] = F) := hF.symm
        clear hX hF
        have hXl : X.length ≤ 16000 := by rw [← HX.out]; omega
        have hsz2 := hbw2.size
        clear htl hsl
        go_wp2_with fail
        refine (appendRead_any w.heap.size _ _ x ⟨X.toArray⟩ w2 rfl (by omega) (by show X.toArray.size ≤ _; rw [List.size_toArray]; exact hXl) hsz2 hown2).mono ?_
        rintro e w3 ⟨hb3, hB3, ⟨hd, rfl⟩ | ⟨d, v, hd, rfl, hdl, hown3⟩⟩
        · have HF' : Hid (readQ s.data.toList = ([], 1)) := HR.out.symm.trans (restQ_lastbad _ _ HNO.out (by rw [HX.out]; exact hd))
          have hbw3 : Below w.heap.size w w3 := hbw2.trans hb3
          clear hd hown2 hb3 HR
          go_wp2
          go_ret2
          show ReadPostN _ _ _ _
          rw [HF'.out]
          exact readPostN_none hbw3 1
        · have hbw3 : Below w.heap.size w w3 := hbw2.trans hb3
          have hdl' : d.length ≤ 16000 := Nat.le_trans hdl hXl
          clear hb3 hown2 hdl
          have hd' : Hid (decQ X = some d) := hd
          clear hd
          obtain ⟨p, c, rfl, h1, h2, _, hr⟩ := owned_row hown3
          have HB : Hid (BRow w3 p (x ++ d)) := hr
          have HO := hown3
          have HO' : Hid (w3.ownsRow w.heap.size 5 1 (.slice p (x ++ d).length c) (x ++ d).length (bv (x ++ d))) := HO
          clear hr HO hown3
          obtain ⟨N, hN⟩ : ∃ N, N = (x ++ d).length := ⟨_, rfl⟩
          rw [← hN] at h1 HO' ⊢
          by_cases h4 : 4000 < N
          · have HQ : Hid (readQ s.data.toList = ([], 2)) := HR.out.symm.trans ((restQ_last _ _ d HNO.out (by rw [HX.out]; exact hd'.out)).trans (if_pos (by rw [← hN]; exact h4)))
            have h4' : (4000 : Int) < (N : Int) := by omega
            clear hN HO' HB HR
            go_wp2
            go_ret2
            show ReadPostN _ _ _ _
            rw [HQ.out]
            exact readPostN_none hbw3 2
          · have HQ : Hid (restQ false [] (x ++ d) = readQ s.data.toList) := (((restQ_last _ _ d HNO.out (by rw [HX.out]; exact hd'.out)).trans (if_neg (by rw [← hN]; exact h4))).symm.trans HR.out)
            have h4' : ¬ (4000 : Int) < (N : Int) := by omega
            have HNN : Hid (N = (x ++ d).length) := hN
            clear hN HB HR
            go_wp2
            go_roundw
            case rel => exact ⟨⟨#[]⟩, x ++ d, false, rfl, rfl, by show 0 ≤ _; omega, by rw [← HNN.out]; omega, by rw [← HNN.out] at *; exact HO'.out, hbw3, HQ⟩
            case measure => simp [strLen, boolN]; show 0 < _; omega
      · have _hh : True := trivial
        have HNO : Hid (∀ c ∈ A.data.toList, c ≠ 10) := hno
        have hsizes : A.size + R.size + 1 = t.size := by rw [Lib.size_eq, Lib.size_eq, Lib.size_eq t, h3, List.length_append, List.length_cons]; omega
        rw [h3] at HR
        clear hno h3
        have hAs : A.size ≤ 16000 := by omega
        have hown1 := ownsRow_below hown hb1
        have hbw1 : Below w.heap.size w w1 := hbel.trans (hb1.mono hbel.size)
        clear hown hb1 hbel
        go_wp2_with fail
        refine (trim_blank A w1 hAs).mono ?_
        rintro e w2 ⟨rfl, hb2⟩
        have hown2 := ownsRow_below hown1 hb2
        have hbw2 : Below w.heap.size w w2 := hbw1.trans (hb2.mono hbw1.size)
        clear hown1 hb2 hbw1
        have hsl : (stripR A.data.toList).length ≤ A.size := by rw [Lib.size_eq]; exact stripR_length _
        have htl := trim_length (stripR A.data.toList) [61]
        go_wp2_with fail
        refine (Tryz.strings_CutSuffix ⟨(stripR A.data.toList).toArray⟩ ⟨#[61]⟩ w2 (by show (stripR A.data.toList).toArray.size ≤ _; rw [List.size_toArray]; omega)).mono ?_
        rintro e w2' ⟨rfl, hw'⟩
        have hw'' := hw'.symm
        subst hw''
        obtain ⟨X, hX⟩ : ∃ X, X = Lib.trimSuffix (stripR A.data.toList) [61] := ⟨_, rfl⟩
        obtain ⟨F, hF⟩ : ∃ F, F = Lib.hasSuffix (stripR A.data.toList) [61] := ⟨_, rfl⟩
        rw [show Lib.trimSuffix (ByteArray.mk (stripR A.data.toList).toArray).data.toList (ByteArray.mk #[61]).data.toList = X from hX.symm, show Lib.hasSuffix (ByteArray.mk (stripR A.data.toList).toArray).data.toList (ByteArray.mk #[61]).data.toList = F from hF.symm]
        have HX : Hid (Lib.trimSuffix (stripR A.data.toList) [61] = X) := hX.symm
        have HF : Hid (Lib.hasSuffix (stripR A.data.toList) [61] = F) := hF.symm
        clear hX hF
        have hXl : X.length ≤ 16000 := by rw [← HX.out]; omega
        have hsz2 := hbw2.size
        clear htl hsl
        go_wp2_with fail
        refine (appendRead_any w.heap.size _ _ x ⟨X.toArray⟩ w2 rfl (by omega) (by show X.toArray.size ≤ _; rw [List.size_toArray]; exact hXl) hsz2 hown2).mono ?_
        rintro e w3 ⟨hb3, hB3, ⟨hd, rfl⟩ | ⟨d, v, hd, rfl, hdl, hown3⟩⟩
        · have HF' : Hid (readQ s.data.toList = ([], 1)) := HR.out.symm.trans (restQ_bad _ _ _ HNO.out (by rw [HX.out]; exact hd))
          have hbw3 : Below w.heap.size w w3 := hbw2.trans hb3
          clear hd hown2 hb3 HR
          go_wp2
          go_ret2
          show ReadPostN _ _ _ _
          rw [HF'.out]
          exact readPostN_none hbw3 1
        · have hbw3 : Below w.heap.size w w3 := hbw2.trans hb3
          have hdl' : d.length ≤ 16000 := Nat.le_trans hdl hXl
          clear hb3 hown2 hdl
          have hd' : Hid (decQ X = some d) := hd
          clear hd
          have hsz3 := hbw3.size
          cases F
          · have _hh : True := trivial
            have hl3 : (x ++ d).length ≤ 30000 := by rw [List.length_append]; omega
            go_wp2_with (at_builtin; refine wpList_append_own _ rfl (.tmp 38) (.tmp 39) 22 rfl w.heap.size 5 i0 (.int .u8 0) 1 1 Tryz.underlying22 hi hz0 hz1 hz2 rfl (by decide) _ _ _ rfl (hown3.alloc _) ⟨w3.heap.size, 0, none⟩ 2 2 [.int .u8 13, .int .u8 10] rfl rfl ?d1 ?d2 ?d3 ?d4 ?d5 ?_)
            case d1 => exact cell_two _ _ _ _
            case d2 => intro u hu; simp at hu; rcases hu with rfl | rfl <;> rfl
            case d3 => unfold maxLen; omega
            case d4 => omega
            case d5 => simp; omega
            intro v4 w4 hown4 hg4 _
            have hbw4 : Below w.heap.size w w4 := push_below hown3 hbw3 hsz3 hg4
            have R4 := row_eq (l := x ++ d ++ [13, 10]) hown4 (by simp; omega) (by simp [bv])
            clear hown4 hg4 hown3 hbw3
            obtain ⟨p, c, rfl, h1, h2, _, hr⟩ := owned_row R4
            have HB : Hid (BRow w4 p (x ++ d ++ [13, 10])) := hr
            have HO := R4
            have HO' : Hid (w4.ownsRow w.heap.size 5 1 (.slice p (x ++ d ++ [13, 10]).length c) (x ++ d ++ [13, 10]).length (bv (x ++ d ++ [13, 10]))) := HO
            clear hr HO R4
            obtain ⟨N, hN⟩ : ∃ N, N = (x ++ d ++ [13, 10]).length := ⟨_, rfl⟩
            rw [← hN] at h1 HO' ⊢
            by_cases h4 : 4000 < N
            · have HQ : Hid (readQ s.data.toList = ([], 2)) := HR.out.symm.trans ((restQ_hard _ _ _ d HNO.out (by rw [HX.out]; exact hd'.out) HF.out).trans (if_pos (by rw [← hN]; exact h4)))
              have h4' : (4000 : Int) < (N : Int) := by omega
              clear hN HO' HB HR
              go_wp2
              go_ret2
              show ReadPostN _ _ _ _
              rw [HQ.out]
              exact readPostN_none hbw4 2
            · have HQ : Hid (restQ true R.data.toList (x ++ d ++ [13, 10]) = readQ s.data.toList) := (((restQ_hard _ _ _ d HNO.out (by rw [HX.out]; exact hd'.out) HF.out).trans (if_neg (by rw [← hN]; exact h4))).symm.trans HR.out)
              have h4' : ¬ (4000 : Int) < (N : Int) := by omega
              have HNN : Hid (N = (x ++ d ++ [13, 10]).length) := hN
              clear hN HB HR
              go_wp2
              go_roundw
              case rel => exact ⟨R, x ++ d ++ [13, 10], true, rfl, rfl, by omega, by rw [← HNN.out]; omega, by rw [← HNN.out] at *; exact HO'.out, hbw4, HQ⟩
              case measure => simp [strLen, boolN]; omega
          · have hown4 := hown3
            clear hown3
            obtain ⟨p, c, rfl, h1, h2, _, hr⟩ := owned_row hown4
            have HB : Hid (BRow w3 p (x ++ d)) := hr
            have HO := hown4
            have HO' : Hid (w3.ownsRow w.heap.size 5 1 (.slice p (x ++ d).length c) (x ++ d).length (bv (x ++ d))) := HO
            clear hr HO hown4
            obtain ⟨N, hN⟩ : ∃ N, N = (x ++ d).length := ⟨_, rfl⟩
            rw [← hN] at h1 HO' ⊢
            by_cases h4 : 4000 < N
            · have HQ : Hid (readQ s.data.toList = ([], 2)) := HR.out.symm.trans ((restQ_soft _ _ _ d HNO.out (by rw [HX.out]; exact hd'.out) HF.out).trans (if_pos (by rw [← hN]; exact h4)))
              have h4' : (4000 : Int) < (N : Int) := by omega
              clear hN HO' HB HR
              go_wp2
              go_ret2
              show ReadPostN _ _ _ _
              rw [HQ.out]
              exact readPostN_none hbw3 2
            · have HQ : Hid (restQ true R.data.toList (x ++ d) = readQ s.data.toList) := (((restQ_soft _ _ _ d HNO.out (by rw [HX.out]; exact hd'.out) HF.out).trans (if_neg (by rw [← hN]; exact h4))).symm.trans HR.out)
              have h4' : ¬ (4000 : Int) < (N : Int) := by omega
              have HNN : Hid (N = (x ++ d).length) := hN
              clear hN HB HR
              go_wp2
              go_roundw
              case rel => exact ⟨R, x ++ d, true, rfl, rfl, by omega, by rw [← HNN.out]; omega, by rw [← HNN.out] at *; exact HO'.out, hbw3, HQ⟩
              case measure => simp [strLen, boolN]; omega

/-- quote.Read. -/
theorem dread_new (s : ByteArray) (w : World) (h : s.size ≤ maxLen) :
    Calls Tryz.prog 129 #[.string s] w fun e w' => ReadPostN w (readQ s.data.toList) e w' := by
  by_cases h8 : 16000 < s.size
  · refine (dread_many s w h h8).mono ?_
    rintro e w' ⟨rfl, rfl⟩
    have e : readQ s.data.toList = ([], 2) := by unfold readQ; rw [if_pos (by rw [← Lib.size_eq]; exact h8)]
    rw [e]
    exact readPostN_none (Below.refl _ _) 2
  · exact dread_some s w (by omega)
theorem dread_any (s : ByteArray) (w : World) (h : s.size ≤ maxLen) :
    Calls Tryz.prog 129 #[.string s] w fun e w' => ReadPost w (readQ s.data.toList) e w' := (dread_new s w h).mono fun _ _ h => h.old
end Go.Proofs.YtpgnkhaanoalhaaGreatDoor
