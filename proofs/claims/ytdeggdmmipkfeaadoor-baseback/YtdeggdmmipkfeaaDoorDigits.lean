/- base.digits answers what the plain function says; nothing that was there is changed. Condition: the text is no longer than 8000 bytes. -/
import Derived.Test.YtdeggdmmipkfeaaDoorSmall
namespace Go.Proofs.YtdeggdmmipkfeaaDoor
open Go.RowKit

def DigitsPost (w : World) (l : List UInt8) (e : Ending) (w' : World) : Prop :=
  Below w.heap.size w w' ∧ ((digitsS l = none ∧ e = .returned (.tuple #[.slice none 0 0, .int .i64 0, .bool false])) ∨
    ∃ x f v, digitsS l = some (x, f) ∧ e = .returned (.tuple #[v, .int .i64 ((f : Nat) : Int), .bool true]) ∧ w'.ownsRow w.heap.size 5 1 v x.length (bv x))

theorem drop_at (s : ByteArray) (k : Nat) (h : k < s.size) : s.data.toList.drop k = s[k] :: s.data.toList.drop (k + 1) := by
  rw [List.drop_eq_getElem_cons (by simpa using h)]; rfl

theorem scan_space {s : ByteArray} {k : Nat} (h : k < s.size) (st : List UInt8 × Nat) (h1 : sp s[k] = true) : scan (s.data.toList.drop (k + 1)) st = scan (s.data.toList.drop k) st := by
  rw [drop_at s k h, scan, scanStep, if_pos h1]; rfl
theorem scan_fill {s : ByteArray} {k : Nat} (h : k < s.size) (x : List UInt8) (f : Nat) (h1 : sp s[k] = false) (h2 : s[k] = 61) : scan (s.data.toList.drop (k + 1)) (x ++ [0], f + 1) = scan (s.data.toList.drop k) (x, f) := by
  rw [drop_at s k h, scan, scanStep, if_neg (by simp [h1]), if_pos h2]; rfl
theorem scan_bad {s : ByteArray} {k : Nat} (h : k < s.size) (x : List UInt8) (f : Nat) (h1 : sp s[k] = false) (h2 : ¬ s[k] = 61) (h3 : Lib.indexByte abc s[k] < 0 ∨ 0 < f) : scan (s.data.toList.drop k) (x, f) = none := by
  rw [drop_at s k h, scan, scanStep, if_neg (by simp [h1]), if_neg h2, if_pos h3]; rfl
theorem scan_letter {s : ByteArray} {k : Nat} (h : k < s.size) (x : List UInt8) (f I : Nat) (h1 : sp s[k] = false) (h2 : ¬ s[k] = 61) (h3 : Lib.indexByte abc s[k] = (I : Int)) (h4 : f = 0) : scan (s.data.toList.drop (k + 1)) (x ++ [UInt8.ofNat I], f) = scan (s.data.toList.drop k) (x, f) := by
  rw [drop_at s k h, scan, scanStep, if_neg (by simp [h1]), if_neg h2, if_neg (by omega), h3]; rfl

set_option maxHeartbeats 2000000 in
theorem digits_any (s : ByteArray) (w : World) (hs : s.size ≤ 8000) :
    Calls Tryd.prog 10 #[.string s] w fun e w' => DigitsPost w s.data.toList e w' := by
  obtain ⟨i0, hi, hz0, hz1, hz2⟩ := info_parts info_u8
  go_enter Tryd.func10, Tryd.ntmps10
  go_wp2
  go_loopw [2, 3, 10] (fun v fv i wr => ∃ (k : Nat) (x : List UInt8) (f : Nat), k ≤ s.size ∧ i = .int .i64 k ∧ fv = .int .i64 f ∧ x.length ≤ k ∧ f ≤ k ∧ wr.ownsRow w.heap.size 5 1 v x.length (bv x) ∧ Below w.heap.size w wr ∧ scan (s.data.toList.drop k) (x, f) = scan s.data.toList ([], 0))
    (fun _ _ i _ => s.size - (intOf i).toNat)
  case atStart => exact ⟨0, [], 0, Nat.zero_le _, rfl, rfl, Nat.zero_le _, Nat.zero_le _, World.ownsRow_nil _ _ _ _, Below.refl _ _, rfl⟩
  case round =>
    obtain ⟨k, x, f, hk, rfl, rfl, hxk, hfk, hown, hbel, hsc0⟩ := hrel
    have hsc : Hid (scan (s.data.toList.drop k) (x, f) = scan s.data.toList ([], 0)) := hsc0
    clear hsc0
    have hsz := hbel.size
    by_cases hlt : k < s.size
    · by_cases h1 : sp s[k] = true
      · have HN : Hid (scan (s.data.toList.drop (k + 1)) (x, f) = scan (s.data.toList.drop k) (x, f)) := scan_space hlt (x, f) h1
        go_wp2_with (go_at_call 19; refine (space_any _ _).mono ?_; rintro e w' ⟨rfl, hw'⟩; have hw'' := hw'.symm; subst hw'')
        go_roundw
        case rel => exact ⟨k + 1, x, f, by omega, by go_num, rfl, by omega, by omega, hown, hbel, by rw [← hsc.out]; exact HN.out⟩
        case measure => simp [intOf]; omega
      · rw [Bool.not_eq_true] at h1
        have e61 := byte_eq_ofNat s[k] 61 (by decide) 61 rfl 61 rfl
        by_cases h2 : s[k] = 61
        · have HN : Hid (scan (s.data.toList.drop (k + 1)) (x ++ [0], f + 1) = scan (s.data.toList.drop k) (x, f)) := scan_fill hlt x f h1 h2
          have e61' : ((s[k].toNat : Int) == 61) = true := by rw [e61]; simp [h2]
          clear h2 e61
          go_wp2_with (first | (go_at_call 19; refine (space_any _ _).mono ?_; rintro e w' ⟨rfl, hw'⟩; have hw'' := hw'.symm; subst hw'') | (go_at_call 20; refine (indexByte_any _ abc rfl _ _).mono ?_; rintro e w' ⟨rfl, hw'⟩; have hw'' := hw'.symm; subst hw'') | (at_builtin; refine wpList_append_own _ rfl (.tmp 22) (.tmp 23) 22 rfl w.heap.size 5 i0 (.int .u8 0) 1 1 Tryd.underlying22 hi hz0 hz1 hz2 rfl (by decide) _ _ _ rfl (hown.alloc _) ⟨wr.heap.size, 0, none⟩ 1 1 [.int .u8 0] rfl rfl ?c1 ?c2 ?c3 ?c4 ?c5 ?_))
          case c1 => exact cell_one _ _ _ rfl
          case c2 => intro u hu; simp at hu; subst hu; rfl
          case c3 => unfold maxLen; omega
          case c4 => omega
          case c5 => simp; omega
          intro v' w1 hown' hgrow _
          have RB : Below w.heap.size w w1 := push_below hown hbel hsz hgrow
          have R : w1.ownsRow w.heap.size 5 1 v' (x ++ [0]).length (bv (x ++ [0])) := by
            simpa [bv] using hown'
          clear hown' hgrow hown
          go_wp2
          go_roundw
          case rel => exact ⟨k + 1, x ++ [0], f + 1, by omega, by go_num, by go_num, by simp; omega, by omega, R, RB, by rw [← hsc.out]; exact HN.out⟩
          case measure => simp [intOf]; omega
        · have e61' : ((s[k].toNat : Int) == 61) = false := by rw [e61]; simp [h2]
          have hge := idx_ge s[k]
          have hltI := idx_lt s[k]
          by_cases h3 : Lib.indexByte abc s[k] < 0 ∨ 0 < f
          · have HN : Hid (scan (s.data.toList.drop k) (x, f) = none) := scan_bad hlt x f h1 h2 h3
            clear h2 e61
            by_cases h4 : Lib.indexByte abc s[k] < 0
            · go_wp2_with (first | (go_at_call 19; refine (space_any _ _).mono ?_; rintro e w' ⟨rfl, hw'⟩; have hw'' := hw'.symm; subst hw'') | (go_at_call 20; refine (indexByte_any _ abc rfl _ _).mono ?_; rintro e w' ⟨rfl, hw'⟩; have hw'' := hw'.symm; subst hw''))
              go_ret3
              exact ⟨hbel, .inl ⟨by unfold digitsS; rw [← hsc.out, HN.out]; rfl, rfl⟩⟩
            · have hd : decide (Lib.indexByte abc s[k] < 0) = false := by simpa using h4
              have hf : (0 : Int) < (f : Int) := by omega
              go_wp2_with (first | (go_at_call 19; refine (space_any _ _).mono ?_; rintro e w' ⟨rfl, hw'⟩; have hw'' := hw'.symm; subst hw'') | (go_at_call 20; refine (indexByte_any _ abc rfl _ _).mono ?_; rintro e w' ⟨rfl, hw'⟩; have hw'' := hw'.symm; subst hw''))
              go_ret3
              exact ⟨hbel, .inl ⟨by unfold digitsS; rw [← hsc.out, HN.out]; rfl, rfl⟩⟩
          · obtain ⟨I, hI⟩ : ∃ I : Nat, Lib.indexByte abc s[k] = (I : Int) := ⟨(Lib.indexByte abc s[k]).toNat, by omega⟩
            have HN : Hid (scan (s.data.toList.drop (k + 1)) (x ++ [UInt8.ofNat I], f) = scan (s.data.toList.drop k) (x, f)) := scan_letter hlt x f I h1 h2 hI (by omega)
            have hI64 : I < 64 := by omega
            have hf0 : ¬ 0 < f := by omega
            have hd2 : decide ((0 : Int) < (f : Int)) = false := by simp; omega
            clear h2 e61 h3 hge hltI
            go_wp2_with (first | (go_at_call 19; refine (space_any _ _).mono ?_; rintro e w' ⟨rfl, hw'⟩; have hw'' := hw'.symm; subst hw'') | (go_at_call 20; refine (indexByte_any _ abc rfl _ _).mono ?_; rintro e w' ⟨rfl, hw'⟩; have hw'' := hw'.symm; subst hw'') | (at_builtin; refine wpList_append_own _ rfl (.tmp 33) (.tmp 36) 22 rfl w.heap.size 5 i0 (.int .u8 0) 1 1 Tryd.underlying22 hi hz0 hz1 hz2 rfl (by decide) _ _ _ rfl (hown.alloc _) ⟨wr.heap.size, 0, none⟩ 1 1 [.int .u8 (I : Int)] rfl rfl ?c1 ?c2 ?c3 ?c4 ?c5 ?_))
            case c1 => exact cell_one _ _ _ rfl
            case c2 => intro u hu; simp at hu; subst hu; rfl
            case c3 => unfold maxLen; omega
            case c4 => omega
            case c5 => simp; omega
            intro v' w1 hown' hgrow _
            have RB : Below w.heap.size w w1 := push_below hown hbel hsz hgrow
            have R : w1.ownsRow w.heap.size 5 1 v' (x ++ [UInt8.ofNat I]).length (bv (x ++ [UInt8.ofNat I])) := by
              simpa [bv, show ((I : Int) % 256) = (I : Int) from by omega] using hown'
            clear hown' hgrow hown
            go_wp2
            go_roundw
            case rel => exact ⟨k + 1, x ++ [UInt8.ofNat I], f, by omega, by go_num, by rfl, by simp; omega, by omega, R, RB, by rw [← hsc.out]; exact HN.out⟩
            case measure => simp [intOf]; omega
    · obtain rfl : k = s.size := by omega
      have hfin : scan s.data.toList ([], 0) = some (x, f) := by
        rw [← hsc.out, List.drop_of_length_le (by rw [Array.length_toList]; exact Nat.le_refl _)]; rfl
      have hdg : digitsS s.data.toList = if 2 < f ∨ x.length % 4 ≠ 0 then none else some (x, f) := by
        unfold digitsS; rw [hfin]; rfl
      clear hfin
      have hown0 := hown
      by_cases h2 : 2 < f
      · have hno : Hid (digitsS s.data.toList = none) := by unfold Hid; rw [hdg, if_pos (.inl h2)]
        clear hdg hown0
        rcases hown.2 with ⟨rfl, hx0⟩ | ⟨g, cap, cur, rfl, hg, hh, hnc, hcp, hcs, htake⟩
        · clear hown hsc
          go_wp2
          go_ret3
          exact ⟨hbel, .inl ⟨hno.out, rfl⟩⟩
        · clear hown hsc htake hh hcs
          go_wp2
          go_ret3
          exact ⟨hbel, .inl ⟨hno.out, rfl⟩⟩
      · have hd2 : decide ((2 : Int) < (f : Int)) = false := by simp; omega
        by_cases h4 : x.length % 4 = 0
        · have hyes : Hid (digitsS s.data.toList = some (x, f)) := by unfold Hid; rw [hdg, if_neg (by omega)]
          have HO : Hid (wr.ownsRow w.heap.size 5 1 _ x.length (bv x)) := hown0
          have hb4 : ((x.length : Int) % 4 != 0) = false := by rw [bne_eq_false_iff_eq]; omega
          clear hdg hown0
          rcases hown.2 with ⟨rfl, hx0⟩ | ⟨g, cap, cur, rfl, hg, hh, hnc, hcp, hcs, htake⟩
          · clear hown hsc hb4 hx0
            go_wp2
            go_ret3
            exact ⟨hbel, .inr ⟨x, f, _, hyes.out, rfl, HO.out⟩⟩
          · clear hown hsc htake hh hcs
            go_wp2
            go_ret3
            exact ⟨hbel, .inr ⟨x, f, _, hyes.out, rfl, HO.out⟩⟩
        · have hno : Hid (digitsS s.data.toList = none) := by unfold Hid; rw [hdg, if_pos (.inr h4)]
          have hb4 : ((x.length : Int) % 4 != 0) = true := by rw [bne_iff_ne]; omega
          clear hdg hown0
          rcases hown.2 with ⟨rfl, hx0⟩ | ⟨g, cap, cur, rfl, hg, hh, hnc, hcp, hcs, htake⟩
          · exact absurd (by rw [hx0]) h4
          · clear hown hsc htake hh hcs
            go_wp2
            go_ret3
            exact ⟨hbel, .inl ⟨hno.out, rfl⟩⟩
end Go.Proofs.YtdeggdmmipkfeaaDoor
