
import Derived.Test.YtlndhdimamnnlaaGreatDoorXmimesays4
import Derived.Lib.AppendStr
namespace Go.Proofs.YtlndhdimamnnlaaGreatDoor
open Go.RowKit
abbrev FV := ByteArray × ByteArray
def fl (f : FV) : Fld := (f.1.data.toList, f.2.data.toList)
def FRow (w : World) (p : Option Addr) (l : List FV) : Prop :=
 l ≠ [] → ∃ b o, p = some ⟨b, o, none⟩ ∧ ∀ i, i < l.length → w.cell? ⟨b, o + i * 2, none⟩ = some (.string (l.getD i default).1) ∧ w.cell? ⟨b, o + i * 2 + 1, none⟩ = some (.string (l.getD i default).2)
def FLen (l : List FV) : Prop := ∀ f ∈ l, f.1.size ≤ maxLen ∧ f.2.size ≤ maxLen
theorem FRow.below {w w' : World} {p : Option Addr} {l : List FV} (h : FRow w p l) (hb : Below w.heap.size w w') : FRow w' p l := by
 intro hne
 obtain ⟨b, o, rfl, hc⟩ := h hne
 refine ⟨b, o, rfl, fun i hi => ?_⟩
 have := hc i hi
 rw [hb.cell (p := ⟨b, o + i * 2, none⟩) (World.block_lt_of_cell? w _ this.1), hb.cell (p := ⟨b, o + i * 2 + 1, none⟩) (World.block_lt_of_cell? w _ this.2)]
 exact this
theorem fv_at (l : List FV) (k : Nat) (h : k < l.length) : l.drop k = l.getD k default :: l.drop (k + 1) := by
 rw [List.drop_eq_getElem_cons h]
 simp [List.getD_eq_getElem?_getD, List.getElem?_eq_getElem h]
theorem fv_mem (l : List FV) (k : Nat) (h : k < l.length) : l.getD k default ∈ l := by
 simp [List.getD_eq_getElem?_getD, List.getElem?_eq_getElem h]
def okAll (l : List FV) : Bool := l.all fun f => okF (fl f)
theorem okAll_cons (f : FV) (l : List FV) : okAll (f :: l) = (okF (fl f) && okAll l) := rfl
def badN (l : List FV) : Nat := if okAll l = true then 0 else 1
theorem badN_yes {l : List FV} (h : okAll l = true) : badN l = 0 := by rw [badN, if_pos h]
theorem badN_no {l : List FV} (h : okAll l = false) : badN l = 1 := by rw [badN, if_neg (by simp [h])]
def checkV (l : List FV) : Nat := if 20 < l.length then 2 else badN l
theorem check_many (p : Option Addr) (n c : Nat) (w : World) (hm : n ≤ maxLen) (h : 20 < n) :
  Calls Tryz.prog 80 #[.slice p n c] w fun e w' => e = .returned (.int .i64 2) ∧ w' = w := by
 unfold maxLen at hm
 have h' : (20 : Int) < (n : Int) := by omega
 go_enter Tryz.func80, Tryz.ntmps80
 go_wp2
 go_ret
 exact ⟨rfl, rfl⟩
set_option maxHeartbeats 1000000 in
theorem check_some (b o n c : Nat) (l : List FV) (en : n = l.length) (w : World) (h0 : 1 ≤ n) (h : n ≤ 20) (hl : FLen l)
  (hc : ∀ i, i < n → w.cell? ⟨b, o + i * 2, none⟩ = some (.string (l.getD i default).1) ∧ w.cell? ⟨b, o + i * 2 + 1, none⟩ = some (.string (l.getD i default).2)) :
  Calls Tryz.prog 80 #[.slice (some ⟨b, o, none⟩) n c] w fun e w' => e = .returned (.int .i64 (badN l : Nat)) ∧ Below w.heap.size w w' := by
 have hbB : b < w.heap.size := World.block_lt_of_cell? w _ (hc 0 (by omega)).1
 have HL : Hid (n = l.length) := en
 have HLen : Hid (FLen l) := hl
 clear en hl
 go_enter Tryz.func80, Tryz.ntmps80
 go_wp2
 go_loopw [10] (fun iv wr => ∃ k : Nat, k ≤ n ∧ iv = .int .i64 k ∧ Below w.heap.size w wr ∧ Hid (okAll (l.drop k) = okAll l)) (fun iv _ => n - (intOf iv).toNat)
 case atStart => exact ⟨0, Nat.zero_le _, rfl, Below.refl _ _, rfl⟩
 case round =>
  obtain ⟨k, hk, rfl, hbel, HK⟩ := hrel
  have hsz := hbel.size
  by_cases hlt : k < n
  ·have hc1 : wr.cell? ⟨b, o + k * 2, none⟩ = some (.string (l.getD k default).1) := (hbel.cell (p := ⟨b, o + k * 2, none⟩) hbB).trans (hc k hlt).1
   have hc2 : wr.cell? ⟨b, o + k * 2 + 1, none⟩ = some (.string (l.getD k default).2) := (hbel.cell (p := ⟨b, o + k * 2 + 1, none⟩) hbB).trans (hc k hlt).2
   have hm := HLen.out _ (fv_mem l k (by rw [← HL.out]; exact hlt))
   have hdr : Hid (okAll l = (okF (fl (l.getD k default)) && okAll (l.drop (k + 1)))) := by unfold Hid; rw [← HK.out, fv_at l k (by rw [← HL.out]; exact hlt), okAll_cons]
   clear hc HK
   generalize l.getD k default = f at *
   obtain ⟨A, B⟩ := f
   simp only at hc1 hc2 hm
   have HF : Hid (okF (fl (A, B)) = (tokenS A.data.toList && valueS B.data.toList)) := rfl
   have K1 := token_any A
   have K2 := value_any B
   obtain ⟨T1, hT1⟩ : ∃ b, tokenS A.data.toList = b := ⟨_, rfl⟩
   obtain ⟨T2, hT2⟩ : ∃ b, valueS B.data.toList = b := ⟨_, rfl⟩
   rw [hT1] at K1 HF
   rw [hT2] at K2 HF
   have C1 : Hid (∀ w, Calls Tryz.prog 34 #[.string A] w fun e w' => e = .returned (.bool T1) ∧ w' = w) := fun w => K1 w hm.1
   have C2 : Hid (∀ w, Calls Tryz.prog 85 #[.string B] w fun e w' => e = .returned (.bool T2) ∧ w' = w) := fun w => K2 w hm.2
   clear K1 K2 hT1 hT2 hm
   cases T1
   ·have HN : Hid (badN l = 1) := badN_no (by rw [hdr.out, HF.out]; rfl)
    go_wp2_with (first | (go_at_call 34; refine (C1.out _).mono ?_; rintro e w' ⟨rfl, hw'⟩; have hw'' := hw'.symm; subst hw'') | (go_at_call 85; refine (C2.out _).mono ?_; rintro e w' ⟨rfl, hw'⟩; have hw'' := hw'.symm; subst hw''))
    go_ret
    exact ⟨by rw [HN.out]; rfl, hbel.alloc hsz _⟩
   ·cases T2
    ·have HN : Hid (badN l = 1) := badN_no (by rw [hdr.out, HF.out]; rfl)
     go_wp2_with (first | (go_at_call 34; refine (C1.out _).mono ?_; rintro e w' ⟨rfl, hw'⟩; have hw'' := hw'.symm; subst hw'') | (go_at_call 85; refine (C2.out _).mono ?_; rintro e w' ⟨rfl, hw'⟩; have hw'' := hw'.symm; subst hw''))
     go_ret
     exact ⟨by rw [HN.out]; rfl, hbel.alloc hsz _⟩
    ·have HN : Hid (okAll (l.drop (k + 1)) = okAll l) := by unfold Hid; rw [hdr.out, HF.out]; rfl
     go_wp2_with (first | (go_at_call 34; refine (C1.out _).mono ?_; rintro e w' ⟨rfl, hw'⟩; have hw'' := hw'.symm; subst hw'') | (go_at_call 85; refine (C2.out _).mono ?_; rintro e w' ⟨rfl, hw'⟩; have hw'' := hw'.symm; subst hw''))
     go_roundw
     case rel => exact ⟨k + 1, by omega, by go_num, hbel.alloc hsz _, HN⟩
     case measure => simp [intOf]; omega
  ·obtain rfl : k = n := by omega
   have HN : Hid (badN l = 0) := badN_yes (by rw [← HK.out, HL.out, List.drop_length]; rfl)
   clear hc
   go_wp2
   go_ret
   exact ⟨by rw [HN.out]; rfl, hbel⟩
theorem check_any (p : Option Addr) (n c : Nat) (l : List FV) (en : n = l.length) (w : World) (hm : n ≤ maxLen) (hl : FLen l) (hr : FRow w p l) :
  Calls Tryz.prog 80 #[.slice p n c] w fun e w' => e = .returned (.int .i64 (checkV l : Nat)) ∧ Below w.heap.size w w' := by
 by_cases h : 20 < n
 ·refine (check_many p n c w hm h).mono ?_
  rintro e w' ⟨rfl, rfl⟩
  exact ⟨by rw [checkV, if_pos (by rw [← en]; exact h)]; rfl, Below.refl _ _⟩
 ·by_cases h0 : l = []
  ·subst h0
   obtain rfl : n = 0 := en
   go_enter Tryz.func80, Tryz.ntmps80
   go_wp2
   refine wp_loop_rounds 1 ?_
   rw [rounds_succ]
   go_wp2
   go_ret
   exact ⟨rfl, Below.refl _ _⟩
  ·obtain ⟨b, o, rfl, hc⟩ := hr h0
   rw [← en] at hc
   have := check_some b o n c l en w (by rw [en]; exact List.length_pos_iff.2 h0) (by omega) hl hc
   rw [checkV, if_neg (by rw [← en]; exact h)]
   exact this
end Go.Proofs.YtlndhdimamnnlaaGreatDoor



namespace Go.Proofs.YtlndhdimamnnlaaGreatDoor
open Go.RowKit
theorem isSp_eq : isSp = (· == 32) := by
 funext c
 have h : isSp c = decide (c = 32) := by simp [isSp]
 rw [h]
 rfl
theorem trimSp_any (X T : ByteArray) (hT : T.data.toList = trimBy isSp X.data.toList) (w : World) (hX : X.size ≤ 1000000000) :
  Calls Tryz.prog 79 #[.string X, .string ⟨#[32]⟩] w fun e w' => e = .returned (.string T) ∧ Below w.heap.size w w' := by
 refine (Tryz.strings_Trim_one X 32 (by decide) w (by omega)).mono ?_
 rintro e w' ⟨rfl, h⟩
 refine ⟨?_, ?_⟩
 ·have e1 : Lib.trimB X.data.toList 32 = T.data.toList := by rw [hT, isSp_eq]; rfl
  rw [e1]
 ·rcases h with rfl | rfl
  ·exact Below.refl _ _
  ·exact (Below.refl _ _).drew
theorem trimBT_any (X T : ByteArray) (hT : T.data.toList = trimBy isBT X.data.toList) (w : World) (hX : X.size ≤ 1000000000) :
  Calls Tryz.prog 79 #[.string X, .string ⟨#[32, 9]⟩] w fun e w' => e = .returned (.string T) ∧ Below w.heap.size w w' := by
 refine (trim_set ⟨#[32, 9]⟩ X w hX (by decide) (by decide) (fun j b hb => ?_)).mono ?_
 ·have : b ∈ [(32 : UInt8), 9] := List.mem_of_getElem? hb
  simp at this
  rcases this with rfl | rfl <;> decide
 ·rintro e w' ⟨rfl, hb⟩
  refine ⟨?_, hb⟩
  have e1 : trimBy (List.contains [32, 9]) X.data.toList = T.data.toList := hT.symm
  rw [show (ByteArray.mk #[32, 9]).data.toList = [32, 9] from rfl, e1]
theorem mk_trim (p : UInt8 → Bool) (l : List UInt8) : ∃ T : ByteArray, T.data.toList = trimBy p l ∧ T.size ≤ l.length := ⟨⟨(trimBy p l).toArray⟩, rfl, by show (trimBy p l).toArray.size ≤ _; rw [List.size_toArray]; exact trimBy_length p l⟩
end Go.Proofs.YtlndhdimamnnlaaGreatDoor



namespace Go.Proofs.YtlndhdimamnnlaaGreatDoor
open Go.RowKit
theorem valc_any (c : UInt8) (w : World) : Calls Tryz.prog 166 #[.int .u8 (c.toNat : Int)] w fun e w' => e = .returned (.bool (inB 32 126 [] c)) ∧ w' = w := by
 by_cases h1 : 32 ≤ c.toNat
 ·have h1' : (32 : Int) ≤ (c.toNat : Int) := by omega
  by_cases h2 : c.toNat ≤ 126
  ·have h2' : (c.toNat : Int) ≤ 126 := by omega
   have HN : Hid (inB 32 126 [] c = true) := by unfold Hid inB; simp only [h1, h2]; simp
   go_enter Tryz.func166, Tryz.ntmps166
   go_wp2
   go_ret
   exact ⟨by rw [HN.out]; rfl, rfl⟩
  ·have h2' : decide ((c.toNat : Int) ≤ 126) = false := by simp; omega
   have HN : Hid (inB 32 126 [] c = false) := by unfold Hid inB; simp only [h2]; simp
   go_enter Tryz.func166, Tryz.ntmps166
   go_wp2
   go_ret
   exact ⟨by rw [HN.out]; rfl, rfl⟩
 ·have h1' : decide ((32 : Int) ≤ (c.toNat : Int)) = false := by simp; omega
  have HN : Hid (inB 32 126 [] c = false) := by unfold Hid inB; simp only [h1]; simp
  go_enter Tryz.func166, Tryz.ntmps166
  go_wp2
  go_ret
  exact ⟨by rw [HN.out]; rfl, rfl⟩
set_option maxHeartbeats 1000000 in
theorem every_val (s : ByteArray) (w : World) (hs : s.size ≤ 1000000) :
  Calls Tryz.prog 165 #[.string s, .func (Fn.func 166) #[] #[]] w fun e w' => e = .returned (.bool (allB valB s.data.toList)) ∧ w' = w := by
 go_enter Tryz.func165, Tryz.ntmps165
 go_wp2
 go_loop [8] (fun iv => ∃ k : Nat, k ≤ s.size ∧ iv = .int .i64 k ∧ Hid (allB valB (s.data.toList.drop k) = allB valB s.data.toList)) (fun iv => s.size - (intOf iv).toNat)
 case atStart => exact ⟨0, Nat.zero_le _, rfl, rfl⟩
 case round =>
  obtain ⟨k, hk, rfl, HK⟩ := hrel
  by_cases hlt : k < s.size
  ·have hdr : Hid (allB valB (s.data.toList.drop k) = (valB s[k] && allB valB (s.data.toList.drop (k + 1)))) := by unfold Hid; rw [dropB s k hlt, allB_cons]
   cases hp : valB s[k]
   ·have HN : Hid (allB valB s.data.toList = false) := by unfold Hid; rw [← HK.out, hdr.out, hp]; rfl
    have C : Hid (∀ w, Calls Tryz.prog 166 #[.int .u8 (s[k].toNat : Int)] w fun e w' => e = .returned (.bool false) ∧ w' = w) := by intro w; rw [← hp]; exact valc_any _ w
    clear hdr HK hp
    go_wp2_with fail
    refine (C.out _).mono ?_
    rintro e w' ⟨rfl, hw'⟩
    have hw'' := hw'.symm
    subst hw''
    go_wp2
    go_ret
    exact ⟨by rw [HN.out]; rfl, rfl⟩
   ·have HN : Hid (allB valB (s.data.toList.drop (k + 1)) = allB valB s.data.toList) := by unfold Hid; rw [← HK.out, hdr.out, hp]; rfl
    have C : Hid (∀ w, Calls Tryz.prog 166 #[.int .u8 (s[k].toNat : Int)] w fun e w' => e = .returned (.bool true) ∧ w' = w) := by intro w; rw [← hp]; exact valc_any _ w
    clear hdr HK hp
    go_wp2_with fail
    refine (C.out _).mono ?_
    rintro e w' ⟨rfl, hw'⟩
    have hw'' := hw'.symm
    subst hw''
    go_wp2
    go_round
    case rel => exact ⟨k + 1, by omega, by go_num, HN⟩
    case measure => simp [intOf]; omega
  ·obtain rfl : k = s.size := by omega
   have HN : Hid (allB valB s.data.toList = true) := by
    unfold Hid
    rw [← HK.out, List.drop_of_length_le (by rw [← Lib.size_eq]; exact Nat.le_refl _)]; rfl
   clear HK
   go_wp2
   go_ret
   exact ⟨by rw [HN.out]; rfl, rfl⟩
theorem trimSp_iff (l : List UInt8) : trimBy isSp l = l ↔ l.head? ≠ some 32 ∧ l.getLast? ≠ some 32 := by
 constructor
 ·intro h
  have hl : (trimBy isSp l).length = l.length := by rw [h]
  have h2 : (dropEnd isSp l).length = l.length := by
   have a := dropEnd_length isSp l
   have b := (List.dropWhile_sublist isSp (l := dropEnd isSp l)).length_le
   have c : (trimBy isSp l).length = ((dropEnd isSp l).dropWhile isSp).length := rfl
   omega
  have hd : dropEnd isSp l = l := by
   unfold dropEnd at h2 ⊢
   have s := (List.dropWhile_sublist isSp (l := l.reverse)).eq_of_length (by simpa using h2)
   rw [s, List.reverse_reverse]
  constructor
  ·intro hh
   cases l with
   | nil => cases hh
   | cons a l =>
    rw [List.head?_cons] at hh
    obtain rfl := Option.some.inj hh
    rw [trimBy, hd, List.dropWhile_cons, if_pos (by rfl)] at hl
    have := (List.dropWhile_sublist isSp (l := l)).length_le
    simp at hl; omega
  ·intro hh
   rcases List.eq_nil_or_concat l with rfl | ⟨x, d, rfl⟩
   ·cases hh
   ·rw [List.concat_eq_append] at hh hd h2
    simp at hh
    subst hh
    rw [dropEnd_yes isSp x 32 rfl] at h2
    have := dropEnd_length isSp x
    simp at h2; omega
 ·rintro ⟨h1, h2⟩
  refine trimBy_self isSp l (fun c hc => ?_) (fun c hc => ?_)
  ·rw [isSp_eq]; show (c == 32) = false; rw [beq_eq_false_iff_ne]; rintro rfl; exact h1 hc
  ·rw [isSp_eq]; show (c == 32) = false; rw [beq_eq_false_iff_ne]; rintro rfl; exact h2 hc
theorem hval_any (s : ByteArray) (w : World) (hs : s.size ≤ maxLen) :
  Calls Tryz.prog 118 #[.string s] w fun e w' => e = .returned (.bool (valueS s.data.toList)) ∧ Below w.heap.size w w' := by
 unfold maxLen at hs
 have hle := Lib.size_eq s
 by_cases h1 : s.size ≤ 900
 ·have h1' : (s.size : Int) ≤ 900 := by omega
  obtain ⟨T, hT, hTs⟩ := mk_trim isSp s.data.toList
  have C1 : Hid (∀ w', Calls Tryz.prog 79 #[.string s, .string ⟨#[32]⟩] w' fun e w'' => e = .returned (.string T) ∧ Below w'.heap.size w' w'') := fun w' => trimSp_any s T hT w' (by omega)
  by_cases h2 : T = s
  ·have HT : Hid (valueS s.data.toList = allB valB s.data.toList) := by
    rw [h2] at hT
    have := (trimSp_iff s.data.toList).1 hT.symm
    unfold Hid valueS betw allB valB
    have a1 : (s.data.toList.head? == some 32) = false := by rw [beq_eq_false_iff_ne]; exact this.1
    have a2 : (s.data.toList.getLast? == some 32) = false := by rw [beq_eq_false_iff_ne]; exact this.2
    rw [← hle, a1, a2, decide_eq_true h1]
    simp only [Bool.true_and, Bool.not_false, Bool.and_true]
   subst h2
   clear hT hTs hle
   go_enter Tryz.func118, Tryz.ntmps118
   go_wp2_with fail
   refine (C1.out _).mono ?_
   rintro e w1 ⟨rfl, hb⟩
   go_wp2_with fail
   refine (every_val T _ (by omega)).mono ?_
   rintro e w' ⟨rfl, hw'⟩
   have hw'' := hw'.symm
   subst hw''
   go_wp2
   go_ret
   exact ⟨by rw [HT.out]; rfl, hb⟩
  ·have HT : Hid (valueS s.data.toList = false) := by
    have : ¬ trimBy isSp s.data.toList = s.data.toList := fun e => h2 (by
     apply ByteArray.ext; apply Array.toList_inj.1; rw [hT, e])
    rw [trimSp_iff] at this
    unfold Hid valueS
    rw [← Bool.not_eq_true]
    intro h
    simp only [Bool.and_eq_true, Bool.not_eq_true', beq_eq_false_iff_ne] at h
    exact this ⟨h.1.2, h.2⟩
   have hbe : (T.toList == s.toList) = false := by
    rw [beq_eq_false_iff_ne, ByteArray.toList_eq, ByteArray.toList_eq]
    exact fun e => h2 (ByteArray.ext (Array.toList_inj.1 e))
   clear hT hTs hle
   go_enter Tryz.func118, Tryz.ntmps118
   go_wp2_with fail
   refine (C1.out _).mono ?_
   rintro e w1 ⟨rfl, hb⟩
   go_wp2
   go_ret
   exact ⟨by rw [HT.out]; rfl, hb⟩
 ·have h1' : decide ((s.size : Int) ≤ 900) = false := by simp; omega
  have HN : Hid (valueS s.data.toList = false) := by unfold Hid valueS; rw [← hle]; simp; omega
  clear hle
  go_enter Tryz.func118, Tryz.ntmps118
  go_wp2
  go_ret
  exact ⟨by rw [HN.out]; rfl, Below.refl _ _⟩
end Go.Proofs.YtlndhdimamnnlaaGreatDoor



namespace Go.Proofs.YtlndhdimamnnlaaGreatDoor
open Go.RowKit
theorem hcheck_many (p : Option Addr) (n c : Nat) (w : World) (hm : n ≤ maxLen) (h : 20 < n) :
  Calls Tryz.prog 117 #[.slice p n c] w fun e w' => e = .returned (.int .i64 2) ∧ w' = w := by
 unfold maxLen at hm
 have h' : (20 : Int) < (n : Int) := by omega
 go_enter Tryz.func117, Tryz.ntmps117
 go_wp2
 go_ret
 exact ⟨rfl, rfl⟩
set_option maxHeartbeats 1000000 in
theorem hcheck_some (b o n c : Nat) (l : List FV) (en : n = l.length) (w : World) (h0 : 1 ≤ n) (h : n ≤ 20) (hl : FLen l)
  (hc : ∀ i, i < n → w.cell? ⟨b, o + i * 2, none⟩ = some (.string (l.getD i default).1) ∧ w.cell? ⟨b, o + i * 2 + 1, none⟩ = some (.string (l.getD i default).2)) :
  Calls Tryz.prog 117 #[.slice (some ⟨b, o, none⟩) n c] w fun e w' => e = .returned (.int .i64 (badN l : Nat)) ∧ Below w.heap.size w w' := by
 have hbB : b < w.heap.size := World.block_lt_of_cell? w _ (hc 0 (by omega)).1
 have HL : Hid (n = l.length) := en
 have HLen : Hid (FLen l) := hl
 clear en hl
 go_enter Tryz.func117, Tryz.ntmps117
 go_wp2
 go_loopw [10] (fun iv wr => ∃ k : Nat, k ≤ n ∧ iv = .int .i64 k ∧ Below w.heap.size w wr ∧ Hid (okAll (l.drop k) = okAll l)) (fun iv _ => n - (intOf iv).toNat)
 case atStart => exact ⟨0, Nat.zero_le _, rfl, Below.refl _ _, rfl⟩
 case round =>
  obtain ⟨k, hk, rfl, hbel, HK⟩ := hrel
  have hsz := hbel.size
  by_cases hlt : k < n
  ·have hc1 : wr.cell? ⟨b, o + k * 2, none⟩ = some (.string (l.getD k default).1) := (hbel.cell (p := ⟨b, o + k * 2, none⟩) hbB).trans (hc k hlt).1
   have hc2 : wr.cell? ⟨b, o + k * 2 + 1, none⟩ = some (.string (l.getD k default).2) := (hbel.cell (p := ⟨b, o + k * 2 + 1, none⟩) hbB).trans (hc k hlt).2
   have hm := HLen.out _ (fv_mem l k (by rw [← HL.out]; exact hlt))
   have hdr : Hid (okAll l = (okF (fl (l.getD k default)) && okAll (l.drop (k + 1)))) := by unfold Hid; rw [← HK.out, fv_at l k (by rw [← HL.out]; exact hlt), okAll_cons]
   clear hc HK
   generalize l.getD k default = f at *
   obtain ⟨A, B⟩ := f
   simp only at hc1 hc2 hm
   have HF : Hid (okF (fl (A, B)) = (tokenS A.data.toList && valueS B.data.toList)) := rfl
   have K1 := htok_any A
   have K2 := hval_any B
   obtain ⟨T1, hT1⟩ : ∃ b, tokenS A.data.toList = b := ⟨_, rfl⟩
   obtain ⟨T2, hT2⟩ : ∃ b, valueS B.data.toList = b := ⟨_, rfl⟩
   rw [hT1] at K1 HF
   rw [hT2] at K2 HF
   have C1 : Hid (∀ w, Calls Tryz.prog 150 #[.string A] w fun e w' => e = .returned (.bool T1) ∧ w' = w) := fun w => K1 w hm.1
   have C2 : Hid (∀ w, Calls Tryz.prog 118 #[.string B] w fun e w' => e = .returned (.bool T2) ∧ Below w.heap.size w w') := fun w => K2 w hm.2
   clear K1 K2 hT1 hT2 hm
   cases T1
   ·have HN : Hid (badN l = 1) := badN_no (by rw [hdr.out, HF.out]; rfl)
    go_wp2_with (first | (go_at_call 150; refine (C1.out _).mono ?_; rintro e w' ⟨rfl, hw'⟩; have hw'' := hw'.symm; subst hw'') | (go_at_call 118; refine (C2.out _).mono ?_; rintro e w2 ⟨rfl, hb2⟩))
    go_ret
    exact ⟨by rw [HN.out]; rfl, hbel.alloc hsz _⟩
   ·cases T2
    ·have HN : Hid (badN l = 1) := badN_no (by rw [hdr.out, HF.out]; rfl)
     go_wp2_with (first | (go_at_call 150; refine (C1.out _).mono ?_; rintro e w' ⟨rfl, hw'⟩; have hw'' := hw'.symm; subst hw'') | (go_at_call 118; refine (C2.out _).mono ?_; rintro e w2 ⟨rfl, hb2⟩))
     go_ret
     exact ⟨by rw [HN.out]; rfl, (hbel.alloc hsz _).trans (hb2.mono (by simp; omega))⟩
    ·have HN : Hid (okAll (l.drop (k + 1)) = okAll l) := by unfold Hid; rw [hdr.out, HF.out]; rfl
     go_wp2_with (first | (go_at_call 150; refine (C1.out _).mono ?_; rintro e w' ⟨rfl, hw'⟩; have hw'' := hw'.symm; subst hw'') | (go_at_call 118; refine (C2.out _).mono ?_; rintro e w2 ⟨rfl, hb2⟩))
     go_roundw
     case rel => exact ⟨k + 1, by omega, by go_num, (hbel.alloc hsz _).trans (hb2.mono (by simp; omega)), HN⟩
     case measure => simp [intOf]; omega
  ·obtain rfl : k = n := by omega
   have HN : Hid (badN l = 0) := badN_yes (by rw [← HK.out, HL.out, List.drop_length]; rfl)
   clear hc
   go_wp2
   go_ret
   exact ⟨by rw [HN.out]; rfl, hbel⟩
theorem hcheck_any (p : Option Addr) (n c : Nat) (l : List FV) (en : n = l.length) (w : World) (hm : n ≤ maxLen) (hl : FLen l) (hr : FRow w p l) :
  Calls Tryz.prog 117 #[.slice p n c] w fun e w' => e = .returned (.int .i64 (checkV l : Nat)) ∧ Below w.heap.size w w' := by
 by_cases h : 20 < n
 ·refine (hcheck_many p n c w hm h).mono ?_
  rintro e w' ⟨rfl, rfl⟩
  exact ⟨by rw [checkV, if_pos (by rw [← en]; exact h)]; rfl, Below.refl _ _⟩
 ·by_cases h0 : l = []
  ·subst h0
   obtain rfl : n = 0 := en
   go_enter Tryz.func117, Tryz.ntmps117
   go_wp2
   refine wp_loop_rounds 1 ?_
   rw [rounds_succ]
   go_wp2
   go_ret
   exact ⟨rfl, Below.refl _ _⟩
  ·obtain ⟨b, o, rfl, hc⟩ := hr h0
   rw [← en] at hc
   have := hcheck_some b o n c l en w (by rw [en]; exact List.length_pos_iff.2 h0) (by omega) hl hc
   rw [checkV, if_neg (by rw [← en]; exact h)]
   exact this
end Go.Proofs.YtlndhdimamnnlaaGreatDoor



namespace Go.Proofs.YtlndhdimamnnlaaGreatDoor
open Go.RowKit
def linesV (l : List FV) : List UInt8 := (l.map fl).flatMap lineF
def textV (l : List FV) : List UInt8 := textF (l.map fl)
theorem textV_eq (l : List FV) : textV l = linesV l ++ [13, 10] := rfl
theorem linesV_take (l : List FV) (k : Nat) (h : k < l.length) : linesV (l.take (k + 1)) = linesV (l.take k) ++ lineF (fl (l.getD k default)) := by
 have e : l.take (k + 1) = l.take k ++ [l.getD k default] := by
  rw [List.take_add_one, List.getElem?_eq_getElem h]
  simp [List.getD_eq_getElem?_getD, List.getElem?_eq_getElem h]
 rw [linesV, e, List.map_append, List.flatMap_append]
 simp [linesV]
theorem ok_sizes (f : FV) (h : okF (fl f) = true) : 1 ≤ f.1.size ∧ f.1.size ≤ 30 ∧ f.2.size ≤ 900 := by
 rw [okF, Bool.and_eq_true] at h
 obtain ⟨ht, hv⟩ := h
 rw [tokenS, Bool.and_eq_true, Bool.and_eq_true] at ht
 rw [valueS, Bool.and_eq_true, Bool.and_eq_true, Bool.and_eq_true] at hv
 have a := of_decide_eq_true ht.1.1
 have b := of_decide_eq_true ht.1.2
 have c := of_decide_eq_true hv.1.1.1
 simp only [fl] at a b c
 rw [← Lib.size_eq] at a b c
 exact ⟨a, b, c⟩
theorem okAll_at (l : List FV) (h : okAll l = true) (k : Nat) (hk : k < l.length) : okF (fl (l.getD k default)) = true := List.all_eq_true.1 h _ (fv_mem l k hk)
theorem lineF_length (f : FV) : (lineF (fl f)).length = f.1.size + f.2.size + 4 := by
 simp only [lineF, fl, List.length_append, List.length_cons, List.length_nil]
 rw [← Lib.size_eq, ← Lib.size_eq]; omega
theorem size_of {s : ByteArray} {x : List UInt8} (h : s.data.toList = x) : s.size = x.length := by rw [Lib.size_eq, h]
end Go.Proofs.YtlndhdimamnnlaaGreatDoor



namespace Go.Proofs.YtlndhdimamnnlaaGreatDoor
open Go.RowKit
def printV (l : List FV) : List UInt8 := if checkV l = 0 then textV l else []
theorem checkV_cases (l : List FV) : checkV l = 0 ∧ l.length ≤ 20 ∧ okAll l = true ∨ checkV l = 1 ∨ checkV l = 2 := by
 unfold checkV badN
 split
 ·exact .inr (.inr rfl)
 ·split
  ·rename_i h1 h2; exact .inl ⟨rfl, by omega, h2⟩
  ·exact .inr (.inl rfl)
theorem strCells_bv (s : ByteArray) : Lib.strCells s = bv s.data.toList := by simp [bv, Lib.strCells]
set_option maxHeartbeats 1000000 in
theorem hprint_bad (e0 : Nat) (he0 : e0 = 1 ∨ e0 = 2) (p : Option Addr) (n c : Nat) (w : World)
  (C : Calls Tryz.prog 117 #[.slice p n c] w fun e w' => e = .returned (.int .i64 (e0 : Nat)) ∧ Below w.heap.size w w') :
  Calls Tryz.prog 103 #[.slice p n c] w fun e w' => e = .returned (.tuple #[.string ⟨#[]⟩, .int .i64 (e0 : Nat)]) ∧ Below w.heap.size w w' := by
 have HC : Hid (Calls Tryz.prog 117 #[.slice p n c] w fun e w' => e = .returned (.int .i64 (e0 : Nat)) ∧ Below w.heap.size w w') := C
 clear C
 rcases he0 with rfl | rfl
 all_goals
  go_enter Tryz.func103, Tryz.ntmps103
  go_wp2_with fail
  refine HC.out.mono ?_
  rintro e w1 ⟨rfl, hb⟩
  clear HC
  go_wp2
  go_ret2
  exact ⟨rfl, hb⟩
set_option maxHeartbeats 2000000 in
theorem hprint_good (p : Option Addr) (n c : Nat) (l : List FV) (en : n = l.length) (w : World) (h20 : n ≤ 20) (ho : okAll l = true) (hr : FRow w p l)
  (C : Calls Tryz.prog 117 #[.slice p n c] w fun e w' => e = .returned (.int .i64 0) ∧ Below w.heap.size w w') :
  Calls Tryz.prog 103 #[.slice p n c] w fun e w' => e = .returned (.tuple #[.string ⟨(textV l).toArray⟩, .int .i64 0]) ∧ Below w.heap.size w w' := by
 obtain ⟨i0, hi, hz0, hz1, hz2⟩ := info_parts info_u8
 have HC : Hid (Calls Tryz.prog 117 #[.slice p n c] w fun e w' => e = .returned (.int .i64 0) ∧ Below w.heap.size w w') := C
 have HL : Hid (n = l.length) := en
 have HO : Hid (okAll l = true) := ho
 have HR : Hid (FRow w p l) := hr
 clear C en ho hr
 go_enter Tryz.func103, Tryz.ntmps103
 go_wp2_with fail
 refine HC.out.mono ?_
 rintro e w1 ⟨rfl, hb⟩
 clear HC
 go_wp2
 go_loopw [5, 15] (fun ov iv wr => ∃ (k : Nat) (O : List UInt8), k ≤ n ∧ iv = .int .i64 k ∧ wr.ownsRow w.heap.size 5 1 ov O.length (bv O) ∧ O.length ≤ 934 * k ∧ Below w.heap.size w wr ∧ Hid (O = linesV (l.take k))) (fun _ iv _ => n - (intOf iv).toNat)
 case atStart => exact ⟨0, [], Nat.zero_le _, rfl, World.ownsRow_nil _ _ _ _, Nat.zero_le _, hb, rfl⟩
 case round =>
  obtain ⟨k, O, hk, rfl, hown, hO, hbel, HK⟩ := hrel
  have hsz := hbel.size
  by_cases hlt : k < n
  ·obtain ⟨b, o, rfl, hc⟩ := HR.out (fun e => by have := HL.out; rw [e] at this; simp at this; omega)
   rw [← HL.out] at hc
   have hbB : b < w.heap.size := World.block_lt_of_cell? w _ (hc 0 (by omega)).1
   have hc1 : wr.cell? ⟨b, o + k * 2, none⟩ = some (.string (l.getD k default).1) := (hbel.cell (p := ⟨b, o + k * 2, none⟩) hbB).trans (hc k hlt).1
   have hc2 : wr.cell? ⟨b, o + k * 2 + 1, none⟩ = some (.string (l.getD k default).2) := (hbel.cell (p := ⟨b, o + k * 2 + 1, none⟩) hbB).trans (hc k hlt).2
   have hm := ok_sizes _ (okAll_at l HO.out k (by rw [← HL.out]; exact hlt))
   have HN : Hid (linesV (l.take (k + 1)) = linesV (l.take k) ++ lineF (fl (l.getD k default))) := linesV_take l k (by rw [← HL.out]; exact hlt)
   clear hc hb
   generalize l.getD k default = f at *
   obtain ⟨A, B⟩ := f
   simp only at hc1 hc2 hm
   have hXs : (A ++ ⟨#[58, 32]⟩ ++ B ++ ⟨#[13, 10]⟩ : ByteArray).size = A.size + B.size + 4 := by
    rw [size_of (x := lineF (fl (A, B))) (by simp [lineF, fl]), lineF_length]
   go_wp2_with (at_builtin; refine Lib.wpList_append_own_string _ rfl (.tmp 19) (.tmp 26) 22 9 rfl w.heap.size 5 i0 Tryz.underlying22 Tryz.underlying9 hi hz0 hz1 hz2 _ _ _ rfl (hown.alloc _) (A ++ ⟨#[58, 32]⟩ ++ B ++ ⟨#[13, 10]⟩) rfl ?d1 ?d2 ?d3 ?_)
   case d1 => rw [hXs]; unfold maxLen; omega
   case d2 => rw [hXs]; omega
   case d3 => simp; omega
   intro v2 w2 hown2 hg2 _
   have RB2 : Below w.heap.size w w2 := push_below hown hbel hsz hg2
   have R : w2.ownsRow w.heap.size 5 1 v2 (O ++ lineF (fl (A, B))).length (bv (O ++ lineF (fl (A, B)))) := by
    have e1 : (A ++ ⟨#[58, 32]⟩ ++ B ++ ⟨#[13, 10]⟩ : ByteArray).data.toList = lineF (fl (A, B)) := by simp [lineF, fl]
    have e2 : (O ++ lineF (fl (A, B))).length = O.length + (A.size + B.size + 4) := by rw [List.length_append, lineF_length]
    rw [e2, bv_append, ← e1, ← strCells_bv]
    exact hown2
   clear hg2 hown hown2
   go_wp2
   go_roundw
   case rel =>
    refine ⟨k + 1, _, by omega, by go_num, R, ?_, RB2, ?_⟩
    ·rw [List.length_append, lineF_length]; simp only; omega
    ·unfold Hid; rw [HN.out, ← HK.out]
   case measure => simp [intOf]; omega
  ·obtain rfl : k = n := by omega
   have HN : Hid (textV l = O ++ [13, 10]) := by unfold Hid; rw [textV_eq, HK.out, HL.out, List.take_length]
   obtain ⟨q, cq, rfl, _, _, hq, hbr⟩ := owned_row hown
   have hcv := conv_bytes wr q O.length cq O rfl hbr hq
   clear hbr hown hb HK
   go_wp2
   go_ret2
   exact ⟨congrArg Ending.returned (by rw [HN.out]; congr 3), hbel⟩
theorem hprint_any (p : Option Addr) (n c : Nat) (l : List FV) (en : n = l.length) (w : World) (hm : n ≤ maxLen) (hl : FLen l) (hr : FRow w p l) :
  Calls Tryz.prog 103 #[.slice p n c] w fun e w' => e = .returned (.tuple #[.string ⟨(printV l).toArray⟩, .int .i64 (checkV l : Nat)]) ∧ Below w.heap.size w w' := by
 have C := hcheck_any p n c l en w hm hl hr
 rcases checkV_cases l with ⟨h, h20, ho⟩ | h
 ·rw [h] at C
  unfold printV
  rw [h, if_pos rfl]
  exact hprint_good p n c l en w (by omega) ho hr C
 ·have := hprint_bad (checkV l) h p n c w C
  unfold printV
  rw [if_neg (by omega)]
  exact this
end Go.Proofs.YtlndhdimamnnlaaGreatDoor



namespace Go.Proofs.YtlndhdimamnnlaaGreatDoor
open Go.RowKit
theorem bytes_same (l : List UInt8) : Lib.bytesOf (l.map fun c => ((c.toNat : Nat) : Int)) = l := by
 unfold Lib.bytesOf
 rw [List.map_map]
 have : ((fun n : Int => UInt8.ofNat n.toNat) ∘ fun c : UInt8 => ((c.toNat : Nat) : Int)) = id := by funext c; simp
 rw [this, List.map_id]
def sameA (p q : PT) : Bool := decide (p.ty.data.toList = q.ty.data.toList) && decide (p.cs.data.toList = q.cs.data.toList) && decide (p.id.data.toList = q.id.data.toList) && decide (p.loc.data.toList = q.loc.data.toList) && decide (p.how = q.how) && decide (p.body = q.body)
theorem ba_ext {a b : ByteArray} (h : a.data.toList = b.data.toList) : a = b := ByteArray.ext (Array.toList_inj.1 h)
theorem sameA_iff (p q : PT) : sameA p q = true ↔ p.alone = q.alone := by
 unfold sameA
 simp only [Bool.and_eq_true, decide_eq_true_eq]
 constructor
 ·rintro ⟨⟨⟨⟨⟨h1, h2⟩, h3⟩, h4⟩, h5⟩, h6⟩
  obtain ⟨a1, a2, a3, a4, a5, a6, a7⟩ := p
  obtain ⟨b1, b2, b3, b4, b5, b6, b7⟩ := q
  simp only at h1 h2 h3 h4 h5 h6
  rw [ba_ext h1, ba_ext h2, ba_ext h3, ba_ext h4, h5, h6]
  rfl
 ·intro h
  obtain ⟨a1, a2, a3, a4, a5, a6, a7⟩ := p
  obtain ⟨b1, b2, b3, b4, b5, b6, b7⟩ := q
  simp only [PT.alone, PT.mk.injEq] at h
  obtain ⟨rfl, rfl, rfl, rfl, rfl, rfl, _⟩ := h
  simp
theorem str_beq (a b : ByteArray) : (a.toList == b.toList) = decide (a.data.toList = b.data.toList) := by
 rw [ByteArray.toList_eq, ByteArray.toList_eq, Bool.eq_iff_iff]; simp
end Go.Proofs.YtlndhdimamnnlaaGreatDoor

