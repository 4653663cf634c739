/- header.Token: what the plain function says; nothing that was there is changed. Condition: the text is no longer than a text can be. -/
import Derived.Test.YtlndhdimamnnlaaGreatDoorXmimewrapsupto6
import Derived.Test.YtlndhdimamnnlaaGreatDoorXmimewrapsupto4
import Derived.Test.YtlndhdimamnnlaaGreatDoorXmimewrapsupto1
import Derived.Test.YtlndhdimamnnlaaGreatDoorXmimewrapsupto5
namespace Go.Proofs.YtlndhdimamnnlaaGreatDoor
open Go.RowKit

theorem tokc_any (c : UInt8) (w : World) : Calls Tryz.prog 197 #[.int .u8 (c.toNat : Int)] w fun e w' => e = .returned (.bool (inB 33 126 specials c)) ∧ w' = w := by
  by_cases h1 : 33 ≤ c.toNat
  · have h1' : (33 : Int) ≤ (c.toNat : Int) := by omega
    by_cases h2 : c.toNat ≤ 126
    · have h2' : (c.toNat : Int) ≤ 126 := by omega
      have HN : Hid (inB 33 126 specials c = !specials.contains c) := by unfold Hid inB; simp only [h1, h2]; simp
      have hi9 : ∀ i : Int, decide (0 ≤ i) = specials.contains c → decide (i < 0) = !specials.contains c := by
        intro i h; rw [← h]; by_cases hi : 0 ≤ i <;> simp [hi] <;> omega
      go_enter Tryz.func197, Tryz.ntmps197
      go_wp2_with fail
      refine (ix_any _ specials rfl c _ rfl _).mono ?_
      rintro e w' ⟨i, rfl, hi, hw'⟩
      have hw'' := hw'.symm
      subst hw''
      have h3 := hi9 i hi
      clear hi hi9
      go_wp2
      go_ret
      exact ⟨by rw [HN.out]; simp, rfl⟩
    · have h2' : decide ((c.toNat : Int) ≤ 126) = false := by simp; omega
      have HN : Hid (inB 33 126 specials c = false) := by unfold Hid inB; simp only [h2]; simp
      go_enter Tryz.func197, Tryz.ntmps197
      go_wp2
      go_ret
      exact ⟨by rw [HN.out]; rfl, rfl⟩
  · have h1' : decide ((33 : Int) ≤ (c.toNat : Int)) = false := by simp; omega
    have HN : Hid (inB 33 126 specials c = false) := by unfold Hid inB; simp only [h1]; simp
    go_enter Tryz.func197, Tryz.ntmps197
    go_wp2
    go_ret
    exact ⟨by rw [HN.out]; rfl, rfl⟩

def allB (p : UInt8 → Bool) (l : List UInt8) : Bool := l.all p
theorem allB_cons (p : UInt8 → Bool) (c : UInt8) (l : List UInt8) : allB p (c :: l) = (p c && allB p l) := rfl
def tokB : UInt8 → Bool := inB 33 126 specials
def valB : UInt8 → Bool := inB 32 126 []

set_option maxHeartbeats 1000000 in
theorem every_tok (s : ByteArray) (w : World) (hs : s.size ≤ 1000000) :
    Calls Tryz.prog 165 #[.string s, .func (Fn.func 197) #[] #[]] w fun e w' => e = .returned (.bool (allB tokB s.data.toList)) ∧ w' = w := by
  go_enter Tryz.func165, Tryz.ntmps165
  go_wp2
  go_loop [8] (fun iv => ∃ k : Nat, k ≤ s.size ∧ iv = .int .i64 k ∧ Hid (allB tokB (s.data.toList.drop k) = allB tokB s.data.toList)) (fun iv => s.size - (intOf iv).toNat)
  case atStart => exact ⟨0, Nat.zero_le _, rfl, rfl⟩
  case round =>
    obtain ⟨k, hk, rfl, HK⟩ := hrel
    by_cases hlt : k < s.size
    · have hdr : Hid (allB tokB (s.data.toList.drop k) = (tokB s[k] && allB tokB (s.data.toList.drop (k + 1)))) := by unfold Hid; rw [dropB s k hlt, allB_cons]
      cases hp : tokB s[k]
      · have HN : Hid (allB tokB s.data.toList = false) := by unfold Hid; rw [← HK.out, hdr.out, hp]; rfl
        have C : Hid (∀ w, Calls Tryz.prog 197 #[.int .u8 (s[k].toNat : Int)] w fun e w' => e = .returned (.bool false) ∧ w' = w) := by intro w; rw [← hp]; exact tokc_any _ w
        clear hdr HK hp
        go_wp2_with fail
        refine (C.out _).mono ?_
        rintro e w' ⟨rfl, hw'⟩
        have hw'' := hw'.symm
        subst hw''
        go_wp2
        go_ret
        exact ⟨by rw [HN.out]; rfl, rfl⟩
      · have HN : Hid (allB tokB (s.data.toList.drop (k + 1)) = allB tokB s.data.toList) := by unfold Hid; rw [← HK.out, hdr.out, hp]; rfl
        have C : Hid (∀ w, Calls Tryz.prog 197 #[.int .u8 (s[k].toNat : Int)] w fun e w' => e = .returned (.bool true) ∧ w' = w) := by intro w; rw [← hp]; exact tokc_any _ w
        clear hdr HK hp
        go_wp2_with fail
        refine (C.out _).mono ?_
        rintro e w' ⟨rfl, hw'⟩
        have hw'' := hw'.symm
        subst hw''
        go_wp2
        go_round
        case rel => exact ⟨k + 1, by omega, by go_num, HN⟩
        case measure => simp [intOf]; omega
    · obtain rfl : k = s.size := by omega
      have HN : Hid (allB tokB s.data.toList = true) := by
        unfold Hid
        rw [← HK.out, List.drop_of_length_le (by rw [← Lib.size_eq]; exact Nat.le_refl _)]; rfl
      clear HK
      go_wp2
      go_ret
      exact ⟨by rw [HN.out]; rfl, rfl⟩

/-- header.Token. -/
theorem htok_any (s : ByteArray) (w : World) (hs : s.size ≤ maxLen) :
    Calls Tryz.prog 150 #[.string s] w fun e w' => e = .returned (.bool (tokenS s.data.toList)) ∧ w' = w := by
  unfold maxLen at hs
  have hle := Lib.size_eq s
  by_cases h1 : 1 ≤ s.size
  · have hne : s.toList.isEmpty = false := by
      rw [ByteArray.toList_eq]
      cases h : s.data.toList with
      | nil => rw [h, List.length_nil] at hle; omega
      | cons a b => rfl
    by_cases h2 : s.size ≤ 30
    · have h2' : (s.size : Int) ≤ 30 := by omega
      have HN : Hid (tokenS s.data.toList = allB tokB s.data.toList) := by unfold Hid tokenS betw allB tokB; rw [← hle]; simp [h1, h2]
      clear hle
      go_enter Tryz.func150, Tryz.ntmps150
      go_wp2_with fail
      refine (every_tok s _ (by omega)).mono ?_
      rintro e w' ⟨rfl, hw'⟩
      have hw'' := hw'.symm
      subst hw''
      go_wp2
      go_ret
      exact ⟨by rw [HN.out]; rfl, rfl⟩
    · have h2' : decide ((s.size : Int) ≤ 30) = false := by simp; omega
      have HN : Hid (tokenS s.data.toList = false) := by unfold Hid tokenS; rw [← hle]; simp; omega
      clear hle
      go_enter Tryz.func150, Tryz.ntmps150
      go_wp2
      go_ret
      exact ⟨by rw [HN.out]; rfl, rfl⟩
  · obtain rfl : s = ⟨#[]⟩ := by
      apply ByteArray.ext; apply Array.toList_inj.1; exact List.length_eq_zero_iff.1 (by rw [← hle]; omega)
    clear hle h1 hs
    go_enter Tryz.func150, Tryz.ntmps150
    go_wp2
    go_ret
    exact ⟨rfl, rfl⟩

end Go.Proofs.YtlndhdimamnnlaaGreatDoor

/- The reference's between: what the plain function says; the world is as it was. Condition: the text is not too long. -/
namespace Go.Proofs.YtlndhdimamnnlaaGreatDoor
open Go.RowKit

set_option maxHeartbeats 1000000 in
theorem between_any (s but : ByteArray) (bl : List UInt8) (hbut : but.data.toList = bl) (lo hi : Nat) (loi hii : Int) (e1 : loi = (lo : Int)) (e2 : hii = (hi : Int)) (w : World) (hs : s.size ≤ 1000000) :
    Calls Tryz.prog 72 #[.string s, .int .u8 loi, .int .u8 hii, .string but] w fun e w' => e = .returned (.bool (betw lo hi bl s.data.toList)) ∧ w' = w := by
  subst e1 e2
  go_enter Tryz.func72, Tryz.ntmps72
  go_wp2
  go_loop [12] (fun iv => ∃ k : Nat, k ≤ s.size ∧ iv = .int .i64 k ∧ Hid (betw lo hi bl (s.data.toList.drop k) = betw lo hi bl s.data.toList)) (fun iv => s.size - (intOf iv).toNat)
  case atStart => exact ⟨0, Nat.zero_le _, rfl, rfl⟩
  case round =>
    obtain ⟨k, hk, rfl, HK⟩ := hrel
    by_cases hlt : k < s.size
    · have hdr : Hid (betw lo hi bl (s.data.toList.drop k) = (inB lo hi bl s[k] && betw lo hi bl (s.data.toList.drop (k + 1)))) := by unfold Hid; rw [dropB s k hlt, betw_cons]
      by_cases h1 : s[k].toNat < lo
      · have HN : Hid (betw lo hi bl s.data.toList = false) := by
          unfold Hid
          rw [← HK.out, hdr.out, show inB lo hi bl s[k] = false from by simp [inB]; omega]; rfl
        have h1' : (s[k].toNat : Int) < (lo : Int) := by omega
        clear hdr HK
        go_wp2
        go_ret
        exact ⟨by rw [HN.out]; rfl, rfl⟩
      · have h1' : decide ((s[k].toNat : Int) < (lo : Int)) = false := by simp; omega
        by_cases h2 : hi < s[k].toNat
        · have HN : Hid (betw lo hi bl s.data.toList = false) := by
            unfold Hid
            rw [← HK.out, hdr.out, show inB lo hi bl s[k] = false from by simp [inB]; omega]; rfl
          have h2' : (hi : Int) < (s[k].toNat : Int) := by omega
          clear hdr HK
          go_wp2
          go_ret
          exact ⟨by rw [HN.out]; rfl, rfl⟩
        · have h2' : decide ((hi : Int) < (s[k].toNat : Int)) = false := by simp; omega
          cases h3 : bl.contains s[k]
          · have HN : Hid (betw lo hi bl (s.data.toList.drop (k + 1)) = betw lo hi bl s.data.toList) := by
              unfold Hid
              rw [← HK.out, hdr.out, show inB lo hi bl s[k] = true from by simp only [inB, h3]; simp; omega]; rfl
            clear hdr HK
            go_wp2_with (go_at_call 89; refine (ix_any but bl hbut s[k] _ rfl _).mono ?_; rintro e w' ⟨i, rfl, hi9, hw'⟩; rw [h3] at hi9; have hw'' := hw'.symm; subst hw'')
            go_round
            case rel => exact ⟨k + 1, by omega, by go_num, HN⟩
            case measure => simp [intOf]; omega
          · have HN : Hid (betw lo hi bl s.data.toList = false) := by
              unfold Hid
              rw [← HK.out, hdr.out, show inB lo hi bl s[k] = false from by simp only [inB, h3]; simp]; rfl
            clear hdr HK
            go_wp2_with (go_at_call 89; refine (ix_any but bl hbut s[k] _ rfl _).mono ?_; rintro e w' ⟨i, rfl, hi9, hw'⟩; rw [h3] at hi9; have hw'' := hw'.symm; subst hw'')
            go_ret
            exact ⟨by rw [HN.out]; rfl, rfl⟩
    · obtain rfl : k = s.size := by omega
      have HN : Hid (betw lo hi bl s.data.toList = true) := by
        unfold Hid
        rw [← HK.out, List.drop_of_length_le (by rw [← Lib.size_eq]; exact Nat.le_refl _)]; rfl
      clear HK
      go_wp2
      go_ret
      exact ⟨by rw [HN.out]; rfl, rfl⟩

end Go.Proofs.YtlndhdimamnnlaaGreatDoor

/- The reference's IsToken, IsValue: what the plain functions say; the world is as it was. Condition: the text is no longer than a text can be. -/
namespace Go.Proofs.YtlndhdimamnnlaaGreatDoor
open Go.RowKit

theorem token_any (s : ByteArray) (w : World) (hs : s.size ≤ maxLen) :
    Calls Tryz.prog 34 #[.string s] w fun e w' => e = .returned (.bool (tokenS s.data.toList)) ∧ w' = w := by
  unfold maxLen at hs
  have hle := Lib.size_eq s
  by_cases h1 : 1 ≤ s.size
  · have h1' : (1 : Int) ≤ (s.size : Int) := by omega
    by_cases h2 : s.size ≤ 30
    · have h2' : (s.size : Int) ≤ 30 := by omega
      have HN : Hid (tokenS s.data.toList = betw 33 126 specials s.data.toList) := by unfold Hid tokenS; rw [← hle]; simp [h1, h2]
      clear hle
      go_enter Tryz.func34, Tryz.ntmps34
      go_wp2_with (go_at_call 72; refine (between_any s _ specials rfl 33 126 _ _ rfl rfl _ (by omega)).mono ?_; rintro e w' ⟨rfl, hw'⟩; have hw'' := hw'.symm; subst hw'')
      go_ret
      exact ⟨by rw [HN.out]; rfl, rfl⟩
    · have h2' : decide ((s.size : Int) ≤ 30) = false := by simp; omega
      have HN : Hid (tokenS s.data.toList = false) := by unfold Hid tokenS; rw [← hle]; simp; omega
      clear hle
      go_enter Tryz.func34, Tryz.ntmps34
      go_wp2
      go_ret
      exact ⟨by rw [HN.out]; rfl, rfl⟩
  · have h1' : decide ((1 : Int) ≤ (s.size : Int)) = false := by simp; omega
    have HN : Hid (tokenS s.data.toList = false) := by unfold Hid tokenS; rw [← hle]; simp; omega
    clear hle
    go_enter Tryz.func34, Tryz.ntmps34
    go_wp2
    go_ret
    exact ⟨by rw [HN.out]; rfl, rfl⟩

theorem hasPrefix_sp (l : List UInt8) : Lib.hasPrefix l [32] = (l.head? == some 32) := by
  cases l with
  | nil => rfl
  | cons a l => simp [Lib.hasPrefix, List.isPrefixOf, Bool.beq_comm]
theorem hasSuffix_sp (l : List UInt8) : Lib.hasSuffix l [32] = (l.getLast? == some 32) := by
  rcases List.eq_nil_or_concat l with rfl | ⟨x, d, rfl⟩
  · simp [Lib.hasSuffix]
  · rw [List.concat_eq_append, Lib.hasSuffix, Bool.eq_iff_iff]
    simp only [List.isSuffixOf_iff_suffix, beq_iff_eq, List.getLast?_append, List.getLast?_singleton, Option.some_or]
    constructor
    · rintro ⟨t, ht⟩
      have := congrArg List.getLast? ht
      simp at this
      rw [this]
    · intro h
      obtain rfl := Option.some.inj h
      exact ⟨x, rfl⟩

theorem value_any (s : ByteArray) (w : World) (hs : s.size ≤ maxLen) :
    Calls Tryz.prog 85 #[.string s] w fun e w' => e = .returned (.bool (valueS s.data.toList)) ∧ w' = w := by
  unfold maxLen at hs
  have hle := Lib.size_eq s
  by_cases h1 : s.size ≤ 900
  · have h1' : (s.size : Int) ≤ 900 := by omega
    have HN : Hid (valueS s.data.toList = (betw 32 126 [] s.data.toList && !Lib.hasPrefix s.data.toList [32] && !Lib.hasSuffix s.data.toList [32])) := by unfold Hid valueS; rw [← hle, hasPrefix_sp, hasSuffix_sp]; simp [h1]
    clear hle
    have C1 := Tryz.strings_HasPrefix s ⟨#[32]⟩ w
    have C2 := Tryz.strings_HasSuffix s ⟨#[32]⟩ w (by omega)
    rw [show (ByteArray.mk #[32]).data.toList = [32] from rfl] at C1 C2
    obtain ⟨B1, hB1⟩ : ∃ b, betw 32 126 [] s.data.toList = b := ⟨_, rfl⟩
    obtain ⟨B2, hB2⟩ : ∃ b, Lib.hasPrefix s.data.toList [32] = b := ⟨_, rfl⟩
    obtain ⟨B3, hB3⟩ : ∃ b, Lib.hasSuffix s.data.toList [32] = b := ⟨_, rfl⟩
    have C0 := between_any s ⟨#[]⟩ [] rfl 32 126 _ _ rfl rfl w (by omega)
    rw [hB1] at C0 HN
    rw [hB2] at C1 HN
    rw [hB3] at C2 HN
    clear hB1 hB2 hB3
    have K0 : Hid (Calls Tryz.prog 72 #[.string s, .int .u8 32, .int .u8 126, .string ⟨#[]⟩] w fun e w' => e = .returned (.bool B1) ∧ w' = w) := C0
    have K1 : Hid (Calls Tryz.prog 102 #[.string s, .string ⟨#[32]⟩] w fun e w' => e = .returned (.bool B2) ∧ w' = w) := C1
    have K2 : Hid (Calls Tryz.prog 51 #[.string s, .string ⟨#[32]⟩] w fun e w' => e = .returned (.bool B3) ∧ w' = w) := C2
    clear C0 C1 C2
    cases B1 <;> cases B2 <;> cases B3 <;>
    (go_enter Tryz.func85, Tryz.ntmps85
     go_wp2_with (first | (go_at_call 72; refine K0.out.mono ?_; rintro e w' ⟨rfl, hw'⟩; have hw'' := hw'.symm; subst hw'') | (go_at_call 102; refine K1.out.mono ?_; rintro e w' ⟨rfl, hw'⟩; have hw'' := hw'.symm; subst hw'') | (go_at_call 51; refine K2.out.mono ?_; rintro e w' ⟨rfl, hw'⟩; have hw'' := hw'.symm; subst hw''))
     go_ret
     exact ⟨by rw [HN.out]; rfl, rfl⟩)
  · have h1' : decide ((s.size : Int) ≤ 900) = false := by simp; omega
    have HN : Hid (valueS s.data.toList = false) := by unfold Hid valueS; rw [← hle]; simp; omega
    clear hle
    go_enter Tryz.func85, Tryz.ntmps85
    go_wp2
    go_ret
    exact ⟨by rw [HN.out]; rfl, rfl⟩
end Go.Proofs.YtlndhdimamnnlaaGreatDoor

/- The reference's CheckFields and FieldsText: what the plain functions say; nothing that was there is changed. Conditions: the fields lie there. -/
namespace Go.Proofs.YtlndhdimamnnlaaGreatDoor
open Go.RowKit

/-- A field as it lies in memory: two texts. -/
abbrev FV := ByteArray × ByteArray
def fl (f : FV) : Fld := (f.1.data.toList, f.2.data.toList)
/-- The fields l lie behind the address p. -/
def FRow (w : World) (p : Option Addr) (l : List FV) : Prop :=
  l ≠ [] → ∃ b o, p = some ⟨b, o, none⟩ ∧ ∀ i, i < l.length → w.cell? ⟨b, o + i * 2, none⟩ = some (.string (l.getD i default).1) ∧ w.cell? ⟨b, o + i * 2 + 1, none⟩ = some (.string (l.getD i default).2)
/-- Texts as long as a text can be. -/
def FLen (l : List FV) : Prop := ∀ f ∈ l, f.1.size ≤ maxLen ∧ f.2.size ≤ maxLen

theorem FRow.below {w w' : World} {p : Option Addr} {l : List FV} (h : FRow w p l) (hb : Below w.heap.size w w') : FRow w' p l := by
  intro hne
  obtain ⟨b, o, rfl, hc⟩ := h hne
  refine ⟨b, o, rfl, fun i hi => ?_⟩
  have := hc i hi
  rw [hb.cell (p := ⟨b, o + i * 2, none⟩) (World.block_lt_of_cell? w _ this.1), hb.cell (p := ⟨b, o + i * 2 + 1, none⟩) (World.block_lt_of_cell? w _ this.2)]
  exact this

theorem fv_at (l : List FV) (k : Nat) (h : k < l.length) : l.drop k = l.getD k default :: l.drop (k + 1) := by
  rw [List.drop_eq_getElem_cons h]
  simp [List.getD_eq_getElem?_getD, List.getElem?_eq_getElem h]
theorem fv_mem (l : List FV) (k : Nat) (h : k < l.length) : l.getD k default ∈ l := by
  simp [List.getD_eq_getElem?_getD, List.getElem?_eq_getElem h]

def okAll (l : List FV) : Bool := l.all fun f => okF (fl f)
theorem okAll_cons (f : FV) (l : List FV) : okAll (f :: l) = (okF (fl f) && okAll l) := rfl
def badN (l : List FV) : Nat := if okAll l = true then 0 else 1
theorem badN_yes {l : List FV} (h : okAll l = true) : badN l = 0 := by rw [badN, if_pos h]
theorem badN_no {l : List FV} (h : okAll l = false) : badN l = 1 := by rw [badN, if_neg (by simp [h])]
def checkV (l : List FV) : Nat := if 20 < l.length then 2 else badN l

theorem check_many (p : Option Addr) (n c : Nat) (w : World) (hm : n ≤ maxLen) (h : 20 < n) :
    Calls Tryz.prog 80 #[.slice p n c] w fun e w' => e = .returned (.int .i64 2) ∧ w' = w := by
  unfold maxLen at hm
  have h' : (20 : Int) < (n : Int) := by omega
  go_enter Tryz.func80, Tryz.ntmps80
  go_wp2
  go_ret
  exact ⟨rfl, rfl⟩

set_option maxHeartbeats 1000000 in
theorem check_some (b o n c : Nat) (l : List FV) (en : n = l.length) (w : World) (h0 : 1 ≤ n) (h : n ≤ 20) (hl : FLen l)
    (hc : ∀ i, i < n → w.cell? ⟨b, o + i * 2, none⟩ = some (.string (l.getD i default).1) ∧ w.cell? ⟨b, o + i * 2 + 1, none⟩ = some (.string (l.getD i default).2)) :
    Calls Tryz.prog 80 #[.slice (some ⟨b, o, none⟩) n c] w fun e w' => e = .returned (.int .i64 (badN l : Nat)) ∧ Below w.heap.size w w' := by
  have hbB : b < w.heap.size := World.block_lt_of_cell? w _ (hc 0 (by omega)).1
  have HL : Hid (n = l.length) := en
  have HLen : Hid (FLen l) := hl
  clear en hl
  go_enter Tryz.func80, Tryz.ntmps80
  go_wp2
  go_loopw [10] (fun iv wr => ∃ k : Nat, k ≤ n ∧ iv = .int .i64 k ∧ Below w.heap.size w wr ∧ Hid (okAll (l.drop k) = okAll l)) (fun iv _ => n - (intOf iv).toNat)
  case atStart => exact ⟨0, Nat.zero_le _, rfl, Below.refl _ _, rfl⟩
  case round =>
    obtain ⟨k, hk, rfl, hbel, HK⟩ := hrel
    have hsz := hbel.size
    by_cases hlt : k < n
    · have hc1 : wr.cell? ⟨b, o + k * 2, none⟩ = some (.string (l.getD k default).1) := (hbel.cell (p := ⟨b, o + k * 2, none⟩) hbB).trans (hc k hlt).1
      have hc2 : wr.cell? ⟨b, o + k * 2 + 1, none⟩ = some (.string (l.getD k default).2) := (hbel.cell (p := ⟨b, o + k * 2 + 1, none⟩) hbB).trans (hc k hlt).2
      have hm := HLen.out _ (fv_mem l k (by rw [← HL.out]; exact hlt))
      have hdr : Hid (okAll l = (okF (fl (l.getD k default)) && okAll (l.drop (k + 1)))) := by unfold Hid; rw [← HK.out, fv_at l k (by rw [← HL.out]; exact hlt), okAll_cons]
      clear hc HK
      generalize l.getD k default = f at *
      obtain ⟨A, B⟩ := f
      simp only at hc1 hc2 hm
      have HF : Hid (okF (fl (A, B)) = (tokenS A.data.toList && valueS B.data.toList)) := rfl
      have K1 := token_any A
      have K2 := value_any B
      obtain ⟨T1, hT1⟩ : ∃ b, tokenS A.data.toList = b := ⟨_, rfl⟩
      obtain ⟨T2, hT2⟩ : ∃ b, valueS B.data.toList = b := ⟨_, rfl⟩
      rw [hT1] at K1 HF
      rw [hT2] at K2 HF
      have C1 : Hid (∀ w, Calls Tryz.prog 34 #[.string A] w fun e w' => e = .returned (.bool T1) ∧ w' = w) := fun w => K1 w hm.1
      have C2 : Hid (∀ w, Calls Tryz.prog 85 #[.string B] w fun e w' => e = .returned (.bool T2) ∧ w' = w) := fun w => K2 w hm.2
      clear K1 K2 hT1 hT2 hm
      cases T1
      · have HN : Hid (badN l = 1) := badN_no (by rw [hdr.out, HF.out]; rfl)
        go_wp2_with (first | (go_at_call 34; refine (C1.out _).mono ?_; rintro e w' ⟨rfl, hw'⟩; have hw'' := hw'.symm; subst hw'') | (go_at_call 85; refine (C2.out _).mono ?_; rintro e w' ⟨rfl, hw'⟩; have hw'' := hw'.symm; subst hw''))
        go_ret
        exact ⟨by rw [HN.out]; rfl, hbel.alloc hsz _⟩
      · cases T2
        · have HN : Hid (badN l = 1) := badN_no (by rw [hdr.out, HF.out]; rfl)
          go_wp2_with (first | (go_at_call 34; refine (C1.out _).mono ?_; rintro e w' ⟨rfl, hw'⟩; have hw'' := hw'.symm; subst hw'') | (go_at_call 85; refine (C2.out _).mono ?_; rintro e w' ⟨rfl, hw'⟩; have hw'' := hw'.symm; subst hw''))
          go_ret
          exact ⟨by rw [HN.out]; rfl, hbel.alloc hsz _⟩
        · have HN : Hid (okAll (l.drop (k + 1)) = okAll l) := by unfold Hid; rw [hdr.out, HF.out]; rfl
          go_wp2_with (first | (go_at_call 34; refine (C1.out _).mono ?_; rintro e w' ⟨rfl, hw'⟩; have hw'' := hw'.symm; subst hw'') | (go_at_call 85; refine (C2.out _).mono ?_; rintro e w' ⟨rfl, hw'⟩; have hw'' := hw'.symm; subst hw''))
          go_roundw
          case rel => exact ⟨k + 1, by omega, by go_num, hbel.alloc hsz _, HN⟩
          case measure => simp [intOf]; omega
    · obtain rfl : k = n := by omega
      have HN : Hid (badN l = 0) := badN_yes (by rw [← HK.out, HL.out, List.drop_length]; rfl)
      clear hc
      go_wp2
      go_ret
      exact ⟨by rw [HN.out]; rfl, hbel⟩

/-- The reference's CheckFields. -/
theorem check_any (p : Option Addr) (n c : Nat) (l : List FV) (en : n = l.length) (w : World) (hm : n ≤ maxLen) (hl : FLen l) (hr : FRow w p l) :
    Calls Tryz.prog 80 #[.slice p n c] w fun e w' => e = .returned (.int .i64 (checkV l : Nat)) ∧ Below w.heap.size w w' := by
  by_cases h : 20 < n
  · refine (check_many p n c w hm h).mono ?_
    rintro e w' ⟨rfl, rfl⟩
    exact ⟨by rw [checkV, if_pos (by rw [← en]; exact h)]; rfl, Below.refl _ _⟩
  · by_cases h0 : l = []
    · subst h0
      obtain rfl : n = 0 := en
      go_enter Tryz.func80, Tryz.ntmps80
      go_wp2
      refine wp_loop_rounds 1 ?_
      rw [rounds_succ]
      go_wp2
      go_ret
      exact ⟨rfl, Below.refl _ _⟩
    · obtain ⟨b, o, rfl, hc⟩ := hr h0
      rw [← en] at hc
      have := check_some b o n c l en w (by rw [en]; exact List.length_pos_iff.2 h0) (by omega) hl hc
      rw [checkV, if_neg (by rw [← en]; exact h)]
      exact this
end Go.Proofs.YtlndhdimamnnlaaGreatDoor

/- strings.Trim of blanks (and tabs), as the plain functions say; nothing that was there is changed. -/
namespace Go.Proofs.YtlndhdimamnnlaaGreatDoor
open Go.RowKit

theorem isSp_eq : isSp = (· == 32) := by
  funext c
  have h : isSp c = decide (c = 32) := by simp [isSp]
  rw [h]
  rfl
theorem trimSp_any (X T : ByteArray) (hT : T.data.toList = trimBy isSp X.data.toList) (w : World) (hX : X.size ≤ 1000000000) :
    Calls Tryz.prog 79 #[.string X, .string ⟨#[32]⟩] w fun e w' => e = .returned (.string T) ∧ Below w.heap.size w w' := by
  refine (Tryz.strings_Trim_one X 32 (by decide) w (by omega)).mono ?_
  rintro e w' ⟨rfl, h⟩
  refine ⟨?_, ?_⟩
  · have e1 : Lib.trimB X.data.toList 32 = T.data.toList := by rw [hT, isSp_eq]; rfl
    rw [e1]
  · rcases h with rfl | rfl
    · exact Below.refl _ _
    · exact (Below.refl _ _).drew
theorem trimBT_any (X T : ByteArray) (hT : T.data.toList = trimBy isBT X.data.toList) (w : World) (hX : X.size ≤ 1000000000) :
    Calls Tryz.prog 79 #[.string X, .string ⟨#[32, 9]⟩] w fun e w' => e = .returned (.string T) ∧ Below w.heap.size w w' := by
  refine (trim_set ⟨#[32, 9]⟩ X w hX (by decide) (by decide) (fun j b hb => ?_)).mono ?_
  · have : b ∈ [(32 : UInt8), 9] := List.mem_of_getElem? hb
    simp at this
    rcases this with rfl | rfl <;> decide
  · rintro e w' ⟨rfl, hb⟩
    refine ⟨?_, hb⟩
    have e1 : trimBy (List.contains [32, 9]) X.data.toList = T.data.toList := hT.symm
    rw [show (ByteArray.mk #[32, 9]).data.toList = [32, 9] from rfl, e1]
theorem mk_trim (p : UInt8 → Bool) (l : List UInt8) : ∃ T : ByteArray, T.data.toList = trimBy p l ∧ T.size ≤ l.length := ⟨⟨(trimBy p l).toArray⟩, rfl, by show (trimBy p l).toArray.size ≤ _; rw [List.size_toArray]; exact trimBy_length p l⟩
end Go.Proofs.YtlndhdimamnnlaaGreatDoor
