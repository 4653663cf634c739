/- part.Type, part.Many, part.Word: what the plain functions say; nothing that was there is changed. Condition: the text is no longer than a text can be. -/
import Derived.Test.YtgnlebbifcmpjaaGreatDoorXbundlegoals15
import Derived.Test.YtgnlebbifcmpjaaGreatDoorXbundlegoals31
import Derived.Test.YtgnlebbifcmpjaaGreatDoorXbundlegoals16
import Derived.Laws.RangeString
import Derived.Lib.TrimU
namespace Go.Proofs.YtgnlebbifcmpjaaGreatDoor
open Go.RowKit

def upR (x : Nat) : Bool := decide (65 ≤ x) && decide (x ≤ 90)
def badR (x : Nat) : Bool := decide (x < 33) || decide (126 < x) || decide (x = 34) || decide (x = 60) || decide (x = 62)

theorem upR_any (x : Nat) (hx : x ≤ 1114111) (w : World) :
    Calls Tryz.prog 196 #[.int .i32 (x : Int)] w fun e w' => e = .returned (.bool (upR x)) ∧ ∃ q, w' = w.drewN q := by
  by_cases h1 : 65 ≤ x
  · have e1 : (65 : Int) ≤ (x : Int) := by omega
    by_cases h2 : x ≤ 90
    · have e2 : (x : Int) ≤ 90 := by omega
      have HO : Hid (upR x = true) := by unfold Hid upR; simp [h1, h2]
      go_enter Tryz.func196, Tryz.ntmps196
      go_wp2
      go_ret
      exact ⟨by rw [HO.out]; rfl, 0, rfl⟩
    · have e2 : decide ((x : Int) ≤ 90) = false := by simp; omega
      have HO : Hid (upR x = false) := by unfold Hid upR; simp; omega
      go_enter Tryz.func196, Tryz.ntmps196
      go_wp2
      go_ret
      exact ⟨by rw [HO.out]; rfl, 0, rfl⟩
  · have e1 : decide ((65 : Int) ≤ (x : Int)) = false := by simp; omega
    have HO : Hid (upR x = false) := by unfold Hid upR; simp; omega
    go_enter Tryz.func196, Tryz.ntmps196
    go_wp2
    go_ret
    exact ⟨by rw [HO.out]; rfl, 0, rfl⟩

theorem badR_any (x : Nat) (hx : x ≤ 1114111) (w : World) :
    Calls Tryz.prog 199 #[.int .i32 (x : Int)] w fun e w' => e = .returned (.bool (badR x)) ∧ ∃ q, w' = w.drewN q := by
  have HO : Hid (badR x = (decide ((x : Int) < 33) || decide (126 < (x : Int)) || decide ((x : Int) = 34) || decide ((x : Int) = 60) || decide ((x : Int) = 62))) := by
    unfold Hid badR
    have a1 : decide ((x : Int) < 33) = decide (x < 33) := decide_eq_decide.2 (by omega)
    have a2 : decide (126 < (x : Int)) = decide (126 < x) := decide_eq_decide.2 (by omega)
    have a3 : decide ((x : Int) = 34) = decide (x = 34) := decide_eq_decide.2 (by omega)
    have a4 : decide ((x : Int) = 60) = decide (x = 60) := decide_eq_decide.2 (by omega)
    have a5 : decide ((x : Int) = 62) = decide (x = 62) := decide_eq_decide.2 (by omega)
    rw [a1, a2, a3, a4, a5]
  go_enter Tryz.func199, Tryz.ntmps199
  go_wp2
  all_goals (
    go_ret
    refine ⟨ret_bool ?_, 0, rfl⟩
    rw [HO.out, Bool.eq_iff_iff]
    simp
    try omega)

theorem decode_high (s : ByteArray) (pos : Nat) (h : 128 ≤ (s.get! pos).toNat) : 128 ≤ (Utf8.decode s pos).1 := by
  rw [Lib.decode_at]
  have hb := UInt8.toNat_lt (s.get! pos)
  generalize (s.get! pos).toNat = b0 at *
  unfold Lib.decodeN
  repeat' split
  all_goals (simp only; omega)

/-- A test of runes that is met, or not, by all that are no ASCII as by their bytes: some byte meets it. -/
theorem idx_bytes (p : Nat → Bool) (s : ByteArray) (hp : (∀ x, 128 ≤ x → p x = true) ∨ ∀ c ∈ s.data.toList, c.toNat < 128) : ∀ (f pos : Nat), s.size ≤ pos + f → decide (0 ≤ Lib.idxFuncFrom p true s f pos) = (s.data.toList.drop pos).any (fun c => p c.toNat)
  | 0, pos, h => by
    rw [List.drop_eq_nil_of_le (by rw [← Lib.size_eq]; omega)]; rfl
  | f + 1, pos, h => by
    rw [Lib.idxFuncFrom]
    by_cases hlt : pos < s.size
    · rw [if_pos hlt]
      have hl : pos < s.data.toList.length := by rw [← Lib.size_eq]; exact hlt
      rw [List.drop_eq_getElem_cons hl, List.any_cons]
      have e : s.data.toList[pos] = s[pos]'hlt := rfl
      have eg : s.get! pos = s[pos]'hlt := by simp [ByteArray.get!, getElem!_pos, hlt]; rfl
      rw [e]
      by_cases ha : (s[pos]'hlt).toNat < 128
      · rw [decode_ascii s pos hlt ha]
        cases hq : p (s[pos]'hlt).toNat with
        | true => simp
        | false =>
          simp only [Bool.false_eq_true, if_false, Bool.false_or]
          exact idx_bytes p s hp f (pos + 1) (by omega)
      · rcases hp with hp | hp
        · rw [if_pos (hp _ (decode_high s pos (by rw [eg]; omega))), hp _ (by omega)]
          simp
        · exact absurd (hp _ (e ▸ List.getElem_mem hl)) ha
    · rw [if_neg hlt, List.drop_eq_nil_of_le (by rw [← Lib.size_eq]; omega)]; rfl

theorem up_func (s : ByteArray) (ha : ∀ c ∈ s.data.toList, c.toNat < 128) (w : World) :
    Calls Tryz.prog 138 #[.string s, .func (Fn.func 196) #[] #[]] w fun e w' => e = .returned (.bool (s.data.toList.any fun c => upR c.toNat)) ∧ Below w.heap.size w w' := by
  refine (Tryz.strings_ContainsFunc_runes 196 #[] (enters_of Tryz.func196 (by kernel_rfl) rfl) upR s w (fun W x hx _ => upR_any x hx W)).mono ?_
  rintro e w' ⟨rfl, hb⟩
  refine ⟨?_, hb⟩
  rw [show Lib.idxFunc upR true s = Lib.idxFuncFrom upR true s s.size 0 from rfl, idx_bytes upR s (.inr ha) s.size 0 (by omega)]
  rfl
theorem bad_func (s : ByteArray) (w : World) :
    Calls Tryz.prog 138 #[.string s, .func (Fn.func 199) #[] #[]] w fun e w' => e = .returned (.bool (s.data.toList.any fun c => badR c.toNat)) ∧ Below w.heap.size w w' := by
  refine (Tryz.strings_ContainsFunc_runes 199 #[] (enters_of Tryz.func199 (by kernel_rfl) rfl) badR s w (fun W x hx _ => badR_any x hx W)).mono ?_
  rintro e w' ⟨rfl, hb⟩
  refine ⟨?_, hb⟩
  rw [show Lib.idxFunc badR true s = Lib.idxFuncFrom badR true s s.size 0 from rfl, idx_bytes badR s (.inl fun x hx => by unfold badR; simp; omega) s.size 0 (by omega)]
  rfl

theorem any_not (l : List UInt8) : (!(l.any fun c => badR c.toNat)) = l.all wordC := by
  rw [List.not_any_eq_all_not]
  congr 1
  funext c
  have h34 : (c == 34) = decide (c.toNat = 34) := by rw [Bool.eq_iff_iff]; simp [← UInt8.toNat_inj]
  have h60 : (c == 60) = decide (c.toNat = 60) := by rw [Bool.eq_iff_iff]; simp [← UInt8.toNat_inj]
  have h62 : (c == 62) = decide (c.toNat = 62) := by rw [Bool.eq_iff_iff]; simp [← UInt8.toNat_inj]
  unfold badR wordC inB
  simp only [List.contains_cons, List.contains_nil, Bool.or_false, h34, h60, h62]
  rw [Bool.eq_iff_iff]
  simp
  omega

/-- part.Many. -/
theorem pmany_any (s : ByteArray) (w : World) :
    Calls Tryz.prog 25 #[.string s] w fun e w' => e = .returned (.bool (manyS s.data.toList)) ∧ w' = w := by
  have C : Hid (∀ w, Calls Tryz.prog 24 #[.string s, .string ⟨#[109, 117, 108, 116, 105, 112, 97, 114, 116, 47]⟩] w fun e w' => e = .returned (.bool (manyS s.data.toList)) ∧ w' = w) := fun w => by
    refine (Tryz.strings_HasPrefix s ⟨#[109, 117, 108, 116, 105, 112, 97, 114, 116, 47]⟩ w).mono ?_
    rintro e w' ⟨rfl, rfl⟩
    exact ⟨rfl, rfl⟩
  generalize manyS s.data.toList = V at *
  go_enter Tryz.func25, Tryz.ntmps25
  go_wp2_with fail
  refine (C.out _).mono ?_
  rintro e w' ⟨rfl, hw'⟩
  have hw'' := hw'.symm
  subst hw''
  go_wp2
  go_ret
  exact ⟨rfl, rfl⟩

/-- part.Word. -/
theorem pword_any (s : ByteArray) (w : World) (hs : s.size ≤ maxLen) :
    Calls Tryz.prog 161 #[.string s] w fun e w' => e = .returned (.bool (wordS s.data.toList)) ∧ Below w.heap.size w w' := by
  unfold maxLen at hs
  have hle := Lib.size_eq s
  by_cases h2 : s.size ≤ 120
  · have h2' : (s.size : Int) ≤ 120 := by omega
    have HN : Hid (wordS s.data.toList = !(s.data.toList.any fun c => badR c.toNat)) := by unfold Hid wordS; rw [any_not, ← hle]; simp [h2]
    have C : Hid (∀ w, Calls Tryz.prog 138 #[.string s, .func (Fn.func 199) #[] #[]] w fun e w' => e = .returned (.bool (s.data.toList.any fun c => badR c.toNat)) ∧ Below w.heap.size w w') := fun w => bad_func s w
    generalize (s.data.toList.any fun c => badR c.toNat) = V at *
    clear hle
    go_enter Tryz.func161, Tryz.ntmps161
    go_wp2_with fail
    refine (C.out _).mono ?_
    rintro e w' ⟨rfl, hb⟩
    go_wp2
    go_ret
    exact ⟨by rw [HN.out]; cases V <;> rfl, hb⟩
  · have h2' : decide ((s.size : Int) ≤ 120) = false := by simp; omega
    have HN : Hid (wordS s.data.toList = false) := by unfold Hid wordS; rw [← hle]; simp; omega
    clear hle
    go_enter Tryz.func161, Tryz.ntmps161
    go_wp2
    go_ret
    exact ⟨by rw [HN.out]; rfl, Below.refl _ _⟩

theorem tok_ascii (l : List UInt8) (h : tokenS l = true) : ∀ c ∈ l, c.toNat < 128 := by
  intro c hc
  unfold tokenS betw at h
  simp only [Bool.and_eq_true, List.all_eq_true] at h
  have := h.2 c hc
  unfold inB at this
  simp at this
  omega

set_option maxHeartbeats 1000000 in
/-- part.Type. -/
theorem ptype_any (s : ByteArray) (w : World) (hs : s.size ≤ maxLen) :
    Calls Tryz.prog 159 #[.string s] w fun e w' => e = .returned (.bool (typeS s.data.toList)) ∧ Below w.heap.size w w' := by
  unfold maxLen at hs
  cases hc : cutB 47 s.data.toList with
  | none =>
    have HN : Hid (typeS s.data.toList = false) := by unfold Hid typeS; rw [hc]
    have C : Hid (∀ w, Calls Tryz.prog 69 #[.string s, .string ⟨#[47]⟩] w fun e w' => e = .returned (.tuple #[.string s, .string ⟨#[]⟩, .bool false]) ∧ Below w.heap.size w w') := fun w => cut_none 47 s w hc
    clear hc
    go_enter Tryz.func159, Tryz.ntmps159
    go_wp2_with fail
    refine (C.out _).mono ?_
    rintro e w' ⟨rfl, hb⟩
    go_wp2
    go_ret
    exact ⟨by rw [HN.out]; rfl, hb⟩
  | some x =>
    obtain ⟨a, r, hx, hsz⟩ := cut_parts hc
    subst hx
    have C : Hid (∀ w, Calls Tryz.prog 69 #[.string s, .string ⟨#[47]⟩] w fun e w' => e = .returned (.tuple #[.string a, .string r, .bool true]) ∧ Below w.heap.size w w') := fun w => cut_someW 47 s a r w (by omega) hc
    have HT : Hid (typeS s.data.toList = (tokenS a.data.toList && tokenS r.data.toList && !s.data.toList.any (fun c => decide (65 ≤ c.toNat) && decide (c.toNat ≤ 90)))) := by unfold Hid typeS; rw [hc]
    have CA : Hid (∀ w, Calls Tryz.prog 160 #[.string a] w fun e w' => e = .returned (.bool (tokenS a.data.toList)) ∧ w' = w) := fun w => htok_any a w (by unfold maxLen; omega)
    have CR : Hid (∀ w, Calls Tryz.prog 160 #[.string r] w fun e w' => e = .returned (.bool (tokenS r.data.toList)) ∧ w' = w) := fun w => htok_any r w (by unfold maxLen; omega)
    have HA : Hid (tokenS a.data.toList = true → tokenS r.data.toList = true → ∀ c ∈ s.data.toList, c.toNat < 128) := fun h1 h2 c hm => by
      rw [(cutB_some 47 _ _ _ hc).1] at hm
      rcases List.mem_append.1 hm with h | h
      · exact tok_ascii _ h1 c h
      · rcases List.mem_cons.1 h with h | h
        · subst h; decide
        · exact tok_ascii _ h2 c h
    clear hc hsz
    cases ha : tokenS a.data.toList
    · have HN : Hid (typeS s.data.toList = false) := by unfold Hid; rw [HT.out, ha]; rfl
      rw [ha] at CA
      clear HT HA CR ha
      go_enter Tryz.func159, Tryz.ntmps159
      go_wp2_with fail
      refine (C.out _).mono ?_
      rintro e w' ⟨rfl, hb⟩
      go_wp2_with fail
      refine (CA.out _).mono ?_
      rintro e w2 ⟨rfl, hw'⟩
      have hw'' := hw'.symm
      subst hw''
      go_wp2
      go_ret
      exact ⟨by rw [HN.out]; rfl, hb⟩
    · cases hr : tokenS r.data.toList
      · have HN : Hid (typeS s.data.toList = false) := by unfold Hid; rw [HT.out, ha, hr]; rfl
        rw [ha] at CA
        rw [hr] at CR
        clear HT HA ha hr
        go_enter Tryz.func159, Tryz.ntmps159
        go_wp2_with fail
        refine (C.out _).mono ?_
        rintro e w' ⟨rfl, hb⟩
        go_wp2_with fail
        refine (CA.out _).mono ?_
        rintro e w2 ⟨rfl, hw'⟩
        have hw'' := hw'.symm
        subst hw''
        go_wp2_with fail
        refine (CR.out _).mono ?_
        rintro e w3 ⟨rfl, hw3⟩
        have hw4 := hw3.symm
        subst hw4
        go_wp2
        go_ret
        exact ⟨by rw [HN.out]; rfl, hb⟩
      · have HN : Hid (typeS s.data.toList = !(s.data.toList.any fun c => upR c.toNat)) := by unfold Hid; rw [HT.out, ha, hr]; rfl
        have CU : Hid (∀ w, Calls Tryz.prog 138 #[.string s, .func (Fn.func 196) #[] #[]] w fun e w' => e = .returned (.bool (s.data.toList.any fun c => upR c.toNat)) ∧ Below w.heap.size w w') := fun w => up_func s (HA.out ha hr) w
        rw [ha] at CA
        rw [hr] at CR
        clear HT HA ha hr
        generalize (s.data.toList.any fun c => upR c.toNat) = V at *
        go_enter Tryz.func159, Tryz.ntmps159
        go_wp2_with fail
        refine (C.out _).mono ?_
        rintro e w' ⟨rfl, hb⟩
        go_wp2_with fail
        refine (CA.out _).mono ?_
        rintro e w2 ⟨rfl, hw'⟩
        have hw'' := hw'.symm
        subst hw''
        go_wp2_with fail
        refine (CR.out _).mono ?_
        rintro e w3 ⟨rfl, hw3⟩
        have hw4 := hw3.symm
        subst hw4
        go_wp2_with fail
        refine (CU.out _).mono ?_
        rintro e w5 ⟨rfl, hb5⟩
        go_wp2
        go_ret
        exact ⟨by rw [HN.out]; cases V <;> rfl, hb.trans (hb5.mono hb.size)⟩
end Go.Proofs.YtgnlebbifcmpjaaGreatDoor
