
import Derived.Test.YtlndhdimamnnlaaGreatDoorXmimesays17
namespace Go.Proofs.YtlndhdimamnnlaaGreatDoor
open Go.RowKit
def HowTab (w : World) : Prop := w.cell? ⟨0, 0, none⟩ = some (.string ⟨#[56, 98, 105, 116]⟩) ∧ w.cell? ⟨0, 1, none⟩ = some (.string ⟨#[98, 97, 115, 101, 54, 52]⟩) ∧ w.cell? ⟨0, 2, none⟩ = some (.string ⟨#[113, 117, 111, 116, 101, 100, 45, 112, 114, 105, 110, 116, 97, 98, 108, 101]⟩)
theorem HowTab.below {w w' : World} (h : HowTab w) (hb : Below w.heap.size w w') : HowTab w' :=
 ⟨(hb.cell (World.block_lt_of_cell? w _ h.1)).trans h.1, (hb.cell (World.block_lt_of_cell? w _ h.2.1)).trans h.2.1, (hb.cell (World.block_lt_of_cell? w _ h.2.2)).trans h.2.2⟩
theorem bare_head (s : List UInt8) : Lib.hasPrefix s [60] = decide (s.head? = some 60) := by
 unfold Lib.hasPrefix
 rw [Bool.eq_iff_iff]
 cases s with
 | nil => simp
 | cons a l => simp [List.isPrefixOf]; exact ⟨fun h => h.symm, fun h => h.symm⟩
theorem bare_last (s : List UInt8) : Lib.hasSuffix s [62] = decide (s.getLast? = some 62) := by
 rw [Bool.eq_iff_iff, suffix_one]
 simp
theorem str_const (T : ByteArray) (l : List UInt8) : (T.toList == l) = decide (T.data.toList = l) := by
 rw [ByteArray.toList_eq, Bool.eq_iff_iff]; simp
theorem ba_mid (s : ByteArray) : ∃ T : ByteArray, s.extract 1 (s.size - 1) = T ∧ T.data.toList = (s.data.toList.drop 1).dropLast := by
 refine ⟨_, rfl, ?_⟩
 rw [Lib.extract_data, List.dropLast_eq_take, List.length_drop, ← Lib.size_eq]
set_option maxRecDepth 100000 in
theorem mbare_any (s : ByteArray) (w : World) (hs : s.size ≤ maxLen) :
  Calls Tryz.prog 67 #[.string s] w fun e w' => (∃ T : ByteArray, e = .returned (.string T) ∧ T.data.toList = bareI s.data.toList) ∧ w' = w := by
 unfold maxLen at hs
 have C1 : Hid (∀ w, Calls Tryz.prog 102 #[.string s, .string ⟨#[60]⟩] w fun e w' => e = .returned (.bool (decide (s.data.toList.head? = some 60))) ∧ w' = w) := fun w => by
  refine (Tryz.strings_HasPrefix s ⟨#[60]⟩ w).mono ?_
  rintro e w' ⟨rfl, rfl⟩
  refine ⟨?_, rfl⟩
  have := bare_head s.data.toList
  rw [← this]
 have C2 : Hid (∀ w, Calls Tryz.prog 51 #[.string s, .string ⟨#[62]⟩] w fun e w' => e = .returned (.bool (decide (s.data.toList.getLast? = some 62))) ∧ w' = w) := fun w => by
  refine (Tryz.strings_HasSuffix s ⟨#[62]⟩ w (by omega)).mono ?_
  rintro e w' ⟨rfl, rfl⟩
  refine ⟨?_, rfl⟩
  have := bare_last s.data.toList
  rw [← this]
 by_cases h1 : s.data.toList.head? = some 60
 ·rw [decide_eq_true h1] at C1
  by_cases h2 : s.data.toList.getLast? = some 62
  ·rw [decide_eq_true h2] at C2
   have hsz : 2 ≤ s.size := by
    rw [Lib.size_eq]
    match hd : s.data.toList with
    | [] => rw [hd] at h1; cases h1
    | [a] => rw [hd] at h1 h2; simp at h1 h2; rw [h1] at h2; cases h2
    | a :: b :: l => simp
   obtain ⟨T, hT1, hT2⟩ := ba_mid s
   have HT : Hid (T.data.toList = bareI s.data.toList) := by unfold Hid bareI; rw [if_pos ⟨h1, h2⟩, hT2]
   have hw : IntKind.i64.wrap ((s.size : Int) - 1) = ((s.size - 1 : Nat) : Int) := by rw [IntKind.wrap_i64]; omega
   clear h1 h2 hT2
   go_enter Tryz.func67, Tryz.ntmps67
   go_wp2_with (first | (go_at_call 102; refine (C1.out _).mono ?_; rintro e w' ⟨rfl, hw'⟩; have hw'' := hw'.symm; subst hw'') | (go_at_call 51; refine (C2.out _).mono ?_; rintro e w' ⟨rfl, hw'⟩; have hw'' := hw'.symm; subst hw''))
   go_ret
   exact ⟨⟨T, rfl, HT.out⟩, rfl⟩
  ·rw [decide_eq_false h2] at C2
   have HT : Hid (s.data.toList = bareI s.data.toList) := by unfold Hid bareI; rw [if_neg (fun h => h2 h.2)]
   clear h1 h2
   go_enter Tryz.func67, Tryz.ntmps67
   go_wp2_with (first | (go_at_call 102; refine (C1.out _).mono ?_; rintro e w' ⟨rfl, hw'⟩; have hw'' := hw'.symm; subst hw'') | (go_at_call 51; refine (C2.out _).mono ?_; rintro e w' ⟨rfl, hw'⟩; have hw'' := hw'.symm; subst hw''))
   go_ret
   exact ⟨⟨s, rfl, HT.out⟩, rfl⟩
 ·rw [decide_eq_false h1] at C1
  have HT : Hid (s.data.toList = bareI s.data.toList) := by unfold Hid bareI; rw [if_neg (fun h => h1 h.1)]
  clear h1
  go_enter Tryz.func67, Tryz.ntmps67
  go_wp2_with (first | (go_at_call 102; refine (C1.out _).mono ?_; rintro e w' ⟨rfl, hw'⟩; have hw'' := hw'.symm; subst hw''))
  go_ret
  exact ⟨⟨s, rfl, HT.out⟩, rfl⟩
def DecPost (w : World) (r : Nat × List UInt8 × Nat) (e : Ending) (w' : World) : Prop :=
 Below w.heap.size w w' ∧ ∃ q c, e = .returned (.tuple #[.int .i64 (r.1 : Int), .slice q r.2.1.length c, .int .i64 (r.2.2 : Int)]) ∧ r.2.1.length ≤ c ∧ c ≤ maxLen ∧ BRow w' q r.2.1 ∧ FreshP w w' q c
theorem decPost_no {w w' : World} (hb : Below w.heap.size w w') (h k : Nat) : DecPost w (h, [], k) (.returned (.tuple #[.int .i64 (h : Int), .slice none 0 0, .int .i64 (k : Int)])) w' :=
 ⟨hb, none, 0, rfl, Nat.le_refl _, by decide, (fun h => absurd rfl h), (fun a h => by cases h), fun _ => rfl⟩
theorem owned_bytes {w : World} {B : Nat} {v : Value} {l : List UInt8} (h : w.ownsRow B 5 1 v l.length (bv l)) : ∃ p c, v = .slice p l.length c ∧ l.length ≤ c ∧ c ≤ maxLen ∧ (p = none → l.length = 0 ∧ c = 0) ∧ BRow w p l := by
 rcases h.2 with ⟨rfl, h0⟩ | ⟨g, cap, cur, rfl, _, _, hn, hm, _, _⟩
 ·exact ⟨none, 0, by rw [h0], by omega, by decide, fun _ => ⟨h0, rfl⟩, fun hne => absurd (List.length_eq_zero_iff.1 h0) hne⟩
 ·refine ⟨some ⟨g, 0, none⟩, cap, rfl, hn, hm, (fun h => by cases h), fun hne => ⟨g, 0, rfl, fun i hi => ?_⟩⟩
  rw [Nat.zero_add, h.cellAt i (by omega), bv, List.getElem?_map, List.getElem?_eq_getElem hi, List.getD_eq_getElem?_getD, List.getElem?_eq_getElem hi]
  rfl
set_option maxHeartbeats 4000000 in
set_option maxRecDepth 100000 in
theorem decoded_any (said : ByteArray) (p : Option Addr) (n c : Nat) (L : List UInt8) (en : n = L.length) (w : World) (hs : said.size < 35184372088832) (hn : n ≤ 40000) (hp : p = none → n = 0 ∧ c = 0) (hr : BRow w p L)
  (hH : HowTab w) (hV : Lib.CaseVar 4 Lib.caseA w) (hU : Lib.Utf8Tabs 6 7 w) :
  Calls Tryz.prog 69 #[.string said, .slice p n c] w fun e w' => DecPost w (decP said.data.toList L) e w' := by
 have CL := Tryz.strings_ToLower_any said w hs hV hU
 obtain ⟨T, hT⟩ : ∃ T : ByteArray, (⟨(Lib.toLowerD said.data.toList).toArray⟩ : ByteArray) = T := ⟨_, rfl⟩
 have HT : Hid (Lib.toLowerD said.data.toList = T.data.toList) := by unfold Hid; rw [← hT]
 rw [hT] at CL
 have CL' : Hid (Calls Tryz.prog 46 #[.string said] w fun e w' => e = .returned (.string T) ∧ Below w.heap.size w w') := CL
 have HB : Hid (∀ w', Below w.heap.size w w' → (convert 22 9 (.slice p n c)).run Tryz.prog w' = .ok (.string ⟨L.toArray⟩) w') := fun w' hb => conv_bytes w' p n c L en (hr.under hb) hp
 have CB : Hid (∀ w', Calls Tryz.prog 121 #[.string ⟨L.toArray⟩] w' fun e w'' => ReadPostN w' (readS L) e w'') := fun w' => read_new ⟨L.toArray⟩ w' (by show L.toArray.size ≤ _; rw [List.size_toArray, ← en]; unfold maxLen; omega)
 have CQ : Hid (∀ w', Calls Tryz.prog 122 #[.string ⟨L.toArray⟩] w' fun e w'' => ReadPostN w' (readQ L) e w'') := fun w' => dread_new ⟨L.toArray⟩ w' (by show L.toArray.size ≤ _; rw [List.size_toArray, ← en]; unfold maxLen; omega)
 have CC : Hid (∀ w', Below w.heap.size w w' → n ≤ 4000 → Calls Tryz.prog 27 #[.slice p n c] w' fun e w'' => ∃ q c', e = .returned (.slice q n c') ∧ w''.ownsRow w'.heap.size 5 1 (.slice q n c') n (bv L) ∧ Below w'.heap.size w' w'') := fun w' hb h => bclone_any p L n c en w' (hr.under hb) (by omega)
 have HL : Hid (n = L.length) := en
 have HHT : Hid (∀ w', Below w.heap.size w w' → HowTab w') := fun w' hb => hH.below hb
 have e0 := isEmpty_size T
 have e0' := str_is_empty T
 have e1 : (T.toList == ([55, 98, 105, 116] : List UInt8)) = decide (T.data.toList = bit7) := str_const T [55, 98, 105, 116]
 have e2 : (T.toList == ([56, 98, 105, 116] : List UInt8)) = decide (T.data.toList = how0) := str_const T [56, 98, 105, 116]
 have e3 : (T.toList == ([98, 105, 110, 97, 114, 121] : List UInt8)) = decide (T.data.toList = binS) := str_const T [98, 105, 110, 97, 114, 121]
 have e4 : (T.toList == ([98, 97, 115, 101, 54, 52] : List UInt8)) = decide (T.data.toList = how1) := str_const T [98, 97, 115, 101, 54, 52]
 have e5 : (T.toList == ([113, 117, 111, 116, 101, 100, 45, 112, 114, 105, 110, 116, 97, 98, 108, 101] : List UInt8)) = decide (T.data.toList = how2) := str_const T [113, 117, 111, 116, 101, 100, 45, 112, 114, 105, 110, 116, 97, 98, 108, 101]
 have HW0 : Hid (T.size = 0 → howOf T.data.toList = some 0) := fun h => by
  have : T.data.toList = [] := List.length_eq_zero_iff.1 (by rw [← Lib.size_eq]; exact h)
  unfold howOf; rw [if_pos (.inl this)]
 have HW1 : Hid (T.data.toList = bit7 → howOf T.data.toList = some 0) := fun h => by unfold howOf; rw [if_pos (.inr (.inl h))]
 have HW2 : Hid (T.data.toList = how0 → howOf T.data.toList = some 0) := fun h => by unfold howOf; rw [if_pos (.inr (.inr (.inl h)))]
 have HW3 : Hid (T.data.toList = binS → howOf T.data.toList = some 0) := fun h => by unfold howOf; rw [if_pos (.inr (.inr (.inr h)))]
 have HW4 : Hid (¬ T.size = 0 → ¬ T.data.toList = bit7 → ¬ T.data.toList = how0 → ¬ T.data.toList = binS → T.data.toList = how1 → howOf T.data.toList = some 1) := fun h0 h1 h2 h3 h => by
  have : ¬ T.data.toList = [] := fun e => h0 (by rw [Lib.size_eq, e]; rfl)
  unfold howOf; rw [if_neg (by rintro (a | a | a | a) <;> contradiction), if_pos h]
 have HW5 : Hid (¬ T.size = 0 → ¬ T.data.toList = bit7 → ¬ T.data.toList = how0 → ¬ T.data.toList = binS → ¬ T.data.toList = how1 → T.data.toList = how2 → howOf T.data.toList = some 2) := fun h0 h1 h2 h3 h4 h => by
  have : ¬ T.data.toList = [] := fun e => h0 (by rw [Lib.size_eq, e]; rfl)
  unfold howOf; rw [if_neg (by rintro (a | a | a | a) <;> contradiction), if_neg h4, if_pos h]
 have HW6 : Hid (¬ T.size = 0 → ¬ T.data.toList = bit7 → ¬ T.data.toList = how0 → ¬ T.data.toList = binS → ¬ T.data.toList = how1 → ¬ T.data.toList = how2 → howOf T.data.toList = none) := fun h0 h1 h2 h3 h4 h5 => by
  have : ¬ T.data.toList = [] := fun e => h0 (by rw [Lib.size_eq, e]; rfl)
  unfold howOf; rw [if_neg (by rintro (a | a | a | a) <;> contradiction), if_neg h4, if_neg h5]
 clear CL hT hH hV hU hr en
 go_enter Tryz.func69, Tryz.ntmps69
 go_wp2_with fail
 refine CL'.out.mono ?_
 rintro e w1 ⟨rfl, hb1⟩
 clear CL'
 obtain ⟨t0, t1, t2⟩ := HHT.out w1 hb1
 have hnl : n ≤ 9223372036854775807 := by omega
 by_cases q0 : T.size = 0
 ·have HW : Hid (howOf T.data.toList = some 0) := HW0.out  q0
  rw [decide_eq_true q0] at e0
  rw [decide_eq_true q0] at e0'
  clear HW0 HW1 HW2 HW3 HW4 HW5 HW6 HHT q0
  by_cases h4 : 4000 < n
  ·have h4' : (4000 : Int) < (n : Int) := by omega
   have HN : Hid (decP said.data.toList L = (0, [], 2)) := by unfold Hid decP; rw [HT.out, HW.out]; simp only; rw [if_pos (by rw [← HL.out]; exact h4)]
   clear HB CB CQ CC
   go_wp2_with fail
   go_ret3
   show DecPost _ _ _ _
   rw [HN.out]
   exact decPost_no hb1 0 2
  ·have h4' : ¬ (4000 : Int) < (n : Int) := by omega
   have HN : Hid (decP said.data.toList L = (0, L, 0)) := by unfold Hid decP; rw [HT.out, HW.out]; simp only; rw [if_neg (by rw [← HL.out]; exact h4)]
   clear HB CB CQ
   go_wp2_with fail
   refine (CC.out _ hb1 (by omega)).mono ?_
   rintro e w2 ⟨q2, c2, rfl, own2, hb2⟩
   have hbel2 := hb1.trans (hb2.mono hb1.size)
   have hrow2 : n ≤ c2 ∧ c2 ≤ maxLen ∧ BRow w2 q2 L := by
    rw [HL.out] at own2
    obtain ⟨p9, c9, hv, h1, h2, _, h3⟩ := owned_bytes own2
    rw [HL.out]
    cases hv
    exact ⟨h1, h2, h3⟩
   have HFR : Hid (FreshP w w2 q2 c2) := own_freshP own2 hb1.size
   clear CC own2
   go_wp2_with fail
   go_ret3
   show DecPost _ _ _ _
   rw [HN.out]
   exact ⟨hbel2, q2, c2, by rw [← HL.out]; rfl, by rw [← HL.out]; exact hrow2.1, hrow2.2.1, hrow2.2.2, HFR.out⟩
 ·rw [decide_eq_false q0] at e0; rw [decide_eq_false q0] at e0'
  by_cases q1 : T.data.toList = bit7
  ·have HW : Hid (howOf T.data.toList = some 0) := HW1.out  q1
   rw [decide_eq_true q1] at e1
   clear HW0 HW1 HW2 HW3 HW4 HW5 HW6 HHT q0 q1
   by_cases h4 : 4000 < n
   ·have h4' : (4000 : Int) < (n : Int) := by omega
    have HN : Hid (decP said.data.toList L = (0, [], 2)) := by unfold Hid decP; rw [HT.out, HW.out]; simp only; rw [if_pos (by rw [← HL.out]; exact h4)]
    clear HB CB CQ CC
    go_wp2_with fail
    go_ret3
    show DecPost _ _ _ _
    rw [HN.out]
    exact decPost_no hb1 0 2
   ·have h4' : ¬ (4000 : Int) < (n : Int) := by omega
    have HN : Hid (decP said.data.toList L = (0, L, 0)) := by unfold Hid decP; rw [HT.out, HW.out]; simp only; rw [if_neg (by rw [← HL.out]; exact h4)]
    clear HB CB CQ
    go_wp2_with fail
    refine (CC.out _ hb1 (by omega)).mono ?_
    rintro e w2 ⟨q2, c2, rfl, own2, hb2⟩
    have hbel2 := hb1.trans (hb2.mono hb1.size)
    have hrow2 : n ≤ c2 ∧ c2 ≤ maxLen ∧ BRow w2 q2 L := by
     rw [HL.out] at own2
     obtain ⟨p9, c9, hv, h1, h2, _, h3⟩ := owned_bytes own2
     rw [HL.out]
     cases hv
     exact ⟨h1, h2, h3⟩
    have HFR : Hid (FreshP w w2 q2 c2) := own_freshP own2 hb1.size
    clear CC own2
    go_wp2_with fail
    go_ret3
    show DecPost _ _ _ _
    rw [HN.out]
    exact ⟨hbel2, q2, c2, by rw [← HL.out]; rfl, by rw [← HL.out]; exact hrow2.1, hrow2.2.1, hrow2.2.2, HFR.out⟩
  ·rw [decide_eq_false q1] at e1
   by_cases q2 : T.data.toList = how0
   ·have HW : Hid (howOf T.data.toList = some 0) := HW2.out  q2
    rw [decide_eq_true q2] at e2
    clear HW0 HW1 HW2 HW3 HW4 HW5 HW6 HHT q0 q1 q2
    by_cases h4 : 4000 < n
    ·have h4' : (4000 : Int) < (n : Int) := by omega
     have HN : Hid (decP said.data.toList L = (0, [], 2)) := by unfold Hid decP; rw [HT.out, HW.out]; simp only; rw [if_pos (by rw [← HL.out]; exact h4)]
     clear HB CB CQ CC
     go_wp2_with fail
     go_ret3
     show DecPost _ _ _ _
     rw [HN.out]
     exact decPost_no hb1 0 2
    ·have h4' : ¬ (4000 : Int) < (n : Int) := by omega
     have HN : Hid (decP said.data.toList L = (0, L, 0)) := by unfold Hid decP; rw [HT.out, HW.out]; simp only; rw [if_neg (by rw [← HL.out]; exact h4)]
     clear HB CB CQ
     go_wp2_with fail
     refine (CC.out _ hb1 (by omega)).mono ?_
     rintro e w2 ⟨q2, c2, rfl, own2, hb2⟩
     have hbel2 := hb1.trans (hb2.mono hb1.size)
     have hrow2 : n ≤ c2 ∧ c2 ≤ maxLen ∧ BRow w2 q2 L := by
      rw [HL.out] at own2
      obtain ⟨p9, c9, hv, h1, h2, _, h3⟩ := owned_bytes own2
      rw [HL.out]
      cases hv
      exact ⟨h1, h2, h3⟩
     have HFR : Hid (FreshP w w2 q2 c2) := own_freshP own2 hb1.size
     clear CC own2
     go_wp2_with fail
     go_ret3
     show DecPost _ _ _ _
     rw [HN.out]
     exact ⟨hbel2, q2, c2, by rw [← HL.out]; rfl, by rw [← HL.out]; exact hrow2.1, hrow2.2.1, hrow2.2.2, HFR.out⟩
   ·rw [decide_eq_false q2] at e2
    by_cases q3 : T.data.toList = binS
    ·have HW : Hid (howOf T.data.toList = some 0) := HW3.out  q3
     rw [decide_eq_true q3] at e3
     clear HW0 HW1 HW2 HW3 HW4 HW5 HW6 HHT q0 q1 q2 q3
     by_cases h4 : 4000 < n
     ·have h4' : (4000 : Int) < (n : Int) := by omega
      have HN : Hid (decP said.data.toList L = (0, [], 2)) := by unfold Hid decP; rw [HT.out, HW.out]; simp only; rw [if_pos (by rw [← HL.out]; exact h4)]
      clear HB CB CQ CC
      go_wp2_with fail
      go_ret3
      show DecPost _ _ _ _
      rw [HN.out]
      exact decPost_no hb1 0 2
     ·have h4' : ¬ (4000 : Int) < (n : Int) := by omega
      have HN : Hid (decP said.data.toList L = (0, L, 0)) := by unfold Hid decP; rw [HT.out, HW.out]; simp only; rw [if_neg (by rw [← HL.out]; exact h4)]
      clear HB CB CQ
      go_wp2_with fail
      refine (CC.out _ hb1 (by omega)).mono ?_
      rintro e w2 ⟨q2, c2, rfl, own2, hb2⟩
      have hbel2 := hb1.trans (hb2.mono hb1.size)
      have hrow2 : n ≤ c2 ∧ c2 ≤ maxLen ∧ BRow w2 q2 L := by
       rw [HL.out] at own2
       obtain ⟨p9, c9, hv, h1, h2, _, h3⟩ := owned_bytes own2
       rw [HL.out]
       cases hv
       exact ⟨h1, h2, h3⟩
      have HFR : Hid (FreshP w w2 q2 c2) := own_freshP own2 hb1.size
      clear CC own2
      go_wp2_with fail
      go_ret3
      show DecPost _ _ _ _
      rw [HN.out]
      exact ⟨hbel2, q2, c2, by rw [← HL.out]; rfl, by rw [← HL.out]; exact hrow2.1, hrow2.2.1, hrow2.2.2, HFR.out⟩
    ·rw [decide_eq_false q3] at e3
     by_cases q4 : T.data.toList = how1
     ·have HW : Hid (howOf T.data.toList = some 1) := HW4.out q0 q1 q2 q3 q4
      rw [decide_eq_true q4] at e4
      clear HW0 HW1 HW2 HW3 HW4 HW5 HW6 HHT q0 q1 q2 q3 q4
      have HN : Hid (decP said.data.toList L = (1, (readS L).1, (readS L).2)) := by unfold Hid decP; rw [HT.out, HW.out]; rfl
      clear CQ CC
      have hcv := HB.out w1 hb1
      clear HB
      go_wp2_with fail
      refine (CB.out w1).mono ?_
      rintro e w2 ⟨hb2, q2, c2, rfl, hr1, hr2, hr3, hfr⟩
      have hbel2 := hb1.trans (hb2.mono hb1.size)
      have HR3 : Hid (BRow w2 q2 (readS L).1) := hr3
      have HFR : Hid (FreshP w w2 q2 c2) := ⟨fun a ha => ⟨Nat.le_trans hb1.size (hfr.1 a ha).1, (hfr.1 a ha).2⟩, hfr.2⟩
      clear hr3 hfr CB
      generalize hRR : readS L = RR at *
      obtain ⟨body, er⟩ := RR
      simp only at hr1 hr2 HR3 HN
      go_wp2_with fail
      go_ret3
      show DecPost _ _ _ _
      rw [HN.out]
      exact ⟨hbel2, q2, c2, rfl, hr1, hr2, HR3.out, HFR.out⟩
     ·rw [decide_eq_false q4] at e4
      by_cases q5 : T.data.toList = how2
      ·have HW : Hid (howOf T.data.toList = some 2) := HW5.out q0 q1 q2 q3 q4 q5
       rw [decide_eq_true q5] at e5
       clear HW0 HW1 HW2 HW3 HW4 HW5 HW6 HHT q0 q1 q2 q3 q4 q5
       have HN : Hid (decP said.data.toList L = (2, (readQ L).1, (readQ L).2)) := by unfold Hid decP; rw [HT.out, HW.out]; rfl
       clear CB CC
       have hcv := HB.out w1 hb1
       clear HB
       go_wp2_with fail
       refine (CQ.out w1).mono ?_
       rintro e w2 ⟨hb2, q2, c2, rfl, hr1, hr2, hr3, hfr⟩
       have hbel2 := hb1.trans (hb2.mono hb1.size)
       have HR3 : Hid (BRow w2 q2 (readQ L).1) := hr3
       have HFR : Hid (FreshP w w2 q2 c2) := ⟨fun a ha => ⟨Nat.le_trans hb1.size (hfr.1 a ha).1, (hfr.1 a ha).2⟩, hfr.2⟩
       clear hr3 hfr CQ
       generalize hRR : readQ L = RR at *
       obtain ⟨body, er⟩ := RR
       simp only at hr1 hr2 HR3 HN
       go_wp2_with fail
       go_ret3
       show DecPost _ _ _ _
       rw [HN.out]
       exact ⟨hbel2, q2, c2, rfl, hr1, hr2, HR3.out, HFR.out⟩
      ·rw [decide_eq_false q5] at e5
       have HW : Hid (howOf T.data.toList = none) := HW6.out q0 q1 q2 q3 q4 q5
       clear HW0 HW1 HW2 HW3 HW4 HW5 HW6 HHT q0 q1 q2 q3 q4 q5
       have HN : Hid (decP said.data.toList L = (0, [], 4)) := by unfold Hid decP; rw [HT.out, HW.out]
       clear HB CB CQ CC
       go_wp2_with fail
       go_ret3
       show DecPost _ _ _ _
       rw [HN.out]
       exact decPost_no hb1 0 4
end Go.Proofs.YtlndhdimamnnlaaGreatDoor

