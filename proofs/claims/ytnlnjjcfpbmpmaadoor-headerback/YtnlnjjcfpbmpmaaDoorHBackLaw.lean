/- The law HeaderBack's walk, whole: it answers true, and nothing that was there is changed. Conditions: the fields and the bytes lie there. -/
import Derived.Test.YtnlnjjcfpbmpmaaDoorHBackWalk
namespace Go.Proofs.YtnlnjjcfpbmpmaaDoor
open Go.RowKit

set_option maxHeartbeats 8000000 in
set_option maxRecDepth 100000 in
theorem hback_any (p0 p1 p2 : Option Addr) (n0 c0 n1 c1 n2 c2 : Nat) (l : List FV) (Lb Lm : List UInt8) (e0 : n0 = l.length) (e1 : n1 = Lb.length) (e2 : n2 = Lm.length) (w : World)
    (hm0 : n0 ≤ maxLen) (hl : FLen l) (hr0 : FRow w p0 l) (hr1 : BRow w p1 Lb) (hr2 : BRow w p2 Lm) (hp1 : p1 = none → n1 = 0 ∧ c1 = 0) (hp2 : p2 = none → n2 = 0 ∧ c2 = 0) (hc1 : n1 ≤ c1) (hc2 : n2 ≤ c2) :
    Calls Tryd.prog 8 #[.slice p0 n0 c0, .slice p1 n1 c1, .slice p2 n2 c2] w fun e w' => e = .returned (.bool true) ∧ Below w.heap.size w w' := by
  have CP := hprint_any p0 n0 c0 l e0 w hm0 hl hr0
  have EN0 : Hid (n0 = l.length) := e0
  have EN1 : Hid (n1 = Lb.length) := e1
  have EN2 : Hid (n2 = Lm.length) := e2
  have HR0 : Hid (FRow w p0 l) := hr0
  have HR1 : Hid (BRow w p1 Lb) := hr1
  have HR2 : Hid (BRow w p2 Lm) := hr2
  clear e0 e1 e2 hr0 hr1 hr2
  by_cases hk : checkV l = 0
  · have HT := parseF_text (l.map fl) (by rw [check_mapH]; exact hk)
    have HTs := textV_size l hk
    rw [hk, printV, if_pos hk] at CP
    obtain ⟨T, hT⟩ : ∃ T, T = ba (textV l) := ⟨_, rfl⟩
    have hTd : T.data.toList = textV l := by rw [hT]; rfl
    have HC : Hid (Calls Tryd.prog 27 #[.slice p0 n0 c0] w fun e w' => e = .returned (.tuple #[.string T, .int .i64 0]) ∧ Below w.heap.size w w') := by rw [hT]; exact CP
    have HTd : Hid (T.data.toList = textV l) := hTd
    have hTs : T.size = (textV l).length := by rw [Lib.size_eq, hTd]
    have HT' : Hid (parseF (textV l) = (l.map fl, T.size, 0)) := by rw [hTs]; exact HT
    have HTs' : T.size ≤ 20000 := by rw [hTs]; exact HTs
    clear CP hT hTd hTs HT HTs
    go_enter Tryd.func8, Tryd.ntmps8
    go_wp2_with fail
    refine HC.out.mono ?_
    rintro e w1 ⟨rfl, hb1⟩
    clear HC
    obtain ⟨W1, cap, hcv, hbW, hbr⟩ := bytes_of T w1
    rw [HTd.out] at hbr
    have HBR : Hid (BRow W1 (some ⟨w1.heap.size, 0, none⟩) (textV l)) := hbr
    clear hbr
    go_wp2_with fail
    refine (hparse_any _ _ _ (textV l) (by rw [← HTd.out, Lib.size_eq]) _ (fun h => by cases h) HBR.out).mono ?_
    intro e w3 hpost
    obtain ⟨p3, c3, fs3, K3, E3, R3⟩ := read_of hpost
    have he3 := R3.he
    subst he3
    have ho := R3.out
    rw [HT'.out] at ho
    have h31 := (Prod.mk.inj ho).1
    obtain rfl : K3 = T.size := (Prod.mk.inj (Prod.mk.inj ho).2).1.symm
    obtain rfl : E3 = 0 := (Prod.mk.inj (Prod.mk.inj ho).2).2.symm
    obtain rfl : fs3 = l := by
      have a := of_fl h31.symm
      have b := of_fl (rfl : l.map fl = l.map fl)
      rw [a, ← b]
    have HB3 : Below w.heap.size w w3 := (hb1.trans (hbW.mono hb1.size)).trans (R3.below.mono (hb1.trans (hbW.mono hb1.size)).size)
    have HF3 : Hid (FRow w3 p3 fs3) := R3.row
    clear R3 ho h31 hpost hbW hb1 hcv HBR HT' HTd
    go_wp2_with fail
    refine (feq_any p3 p0 _ c3 _ c0 fs3 fs3 rfl EN0.out _ (by rw [← EN0.out]; exact hm0) HF3.out (HR0.out.below HB3)).mono ?_
    rintro e w4 ⟨rfl, hb4⟩
    rw [show eqV fs3 fs3 = true from by unfold eqV; exact decide_eq_true rfl]
    have HB : Below w.heap.size w w4 := HB3.trans (hb4.mono HB3.size)
    clear hb4 HB3 HF3
    go_wp2_with fail
    refine (hparse_any p1 n1 c1 Lb EN1.out _ hp1 (HR1.out.below HB)).mono ?_
    intro e w5 hpost
    obtain ⟨p5, c5, fs5, K5, E5, R5⟩ := read_of hpost
    have HB5 : Below w.heap.size w w5 := HB.trans (R5.below.mono HB.size)
    by_cases hE : E5 = 0
    · subst hE
      have he5 : e = .returned (.tuple #[.slice p5 fs5.length c5, .int .i64 (K5 : Int), .int .i64 0]) := R5.he
      subst he5
      obtain ⟨g1, g2, g3, g4, g5, g6⟩ := read_right R5.out
      rw [← EN1.out] at g3 g4
      obtain ⟨T5, hT5⟩ : ∃ T5, T5 = ba (textV fs5) := ⟨_, rfl⟩
      have HT5 : Hid (T5 = ba (textV fs5)) := hT5
      have hT5s : T5.size ≤ 20000 := by rw [hT5, ba_size]; exact textV_size fs5 g1
      have G1 : Hid (checkV fs5 = 0) := g1
      have HN : Hid (parseF Lb = (fs5.map fl, K5, 0)) := R5.out
      have HF5 : Hid (FRow w5 p5 fs5) := R5.row
      have HL5 : Hid (FLen fs5) := R5.len
      have hcap5 := R5.cap
      have hcapm5 := R5.capm
      obtain ⟨M, hM⟩ : ∃ M, M = min n2 1000 := ⟨_, rfl⟩
      have hM2 : M ≤ n2 := by omega
      have hM3 : M ≤ 1000 := by omega
      have hmin : min (n2 : Int) 1000 = (M : Int) := by omega
      have HM : Hid (M = (Lm.take M).length) := by unfold Hid; rw [List.length_take, ← EN2.out]; omega
      have HK : Hid (K5 = (Lb.take K5).length) := by unfold Hid; rw [List.length_take, ← EN1.out]; omega
      have hKc : (K5 : Int) ≤ (c1 : Int) := by omega
      have hMc : (M : Int) ≤ (c2 : Int) := by omega
      have hne : Lb ≠ [] := fun e => by
        have := HN.out
        rw [e, show parseF [] = ([], 0, 1) from rfl] at this
        exact absurd (Prod.mk.inj (Prod.mk.inj this).2).2 (by decide)
      obtain ⟨b1, o1, hb1e, _⟩ := HR1.out hne
      subst hb1e
      clear R5 hpost HB g1 g5 g6 hT5 hne hM hp1
      go_wp2_with fail
      refine (headed_any _).mono ?_
      rintro e w6 ⟨rfl, hb6⟩
      have HB6 : Below w.heap.size w w6 := HB5.trans (hb6.mono HB5.size)
      have HF6 : Hid (FRow w6 p5 fs5) := HF5.out.below hb6
      have hsz6 := HB6.size
      clear HF5 hb6 HB5
      have h66 : Below w6.heap.size w6 w6 := Below.refl _ _
      have HMl : Hid ((Lm.take M).length ≤ 1000) := by unfold Hid; rw [List.length_take]; omega
      have R1 : Hid (BRow w6 (some ⟨b1, o1, none⟩) (Lb.take K5)) := (HR1.out.below HB6).take K5
      have R2 : Hid (BRow w6 p2 (Lm.take M)) := (HR2.out.below HB6).take M
      cases p2 with
      | none =>
        have HZ : Hid (M = 0 ∧ c2 = 0) := ⟨by have := (hp2 rfl).1; omega, (hp2 rfl).2⟩
        clear hp2
        go_wp2_with fail
        go_region_held3 (fun w' => Below w6.heap.size w6 w') (first | assumption | exact h66.drew | exact ((h66.alloc (Nat.le_refl _) _).drew) | exact (h66.drew.alloc (Nat.le_refl _) _)) (first
          | (go_at_call 26; refine (hcat_in w6 _ _ (some ⟨b1, o1, none⟩) none K5 M c1 c2 (Lb.take K5) (Lm.take M) HK.out HM.out (by omega) R1.out R2.out (fun h => by cases h) (fun h => HZ.out) ?_ ?_ ?_).mono ?_; simp; simp; exact ((h66.alloc (Nat.le_refl _) _).drew); rintro e w7 ⟨p7, N7, c7, rfl, hb7, H7⟩)
          | (go_at_call 28; refine (hmore_in w6 _ p7 N7 c7 Lb (Lm.take M) fs5 K5 HN.out HMl.out H7 hb7).mono ?_; rintro e w8 ⟨p8, n8, c8, K8, E8, rfl, hb8, H8⟩))
        have HB8 : Below w.heap.size w w8 := HB6.trans (hb8.mono hsz6)
        have HF8 : Hid (FRow w8 p5 fs5) := HF6.out.below hb8
        have h8 := H8.out
        clear H8 hb7 H7 hb8 R1 R2 HF6 HB6 HK HM HMl h66
        rcases h8 with h8 | ⟨h8, h8k, h8n, h8r⟩
        · subst h8
          go_wp2_with fail
          refine (hprint_right w8 w8 p5 c5 fs5 T5 HT5.out G1.out HL5.out g2 HF8.out (Below.refl _ _)).mono ?_
          rintro e w9 ⟨rfl, hb9, _⟩
          obtain ⟨W9, cap9, hcv9, hbW9, hbr9⟩ := bytes_of T5 w9
          have HBR9 : Hid (BRow W9 (some ⟨w9.heap.size, 0, none⟩) T5.data.toList) := hbr9
          have hbX := hb9.trans (hbW9.mono hb9.size)
          clear hbr9 hbW9 hb9
          go_wp2_with fail
          refine (htext_in w8 W9 _ _ fs5 T5 HT5.out G1.out HBR9.out hbX).mono ?_
          rintro e w10 ⟨p10, c10, rfl, hb10, _, HF10⟩
          clear hcv9 HBR9 hbX
          go_wp2_with fail
          refine (feq_any p10 p5 _ _ _ _ fs5 fs5 rfl rfl _ (by unfold maxLen; omega) HF10.out (HF8.out.below hb10)).mono ?_
          rintro e w11 ⟨rfl, hb11⟩
          rw [show eqV fs5 fs5 = true from by unfold eqV; exact decide_eq_true rfl]
          have hbZ := hb10.trans (hb11.mono hb10.size)
          clear hb10 hb11
          go_wp2
          go_ret
          exact ⟨rfl, HB8.trans (hbZ.mono HB8.size)⟩
        · subst h8 h8k h8n
          have HR8 : Hid (FRow w8 p8 fs5) := h8r
          clear h8r
          go_wp2_with fail
          refine (hprint_right w8 w8 p5 c5 fs5 T5 HT5.out G1.out HL5.out g2 HF8.out (Below.refl _ _)).mono ?_
          rintro e w9 ⟨rfl, hb9, _⟩
          obtain ⟨W9, cap9, hcv9, hbW9, hbr9⟩ := bytes_of T5 w9
          have HBR9 : Hid (BRow W9 (some ⟨w9.heap.size, 0, none⟩) T5.data.toList) := hbr9
          have hbX := hb9.trans (hbW9.mono hb9.size)
          clear hbr9 hbW9 hb9
          go_wp2_with fail
          refine (htext_in w8 W9 _ _ fs5 T5 HT5.out G1.out HBR9.out hbX).mono ?_
          rintro e w10 ⟨p10, c10, rfl, hb10, _, HF10⟩
          clear hcv9 HBR9 hbX
          go_wp2_with fail
          refine (feq_any p8 p5 _ _ _ _ fs5 fs5 rfl rfl _ (by unfold maxLen; omega) (HR8.out.below hb10) (HF8.out.below hb10)).mono ?_
          rintro e w11 ⟨rfl, hb11⟩
          rw [show eqV fs5 fs5 = true from by unfold eqV; exact decide_eq_true rfl]
          have hbY := hb10.trans (hb11.mono hb10.size)
          go_wp2_with fail
          refine (feq_any p10 p5 _ _ _ _ fs5 fs5 rfl rfl _ (by unfold maxLen; omega) (HF10.out.below hb11) (HF8.out.below hbY)).mono ?_
          rintro e w12 ⟨rfl, hb12⟩
          rw [show eqV fs5 fs5 = true from by unfold eqV; exact decide_eq_true rfl]
          have hbZ := hbY.trans (hb12.mono hbY.size)
          clear hb10 hb11 hbY hb12
          go_wp2
          go_ret
          exact ⟨rfl, HB8.trans (hbZ.mono HB8.size)⟩
      | some a2 =>
        go_wp2_with fail
        go_region_held3 (fun w' => Below w6.heap.size w6 w') (first | assumption | exact h66.drew | exact ((h66.alloc (Nat.le_refl _) _).drew) | exact (h66.drew.alloc (Nat.le_refl _) _)) (first
          | (go_at_call 26; refine (hcat_in w6 _ _ (some ⟨b1, o1, none⟩) (some a2) K5 M c1 c2 (Lb.take K5) (Lm.take M) HK.out HM.out (by omega) R1.out R2.out (fun h => by cases h) (fun h => by cases h) ?_ ?_ ?_).mono ?_; simp; simp; exact ((h66.alloc (Nat.le_refl _) _).drew); rintro e w7 ⟨p7, N7, c7, rfl, hb7, H7⟩)
          | (go_at_call 28; refine (hmore_in w6 _ p7 N7 c7 Lb (Lm.take M) fs5 K5 HN.out HMl.out H7 hb7).mono ?_; rintro e w8 ⟨p8, n8, c8, K8, E8, rfl, hb8, H8⟩))
        have HB8 : Below w.heap.size w w8 := HB6.trans (hb8.mono hsz6)
        have HF8 : Hid (FRow w8 p5 fs5) := HF6.out.below hb8
        have h8 := H8.out
        clear H8 hb7 H7 hb8 R1 R2 HF6 HB6 HK HM HMl h66
        rcases h8 with h8 | ⟨h8, h8k, h8n, h8r⟩
        · subst h8
          go_wp2_with fail
          refine (hprint_right w8 w8 p5 c5 fs5 T5 HT5.out G1.out HL5.out g2 HF8.out (Below.refl _ _)).mono ?_
          rintro e w9 ⟨rfl, hb9, _⟩
          obtain ⟨W9, cap9, hcv9, hbW9, hbr9⟩ := bytes_of T5 w9
          have HBR9 : Hid (BRow W9 (some ⟨w9.heap.size, 0, none⟩) T5.data.toList) := hbr9
          have hbX := hb9.trans (hbW9.mono hb9.size)
          clear hbr9 hbW9 hb9
          go_wp2_with fail
          refine (htext_in w8 W9 _ _ fs5 T5 HT5.out G1.out HBR9.out hbX).mono ?_
          rintro e w10 ⟨p10, c10, rfl, hb10, _, HF10⟩
          clear hcv9 HBR9 hbX
          go_wp2_with fail
          refine (feq_any p10 p5 _ _ _ _ fs5 fs5 rfl rfl _ (by unfold maxLen; omega) HF10.out (HF8.out.below hb10)).mono ?_
          rintro e w11 ⟨rfl, hb11⟩
          rw [show eqV fs5 fs5 = true from by unfold eqV; exact decide_eq_true rfl]
          have hbZ := hb10.trans (hb11.mono hb10.size)
          clear hb10 hb11
          go_wp2
          go_ret
          exact ⟨rfl, HB8.trans (hbZ.mono HB8.size)⟩
        · subst h8 h8k h8n
          have HR8 : Hid (FRow w8 p8 fs5) := h8r
          clear h8r
          go_wp2_with fail
          refine (hprint_right w8 w8 p5 c5 fs5 T5 HT5.out G1.out HL5.out g2 HF8.out (Below.refl _ _)).mono ?_
          rintro e w9 ⟨rfl, hb9, _⟩
          obtain ⟨W9, cap9, hcv9, hbW9, hbr9⟩ := bytes_of T5 w9
          have HBR9 : Hid (BRow W9 (some ⟨w9.heap.size, 0, none⟩) T5.data.toList) := hbr9
          have hbX := hb9.trans (hbW9.mono hb9.size)
          clear hbr9 hbW9 hb9
          go_wp2_with fail
          refine (htext_in w8 W9 _ _ fs5 T5 HT5.out G1.out HBR9.out hbX).mono ?_
          rintro e w10 ⟨p10, c10, rfl, hb10, _, HF10⟩
          clear hcv9 HBR9 hbX
          go_wp2_with fail
          refine (feq_any p8 p5 _ _ _ _ fs5 fs5 rfl rfl _ (by unfold maxLen; omega) (HR8.out.below hb10) (HF8.out.below hb10)).mono ?_
          rintro e w11 ⟨rfl, hb11⟩
          rw [show eqV fs5 fs5 = true from by unfold eqV; exact decide_eq_true rfl]
          have hbY := hb10.trans (hb11.mono hb10.size)
          go_wp2_with fail
          refine (feq_any p10 p5 _ _ _ _ fs5 fs5 rfl rfl _ (by unfold maxLen; omega) (HF10.out.below hb11) (HF8.out.below hbY)).mono ?_
          rintro e w12 ⟨rfl, hb12⟩
          rw [show eqV fs5 fs5 = true from by unfold eqV; exact decide_eq_true rfl]
          have hbZ := hbY.trans (hb12.mono hbY.size)
          clear hb10 hb11 hbY hb12
          go_wp2
          go_ret
          exact ⟨rfl, HB8.trans (hbZ.mono HB8.size)⟩
    · have hE' : ((E5 : Int) == 0) = false := by rw [beq_eq_false_iff_ne]; omega
      have hE2 : ¬ (E5 : Int) = 0 := by omega
      have he5 := R5.he
      subst he5
      clear R5 hpost HB
      go_wp2_with fail
      refine (headed_any _).mono ?_
      rintro e w6 ⟨rfl, hb6⟩
      have HB6 : Below w.heap.size w w6 := HB5.trans (hb6.mono HB5.size)
      go_wp2_with fail
      refine (headed_any _).mono ?_
      rintro e w7 ⟨rfl, hb7⟩
      have HB7 : Below w.heap.size w w7 := HB6.trans (hb7.mono HB6.size)
      clear hb7 hb6
      go_wp2
      go_ret
      exact ⟨rfl, HB7⟩
  · have hk1 : ((checkV l : Nat) : Int) ≠ 0 := by omega
    have hk2 : (((checkV l : Nat) : Int) == 0) = false := by rw [beq_eq_false_iff_ne]; exact hk1
    rw [printV, if_neg hk] at CP
    generalize checkV l = E0 at *
    have HC : Hid (Calls Tryd.prog 27 #[.slice p0 n0 c0] w fun e w' => e = .returned (.tuple #[.string ⟨#[]⟩, .int .i64 (E0 : Int)]) ∧ Below w.heap.size w w') := CP
    clear CP
    go_enter Tryd.func8, Tryd.ntmps8
    go_wp2_with fail
    refine HC.out.mono ?_
    rintro e w1 ⟨rfl, HB⟩
    clear HC
    go_wp2_with fail
    refine (hparse_any p1 n1 c1 Lb EN1.out _ hp1 (HR1.out.below HB)).mono ?_
    intro e w5 hpost
    obtain ⟨p5, c5, fs5, K5, E5, R5⟩ := read_of hpost
    have HB5 : Below w.heap.size w w5 := HB.trans (R5.below.mono HB.size)
    by_cases hE : E5 = 0
    · subst hE
      have he5 : e = .returned (.tuple #[.slice p5 fs5.length c5, .int .i64 (K5 : Int), .int .i64 0]) := R5.he
      subst he5
      obtain ⟨g1, g2, g3, g4, g5, g6⟩ := read_right R5.out
      rw [← EN1.out] at g3 g4
      obtain ⟨T5, hT5⟩ : ∃ T5, T5 = ba (textV fs5) := ⟨_, rfl⟩
      have HT5 : Hid (T5 = ba (textV fs5)) := hT5
      have hT5s : T5.size ≤ 20000 := by rw [hT5, ba_size]; exact textV_size fs5 g1
      have G1 : Hid (checkV fs5 = 0) := g1
      have HN : Hid (parseF Lb = (fs5.map fl, K5, 0)) := R5.out
      have HF5 : Hid (FRow w5 p5 fs5) := R5.row
      have HL5 : Hid (FLen fs5) := R5.len
      have hcap5 := R5.cap
      have hcapm5 := R5.capm
      obtain ⟨M, hM⟩ : ∃ M, M = min n2 1000 := ⟨_, rfl⟩
      have hM2 : M ≤ n2 := by omega
      have hM3 : M ≤ 1000 := by omega
      have hmin : min (n2 : Int) 1000 = (M : Int) := by omega
      have HM : Hid (M = (Lm.take M).length) := by unfold Hid; rw [List.length_take, ← EN2.out]; omega
      have HK : Hid (K5 = (Lb.take K5).length) := by unfold Hid; rw [List.length_take, ← EN1.out]; omega
      have hKc : (K5 : Int) ≤ (c1 : Int) := by omega
      have hMc : (M : Int) ≤ (c2 : Int) := by omega
      have hne : Lb ≠ [] := fun e => by
        have := HN.out
        rw [e, show parseF [] = ([], 0, 1) from rfl] at this
        exact absurd (Prod.mk.inj (Prod.mk.inj this).2).2 (by decide)
      obtain ⟨b1, o1, hb1e, _⟩ := HR1.out hne
      subst hb1e
      clear R5 hpost HB g1 g5 g6 hT5 hne hM hp1
      go_wp2_with fail
      refine (headed_any _).mono ?_
      rintro e w6 ⟨rfl, hb6⟩
      have HB6 : Below w.heap.size w w6 := HB5.trans (hb6.mono HB5.size)
      have HF6 : Hid (FRow w6 p5 fs5) := HF5.out.below hb6
      have hsz6 := HB6.size
      clear HF5 hb6 HB5
      have h66 : Below w6.heap.size w6 w6 := Below.refl _ _
      have HMl : Hid ((Lm.take M).length ≤ 1000) := by unfold Hid; rw [List.length_take]; omega
      have R1 : Hid (BRow w6 (some ⟨b1, o1, none⟩) (Lb.take K5)) := (HR1.out.below HB6).take K5
      have R2 : Hid (BRow w6 p2 (Lm.take M)) := (HR2.out.below HB6).take M
      cases p2 with
      | none =>
        have HZ : Hid (M = 0 ∧ c2 = 0) := ⟨by have := (hp2 rfl).1; omega, (hp2 rfl).2⟩
        clear hp2
        go_wp2_with fail
        go_region_held3 (fun w' => Below w6.heap.size w6 w') (first | assumption | exact h66.drew | exact ((h66.alloc (Nat.le_refl _) _).drew) | exact (h66.drew.alloc (Nat.le_refl _) _)) (first
          | (go_at_call 26; refine (hcat_in w6 _ _ (some ⟨b1, o1, none⟩) none K5 M c1 c2 (Lb.take K5) (Lm.take M) HK.out HM.out (by omega) R1.out R2.out (fun h => by cases h) (fun h => HZ.out) ?_ ?_ ?_).mono ?_; simp; simp; exact ((h66.alloc (Nat.le_refl _) _).drew); rintro e w7 ⟨p7, N7, c7, rfl, hb7, H7⟩)
          | (go_at_call 28; refine (hmore_in w6 _ p7 N7 c7 Lb (Lm.take M) fs5 K5 HN.out HMl.out H7 hb7).mono ?_; rintro e w8 ⟨p8, n8, c8, K8, E8, rfl, hb8, H8⟩))
        have HB8 : Below w.heap.size w w8 := HB6.trans (hb8.mono hsz6)
        have HF8 : Hid (FRow w8 p5 fs5) := HF6.out.below hb8
        have h8 := H8.out
        clear H8 hb7 H7 hb8 R1 R2 HF6 HB6 HK HM HMl h66
        rcases h8 with h8 | ⟨h8, h8k, h8n, h8r⟩
        · subst h8
          go_wp2_with fail
          refine (hprint_right w8 w8 p5 c5 fs5 T5 HT5.out G1.out HL5.out g2 HF8.out (Below.refl _ _)).mono ?_
          rintro e w9 ⟨rfl, hb9, _⟩
          obtain ⟨W9, cap9, hcv9, hbW9, hbr9⟩ := bytes_of T5 w9
          have HBR9 : Hid (BRow W9 (some ⟨w9.heap.size, 0, none⟩) T5.data.toList) := hbr9
          have hbX := hb9.trans (hbW9.mono hb9.size)
          clear hbr9 hbW9 hb9
          go_wp2_with fail
          refine (htext_in w8 W9 _ _ fs5 T5 HT5.out G1.out HBR9.out hbX).mono ?_
          rintro e w10 ⟨p10, c10, rfl, hb10, _, HF10⟩
          clear hcv9 HBR9 hbX
          go_wp2_with fail
          refine (feq_any p10 p5 _ _ _ _ fs5 fs5 rfl rfl _ (by unfold maxLen; omega) HF10.out (HF8.out.below hb10)).mono ?_
          rintro e w11 ⟨rfl, hb11⟩
          rw [show eqV fs5 fs5 = true from by unfold eqV; exact decide_eq_true rfl]
          have hbZ := hb10.trans (hb11.mono hb10.size)
          clear hb10 hb11
          go_wp2
          go_ret
          exact ⟨rfl, HB8.trans (hbZ.mono HB8.size)⟩
        · subst h8 h8k h8n
          have HR8 : Hid (FRow w8 p8 fs5) := h8r
          clear h8r
          go_wp2_with fail
          refine (hprint_right w8 w8 p5 c5 fs5 T5 HT5.out G1.out HL5.out g2 HF8.out (Below.refl _ _)).mono ?_
          rintro e w9 ⟨rfl, hb9, _⟩
          obtain ⟨W9, cap9, hcv9, hbW9, hbr9⟩ := bytes_of T5 w9
          have HBR9 : Hid (BRow W9 (some ⟨w9.heap.size, 0, none⟩) T5.data.toList) := hbr9
          have hbX := hb9.trans (hbW9.mono hb9.size)
          clear hbr9 hbW9 hb9
          go_wp2_with fail
          refine (htext_in w8 W9 _ _ fs5 T5 HT5.out G1.out HBR9.out hbX).mono ?_
          rintro e w10 ⟨p10, c10, rfl, hb10, _, HF10⟩
          clear hcv9 HBR9 hbX
          go_wp2_with fail
          refine (feq_any p8 p5 _ _ _ _ fs5 fs5 rfl rfl _ (by unfold maxLen; omega) (HR8.out.below hb10) (HF8.out.below hb10)).mono ?_
          rintro e w11 ⟨rfl, hb11⟩
          rw [show eqV fs5 fs5 = true from by unfold eqV; exact decide_eq_true rfl]
          have hbY := hb10.trans (hb11.mono hb10.size)
          go_wp2_with fail
          refine (feq_any p10 p5 _ _ _ _ fs5 fs5 rfl rfl _ (by unfold maxLen; omega) (HF10.out.below hb11) (HF8.out.below hbY)).mono ?_
          rintro e w12 ⟨rfl, hb12⟩
          rw [show eqV fs5 fs5 = true from by unfold eqV; exact decide_eq_true rfl]
          have hbZ := hbY.trans (hb12.mono hbY.size)
          clear hb10 hb11 hbY hb12
          go_wp2
          go_ret
          exact ⟨rfl, HB8.trans (hbZ.mono HB8.size)⟩
      | some a2 =>
        go_wp2_with fail
        go_region_held3 (fun w' => Below w6.heap.size w6 w') (first | assumption | exact h66.drew | exact ((h66.alloc (Nat.le_refl _) _).drew) | exact (h66.drew.alloc (Nat.le_refl _) _)) (first
          | (go_at_call 26; refine (hcat_in w6 _ _ (some ⟨b1, o1, none⟩) (some a2) K5 M c1 c2 (Lb.take K5) (Lm.take M) HK.out HM.out (by omega) R1.out R2.out (fun h => by cases h) (fun h => by cases h) ?_ ?_ ?_).mono ?_; simp; simp; exact ((h66.alloc (Nat.le_refl _) _).drew); rintro e w7 ⟨p7, N7, c7, rfl, hb7, H7⟩)
          | (go_at_call 28; refine (hmore_in w6 _ p7 N7 c7 Lb (Lm.take M) fs5 K5 HN.out HMl.out H7 hb7).mono ?_; rintro e w8 ⟨p8, n8, c8, K8, E8, rfl, hb8, H8⟩))
        have HB8 : Below w.heap.size w w8 := HB6.trans (hb8.mono hsz6)
        have HF8 : Hid (FRow w8 p5 fs5) := HF6.out.below hb8
        have h8 := H8.out
        clear H8 hb7 H7 hb8 R1 R2 HF6 HB6 HK HM HMl h66
        rcases h8 with h8 | ⟨h8, h8k, h8n, h8r⟩
        · subst h8
          go_wp2_with fail
          refine (hprint_right w8 w8 p5 c5 fs5 T5 HT5.out G1.out HL5.out g2 HF8.out (Below.refl _ _)).mono ?_
          rintro e w9 ⟨rfl, hb9, _⟩
          obtain ⟨W9, cap9, hcv9, hbW9, hbr9⟩ := bytes_of T5 w9
          have HBR9 : Hid (BRow W9 (some ⟨w9.heap.size, 0, none⟩) T5.data.toList) := hbr9
          have hbX := hb9.trans (hbW9.mono hb9.size)
          clear hbr9 hbW9 hb9
          go_wp2_with fail
          refine (htext_in w8 W9 _ _ fs5 T5 HT5.out G1.out HBR9.out hbX).mono ?_
          rintro e w10 ⟨p10, c10, rfl, hb10, _, HF10⟩
          clear hcv9 HBR9 hbX
          go_wp2_with fail
          refine (feq_any p10 p5 _ _ _ _ fs5 fs5 rfl rfl _ (by unfold maxLen; omega) HF10.out (HF8.out.below hb10)).mono ?_
          rintro e w11 ⟨rfl, hb11⟩
          rw [show eqV fs5 fs5 = true from by unfold eqV; exact decide_eq_true rfl]
          have hbZ := hb10.trans (hb11.mono hb10.size)
          clear hb10 hb11
          go_wp2
          go_ret
          exact ⟨rfl, HB8.trans (hbZ.mono HB8.size)⟩
        · subst h8 h8k h8n
          have HR8 : Hid (FRow w8 p8 fs5) := h8r
          clear h8r
          go_wp2_with fail
          refine (hprint_right w8 w8 p5 c5 fs5 T5 HT5.out G1.out HL5.out g2 HF8.out (Below.refl _ _)).mono ?_
          rintro e w9 ⟨rfl, hb9, _⟩
          obtain ⟨W9, cap9, hcv9, hbW9, hbr9⟩ := bytes_of T5 w9
          have HBR9 : Hid (BRow W9 (some ⟨w9.heap.size, 0, none⟩) T5.data.toList) := hbr9
          have hbX := hb9.trans (hbW9.mono hb9.size)
          clear hbr9 hbW9 hb9
          go_wp2_with fail
          refine (htext_in w8 W9 _ _ fs5 T5 HT5.out G1.out HBR9.out hbX).mono ?_
          rintro e w10 ⟨p10, c10, rfl, hb10, _, HF10⟩
          clear hcv9 HBR9 hbX
          go_wp2_with fail
          refine (feq_any p8 p5 _ _ _ _ fs5 fs5 rfl rfl _ (by unfold maxLen; omega) (HR8.out.below hb10) (HF8.out.below hb10)).mono ?_
          rintro e w11 ⟨rfl, hb11⟩
          rw [show eqV fs5 fs5 = true from by unfold eqV; exact decide_eq_true rfl]
          have hbY := hb10.trans (hb11.mono hb10.size)
          go_wp2_with fail
          refine (feq_any p10 p5 _ _ _ _ fs5 fs5 rfl rfl _ (by unfold maxLen; omega) (HF10.out.below hb11) (HF8.out.below hbY)).mono ?_
          rintro e w12 ⟨rfl, hb12⟩
          rw [show eqV fs5 fs5 = true from by unfold eqV; exact decide_eq_true rfl]
          have hbZ := hbY.trans (hb12.mono hbY.size)
          clear hb10 hb11 hbY hb12
          go_wp2
          go_ret
          exact ⟨rfl, HB8.trans (hbZ.mono HB8.size)⟩
    · have hE' : ((E5 : Int) == 0) = false := by rw [beq_eq_false_iff_ne]; omega
      have hE2 : ¬ (E5 : Int) = 0 := by omega
      have he5 := R5.he
      subst he5
      clear R5 hpost HB
      go_wp2_with fail
      refine (headed_any _).mono ?_
      rintro e w6 ⟨rfl, hb6⟩
      have HB6 : Below w.heap.size w w6 := HB5.trans (hb6.mono HB5.size)
      go_wp2_with fail
      refine (headed_any _).mono ?_
      rintro e w7 ⟨rfl, hb7⟩
      have HB7 : Below w.heap.size w w7 := HB6.trans (hb7.mono HB6.size)
      clear hb7 hb6
      go_wp2
      go_ret
      exact ⟨rfl, HB7⟩
end Go.Proofs.YtnlnjjcfpbmpmaaDoor
