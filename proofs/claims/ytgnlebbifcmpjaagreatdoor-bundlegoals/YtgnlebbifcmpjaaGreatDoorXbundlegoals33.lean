/- part.formed, part.checkAlone: what the plain functions say; nothing that was there is changed. Condition: the part lies there. -/
import Derived.Test.YtgnlebbifcmpjaaGreatDoorXbundlegoals32
import Derived.Test.YtgnlebbifcmpjaaGreatDoorXbundlegoals30
namespace Go.Proofs.YtgnlebbifcmpjaaGreatDoor
open Go.RowKit

theorem empty_no (s : ByteArray) (h : s.data.toList ≠ []) : s.toList.isEmpty = false := by
  rw [ByteArray.toList_eq]
  cases hs : s.data.toList with
  | nil => exact absurd hs h
  | cons a l => rfl
theorem empty_yes (s : ByteArray) (h : s.data.toList = []) : s = ⟨#[]⟩ := by
  apply ByteArray.ext; apply Array.toList_inj.1; exact h

set_option maxHeartbeats 1000000 in
set_option maxRecDepth 100000 in
theorem formed_any (b o : Nat) (p : PT) (pb : Option Addr) (cb : Nat) (pk : Option Addr) (ck : Nat) (w : World) (hP : PCells w b o p pb cb pk ck) (hl : PLen p) :
    Calls Tryz.prog 162 #[.pointer (some ⟨b, o, none⟩)] w fun e w' => e = .returned (.bool (formedP p)) ∧ w' = w := by
  obtain ⟨h0, h1, _, _, h4, h5, h6⟩ := hP
  obtain ⟨_, _, _, _, g1, g2, g3, g4⟩ := hl
  unfold maxLen at g3 g4
  have C : Hid (∀ w, Calls Tryz.prog 25 #[.string p.ty] w fun e w' => e = .returned (.bool (manyS p.ty.data.toList)) ∧ w' = w) := fun w => pmany_any p.ty w
  obtain ⟨ty, cs, id, loc, how, body, kids⟩ := p
  simp only at h0 h1 h4 h5 h6 g1 g2 g3 g4 C
  have hbz : body.length = 0 ↔ body = [] := List.length_eq_zero_iff
  have hkz : kids.length = 0 ↔ kids = [] := List.length_eq_zero_iff
  have HF : Hid (formedP ⟨ty, cs, id, loc, how, body, kids⟩ = if manyS ty.data.toList then !kids.isEmpty && body.isEmpty && decide (how = 0) && cs.data.toList.isEmpty else kids.isEmpty) := rfl
  cases hm : manyS ty.data.toList
  · rw [hm] at C HF
    by_cases hk : kids.length = 0
    · have HN : Hid (formedP ⟨ty, cs, id, loc, how, body, kids⟩ = true) := by unfold Hid; rw [HF.out, hkz.1 hk]; rfl
      rw [hk] at h6
      clear HF hbz hkz hm hk
      go_enter Tryz.func162, Tryz.ntmps162
      go_wp2_with fail
      refine (C.out _).mono ?_
      rintro e w' ⟨rfl, hw'⟩
      have hw'' := hw'.symm
      subst hw''
      go_wp2
      go_ret
      exact ⟨by rw [HN.out]; rfl, rfl⟩
    · have HN : Hid (formedP ⟨ty, cs, id, loc, how, body, kids⟩ = false) := by unfold Hid; rw [HF.out]; cases kids <;> simp_all
      have hkn : ((kids.length : Int) == 0) = false := by rw [beq_eq_false_iff_ne]; omega
      clear HF hbz hkz hm
      generalize kids.length = nk at *
      go_enter Tryz.func162, Tryz.ntmps162
      go_wp2_with fail
      refine (C.out _).mono ?_
      rintro e w' ⟨rfl, hw'⟩
      have hw'' := hw'.symm
      subst hw''
      go_wp2
      go_ret
      exact ⟨by rw [HN.out]; rfl, rfl⟩
  · rw [hm] at C HF
    by_cases hk : kids.length = 0
    · have HN : Hid (formedP ⟨ty, cs, id, loc, how, body, kids⟩ = false) := by unfold Hid; rw [HF.out, hkz.1 hk]; rfl
      rw [hk] at h6
      clear HF hbz hkz hm hk
      go_enter Tryz.func162, Tryz.ntmps162
      go_wp2_with fail
      refine (C.out _).mono ?_
      rintro e w' ⟨rfl, hw'⟩
      have hw'' := hw'.symm
      subst hw''
      go_wp2
      go_ret
      exact ⟨by rw [HN.out]; rfl, rfl⟩
    · have hkp : (0 : Int) < (kids.length : Int) := by omega
      have hke : kids.isEmpty = false := by cases kids <;> simp_all
      by_cases hb : body.length = 0
      · have hbe : body.isEmpty = true := by rw [hbz.1 hb]; rfl
        rw [hb] at h5
        by_cases hh : how = 0
        · subst hh
          by_cases hc : cs.data.toList = []
          · have HN : Hid (formedP ⟨ty, cs, id, loc, 0, body, kids⟩ = true) := by unfold Hid; rw [HF.out, hke, hbe, hc]; rfl
            have := empty_yes cs hc
            subst this
            clear HF hbz hkz hm hk hke hbe hb hc
            generalize kids.length = nk at *
            go_enter Tryz.func162, Tryz.ntmps162
            go_wp2_with fail
            refine (C.out _).mono ?_
            rintro e w' ⟨rfl, hw'⟩
            have hw'' := hw'.symm
            subst hw''
            go_wp2
            go_ret
            exact ⟨by rw [HN.out]; rfl, rfl⟩
          · have HN : Hid (formedP ⟨ty, cs, id, loc, 0, body, kids⟩ = false) := by unfold Hid; rw [HF.out, hke, hbe]; cases hq : cs.data.toList <;> simp_all
            have hce := empty_no cs hc
            clear HF hbz hkz hm hk hke hbe hb hc
            generalize kids.length = nk at *
            go_enter Tryz.func162, Tryz.ntmps162
            go_wp2_with fail
            refine (C.out _).mono ?_
            rintro e w' ⟨rfl, hw'⟩
            have hw'' := hw'.symm
            subst hw''
            go_wp2
            go_ret
            exact ⟨by rw [HN.out]; rfl, rfl⟩
        · have HN : Hid (formedP ⟨ty, cs, id, loc, how, body, kids⟩ = false) := by unfold Hid; rw [HF.out, hke, hbe]; simp [hh]
          have hhn : (how == 0) = false := by rw [beq_eq_false_iff_ne]; exact hh
          clear HF hbz hkz hm hk hke hbe hb hh
          generalize kids.length = nk at *
          go_enter Tryz.func162, Tryz.ntmps162
          go_wp2_with fail
          refine (C.out _).mono ?_
          rintro e w' ⟨rfl, hw'⟩
          have hw'' := hw'.symm
          subst hw''
          go_wp2
          go_ret
          exact ⟨by rw [HN.out]; rfl, rfl⟩
      · have HN : Hid (formedP ⟨ty, cs, id, loc, how, body, kids⟩ = false) := by unfold Hid; rw [HF.out, hke]; cases body <;> simp_all
        have hbn : ((body.length : Int) == 0) = false := by rw [beq_eq_false_iff_ne]; omega
        clear HF hbz hkz hm hk hke
        generalize kids.length = nk at *
        generalize body.length = nb at *
        go_enter Tryz.func162, Tryz.ntmps162
        go_wp2_with fail
        refine (C.out _).mono ?_
        rintro e w' ⟨rfl, hw'⟩
        have hw'' := hw'.symm
        subst hw''
        go_wp2
        go_ret
        exact ⟨by rw [HN.out]; rfl, rfl⟩

theorem chk1 (p : PT) (h : textsOk p = false) : chkA p = 1 := by rw [chkA, if_pos h]
theorem chk3 (p : PT) (h : textsOk p = true) (h2 : p.how < 0 ∨ 2 < p.how) : chkA p = 3 := by rw [chkA, if_neg (by rw [h]; decide), if_pos h2]
theorem chk2 (p : PT) (h : textsOk p = true) (h2 : ¬ (p.how < 0 ∨ 2 < p.how)) (h3 : 4000 < p.body.length) : chkA p = 2 := by rw [chkA, if_neg (by rw [h]; decide), if_neg h2, if_pos h3]
theorem chk4 (p : PT) (h : textsOk p = true) (h2 : ¬ (p.how < 0 ∨ 2 < p.how)) (h3 : ¬ 4000 < p.body.length) (h4 : formedP p = false) : chkA p = 4 := by rw [chkA, if_neg (by rw [h]; decide), if_neg h2, if_neg h3, if_pos h4]
theorem chk0 (p : PT) (h : textsOk p = true) (h2 : ¬ (p.how < 0 ∨ 2 < p.how)) (h3 : ¬ 4000 < p.body.length) (h4 : formedP p = true) : chkA p = 0 := by rw [chkA, if_neg (by rw [h]; decide), if_neg h2, if_neg h3, if_neg (by rw [h4]; decide)]

set_option maxHeartbeats 4000000 in
set_option maxRecDepth 100000 in
/-- part.checkAlone. -/
theorem alone_any (b o : Nat) (p : PT) (pb : Option Addr) (cb : Nat) (pk : Option Addr) (ck : Nat) (w : World) (hP : PCells w b o p pb cb pk ck) (hl : PLen p) :
    Calls Tryz.prog 119 #[.pointer (some ⟨b, o, none⟩)] w fun e w' => e = .returned (.int .i64 (chkA p : Nat)) ∧ Below w.heap.size w w' := by
  have HPC : Hid (∀ w', Below w.heap.size w w' → PCells w' b o p pb cb pk ck) := fun w' hb => hP.below hb
  have CF : Hid (∀ w', Below w.heap.size w w' → Calls Tryz.prog 162 #[.pointer (some ⟨b, o, none⟩)] w' fun e w'' => e = .returned (.bool (formedP p)) ∧ w'' = w') := fun w' hb => formed_any b o p pb cb pk ck w' (hP.below hb) hl
  have CT : Hid (∀ w, Calls Tryz.prog 159 #[.string p.ty] w fun e w' => e = .returned (.bool (typeS p.ty.data.toList)) ∧ Below w.heap.size w w') := fun w => ptype_any p.ty w hl.1
  have CC : Hid (∀ w, Calls Tryz.prog 160 #[.string p.cs] w fun e w' => e = .returned (.bool (tokenS p.cs.data.toList)) ∧ w' = w) := fun w => htok_any p.cs w hl.2.1
  have CI : Hid (∀ w, Calls Tryz.prog 161 #[.string p.id] w fun e w' => e = .returned (.bool (wordS p.id.data.toList)) ∧ Below w.heap.size w w') := fun w => pword_any p.id w hl.2.2.1
  have CL : Hid (∀ w, Calls Tryz.prog 161 #[.string p.loc] w fun e w' => e = .returned (.bool (wordS p.loc.data.toList)) ∧ Below w.heap.size w w') := fun w => pword_any p.loc w hl.2.2.2.1
  obtain ⟨_, _, _, _, g1, g2, g3, _⟩ := hl
  unfold maxLen at g3
  have HX : Hid (textsOk p = (typeS p.ty.data.toList && (p.cs.data.toList.isEmpty || tokenS p.cs.data.toList) && wordS p.id.data.toList && wordS p.loc.data.toList)) := rfl
  have K1 : Hid (textsOk p = false → chkA p = 1) := chk1 p
  have K3 : Hid (textsOk p = true → (p.how < 0 ∨ 2 < p.how) → chkA p = 3) := chk3 p
  have K2 : Hid (textsOk p = true → ¬ (p.how < 0 ∨ 2 < p.how) → 4000 < p.body.length → chkA p = 2) := chk2 p
  have K4 : Hid (textsOk p = true → ¬ (p.how < 0 ∨ 2 < p.how) → ¬ 4000 < p.body.length → formedP p = false → chkA p = 4) := chk4 p
  have K0 : Hid (textsOk p = true → ¬ (p.how < 0 ∨ 2 < p.how) → ¬ 4000 < p.body.length → formedP p = true → chkA p = 0) := chk0 p
  obtain ⟨c0, c1, c2, c3, c4, c5, c6⟩ := hP
  have HcsE : Hid (p.cs.data.toList = [] → p.cs = ⟨#[]⟩) := empty_yes p.cs
  have HcsN : Hid (p.cs.data.toList ≠ [] → p.cs.toList.isEmpty = false) := empty_no p.cs
  have HcsI : Hid (p.cs.data.toList ≠ [] → p.cs.data.toList.isEmpty = false) := fun h => by cases hq : p.cs.data.toList <;> simp_all
  generalize textsOk p = tx at *
  generalize formedP p = fm at *
  generalize (chkA p : Nat) = ans at *
  clear c1 c2 c3 c4 c5 c6
  go_enter Tryz.func119, Tryz.ntmps119
  go_wp2_with fail
  refine (CT.out _).mono ?_
  rintro e w1 ⟨rfl, hb1⟩
  obtain ⟨c0, c1, c2, c3, c4, c5, c6⟩ := HPC.out w1 hb1
  cases ht : typeS p.ty.data.toList
  · have HN : Hid (ans = 1) := K1.out (by rw [HX.out, ht]; rfl)
    clear HX K1 K2 K3 K4 K0 ht
    go_wp2
    go_ret
    exact ⟨by rw [HN.out]; rfl, hb1⟩
  · rw [ht] at HX
    clear ht
    by_cases hcs : p.cs.data.toList = []
    · have hce := HcsE.out hcs
      rw [hce] at c1
      have HX2 : Hid (tx = (wordS p.id.data.toList && wordS p.loc.data.toList)) := by unfold Hid; rw [HX.out, hcs]; simp
      clear HX hcs hce HcsE HcsN HcsI
      go_wp2_with fail
      refine (CI.out _).mono ?_
      rintro e w2 ⟨rfl, hb2⟩
      have hB2 := hb1.trans (hb2.mono hb1.size)
      clear c0 c1 c2 c3 c4 c5 c6
      obtain ⟨c0, c1, c2, c3, c4, c5, c6⟩ := HPC.out w2 hB2
      cases hi : wordS p.id.data.toList
      · have HN : Hid (ans = 1) := K1.out (by rw [HX2.out, hi]; rfl)
        clear HX2 K1 K2 K3 K4 K0 hi
        go_wp2
        go_ret
        exact ⟨by rw [HN.out]; rfl, hB2⟩
      · rw [hi] at HX2
        clear hi
        go_wp2_with fail
        refine (CL.out _).mono ?_
        rintro e w3 ⟨rfl, hb3⟩
        have hB3 := hB2.trans (hb3.mono hB2.size)
        clear c0 c1 c2 c3 c4 c5 c6
        obtain ⟨c0, c1, c2, c3, c4, c5, c6⟩ := HPC.out w3 hB3
        cases hi : wordS p.loc.data.toList
        · have HN : Hid (ans = 1) := K1.out (by rw [HX2.out, hi]; rfl)
          clear HX2 K1 K2 K3 K4 K0 hi
          go_wp2
          go_ret
          exact ⟨by rw [HN.out]; rfl, hB3⟩
        · have HTx : Hid (tx = true) := by unfold Hid; rw [HX2.out, hi]; rfl
          clear hi HX2 K1
          by_cases hh : p.how < 0
          · have HN : Hid (ans = 3) := K3.out HTx.out (.inl hh)
            clear K2 K3 K4 K0 HTx
            go_wp2
            go_ret
            exact ⟨by rw [HN.out]; rfl, hB3⟩
          · by_cases hh2 : 2 < p.how
            · have HN : Hid (ans = 3) := K3.out HTx.out (.inr hh2)
              clear K2 K3 K4 K0 HTx
              go_wp2
              go_ret
              exact ⟨by rw [HN.out]; rfl, hB3⟩
            · by_cases hbl : 4000 < p.body.length
              · have HN : Hid (ans = 2) := K2.out HTx.out (by omega) hbl
                have hbz : (4000 : Int) < (p.body.length : Int) := by omega
                clear K2 K3 K4 K0 HTx
                go_wp2
                go_ret
                exact ⟨by rw [HN.out]; rfl, hB3⟩
              · have hbz : ¬ ((4000 : Int) < (p.body.length : Int)) := by omega
                cases hf : fm
                · have HN : Hid (ans = 4) := K4.out HTx.out (by omega) hbl hf
                  rw [hf] at CF
                  clear K2 K3 K4 K0 HTx
                  go_wp2_with fail
                  refine (CF.out _ hB3).mono ?_
                  rintro e w4 ⟨rfl, hw4⟩
                  have hw5 := hw4.symm
                  subst hw5
                  go_wp2
                  go_ret
                  exact ⟨by rw [HN.out]; rfl, hB3⟩
                · have HN : Hid (ans = 0) := K0.out HTx.out (by omega) hbl hf
                  rw [hf] at CF
                  clear K2 K3 K4 K0 HTx
                  go_wp2_with fail
                  refine (CF.out _ hB3).mono ?_
                  rintro e w4 ⟨rfl, hw4⟩
                  have hw5 := hw4.symm
                  subst hw5
                  go_wp2
                  go_ret
                  exact ⟨by rw [HN.out]; rfl, hB3⟩
    · have hce := HcsN.out hcs
      go_wp2_with fail
      refine (CC.out _).mono ?_
      rintro e w1' ⟨rfl, hw1⟩
      have hw2 := hw1.symm
      subst hw2
      cases hk : tokenS p.cs.data.toList
      · have HN : Hid (ans = 1) := K1.out (by rw [HX.out, hk, HcsI.out hcs]; rfl)
        clear HX K1 K2 K3 K4 K0 hk
        go_wp2
        go_ret
        exact ⟨by rw [HN.out]; rfl, hb1⟩
      · have HX2 : Hid (tx = (wordS p.id.data.toList && wordS p.loc.data.toList)) := by unfold Hid; rw [HX.out, hk]; simp
        clear HX hk hcs hce HcsE HcsN HcsI
        go_wp2_with fail
        refine (CI.out _).mono ?_
        rintro e w2 ⟨rfl, hb2⟩
        have hB2 := hb1.trans (hb2.mono hb1.size)
        clear c0 c1 c2 c3 c4 c5 c6
        obtain ⟨c0, c1, c2, c3, c4, c5, c6⟩ := HPC.out w2 hB2
        cases hi : wordS p.id.data.toList
        · have HN : Hid (ans = 1) := K1.out (by rw [HX2.out, hi]; rfl)
          clear HX2 K1 K2 K3 K4 K0 hi
          go_wp2
          go_ret
          exact ⟨by rw [HN.out]; rfl, hB2⟩
        · rw [hi] at HX2
          clear hi
          go_wp2_with fail
          refine (CL.out _).mono ?_
          rintro e w3 ⟨rfl, hb3⟩
          have hB3 := hB2.trans (hb3.mono hB2.size)
          clear c0 c1 c2 c3 c4 c5 c6
          obtain ⟨c0, c1, c2, c3, c4, c5, c6⟩ := HPC.out w3 hB3
          cases hi : wordS p.loc.data.toList
          · have HN : Hid (ans = 1) := K1.out (by rw [HX2.out, hi]; rfl)
            clear HX2 K1 K2 K3 K4 K0 hi
            go_wp2
            go_ret
            exact ⟨by rw [HN.out]; rfl, hB3⟩
          · have HTx : Hid (tx = true) := by unfold Hid; rw [HX2.out, hi]; rfl
            clear hi HX2 K1
            by_cases hh : p.how < 0
            · have HN : Hid (ans = 3) := K3.out HTx.out (.inl hh)
              clear K2 K3 K4 K0 HTx
              go_wp2
              go_ret
              exact ⟨by rw [HN.out]; rfl, hB3⟩
            · by_cases hh2 : 2 < p.how
              · have HN : Hid (ans = 3) := K3.out HTx.out (.inr hh2)
                clear K2 K3 K4 K0 HTx
                go_wp2
                go_ret
                exact ⟨by rw [HN.out]; rfl, hB3⟩
              · by_cases hbl : 4000 < p.body.length
                · have HN : Hid (ans = 2) := K2.out HTx.out (by omega) hbl
                  have hbz : (4000 : Int) < (p.body.length : Int) := by omega
                  clear K2 K3 K4 K0 HTx
                  go_wp2
                  go_ret
                  exact ⟨by rw [HN.out]; rfl, hB3⟩
                · have hbz : ¬ ((4000 : Int) < (p.body.length : Int)) := by omega
                  cases hf : fm
                  · have HN : Hid (ans = 4) := K4.out HTx.out (by omega) hbl hf
                    rw [hf] at CF
                    clear K2 K3 K4 K0 HTx
                    go_wp2_with fail
                    refine (CF.out _ hB3).mono ?_
                    rintro e w4 ⟨rfl, hw4⟩
                    have hw5 := hw4.symm
                    subst hw5
                    go_wp2
                    go_ret
                    exact ⟨by rw [HN.out]; rfl, hB3⟩
                  · have HN : Hid (ans = 0) := K0.out HTx.out (by omega) hbl hf
                    rw [hf] at CF
                    clear K2 K3 K4 K0 HTx
                    go_wp2_with fail
                    refine (CF.out _ hB3).mono ?_
                    rintro e w4 ⟨rfl, hw4⟩
                    have hw5 := hw4.symm
                    subst hw5
                    go_wp2
                    go_ret
                    exact ⟨by rw [HN.out]; rfl, hB3⟩
end Go.Proofs.YtgnlebbifcmpjaaGreatDoor
