/- The walk of the law PartTree: it answers true, and nothing that was there is changed. Condition: the part lies there. -/
import Derived.Test.YtnmmlbgadibimabPParted
import Derived.Test.YtnmmlbgadibimabPlainW
namespace Go.Proofs.Ytnmmlbgadibimab
open Go.RowKit

set_option maxHeartbeats 1000000 in
theorem index_ints (b o n c : Nat) (l : List Int) (en : n = l.length) (v : Int) (w : World) (hn : n ≤ 1000) (hc : ∀ i, i < n → w.cell? ⟨b, o + i, none⟩ = some (.int .i64 (l.getD i 0))) :
    Calls Try.prog 21 #[.slice (some ⟨b, o, none⟩) n c, .int .i64 v] w fun e w' => ∃ i : Int, e = .returned (.int .i64 i) ∧ Hid (decide (0 ≤ i) = l.contains v) ∧ w' = w := by
  have HL : Hid (n = l.length) := en
  clear en
  go_enter Try.func21, Try.ntmps21
  go_wp2_with fail
  go_loopw [8] (fun iv wr => ∃ k : Nat, k ≤ n ∧ iv = .int .i64 k ∧ w = wr ∧ Hid ((l.drop k).contains v = l.contains v)) (fun iv _ => n - (intOf iv).toNat)
  case atStart => exact ⟨0, Nat.zero_le _, rfl, rfl, rfl⟩
  case round =>
    obtain ⟨k, hk, rfl, rfl, HK⟩ := hrel
    by_cases hlt : k < n
    · have hlz : (k : Int) < (n : Int) := by omega
      have hck := hc k hlt
      have hkl : k < l.length := by rw [← HL.out]; exact hlt
      have hdr : l.drop k = l.getD k 0 :: l.drop (k + 1) := by
        rw [List.drop_eq_getElem_cons hkl]
        simp [List.getD_eq_getElem?_getD, List.getElem?_eq_getElem hkl]
      rw [hdr, List.contains_cons] at HK
      obtain ⟨z, hz⟩ : ∃ z, l.getD k 0 = z := ⟨_, rfl⟩
      rw [hz] at hck HK
      clear hz hdr hc
      by_cases hvz : v = z
      · have HN : Hid (l.contains v = true) := by unfold Hid; rw [← HK.out, hvz]; simp
        have hvb : (v == z) = true := beq_iff_eq.2 hvz
        clear HK hvz
        go_wp2_with fail
        go_ret
        exact ⟨_, rfl, by unfold Hid; rw [HN.out]; simp, rfl⟩
      · have hvb : (v == z) = false := by rw [beq_eq_false_iff_ne]; exact hvz
        have HN : Hid ((l.drop (k + 1)).contains v = l.contains v) := by unfold Hid; rw [← HK.out, hvb, Bool.false_or]
        clear HK hvz
        go_wp2_with fail
        go_roundw
        case rel => exact ⟨k + 1, by omega, by go_num, by first | rfl | trivial, HN⟩
        case measure => simp [intOf]; omega
    · have hlz : ¬ ((k : Int) < (n : Int)) := by omega
      have HN : Hid (l.contains v = false) := by unfold Hid; rw [← HK.out, List.drop_of_length_le (by rw [← HL.out]; omega)]; rfl
      clear HK hc
      go_wp2_with fail
      go_ret
      exact ⟨_, rfl, by have h := HN.out; simp at h; unfold Hid; simp [h], rfl⟩
theorem contains_ints (b o n c : Nat) (l : List Int) (en : n = l.length) (v : Int) (w : World) (hn : n ≤ 1000) (hc : ∀ i, i < n → w.cell? ⟨b, o + i, none⟩ = some (.int .i64 (l.getD i 0))) :
    Calls Try.prog 9 #[.slice (some ⟨b, o, none⟩) n c, .int .i64 v] w fun e w' => e = .returned (.bool (l.contains v)) ∧ w' = w := by
  have C : Hid (Calls Try.prog 21 #[.slice (some ⟨b, o, none⟩) n c, .int .i64 v] w fun e w' => ∃ i : Int, e = .returned (.int .i64 i) ∧ Hid (decide (0 ≤ i) = l.contains v) ∧ w' = w) := index_ints b o n c l en v w hn hc
  clear hc en
  go_enter Try.func9, Try.ntmps9
  go_wp2_with fail
  refine C.out.mono ?_
  rintro e w' ⟨i, rfl, HI, hw⟩
  have hw' := hw.symm
  subst hw'
  clear C
  go_wp2_with fail
  go_ret
  exact ⟨by rw [← HI.out]; rfl, rfl⟩

set_option maxHeartbeats 2000000 in
/-- The law. -/
theorem ptree_any (p : PT) (pb : Option Addr) (cb : Nat) (pk : Option Addr) (ck F : Nat) (w : World) (hH : PHeld w F p pb cb pk ck) :
    Calls Try.prog 3 #[.agg #[.string p.ty, .string p.cs, .string p.id, .string p.loc, .int .i64 p.how, .slice pb p.body.length cb, .slice pk p.kids.length ck]] w fun e w' => e = .returned (.bool true) ∧ Below w.heap.size w w' := by
  have CA : Hid (∀ w', Below w.heap.size w w' → Calls Try.prog 5 #[.agg #[.string p.ty, .string p.cs, .string p.id, .string p.loc, .int .i64 p.how, .slice pb p.body.length cb, .slice pk p.kids.length ck]] w' fun e w'' => AllPost w' (placesP p) e w'') := fun w' hb => all_any p pb cb pk ck F w' (hH.below hb)
  have CW : Hid (∀ w', Below w.heap.size w w' → Calls Try.prog 6 #[.agg #[.string p.ty, .string p.cs, .string p.id, .string p.loc, .int .i64 p.how, .slice pb p.body.length cb, .slice pk p.kids.length ck]] w' fun e w'' => WithinPost w' (placesP p) e w'') := fun w' hb => within_any p pb cb pk ck F w' (hH.below hb)
  have HF : Hid ((placesP p).1 = 0 → (placesP p).2.length ≤ 12 ∧ ((placesP p).2[0]? = some (p, -1)) ∧
    (∀ (j : Nat) (x : PT × Int), 1 ≤ j → (placesP p).2[j]? = some x → ∃ (k : Nat) (y : PT × Int), x.2 = (k : Int) ∧ k < j ∧ (placesP p).2[k]? = some y ∧ manyS y.1.ty.data.toList = true) ∧
    (∀ (j : Nat) (x : PT × Int), (placesP p).2[j]? = some x → manyS x.1.ty.data.toList = ((placesP p).2.map (·.2)).contains (j : Int))) := tree_facts p
  generalize placesP p = R at *
  clear hH
  obtain ⟨CP, hCP⟩ : ∃ c : Array Value, c = #[.string p.ty, .string p.cs, .string p.id, .string p.loc, .int .i64 p.how, .slice pb p.body.length cb, .slice pk p.kids.length ck] := ⟨_, rfl⟩
  go_enter Try.func3, Try.ntmps3
  go_wp2_with fail
  have hb0 : Below w.heap.size w (w.alloc (.cells CP 25)) := (Below.refl _ _).alloc (Nat.le_refl _) _
  rw [hCP] at hb0
  refine (CA.out _ hb0).mono ?_
  rintro e w1 ⟨hb1, hbad1, hok1⟩
  obtain ⟨m0, m1, m2, m3, m4, m5, m6, -, -, -, hbel1⟩ := made_seven hb1 w.heap.size rfl
  clear hb0
  by_cases hr : R.1 = 0
  · obtain ⟨q1, c1, rfl, hc1, hcm1, hn1, hk1⟩ := hok1 hr
    obtain ⟨h12, F0, F1, F2⟩ := HF.out hr
    have HR : Hid (R.1 = 0) := hr
    clear hbad1 hok1 HF CA hr hb1
    go_wp2_with fail
    refine (CW.out w1 hbel1).mono ?_
    rintro e w2 ⟨hb2, -, hok2⟩
    obtain ⟨q2, c2, rfl, hc2, hcm2, hn2, hi2⟩ := hok2 HR.out
    have hbel2 := hbel1.trans (hb2.mono hbel1.size)
    have hk2 := KAt.below hb2 _ _ _ hk1
    clear hok2 hb2 hk1 hbel1 CW m0 m1 m2 m3 m4 m5 m6
    go_wp2_with fail
    refine (parted_any _).mono ?_
    rintro e w3 ⟨rfl, hb3⟩
    have hbel3 := hbel2.trans (hb3.mono hbel2.size)
    have hk3 := KAt.below hb3 _ _ _ hk2
    have hi3 := hi2.below hb3
    clear hb3 hk2 hi2 hbel2
    obtain ⟨L, hL⟩ : ∃ L, R.2 = L := ⟨_, rfl⟩
    rw [hL] at F0 F1 F2 h12 hk3 hi3 hc1 hc2
    simp only [hL]
    clear hL
    obtain ⟨n, hn⟩ : ∃ n, L.length = n := ⟨_, rfl⟩
    have hn0 : 1 ≤ n := by rw [← hn]; exact (List.getElem?_eq_some_iff.1 F0).1
    rw [hn] at h12 hc1 hc2
    simp only [hn]
    have HN : Hid (L.length = n) := hn
    have hLne : L ≠ [] := fun e => by rw [e] at F0; cases F0
    obtain ⟨bl, ol, rfl, hkk⟩ := hk3.each (fun e => hLne (List.map_eq_nil_iff.1 e))
    obtain ⟨bi, oi, rfl, hii⟩ := hi3 (fun e => hLne (List.map_eq_nil_iff.1 e))
    have HP : Hid (∀ (j : Nat) (x : PT × Int), L[j]? = some x → PAt w3 0 bl (ol + j * 7) x.1.alone) := fun j x hx => by
      have hj := (List.getElem?_eq_some_iff.1 hx).1
      have := hkk j (by rw [List.length_map]; exact hj)
      rw [List.getD_eq_getElem?_getD, List.getElem?_map, hx] at this
      exact this
    have HIc : Hid (∀ (j : Nat) (x : PT × Int), L[j]? = some x → w3.cell? ⟨bi, oi + j, none⟩ = some (.int .i64 x.2)) := fun j x hx => by
      have hj := (List.getElem?_eq_some_iff.1 hx).1
      have := hii j (by rw [List.length_map]; exact hj)
      rw [List.getD_eq_getElem?_getD, List.getElem?_map, hx] at this
      exact this
    have HI : Hid (∀ i, i < n → w3.cell? ⟨bi, oi + i, none⟩ = some (.int .i64 ((L.map (·.2)).getD i 0))) := fun i hi => hii i (by rw [List.length_map, hn]; exact hi)
    have HF1 : Hid (∀ (j : Nat) (x : PT × Int), 1 ≤ j → L[j]? = some x → ∃ (k : Nat) (y : PT × Int), x.2 = (k : Int) ∧ k < j ∧ L[k]? = some y ∧ manyS y.1.ty.data.toList = true) := F1
    have HF2 : Hid (∀ (j : Nat) (x : PT × Int), L[j]? = some x → manyS x.1.ty.data.toList = (L.map (·.2)).contains (j : Int)) := F2
    have ci0 := HIc.out 0 _ F0
    clear hkk hii hk3 hi3 F0 F1 F2 hLne hn hn1 hn2
    have hnz : ¬ ((12 : Int) < (n : Int)) := by omega
    have hnz1 : (1 : Int) ≤ (n : Int) := by omega
    have hnz2 : (0 : Int) < (n : Int) := by omega
    simp only [Nat.add_zero] at ci0
    go_wp2_with fail
    · obtain rfl : n = 1 := by omega
      obtain rfl : c2 = 1 := by omega
      go_loopw [51] (fun iv wr => ∃ k : Nat, k ≤ 1 - 1 ∧ iv = .int .i64 k ∧ Below w3.heap.size w3 wr) (fun iv _ => 1 - (intOf iv).toNat)
      case atStart => exact ⟨0, Nat.zero_le _, rfl, Below.refl _ _⟩
      case round =>
        obtain ⟨k, hk, rfl, hbr⟩ := hrel
        by_cases hlt : k < 1 - 1
        · exfalso; omega
        · have hlz : ¬ ((k : Int) < (1 : Int) - 1) := by omega
          have hlz' : (1 : Int) - 1 ≤ (k : Int) := by omega
          go_wp2_with fail
          go_loopw [75] (fun iv wr => ∃ k : Nat, k ≤ 1 ∧ iv = .int .i64 k ∧ Below w3.heap.size w3 wr) (fun iv _ => 1 - (intOf iv).toNat)
          case atStart => exact ⟨0, Nat.zero_le _, rfl, hbr⟩
          case round =>
            obtain ⟨k, hk, rfl, hbr2⟩ := hrel
            have hsr2 := hbr2.size
            by_cases hlt2 : k < 1
            · have hlz2 : (k : Int) < (1 : Int) := by omega
              have hkL : k < L.length := by rw [HN.out]; exact hlt2
              obtain ⟨x, hx⟩ : ∃ x, L[k]? = some x := ⟨_, List.getElem?_eq_getElem hkL⟩
              obtain ⟨pb5, cb5, pk5, ck5, hC5, -⟩ := (HP.out k x hx).below hbr2
              obtain ⟨d0, d1, d2, d3, d4, d5, d6⟩ := hC5
              have HM : Hid (manyS x.1.ty.data.toList = (L.map (·.2)).contains (k : Int)) := HF2.out k x hx
              have hbB : bl < wr.heap.size := World.block_lt_of_cell? wr _ d0
              obtain ⟨⟨ty, cs, id, loc, how, body, kids⟩, iny⟩ := x
              simp only [PT.alone] at d0 d1 d2 d3 d4 d5 d6 HM
              have CM : Hid (∀ w', Calls Try.prog 8 #[.string ty] w' fun e w'' => e = .returned (.bool ((L.map (·.2)).contains (k : Int))) ∧ w'' = w') := fun w' => by have := pmany_any ty w'; rwa [HM.out] at this
              have CK : Hid (∀ w', Below w3.heap.size w3 w' → Calls Try.prog 9 #[.slice (some ⟨bi, oi, none⟩) 1 1, .int .i64 (k : Int)] w' fun e w'' => e = .returned (.bool ((L.map (·.2)).contains (k : Int))) ∧ w'' = w') := fun w' hb => contains_ints bi oi 1 1 (L.map (·.2)) (by rw [List.length_map, HN.out]) (k : Int) w' (by omega) (fun i hi => by rw [hb.cell (p := ⟨bi, oi + i, none⟩) (World.block_lt_of_cell? w3 _ (HI.out i hi))]; exact HI.out i hi)
              generalize (L.map (·.2)).contains (k : Int) = T at *
              obtain ⟨nb, hnb⟩ : ∃ nb, body.length = nb := ⟨_, rfl⟩
              rw [hnb] at d5
              simp only [List.length_nil] at d6
              clear hx HM hnb
              have hba := hbr2.alloc hsr2 (.cells #[.string ty, .string cs, .string id, .string loc, .int .i64 how, .slice pb5 nb cb5, .slice pk5 0 ck5] 25)
              go_wp2_with fail
              refine (CM.out _).mono ?_
              rintro e w5 ⟨rfl, hw5⟩
              have hw5' := hw5.symm
              subst hw5'
              go_wp2_with fail
              refine (CK.out _ hba).mono ?_
              rintro e w6 ⟨rfl, hw6⟩
              have hw6' := hw6.symm
              subst hw6'
              have hTT : (T != T) = false := by cases T <;> rfl
              clear CM CK
              go_wp2_with fail
              go_roundw
              case rel => exact ⟨k + 1, by omega, by go_num, hba⟩
              case measure => simp [intOf]; omega
            · have hlz2 : ¬ ((k : Int) < (1 : Int)) := by omega
              clear HP HIc HI HF1 HF2
              go_wp2_with fail
              go_ret
              exact ⟨rfl, hbel3.trans (hbr2.mono hbel3.size)⟩
    · skip
      go_loopw [51] (fun iv wr => ∃ k : Nat, k ≤ n - 1 ∧ iv = .int .i64 k ∧ Below w3.heap.size w3 wr) (fun iv _ => n - (intOf iv).toNat)
      case atStart => exact ⟨0, Nat.zero_le _, rfl, Below.refl _ _⟩
      case round =>
        obtain ⟨k, hk, rfl, hbr⟩ := hrel
        by_cases hlt : k < n - 1
        · have hlz : (k : Int) < (n : Int) - 1 := by omega
          have hkL : k + 1 < L.length := by rw [HN.out]; omega
          obtain ⟨x, hx⟩ : ∃ x, L[k + 1]? = some x := ⟨_, List.getElem?_eq_getElem hkL⟩
          obtain ⟨j, y, hxj, hjk, hy, hmy⟩ := HF1.out (k + 1) x (by omega) hx
          have ck1 := HIc.out (k + 1) x hx
          rw [hxj] at ck1
          have hcr := (hbr.cell (World.block_lt_of_cell? w3 _ ck1)).trans ck1
          rw [show oi + (k + 1) = oi + 1 + k from by omega] at hcr
          obtain ⟨pb5, cb5, pk5, ck5, hC5, -⟩ := (HP.out j y hy).below hbr
          have d0 : wr.cell? ⟨bl, ol + j * 7, none⟩ = some (.string y.1.ty) := hC5.1
          have hjn : (j : Int) < (n : Int) := by omega
          have hjk2 : ¬ ((k : Int) < (j : Int)) := by omega
          have hj0 : ¬ ((j : Int) < 0) := by omega
          have CM : Hid (∀ w', Calls Try.prog 8 #[.string y.1.ty] w' fun e w'' => e = .returned (.bool true) ∧ w'' = w') := fun w' => by have := pmany_any y.1.ty w'; rwa [hmy] at this
          obtain ⟨ty, hty⟩ : ∃ ty, y.1.ty = ty := ⟨_, rfl⟩
          rw [hty] at d0 CM
          clear hx hxj hy hmy ck1 hC5 hty
          go_wp2_with fail
          refine (CM.out _).mono ?_
          rintro e w5 ⟨rfl, hw5⟩
          have hw5' := hw5.symm
          subst hw5'
          clear CM
          go_wp2_with fail
          go_roundw
          case rel => exact ⟨k + 1, by omega, by go_num, hbr⟩
          case measure => simp [intOf]; omega
        · have hlz : ¬ ((k : Int) < (n : Int) - 1) := by omega
          have hlz' : (n : Int) - 1 ≤ (k : Int) := by omega
          go_wp2_with fail
          go_loopw [75] (fun iv wr => ∃ k : Nat, k ≤ n ∧ iv = .int .i64 k ∧ Below w3.heap.size w3 wr) (fun iv _ => n - (intOf iv).toNat)
          case atStart => exact ⟨0, Nat.zero_le _, rfl, hbr⟩
          case round =>
            obtain ⟨k, hk, rfl, hbr2⟩ := hrel
            have hsr2 := hbr2.size
            by_cases hlt2 : k < n
            · have hlz2 : (k : Int) < (n : Int) := by omega
              have hkL : k < L.length := by rw [HN.out]; exact hlt2
              obtain ⟨x, hx⟩ : ∃ x, L[k]? = some x := ⟨_, List.getElem?_eq_getElem hkL⟩
              obtain ⟨pb5, cb5, pk5, ck5, hC5, -⟩ := (HP.out k x hx).below hbr2
              obtain ⟨d0, d1, d2, d3, d4, d5, d6⟩ := hC5
              have HM : Hid (manyS x.1.ty.data.toList = (L.map (·.2)).contains (k : Int)) := HF2.out k x hx
              have hbB : bl < wr.heap.size := World.block_lt_of_cell? wr _ d0
              obtain ⟨⟨ty, cs, id, loc, how, body, kids⟩, iny⟩ := x
              simp only [PT.alone] at d0 d1 d2 d3 d4 d5 d6 HM
              have CM : Hid (∀ w', Calls Try.prog 8 #[.string ty] w' fun e w'' => e = .returned (.bool ((L.map (·.2)).contains (k : Int))) ∧ w'' = w') := fun w' => by have := pmany_any ty w'; rwa [HM.out] at this
              have CK : Hid (∀ w', Below w3.heap.size w3 w' → Calls Try.prog 9 #[.slice (some ⟨bi, oi, none⟩) n c2, .int .i64 (k : Int)] w' fun e w'' => e = .returned (.bool ((L.map (·.2)).contains (k : Int))) ∧ w'' = w') := fun w' hb => contains_ints bi oi n c2 (L.map (·.2)) (by rw [List.length_map, HN.out]) (k : Int) w' (by omega) (fun i hi => by rw [hb.cell (p := ⟨bi, oi + i, none⟩) (World.block_lt_of_cell? w3 _ (HI.out i hi))]; exact HI.out i hi)
              generalize (L.map (·.2)).contains (k : Int) = T at *
              obtain ⟨nb, hnb⟩ : ∃ nb, body.length = nb := ⟨_, rfl⟩
              rw [hnb] at d5
              simp only [List.length_nil] at d6
              clear hx HM hnb
              have hba := hbr2.alloc hsr2 (.cells #[.string ty, .string cs, .string id, .string loc, .int .i64 how, .slice pb5 nb cb5, .slice pk5 0 ck5] 25)
              go_wp2_with fail
              refine (CM.out _).mono ?_
              rintro e w5 ⟨rfl, hw5⟩
              have hw5' := hw5.symm
              subst hw5'
              go_wp2_with fail
              refine (CK.out _ hba).mono ?_
              rintro e w6 ⟨rfl, hw6⟩
              have hw6' := hw6.symm
              subst hw6'
              have hTT : (T != T) = false := by cases T <;> rfl
              clear CM CK
              go_wp2_with fail
              go_roundw
              case rel => exact ⟨k + 1, by omega, by go_num, hba⟩
              case measure => simp [intOf]; omega
            · have hlz2 : ¬ ((k : Int) < (n : Int)) := by omega
              clear HP HIc HI HF1 HF2
              go_wp2_with fail
              go_ret
              exact ⟨rfl, hbel3.trans (hbr2.mono hbel3.size)⟩
  · obtain rfl := hbad1 hr
    clear hbad1 hok1 HF CA
    have hrz : (((R.1 : Nat) : Int) == 0) = false := by rw [beq_eq_false_iff_ne]; omega
    go_wp2_with fail
    refine (CW.out w1 hbel1).mono ?_
    rintro e w2 ⟨hb2, hbad2, -⟩
    obtain rfl := hbad2 hr
    have hbel2 := hbel1.trans (hb2.mono hbel1.size)
    clear hbad2 hb2 CW m0 m1 m2 m3 m4 m5 m6 hb1
    obtain ⟨r, hrr⟩ : ∃ r, R.1 = r := ⟨_, rfl⟩
    rw [hrr] at hrz hr
    simp only [hrr]
    clear hrr
    go_wp2_with fail
    refine (parted_any _).mono ?_
    rintro e w3 ⟨rfl, hb3⟩
    have hbel3 := hbel2.trans (hb3.mono hbel2.size)
    go_wp2_with fail
    refine (parted_any _).mono ?_
    rintro e w4 ⟨rfl, hb4⟩
    have hbel4 := hbel3.trans (hb4.mono hbel3.size)
    go_wp2_with fail
    go_ret
    exact ⟨rfl, hbel4⟩
end Go.Proofs.Ytnmmlbgadibimab
