/- url.Parse, all its ways: what the plain function says; nothing that was there is changed. Condition: the text is no longer than a text can be. -/
import Derived.Test.YtgnlebbifcmpjaaGreatDoorXbundlegoals25
namespace Go.Proofs.YtgnlebbifcmpjaaGreatDoor
open Go.RowKit

def UPost (w : World) (r : UL × Nat) (e : Ending) (w' : World) : Prop := e = .returned (.tuple #[(ofL r.1).v, .int .i64 (r.2 : Int)]) ∧ Below w.heap.size w w'
def bar (l : List UInt8) : ByteArray := ⟨l.toArray⟩
theorem bar_l (l : List UInt8) : (bar l).data.toList = l := rfl
theorem bar_size (l : List UInt8) : (bar l).size = l.length := by show l.toArray.size = _; simp
theorem cutO_len (d : UInt8) (l : List UInt8) : (cutO d l).1.length ≤ l.length ∧ (cutO d l).2.1.length ≤ l.length := by
  have := congrArg List.length (cutO_app d l)
  rw [List.length_append] at this
  refine ⟨by omega, ?_⟩
  unfold cutO
  cases hc : cutB d l with
  | none => simp
  | some x =>
    have h := congrArg List.length (cutB_some d l x.1 x.2 hc).1
    simp only [List.length_append, List.length_cons] at h
    simp only
    omega
theorem upost_end {w w' : World} {e : Ending} (u : UV) (h : e = .returned (.tuple #[if checkU u.l = 0 then u.v else (ofL noUL).v, .int .i64 (checkU u.l : Nat)]) ∧ Below w.heap.size w w') : UPost w (checkedU u.l) e w' := by
  obtain ⟨rfl, hb⟩ := h
  refine ⟨?_, hb⟩
  unfold checkedU
  by_cases h : checkU u.l = 0
  · rw [if_pos h, if_pos h, h]; rfl
  · rw [if_neg h, if_neg h]
theorem cutpre_no (Y : List UInt8) (h : preSS Y = false) (w : World) : Calls Tryz.prog 73 #[.string (bar Y), .string ⟨#[47, 47]⟩] w fun e w' => e = .returned (.tuple #[.string (bar Y), .bool false]) ∧ w' = w := by
  refine (Tryz.strings_CutPrefix (bar Y) ⟨#[47, 47]⟩ w).mono ?_
  rintro e w' ⟨rfl, rfl⟩
  refine ⟨?_, rfl⟩
  have e1 : Lib.hasPrefix (bar Y).data.toList (ByteArray.mk #[47, 47]).data.toList = false := (pre_ss Y).trans h
  rw [show Lib.trimPrefix (bar Y).data.toList (ByteArray.mk #[47, 47]).data.toList = Y from by unfold Lib.trimPrefix; rw [e1]; rfl, e1]
  rfl
theorem cutpre_yes (Y : List UInt8) (h : preSS Y = true) (w : World) : Calls Tryz.prog 73 #[.string (bar Y), .string ⟨#[47, 47]⟩] w fun e w' => e = .returned (.tuple #[.string (bar (Y.drop 2)), .bool true]) ∧ w' = w := by
  refine (Tryz.strings_CutPrefix (bar Y) ⟨#[47, 47]⟩ w).mono ?_
  rintro e w' ⟨rfl, rfl⟩
  refine ⟨?_, rfl⟩
  have e1 : Lib.hasPrefix (bar Y).data.toList (ByteArray.mk #[47, 47]).data.toList = true := (pre_ss Y).trans h
  rw [show Lib.trimPrefix (bar Y).data.toList (ByteArray.mk #[47, 47]).data.toList = Y.drop 2 from by unfold Lib.trimPrefix; rw [e1]; rfl, e1]
  rfl
theorem ixb_any (X : List UInt8) (w : World) : Calls Tryz.prog 74 #[.string (bar X), .int .u8 47] w fun e w' => e = .returned (.int .i64 (whereB 47 X)) ∧ w' = w := by
  refine (Tryz.strings_IndexByte (bar X) 47 w).mono ?_
  rintro e w' ⟨rfl, rfl⟩
  refine ⟨?_, rfl⟩
  rw [bar_l, show ((47 : Int).toNat.toUInt8) = 47 from rfl, indexByte_where]
theorem ext_take (l : List UInt8) (k : Nat) : (bar l).extract 0 k = bar (l.take k) := by
  apply ba_inj
  rw [Lib.extract_data, bar_l, bar_l]
  simp
theorem ext_drop (l : List UInt8) (k : Nat) : (bar l).extract k (bar l).size = bar (l.drop k) := by
  apply ba_inj
  rw [Lib.extract_data, bar_l, bar_l, bar_size]
  exact List.take_of_length_le (by rw [List.length_drop]; exact Nat.le_refl _)
theorem short_of (u : UV) (h1 : u.sch.size ≤ 120) (h2 : u.hst.size ≤ 120) (h3 : u.pth.size ≤ 120) (h4 : u.qry.size ≤ 120) (h5 : u.frg.size ≤ 120) : u.short maxLen := by
  unfold maxLen
  exact ⟨by omega, by omega, by omega, by omega, by omega⟩
theorem smallU_length (l : List UInt8) : (smallU l).length = l.length := by unfold smallU; rw [List.length_map]
theorem usmb_any (l : List UInt8) (h : l.length ≤ 120) (w : World) : Calls Tryz.prog 71 #[.string (bar l)] w fun e w' => e = .returned (.string (bar (smallU l))) ∧ Below w.heap.size w w' := usm_any (bar l) w (by rw [bar_size]; omega)

/-- url.Parse. -/
theorem uparse_any (s : ByteArray) (hs : s.size ≤ maxLen) (w : World) :
    Calls Tryz.prog 23 #[.string s] w fun e w' => UPost w (parseU s.data.toList) e w' := by
  by_cases hl : 120 < s.size
  · refine (parse_long s hs hl w).mono ?_
    rintro e w' ⟨rfl, hb⟩
    refine ⟨?_, hb⟩
    unfold parseU
    rw [if_pos (by rw [← Lib.size_eq]; exact hl)]
    rfl
  · have hl' : s.size ≤ 120 := by omega
    have hll : s.data.toList.length ≤ 120 := by rw [← Lib.size_eq]; exact hl'
    unfold parseU
    rw [if_neg (by omega)]
    obtain ⟨l1, l2⟩ := cutO_len 35 s.data.toList
    have CU1 := fun W => ucut_any 35 s (bar (cutO 35 s.data.toList).1) (bar (cutO 35 s.data.toList).2.1) (cutO 35 s.data.toList).2.2 rfl (by omega) W
    generalize (cutO 35 s.data.toList).2.2 = F1 at *
    generalize (cutO 35 s.data.toList).2.1 = R1 at *
    generalize (cutO 35 s.data.toList).1 = A1 at *
    obtain ⟨l3, l4⟩ := cutO_len 63 A1
    have CU2 := fun W => ucut_any 63 (bar A1) (bar (cutO 63 A1).1) (bar (cutO 63 A1).2.1) (cutO 63 A1).2.2 rfl (by rw [bar_size]; omega) W
    generalize (cutO 63 A1).2.2 = F2 at *
    generalize (cutO 63 A1).2.1 = R2 at *
    generalize (cutO 63 A1).1 = A2 at *
    have CO := fun W => ucolon_any (bar A2) W (by rw [bar_size]; omega)
    rw [bar_l] at CO
    unfold parseA whereC at *
    cases hc : cutC A2 with
    | none =>
      simp only [hc] at CO ⊢
      unfold hostU
      cases hp : preSS A2 with
      | false =>
        rw [if_neg (by simp)]
        exact (parse_NN s (bar A1) (bar R1) (bar A2) (bar R2) (bar A2) F1 F2 _ w hl' CU1 CU2 CO (fun W => cutpre_no A2 hp W) (fun W => ucheck_any ⟨⟨#[]⟩, false, ⟨#[]⟩, bar A2, F2, bar R2, F1, bar R1⟩ (short_of _ (by show 0 ≤ 120; omega) (by show 0 ≤ 120; omega) (by rw [bar_size]; omega) (by rw [bar_size]; omega) (by rw [bar_size]; omega)) W)).mono (fun e w' h => upost_end ⟨⟨#[]⟩, false, ⟨#[]⟩, bar A2, F2, bar R2, F1, bar R1⟩ h)
      | true =>
        rw [if_pos rfl]
        have hd : (A2.drop 2).length ≤ 120 := by rw [List.length_drop]; omega
        unfold cutH
        have CI := fun W => ixb_any (A2.drop 2) W
        cases hx : cutB 47 (A2.drop 2) with
        | none =>
          simp only
          rw [whereB_none hx] at CI
          exact (parse_NE s (bar A1) (bar R1) (bar A2) (bar R2) (bar (A2.drop 2)) (bar (smallU (A2.drop 2))) F1 F2 _ w hl' CU1 CU2 CO (fun W => cutpre_yes A2 hp W) (by rw [bar_size]; exact hd) CI (fun W => usmb_any _ hd W) (fun W => ucheck_any ⟨⟨#[]⟩, true, bar (smallU (A2.drop 2)), ⟨#[]⟩, F2, bar R2, F1, bar R1⟩ (short_of _ (by show 0 ≤ 120; omega) (by rw [bar_size, smallU_length]; omega) (by show 0 ≤ 120; omega) (by rw [bar_size]; omega) (by rw [bar_size]; omega)) W)).mono (fun e w' h => upost_end ⟨⟨#[]⟩, true, bar (smallU (A2.drop 2)), ⟨#[]⟩, F2, bar R2, F1, bar R1⟩ h)
        | some x =>
          obtain ⟨x1, x2⟩ := x
          simp only
          rw [whereB_some hx] at CI
          have hxe := (cutB_some 47 _ _ _ hx).1
          have hxl := congrArg List.length hxe
          simp only [List.length_append, List.length_cons] at hxl
          exact (parse_NS s (bar A1) (bar R1) (bar A2) (bar R2) (bar (A2.drop 2)) (bar x1) (bar (smallU x1)) (bar (47 :: x2)) F1 F2 x1.length _ w hl' CU1 CU2 CO (fun W => cutpre_yes A2 hp W) (by rw [bar_size]; exact hd) CI (by rw [bar_size]; omega) (by rw [ext_take, hxe, List.take_left]) (by rw [ext_drop, hxe, List.drop_left]) (fun W => usmb_any _ (by omega) W) (fun W => ucheck_any ⟨⟨#[]⟩, true, bar (smallU x1), bar (47 :: x2), F2, bar R2, F1, bar R1⟩ (short_of _ (by show 0 ≤ 120; omega) (by rw [bar_size, smallU_length]; omega) (by rw [bar_size, List.length_cons]; omega) (by rw [bar_size]; omega) (by rw [bar_size]; omega)) W)).mono (fun e w' h => upost_end ⟨⟨#[]⟩, true, bar (smallU x1), bar (47 :: x2), F2, bar R2, F1, bar R1⟩ h)
    | some y =>
      obtain ⟨a, r⟩ := y
      simp only [hc] at CO ⊢
      have hae := cutC_some A2 a r hc
      have hal := congrArg List.length hae
      simp only [List.length_append, List.length_cons] at hal
      have hA2 : (bar A2).size ≤ 120 := by rw [bar_size]; omega
      have hk : a.length + 1 ≤ (bar A2).size := by rw [bar_size]; omega
      have hSA : (bar A2).extract 0 a.length = bar a := by rw [ext_take, hae, List.take_left]
      have hSB : (bar A2).extract (a.length + 1) (bar A2).size = bar r := by
        rw [ext_drop, hae, ← List.drop_drop, List.drop_left]; rfl
      have CSM := fun W => usmb_any a (by omega) W
      have CSC := fun W => uscheme_any (bar (smallU a)) W (by rw [bar_size, smallU_length]; omega)
      rw [bar_l] at CSC
      cases hsc : schemeS (smallU a) with
      | false =>
        rw [hsc] at CSC
        rw [if_pos rfl]
        refine (parse_YB s (bar A1) (bar R1) (bar A2) (bar R2) (bar a) (bar r) (bar (smallU a)) F1 F2 a.length w hl' CU1 CU2 CO hA2 hk hSA hSB CSM CSC).mono ?_
        rintro e w' ⟨rfl, hb⟩
        exact ⟨rfl, hb⟩
      | true =>
        rw [hsc] at CSC
        rw [if_neg (by simp)]
        unfold hostU
        cases hp : preSS r with
        | false =>
          rw [if_neg (by simp)]
          exact (parse_YN s (bar A1) (bar R1) (bar A2) (bar R2) (bar a) (bar r) (bar (smallU a)) (bar r) F1 F2 a.length _ w hl' CU1 CU2 CO hA2 hk hSA hSB CSM CSC (fun W => cutpre_no r hp W) (fun W => ucheck_any ⟨bar (smallU a), false, ⟨#[]⟩, bar r, F2, bar R2, F1, bar R1⟩ (short_of _ (by rw [bar_size, smallU_length]; omega) (by show 0 ≤ 120; omega) (by rw [bar_size]; omega) (by rw [bar_size]; omega) (by rw [bar_size]; omega)) W)).mono (fun e w' h => upost_end ⟨bar (smallU a), false, ⟨#[]⟩, bar r, F2, bar R2, F1, bar R1⟩ h)
        | true =>
          rw [if_pos rfl]
          have hd : (r.drop 2).length ≤ 120 := by rw [List.length_drop]; omega
          unfold cutH
          have CI := fun W => ixb_any (r.drop 2) W
          cases hx : cutB 47 (r.drop 2) with
          | none =>
            simp only
            rw [whereB_none hx] at CI
            exact (parse_YE s (bar A1) (bar R1) (bar A2) (bar R2) (bar a) (bar r) (bar (smallU a)) (bar (r.drop 2)) (bar (smallU (r.drop 2))) F1 F2 a.length _ w hl' CU1 CU2 CO hA2 hk hSA hSB CSM CSC (fun W => cutpre_yes r hp W) (by rw [bar_size]; exact hd) CI (fun W => usmb_any _ hd W) (fun W => ucheck_any ⟨bar (smallU a), true, bar (smallU (r.drop 2)), ⟨#[]⟩, F2, bar R2, F1, bar R1⟩ (short_of _ (by rw [bar_size, smallU_length]; omega) (by rw [bar_size, smallU_length]; omega) (by show 0 ≤ 120; omega) (by rw [bar_size]; omega) (by rw [bar_size]; omega)) W)).mono (fun e w' h => upost_end ⟨bar (smallU a), true, bar (smallU (r.drop 2)), ⟨#[]⟩, F2, bar R2, F1, bar R1⟩ h)
          | some x =>
            obtain ⟨x1, x2⟩ := x
            simp only
            rw [whereB_some hx] at CI
            have hxe := (cutB_some 47 _ _ _ hx).1
            have hxl := congrArg List.length hxe
            simp only [List.length_append, List.length_cons] at hxl
            exact (parse_YS s (bar A1) (bar R1) (bar A2) (bar R2) (bar a) (bar r) (bar (smallU a)) (bar (r.drop 2)) (bar x1) (bar (smallU x1)) (bar (47 :: x2)) F1 F2 a.length x1.length _ w hl' CU1 CU2 CO hA2 hk hSA hSB CSM CSC (fun W => cutpre_yes r hp W) (by rw [bar_size]; exact hd) CI (by rw [bar_size]; omega) (by rw [ext_take, hxe, List.take_left]) (by rw [ext_drop, hxe, List.drop_left]) (fun W => usmb_any _ (by omega) W) (fun W => ucheck_any ⟨bar (smallU a), true, bar (smallU x1), bar (47 :: x2), F2, bar R2, F1, bar R1⟩ (short_of _ (by rw [bar_size, smallU_length]; omega) (by rw [bar_size, smallU_length]; omega) (by rw [bar_size, List.length_cons]; omega) (by rw [bar_size]; omega) (by rw [bar_size]; omega)) W)).mono (fun e w' h => upost_end ⟨bar (smallU a), true, bar (smallU x1), bar (47 :: x2), F2, bar R2, F1, bar R1⟩ h)
end Go.Proofs.YtgnlebbifcmpjaaGreatDoor
