/- The reference's CheckURL is checkU; nothing that was there is changed. -/
import Derived.Test.YtnfidloiediflabDoorRChk
import Derived.Test.YtnfidloiediflabDoorUDots
import Derived.Test.YtnfidloiediflabDoorULead2
import Derived.Lib.IndexAny
namespace Go.Proofs.YtnfidloiediflabDoor
open Go.RowKit

def upL : List UInt8 := [65, 66, 67, 68, 69, 70, 71, 72, 73, 74, 75, 76, 77, 78, 79, 80, 81, 82, 83, 84, 85, 86, 87, 88, 89, 90]
theorem upL_is (c : UInt8) : upL.contains c = isUpB c := by
  have : ∀ n : Fin 256, upL.contains (UInt8.ofNat n.val) = isUpB (UInt8.ofNat n.val) := by decide +kernel
  have h := this ⟨c.toNat, c.toNat_lt⟩
  simp only [UInt8.ofNat_toNat] at h
  exact h
theorem betw_up (l : List UInt8) : betw 33 126 (hostN ++ upL) l = (betw 33 126 hostN l && l.all fun c => !isUpB c) := by
  induction l with
  | nil => rfl
  | cons c l ih =>
    rw [betw_cons, betw_cons, ih, List.all_cons]
    have : inB 33 126 (hostN ++ upL) c = (inB 33 126 hostN c && !isUpB c) := by
      unfold inB
      rw [← upL_is]
      simp [Bool.and_assoc]
    rw [this]
    cases inB 33 126 hostN c <;> cases isUpB c <;> cases betw 33 126 hostN l <;> simp
theorem lst_same : ∀ {xs ys : List ByteArray}, lst xs = lst ys → xs = ys
  | [], [], _ => rfl
  | [], _ :: _, h => by cases h
  | _ :: _, [], h => by cases h
  | x :: xs, y :: ys, h => by
    simp only [lst, List.map_cons, List.cons.injEq] at h
    rw [ba_inj h.1, lst_same (xs := xs) (ys := ys) h.2]
theorem first_part (l : List UInt8) : ∃ a r, partsP l = a :: r ∧ a.contains 58 = !(cutC l).isNone := by
  refine ⟨(splitP l).1, (splitP l).2, rfl, ?_⟩
  induction l with
  | nil => rfl
  | cons c l ih =>
    by_cases h1 : c = 47
    · subst h1; rfl
    · unfold splitP cutC
      rw [if_neg h1]
      by_cases h2 : c = 58
      · subst h2; simp
      · have h3 : (58 == c) = false := by rw [beq_eq_false_iff_ne]; exact fun h => h2 h.symm
        rw [if_neg h2, if_neg h1]
        show (c :: (splitP l).1).contains 58 = _
        rw [List.contains_cons, h3, Bool.false_or, ih]
        cases cutC l <;> rfl
theorem preSS_has (l : List UInt8) : Lib.hasPrefix l [47, 47] = preSS l := by
  rcases l with _ | ⟨a, _ | ⟨b, l⟩⟩
  · rfl
  · simp [Lib.hasPrefix, List.isPrefixOf, preSS]
  · simp [Lib.hasPrefix, List.isPrefixOf, preSS, Bool.beq_comm]
/-- The reference's CheckURL. -/
theorem rchk_any (u : UV) (hs : u.short maxLen) (w : World) (hM : MaxAt w) :
    Calls Tryd.prog 13 #[u.v] w fun e w' => e = .returned (.int .i64 (checkU u.l : Nat)) ∧ Below w.heap.size w w' := by
  obtain ⟨T, hT⟩ := mk_text u
  have E : ∀ s : ByteArray, s.data.toList.length = s.size := fun s => (Lib.size_eq s).symm
  obtain ⟨a, r, hp1, hp2⟩ := first_part u.pth.data.toList
  refine rchk_walk u.sch u.hst u.pth u.qry u.frg T ⟨a.toArray⟩ u.hh u.hq u.hf (u.l.sch.isEmpty || schemeS u.l.sch) (betw 33 126 (hostN ++ upL) u.l.hst) (betw 33 126 pathN u.l.pth) (betw 33 126 fragN u.l.qry) (betw 33 126 fragN u.l.frg)
    ((!u.l.hst.isEmpty && !u.hh) || (!u.l.qry.isEmpty && !u.hq) || (!u.l.frg.isEmpty && !u.hf)) (preS u.l.pth) (preSS u.l.pth) (a.contains 58) u.l.hst.isEmpty u.l.qry.isEmpty u.l.frg.isEmpty u.l.pth.isEmpty u.l.sch.isEmpty r.length hs w _ ?_ ?_
  · intro h
    refine long_yes _ ?_
    show 120 < u.sch.data.toList.length ∨ 120 < u.hst.data.toList.length ∨ 120 < u.pth.data.toList.length ∨ 120 < u.qry.data.toList.length ∨ 120 < u.frg.data.toList.length
    rw [E, E, E, E, E]; exact h
  · intro h
    have h120 : u.short 120 := h
    obtain ⟨s0, s1, s2, s3, s4⟩ := h
    refine ⟨?_, ?_, rfl, rfl, rfl, rfl, rfl, rfl, ?_, ?_, ?_, ?_, ?_, ?_, ?_, ?_, ?_, ?_⟩
    · rw [long_no _ (by
        show u.sch.data.toList.length ≤ 120 ∧ u.hst.data.toList.length ≤ 120 ∧ u.pth.data.toList.length ≤ 120 ∧ u.qry.data.toList.length ≤ 120 ∧ u.frg.data.toList.length ≤ 120
        rw [E, E, E, E, E]; exact h120), ← hT, E, frmU_eq, betw_up, hp2]
      have hw : wrtU u.l = ((u.l.sch.isEmpty || schemeS u.l.sch) && ((betw 33 126 hostN u.l.hst && u.l.hst.all fun c => !isUpB c) && (betw 33 126 pathN u.l.pth && (betw 33 126 fragN u.l.qry && betw 33 126 fragN u.l.frg)))) := by
        unfold wrtU
        generalize (u.l.sch.isEmpty || schemeS u.l.sch) = a1
        generalize betw 33 126 hostN u.l.hst = a2
        generalize (u.l.hst.all fun c => !isUpB c) = a3
        generalize betw 33 126 pathN u.l.pth = a4
        generalize betw 33 126 fragN u.l.qry = a5
        generalize betw 33 126 fragN u.l.frg = a6
        cases a1 <;> cases a2 <;> cases a3 <;> cases a4 <;> cases a5 <;> cases a6 <;> rfl
      rw [hw]
      congr 1
      show _ = (if _ then 4 else if (if u.hh = true then _ else _) = true then 4 else _)
      unfold frmB
      show (if (if (!u.hh && !u.l.hst.isEmpty || !u.hq && !u.l.qry.isEmpty || !u.hf && !u.l.frg.isEmpty) = true then false else if u.hh = true then u.l.pth.isEmpty || preS u.l.pth else if (!u.hh && preSS u.l.pth) = true then false else !u.l.sch.isEmpty || (cutC u.l.pth).isNone) = false then 4 else _) = _
      generalize u.l.hst.isEmpty = e1
      generalize u.l.qry.isEmpty = e2
      generalize u.l.frg.isEmpty = e3
      generalize u.l.pth.isEmpty = e4
      generalize u.l.sch.isEmpty = e5
      generalize preS u.l.pth = e6
      generalize preSS u.l.pth = e7
      show (if _ then 4 else _) = (if _ then 4 else if (if u.hh = true then _ else e7 || (e5 && !(cutC u.l.pth).isNone)) = true then 4 else _)
      generalize (cutC u.l.pth).isNone = e8
      cases u.hh <;> cases e1 <;> cases u.hq <;> cases e2 <;> cases u.hf <;> cases e3 <;> cases e4 <;> cases e5 <;> cases e6 <;> cases e7 <;> cases e8 <;> rfl
    · rw [Lib.size_eq, hT]; exact text_short u h120
    · exact fun W => rscheme_any u.sch W (by omega)
    · exact fun W => between_any u.hst _ _ rfl 33 126 33 126 rfl rfl W (by omega)
    · exact fun W => between_any u.pth _ _ rfl 33 126 33 126 rfl rfl W (by omega)
    · exact fun W => between_any u.qry _ _ rfl 33 126 33 126 rfl rfl W (by omega)
    · exact fun W => between_any u.frg _ _ rfl 33 126 33 126 rfl rfl W (by omega)
    · exact fun W => pre_one u.pth W
    · intro W
      refine (Tryd.strings_HasPrefix u.pth ⟨#[47, 47]⟩ W).mono ?_
      rintro e w' ⟨rfl, rfl⟩
      refine ⟨?_, rfl⟩
      rw [show Lib.hasPrefix u.pth.data.toList (ByteArray.mk #[47, 47]).data.toList = preSS u.l.pth from preSS_has _]
    · intro W hW
      obtain ⟨xs, hx1, _, _, hC⟩ := split47_any u.pth W (hM.below hW) (by omega)
      rw [hp1] at hx1
      obtain ⟨x0, xr, rfl⟩ : ∃ x0 xr, xs = x0 :: xr := by
        cases xs with
        | nil => cases hx1
        | cons a b => exact ⟨a, b, rfl⟩
      simp only [lst, List.map_cons, List.cons.injEq] at hx1
      obtain ⟨k1, k2⟩ := hx1
      have hl : xr.length = r.length := by rw [← k2, List.length_map]
      have hx0 : x0 = ⟨a.toArray⟩ := ba_inj k1
      refine hC.mono ?_
      rintro e w' ⟨rfl, rfl⟩
      rw [List.length_cons, hl, hx0]
      have hblk : (W.alloc (.cells ((⟨a.toArray⟩ :: xr : List ByteArray).map Value.string).toArray 9)).heap[W.heap.size]? = some (.cells ((⟨a.toArray⟩ :: xr : List ByteArray).map Value.string).toArray 9) := by
        show (W.heap.push _)[W.heap.size]? = _
        simp
      refine ⟨rfl, (Below.refl _ _).alloc (Nat.le_refl _) _, ?_, ?_⟩
      · exact blk_cell hblk 0
      · exact blk_frozen hblk 0
    · intro W
      refine (Tryd.strings_Contains_one ⟨a.toArray⟩ 58 W).mono ?_
      rintro e w' ⟨rfl, rfl⟩
      exact ⟨by rw [Lib.contains_iff_indexByte], rfl⟩
    · exact fun W => rtext_any u h120 T hT W
end Go.Proofs.YtnfidloiediflabDoor
