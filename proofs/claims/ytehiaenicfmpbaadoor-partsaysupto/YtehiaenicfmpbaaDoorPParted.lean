/- The law's closed fact: parted answers true; nothing that was there is changed. -/
import Derived.Test.YtehiaenicfmpbaaDoorPSmall
import Derived.Test.YtehiaenicfmpbaaDoorEqI
namespace Go.Proofs.YtehiaenicfmpbaaDoor
open Go.RowKit

def lone : PT := ⟨⟨#[109, 117, 108, 116, 105, 112, 97, 114, 116, 47, 120]⟩, ⟨#[]⟩, ⟨#[]⟩, ⟨#[]⟩, 0, [], []⟩
set_option maxRecDepth 100000 in
theorem small_places : placesP smallT = (0, [(smallT, -1), (partA, 0), (partB, 0)]) := by kernel_rfl
set_option maxRecDepth 100000 in
theorem lone_places : (placesP lone).1 = 4 := by kernel_rfl
theorem type_ab : typeS [97, 47, 98] = true := by kernel_rfl
theorem type_aB : typeS [97, 47, 66] = false := by kernel_rfl

theorem IRow.row {w : World} {q : Option Addr} {l : List Int} (h : IRow w q l) : Row .i64 w q l.length l := by
  refine ⟨rfl, fun h0 => ?_⟩
  obtain ⟨b, o, e, hc⟩ := h (fun e => h0 (by rw [e]; rfl))
  exact ⟨b, o, e, hc⟩

theorem lone_held (w : World) : PHeld w 0 lone none 0 none 0 := ⟨lens _ (by decide), ⟨by decide, by decide, fun _ => rfl⟩, fun h => absurd rfl h, ⟨by decide, by decide, fun _ => rfl⟩, rfl⟩

set_option maxHeartbeats 2000000 in
set_option maxRecDepth 100000 in
theorem parted_any (w : World) : Calls Tryd.prog 56 #[] w fun e w' => e = .returned (.bool true) ∧ Below w.heap.size w w' := by
  have CA : Hid (∀ g w', PHeld w' 1 smallT none 0 (some ⟨g, 0, none⟩) 2 → Calls Tryd.prog 53 #[.agg #[.string smallT.ty, .string smallT.cs, .string smallT.id, .string smallT.loc, .int .i64 smallT.how, .slice none smallT.body.length 0, .slice (some ⟨g, 0, none⟩) smallT.kids.length 2]] w' fun e w'' => AllPost w' (0, [(smallT, -1), (partA, 0), (partB, 0)]) e w'') := fun g w' h => by
    have := all_any smallT none 0 (some ⟨g, 0, none⟩) 2 1 w' h
    rwa [small_places] at this
  have CW : Hid (∀ g w', PHeld w' 1 smallT none 0 (some ⟨g, 0, none⟩) 2 → Calls Tryd.prog 54 #[.agg #[.string smallT.ty, .string smallT.cs, .string smallT.id, .string smallT.loc, .int .i64 smallT.how, .slice none smallT.body.length 0, .slice (some ⟨g, 0, none⟩) smallT.kids.length 2]] w' fun e w'' => WithinPost w' (0, [(smallT, -1), (partA, 0), (partB, 0)]) e w'') := fun g w' h => by
    have := within_any smallT none 0 (some ⟨g, 0, none⟩) 2 1 w' h
    rwa [small_places] at this
  have CC : Hid (∀ w', Calls Tryd.prog 57 #[.agg #[.string ⟨#[109, 117, 108, 116, 105, 112, 97, 114, 116, 47, 120]⟩, .string ⟨#[]⟩, .string ⟨#[]⟩, .string ⟨#[]⟩, .int .i64 0, .slice none 0 0, .slice none 0 0]] w' fun e w'' => e = .returned (.int .i64 4) ∧ Below w'.heap.size w' w'') := fun w' => by
    have := pcheck_any lone none 0 none 0 0 w' (lone_held w')
    rw [lone_places] at this
    exact this
  have C1 : Hid (∀ w', Calls Tryd.prog 60 #[.string ⟨#[97, 47, 98]⟩] w' fun e w'' => e = .returned (.bool true) ∧ Below w'.heap.size w' w'') := fun w' => by
    have := ptype_any ⟨#[97, 47, 98]⟩ w' (by decide)
    rw [show typeS (ByteArray.mk #[97, 47, 98]).data.toList = true from type_ab] at this
    exact this
  have C2 : Hid (∀ w', Calls Tryd.prog 60 #[.string ⟨#[97, 47, 66]⟩] w' fun e w'' => e = .returned (.bool false) ∧ Below w'.heap.size w' w'') := fun w' => by
    have := ptype_any ⟨#[97, 47, 66]⟩ w' (by decide)
    rw [show typeS (ByteArray.mk #[97, 47, 66]).data.toList = false from type_aB] at this
    exact this
  go_enter Tryd.func56, Tryd.ntmps56
  go_wp2_with fail
  refine (psmall_any _).mono ?_
  rintro e w1 ⟨g1, rfl, hh1, hb1⟩
  go_wp2_with fail
  refine (CA.out g1 w1 hh1).mono ?_
  rintro e w2 ⟨hb2, -, hok⟩
  obtain ⟨q2, c2, rfl, hc2, -, -, hk2⟩ := hok rfl
  have hbel2 := hb1.trans (hb2.mono hb1.size)
  clear hok hb1 hb2 hh1
  go_wp2_with fail
  refine (psmall_any _).mono ?_
  rintro e w3 ⟨g3, rfl, hh3, hb3⟩
  have hk3 := KAt.below hb3 _ _ _ hk2
  have hbel3 := hbel2.trans (hb3.mono hbel2.size)
  clear hb3 hk2 hbel2
  go_wp2_with fail
  refine (CW.out g3 w3 hh3).mono ?_
  rintro e w4 ⟨hb4, -, hok⟩
  obtain ⟨q4, c4, rfl, hc4, -, -, hi4⟩ := hok rfl
  have hk4 := KAt.below hb4 _ _ _ hk3
  have hbel4 := hbel3.trans (hb4.mono hbel3.size)
  clear hok hb4 hk3 hbel3 hh3
  obtain ⟨bl, ol, rfl, hkk⟩ := hk4.each (by simp)
  obtain ⟨pb, cb, pk, ck, hC, hH⟩ := hkk 0 (by simp)
  have c6 : w4.cell? ⟨bl, ol + 6, none⟩ = some (.slice pk 0 ck) := by have := hC.2.2.2.2.2.2; rw [Nat.zero_mul, Nat.add_zero] at this; exact this
  have hr4 : Row .i64 w4 q4 3 [-1, 0, 0] := hi4.row
  have CE : Hid (∀ w', Below w4.heap.size w4 w' → Row .i64 w' q4 3 [-1, 0, 0]) := fun w' hb => (hi4.below hb).row
  clear hkk hC hH hr4 hi4 hk4 CA CW
  simp only [List.length_cons, List.length_nil] at *
  go_wp2_with fail
  refine (equalInts q4 (some ⟨w4.heap.size, 0, none⟩) 3 3 c4 3 [-1, 0, 0] [-1, 0, 0] _ (by decide) (by decide) (CE.out _ ((Below.refl _ _).alloc (Nat.le_refl _) _)) ⟨rfl, fun _ => ⟨w4.heap.size, 0, rfl, fun i hi => ?_⟩⟩).mono ?_
  · match i, hi with
    | 0, _ => simp
    | 1, _ => simp
    | 2, _ => simp
  rintro e w5 ⟨rfl, nq, rfl⟩
  have hbel5 : Below w.heap.size w ((w4.alloc (.cells #[.int .i64 (-1), .int .i64 0, .int .i64 0] 3)).drewN nq) := below_drewN' (hbel4.alloc hbel4.size _) nq
  clear CE
  go_wp2_with fail
  refine (CC.out _).mono ?_
  rintro e w6 ⟨rfl, hb6⟩
  have hbel6 := hbel5.trans (hb6.mono hbel5.size)
  clear hb6 hbel5
  go_wp2_with fail
  refine (C1.out _).mono ?_
  rintro e w7 ⟨rfl, hb7⟩
  have hbel7 := hbel6.trans (hb7.mono hbel6.size)
  clear hb7 hbel6
  go_wp2_with fail
  refine (C2.out _).mono ?_
  rintro e w8 ⟨rfl, hb8⟩
  have hbel8 := hbel7.trans (hb8.mono hbel7.size)
  clear hb8 hbel7
  go_wp2_with fail
  go_ret
  exact ⟨rfl, hbel8⟩
end Go.Proofs.YtehiaenicfmpbaaDoor
