
import Derived.Test.YtbbfcbodhmeanaaGreatDoorXbundlemore29
import Derived.Lib.LaidCase
import Derived.Lib.LaidU8T
import Derived.Lib.LaidTab
import Derived.LaidByTextLater
import Derived.HandedShaped
import Derived.Shelf.Vars
import Derived.Lay
import Derived.SevenTiedAt
import Derived.Stop.Joined
import Derived.ShutString
import Derived.ChangeOld
namespace Go.Proofs.YtbbfcbodhmeanaaGreatDoor
open Go.RowKit
set_option maxHeartbeats 8000000 in
set_option maxRecDepth 100000 in
theorem bmore_any (p : PT) (pb : Option Addr) (cb : Nat) (pk : Option Addr) (ck F : Nat) (how : Int) (w : World) (hE : LEnv w) (hH : PHeld w F p pb cb pk ck) :
  Calls Tryz.prog 4 #[.agg #[.string p.ty, .string p.cs, .string p.id, .string p.loc, .int .i64 p.how, .slice pb p.body.length cb, .slice pk p.kids.length ck], .int .i64 how] w fun e w' => e = .returned (.bool true) ∧ Below w.heap.size w w' := by
 obtain ⟨W1, hW1⟩ : ∃ W, W = w.alloc (.cells #[.string p.ty, .string p.cs, .string p.id, .string p.loc, .int .i64 p.how, .slice pb p.body.length cb, .slice pk p.kids.length ck] 25) := ⟨_, rfl⟩
 have hb1 : Below w.heap.size w W1 := by rw [hW1]; exact (Below.refl _ _).alloc (Nat.le_refl _) _
 have kW : W1.heap[w.heap.size]? = some (.cells #[.string p.ty, .string p.cs, .string p.id, .string p.loc, .int .i64 p.how, .slice pb p.body.length cb, .slice pk p.kids.length ck] 25) := by rw [hW1]; exact blk_new _ _
 have hlow : ∀ W, Below W1.heap.size W1 W → Below w.heap.size w W := fun W hW => hb1.trans (hW.mono hb1.size)
 have HZ : Hid (∀ W, Below W1.heap.size W1 W → W.cell? ⟨w.heap.size, 0, none⟩ = some (.string p.ty) ∧ W.cell? ⟨w.heap.size, 1, none⟩ = some (.string p.cs) ∧ W.cell? ⟨w.heap.size, 2, none⟩ = some (.string p.id) ∧ W.cell? ⟨w.heap.size, 3, none⟩ = some (.string p.loc) ∧ W.cell? ⟨w.heap.size, 4, none⟩ = some (.int .i64 p.how) ∧ W.cell? ⟨w.heap.size, 5, none⟩ = some (.slice pb p.body.length cb) ∧ W.cell? ⟨w.heap.size, 6, none⟩ = some (.slice pk p.kids.length ck)) := fun W h => ⟨(blk_c (blk_on kW h) 0).trans rfl, (blk_c (blk_on kW h) 1).trans rfl, (blk_c (blk_on kW h) 2).trans rfl, (blk_c (blk_on kW h) 3).trans rfl, (blk_c (blk_on kW h) 4).trans rfl, (blk_c (blk_on kW h) 5).trans rfl, (blk_c (blk_on kW h) 6).trans rfl⟩
 have HLOW : Hid (∀ W, Below W1.heap.size W1 W → Below w.heap.size w W) := hlow
 have HE : Hid (LEnv w) := hE
 have CL : Hid (∀ W, Below W1.heap.size W1 W → Calls Tryz.prog 11 #[] W fun e w' => e = .returned (.bool true) ∧ Below W1.heap.size W1 w' ∧ Below W.heap.size W w') := fun W hW => (ledc_any W (hE.below (hlow W hW))).mono fun e w' h => ⟨h.1, hW.trans (h.2.mono hW.size), h.2⟩
 have CG0 := fun W (hW : Below W1.heap.size W1 W) => bgoals_any p pb cb pk ck F W (hE.below (hlow W hW)) (hH.below (hlow W hW))
 have HW1 : Hid (W1 = w.alloc (.cells #[.string p.ty, .string p.cs, .string p.id, .string p.loc, .int .i64 p.how, .slice pb p.body.length cb, .slice pk p.kids.length ck] 25)) := hW1
 have h00 : Below W1.heap.size W1 W1 := Below.refl _ _
 have hbad : ∀ E : Nat, E ≠ 0 → Hid (∀ W, Below W1.heap.size W1 W → Calls Tryz.prog 9 #[.agg #[.string p.ty, .string p.cs, .string p.id, .string p.loc, .int .i64 p.how, .slice pb p.body.length cb, .slice pk p.kids.length ck]] W fun e w' => e = .returned (.tuple #[.slice none 0 0, .int .i64 (E : Int)]) ∧ Below W1.heap.size W1 w') → Calls Tryz.prog 4 #[.agg #[.string p.ty, .string p.cs, .string p.id, .string p.loc, .int .i64 p.how, .slice pb p.body.length cb, .slice pk p.kids.length ck], .int .i64 how] w fun e w' => e = .returned (.bool true) ∧ Below w.heap.size w w' := by
  intro E hE0 CG
  have hz : ((E : Int) == 0) = false := by rw [beq_eq_false_iff_ne]; omega
  have hz2 : ¬ (E : Int) = 0 := by omega
  generalize (E : Int) = BAD at *
  clear hE hH hb1 kW hlow CG0 hW1 hE0
  generalize p.body.length = nb at *
  generalize p.kids.length = nk at *
  go_enter Tryz.func4, Tryz.ntmps4
  go_wp2_with fail
  rw [← HW1.out]
  refine (CG.out _ h00).mono ?_
  rintro e w2 ⟨rfl, hb2⟩
  go_wp2_with fail
  refine (CL.out _ hb2).mono ?_
  rintro e w3 ⟨rfl, hb3, _⟩
  go_wp2_with fail
  refine (CL.out _ hb3).mono ?_
  rintro e w4 ⟨rfl, hb4, _⟩
  have HB : Hid (Below w.heap.size w w4) := HLOW.out _ hb4
  clear hb2 hb3 hb4
  go_wp2_with fail
  go_ret
  exact ⟨rfl, HB.out⟩
 by_cases hok : (placesP p).1 = 0
 ·cases hgo : goalsGo lowT ((placesP p).2.map fun x => x.1.alone) (whereP (placesP p).2) 0 ((placesP p).2.map fun x => x.1.alone) [] with
  | none => exact hbad 2 (by decide) (fun W hW => (CG0 W hW).mono fun e w' h => ⟨(goals_none h hok hgo).1, hW.trans (h.1.mono hW.size)⟩)
  | some l =>
   have hl7 : l.length ≤ 720 := by
    have h1 := goals_le lowT _ _ _ 0 [] l hgo
    have h2 := placesP_few p
    rw [List.length_map] at h1
    simp at h1
    omega
   have CG : Hid (∀ W, Below W1.heap.size W1 W → Calls Tryz.prog 9 #[.agg #[.string p.ty, .string p.cs, .string p.id, .string p.loc, .int .i64 p.how, .slice pb p.body.length cb, .slice pk p.kids.length ck]] W fun e w' => ∃ q c, e = .returned (.tuple #[.slice q l.length c, .int .i64 0]) ∧ Below W1.heap.size W1 w' ∧ G6 w' q l.length l) := fun W hW => (CG0 W hW).mono fun e w' h => by
    obtain ⟨q, c, he, hb, hg⟩ := goals_rows h hok hgo
    exact ⟨q, c, he, hW.trans (hb.mono hW.size), hg⟩
   clear hbad CG0
   cases hm : manyS p.ty.data.toList with
   | false =>
    have CM : Hid (∀ W, Calls Tryz.prog 18 #[.string p.ty] W fun e w' => e = .returned (.bool false) ∧ w' = W) := fun W => by have := pmany_any p.ty W; rw [hm] at this; exact this
    clear hE hH hb1 kW hlow hW1 hm hok hgo
    generalize p.body.length = nb at *
    generalize p.kids.length = nk at *
    go_enter Tryz.func4, Tryz.ntmps4
    go_wp2_with fail
    rw [← HW1.out]
    refine (CG.out _ h00).mono ?_
    rintro e w2 ⟨q2, c2, rfl, hb2, _⟩
    go_wp2_with fail
    refine (CL.out _ hb2).mono ?_
    rintro e w3 ⟨rfl, hb3, _⟩
    obtain ⟨z0, z1, z2, z3, z4, z5, z6⟩ := HZ.out w3 hb3
    go_wp2_with fail
    refine (CM.out _).mono ?_
    rintro e w' ⟨rfl, hw'⟩
    have hw'' := hw'.symm
    subst hw''
    go_wp2_with fail
    refine (CL.out _ hb3).mono ?_
    rintro e w4 ⟨rfl, hb4, _⟩
    have HB : Hid (Below w.heap.size w w4) := HLOW.out _ hb4
    clear hb2 hb3 hb4
    go_wp2_with fail
    go_ret
    exact ⟨rfl, HB.out⟩
   | true => as_aux_lemma =>
    have CM : Hid (∀ W, Calls Tryz.prog 18 #[.string p.ty] W fun e w' => e = .returned (.bool true) ∧ w' = W) := fun W => by have := pmany_any p.ty W; rw [hm] at this; exact this
    have CM2 : Hid (∀ (s : ByteArray) W, Calls Tryz.prog 18 #[.string s] W fun e w' => e = .returned (.bool (manyS s.data.toList)) ∧ w' = W) := fun s W => pmany_any s W
    obtain ⟨h, h0, h2, hat⟩ := at3 how
    have CA : Hid (∀ W, Calls Tryz.prog 20 #[.int .i64 how, .int .i64 3] W fun e w' => e = .returned (.int .i64 h) ∧ w' = W) := hat
    obtain ⟨hlev, h12, _⟩ := places_flat p hok
    have hch := flat_chk p hok
    have hkl : p.kids.length ≤ 12 := by have := flat_kids 4 p hlev p (by rw [flatP_succ]; simp); omega
    have CO : Hid (∀ W, Below W1.heap.size W1 W → Calls Tryz.prog 19 #[.agg #[.string p.ty, .string p.cs, .string p.id, .string p.loc, .int .i64 p.how, .slice pb p.body.length cb, .slice pk p.kids.length ck]] W fun e w' => OwnPost 4 p W e w') := fun W hW => own_any 4 F p pb cb pk ck W hlev (fun x hx => ⟨by have := flat_kids 4 p hlev x hx; omega, by have := chk_body (hch x hx); omega⟩) (hH.below (hlow W hW))
    have HPL : Hid (PLen p) := hH.1
    have HPM : Hid ((placesP (moreT p h)).1 = 0 ∨ (placesP (moreT p h)).1 = 2) := places_more p h h0 h2 hm hok
    have HGE : Hid ((placesP (moreT p h)).1 = 0 → goalsGo lowT ((placesP (moreT p h)).2.map fun x => x.1.alone) (whereP (placesP (moreT p h)).2) 0 ((placesP (moreT p h)).2.map fun x => x.1.alone) [] = some l) := fun h3 => by rw [goals_even p h hok h3]; exact hgo
    have HH : Hid (0 ≤ h ∧ h ≤ 2) := ⟨h0, h2⟩
    obtain ⟨nk, hnk⟩ : ∃ n, p.kids.length = n := ⟨_, rfl⟩
    obtain ⟨nb, hnb⟩ : ∃ n, p.body.length = n := ⟨_, rfl⟩
    have HNK : Hid (p.kids.length = nk) := hnk
    have HNB : Hid (p.body.length = nb) := hnb
    rw [hnk] at HZ CG CO HW1 hkl
    rw [hnb] at HZ CG CO HW1
    rw [hnk, hnb]
    clear hE hH hb1 kW hlow hW1 hm hok hgo hat hlev h12 hch hnk hnb h0 h2
    go_enter Tryz.func4, Tryz.ntmps4
    go_wp2_with fail
    rw [← HW1.out]
    refine (CG.out _ h00).mono ?_
    rintro e w2 ⟨q2, c2, rfl, hb2, g2⟩
    go_wp2_with fail
    refine (CL.out _ hb2).mono ?_
    rintro e w3 ⟨rfl, hb3, hr3⟩
    have G3 : Hid (G6 w3 q2 l.length l) := g2.below hr3
    obtain ⟨z0, z1, z2, z3, z4, z5, z6⟩ := HZ.out w3 hb3
    clear hr3 g2 hb2 CG CL
    go_wp2_with fail
    refine (CM.out _).mono ?_
    rintro e w' ⟨rfl, hw'⟩
    have hw'' := hw'.symm
    subst hw''
    go_wp2_with fail
    refine (CO.out _ hb3).mono ?_
    rintro e w4 ⟨pb4, cb4, pk4, ck4, Z, rfl, hb4, hZ, ho4, hF4, hI4, hr4, hc4⟩
    rw [HNK.out] at ho4 hF4 hI4 ⊢
    rw [HNB.out] at hc4 ⊢
    have HLO3 : Hid (Below w.heap.size w w3) := HLOW.out _ hb3
    have HZK : Hid (Z.map (·.1) = p.kids) := hZ
    have hZl : Z.length = nk := by have := congrArg List.length hZ; rw [List.length_map, HNK.out] at this; exact this
    have HZL : Hid (Z.length = nk) := hZl
    have HO4 : Hid (w4.ownsRow w3.heap.size 25 7 (.slice pk4 nk ck4) nk (pzv Z)) := ho4
    have HF4 : Hid (∀ z ∈ Z, PFar w4 (fun b => w3.heap.size ≤ b ∧ (Value.slice pk4 nk ck4).ownBlock ≠ some b ∧ b < w4.heap.size) 4 z.1 z.2.1.1 z.2.1.2 z.2.2.1 z.2.2.2) := hF4
    have HI4 : Hid (InB (fun b => w3.heap.size ≤ b ∧ (Value.slice pk4 nk ck4).ownBlock ≠ some b ∧ b < w4.heap.size) pb4) := hI4
    have HR4 : Hid (BRow w4 pb4 p.body) := hr4
    have HC4 : Hid (nb ≤ cb4 ∧ cb4 ≤ maxLen ∧ (pb4 = none → cb4 = 0)) := hc4
    have HB4 : Hid (Below w3.heap.size w3 w4) := hb4
    have hs4 := hb4.size
    clear hZ ho4 hF4 hI4 hr4 hc4 hb4 hb3 z0 z1 z2 z3 z4 z5 z6 CO HZ HW1 HLOW hZl
    obtain ⟨Qb, hQb⟩ : ∃ q, w4.heap.size = q := ⟨_, rfl⟩
    obtain ⟨W5, hW5⟩ : ∃ W, W = w4.alloc (.cells #[.string p.ty, .string p.cs, .string p.id, .string p.loc, .int .i64 p.how, .slice pb4 nb cb4, .slice pk4 nk ck4] 25) := ⟨_, rfl⟩
    have kQ5 : W5.heap[Qb]? = some (.cells #[.string p.ty, .string p.cs, .string p.id, .string p.loc, .int .i64 p.how, .slice pb4 nb cb4, .slice pk4 nk ck4] 25) := by rw [hW5, ← hQb]; exact blk_new _ _
    have hb5 : Below w4.heap.size w4 W5 := by rw [hW5]; exact (Below.refl _ _).alloc (Nat.le_refl _) _
    have hs5 : W5.heap.size = Qb + 1 := by rw [hW5, ← hQb]; simp
    have HW5 : Hid (W5 = w4.alloc (.cells #[.string p.ty, .string p.cs, .string p.id, .string p.loc, .int .i64 p.how, .slice pb4 nb cb4, .slice pk4 nk ck4] 25)) := hW5
    have HQB : Hid (w4.heap.size = Qb) := hQb
    have HO5 : Hid (W5.ownsRow w3.heap.size 25 7 (.slice pk4 nk ck4) nk (pzv Z)) := ownsRow_below HO4.out hb5
    clear hW5
    go_upto_region 5 with fail
    rw [← HW5.out]
    clear hQb
    have HS5 : Hid (W5.heap.size = Qb + 1) := hs5
    have HKQ : Hid (W5.heap[Qb]? = some (.cells #[.string p.ty, .string p.cs, .string p.id, .string p.loc, .int .i64 p.how, .slice pb4 nb cb4, .slice pk4 nk ck4] 25)) := kQ5
    have HB5 : Hid (Below w4.heap.size w4 W5) := hb5
    have h3Q : w3.heap.size ≤ Qb := by have := HQB.out; omega
    have HOQ : Hid ((Value.slice pk4 nk ck4).ownBlock ≠ some Qb) := fun e => by have h1 := (HO4.out.lt Qb e).2; have h2 := HQB.out; omega
    clear hs5 HW5 HO4 kQ5 hb5 h00
    refine lbR5 W5 Qb w3.heap.size nk ck4 pk4 _ _ _ _ _ _ (pzv Z) HKQ.out HO5.out (by have := HS5.out; omega) (by omega) HOQ.out _ _ _ _ _ _ _ _ _ _ _ _ _ _ _ _ _ _ _ _ _ _ _ _ _ _ _ _ _ _ _ _ _ _ _ _ _ _ _ _ _ _ _ _ _ _ _ _ _ _ _ _ _ _ _ _ _ _ _ _ _ _ _ _ _ _ _ _ _ _ _ _ _ ?_
    intro q31 q32 q33 q34 q35 q36 g cc w6 hown6 hg6 hlies hlt6
    obtain ⟨Z2, hZ2⟩ : ∃ Z2, Z2 = Z ++ [(cssT 0, ((none : Option Addr), 0), ((none : Option Addr), 0))] := ⟨_, rfl⟩
    have hZv : pzv Z2 = pzv Z ++ [.string ⟨#[116, 101, 120, 116, 47, 99, 115, 115]⟩, .string ⟨#[]⟩, .string ⟨#[]⟩, .string ⟨#[]⟩, .int .i64 0, .slice none 0 0, .slice none 0 0] := by rw [hZ2, pzv_append]; rfl
    have HZ2m : Hid (Z2.map (·.1) = p.kids ++ [cssT 0]) := by unfold Hid; rw [hZ2, List.map_append, HZK.out]; rfl
    have HZ2l : Hid (nk + 1 = Z2.length) := by unfold Hid; rw [hZ2, List.length_append, HZL.out]; rfl
    have hgQ : Qb ≠ g := by
     rcases hlies with e | e
     ·exact fun h => HOQ.out (by rw [h]; exact e)
     ·have := HS5.out; omega
    have hg4 : ∀ b, b < w4.heap.size → (Value.slice pk4 nk ck4).ownBlock ≠ some b → b ≠ g ∧ w6.heap[b]? = w4.heap[b]? := fun b hb hne => by
     refine ⟨?_, ?_⟩
     ·rcases hlies with e | e
      ·exact fun h => hne (by rw [h]; exact e)
      ·have := HS5.out; have := HQB.out; omega
     ·rw [hg6.block b (by simp; have := HS5.out; have := HQB.out; omega) (fun e => hne e.symm), Below.heap_alloc _ _ _ (by have := HS5.out; have := HQB.out; omega), HB5.out.block b hb]
    have hs6 : Qb + 2 ≤ w6.heap.size := by have h1 := hg6.size; have h2 := HS5.out; simp at h1; omega
    have kq6 : w6.heap[Qb]? = some (.cells #[.string p.ty, .string p.cs, .string p.id, .string p.loc, .int .i64 p.how, .slice pb4 nb cb4, .slice pk4 nk ck4] 25) := by
     rw [hg6.block Qb (by simp; have := HS5.out; omega) (fun e => HOQ.out e.symm), Below.heap_alloc _ _ _ (by have := HS5.out; omega)]
     exact HKQ.out
    have hb6 : Below w3.heap.size w3 w6 := by
     have h5 : Below w3.heap.size w3 W5 := HB4.out.trans (HB5.out.mono HB4.out.size)
     exact (h5.alloc h5.size _).grown hg6 (by have := h5.size; simp; omega) (fun j hj => (HO5.out.lt j hj).1)
    obtain ⟨V, hV⟩ : ∃ W, W = w6.setCell ⟨Qb, 6, none⟩ (.slice (some ⟨g, 0, none⟩) (nk + 1) cc) := ⟨_, rfl⟩
    have hVs : V.heap.size = w6.heap.size := by rw [hV]; simp [World.setCell]
    have hVb : ∀ b, b ≠ Qb → V.heap[b]? = w6.heap[b]? := fun b hb => by rw [hV]; exact Below.heap_setCell _ _ _ _ hb
    have HMA : Hid (MoreAt w3 Qb g (nk + 1) cc #[.string p.ty, .string p.cs, .string p.id, .string p.loc, .int .i64 p.how, .slice pb4 nb cb4, .slice (some ⟨g, 0, none⟩) (nk + 1) cc] pb4 p.body h Z2 0 V) := by
     refine ⟨by rw [hV]; exact Below.setCell (p := ⟨Qb, 6, none⟩) hb6 h3Q _, ?_, fun z hz => ?_, by rw [hV]; exact (set_blk kq6 6 _).trans rfl, ?_, fun a ha => ?_⟩
     ·rw [hows_zero, hZv, hV]
      have hQg : (Value.slice (some ⟨g, 0, none⟩) (nk + 1) cc).ownBlock ≠ some Qb := fun e => hgQ (by cases e; rfl)
      exact own_other hown6 hQg _ _
     ·rw [hZ2] at hz
      rcases List.mem_append.1 hz with hz | hz
      ·refine ((HF4.out z hz).move (fun b hb _ => ?_)).kind fun b hb => ⟨hb.1, (hg4 b hb.2.2 hb.2.1).1, by rw [hVs]; have := hb.2.2; have := HQB.out; omega⟩
       rw [hVb b (by have := hb.2.2; have := HQB.out; omega)]
       exact (hg4 b hb.2.2 hb.2.1).2
      ·obtain rfl : z = (cssT 0, ((none : Option Addr), 0), ((none : Option Addr), 0)) := by simpa using hz
       exact ⟨(fun a ha => by cases ha), ⟨by decide, by decide, by decide, by decide, by decide, by decide, by decide, by decide⟩, ⟨Nat.le_refl _, by decide, fun _ => rfl⟩, fun hne => absurd rfl hne, ⟨Nat.le_refl _, by decide, fun _ => rfl⟩, KFar.nil _ _ _ _⟩
     ·refine BRow.move (Q := fun b => (Value.slice pk4 nk ck4).ownBlock ≠ some b ∧ b < w4.heap.size) (fun b hb _ => ?_) HR4.out (fun a ha => ⟨(HI4.out a ha).2.1, (HI4.out a ha).2.2⟩)
      rw [hVb b (by have := hb.2; have := HQB.out; omega)]
      exact (hg4 b hb.2 hb.1).2
     ·have h1 := HI4.out a ha
      exact ⟨(hg4 _ h1.2.2 h1.2.1).1, by rw [hVs]; have := h1.2.2; have := HQB.out; omega⟩
    have HGQ : Hid (Qb ≠ g) := hgQ
    have HV : Hid (V = w6.setCell ⟨Qb, 6, none⟩ (.slice (some ⟨g, 0, none⟩) (nk + 1) cc)) := hV
    clear hown6 hg6 hlies hlt6 hZ2 hZv hgQ hg4 hs6 kq6 hb6 hVs hVb hV HF4 HI4 HR4 HB5 HKQ HO5 HOQ HS5 HB4 HZK HZL
    rw [← HV.out]
    clear HV
    have y6 : V.cell? ⟨Qb, 6, none⟩ = some (.slice (some ⟨g, 0, none⟩) (nk + 1) cc) := (blk_c HMA.out.kq 6).trans rfl
    go_wp2_with fail
    clear y6
    refine lb1 w3 Qb g (nk + 1) cc _ _ _ _ _ _ _ rfl pb4 p.body how h Z2 HZ2l.out (by omega) HGQ.out CA.out V HMA.out _ _ _ _ _ _ _ _ _ _ _ _ _ _ _ _ _ _ _ _ _ _ _ _ _ _ _ _ _ _ _ _ _ _ _ _ _ _ _ _ _ _ _ _ _ _ _ _ _ _ _ _ _ _ _ _ _ _ _ _ _ _ _ _ _ _ _ _ _ ?_
    intro x8 x9 x40 x41 x42 x43 x44 x45 x46 x47 x48 x49 x50 x51 x52 x53 x54 x55 x56 w7 hM7
    have HM7 : Hid (MoreAt w3 Qb g (nk + 1) cc #[.string p.ty, .string p.cs, .string p.id, .string p.loc, .int .i64 p.how, .slice pb4 nb cb4, .slice (some ⟨g, 0, none⟩) (nk + 1) cc] pb4 p.body h Z2 (nk + 1) w7) := hM7
    have hall : hows h (nk + 1) Z2 = Z2.map (setZ h) := by rw [HZ2l.out]; exact hows_all h Z2
    have ho7 := hM7.own
    rw [hall] at ho7
    obtain ⟨hH7, hn7⟩ := more_held HPL.out HH.out.1 HH.out.2 (by rw [HNB.out]; exact HC4.out) hM7.row HZ2m.out ho7 HZ2l.out hM7.far
    have hlo7 : Below w.heap.size w w7 := HLO3.out.trans (hM7.bel.mono HLO3.out.size)
    have CG7 : Hid (Calls Tryz.prog 9 #[.agg #[.string p.ty, .string p.cs, .string p.id, .string p.loc, .int .i64 p.how, .slice pb4 nb cb4, .slice (some ⟨g, 0, none⟩) (nk + 1) cc]] w7 fun e w' => GoalsPost w7 (placesP (moreT p h)) e w') := by
     have h1 := bgoals_any (moreT p h) pb4 cb4 (some ⟨g, 0, none⟩) cc 5 w7 (HE.out.below hlo7) hH7
     rw [hn7] at h1
     have e1 : (moreT p h).body.length = nb := HNB.out
     rw [e1] at h1
     exact h1
    have HLO7 : Hid (Below w.heap.size w w7) := hlo7
    have G7 : Hid (G6 w7 q2 l.length l) := G3.out.below hM7.bel
    obtain ⟨y0, y1, y2, y3, y4, y5, y6, yf⟩ := o_cells hM7.kq
    clear hM7 hall ho7 hH7 hn7 hlo7 HMA HM7 G3 CA
    go_wp2_with fail
    refine CG7.out.mono ?_
    rintro e w8 hP8
    have hlo8 : Below w.heap.size w w8 := HLO7.out.trans (hP8.1.mono HLO7.out.size)
    have HLO8 : Hid (Below w.heap.size w w8) := hlo8
    clear y0 y1 y2 y3 y4 y5 y6 yf CG7
    rcases HPM.out with h8 | h8
    ·obtain ⟨q8, c8, rfl, hb8, g8⟩ := goals_rows hP8 h8 (HGE.out h8)
     have HQ2 : Hid (Calls Tryz.prog 17 #[.slice q2 l.length c2, .slice q8 l.length c8] w8 fun e w' => e = .returned (.bool true) ∧ ∃ q, w' = w8.drewN q) := eqg_same q2 q8 l.length c2 c8 l w8 (by omega) (G7.out.below hb8) g8
     clear hP8 hlo8 hb8 g8 h8 HPM HGE
     go_wp2_with fail
     refine HQ2.out.mono ?_
     rintro e w9 ⟨rfl, k9, rfl⟩
     go_wp2_with fail
     go_ret
     exact ⟨rfl, below_many HLO8.out _⟩
    ·obtain rfl := hP8.2.1 (by rw [h8]; decide)
     rw [h8]
     clear hP8 hlo8 h8 HPM HGE
     go_wp2_with fail
     go_ret
     exact ⟨rfl, HLO8.out⟩
 ·exact hbad (placesP p).1 hok (fun W hW => (CG0 W hW).mono fun e w' h => ⟨h.2.1 hok, hW.trans (h.1.mono hW.size)⟩)
end Go.Proofs.YtbbfcbodhmeanaaGreatDoor



namespace Go.Proofs.YtbbfcbodhmeanaaGreatDoor
open Go.RowKit Go.Lib Go.Shelf
theorem utf8_laidL {w : World} (h3 : VarReads Tryz.prog w "unicode/utf8.first" firstData) (h4 : VarReads Tryz.prog w "unicode/utf8.acceptRanges" acceptData) : Lib.Utf8Tabs 1 2 w :=
 utf8Tabs_of_readsT (ρ := Tryz.lays159_ren) { Tryz.lays159 with } ⟨by kernel_rfl, by kernel_rfl, by kernel_rfl, by kernel_rfl, by kernel_rfl, by kernel_rfl, by kernel_rfl⟩ h3 h4
theorem case_laidL {w : World} (h : VarReads Tryz.prog w "unicode.CaseRanges" caseData) : CaseVar 3 caseA w :=
 caseVar_of_reads (ρ := Tryz.lays159_ren) { Tryz.lays159 with } Tryz.lays159.t206 ⟨by kernel_rfl, by kernel_rfl, by kernel_rfl, by kernel_rfl, by kernel_rfl, by kernel_rfl⟩ h
theorem lenv_laid {W : World} (h : laidMetH Tryz.prog [("unicode/utf8.acceptRanges", Rows.laid_unicode_utf8_acceptRanges), ("unicode.CaseRanges", Rows.laid_unicode_CaseRanges), ("unicode/utf8.first", Rows.laid_unicode_utf8_first)] W) (m : Int) (hm : W.cell? ⟨0, 0, none⟩ = some (.int .i64 m)) : LEnv W := by
 rw [MakeChecks.laidMetH_plain _ _ _ (by kernel_rfl)] at h
 have h1 := utf8_laidL (laidMet.reads h (List.mem_of_getElem? (i := 2) (by kernel_rfl))) (laidMet.reads h (List.mem_of_getElem? (i := 0) (by kernel_rfl)))
 have h2 := case_laidL (laidMet.reads h (List.mem_of_getElem? (i := 1) (by kernel_rfl)))
 intro W' hb
 exact ⟨⟨m, (hb.cell (p := ⟨0, 0, none⟩) (World.block_lt_of_cell? W _ hm)).trans hm⟩, CaseVar_below h2 hb, Utf8Tabs_below h1 hb⟩
end Go.Proofs.YtbbfcbodhmeanaaGreatDoor



namespace Go.Proofs.YtbbfcbodhmeanaaGreatDoor
open Go.ChangeShapes Go.WideShapes Go.ChangeAt Go.RowKit
set_option linter.unusedVariables false
theorem own : ownKnob Tryz.prog.godebug = none := by kernel_rfl
theorem laidOut : laidOutB Tryz.prog = true := by kernel_rfl
theorem sized_of_heap {H : Type} {enc : TypeId × Value → H} {P : Program} {fn : Func} {s : OpenSpec} {apart : Bool} {w w' : World} {args : Array Value} (hh : w.heap = w'.heap) (h : sizedMet enc P fn s apart w args) : sizedMet enc P fn s apart w' args := by
 obtain ⟨h1, ds, gs, before, hw, h2⟩ := h
 exact ⟨h1, ds, gs, before, DataW.Whole.of_heap hh hw, h2⟩
theorem handed_sized {H : Type} {enc : TypeId × Value → H} {a : Assume} {C : Checked} {os : Os} {f : FuncId} {fn : Func} {s : ChangeSpec} {conds : List PathCond} {apart fresh handsOn again : Bool} {X : World → Array Value → Prop}
  (hX : ∀ (w w' : World) (args : Array Value), w.heap = w'.heap → X w args → X w' args)
  (own : ownKnob C.prog.godebug = none) (started : os.Started) (noInit : C.prog.inits.idxOf? f = none) (hfn : C.prog.funcs[f]? = some fn)
  (witness : ∃ (w : World) (tape : Tape) (i : Input), w.os = os ∧ (w.forCall tape i).Shaped C.prog ∧ i.vars = [] ∧ Input.okWide C.prog (w.forCall tape i) .any w.heap.size f i ∧
   ((s.pre enc C.prog fn conds apart (w.forCall tape i).memory i.args ∧ X (w.forCall tape i).memory i.args) ∧ sizedMet enc C.prog fn (OpenSpec.ofChange s) apart (w.forCall tape i).memory i.args) ∧ a.holds C.prog (lone (Frame.enter C.prog f i.args .normal) [] (w.forCall tape i)))
  (contract : ∀ (W : World) (base : Nat) (args : Array Value) (ds gs : List (DataW H)) (before : List MemPlace),
   (∀ (j : Nat) t v, fn.params[j]? = some t → args[j]? = some v → Value.okWide C.prog W .any base t v) →
   DataW.Whole enc C.prog fn.params.toList s.vars apart W args.toList ds gs before → X W args → sizedMet enc C.prog fn (OpenSpec.ofChange s) apart W args → W.ShapedOpen C.prog →
   Calls C.prog f args W fun e W' => ∃ v, e = .returned v ∧ s.post enc C.prog fn apart fresh handsOn again W args v W') :
  ReturnsInHanded a C os f .any (fun w args => (s.pre enc C.prog fn conds apart w args ∧ X w args) ∧ sizedMet enc C.prog fn (OpenSpec.ofChange s) apart w args) (s.post enc C.prog fn apart fresh handsOn again) := by
 refine returnsInHanded_of_calls own started noInit witness ?_
 intro w tape i _ hsh _ hok hpre hholds
 obtain ⟨_, _, _, fn', hfn', _, _, _, _, hval⟩ := hok
 have e : fn' = fn := Option.some.inj (hfn'.symm.trans hfn)
 subst e
 obtain ⟨⟨⟨ds, gs, before, hw, hc⟩, hx⟩, hz⟩ := hpre
 have hw' := DataW.Whole.of_heap (w' := w.forCall tape i) (by rfl) hw
 refine (contract (w.forCall tape i) w.heap.size i.args ds gs before hval hw' (hX _ _ _ (by rfl) hx) (sized_of_heap (by rfl) hz) hsh).mono fun e W' ⟨v, he, hp⟩ => ?_
 subst he
 exact ChangeSpec.post_blind hp
theorem maxLen_cell {W : World} (h : W.ShapedOpen Tryz.prog) : ∃ m, W.cell? ⟨0, 0, none⟩ = some (.int .i64 m) :=
 cell_of_shapedOpen_int (P := Tryz.prog) (g := 0) (t := 3) (zero := #[.int .i64 0]) h (of_decide_eq_true (by kernel_rfl)) (by kernel_rfl) rfl (by kernel_rfl) (by kernel_rfl) Tryz.underlying3
end Go.Proofs.YtbbfcbodhmeanaaGreatDoor

