/- The walk of the law PartWraps: it answers true, and nothing that was there is changed. Condition: the parts lie there. -/
import Derived.Test.YtnmmlbgadibimabPParted
import Derived.Test.YtnmmlbgadibimabPlainX
import Derived.Test.YtnmmlbgadibimabPEqF
import Derived.Test.YtnmmlbgadibimabPCatI
import Derived.Test.YtnmmlbgadibimabPCatP
import Derived.Test.YtnmmlbgadibimabPOpen
import Derived.Deep.RegionHeld3
namespace Go.Proofs.Ytnmmlbgadibimab
open Go.RowKit

theorem PHeld.ups {w : World} {F : Nat} {p : PT} {pb : Option Addr} {cb : Nat} {pk : Option Addr} {ck : Nat} (h : PHeld w F p pb cb pk ck) : ∀ k, PHeld w (F + k) p pb cb pk ck
  | 0 => h
  | k + 1 => by
    have := PHeld.ups h k
    exact ⟨this.1, this.2.1, this.2.2.1, this.2.2.2.1, KAt.up _ _ _ this.2.2.2.2⟩

/-- What the block of the two holds. -/
theorem two_kids {w : World} {F : Nat} {p q : PT} {pb qb : Option Addr} {cb : Nat} {pk qk : Option Addr} {ck cb2 ck2 : Nat} (h1 : PHeld w F p pb cb pk ck) (h2 : PHeld w F q qb cb2 qk ck2) (b : Nat) (hb : b = w.heap.size) :
    KAt (w.alloc (.cells #[.string p.ty, .string p.cs, .string p.id, .string p.loc, .int .i64 p.how, .slice pb p.body.length cb, .slice pk p.kids.length ck, .string q.ty, .string q.cs, .string q.id, .string q.loc, .int .i64 q.how, .slice qb q.body.length cb2, .slice qk q.kids.length ck2] 25)) (F + 1) (some ⟨b, 0, none⟩) [p, q] := by
  have hbe : Below w.heap.size w (w.alloc (.cells #[.string p.ty, .string p.cs, .string p.id, .string p.loc, .int .i64 p.how, .slice pb p.body.length cb, .slice pk p.kids.length ck, .string q.ty, .string q.cs, .string q.id, .string q.loc, .int .i64 q.how, .slice qb q.body.length cb2, .slice qk q.kids.length ck2] 25)) := (Below.refl _ _).alloc (Nat.le_refl _) _
  have := KAt.of_list (w := w.alloc (.cells #[.string p.ty, .string p.cs, .string p.id, .string p.loc, .int .i64 p.how, .slice pb p.body.length cb, .slice pk p.kids.length ck, .string q.ty, .string q.cs, .string q.id, .string q.loc, .int .i64 q.how, .slice qb q.body.length cb2, .slice qk q.kids.length ck2] 25)) (f := F) (a := some ⟨b, 0, none⟩) (Z := [(p, (pb, cb), (pk, ck)), (q, (qb, cb2), (qk, ck2))])
    (fun _ => ⟨b, 0, rfl, fun j u hj => cell_lits w _ _ b j _ u hb (Nat.zero_add _) hj⟩) (fun z hz => by
      rcases List.mem_cons.1 hz with e | e
      · subst e; exact h1.below hbe
      · obtain rfl := List.mem_singleton.1 e; exact h2.below hbe)
  exact this

theorem ins_small {p : PT} (h : (placesP p).1 = 0) : ∀ x ∈ (placesP p).2, -1 ≤ x.2 ∧ x.2 ≤ 12 := fun x hx => by
  obtain ⟨h12, h0, h1, _⟩ := tree_facts p h
  obtain ⟨j, hj⟩ := List.mem_iff_getElem?.1 hx
  rcases Nat.eq_zero_or_pos j with e | e
  · subst e
    rw [h0] at hj
    obtain rfl := Option.some.inj hj
    exact ⟨Int.le_refl _, by show (-1 : Int) ≤ 12; omega⟩
  · obtain ⟨k, y, ek, hk, _, _⟩ := h1 j x e hj
    have := (List.getElem?_eq_some_iff.1 hj).1
    omega
theorem places_pos {p : PT} (h : (placesP p).1 = 0) : 1 ≤ (placesP p).2.length := (List.getElem?_eq_some_iff.1 (tree_facts p h).2.1).1

set_option maxHeartbeats 4000000 in
/-- The law. -/
theorem pwraps_any (p q : PT) (pb qb : Option Addr) (cb : Nat) (pk qk : Option Addr) (ck cb2 ck2 F F2 : Nat) (w : World) (hH : PHeld w F p pb cb pk ck) (hH2 : PHeld w F2 q qb cb2 qk ck2) :
    Calls Try.prog 4 #[.agg #[.string p.ty, .string p.cs, .string p.id, .string p.loc, .int .i64 p.how, .slice pb p.body.length cb, .slice pk p.kids.length ck], .agg #[.string q.ty, .string q.cs, .string q.id, .string q.loc, .int .i64 q.how, .slice qb q.body.length cb2, .slice qk q.kids.length ck2]] w
      fun e w' => e = .returned (.bool true) ∧ Below w.heap.size w w' := by
  have g1 := hH.ups F2
  have g2 : PHeld w (F + F2) q qb cb2 qk ck2 := by have := hH2.ups F; rwa [Nat.add_comm F2 F] at this
  obtain ⟨w2, hw2⟩ : ∃ w2, (w.alloc (.cells #[.string p.ty, .string p.cs, .string p.id, .string p.loc, .int .i64 p.how, .slice pb p.body.length cb, .slice pk p.kids.length ck] 25)).alloc (.cells #[.string q.ty, .string q.cs, .string q.id, .string q.loc, .int .i64 q.how, .slice qb q.body.length cb2, .slice qk q.kids.length ck2] 25) = w2 := ⟨_, rfl⟩
  have hb2 : Below w.heap.size w w2 := by rw [← hw2]; exact ((Below.refl _ _).alloc (Nat.le_refl _) _).alloc (by simp) _
  have hs2 : w2.heap.size = w.heap.size + 2 := by rw [← hw2]; simp
  have box1 : ∀ w', Below w2.heap.size w2 w' → PCells w' w.heap.size 0 p pb cb pk ck := fun w' hb => by
    have h := boxed hH 25 _ rfl
    have hx : PCells (w.alloc (.cells #[.string p.ty, .string p.cs, .string p.id, .string p.loc, .int .i64 p.how, .slice pb p.body.length cb, .slice pk p.kids.length ck] 25)) w.heap.size 0 p pb cb pk ck := by refine ⟨?_, ?_, ?_, ?_, ?_, ?_, ?_⟩ <;> simp
    have hy := hx.below ((Below.refl _ _).alloc (Nat.le_refl _) (.cells #[.string q.ty, .string q.cs, .string q.id, .string q.loc, .int .i64 q.how, .slice qb q.body.length cb2, .slice qk q.kids.length ck2] 25))
    rw [hw2] at hy
    exact hy.below hb
  have box2 : ∀ w', Below w2.heap.size w2 w' → PCells w' (w.heap.size + 1) 0 q qb cb2 qk ck2 := fun w' hb => by
    have hx : PCells ((w.alloc (.cells #[.string p.ty, .string p.cs, .string p.id, .string p.loc, .int .i64 p.how, .slice pb p.body.length cb, .slice pk p.kids.length ck] 25)).alloc (.cells #[.string q.ty, .string q.cs, .string q.id, .string q.loc, .int .i64 q.how, .slice qb q.body.length cb2, .slice qk q.kids.length ck2] 25)) (w.heap.size + 1) 0 q qb cb2 qk ck2 := by
      refine ⟨?_, ?_, ?_, ?_, ?_, ?_, ?_⟩ <;> simp
    rw [hw2] at hx
    exact hx.below hb
  obtain ⟨x0, x1, x2, x3, x4, x5, x6⟩ := box1 w2 (Below.refl _ _)
  obtain ⟨y0, y1, y2, y3, y4, y5, y6⟩ := box2 w2 (Below.refl _ _)
  simp only [Nat.zero_add] at x0 x1 x2 x3 x4 x5 x6 y0 y1 y2 y3 y4 y5 y6
  have hk3 := two_kids (g1.below hb2) (g2.below hb2) (w.heap.size + 2) hs2.symm
  obtain ⟨w3, hw3⟩ : ∃ w3, w2.alloc (.cells #[.string p.ty, .string p.cs, .string p.id, .string p.loc, .int .i64 p.how, .slice pb p.body.length cb, .slice pk p.kids.length ck, .string q.ty, .string q.cs, .string q.id, .string q.loc, .int .i64 q.how, .slice qb q.body.length cb2, .slice qk q.kids.length ck2] 25) = w3 := ⟨_, rfl⟩
  have hb3 : Below w2.heap.size w2 w3 := by rw [← hw3]; exact (Below.refl _ _).alloc (Nat.le_refl _) _
  have hs3 : w3.heap.size = w.heap.size + 3 := by rw [← hw3]; simp [hs2]
  rw [hw3] at hk3
  have hHW : PHeld w3 (F + F2 + 1) (wrapT p q) none 0 (some ⟨w.heap.size + 2, 0, none⟩) 2 := ⟨lens _ rfl, ⟨Nat.le_refl _, by decide, fun _ => rfl⟩, fun h => absurd rfl h, ⟨Nat.le_refl _, by decide, fun h => by cases h⟩, hk3⟩
  obtain ⟨w4, hw4⟩ : ∃ w4, w3.alloc (.cells #[.string mixed, .string ⟨#[]⟩, .string ⟨#[]⟩, .string ⟨#[]⟩, .int .i64 0, .slice none 0 0, .slice (some ⟨w.heap.size + 2, 0, none⟩) 2 2] 25) = w4 := ⟨_, rfl⟩
  have hb4 : Below w3.heap.size w3 w4 := by rw [← hw4]; exact (Below.refl _ _).alloc (Nat.le_refl _) _
  have hb24 : Below w2.heap.size w2 w4 := hb3.trans (hb4.mono hb3.size)
  have hbel4 : Below w.heap.size w w4 := hb2.trans (hb24.mono hb2.size)
  have HB1 : Hid (∀ w', Below w4.heap.size w4 w' → PCells w' w.heap.size 0 p pb cb pk ck) := fun w' hb => box1 w' (hb24.trans (hb.mono hb24.size))
  have HB2 : Hid (∀ w', Below w4.heap.size w4 w' → PCells w' (w.heap.size + 1) 0 q qb cb2 qk ck2) := fun w' hb => box2 w' (hb24.trans (hb.mono hb24.size))
  have HBW : Hid (∀ w', Below w4.heap.size w4 w' → PCells w' (w.heap.size + 3) 0 (wrapT p q) none 0 (some ⟨w.heap.size + 2, 0, none⟩) 2) := fun w' hb => by
    have hx : PCells (w3.alloc (.cells #[.string mixed, .string ⟨#[]⟩, .string ⟨#[]⟩, .string ⟨#[]⟩, .int .i64 0, .slice none 0 0, .slice (some ⟨w.heap.size + 2, 0, none⟩) 2 2] 25)) (w.heap.size + 3) 0 (wrapT p q) none 0 (some ⟨w.heap.size + 2, 0, none⟩) 2 :=
      ⟨cell_lits _ _ _ _ 0 _ _ hs3.symm rfl rfl, cell_lits _ _ _ _ 1 _ _ hs3.symm rfl rfl, cell_lits _ _ _ _ 2 _ _ hs3.symm rfl rfl, cell_lits _ _ _ _ 3 _ _ hs3.symm rfl rfl, cell_lits _ _ _ _ 4 _ _ hs3.symm rfl rfl, cell_lits _ _ _ _ 5 _ _ hs3.symm rfl rfl, cell_lits _ _ _ _ 6 _ _ hs3.symm rfl rfl⟩
    rw [hw4] at hx
    exact hx.below hb
  have K1 : Hid (∀ w', Below w4.heap.size w4 w' → w'.cell? ⟨w.heap.size, 0, none⟩ = some (.string p.ty) ∧ w'.cell? ⟨w.heap.size, 1, none⟩ = some (.string p.cs) ∧ w'.cell? ⟨w.heap.size, 2, none⟩ = some (.string p.id) ∧ w'.cell? ⟨w.heap.size, 3, none⟩ = some (.string p.loc) ∧ w'.cell? ⟨w.heap.size, 4, none⟩ = some (.int .i64 p.how) ∧ w'.cell? ⟨w.heap.size, 5, none⟩ = some (.slice pb p.body.length cb) ∧ w'.cell? ⟨w.heap.size, 6, none⟩ = some (.slice pk p.kids.length ck)) := fun w' hb => by
    obtain ⟨z0, z1, z2, z3, z4, z5, z6⟩ := HB1.out w' hb
    simp only [Nat.zero_add] at z0 z1 z2 z3 z4 z5 z6
    exact ⟨z0, z1, z2, z3, z4, z5, z6⟩
  have K2 : Hid (∀ w', Below w4.heap.size w4 w' → w'.cell? ⟨w.heap.size + 1, 0, none⟩ = some (.string q.ty) ∧ w'.cell? ⟨w.heap.size + 1, 1, none⟩ = some (.string q.cs) ∧ w'.cell? ⟨w.heap.size + 1, 2, none⟩ = some (.string q.id) ∧ w'.cell? ⟨w.heap.size + 1, 3, none⟩ = some (.string q.loc) ∧ w'.cell? ⟨w.heap.size + 1, 4, none⟩ = some (.int .i64 q.how) ∧ w'.cell? ⟨w.heap.size + 1, 5, none⟩ = some (.slice qb q.body.length cb2) ∧ w'.cell? ⟨w.heap.size + 1, 6, none⟩ = some (.slice qk q.kids.length ck2)) := fun w' hb => by
    obtain ⟨z0, z1, z2, z3, z4, z5, z6⟩ := HB2.out w' hb
    simp only [Nat.zero_add] at z0 z1 z2 z3 z4 z5 z6
    exact ⟨z0, z1, z2, z3, z4, z5, z6⟩
  have KW : Hid (∀ w', Below w4.heap.size w4 w' → w'.cell? ⟨w.heap.size + 3, 0, none⟩ = some (.string mixed) ∧ w'.cell? ⟨w.heap.size + 3, 1, none⟩ = some (.string ⟨#[]⟩) ∧ w'.cell? ⟨w.heap.size + 3, 2, none⟩ = some (.string ⟨#[]⟩) ∧ w'.cell? ⟨w.heap.size + 3, 3, none⟩ = some (.string ⟨#[]⟩) ∧ w'.cell? ⟨w.heap.size + 3, 4, none⟩ = some (.int .i64 0) ∧ w'.cell? ⟨w.heap.size + 3, 5, none⟩ = some (.slice none 0 0) ∧ w'.cell? ⟨w.heap.size + 3, 6, none⟩ = some (.slice (some ⟨w.heap.size + 2, 0, none⟩) 2 2)) := fun w' hb => by
    obtain ⟨z0, z1, z2, z3, z4, z5, z6⟩ := HBW.out w' hb
    simp only [Nat.zero_add] at z0 z1 z2 z3 z4 z5 z6
    exact ⟨z0, z1, z2, z3, z4, z5, z6⟩
  clear HB1 HB2 HBW
  have CAW : Hid (∀ w', Below w4.heap.size w4 w' → Calls Try.prog 5 #[.agg #[.string mixed, .string ⟨#[]⟩, .string ⟨#[]⟩, .string ⟨#[]⟩, .int .i64 0, .slice none 0 0, .slice (some ⟨w.heap.size + 2, 0, none⟩) 2 2]] w' fun e w'' => AllPost w' (placesP (wrapT p q)) e w'') := fun w' hb => all_any (wrapT p q) none 0 _ 2 _ w' (hHW.below (hb4.trans (hb.mono hb4.size)))
  have CWW : Hid (∀ w', Below w4.heap.size w4 w' → Calls Try.prog 6 #[.agg #[.string mixed, .string ⟨#[]⟩, .string ⟨#[]⟩, .string ⟨#[]⟩, .int .i64 0, .slice none 0 0, .slice (some ⟨w.heap.size + 2, 0, none⟩) 2 2]] w' fun e w'' => WithinPost w' (placesP (wrapT p q)) e w'') := fun w' hb => within_any (wrapT p q) none 0 _ 2 _ w' (hHW.below (hb4.trans (hb.mono hb4.size)))
  have CAP : Hid (∀ w', Below w4.heap.size w4 w' → Calls Try.prog 5 #[.agg #[.string p.ty, .string p.cs, .string p.id, .string p.loc, .int .i64 p.how, .slice pb p.body.length cb, .slice pk p.kids.length ck]] w' fun e w'' => AllPost w' (placesP p) e w'') := fun w' hb => all_any p pb cb pk ck F w' (hH.below (hbel4.trans (hb.mono hbel4.size)))
  have CWP : Hid (∀ w', Below w4.heap.size w4 w' → Calls Try.prog 6 #[.agg #[.string p.ty, .string p.cs, .string p.id, .string p.loc, .int .i64 p.how, .slice pb p.body.length cb, .slice pk p.kids.length ck]] w' fun e w'' => WithinPost w' (placesP p) e w'') := fun w' hb => within_any p pb cb pk ck F w' (hH.below (hbel4.trans (hb.mono hbel4.size)))
  have CAQ : Hid (∀ w', Below w4.heap.size w4 w' → Calls Try.prog 5 #[.agg #[.string q.ty, .string q.cs, .string q.id, .string q.loc, .int .i64 q.how, .slice qb q.body.length cb2, .slice qk q.kids.length ck2]] w' fun e w'' => AllPost w' (placesP q) e w'') := fun w' hb => all_any q qb cb2 qk ck2 F2 w' (hH2.below (hbel4.trans (hb.mono hbel4.size)))
  have CWQ : Hid (∀ w', Below w4.heap.size w4 w' → Calls Try.prog 6 #[.agg #[.string q.ty, .string q.cs, .string q.id, .string q.loc, .int .i64 q.how, .slice qb q.body.length cb2, .slice qk q.kids.length ck2]] w' fun e w'' => WithinPost w' (placesP q) e w'') := fun w' hb => within_any q qb cb2 qk ck2 F2 w' (hH2.below (hbel4.trans (hb.mono hbel4.size)))
  have HW : Hid ((placesP (wrapT p q)).1 = 0 → (placesP p).1 = 0 ∧ (placesP q).1 = 0 ∧ (placesP p).2.length + (placesP q).2.length + 1 ≤ 12 ∧
    (placesP (wrapT p q)).2 = (wrapT p q, -1) :: ((placesP p).2.map (fun x => (x.1, x.2 + 1)) ++ (placesP q).2.map (fun x => (x.1, if 0 ≤ x.2 then x.2 + 1 + ((placesP p).2.length : Int) else x.2 + 1)))) := wraps p q
  have hm : (⟨#[109, 117, 108, 116, 105, 112, 97, 114, 116, 47, 109, 105, 120, 101, 100]⟩ : ByteArray) = mixed := rfl
  have HP1 : Hid ((placesP p).1 = 0 → 1 ≤ (placesP p).2.length) := fun h => places_pos h
  have HSP : Hid ((placesP p).1 = 0 → ∀ x ∈ (placesP p).2, -1 ≤ x.2 ∧ x.2 ≤ 12) := fun h => ins_small h
  have HSQ : Hid ((placesP q).1 = 0 → ∀ x ∈ (placesP q).2, -1 ≤ x.2 ∧ x.2 ≤ 12) := fun h => ins_small h
  generalize hRW : placesP (wrapT p q) = RW at *
  generalize placesP p = RP at *
  generalize placesP q = RQ at *
  clear hk3 g1 g2 hHW box1 box2 hb3 hb4 hb24 hRW hH hH2
  generalize p.body.length = n1 at *
  generalize p.kids.length = n2 at *
  generalize q.body.length = n3 at *
  generalize q.kids.length = n4 at *
  obtain ⟨u0, u1, u2, u3, u4, u5, u6⟩ := KW.out w4 (Below.refl _ _)
  go_enter Try.func4, Try.ntmps4
  go_wp2_with fail
  have b4 : Below w4.heap.size w4 w4 := Below.refl _ _
  refine (CAW.out w4 b4).mono ?_
  rintro e w5 ⟨b5, hbad1, hok1⟩
  obtain ⟨v0, v1, v2, v3, v4, v5, v6⟩ := KW.out w5 b5
  clear CAW hw2 hw3 hw4 u0 u1 u2 u3 u4 u5 u6 x0 x1 x2 x3 x4 x5 x6 y0 y1 y2 y3 y4 y5 y6
  by_cases hr : RW.1 = 0
  · obtain ⟨q5, c5, rfl, hc5, hcm5, hn5, hk5⟩ := hok1 hr
    obtain ⟨rp, rq, r12, hLW⟩ := HW.out hr
    have HR : Hid (RW.1 = 0) := hr
    clear hbad1 hok1 HW hr
    go_wp2_with fail
    refine (CWW.out w5 b5).mono ?_
    rintro e w6 ⟨b6', -, hok2⟩
    have b6 := b5.trans (b6'.mono b5.size)
    obtain ⟨q6, c6, rfl, hc6, hcm6, hn6, hi6⟩ := hok2 HR.out
    have hk6 := KAt.below b6' _ _ _ hk5
    clear hok2 b6' CWW KW v0 v1 v2 v3 v4 v5 v6 hk5 b5
    go_wp2_with fail
    refine (parted_any _).mono ?_
    rintro e w7 ⟨rfl, b7'⟩
    have b7 := b6.trans (b7'.mono b6.size)
    have hk7 := KAt.below b7' _ _ _ hk6
    have hi7 := hi6.below b7'
    obtain ⟨x0, x1, x2, x3, x4, x5, x6⟩ := K1.out w7 b7
    clear b7' hk6 hi6 b6
    go_wp2_with fail
    refine (CAP.out w7 b7).mono ?_
    rintro e w8 ⟨b8', -, hok3⟩
    have b8 := b7.trans (b8'.mono b7.size)
    obtain ⟨q8, c8, rfl, hc8, hcm8, hn8, hka8⟩ := hok3 rp
    have hk8 := KAt.below b8' _ _ _ hk7
    have hi8 := hi7.below b8'
    obtain ⟨y0, y1, y2, y3, y4, y5, y6⟩ := K2.out w8 b8
    clear hok3 b8' hk7 hi7 x0 x1 x2 x3 x4 x5 x6 CAP b7
    go_wp2_with fail
    refine (CAQ.out w8 b8).mono ?_
    rintro e w9 ⟨b9', -, hok4⟩
    have b9 := b8.trans (b9'.mono b8.size)
    obtain ⟨q9, c9, rfl, hc9, hcm9, hn9, hkb9⟩ := hok4 rq
    have hk9 := KAt.below b9' _ _ _ hk8
    have hi9 := hi8.below b9'
    have hka9 := KAt.below b9' _ _ _ hka8
    obtain ⟨x0, x1, x2, x3, x4, x5, x6⟩ := K1.out w9 b9
    clear hok4 b9' hk8 hi8 hka8 y0 y1 y2 y3 y4 y5 y6 CAQ b8
    go_wp2_with fail
    refine (CWP.out w9 b9).mono ?_
    rintro e w10 ⟨b10', -, hok5⟩
    have b10 := b9.trans (b10'.mono b9.size)
    obtain ⟨q10, c10, rfl, hc10, hcm10, hn10, hia10⟩ := hok5 rp
    have hk10 := KAt.below b10' _ _ _ hk9
    have hi10 := hi9.below b10'
    have hka10 := KAt.below b10' _ _ _ hka9
    have hkb10 := KAt.below b10' _ _ _ hkb9
    obtain ⟨y0, y1, y2, y3, y4, y5, y6⟩ := K2.out w10 b10
    clear hok5 b10' hk9 hi9 hka9 hkb9 x0 x1 x2 x3 x4 x5 x6 CWP b9
    go_wp2_with fail
    refine (CWQ.out w10 b10).mono ?_
    rintro e w11 ⟨b11', -, hok6⟩
    have b11 := b10.trans (b11'.mono b10.size)
    obtain ⟨q11, c11, rfl, hc11, hcm11, hn11, hib11⟩ := hok6 rq
    have hk11 := KAt.below b11' _ _ _ hk10
    have hi11 := hi10.below b11'
    have hka11 := KAt.below b11' _ _ _ hka10
    have hkb11 := KAt.below b11' _ _ _ hkb10
    have hia11 := hia10.below b11'
    clear hok6 b11' hk10 hi10 hka10 hkb10 hia10 y0 y1 y2 y3 y4 y5 y6 CWQ b10 K1 K2
    have hbel11 := hbel4.trans (b11.mono hbel4.size)
    -- as many as they are
    have na1 := HP1.out rp
    have HS1 : Hid (∀ x ∈ RP.2, -1 ≤ x.2 ∧ x.2 ≤ 12) := HSP.out rp
    have HS2 : Hid (∀ x ∈ RQ.2, -1 ≤ x.2 ∧ x.2 ≤ 12) := HSQ.out rq
    obtain ⟨na, hna⟩ : ∃ na, RP.2.length = na := ⟨_, rfl⟩
    obtain ⟨nb, hnb⟩ : ∃ nb, RQ.2.length = nb := ⟨_, rfl⟩
    have hnl : RW.2.length = na + nb + 1 := by rw [hLW]; simp [hna, hnb]
    rw [hnl] at hc5 hc6
    rw [hna] at hc8 hc10 r12 na1
    rw [hnb] at hc9 hc11 r12
    obtain ⟨c5', rfl⟩ : ∃ c, c5 = c + 1 := ⟨c5 - 1, by omega⟩
    obtain ⟨bl, ol, rfl, -⟩ := hk11.each (by rw [hLW]; simp)
    obtain ⟨ZW, eZW, cZW, hZW⟩ := hk11.list
    obtain ⟨ZA, eZA, cZA, hZA⟩ := hka11.list
    obtain ⟨ZB, eZB, cZB, hZB⟩ := hkb11.list
    obtain ⟨z0, Z, rfl⟩ : ∃ z0 Z, ZW = z0 :: Z := by
      cases ZW with
      | nil => rw [hLW] at eZW; cases eZW
      | cons a l => exact ⟨a, l, rfl⟩
    have eZ : Z.map (·.1) = (ZA ++ ZB).map (·.1) := by
      rw [List.map_append, eZA, eZB]
      rw [hLW, List.map_cons, List.map_cons] at eZW
      have := (List.cons.inj eZW).2
      rw [this]
      simp [List.map_map]
      rfl
    have lA : ZA.length = na := by have := congrArg List.length eZA; simpa [hna] using this
    have lB : ZB.length = nb := by have := congrArg List.length eZB; simpa [hnb] using this
    have lZ : Z.length = na + nb := by have := congrArg List.length eZ; simpa [lA, lB] using this
    have cZ : Cells w11 (some ⟨bl, ol + 7, none⟩) (pzv Z) := fun hne => by
      obtain ⟨b, o, e, hc⟩ := cZW (by show pzc z0 ++ pzv Z ≠ []; simp [pzc])
      obtain ⟨rfl, rfl⟩ : bl = b ∧ ol = o := by injection e with e; injection e with e1 e2; exact ⟨e1, e2⟩
      refine ⟨bl, ol + 7, rfl, fun j u hj => ?_⟩
      have := hc (7 + j) u (by
        show (pzc z0 ++ pzv Z)[7 + j]? = some u
        rw [List.getElem?_append_right (by simp [pzc])]
        simpa [pzc] using hj)
      rwa [← Nat.add_assoc] at this
    have lone : ∀ (X : List (PT × Int)) (Y : List PZ), Y.map (·.1) = X.map (fun x => x.1.alone) → ∀ y ∈ Y, y.1.kids = [] := fun X Y e y hy => by
      have : y.1 ∈ X.map (fun x => x.1.alone) := by rw [← e]; exact List.mem_map.2 ⟨y, hy, rfl⟩
      obtain ⟨x, _, hx⟩ := List.mem_map.1 this
      rw [← hx]; rfl
    have kZ : ∀ y ∈ Z, y.1.kids = [] := fun y hy => lone RW.2 (z0 :: Z) eZW y (by simp [hy])
    have kAB : ∀ y ∈ ZA ++ ZB, y.1.kids = [] := fun y hy => by
      rcases List.mem_append.1 hy with h | h
      · exact lone _ _ eZA y h
      · exact lone _ _ eZB y h
    have hAB : ∀ y ∈ ZA ++ ZB, PHeld w11 0 y.1 y.2.1.1 y.2.1.2 y.2.2.1 y.2.2.2 := fun y hy => by
      rcases List.mem_append.1 hy with h | h
      · exact hZA y h
      · exact hZB y h
    have CC : Hid (∀ W, Below w11.heap.size w11 W → Calls Try.prog 11 #[.slice (some ⟨W.heap.size, 0, none⟩) 2 2] (W.alloc (.cells #[.slice q8 na c8, .slice q9 nb c9] 23)) fun e w' => ∃ p' c', e = .returned (.slice p' (na + nb) c') ∧ Below w11.heap.size w11 w' ∧ Hid (Cells w' p' (pzv (ZA ++ ZB)))) := fun W hW => by
      have hWa := hW.alloc hW.size (.cells #[.slice q8 na c8, .slice q9 nb c9] 23)
      refine (concatP W.heap.size q8 q9 na nb c8 c9 (pzv ZA) (pzv ZB) (by rw [pzv_length, lA]) (by rw [pzv_length, lB]) _ (by simp) (by simp) (cZA.below hWa) (cZB.below hWa) (pzv_one _) (pzv_one _) (fun h => ⟨by have := hn8 h; omega, hn8 h⟩) (fun h => ⟨by have := hn9 h; omega, hn9 h⟩) (by omega)).mono ?_
      rintro e w' ⟨hb', p', c', rfl, hown⟩
      obtain ⟨p2, c2, e2, _, _, _, hc2⟩ := owned_cells hown
      injection e2 with e3 e4 e5
      subst e3
      refine ⟨p', c', rfl, hWa.trans (hb'.mono hWa.size), ?_⟩
      rw [pzv_append]
      exact hc2
    have CE : Hid (∀ W p' c', Below w11.heap.size w11 W → Hid (Cells W p' (pzv (ZA ++ ZB))) → Calls Try.prog 10 #[.slice (some ⟨bl, ol + 7, none⟩) (na + nb) c5', .slice p' (na + nb) c', .func (Fn.func 12) #[] #[]] W fun e w' => e = .returned (.bool true) ∧ Below w11.heap.size w11 w') := fun W p' c' hW hc => by
      refine (eqSame_any _ p' (na + nb) c5' c' Z (ZA ++ ZB) lZ.symm (by rw [List.length_append, lA, lB]) W (by omega) (cZ.below hW) hc.out (fun i y z hy hz w' hw' => ?_)).mono ?_
      · have hbw := hW.trans (hw'.mono hW.size)
        have eyz : y.1 = z.1 := by
          have h1 := congrArg (·[i]?) eZ
          simp only [List.getElem?_map, hy, hz, Option.map_some, Option.some.injEq] at h1
          exact h1
        have my := List.mem_of_getElem? hy
        have mz := List.mem_of_getElem? hz
        have := same1_any y.1 z.1 y.2.1.1 z.2.1.1 y.2.1.2 y.2.2.1 z.2.2.1 y.2.2.2 z.2.1.2 z.2.2.2 0 0 w' ((hZW y (by simp [my])).below hbw) ((hAB z mz).below hbw) (kZ y my) (kAB z mz)
        rw [(sameA_iff y.1 z.1).2 (by rw [eyz])] at this
        exact this
      · rintro e w' ⟨rfl, hb'⟩
        exact ⟨rfl, hW.trans (hb'.mono hW.size)⟩
    have HLW : Hid (RW.2 = (wrapT p q, -1) :: (RP.2.map (fun x => (x.1, x.2 + 1)) ++ RQ.2.map (fun x => (x.1, if 0 ≤ x.2 then x.2 + 1 + (RP.2.length : Int) else x.2 + 1)))) := hLW
    have HNA : Hid (RP.2.length = na ∧ RQ.2.length = nb) := ⟨hna, hnb⟩
    simp only [hna, hnb]
    clear eZW cZW hZW eZA cZA hZA eZB cZB hZB eZ lA lB lZ cZ lone kZ kAB hAB hk11 hka11 hkb11 hLW hna hnb hnl
    have hz1 : (1 : Int) ≤ (na : Int) + (nb : Int) + 1 := by omega
    have b0 : Below w11.heap.size w11 w11 := Below.refl _ _
    have hc50 : ¬ c5' = 0 := by omega
    go_wp2_with fail
    go_region_held3 (fun w' => Below w11.heap.size w11 w') (first | assumption | exact b0.drew | exact (b0.drew.alloc (by simp) _)) (first
      | (go_at_call 11; refine (CC.out _ b0.drew).mono ?_; rintro e w12 ⟨p12, c12, rfl, hb12, HC12⟩)
      | (go_at_call 10; refine (CE.out _ _ _ hb12 HC12).mono ?_; rintro e w13 ⟨rfl, hb13⟩))
    clear CC CE HC12 hb12
    have IA : Hid (∀ w', Below w11.heap.size w11 w' → Cells w' q10 (izv (RP.2.map (·.2)))) := fun w' hb => Cells.ints (hia11.below hb)
    have IB : Hid (∀ w', Below w11.heap.size w11 w' → Cells w' q11 (izv (RQ.2.map (·.2)))) := fun w' hb => Cells.ints (hib11.below hb)
    have IW : Hid (∀ w', Below w11.heap.size w11 w' → IRow w' q6 (RW.2.map (·.2))) := fun w' hb => hi11.below hb
    have CI : Hid (∀ W, Below w11.heap.size w11 W → Calls Try.prog 13 #[.slice (some ⟨W.heap.size, 0, none⟩) 2 2] (W.alloc (.cells #[.slice q10 na c10, .slice q11 nb c11] 29)) fun e w' => ∃ b' c', e = .returned (.slice (some ⟨b', 0, none⟩) (na + nb) c') ∧ Below w11.heap.size w11 w' ∧ Hid (∀ j u, (izv (RP.2.map (·.2) ++ RQ.2.map (·.2)))[j]? = some u → w'.cell? ⟨b', j, none⟩ = some u)) := fun W hW => by
      have hWa := hW.alloc hW.size (.cells #[.slice q10 na c10, .slice q11 nb c11] 29)
      have la : (izv (RP.2.map (·.2))).length = na := by simp [izv, HNA.out.1]
      have lb : (izv (RQ.2.map (·.2))).length = nb := by simp [izv, HNA.out.2]
      refine (concatI W.heap.size q10 q11 na nb c10 c11 (izv (RP.2.map (·.2))) (izv (RQ.2.map (·.2))) (by rw [la]; omega) (by rw [lb]; omega) _ (by simp) (by simp) (IA.out _ hWa) (IB.out _ hWa) (izv_one _) (izv_one _) (fun h => ⟨by have := hn10 h; omega, hn10 h⟩) (fun h => ⟨by have := hn11 h; omega, hn11 h⟩) (by omega)).mono ?_
      rintro e w' ⟨hb', p', c', rfl, hown⟩
      rcases hown.2 with ⟨e2, e3⟩ | ⟨g, cap, cur, e2, _⟩
      · omega
      · injection e2 with e4 e5 e6
        subst e4
        refine ⟨g, c', rfl, hWa.trans (hb'.mono hWa.size), fun j u hj => ?_⟩
        have hjl := (List.getElem?_eq_some_iff.1 hj).1
        rw [show izv (RP.2.map (·.2) ++ RQ.2.map (·.2)) = izv (RP.2.map (·.2)) ++ izv (RQ.2.map (·.2)) from by simp [izv]] at hj hjl
        rw [hown.cellAt j (by rw [List.length_append, la, lb] at hjl; omega), hj]
    clear IA IB hia11 hib11 hi11 hn10 hn11 hn8 hn9 hn5 hn6
    go_wp2_with fail
    refine (CI.out w13 hb13).mono ?_
    rintro e w14 ⟨b14, c14, rfl, hb14, HC14⟩
    have hbel14 := hbel11.trans (hb14.mono hbel11.size)
    have hIW := IW.out w14 hb14
    obtain ⟨bi, oi, rfl, hii⟩ := hIW (by rw [HLW.out]; simp)
    have hWl : (RW.2.map (·.2)).length = na + nb + 1 := by rw [HLW.out]; simp [HNA.out.1, HNA.out.2]
    have HII : Hid (∀ i, i < na + nb + 1 → w14.cell? ⟨bi, oi + i, none⟩ = some (.int .i64 ((RW.2.map (·.2)).getD i 0))) := fun i hi => hii i (by rw [hWl]; exact hi)
    have HV : Hid (∀ k, k < na + nb → ∃ v u : Int, (izv (RP.2.map (·.2) ++ RQ.2.map (·.2)))[k]? = some (.int .i64 v) ∧ (RW.2.map (·.2)).getD (k + 1) 0 = u ∧ -1 ≤ v ∧ v ≤ 12 ∧ (k < na → u = v + 1) ∧ (na ≤ k → 0 ≤ v → u = v + 1 + (na : Int)) ∧ (na ≤ k → v < 0 → u = v + 1)) := fun k hk => by
      have lP := HNA.out.1
      have lQ := HNA.out.2
      rw [HLW.out, List.map_cons, List.getD_cons_succ, List.map_append, List.map_map, List.map_map, lP]
      by_cases hka : k < na
      · have hkP : k < RP.2.length := by rw [lP]; exact hka
        refine ⟨RP.2[k].2, RP.2[k].2 + 1, ?_, ?_, (HS1.out _ (List.getElem_mem hkP)).1, (HS1.out _ (List.getElem_mem hkP)).2, fun _ => rfl, fun h => by omega, fun h => by omega⟩
        · rw [izv, List.getElem?_map, List.getElem?_append_left (by simpa using hkP), List.getElem?_map, List.getElem?_eq_getElem hkP]; rfl
        · rw [List.getD_eq_getElem?_getD, List.getElem?_append_left (by simpa using hkP), List.getElem?_map, List.getElem?_eq_getElem hkP]; rfl
      · have hkQ : k - na < RQ.2.length := by rw [lQ]; omega
        refine ⟨RQ.2[k - na].2, (if 0 ≤ RQ.2[k - na].2 then RQ.2[k - na].2 + 1 + (na : Int) else RQ.2[k - na].2 + 1), ?_, ?_, (HS2.out _ (List.getElem_mem hkQ)).1, (HS2.out _ (List.getElem_mem hkQ)).2, fun h => by omega, fun _ h => by rw [if_pos h], fun _ h => by rw [if_neg (by omega)]⟩
        · rw [izv, List.getElem?_map, List.getElem?_append_right (by simp [lP]; omega)]
          simp only [List.length_map, lP]
          rw [List.getElem?_map, List.getElem?_eq_getElem hkQ]; rfl
        · rw [List.getD_eq_getElem?_getD, List.getElem?_append_right (by simp [lP]; omega)]
          simp only [List.length_map, lP]
          rw [List.getElem?_map, List.getElem?_eq_getElem hkQ]; rfl
    have ci0 : w14.cell? ⟨bi, oi, none⟩ = some (.int .i64 (-1)) := by
      have := HII.out 0 (by omega)
      rw [HLW.out] at this
      simpa using this
    clear hii hIW IW CI hb13 b0 b11 hWl HLW
    have hr12 : (na : Int) + (nb : Int) + 1 ≤ 12 := by omega
    have hr12' : Hid (na + nb + 1 ≤ 12) := r12
    have hz2 : (0 : Int) < (na : Int) + (nb : Int) + 1 := by omega
    go_wp2_with fail
    go_loopw [102] (fun iv wr => ∃ k : Nat, k ≤ na + nb ∧ iv = .int .i64 k ∧ w14 = wr) (fun iv _ => na + nb - (intOf iv).toNat)
    case atStart => exact ⟨0, Nat.zero_le _, rfl, rfl⟩
    case round =>
      obtain ⟨k, hk, rfl, rfl⟩ := hrel
      by_cases hlt : k < na + nb
      · have hlz : (k : Int) < (na : Int) + (nb : Int) := by omega
        obtain ⟨v, u, hv, hu, v1, v2, e1, e2, e3⟩ := HV.out k hlt
        have cv := HC14.out k _ hv
        have cu := HII.out (k + 1) (by omega)
        rw [hu] at cu
        have hkz1 : (k : Int) + 1 < (na : Int) + (nb : Int) + 1 := by omega
        have hka9 : (k : Int) + 1 ≤ 100 := by omega
        clear hv hu
        by_cases hka : k < na
        · have hkaz : ¬ ((na : Int) ≤ (k : Int)) := by omega
          obtain rfl := e1 hka
          clear e1 e2 e3
          go_wp2_with fail
          go_roundw
          case rel => exact ⟨k + 1, by omega, by go_num, by first | rfl | trivial⟩
          case measure => simp [intOf]; omega
        · have hkaz : (na : Int) ≤ (k : Int) := by omega
          by_cases hv0 : 0 ≤ v
          · obtain rfl := e2 (by omega) hv0
            clear e1 e2 e3
            go_wp2_with fail
            go_roundw
            case rel => exact ⟨k + 1, by omega, by go_num, by first | rfl | trivial⟩
            case measure => simp [intOf]; omega
          · obtain rfl := e3 (by omega) (by omega)
            clear e1 e2 e3
            go_wp2_with fail
            go_roundw
            case rel => exact ⟨k + 1, by omega, by go_num, by first | rfl | trivial⟩
            case measure => simp [intOf]; omega
      · have hlz : ¬ ((k : Int) < (na : Int) + (nb : Int)) := by omega
        clear HV HC14 HII
        go_wp2_with fail
        go_ret
        exact ⟨rfl, hbel14⟩
  · obtain rfl := hbad1 hr
    clear hbad1 hok1 HW
    have hrz : (((RW.1 : Nat) : Int) == 0) = false := by rw [beq_eq_false_iff_ne]; omega
    go_wp2_with fail
    refine (CWW.out w5 b5).mono ?_
    rintro e w6 ⟨b6', hbad2, -⟩
    obtain rfl := hbad2 hr
    have b6 := b5.trans (b6'.mono b5.size)
    clear hbad2 b6' CWW v0 v1 v2 v3 v4 v5 v6
    obtain ⟨r, hrr⟩ : ∃ r, RW.1 = r := ⟨_, rfl⟩
    rw [hrr] at hrz hr
    simp only [hrr]
    clear hrr
    go_wp2_with fail
    refine (parted_any _).mono ?_
    rintro e w7 ⟨rfl, b7'⟩
    have b7 := b6.trans (b7'.mono b6.size)
    go_wp2_with fail
    refine (parted_any _).mono ?_
    rintro e w8 ⟨rfl, b8'⟩
    have b8 := b7.trans (b8'.mono b7.size)
    go_wp2_with fail
    go_ret
    exact ⟨rfl, hbel4.trans (b8.mono hbel4.size)⟩
end Go.Proofs.Ytnmmlbgadibimab
