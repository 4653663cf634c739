/- The walk of the law PartSays: it answers true, and nothing that was there is changed. Conditions: the parts lie there; the first has, with all in it, at most 8,000,000,000,000 parts; the tables of unicode/utf8 lie there. -/
import Derived.Test.YtehiaenicfmpbaaDoorXpartsaysupto11
import Derived.Test.YtehiaenicfmpbaaDoorXpartsaysupto12
import Derived.Test.YtehiaenicfmpbaaDoorXpartsaysupto13
import Derived.Test.YtehiaenicfmpbaaDoorXpartsaysupto15
import Derived.Test.YtehiaenicfmpbaaDoorXpartsaysupto20
import Derived.Test.YtehiaenicfmpbaaDoorXpartsaysupto19
import Derived.Test.YtehiaenicfmpbaaDoorXpartsaysupto21
import Derived.Deep.RegionHeld3
namespace Go.Proofs.YtehiaenicfmpbaaDoor
open Go.RowKit

theorem bool_of (P : Prop) : ∃ D : Bool, (D = true ↔ P) := by
  by_cases h : P
  · exact ⟨true, by simp [h]⟩
  · exact ⟨false, by simp [h]⟩
theorem SamePost.as {p q : PT} {w w' : World} {e : Ending} {D : Bool} (h : SamePost p q w e w') (hD : D = true ↔ p = q) : e = .returned (.bool D) ∧ Below w.heap.size w w' := by
  obtain ⟨b, rfl, hb, hB⟩ := h
  refine ⟨?_, hB⟩
  have : b = D := by rw [Bool.eq_iff_iff, hb, hD]
  rw [this]

/-- What the list of all parts, or of where they are, says: its length, and what lies there. -/
def AllSays (E : Nat) (L : List (PT × Int)) (w : World) (q : Option Addr) (n : Nat) : Prop := (E ≠ 0 → n = 0) ∧ (E = 0 → n = L.length ∧ KAt w 1 q (L.map fun x => x.1.alone))
def InSays (E : Nat) (L : List (PT × Int)) (w : World) (q : Option Addr) (n : Nat) : Prop := (E ≠ 0 → n = 0) ∧ (E = 0 → n = L.length ∧ IRow w q (L.map (·.2)))

theorem lift_below {f : FuncId} {args : Array Value} {v : Value} {w2 w5 : World} (h25 : Below w2.heap.size w2 w5) (h : ∀ w', Below w2.heap.size w2 w' → Calls Tryd.prog f args w' fun e w'' => e = .returned v ∧ Below w'.heap.size w' w'') :
    ∀ w', Below w5.heap.size w5 w' → Calls Tryd.prog f args w' fun e w'' => e = .returned v ∧ Below w5.heap.size w5 w'' := fun w' hb =>
  (h w' (h25.trans (hb.mono h25.size))).mono fun _ _ h => ⟨h.1, hb.trans (h.2.mono hb.size)⟩
theorem IRow.rowN {w : World} {q : Option Addr} {l : List Int} (h : IRow w q l) (n : Nat) (hn : n = l.length) : Row .i64 w q n l := by
  subst hn
  exact ⟨rfl, fun h0 => h (fun e => h0 (by rw [e]; rfl))⟩
theorem flat_len (p : PT) (L : List (PT × Int)) (h : L = (tree 3 p).map (abs 0 (-1))) : L.length = (flatP 3 p).length := by
  rw [h, List.length_map, ← tree_flat, List.length_map]
theorem flat_alone (p : PT) (L : List (PT × Int)) (h : L = (tree 3 p).map (abs 0 (-1))) : (L.map fun x => x.1.alone) = (flatP 3 p).map PT.alone := by
  rw [h, ← tree_flat, List.map_map, List.map_map]
  rfl
theorem in_same (p : PT) (L : List (PT × Int)) (h : L = (tree 3 p).map (abs 0 (-1))) : (tree 3 p).map inOf = L.map (·.2) := by
  rw [h, List.map_map]
  rfl
theorem in_few (p : PT) (h1 : lev 3 p = true) (h2 : (tree 3 p).length ≤ 12) : ∀ x ∈ tree 3 p, inOf x ≤ 1000 := by
  intro x hx
  have hg := good_tree 3 p h1
  generalize tree 3 p = T at *
  obtain ⟨j, hj⟩ := List.getElem?_of_mem hx
  have hjl := (List.getElem?_eq_some_iff.1 hj).1
  by_cases h0 : j = 0
  · subst h0
    rw [hg.1] at hj
    obtain rfl := Option.some.inj hj
    simp [inOf, abs]
  · obtain ⟨k, y, e, hk, _⟩ := hg.2.1 j x (by omega) hj
    obtain ⟨a, b⟩ := x
    simp only at e
    subst e
    show ((0 + k : Nat) : Int) ≤ 1000
    omega

set_option maxHeartbeats 8000000 in
set_option maxRecDepth 100000 in
theorem psays_any (p q : PT) (pb qb : Option Addr) (cb : Nat) (pk qk : Option Addr) (ck cb2 ck2 F F2 : Nat) (s : ByteArray) (w : World) (hs : s.size ≤ maxLen) (hH : PHeld w F p pb cb pk ck) (hH2 : PHeld w F2 q qb cb2 qk ck2) (hN : cnt p ≤ 8000000000000)
    (hT : ∀ w', Below w.heap.size w w' → Lib.Utf8Tabs 4 5 w') :
    Calls Tryd.prog 11 #[.agg #[.string p.ty, .string p.cs, .string p.id, .string p.loc, .int .i64 p.how, .slice pb p.body.length cb, .slice pk p.kids.length ck], .agg #[.string q.ty, .string q.cs, .string q.id, .string q.loc, .int .i64 q.how, .slice qb q.body.length cb2, .slice qk q.kids.length ck2], .string s] w
      fun e w' => e = .returned (.bool true) ∧ Below w.heap.size w w' := by
  obtain ⟨w2, hw2⟩ : ∃ w2, (w.alloc (.cells #[.string p.ty, .string p.cs, .string p.id, .string p.loc, .int .i64 p.how, .slice pb p.body.length cb, .slice pk p.kids.length ck] 65)).alloc (.cells #[.string q.ty, .string q.cs, .string q.id, .string q.loc, .int .i64 q.how, .slice qb q.body.length cb2, .slice qk q.kids.length ck2] 65) = w2 := ⟨_, rfl⟩
  have hb2 : Below w.heap.size w w2 := by rw [← hw2]; exact ((Below.refl _ _).alloc (Nat.le_refl _) _).alloc (by simp) _
  have mk : ∀ (a : Addr) (v : Value), w2.cell? a = some v → ∀ w', Below w2.heap.size w2 w' → w'.cell? a = some v := fun a v h w' hb => (hb.cell (World.block_lt_of_cell? w2 _ h)).trans h
  have x0 := mk ⟨w.heap.size, 0, none⟩ (.string p.ty) (by rw [← hw2]; simp)
  have x1 := mk ⟨w.heap.size, 1, none⟩ (.string p.cs) (by rw [← hw2]; simp)
  have x2 := mk ⟨w.heap.size, 2, none⟩ (.string p.id) (by rw [← hw2]; simp)
  have x3 := mk ⟨w.heap.size, 3, none⟩ (.string p.loc) (by rw [← hw2]; simp)
  have x4 := mk ⟨w.heap.size, 4, none⟩ (.int .i64 p.how) (by rw [← hw2]; simp)
  have x5 := mk ⟨w.heap.size, 5, none⟩ (.slice pb p.body.length cb) (by rw [← hw2]; simp)
  have x6 := mk ⟨w.heap.size, 6, none⟩ (.slice pk p.kids.length ck) (by rw [← hw2]; simp)
  have y0 := mk ⟨w.heap.size + 1, 0, none⟩ (.string q.ty) (by rw [← hw2]; simp)
  have y1 := mk ⟨w.heap.size + 1, 1, none⟩ (.string q.cs) (by rw [← hw2]; simp)
  have y2 := mk ⟨w.heap.size + 1, 2, none⟩ (.string q.id) (by rw [← hw2]; simp)
  have y3 := mk ⟨w.heap.size + 1, 3, none⟩ (.string q.loc) (by rw [← hw2]; simp)
  have y4 := mk ⟨w.heap.size + 1, 4, none⟩ (.int .i64 q.how) (by rw [← hw2]; simp)
  have y5 := mk ⟨w.heap.size + 1, 5, none⟩ (.slice qb q.body.length cb2) (by rw [← hw2]; simp)
  have y6 := mk ⟨w.heap.size + 1, 6, none⟩ (.slice qk q.kids.length ck2) (by rw [← hw2]; simp)
  clear mk
  have tr : ∀ {w' w'' : World}, Below w2.heap.size w2 w' → Below w'.heap.size w' w'' → Below w2.heap.size w2 w'' := fun h1 h2 => h1.trans (h2.mono h1.size)
  have hHb : ∀ w', Below w2.heap.size w2 w' → PHeld w' F p pb cb pk ck := fun w' hb => hH.below (hb2.trans (hb.mono hb2.size))
  have hHb2 : ∀ w', Below w2.heap.size w2 w' → PHeld w' F2 q qb cb2 qk ck2 := fun w' hb => hH2.below (hb2.trans (hb.mono hb2.size))
  have hTb : ∀ w', Below w2.heap.size w2 w' → ∀ w'', Below w'.heap.size w' w'' → Lib.Utf8Tabs 4 5 w'' := fun w' h1 w'' h2 => hT _ (hb2.trans ((tr h1 h2).mono hb2.size))
  obtain ⟨D, hD⟩ := bool_of (p = q)
  obtain ⟨R, hR⟩ : ∃ R, placesP p = R := ⟨_, rfl⟩
  obtain ⟨E, L⟩ := R
  have CAll : Hid (∀ w', Below w2.heap.size w2 w' → Calls Tryd.prog 53 #[.agg #[.string p.ty, .string p.cs, .string p.id, .string p.loc, .int .i64 p.how, .slice pb p.body.length cb, .slice pk p.kids.length ck]] w' fun e w'' => ∃ q n c, e = .returned (.tuple #[.slice q n c, .int .i64 (E : Int)]) ∧ Below w2.heap.size w2 w'' ∧ Hid (AllSays E L w'' q n)) := fun w' hb => by
    refine (all_any p pb cb pk ck F w' (hHb w' hb)).mono ?_
    rintro e w'' ⟨h1, h2, h3⟩
    rw [hR] at h2 h3
    by_cases h0 : E = 0
    · obtain ⟨q, c, rfl, _, _, _, hk⟩ := h3 h0
      exact ⟨q, _, c, by rw [h0]; rfl, tr hb h1, fun h => absurd h0 h, fun _ => ⟨rfl, hk⟩⟩
    · exact ⟨none, 0, 0, h2 h0, tr hb h1, fun _ => rfl, fun h => absurd h h0⟩
  have CIn : Hid (∀ w', Below w2.heap.size w2 w' → Calls Tryd.prog 54 #[.agg #[.string p.ty, .string p.cs, .string p.id, .string p.loc, .int .i64 p.how, .slice pb p.body.length cb, .slice pk p.kids.length ck]] w' fun e w'' => ∃ q n c, e = .returned (.tuple #[.slice q n c, .int .i64 (E : Int)]) ∧ Below w2.heap.size w2 w'' ∧ Hid (Below w'.heap.size w' w'') ∧ Hid (InSays E L w'' q n)) := fun w' hb => by
    refine (within_any p pb cb pk ck F w' (hHb w' hb)).mono ?_
    rintro e w'' ⟨h1, h2, h3⟩
    rw [hR] at h2 h3
    by_cases h0 : E = 0
    · obtain ⟨q, c, rfl, _, _, _, hk⟩ := h3 h0
      exact ⟨q, _, c, by rw [h0]; rfl, tr hb h1, h1, fun h => absurd h0 h, fun _ => ⟨rfl, hk⟩⟩
    · exact ⟨none, 0, 0, h2 h0, tr hb h1, h1, fun _ => rfl, fun h => absurd h h0⟩
  have CCp : Hid (∀ w', Below w2.heap.size w2 w' → Calls Tryd.prog 55 #[.agg #[.string p.ty, .string p.cs, .string p.id, .string p.loc, .int .i64 p.how, .slice pb p.body.length cb, .slice pk p.kids.length ck]] w' fun e w'' => e = .returned (.int .i64 (E : Int)) ∧ Below w2.heap.size w2 w'' ∧ Hid (Below w'.heap.size w' w'')) := fun w' hb => by
    refine (rcheck_any F p pb cb pk ck w' (hHb w' hb) (hTb w' hb)).mono ?_
    rintro e w'' ⟨rfl, h1⟩
    refine ⟨?_, tr hb h1, h1⟩
    rw [checkP_places, hR]
  have CCk : Hid (∀ w', Below w2.heap.size w2 w' → Calls Tryd.prog 57 #[.agg #[.string p.ty, .string p.cs, .string p.id, .string p.loc, .int .i64 p.how, .slice pb p.body.length cb, .slice pk p.kids.length ck]] w' fun e w'' => e = .returned (.int .i64 (E : Int)) ∧ Below w'.heap.size w' w'') := fun w' hb => by
    refine (pcheck_any p pb cb pk ck F w' (hHb w' hb)).mono ?_
    rintro e w'' ⟨rfl, h1⟩
    refine ⟨?_, h1⟩
    rw [hR]
  have CSm : Hid (∀ w', Below w2.heap.size w2 w' → Calls Tryd.prog 58 #[.agg #[.string p.ty, .string p.cs, .string p.id, .string p.loc, .int .i64 p.how, .slice pb p.body.length cb, .slice pk p.kids.length ck], .agg #[.string q.ty, .string q.cs, .string q.id, .string q.loc, .int .i64 q.how, .slice qb q.body.length cb2, .slice qk q.kids.length ck2]] w' fun e w'' => e = .returned (.bool D) ∧ Below w'.heap.size w' w'') := fun w' hb => by
    refine (same_any p q pb qb cb pk qk ck cb2 ck2 F F2 w' (hHb w' hb) (hHb2 w' hb) hN).mono fun e w'' h => ?_
    exact h.as hD
  have CSr : Hid (∀ w', Below w2.heap.size w2 w' → Calls Tryd.prog 59 #[.agg #[.string p.ty, .string p.cs, .string p.id, .string p.loc, .int .i64 p.how, .slice pb p.body.length cb, .slice pk p.kids.length ck], .agg #[.string q.ty, .string q.cs, .string q.id, .string q.loc, .int .i64 q.how, .slice qb q.body.length cb2, .slice qk q.kids.length ck2]] w' fun e w'' => e = .returned (.bool D) ∧ Below w'.heap.size w' w'') := fun w' hb => by
    refine (rsame_any F p q pb qb cb pk qk ck cb2 ck2 F2 w' (hHb w' hb) (hHb2 w' hb)).mono fun e w'' h => ?_
    exact h.as hD
  have CPd : Hid (∀ w', Below w2.heap.size w2 w' → Calls Tryd.prog 56 #[] w' fun e w'' => e = .returned (.bool true) ∧ Below w'.heap.size w' w'') := fun w' _ => parted_any w'
  have CTy : Hid (∀ w', Below w2.heap.size w2 w' → Calls Tryd.prog 60 #[.string s] w' fun e w'' => e = .returned (.bool (typeS s.data.toList)) ∧ Below w'.heap.size w' w'') := fun w' _ => ptype_any s w' hs
  have CTr : Hid (∀ w', Below w2.heap.size w2 w' → Calls Tryd.prog 61 #[.string s] w' fun e w'' => e = .returned (.bool (typeS s.data.toList)) ∧ Below w'.heap.size w' w'') := fun w' hb => rtype_any s w' hs (hTb w' hb)
  have CMy : Hid (∀ w', Below w2.heap.size w2 w' → Calls Tryd.prog 62 #[.string s] w' fun e w'' => e = .returned (.bool (manyS s.data.toList)) ∧ Below w'.heap.size w' w'') := fun w' _ => (pmany_any s w').mono fun e w'' h => ⟨h.1, by rw [h.2]; exact Below.refl _ _⟩
  have CMr : Hid (∀ w', Below w2.heap.size w2 w' → Calls Tryd.prog 63 #[.string s] w' fun e w'' => e = .returned (.bool (manyS s.data.toList)) ∧ Below w'.heap.size w' w'') := fun w' _ => (rmany_any s w' hs).mono fun e w'' h => ⟨h.1, by rw [h.2]; exact Below.refl _ _⟩
  have CWy : Hid (∀ w', Below w2.heap.size w2 w' → Calls Tryd.prog 64 #[.string s] w' fun e w'' => e = .returned (.bool (wordS s.data.toList)) ∧ Below w'.heap.size w' w'') := fun w' _ => pword_any s w' hs
  have CWr : Hid (∀ w', Below w2.heap.size w2 w' → Calls Tryd.prog 65 #[.string s] w' fun e w'' => e = .returned (.bool (wordS s.data.toList)) ∧ Below w'.heap.size w' w'') := fun w' _ => (rword_any s w' hs).mono fun e w'' h => ⟨h.1, by rw [h.2]; exact Below.refl _ _⟩
  have HE : Hid (E = 0 → lev 3 p = true ∧ (tree 3 p).length ≤ 12 ∧ L = (tree 3 p).map (abs 0 (-1))) := fun h0 => by
    have h := places_ok p (by rw [hR]; exact h0)
    rw [hR] at h
    exact ⟨h.1, h.2.1, h.2.2.1⟩
  have CFl : Hid (E = 0 → ∀ w', Below w2.heap.size w2 w' → Calls Tryd.prog 66 #[.agg #[.string p.ty, .string p.cs, .string p.id, .string p.loc, .int .i64 p.how, .slice pb p.body.length cb, .slice pk p.kids.length ck]] w' fun e w'' => FlatPost F (flatP 3 p) w' e w'') := fun h0 w' hb => by
    obtain ⟨h1, h2, _⟩ := HE.out h0
    have h3 : (flatP 3 p).length ≤ 1000 := by rw [← tree_flat, List.length_map]; omega
    exact flat_any 3 F p pb cb pk ck w' h1 h3 (hHb w' hb)
  have CWh : Hid (E = 0 → ∀ w', Below w2.heap.size w2 w' → Calls Tryd.prog 69 #[.agg #[.string p.ty, .string p.cs, .string p.id, .string p.loc, .int .i64 p.how, .slice pb p.body.length cb, .slice pk p.kids.length ck]] w' fun e w'' => WhichPost ((tree 3 p).map inOf) w' e w'') := fun h0 w' hb => by
    obtain ⟨h1, h2, _⟩ := HE.out h0
    exact which_any 3 F p pb cb pk ck w' h1 (by omega) (in_few p h1 h2) (hHb w' hb)
  have hb2' : Hid (Below w.heap.size w w2) := hb2
  clear hTb hHb hHb2 tr hD hR hb2 hH hH2 hT
  generalize typeS s.data.toList = T1 at *
  generalize manyS s.data.toList = T2 at *
  generalize wordS s.data.toList = T3 at *
  go_enter Tryd.func11, Tryd.ntmps11
  have b2 : Below w2.heap.size w2 w2 := Below.refl _ _
  go_wp2_with fail
  refine (CAll.out _ b2).mono ?_
  rintro e w3 ⟨qa, na, ca, rfl, hb3, HAl⟩
  clear CAll hw2
  go_wp2_with fail
  refine (CIn.out _ hb3).mono ?_
  rintro e w4 ⟨qi, ni, ci, rfl, hb4, HB34, HIn⟩
  clear CIn
  go_wp2_with fail
  refine (CCp.out _ hb4).mono ?_
  rintro e w5 ⟨rfl, hb5, HB45⟩
  clear CCp
  go_wp2_with fail
  have T5 : ∀ w', Below w5.heap.size w5 w' → Below w2.heap.size w2 w' := fun w' h => hb5.trans (h.mono hb5.size)
  have CPd5 : Hid _ := lift_below hb5 CPd.out
  have CCk5 : Hid _ := lift_below hb5 CCk.out
  have CSm5 : Hid _ := lift_below hb5 CSm.out
  have CSr5 : Hid _ := lift_below hb5 CSr.out
  have CTy5 : Hid _ := lift_below hb5 CTy.out
  have CTr5 : Hid _ := lift_below hb5 CTr.out
  have CMy5 : Hid _ := lift_below hb5 CMy.out
  have CMr5 : Hid _ := lift_below hb5 CMr.out
  have CWy5 : Hid _ := lift_below hb5 CWy.out
  have CWr5 : Hid _ := lift_below hb5 CWr.out
  replace x0 := fun w' h => x0 w' (T5 w' h)
  replace x1 := fun w' h => x1 w' (T5 w' h)
  replace x2 := fun w' h => x2 w' (T5 w' h)
  replace x3 := fun w' h => x3 w' (T5 w' h)
  replace x4 := fun w' h => x4 w' (T5 w' h)
  replace x5 := fun w' h => x5 w' (T5 w' h)
  replace x6 := fun w' h => x6 w' (T5 w' h)
  replace y0 := fun w' h => y0 w' (T5 w' h)
  replace y1 := fun w' h => y1 w' (T5 w' h)
  replace y2 := fun w' h => y2 w' (T5 w' h)
  replace y3 := fun w' h => y3 w' (T5 w' h)
  replace y4 := fun w' h => y4 w' (T5 w' h)
  replace y5 := fun w' h => y5 w' (T5 w' h)
  replace y6 := fun w' h => y6 w' (T5 w' h)
  have T5' : Hid (∀ w', Below w5.heap.size w5 w' → Below w2.heap.size w2 w') := T5
  have c5 : Below w5.heap.size w5 w5 := Below.refl _ _
  clear CPd CCk CSm CSr CTy CTr CMy CMr CWy CWr b2 hb3 hb4 hb5 T5
  go_region_held3 (fun w' => Below w5.heap.size w5 w') (first | assumption | exact c5.drew) (first
    | (go_at_call 56; refine (CPd5.out _ (by first | assumption | exact c5.drew)).mono ?_; rintro e wa ⟨rfl, hba⟩)
    | (go_at_call 57; refine (CCk5.out _ (by first | assumption | exact c5.drew)).mono ?_; rintro e wa ⟨rfl, hba⟩)
    | (go_at_call 58; refine (CSm5.out _ (by first | assumption | exact c5.drew)).mono ?_; rintro e wa ⟨rfl, hba⟩)
    | (go_at_call 59; refine (CSr5.out _ (by first | assumption | exact c5.drew)).mono ?_; rintro e wa ⟨rfl, hba⟩)
    | (go_at_call 60; refine (CTy5.out _ (by first | assumption | exact c5.drew)).mono ?_; rintro e wa ⟨rfl, hba⟩)
    | (go_at_call 61; refine (CTr5.out _ (by first | assumption | exact c5.drew)).mono ?_; rintro e wa ⟨rfl, hba⟩)
    | (go_at_call 62; refine (CMy5.out _ (by first | assumption | exact c5.drew)).mono ?_; rintro e wa ⟨rfl, hba⟩)
    | (go_at_call 63; refine (CMr5.out _ (by first | assumption | exact c5.drew)).mono ?_; rintro e wa ⟨rfl, hba⟩)
    | (go_at_call 64; refine (CWy5.out _ (by first | assumption | exact c5.drew)).mono ?_; rintro e wa ⟨rfl, hba⟩)
    | (go_at_call 65; refine (CWr5.out _ (by first | assumption | exact c5.drew)).mono ?_; rintro e wa ⟨rfl, hba⟩))
  clear CPd5 CCk5 CSm5 CSr5 CTy5 CTr5 CMy5 CMr5 CWy5 CWr5 y0 y1 y2 y3 y4 y5 y6
  by_cases hE : E = 0
  · have hEb : ((E : Int) != 0) = false := by rw [hE]; rfl
    have HAl' := HAl.out.2 hE
    have HIn' := HIn.out.2 hE
    obtain ⟨hna, hka⟩ := HAl'
    obtain ⟨hni, hki⟩ := HIn'
    obtain ⟨hlev, h12, hL⟩ := HE.out hE
    have hT3 : Below w2.heap.size w2 wa := T5'.out wa hba
    have h3a : Below w3.heap.size w3 wa := (HB34.out.trans (HB45.out.mono HB34.out.size)).trans (hba.mono (HB34.out.trans (HB45.out.mono HB34.out.size)).size)
    have h4a : Below w4.heap.size w4 wa := HB45.out.trans (hba.mono HB45.out.size)
    have HKa : Hid (KAt wa 1 qa (L.map fun x => x.1.alone)) := KAt.below h3a _ _ _ hka
    have HKi : Hid (IRow wa qi (L.map (·.2))) := hki.below h4a
    have CFl' : Hid (Calls Tryd.prog 66 #[.agg #[.string p.ty, .string p.cs, .string p.id, .string p.loc, .int .i64 p.how, .slice pb p.body.length cb, .slice pk p.kids.length ck]] wa fun e w'' => FlatPost F (flatP 3 p) wa e w'') := CFl.out hE wa hT3
    have CWh' : Hid (∀ w', Below w2.heap.size w2 w' → Calls Tryd.prog 69 #[.agg #[.string p.ty, .string p.cs, .string p.id, .string p.loc, .int .i64 p.how, .slice pb p.body.length cb, .slice pk p.kids.length ck]] w' fun e w'' => WhichPost ((tree 3 p).map inOf) w' e w'') := CWh.out hE
    have HLen : Hid (na = L.length ∧ ni = L.length ∧ L = (tree 3 p).map (abs 0 (-1)) ∧ (tree 3 p).length ≤ 12) := ⟨hna, hni, hL, h12⟩
    have z0 := x0 wa hba
    have z1 := x1 wa hba
    have z2 := x2 wa hba
    have z3 := x3 wa hba
    have z4 := x4 wa hba
    have z5 := x5 wa hba
    have z6 := x6 wa hba
    have HX : Hid (∀ w', Below wa.heap.size wa w' → w'.cell? ⟨w.heap.size, 0, none⟩ = some (.string p.ty) ∧ w'.cell? ⟨w.heap.size, 1, none⟩ = some (.string p.cs) ∧ w'.cell? ⟨w.heap.size, 2, none⟩ = some (.string p.id) ∧ w'.cell? ⟨w.heap.size, 3, none⟩ = some (.string p.loc) ∧ w'.cell? ⟨w.heap.size, 4, none⟩ = some (.int .i64 p.how) ∧ w'.cell? ⟨w.heap.size, 5, none⟩ = some (.slice pb p.body.length cb) ∧ w'.cell? ⟨w.heap.size, 6, none⟩ = some (.slice pk p.kids.length ck)) := fun w' hb => by
      have h := hba.trans (hb.mono hba.size)
      exact ⟨x0 w' h, x1 w' h, x2 w' h, x3 w' h, x4 w' h, x5 w' h, x6 w' h⟩
    have HT3 : Hid (Below w2.heap.size w2 wa) := hT3
    clear HAl HIn hna hka hni hki hlev h12 hL h3a h4a CFl CWh HE x0 x1 x2 x3 x4 x5 x6 hT3 HB34 HB45 c5
    go_wp2_with fail
    refine CFl'.out.mono ?_
    rintro e w6 ⟨qf, cf, rfl, hb6, hnn, hlc, hcm, -, Z, hZl, hownZ, hZh⟩
    clear CFl'
    have hpos : 0 < (flatP 3 p).length := by rw [flatP_succ]; simp
    have hZn : Z.length = (flatP 3 p).length := by rw [← hZl, List.length_map]
    have hla := flat_len p L HLen.out.2.2.1
    have hnf12 : (flatP 3 p).length ≤ 12 := by rw [← hla, HLen.out.2.2.1, List.length_map]; exact HLen.out.2.2.2
    obtain ⟨g, rfl⟩ : ∃ g, qf = some ⟨g, 0, none⟩ := by
      rcases hownZ.2 with ⟨_, h0⟩ | ⟨g, cap, cur, hv, _⟩
      · omega
      · cases hv; exact ⟨g, rfl⟩
    have hgB : wa.heap.size ≤ g := (hownZ.lt g rfl).1
    have HZl : Hid (Z.map (·.1) = flatP 3 p) := hZl
    have HAl : Hid (∀ z ∈ Z, Alone w6 z) := fun z hz => Alone.of (hZh z hz)
    have HOw : Hid (w6.ownsRow wa.heap.size 65 7 (.slice (some ⟨g, 0, none⟩) (flatP 3 p).length cf) (flatP 3 p).length (pzv Z)) := hownZ
    have hna : na = (flatP 3 p).length := by rw [HLen.out.1]; exact hla
    have hni : ni = (flatP 3 p).length := by rw [HLen.out.2.1]; exact hla
    obtain ⟨nf, hnf⟩ : ∃ nf, (flatP 3 p).length = nf := ⟨_, rfl⟩
    rw [hnf] at hpos hZn hla hnf12 HOw hna hni hlc
    simp only [hnf]
    obtain rfl : na = nf := hna
    obtain rfl : ni = na := hni
    have HNs : Hid (Z.length = ni ∧ L.length = ni) := ⟨hZn, hla⟩
    clear hZl hownZ hZh hnf hnn hla hZn
    go_wp2_with fail
    go_loopw [86] (fun iv wr => ∃ k : Nat, k ≤ ni ∧ iv = .int .i64 k ∧ Below wa.heap.size wa wr ∧ Hid (wr.ownsRow wa.heap.size 65 7 (.slice (some ⟨g, 0, none⟩) ni cf) ni (pzv (clrs k Z))) ∧ Hid (∀ z ∈ Z, Alone wr z)) (fun iv _ => ni - (intOf iv).toNat)
    case atStart => exact ⟨0, Nat.zero_le _, rfl, hb6, HOw, HAl⟩
    case round =>
      obtain ⟨k, hk, rfl, hbr, HO, HA⟩ := hrel
      clear HOw HAl hb6
      by_cases hlt : k < ni
      · have hlz : (k : Int) < (ni : Int) := by omega
        obtain ⟨a7, n7, c7, h7⟩ := pz_seventh (clrs k Z) k (by rw [clrs_length k Z (by rw [HNs.out.1]; omega), HNs.out.1]; exact hlt)
        have hc7 : wr.cell? ⟨g, k * 7 + 6, none⟩ = some (.slice a7 n7 c7) := by rw [HO.out.cellAt (k * 7 + 6) (by omega)]; exact h7
        have hf7 : wr.frozen? ⟨g, k * 7 + 6, none⟩ = false := HO.out.frozenAt (k * 7 + 6)
        have HO2 : Hid ((wr.setCell ⟨g, k * 7 + 6, none⟩ (.slice none 0 0)).ownsRow wa.heap.size 65 7 (.slice (some ⟨g, 0, none⟩) ni cf) ni (pzv (clrs (k + 1) Z))) := by
          have := (HO.out.stored (k * 7 + 6) (.slice none 0 0)).1
          rw [clrs_set k Z (by rw [HNs.out.1]; exact hlt)] at this
          exact this
        have HA2 : Hid (∀ z ∈ Z, Alone (wr.setCell ⟨g, k * 7 + 6, none⟩ (.slice none 0 0)) z) := fun z hz => (HA.out z hz).kept hc7 _
        have hbr2 : Below wa.heap.size wa (wr.setCell ⟨g, k * 7 + 6, none⟩ (.slice none 0 0)) := hbr.setCell hgB _
        clear h7 HO HA
        go_wp2_with fail
        go_roundw
        case rel => exact ⟨k + 1, by omega, by go_num, hbr2, HO2, HA2⟩
        case measure => simp [intOf]; omega
      · have hlz : ¬ ((k : Int) < (ni : Int)) := by omega
        obtain rfl : k = ni := by omega
        have hcl : clrs k Z = Z.map clr := by rw [← HNs.out.1]; exact clrs_all Z
        rw [hcl] at HO
        obtain ⟨Y, hY1, hY2, hY3⟩ := (KAt.below hbr _ _ _ HKa.out).list
        obtain ⟨pz, cz, hpz, _, _, _, hcz⟩ := owned_cells HO.out
        cases hpz
        have hYZ : Y.map (·.1) = (Z.map clr).map (·.1) := by
          rw [hY1, flat_alone p L HLen.out.2.2.1, ← HZl.out, List.map_map, List.map_map]
          rfl
        have CEq : Hid (Calls Tryd.prog 67 #[.slice qa k ca, .slice (some ⟨g, 0, none⟩) k cf, .func (Fn.func 59) #[] #[]] wr fun e w' => e = .returned (.bool true) ∧ Below wr.heap.size wr w') := by
          refine eqSameR_any qa (some ⟨g, 0, none⟩) k ca cf Y (Z.map clr) ?_ ?_ wr (by omega) hY2 hcz ?_
          · have := congrArg List.length hY1
            rw [List.length_map, List.length_map, HNs.out.2] at this
            exact this.symm
          · rw [List.length_map, HNs.out.1]
          · intro i y z hy hz w' hb
            have hyz : y.1 = z.1 := by
              have h1 := congrArg (·[i]?) hYZ
              simp only [List.getElem?_map] at h1
              rw [hy, ← List.getElem?_map, hz] at h1
              exact Option.some.inj h1
            have hzm : z ∈ Z.map clr := List.mem_of_getElem? hz
            obtain ⟨z', hz', rfl⟩ := List.mem_map.1 hzm
            refine (rsame_any 0 y.1 (clr z').1 y.2.1.1 (clr z').2.1.1 y.2.1.2 y.2.2.1 (clr z').2.2.1 y.2.2.2 (clr z').2.1.2 (clr z').2.2.2 0 w' ((hY3 y (List.mem_of_getElem? hy)).below hb) (PHeld.below (HA.out z' hz') hb)).mono fun e w'' h => ?_
            have := h.as (D := true) (by simp [hyz])
            exact this
        have HW : Hid (∀ w', Below wr.heap.size wr w' → Below wa.heap.size wa w') := fun w' h => hbr.trans (h.mono hbr.size)
        clear hYZ hcz hcl hY1 hY2 hY3 HO HA HKa
        go_wp2_with fail
        refine CEq.out.mono ?_
        rintro e w8 ⟨rfl, hb8⟩
        clear CEq
        have h8a := HW.out w8 hb8
        obtain ⟨u0, u1, u2, u3, u4, u5, u6⟩ := HX.out w8 h8a
        have h82 : Below w2.heap.size w2 w8 := HT3.out.trans (h8a.mono HT3.out.size)
        go_wp2_with fail
        refine (CWh'.out w8 h82).mono ?_
        rintro e w9 ⟨g9, c9, rfl, hb9, own9⟩
        have hin := in_same p L HLen.out.2.2.1
        have hln : ((tree 3 p).map inOf).length = k := by rw [hin, List.length_map, HNs.out.2]
        have h9a : Below wa.heap.size wa w9 := h8a.trans (hb9.mono h8a.size)
        have CQ : Hid (Calls Tryd.prog 68 #[.slice qi k ci, .slice (some ⟨g9, 0, none⟩) k c9] w9 fun e w' => e = .returned (.bool true) ∧ Below w9.heap.size w9 w') := by
          obtain ⟨p9, c9', hv, _, _, _, hrow⟩ := owned_ints own9
          cases hv
          refine (equalInts qi (some ⟨g9, 0, none⟩) k k ci c9 (L.map (·.2)) ((tree 3 p).map inOf) w9 (by unfold maxLen; omega) (by unfold maxLen; omega) ((HKi.out.below h9a).rowN k (by rw [List.length_map, HNs.out.2])) (hrow.rowN k hln.symm)).mono ?_
          rintro e w' ⟨rfl, q9, rfl⟩
          exact ⟨ret_bool (by rw [hin]; simp), below_drewN' (Below.refl _ _) q9⟩
        have HF9 : Hid (Below w.heap.size w w9) := by
          have h29 : Below w2.heap.size w2 w9 := HT3.out.trans (h9a.mono HT3.out.size)
          exact hb2'.out.trans (h29.mono hb2'.out.size)
        simp only [hln]
        clear own9 hin HKi CWh' HX u0 u1 u2 u3 u4 u5 u6 hln
        go_wp2_with fail
        refine CQ.out.mono ?_
        rintro e w10 ⟨rfl, hb10⟩
        clear CQ
        go_wp2_with fail
        go_ret
        exact ⟨rfl, HF9.out.trans (hb10.mono HF9.out.size)⟩
  · have hEb : ((E : Int) != 0) = true := by simp; exact hE
    have hEz : ¬ ((E : Int) = 0) := by omega
    obtain rfl : na = 0 := HAl.out.1 hE
    obtain rfl : ni = 0 := HIn.out.1 hE
    clear HAl HIn CFl CWh HE HB34 HB45 x0 x1 x2 x3 x4 x5 x6 hE
    go_wp2_with fail
    go_ret
    exact ⟨rfl, hb2'.out.trans ((T5'.out wa hba).mono hb2'.out.size)⟩
end Go.Proofs.YtehiaenicfmpbaaDoor
