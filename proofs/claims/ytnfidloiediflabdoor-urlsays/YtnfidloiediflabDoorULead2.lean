/- url.completed, url.Lead, all their ways: what the plain functions say; nothing that was there is changed. Conditions: the texts are no longer than a text can be; internal/bytealg.MaxLen holds a number. -/
import Derived.Test.YtnfidloiediflabDoorULead
namespace Go.Proofs.YtnfidloiediflabDoor
open Go.RowKit

theorem data_bar (l : List UInt8) : (bar l).data.toList = l := rfl
theorem app_bar (a : ByteArray) (l : List UInt8) (b : ByteArray) (h : a.data.toList = l) : a ++ b = bar (l ++ b.data.toList) := by
  apply ba_inj
  rw [data_app, h]
  rfl

/-- url.completed. -/
theorem ucomp_any (b u : UV) (hb : b.short 120) (hu : u.short 120) (w : World) :
    Calls Tryd.prog 38 #[b.v, u.v] w fun e w' => e = .returned ((ofL (compU b.l u.l)).v) ∧ Below w.heap.size w w' := by
  obtain ⟨bs, bhh, bh, bp, bhq, bq, bhf, bf⟩ := b
  obtain ⟨us, uhh, uh, up, uhq, uq, uhf, uf⟩ := u
  obtain ⟨_, _, hbp, _, _⟩ := hb
  obtain ⟨_, _, hup, _, _⟩ := hu
  simp only at hbp hup
  cases uhh with
  | true => exact comp_H bs bh bp bq bf us uh up uq uf bhh bhq bhf uhq uhf w
  | false =>
    by_cases hpe : up.data.toList = []
    · obtain rfl := bempty_yes up hpe
      cases uhq with
      | true => exact comp_E1 bs bh bp bq bf us uh uq uf bhh bhq bhf uhf w
      | false => exact comp_E2 bs bh bp bq bf us uh uq uf bhh bhq bhf uhf w
    · have he := bempty_no up hpe
      have h0 := pos_no up hpe
      have hps := preS_at up h0
      have hce : compU (UV.l ⟨bs, bhh, bh, bp, bhq, bq, bhf, bf⟩) (UV.l ⟨us, false, uh, up, uhq, uq, uhf, uf⟩) = if preS up.data.toList then ⟨bs.data.toList, bhh, bh.data.toList, up.data.toList, uhq, uq.data.toList, uhf, uf.data.toList⟩ else if bhh && bp.data.toList.isEmpty then ⟨bs.data.toList, bhh, bh.data.toList, 47 :: up.data.toList, uhq, uq.data.toList, uhf, uf.data.toList⟩ else ⟨bs.data.toList, bhh, bh.data.toList, dirP bp.data.toList ++ up.data.toList, uhq, uq.data.toList, uhf, uf.data.toList⟩ := by
        unfold compU UV.l
        simp only
        rw [if_neg (by simp), if_neg (by rw [isE_no up hpe]; simp)]
      rw [hce]
      cases h1 : ((up[0].toNat : Int) == 47) with
      | true =>
        rw [hps, h1, if_pos rfl]
        exact comp_S bs bh bp bq bf us uh up uq uf bhh bhq bhf uhq uhf he h0 h1 w
      | false =>
        rw [hps, h1, if_neg (by simp)]
        have last : ∀ W, Calls Tryd.prog 77 #[.string bp, .int .u8 47] W fun e w' => e = .returned (.int .i64 (Lib.lastIndexByte bp 47)) ∧ w' = W := fun W => Tryd.strings_LastIndexByte bp 47 (by omega) W
        obtain ⟨d1, d2, d3⟩ := last_dir bp
        have hD : bp.extract 0 (Lib.lastIndexByte bp 47 + 1).toNat = bar (dirP bp.data.toList) := by
          apply ba_inj
          rw [Lib.extract_data, d3]
          simp [bar]
        have hDs : (bar (dirP bp.data.toList)).size ≤ 1000 := by
          rw [bar_size, d3, List.length_take]
          have := Lib.size_eq bp
          omega
        have hk : Lib.lastIndexByte bp 47 + 1 = (((Lib.lastIndexByte bp 47 + 1).toNat : Nat) : Int) := by omega
        cases bhh with
        | true =>
          by_cases hbe : bp.data.toList = []
          · obtain rfl := bempty_yes bp hbe
            rw [if_pos (by rfl)]
            refine (comp_B bs bh bq bf us uh up uq uf bhq bhf uhq uhf he h0 h1 (by omega) w).mono ?_
            rintro e w' ⟨rfl, hb⟩
            refine ⟨?_, hb⟩
            rw [app_bar ⟨#[47]⟩ [47] up rfl]
            rfl
          · rw [if_neg (by rw [isE_no bp hbe]; simp)]
            refine (comp_R1 bs bh bp bq bf us uh up uq uf bhq bhf uhq uhf he h0 h1 (by omega) (by omega) _ _ hk d1 _ hD hDs (bempty_no bp hbe) last w).mono ?_
            rintro e w' ⟨rfl, hb⟩
            refine ⟨?_, hb⟩
            rw [app_bar (bar (dirP bp.data.toList)) _ up rfl]
            rfl
        | false =>
          rw [if_neg (by simp)]
          refine (comp_R0 bs bh bp bq bf us uh up uq uf bhq bhf uhq uhf he h0 h1 (by omega) (by omega) _ _ hk d1 _ hD hDs last w).mono ?_
          rintro e w' ⟨rfl, hb⟩
          refine ⟨?_, hb⟩
          rw [app_bar (bar (dirP bp.data.toList)) _ up rfl]
          rfl

/-- How long parts are, with their strokes. -/
def tot (xs : List (List UInt8)) : Nat := (xs.map fun x => x.length + 1).sum
theorem tot_app (a b : List (List UInt8)) : tot (a ++ b) = tot a + tot b := by simp [tot]
theorem tot_cons (a : List UInt8) (b : List (List UInt8)) : tot (a :: b) = a.length + 1 + tot b := by simp [tot]
theorem tot_nil : tot [] = 0 := rfl
theorem tot_back (s : List UInt8) (left : List (List UInt8)) : tot (backP s left) ≤ tot left := by
  unfold backP
  split
  · rcases List.eq_nil_or_concat left with rfl | ⟨l, y, rfl⟩
    · exact Nat.le_refl _
    · rw [List.concat_eq_append, List.dropLast_concat, tot_app]; omega
  · exact Nat.le_refl _
theorem tot_dots : ∀ (ps left : List (List UInt8)), tot (dotsGo ps left) ≤ tot left + tot ps
  | [], left => by rw [dotsGo, tot_nil]; omega
  | s :: r, left => by
    rw [dotsGo, tot_cons]
    split
    · have h1 := tot_back s left
      have h2 := tot_dots r (if r.isEmpty then backP s left ++ [[]] else backP s left)
      have h3 : tot (if r.isEmpty then backP s left ++ [[]] else backP s left) ≤ tot left + 1 := by
        split
        · rw [tot_app]; show tot (backP s left) + 1 ≤ _; omega
        · omega
      omega
    · have h2 := tot_dots r (left ++ [s])
      rw [tot_app, tot_cons, tot_nil] at h2
      omega
theorem tot_join (xs : List (List UInt8)) : (joinP xs).length ≤ tot xs := by
  cases xs with
  | nil => exact Nat.zero_le _
  | cons a t =>
    show (joinG [47] a t).length ≤ _
    induction t generalizing a with
    | nil => rw [tot_cons]; simp [joinG]; omega
    | cons b t ih =>
      have := ih b
      rw [tot_cons]
      simp only [joinG, List.length_append, List.length_cons, List.length_nil]
      omega
theorem tot_parts : ∀ l : List UInt8, tot (partsP l) = l.length + 1
  | [] => rfl
  | c :: r => by
    have ih := tot_parts r
    unfold partsP at ih ⊢
    rw [splitP]
    split
    · rw [tot_cons]; simp only; rw [ih]; simp; omega
    · simp only
      rw [tot_cons] at ih ⊢
      simp only [List.length_cons]
      omega
theorem undot_len (p : List UInt8) : (undotU p).length ≤ p.length + 1 := by
  have h1 := tot_join (dotsGo (partsP p) [])
  have h2 := tot_dots (partsP p) []
  rw [tot_nil, tot_parts] at h2
  unfold undotU
  omega

theorem comp_len (b u : UL) (N : Nat) (h1 : b.sch.length ≤ N) (h2 : b.hst.length ≤ N) (h3 : b.pth.length ≤ N) (h4 : b.qry.length ≤ N) (g2 : u.hst.length ≤ N) (g3 : u.pth.length ≤ N) (g4 : u.qry.length ≤ N) (g5 : u.frg.length ≤ N) :
    (compU b u).sch.length ≤ N ∧ (compU b u).hst.length ≤ N ∧ (compU b u).pth.length ≤ N + N + 1 ∧ (compU b u).qry.length ≤ N ∧ (compU b u).frg.length ≤ N := by
  obtain ⟨m, hm⟩ := dirP_append b.pth
  have hd := congrArg List.length hm
  rw [List.length_append] at hd
  unfold compU
  repeat' split
  all_goals (refine ⟨?_, ?_, ?_, ?_, ?_⟩ <;> simp only [List.length_append, List.length_cons] <;> omega)

theorem upost_lead {w w' : World} {e : Ending} (y : UV) (L : Bool) (n : Nat) (hL : L = likeU y.l) (hn : n = checkU y.l) (h : e = .returned (.tuple #[if L = true then (ofL noUL).v else if n = 0 then y.v else (ofL noUL).v, .int .i64 (if L = true then 4 else (n : Int))]) ∧ Below w.heap.size w w') : UPost w (endU y.l) e w' := by
  obtain ⟨rfl, hb⟩ := h
  refine ⟨?_, hb⟩
  subst hL hn
  unfold endU checkedU
  cases hl : likeU y.l with
  | true => rw [if_pos rfl, if_pos rfl, if_pos rfl]; rfl
  | false =>
    by_cases h : checkU y.l = 0
    · simp only [h, Bool.false_eq_true, if_false, if_true]
      rfl
    · simp only [h, Bool.false_eq_true, if_false]
theorem pre_one (s : ByteArray) (w : World) : Calls Tryd.prog 20 #[.string s, .string ⟨#[47]⟩] w fun e w' => e = .returned (.bool (preS s.data.toList)) ∧ w' = w := by
  refine (Tryd.strings_HasPrefix s ⟨#[47]⟩ w).mono ?_
  rintro e w' ⟨rfl, rfl⟩
  refine ⟨?_, rfl⟩
  rw [show Lib.hasPrefix s.data.toList (ByteArray.mk #[47]).data.toList = preS s.data.toList from by
    show Lib.hasPrefix s.data.toList [47] = preS s.data.toList
    cases s.data.toList with
    | nil => rfl
    | cons a l => simp [Lib.hasPrefix, List.isPrefixOf, preS, Bool.beq_comm]]

/-- url.Lead. -/
theorem ulead_any (b u : UV) (hb : b.short maxLen) (hu : u.short maxLen) (w : World) (hM : MaxAt w) :
    Calls Tryd.prog 10 #[b.v, u.v] w fun e w' => UPost w (leadU b.l u.l) e w' := by
  have CB := fun W => ucheck_any b hb W
  have CU := fun W => ucheck_any u hu W
  obtain ⟨bs, bhh, bh, bp, bhq, bq, bhf, bf⟩ := b
  obtain ⟨us, uhh, uh, up, uhq, uq, uhf, uf⟩ := u
  unfold leadU
  by_cases hcb : checkU (UV.l ⟨bs, bhh, bh, bp, bhq, bq, bhf, bf⟩) = 0
  · by_cases hcu : checkU (UV.l ⟨us, uhh, uh, up, uhq, uq, uhf, uf⟩) = 0
    · rw [if_neg (by simpa using hcb), if_neg (by simpa using hcu)]
      rw [hcb] at CB
      rw [hcu] at CU
      have sb := checkU_short hcb
      have su := checkU_short hcu
      by_cases hse : bs.data.toList = []
      · obtain rfl := bempty_yes bs hse
        rw [if_pos (by rfl)]
        refine (lead_S bh bp bq bf us uh up uq uf bhh bhq bhf uhh uhq uhf w CB CU).mono ?_
        rintro e w' ⟨rfl, hb⟩
        exact ⟨rfl, hb⟩
      · rw [if_neg (by show ¬ bs.data.toList.isEmpty = true; rw [isE_no bs hse]; simp)]
        obtain ⟨b1, b2, b3, b4, b5⟩ := sb
        obtain ⟨u1, u2, u3, u4, u5⟩ := su
        simp only at b1 b2 b3 b4 b5 u1 u2 u3 u4 u5
        by_cases hue : us.data.toList = []
        · obtain rfl := bempty_yes us hue
          have CC := fun W => ucomp_any ⟨bs, bhh, bh, bp, bhq, bq, bhf, bf⟩ ⟨⟨#[]⟩, uhh, uh, up, uhq, uq, uhf, uf⟩ ⟨b1, b2, b3, b4, b5⟩ ⟨u1, u2, u3, u4, u5⟩ W
          have hlen := comp_len (UV.l ⟨bs, bhh, bh, bp, bhq, bq, bhf, bf⟩) (UV.l ⟨⟨#[]⟩, uhh, uh, up, uhq, uq, uhf, uf⟩) 120 (by show bs.data.toList.length ≤ 120; rw [← Lib.size_eq]; exact b1) (by show bh.data.toList.length ≤ 120; rw [← Lib.size_eq]; exact b2) (by show bp.data.toList.length ≤ 120; rw [← Lib.size_eq]; exact b3) (by show bq.data.toList.length ≤ 120; rw [← Lib.size_eq]; exact b4) (by show uh.data.toList.length ≤ 120; rw [← Lib.size_eq]; exact u2) (by show up.data.toList.length ≤ 120; rw [← Lib.size_eq]; exact u3) (by show uq.data.toList.length ≤ 120; rw [← Lib.size_eq]; exact u4) (by show uf.data.toList.length ≤ 120; rw [← Lib.size_eq]; exact u5)
          have hfull : fullU (UV.l ⟨bs, bhh, bh, bp, bhq, bq, bhf, bf⟩) (UV.l ⟨⟨#[]⟩, uhh, uh, up, uhq, uq, uhf, uf⟩) = compU (UV.l ⟨bs, bhh, bh, bp, bhq, bq, bhf, bf⟩) (UV.l ⟨⟨#[]⟩, uhh, uh, up, uhq, uq, uhf, uf⟩) := rfl
          rw [hfull]
          generalize compU (UV.l ⟨bs, bhh, bh, bp, bhq, bq, bhf, bf⟩) (UV.l ⟨⟨#[]⟩, uhh, uh, up, uhq, uq, uhf, uf⟩) = Y at *
          obtain ⟨s1, hh1, h1, p1, hq1, q1, hf1, f1⟩ := Y
          obtain ⟨l1, l2, l3, l4, l5⟩ := hlen
          simp only at l1 l2 l3 l4 l5
          have hul := undot_len p1
          have CDa := fun W (hb : Below w.heap.size w W) => udots_any (bar p1) W (hM.below hb) (by rw [bar_size]; omega)
          cases hh1 with
          | true =>
            have hund : undU ⟨s1, true, h1, p1, hq1, q1, hf1, f1⟩ = UV.l ⟨bar s1, true, bar h1, bar (undotU p1), hq1, bar q1, hf1, bar f1⟩ := rfl
            rw [hund]
            exact (lead_CH bs bh bp bq bf uh up uq uf (bar s1) (bar h1) (bar p1) (bar q1) (bar f1) (bar (undotU p1)) bhh bhq bhf uhh uhq uhf hq1 hf1 hse _ _ w CB CU CC CDa (fun W => ulike_any (bar s1) (bar h1) (bar (undotU p1)) (bar q1) (bar f1) true hq1 hf1 W) (fun W => ucheck_any ⟨bar s1, true, bar h1, bar (undotU p1), hq1, bar q1, hf1, bar f1⟩ (by unfold maxLen; exact ⟨by rw [bar_size]; omega, by rw [bar_size]; omega, by rw [bar_size]; omega, by rw [bar_size]; omega, by rw [bar_size]; omega⟩) W)).mono (fun e w' h => upost_lead ⟨bar s1, true, bar h1, bar (undotU p1), hq1, bar q1, hf1, bar f1⟩ _ _ rfl rfl h)
          | false =>
            have CP := fun W => pre_one (bar p1) W
            rw [bar_l] at CP
            cases hps : preS p1 with
            | true =>
              rw [hps] at CP
              have hund : undU ⟨s1, false, h1, p1, hq1, q1, hf1, f1⟩ = UV.l ⟨bar s1, false, bar h1, bar (undotU p1), hq1, bar q1, hf1, bar f1⟩ := by unfold undU; rw [if_pos (by simp only [hps]; rfl)]; rfl
              rw [hund]
              exact (lead_CP bs bh bp bq bf uh up uq uf (bar s1) (bar h1) (bar p1) (bar q1) (bar f1) (bar (undotU p1)) bhh bhq bhf uhh uhq uhf hq1 hf1 hse _ _ w CB CU CC CP CDa (fun W => ulike_any (bar s1) (bar h1) (bar (undotU p1)) (bar q1) (bar f1) false hq1 hf1 W) (fun W => ucheck_any ⟨bar s1, false, bar h1, bar (undotU p1), hq1, bar q1, hf1, bar f1⟩ (by unfold maxLen; exact ⟨by rw [bar_size]; omega, by rw [bar_size]; omega, by rw [bar_size]; omega, by rw [bar_size]; omega, by rw [bar_size]; omega⟩) W)).mono (fun e w' h => upost_lead ⟨bar s1, false, bar h1, bar (undotU p1), hq1, bar q1, hf1, bar f1⟩ _ _ rfl rfl h)
            | false =>
              rw [hps] at CP
              have hund : undU ⟨s1, false, h1, p1, hq1, q1, hf1, f1⟩ = UV.l ⟨bar s1, false, bar h1, bar p1, hq1, bar q1, hf1, bar f1⟩ := by unfold undU; rw [if_neg (by simp only [hps]; simp)]; rfl
              rw [hund]
              exact (lead_CN bs bh bp bq bf uh up uq uf (bar s1) (bar h1) (bar p1) (bar q1) (bar f1) bhh bhq bhf uhh uhq uhf hq1 hf1 hse _ _ w CB CU CC CP (fun W => ulike_any (bar s1) (bar h1) (bar p1) (bar q1) (bar f1) false hq1 hf1 W) (fun W => ucheck_any ⟨bar s1, false, bar h1, bar p1, hq1, bar q1, hf1, bar f1⟩ (by unfold maxLen; exact ⟨by rw [bar_size]; omega, by rw [bar_size]; omega, by rw [bar_size]; omega, by rw [bar_size]; omega, by rw [bar_size]; omega⟩) W)).mono (fun e w' h => upost_lead ⟨bar s1, false, bar h1, bar p1, hq1, bar q1, hf1, bar f1⟩ _ _ rfl rfl h)
        · have hfull : fullU (UV.l ⟨bs, bhh, bh, bp, bhq, bq, bhf, bf⟩) (UV.l ⟨us, uhh, uh, up, uhq, uq, uhf, uf⟩) = UV.l ⟨us, uhh, uh, up, uhq, uq, uhf, uf⟩ := by
            unfold fullU
            rw [if_neg]
            show ¬ us.data.toList.isEmpty = true
            rw [isE_no us hue]; simp
          rw [hfull]
          have hul := undot_len up.data.toList
          have hupl := Lib.size_eq up
          have CDa := fun W (hb : Below w.heap.size w W) => udots_any up W (hM.below hb) (by omega)
          cases uhh with
          | true =>
            have hund : undU (UV.l ⟨us, true, uh, up, uhq, uq, uhf, uf⟩) = UV.l ⟨us, true, uh, bar (undotU up.data.toList), uhq, uq, uhf, uf⟩ := rfl
            rw [hund]
            exact (lead_KH bs bh bp bq bf us uh up uq uf (bar (undotU up.data.toList)) bhh bhq bhf uhq uhf hse hue _ _ w CB CU CDa (fun W => ulike_any us uh (bar (undotU up.data.toList)) uq uf true uhq uhf W) (fun W => ucheck_any ⟨us, true, uh, bar (undotU up.data.toList), uhq, uq, uhf, uf⟩ (by unfold maxLen; exact ⟨by simp only; omega, by simp only; omega, by rw [bar_size]; omega, by simp only; omega, by simp only; omega⟩) W)).mono (fun e w' h => upost_lead ⟨us, true, uh, bar (undotU up.data.toList), uhq, uq, uhf, uf⟩ _ _ rfl rfl h)
          | false =>
            have CP := fun W => pre_one up W
            cases hps : preS up.data.toList with
            | true =>
              rw [hps] at CP
              have hund : undU (UV.l ⟨us, false, uh, up, uhq, uq, uhf, uf⟩) = UV.l ⟨us, false, uh, bar (undotU up.data.toList), uhq, uq, uhf, uf⟩ := by
                unfold undU
                rw [if_pos (by show (false || preS up.data.toList) = true; rw [hps]; rfl)]
                rfl
              rw [hund]
              exact (lead_KP bs bh bp bq bf us uh up uq uf (bar (undotU up.data.toList)) bhh bhq bhf uhq uhf hse hue _ _ w CB CU CP CDa (fun W => ulike_any us uh (bar (undotU up.data.toList)) uq uf false uhq uhf W) (fun W => ucheck_any ⟨us, false, uh, bar (undotU up.data.toList), uhq, uq, uhf, uf⟩ (by unfold maxLen; exact ⟨by simp only; omega, by simp only; omega, by rw [bar_size]; omega, by simp only; omega, by simp only; omega⟩) W)).mono (fun e w' h => upost_lead ⟨us, false, uh, bar (undotU up.data.toList), uhq, uq, uhf, uf⟩ _ _ rfl rfl h)
            | false =>
              rw [hps] at CP
              have hund : undU (UV.l ⟨us, false, uh, up, uhq, uq, uhf, uf⟩) = UV.l ⟨us, false, uh, up, uhq, uq, uhf, uf⟩ := by
                unfold undU
                rw [if_neg (by show ¬ (false || preS up.data.toList) = true; rw [hps]; simp)]
              rw [hund]
              exact (lead_KN bs bh bp bq bf us uh up uq uf bhh bhq bhf uhq uhf hse hue _ _ w CB CU CP (fun W => ulike_any us uh up uq uf false uhq uhf W) (fun W => ucheck_any ⟨us, false, uh, up, uhq, uq, uhf, uf⟩ hu W)).mono (fun e w' h => upost_lead ⟨us, false, uh, up, uhq, uq, uhf, uf⟩ _ _ rfl rfl h)
    · rw [if_neg (by simpa using hcb), if_pos hcu]
      rw [hcb] at CB
      refine (lead_u bs bh bp bq bf us uh up uq uf bhh bhq bhf uhh uhq uhf _ hcu w CB CU).mono ?_
      rintro e w' ⟨rfl, hb⟩
      exact ⟨rfl, hb⟩
  · rw [if_pos hcb]
    refine (lead_b bs bh bp bq bf us uh up uq uf bhh bhq bhf uhh uhq uhf _ hcb w CB).mono ?_
    rintro e w' ⟨rfl, hb⟩
    exact ⟨rfl, hb⟩
end Go.Proofs.YtnfidloiediflabDoor
