/- url.completed, url.Lead, all their ways: what the plain functions say; nothing that was there is changed. Conditions: the texts are no longer than a text can be; internal/bytealg.MaxLen holds a number. -/
import Derived.Test.YtjngeofnoogkfabDoorXurlback16
namespace Go.Proofs.YtjngeofnoogkfabDoor
open Go.RowKit

theorem data_bar (l : List UInt8) : (bar l).data.toList = l := rfl
theorem app_bar (a : ByteArray) (l : List UInt8) (b : ByteArray) (h : a.data.toList = l) : a ++ b = bar (l ++ b.data.toList) := by
  apply ba_inj
  rw [data_app, h]
  rfl

/-- url.completed. -/
theorem ucomp_any (b u : UV) (hb : b.short 120) (hu : u.short 120) (w : World) :
    Calls Tryd.prog 30 #[b.v, u.v] w fun e w' => e = .returned ((ofL (compU b.l u.l)).v) ∧ Below w.heap.size w w' := by
  obtain ⟨bs, bhh, bh, bp, bhq, bq, bhf, bf⟩ := b
  obtain ⟨us, uhh, uh, up, uhq, uq, uhf, uf⟩ := u
  obtain ⟨_, _, hbp, _, _⟩ := hb
  obtain ⟨_, _, hup, _, _⟩ := hu
  simp only at hbp hup
  cases uhh with
  | true => exact comp_H bs bh bp bq bf us uh up uq uf bhh bhq bhf uhq uhf w
  | false =>
    by_cases hpe : up.data.toList = []
    · obtain rfl := bempty_yes up hpe
      cases uhq with
      | true => exact comp_E1 bs bh bp bq bf us uh uq uf bhh bhq bhf uhf w
      | false => exact comp_E2 bs bh bp bq bf us uh uq uf bhh bhq bhf uhf w
    · have he := bempty_no up hpe
      have h0 := pos_no up hpe
      have hps := preS_at up h0
      have hce : compU (UV.l ⟨bs, bhh, bh, bp, bhq, bq, bhf, bf⟩) (UV.l ⟨us, false, uh, up, uhq, uq, uhf, uf⟩) = if preS up.data.toList then ⟨bs.data.toList, bhh, bh.data.toList, up.data.toList, uhq, uq.data.toList, uhf, uf.data.toList⟩ else if bhh && bp.data.toList.isEmpty then ⟨bs.data.toList, bhh, bh.data.toList, 47 :: up.data.toList, uhq, uq.data.toList, uhf, uf.data.toList⟩ else ⟨bs.data.toList, bhh, bh.data.toList, dirP bp.data.toList ++ up.data.toList, uhq, uq.data.toList, uhf, uf.data.toList⟩ := by
        unfold compU UV.l
        simp only
        rw [if_neg (by simp), if_neg (by rw [isE_no up hpe]; simp)]
      rw [hce]
      cases h1 : ((up[0].toNat : Int) == 47) with
      | true =>
        rw [hps, h1, if_pos rfl]
        exact comp_S bs bh bp bq bf us uh up uq uf bhh bhq bhf uhq uhf he h0 h1 w
      | false =>
        rw [hps, h1, if_neg (by simp)]
        have last : ∀ W, Calls Tryd.prog 60 #[.string bp, .int .u8 47] W fun e w' => e = .returned (.int .i64 (Lib.lastIndexByte bp 47)) ∧ w' = W := fun W => Tryd.strings_LastIndexByte bp 47 (by omega) W
        obtain ⟨d1, d2, d3⟩ := last_dir bp
        have hD : bp.extract 0 (Lib.lastIndexByte bp 47 + 1).toNat = bar (dirP bp.data.toList) := by
          apply ba_inj
          rw [Lib.extract_data, d3]
          simp [bar]
        have hDs : (bar (dirP bp.data.toList)).size ≤ 1000 := by
          rw [bar_size, d3, List.length_take]
          have := Lib.size_eq bp
          omega
        have hk : Lib.lastIndexByte bp 47 + 1 = (((Lib.lastIndexByte bp 47 + 1).toNat : Nat) : Int) := by omega
        cases bhh with
        | true =>
          by_cases hbe : bp.data.toList = []
          · obtain rfl := bempty_yes bp hbe
            rw [if_pos (by rfl)]
            refine (comp_B bs bh bq bf us uh up uq uf bhq bhf uhq uhf he h0 h1 (by omega) w).mono ?_
            rintro e w' ⟨rfl, hb⟩
            refine ⟨?_, hb⟩
            rw [app_bar ⟨#[47]⟩ [47] up rfl]
            rfl
          · rw [if_neg (by rw [isE_no bp hbe]; simp)]
            refine (comp_R1 bs bh bp bq bf us uh up uq uf bhq bhf uhq uhf he h0 h1 (by omega) (by omega) _ _ hk d1 _ hD hDs (bempty_no bp hbe) last w).mono ?_
            rintro e w' ⟨rfl, hb⟩
            refine ⟨?_, hb⟩
            rw [app_bar (bar (dirP bp.data.toList)) _ up rfl]
            rfl
        | false =>
          rw [if_neg (by simp)]
          refine (comp_R0 bs bh bp bq bf us uh up uq uf bhq bhf uhq uhf he h0 h1 (by omega) (by omega) _ _ hk d1 _ hD hDs last w).mono ?_
          rintro e w' ⟨rfl, hb⟩
          refine ⟨?_, hb⟩
          rw [app_bar (bar (dirP bp.data.toList)) _ up rfl]
          rfl

/-- How long parts are, with their strokes. -/
def tot (xs : List (List UInt8)) : Nat := (xs.map fun x => x.length + 1).sum
theorem tot_app (a b : List (List UInt8)) : tot (a ++ b) = tot a + tot b := by simp [tot]
theorem tot_cons (a : List UInt8) (b : List (List UInt8)) : tot (a :: b) = a.length + 1 + tot b := by simp [tot]
theorem tot_nil : tot [] = 0 := rfl
theorem tot_back (s : List UInt8) (left : List (List UInt8)) : tot (backP s left) ≤ tot left := by
  unfold backP
  split
  · rcases List.eq_nil_or_concat left with rfl | ⟨l, y, rfl⟩
    · exact Nat.le_refl _
    · rw [List.concat_eq_append, List.dropLast_concat, tot_app]; omega
  · exact Nat.le_refl _
theorem tot_dots : ∀ (ps left : List (List UInt8)), tot (dotsGo ps left) ≤ tot left + tot ps
  | [], left => by rw [dotsGo, tot_nil]; omega
  | s :: r, left => by
    rw [dotsGo, tot_cons]
    split
    · have h1 := tot_back s left
      have h2 := tot_dots r (if r.isEmpty then backP s left ++ [[]] else backP s left)
      have h3 : tot (if r.isEmpty then backP s left ++ [[]] else backP s left) ≤ tot left + 1 := by
        split
        · rw [tot_app]; show tot (backP s left) + 1 ≤ _; omega
        · omega
      omega
    · have h2 := tot_dots r (left ++ [s])
      rw [tot_app, tot_cons, tot_nil] at h2
      omega
theorem tot_join (xs : List (List UInt8)) : (joinP xs).length ≤ tot xs := by
  cases xs with
  | nil => exact Nat.zero_le _
  | cons a t =>
    show (joinG [47] a t).length ≤ _
    induction t generalizing a with
    | nil => rw [tot_cons]; simp [joinG]; omega
    | cons b t ih =>
      have := ih b
      rw [tot_cons]
      simp only [joinG, List.length_append, List.length_cons, List.length_nil]
      omega
theorem tot_parts : ∀ l : List UInt8, tot (partsP l) = l.length + 1
  | [] => rfl
  | c :: r => by
    have ih := tot_parts r
    unfold partsP at ih ⊢
    rw [splitP]
    split
    · rw [tot_cons]; simp only; rw [ih]; simp; omega
    · simp only
      rw [tot_cons] at ih ⊢
      simp only [List.length_cons]
      omega
theorem undot_len (p : List UInt8) : (undotU p).length ≤ p.length + 1 := by
  have h1 := tot_join (dotsGo (partsP p) [])
  have h2 := tot_dots (partsP p) []
  rw [tot_nil, tot_parts] at h2
  unfold undotU
  omega

theorem comp_len (b u : UL) (N : Nat) (h1 : b.sch.length ≤ N) (h2 : b.hst.length ≤ N) (h3 : b.pth.length ≤ N) (h4 : b.qry.length ≤ N) (g2 : u.hst.length ≤ N) (g3 : u.pth.length ≤ N) (g4 : u.qry.length ≤ N) (g5 : u.frg.length ≤ N) :
    (compU b u).sch.length ≤ N ∧ (compU b u).hst.length ≤ N ∧ (compU b u).pth.length ≤ N + N + 1 ∧ (compU b u).qry.length ≤ N ∧ (compU b u).frg.length ≤ N := by
  obtain ⟨m, hm⟩ := dirP_append b.pth
  have hd := congrArg List.length hm
  rw [List.length_append] at hd
  unfold compU
  repeat' split
  all_goals (refine ⟨?_, ?_, ?_, ?_, ?_⟩ <;> simp only [List.length_append, List.length_cons] <;> omega)

theorem upost_lead {w w' : World} {e : Ending} (y : UV) (L : Bool) (n : Nat) (hL : L = likeU y.l) (hn : n = checkU y.l) (h : e = .returned (.tuple #[if L = true then (ofL noUL).v else if n = 0 then y.v else (ofL noUL).v, .int .i64 (if L = true then 4 else (n : Int))]) ∧ Below w.heap.size w w') : UPost w (endU y.l) e w' := by
  obtain ⟨rfl, hb⟩ := h
  refine ⟨?_, hb⟩
  subst hL hn
  unfold endU checkedU
  cases hl : likeU y.l with
  | true => rw [if_pos rfl, if_pos rfl, if_pos rfl]; rfl
  | false =>
    by_cases h : checkU y.l = 0
    · simp only [h, Bool.false_eq_true, if_false, if_true]
      rfl
    · simp only [h, Bool.false_eq_true, if_false]
theorem pre_one (s : ByteArray) (w : World) : Calls Tryd.prog 19 #[.string s, .string ⟨#[47]⟩] w fun e w' => e = .returned (.bool (preS s.data.toList)) ∧ w' = w := by
  refine (Tryd.strings_HasPrefix s ⟨#[47]⟩ w).mono ?_
  rintro e w' ⟨rfl, rfl⟩
  refine ⟨?_, rfl⟩
  rw [show Lib.hasPrefix s.data.toList (ByteArray.mk #[47]).data.toList = preS s.data.toList from by
    show Lib.hasPrefix s.data.toList [47] = preS s.data.toList
    cases s.data.toList with
    | nil => rfl
    | cons a l => simp [Lib.hasPrefix, List.isPrefixOf, preS, Bool.beq_comm]]

/-- url.Lead. -/
theorem ulead_any (b u : UV) (hb : b.short maxLen) (hu : u.short maxLen) (w : World) (hM : MaxAt w) :
    Calls Tryd.prog 9 #[b.v, u.v] w fun e w' => UPost w (leadU b.l u.l) e w' := by
  have CB := fun W => ucheck_any b hb W
  have CU := fun W => ucheck_any u hu W
  obtain ⟨bs, bhh, bh, bp, bhq, bq, bhf, bf⟩ := b
  obtain ⟨us, uhh, uh, up, uhq, uq, uhf, uf⟩ := u
  unfold leadU
  by_cases hcb : checkU (UV.l ⟨bs, bhh, bh, bp, bhq, bq, bhf, bf⟩) = 0
  · by_cases hcu : checkU (UV.l ⟨us, uhh, uh, up, uhq, uq, uhf, uf⟩) = 0
    · rw [if_neg (by simpa using hcb), if_neg (by simpa using hcu)]
      rw [hcb] at CB
      rw [hcu] at CU
      have sb := checkU_short hcb
      have su := checkU_short hcu
      by_cases hse : bs.data.toList = []
      · obtain rfl := bempty_yes bs hse
        rw [if_pos (by rfl)]
        refine (lead_S bh bp bq bf us uh up uq uf bhh bhq bhf uhh uhq uhf w CB CU).mono ?_
        rintro e w' ⟨rfl, hb⟩
        exact ⟨rfl, hb⟩
      · rw [if_neg (by show ¬ bs.data.toList.isEmpty = true; rw [isE_no bs hse]; simp)]
        obtain ⟨b1, b2, b3, b4, b5⟩ := sb
        obtain ⟨u1, u2, u3, u4, u5⟩ := su
        simp only at b1 b2 b3 b4 b5 u1 u2 u3 u4 u5
        by_cases hue : us.data.toList = []
        · obtain rfl := bempty_yes us hue
          have CC := fun W => ucomp_any ⟨bs, bhh, bh, bp, bhq, bq, bhf, bf⟩ ⟨⟨#[]⟩, uhh, uh, up, uhq, uq, uhf, uf⟩ ⟨b1, b2, b3, b4, b5⟩ ⟨u1, u2, u3, u4, u5⟩ W
          have hlen := comp_len (UV.l ⟨bs, bhh, bh, bp, bhq, bq, bhf, bf⟩) (UV.l ⟨⟨#[]⟩, uhh, uh, up, uhq, uq, uhf, uf⟩) 120 (by show bs.data.toList.length ≤ 120; rw [← Lib.size_eq]; exact b1) (by show bh.data.toList.length ≤ 120; rw [← Lib.size_eq]; exact b2) (by show bp.data.toList.length ≤ 120; rw [← Lib.size_eq]; exact b3) (by show bq.data.toList.length ≤ 120; rw [← Lib.size_eq]; exact b4) (by show uh.data.toList.length ≤ 120; rw [← Lib.size_eq]; exact u2) (by show up.data.toList.length ≤ 120; rw [← Lib.size_eq]; exact u3) (by show uq.data.toList.length ≤ 120; rw [← Lib.size_eq]; exact u4) (by show uf.data.toList.length ≤ 120; rw [← Lib.size_eq]; exact u5)
          have hfull : fullU (UV.l ⟨bs, bhh, bh, bp, bhq, bq, bhf, bf⟩) (UV.l ⟨⟨#[]⟩, uhh, uh, up, uhq, uq, uhf, uf⟩) = compU (UV.l ⟨bs, bhh, bh, bp, bhq, bq, bhf, bf⟩) (UV.l ⟨⟨#[]⟩, uhh, uh, up, uhq, uq, uhf, uf⟩) := rfl
          rw [hfull]
          generalize compU (UV.l ⟨bs, bhh, bh, bp, bhq, bq, bhf, bf⟩) (UV.l ⟨⟨#[]⟩, uhh, uh, up, uhq, uq, uhf, uf⟩) = Y at *
          obtain ⟨s1, hh1, h1, p1, hq1, q1, hf1, f1⟩ := Y
          obtain ⟨l1, l2, l3, l4, l5⟩ := hlen
          simp only at l1 l2 l3 l4 l5
          have hul := undot_len p1
          have CDa := fun W (hb : Below w.heap.size w W) => udots_any (bar p1) W (hM.below hb) (by rw [bar_size]; omega)
          cases hh1 with
          | true =>
            have hund : undU ⟨s1, true, h1, p1, hq1, q1, hf1, f1⟩ = UV.l ⟨bar s1, true, bar h1, bar (undotU p1), hq1, bar q1, hf1, bar f1⟩ := rfl
            rw [hund]
            exact (lead_CH bs bh bp bq bf uh up uq uf (bar s1) (bar h1) (bar p1) (bar q1) (bar f1) (bar (undotU p1)) bhh bhq bhf uhh uhq uhf hq1 hf1 hse _ _ w CB CU CC CDa (fun W => ulike_any (bar s1) (bar h1) (bar (undotU p1)) (bar q1) (bar f1) true hq1 hf1 W) (fun W => ucheck_any ⟨bar s1, true, bar h1, bar (undotU p1), hq1, bar q1, hf1, bar f1⟩ (by unfold maxLen; exact ⟨by rw [bar_size]; omega, by rw [bar_size]; omega, by rw [bar_size]; omega, by rw [bar_size]; omega, by rw [bar_size]; omega⟩) W)).mono (fun e w' h => upost_lead ⟨bar s1, true, bar h1, bar (undotU p1), hq1, bar q1, hf1, bar f1⟩ _ _ rfl rfl h)
          | false =>
            have CP := fun W => pre_one (bar p1) W
            rw [bar_l] at CP
            cases hps : preS p1 with
            | true =>
              rw [hps] at CP
              have hund : undU ⟨s1, false, h1, p1, hq1, q1, hf1, f1⟩ = UV.l ⟨bar s1, false, bar h1, bar (undotU p1), hq1, bar q1, hf1, bar f1⟩ := by unfold undU; rw [if_pos (by simp only [hps]; rfl)]; rfl
              rw [hund]
              exact (lead_CP bs bh bp bq bf uh up uq uf (bar s1) (bar h1) (bar p1) (bar q1) (bar f1) (bar (undotU p1)) bhh bhq bhf uhh uhq uhf hq1 hf1 hse _ _ w CB CU CC CP CDa (fun W => ulike_any (bar s1) (bar h1) (bar (undotU p1)) (bar q1) (bar f1) false hq1 hf1 W) (fun W => ucheck_any ⟨bar s1, false, bar h1, bar (undotU p1), hq1, bar q1, hf1, bar f1⟩ (by unfold maxLen; exact ⟨by rw [bar_size]; omega, by rw [bar_size]; omega, by rw [bar_size]; omega, by rw [bar_size]; omega, by rw [bar_size]; omega⟩) W)).mono (fun e w' h => upost_lead ⟨bar s1, false, bar h1, bar (undotU p1), hq1, bar q1, hf1, bar f1⟩ _ _ rfl rfl h)
            | false =>
              rw [hps] at CP
              have hund : undU ⟨s1, false, h1, p1, hq1, q1, hf1, f1⟩ = UV.l ⟨bar s1, false, bar h1, bar p1, hq1, bar q1, hf1, bar f1⟩ := by unfold undU; rw [if_neg (by simp only [hps]; simp)]; rfl
              rw [hund]
              exact (lead_CN bs bh bp bq bf uh up uq uf (bar s1) (bar h1) (bar p1) (bar q1) (bar f1) bhh bhq bhf uhh uhq uhf hq1 hf1 hse _ _ w CB CU CC CP (fun W => ulike_any (bar s1) (bar h1) (bar p1) (bar q1) (bar f1) false hq1 hf1 W) (fun W => ucheck_any ⟨bar s1, false, bar h1, bar p1, hq1, bar q1, hf1, bar f1⟩ (by unfold maxLen; exact ⟨by rw [bar_size]; omega, by rw [bar_size]; omega, by rw [bar_size]; omega, by rw [bar_size]; omega, by rw [bar_size]; omega⟩) W)).mono (fun e w' h => upost_lead ⟨bar s1, false, bar h1, bar p1, hq1, bar q1, hf1, bar f1⟩ _ _ rfl rfl h)
        · have hfull : fullU (UV.l ⟨bs, bhh, bh, bp, bhq, bq, bhf, bf⟩) (UV.l ⟨us, uhh, uh, up, uhq, uq, uhf, uf⟩) = UV.l ⟨us, uhh, uh, up, uhq, uq, uhf, uf⟩ := by
            unfold fullU
            rw [if_neg]
            show ¬ us.data.toList.isEmpty = true
            rw [isE_no us hue]; simp
          rw [hfull]
          have hul := undot_len up.data.toList
          have hupl := Lib.size_eq up
          have CDa := fun W (hb : Below w.heap.size w W) => udots_any up W (hM.below hb) (by omega)
          cases uhh with
          | true =>
            have hund : undU (UV.l ⟨us, true, uh, up, uhq, uq, uhf, uf⟩) = UV.l ⟨us, true, uh, bar (undotU up.data.toList), uhq, uq, uhf, uf⟩ := rfl
            rw [hund]
            exact (lead_KH bs bh bp bq bf us uh up uq uf (bar (undotU up.data.toList)) bhh bhq bhf uhq uhf hse hue _ _ w CB CU CDa (fun W => ulike_any us uh (bar (undotU up.data.toList)) uq uf true uhq uhf W) (fun W => ucheck_any ⟨us, true, uh, bar (undotU up.data.toList), uhq, uq, uhf, uf⟩ (by unfold maxLen; exact ⟨by simp only; omega, by simp only; omega, by rw [bar_size]; omega, by simp only; omega, by simp only; omega⟩) W)).mono (fun e w' h => upost_lead ⟨us, true, uh, bar (undotU up.data.toList), uhq, uq, uhf, uf⟩ _ _ rfl rfl h)
          | false =>
            have CP := fun W => pre_one up W
            cases hps : preS up.data.toList with
            | true =>
              rw [hps] at CP
              have hund : undU (UV.l ⟨us, false, uh, up, uhq, uq, uhf, uf⟩) = UV.l ⟨us, false, uh, bar (undotU up.data.toList), uhq, uq, uhf, uf⟩ := by
                unfold undU
                rw [if_pos (by show (false || preS up.data.toList) = true; rw [hps]; rfl)]
                rfl
              rw [hund]
              exact (lead_KP bs bh bp bq bf us uh up uq uf (bar (undotU up.data.toList)) bhh bhq bhf uhq uhf hse hue _ _ w CB CU CP CDa (fun W => ulike_any us uh (bar (undotU up.data.toList)) uq uf false uhq uhf W) (fun W => ucheck_any ⟨us, false, uh, bar (undotU up.data.toList), uhq, uq, uhf, uf⟩ (by unfold maxLen; exact ⟨by simp only; omega, by simp only; omega, by rw [bar_size]; omega, by simp only; omega, by simp only; omega⟩) W)).mono (fun e w' h => upost_lead ⟨us, false, uh, bar (undotU up.data.toList), uhq, uq, uhf, uf⟩ _ _ rfl rfl h)
            | false =>
              rw [hps] at CP
              have hund : undU (UV.l ⟨us, false, uh, up, uhq, uq, uhf, uf⟩) = UV.l ⟨us, false, uh, up, uhq, uq, uhf, uf⟩ := by
                unfold undU
                rw [if_neg (by show ¬ (false || preS up.data.toList) = true; rw [hps]; simp)]
              rw [hund]
              exact (lead_KN bs bh bp bq bf us uh up uq uf bhh bhq bhf uhq uhf hse hue _ _ w CB CU CP (fun W => ulike_any us uh up uq uf false uhq uhf W) (fun W => ucheck_any ⟨us, false, uh, up, uhq, uq, uhf, uf⟩ hu W)).mono (fun e w' h => upost_lead ⟨us, false, uh, up, uhq, uq, uhf, uf⟩ _ _ rfl rfl h)
    · rw [if_neg (by simpa using hcb), if_pos hcu]
      rw [hcb] at CB
      refine (lead_u bs bh bp bq bf us uh up uq uf bhh bhq bhf uhh uhq uhf _ hcu w CB CU).mono ?_
      rintro e w' ⟨rfl, hb⟩
      exact ⟨rfl, hb⟩
  · rw [if_pos hcb]
    refine (lead_b bs bh bp bq bf us uh up uq uf bhh bhq bhf uhh uhq uhf _ hcb w CB).mono ?_
    rintro e w' ⟨rfl, hb⟩
    exact ⟨rfl, hb⟩
end Go.Proofs.YtjngeofnoogkfabDoor

/- The law's closed fact 'addressed' answers true; nothing that was there is changed. Condition: internal/bytealg.MaxLen holds a number. -/
namespace Go.Proofs.YtjngeofnoogkfabDoor
open Go.RowKit

/-- Eight cells of a block that is kept. -/
theorem kept8 {W W' : World} {v0 v1 v2 v3 v4 v5 v6 v7 : Value} {t : TypeId} (hb : Below (W.alloc (.cells #[v0, v1, v2, v3, v4, v5, v6, v7] t)).heap.size (W.alloc (.cells #[v0, v1, v2, v3, v4, v5, v6, v7] t)) W') :
    W'.heap[W.heap.size]? = some (.cells #[v0, v1, v2, v3, v4, v5, v6, v7] t) := by
  rw [hb.block _ (by simp)]
  show (W.heap.push _)[W.heap.size]? = _
  simp
theorem kept_on {W W' : World} {k : Nat} {o : Obj} (h : W.heap[k]? = some o) (hb : Below W.heap.size W W') : W'.heap[k]? = some o := by
  rw [hb.block _ (Array.getElem?_eq_some_iff.1 h).1]; exact h
theorem kept_alloc {W : World} {k : Nat} {o o' : Obj} (h : W.heap[k]? = some o) : (W.alloc o').heap[k]? = some o := kept_on h ((Below.refl _ _).alloc (Nat.le_refl _) _)
theorem cells_8 {W : World} {k : Nat} {t : TypeId} {v0 v1 v2 v3 v4 v5 v6 v7 : Value} (h : W.heap[k]? = some (.cells #[v0, v1, v2, v3, v4, v5, v6, v7] t)) :
    W.cell? ⟨k, 0, none⟩ = some v0 ∧ W.cell? ⟨k, 1, none⟩ = some v1 ∧ W.cell? ⟨k, 2, none⟩ = some v2 ∧ W.cell? ⟨k, 3, none⟩ = some v3 ∧ W.cell? ⟨k, 4, none⟩ = some v4 ∧ W.cell? ⟨k, 5, none⟩ = some v5 ∧ W.cell? ⟨k, 6, none⟩ = some v6 ∧ W.cell? ⟨k, 7, none⟩ = some v7 ∧ ∀ i, W.frozen? ⟨k, i, none⟩ = false :=
  ⟨blk_cell h 0, blk_cell h 1, blk_cell h 2, blk_cell h 3, blk_cell h 4, blk_cell h 5, blk_cell h 6, blk_cell h 7, blk_frozen h⟩
theorem kept_ltn {W : World} {k : Nat} {o : Obj} (h : W.heap[k]? = some o) : k < W.heap.size := (Array.getElem?_eq_some_iff.1 h).1
theorem kept_lt {W : World} {k : Nat} {o : Obj} (h : W.heap[k]? = some o) : ¬ k = W.heap.size := by have := (Array.getElem?_eq_some_iff.1 h).1; omega

set_option maxHeartbeats 4000000 in
set_option maxRecDepth 100000 in
theorem addr_walk (w : World) (bs bh bp bq bf us uh up uq uf xs xh xp xq xf S : ByteArray) (bhh bhq bhf uhh uhq uhf xhh xhq xhf : Bool) (hS : S.toList = [104, 116, 116, 112, 58, 47, 47, 104, 47, 100, 35, 101]) (hq : bq.toList = [99])
    (CP : Hid (∀ W, Calls Tryd.prog 8 #[.string ⟨#[72, 84, 84, 80, 58, 47, 47, 72, 47, 97, 47, 98, 63, 99]⟩] W fun e w' => e = .returned (.tuple #[.agg #[.string bs, .bool bhh, .string bh, .string bp, .bool bhq, .string bq, .bool bhf, .string bf], .int .i64 0]) ∧ Below W.heap.size W w'))
    (CQ : Hid (∀ W, Calls Tryd.prog 8 #[.string ⟨#[46, 46, 47, 100, 35, 101]⟩] W fun e w' => e = .returned (.tuple #[.agg #[.string us, .bool uhh, .string uh, .string up, .bool uhq, .string uq, .bool uhf, .string uf], .int .i64 0]) ∧ Below W.heap.size W w'))
    (CL : Hid (∀ W, Below w.heap.size w W → Calls Tryd.prog 9 #[.agg #[.string bs, .bool bhh, .string bh, .string bp, .bool bhq, .string bq, .bool bhf, .string bf], .agg #[.string us, .bool uhh, .string uh, .string up, .bool uhq, .string uq, .bool uhf, .string uf]] W fun e w' => e = .returned (.tuple #[.agg #[.string xs, .bool xhh, .string xh, .string xp, .bool xhq, .string xq, .bool xhf, .string xf], .int .i64 0]) ∧ Below W.heap.size W w'))
    (CR : Hid (∀ W, Calls Tryd.prog 7 #[.agg #[.string xs, .bool xhh, .string xh, .string xp, .bool xhq, .string xq, .bool xhf, .string xf]] W fun e w' => e = .returned (.tuple #[.string S, .int .i64 0]) ∧ Below W.heap.size W w')) :
    Calls Tryd.prog 13 #[] w fun e w' => e = .returned (.bool true) ∧ Below w.heap.size w w' := by
  go_enter Tryd.func13, Tryd.ntmps13
  go_wp2_with fail
  refine (CP.out _).mono ?_
  rintro e w1 ⟨rfl, hb1⟩
  clear CP
  go_wp2_with fail
  refine (CQ.out _).mono ?_
  rintro e w2 ⟨rfl, hb2⟩
  clear CQ
  have HB := kept8 hb2
  have hbe2 : Below w.heap.size w w2 := (hb1.alloc hb1.size _).trans (hb2.mono (by have := hb1.size; simp; omega))
  clear hb2
  obtain ⟨c0, c1, c2, c3, c4, c5, c6, c7, _⟩ := cells_8 HB
  have hn := kept_lt HB
  have hn2 := kept_ltn HB
  go_wp2_with fail
  refine (CL.out _ (hbe2.alloc hbe2.size _)).mono ?_
  rintro e w3 ⟨rfl, hb3⟩
  clear CL
  have HB3 := kept_on (kept_alloc HB) hb3
  have hbe3 : Below w.heap.size w w3 := (hbe2.alloc hbe2.size _).trans (hb3.mono (by have := hbe2.size; simp; omega))
  clear hb3 HB c0 c1 c2 c3 c4 c5 c6 c7 hn hn2
  have hn := kept_lt HB3
  have hn2 := kept_ltn HB3
  go_wp2_with fail
  refine (CR.out _).mono ?_
  rintro e w4 ⟨rfl, hb4⟩
  clear CR
  have HB4 := kept_on (kept_alloc HB3) hb4
  have hbe4 : Below w.heap.size w w4 := (hbe3.alloc hbe3.size _).trans (hb4.mono (by have := hbe3.size; simp; omega))
  clear hb4 HB3
  obtain ⟨c0, c1, c2, c3, c4, c5, c6, c7, _⟩ := cells_8 HB4
  go_wp2
  go_ret
  exact ⟨rfl, hbe4⟩

def bU : UL := ⟨[104, 116, 116, 112], true, [104], [47, 97, 47, 98], true, [99], false, []⟩
def uU : UL := ⟨[], false, [], [46, 46, 47, 100], false, [], true, [101]⟩
def xU : UL := ⟨[104, 116, 116, 112], true, [104], [47, 100], false, [], true, [101]⟩
theorem bU_is : parseU [72, 84, 84, 80, 58, 47, 47, 72, 47, 97, 47, 98, 63, 99] = (bU, 0) := by kernel_rfl
theorem uU_is : parseU [46, 46, 47, 100, 35, 101] = (uU, 0) := by kernel_rfl
theorem xU_is : leadU bU uU = (xU, 0) := by kernel_rfl
theorem sU_is : printU xU = ([104, 116, 116, 112, 58, 47, 47, 104, 47, 100, 35, 101], 0) := by kernel_rfl
theorem small_short (u : UL) (h : u.sch.length ≤ 120 ∧ u.hst.length ≤ 120 ∧ u.pth.length ≤ 120 ∧ u.qry.length ≤ 120 ∧ u.frg.length ≤ 120) : (ofL u).short maxLen := by
  obtain ⟨h1, h2, h3, h4, h5⟩ := h
  have e : ∀ l : List UInt8, (ByteArray.mk l.toArray).size = l.length := bar_size
  unfold maxLen
  refine ⟨?_, ?_, ?_, ?_, ?_⟩
  · show (ByteArray.mk u.sch.toArray).size ≤ _; rw [e]; omega
  · show (ByteArray.mk u.hst.toArray).size ≤ _; rw [e]; omega
  · show (ByteArray.mk u.pth.toArray).size ≤ _; rw [e]; omega
  · show (ByteArray.mk u.qry.toArray).size ≤ _; rw [e]; omega
  · show (ByteArray.mk u.frg.toArray).size ≤ _; rw [e]; omega
/-- addressed. -/
theorem addr_any (w : World) (hM : MaxAt w) : Calls Tryd.prog 13 #[] w fun e w' => e = .returned (.bool true) ∧ Below w.heap.size w w' := by
  refine addr_walk w (bar bU.sch) (bar bU.hst) (bar bU.pth) (bar bU.qry) (bar bU.frg) (bar uU.sch) (bar uU.hst) (bar uU.pth) (bar uU.qry) (bar uU.frg) (bar xU.sch) (bar xU.hst) (bar xU.pth) (bar xU.qry) (bar xU.frg) (bar [104, 116, 116, 112, 58, 47, 47, 104, 47, 100, 35, 101]) bU.hh bU.hq bU.hf uU.hh uU.hq uU.hf xU.hh xU.hq xU.hf (by rw [ByteArray.toList_eq]; rfl) (by rw [ByteArray.toList_eq]; rfl) ?_ ?_ ?_ ?_
  · intro W
    have := uparse_any ⟨#[72, 84, 84, 80, 58, 47, 47, 72, 47, 97, 47, 98, 63, 99]⟩ (by decide) W
    rw [show (ByteArray.mk #[72, 84, 84, 80, 58, 47, 47, 72, 47, 97, 47, 98, 63, 99]).data.toList = [72, 84, 84, 80, 58, 47, 47, 72, 47, 97, 47, 98, 63, 99] from rfl, bU_is] at this
    exact this
  · intro W
    have := uparse_any ⟨#[46, 46, 47, 100, 35, 101]⟩ (by decide) W
    rw [show (ByteArray.mk #[46, 46, 47, 100, 35, 101]).data.toList = [46, 46, 47, 100, 35, 101] from rfl, uU_is] at this
    exact this
  · intro W hb
    have := ulead_any (ofL bU) (ofL uU) (small_short _ (by decide)) (small_short _ (by decide)) W (hM.below hb)
    rw [ofL_l, ofL_l, xU_is] at this
    exact this
  · intro W
    have := uprint_any (ofL xU) (small_short _ (by decide)) W
    rw [ofL_l, sU_is] at this
    exact this
end Go.Proofs.YtjngeofnoogkfabDoor
