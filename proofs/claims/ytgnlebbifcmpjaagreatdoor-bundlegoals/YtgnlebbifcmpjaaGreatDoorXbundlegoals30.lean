/- url.completed, url.Lead, all their ways: what the plain functions say; nothing that was there is changed. Conditions: the texts are no longer than a text can be; internal/bytealg.MaxLen holds a number. -/
import Derived.Test.YtgnlebbifcmpjaaGreatDoorXbundlegoals29
import Derived.Test.YtgnlebbifcmpjaaGreatDoorXbundlegoals16
import Derived.Test.YtgnlebbifcmpjaaGreatDoorXbundlegoals23
import Derived.Test.YtgnlebbifcmpjaaGreatDoorXbundlegoals26
import Derived.Test.YtgnlebbifcmpjaaGreatDoorXbundlegoals15
import Derived.Test.YtgnlebbifcmpjaaGreatDoorXbundlegoals1
namespace Go.Proofs.YtgnlebbifcmpjaaGreatDoor
open Go.RowKit

theorem data_bar (l : List UInt8) : (bar l).data.toList = l := rfl
theorem app_bar (a : ByteArray) (l : List UInt8) (b : ByteArray) (h : a.data.toList = l) : a ++ b = bar (l ++ b.data.toList) := by
  apply ba_inj
  rw [data_app, h]
  rfl

/-- url.completed. -/
theorem ucomp_any (b u : UV) (hb : b.short 120) (hu : u.short 120) (w : World) :
    Calls Tryz.prog 100 #[b.v, u.v] w fun e w' => e = .returned ((ofL (compU b.l u.l)).v) ∧ Below w.heap.size w w' := by
  obtain ⟨bs, bhh, bh, bp, bhq, bq, bhf, bf⟩ := b
  obtain ⟨us, uhh, uh, up, uhq, uq, uhf, uf⟩ := u
  obtain ⟨_, _, hbp, _, _⟩ := hb
  obtain ⟨_, _, hup, _, _⟩ := hu
  simp only at hbp hup
  cases uhh with
  | true => exact comp_H bs bh bp bq bf us uh up uq uf bhh bhq bhf uhq uhf w
  | false =>
    by_cases hpe : up.data.toList = []
    · obtain rfl := bempty_yes up hpe
      cases uhq with
      | true => exact comp_E1 bs bh bp bq bf us uh uq uf bhh bhq bhf uhf w
      | false => exact comp_E2 bs bh bp bq bf us uh uq uf bhh bhq bhf uhf w
    · have he := bempty_no up hpe
      have h0 := pos_no up hpe
      have hps := preS_at up h0
      have hce : compU (UV.l ⟨bs, bhh, bh, bp, bhq, bq, bhf, bf⟩) (UV.l ⟨us, false, uh, up, uhq, uq, uhf, uf⟩) = if preS up.data.toList then ⟨bs.data.toList, bhh, bh.data.toList, up.data.toList, uhq, uq.data.toList, uhf, uf.data.toList⟩ else if bhh && bp.data.toList.isEmpty then ⟨bs.data.toList, bhh, bh.data.toList, 47 :: up.data.toList, uhq, uq.data.toList, uhf, uf.data.toList⟩ else ⟨bs.data.toList, bhh, bh.data.toList, dirP bp.data.toList ++ up.data.toList, uhq, uq.data.toList, uhf, uf.data.toList⟩ := by
        unfold compU UV.l
        simp only
        rw [if_neg (by simp), if_neg (by rw [isE_no up hpe]; simp)]
      rw [hce]
      cases h1 : ((up[0].toNat : Int) == 47) with
      | true =>
        rw [hps, h1, if_pos rfl]
        exact comp_S bs bh bp bq bf us uh up uq uf bhh bhq bhf uhq uhf he h0 h1 w
      | false =>
        rw [hps, h1, if_neg (by simp)]
        have last : ∀ W, Calls Tryz.prog 152 #[.string bp, .int .u8 47] W fun e w' => e = .returned (.int .i64 (Lib.lastIndexByte bp 47)) ∧ w' = W := fun W => Tryz.strings_LastIndexByte bp 47 (by omega) W
        obtain ⟨d1, d2, d3⟩ := last_dir bp
        have hD : bp.extract 0 (Lib.lastIndexByte bp 47 + 1).toNat = bar (dirP bp.data.toList) := by
          apply ba_inj
          rw [Lib.extract_data, d3]
          simp [bar]
        have hDs : (bar (dirP bp.data.toList)).size ≤ 1000 := by
          rw [bar_size, d3, List.length_take]
          have := Lib.size_eq bp
          omega
        have hk : Lib.lastIndexByte bp 47 + 1 = (((Lib.lastIndexByte bp 47 + 1).toNat : Nat) : Int) := by omega
        cases bhh with
        | true =>
          by_cases hbe : bp.data.toList = []
          · obtain rfl := bempty_yes bp hbe
            rw [if_pos (by rfl)]
            refine (comp_B bs bh bq bf us uh up uq uf bhq bhf uhq uhf he h0 h1 (by omega) w).mono ?_
            rintro e w' ⟨rfl, hb⟩
            refine ⟨?_, hb⟩
            rw [app_bar ⟨#[47]⟩ [47] up rfl]
            rfl
          · rw [if_neg (by rw [isE_no bp hbe]; simp)]
            refine (comp_R1 bs bh bp bq bf us uh up uq uf bhq bhf uhq uhf he h0 h1 (by omega) (by omega) _ _ hk d1 _ hD hDs (bempty_no bp hbe) last w).mono ?_
            rintro e w' ⟨rfl, hb⟩
            refine ⟨?_, hb⟩
            rw [app_bar (bar (dirP bp.data.toList)) _ up rfl]
            rfl
        | false =>
          rw [if_neg (by simp)]
          refine (comp_R0 bs bh bp bq bf us uh up uq uf bhq bhf uhq uhf he h0 h1 (by omega) (by omega) _ _ hk d1 _ hD hDs last w).mono ?_
          rintro e w' ⟨rfl, hb⟩
          refine ⟨?_, hb⟩
          rw [app_bar (bar (dirP bp.data.toList)) _ up rfl]
          rfl

/-- How long parts are, with their strokes. -/
def tot (xs : List (List UInt8)) : Nat := (xs.map fun x => x.length + 1).sum
theorem tot_app (a b : List (List UInt8)) : tot (a ++ b) = tot a + tot b := by simp [tot]
theorem tot_cons (a : List UInt8) (b : List (List UInt8)) : tot (a :: b) = a.length + 1 + tot b := by simp [tot]
theorem tot_nil : tot [] = 0 := rfl
theorem tot_back (s : List UInt8) (left : List (List UInt8)) : tot (backP s left) ≤ tot left := by
  unfold backP
  split
  · rcases List.eq_nil_or_concat left with rfl | ⟨l, y, rfl⟩
    · exact Nat.le_refl _
    · rw [List.concat_eq_append, List.dropLast_concat, tot_app]; omega
  · exact Nat.le_refl _
theorem tot_dots : ∀ (ps left : List (List UInt8)), tot (dotsGo ps left) ≤ tot left + tot ps
  | [], left => by rw [dotsGo, tot_nil]; omega
  | s :: r, left => by
    rw [dotsGo, tot_cons]
    split
    · have h1 := tot_back s left
      have h2 := tot_dots r (if r.isEmpty then backP s left ++ [[]] else backP s left)
      have h3 : tot (if r.isEmpty then backP s left ++ [[]] else backP s left) ≤ tot left + 1 := by
        split
        · rw [tot_app]; show tot (backP s left) + 1 ≤ _; omega
        · omega
      omega
    · have h2 := tot_dots r (left ++ [s])
      rw [tot_app, tot_cons, tot_nil] at h2
      omega
theorem tot_join (xs : List (List UInt8)) : (joinP xs).length ≤ tot xs := by
  cases xs with
  | nil => exact Nat.zero_le _
  | cons a t =>
    show (joinG [47] a t).length ≤ _
    induction t generalizing a with
    | nil => rw [tot_cons]; simp [joinG]; omega
    | cons b t ih =>
      have := ih b
      rw [tot_cons]
      simp only [joinG, List.length_append, List.length_cons, List.length_nil]
      omega
theorem tot_parts : ∀ l : List UInt8, tot (partsP l) = l.length + 1
  | [] => rfl
  | c :: r => by
    have ih := tot_parts r
    unfold partsP at ih ⊢
    rw [splitP]
    split
    · rw [tot_cons]; simp only; rw [ih]; simp; omega
    · simp only
      rw [tot_cons] at ih ⊢
      simp only [List.length_cons]
      omega
theorem undot_len (p : List UInt8) : (undotU p).length ≤ p.length + 1 := by
  have h1 := tot_join (dotsGo (partsP p) [])
  have h2 := tot_dots (partsP p) []
  rw [tot_nil, tot_parts] at h2
  unfold undotU
  omega

theorem comp_len (b u : UL) (N : Nat) (h1 : b.sch.length ≤ N) (h2 : b.hst.length ≤ N) (h3 : b.pth.length ≤ N) (h4 : b.qry.length ≤ N) (g2 : u.hst.length ≤ N) (g3 : u.pth.length ≤ N) (g4 : u.qry.length ≤ N) (g5 : u.frg.length ≤ N) :
    (compU b u).sch.length ≤ N ∧ (compU b u).hst.length ≤ N ∧ (compU b u).pth.length ≤ N + N + 1 ∧ (compU b u).qry.length ≤ N ∧ (compU b u).frg.length ≤ N := by
  obtain ⟨m, hm⟩ := dirP_append b.pth
  have hd := congrArg List.length hm
  rw [List.length_append] at hd
  unfold compU
  repeat' split
  all_goals (refine ⟨?_, ?_, ?_, ?_, ?_⟩ <;> simp only [List.length_append, List.length_cons] <;> omega)

theorem upost_lead {w w' : World} {e : Ending} (y : UV) (L : Bool) (n : Nat) (hL : L = likeU y.l) (hn : n = checkU y.l) (h : e = .returned (.tuple #[if L = true then (ofL noUL).v else if n = 0 then y.v else (ofL noUL).v, .int .i64 (if L = true then 4 else (n : Int))]) ∧ Below w.heap.size w w') : UPost w (endU y.l) e w' := by
  obtain ⟨rfl, hb⟩ := h
  refine ⟨?_, hb⟩
  subst hL hn
  unfold endU checkedU
  cases hl : likeU y.l with
  | true => rw [if_pos rfl, if_pos rfl, if_pos rfl]; rfl
  | false =>
    by_cases h : checkU y.l = 0
    · simp only [h, Bool.false_eq_true, if_false, if_true]
      rfl
    · simp only [h, Bool.false_eq_true, if_false]
theorem pre_one (s : ByteArray) (w : World) : Calls Tryz.prog 24 #[.string s, .string ⟨#[47]⟩] w fun e w' => e = .returned (.bool (preS s.data.toList)) ∧ w' = w := by
  refine (Tryz.strings_HasPrefix s ⟨#[47]⟩ w).mono ?_
  rintro e w' ⟨rfl, rfl⟩
  refine ⟨?_, rfl⟩
  rw [show Lib.hasPrefix s.data.toList (ByteArray.mk #[47]).data.toList = preS s.data.toList from by
    show Lib.hasPrefix s.data.toList [47] = preS s.data.toList
    cases s.data.toList with
    | nil => rfl
    | cons a l => simp [Lib.hasPrefix, List.isPrefixOf, preS, Bool.beq_comm]]

/-- url.Lead. -/
theorem ulead_any (b u : UV) (hb : b.short maxLen) (hu : u.short maxLen) (w : World) (hM : MaxAt w) :
    Calls Tryz.prog 55 #[b.v, u.v] w fun e w' => UPost w (leadU b.l u.l) e w' := by
  have CB := fun W => ucheck_any b hb W
  have CU := fun W => ucheck_any u hu W
  obtain ⟨bs, bhh, bh, bp, bhq, bq, bhf, bf⟩ := b
  obtain ⟨us, uhh, uh, up, uhq, uq, uhf, uf⟩ := u
  unfold leadU
  by_cases hcb : checkU (UV.l ⟨bs, bhh, bh, bp, bhq, bq, bhf, bf⟩) = 0
  · by_cases hcu : checkU (UV.l ⟨us, uhh, uh, up, uhq, uq, uhf, uf⟩) = 0
    · rw [if_neg (by simpa using hcb), if_neg (by simpa using hcu)]
      rw [hcb] at CB
      rw [hcu] at CU
      have sb := checkU_short hcb
      have su := checkU_short hcu
      by_cases hse : bs.data.toList = []
      · obtain rfl := bempty_yes bs hse
        rw [if_pos (by rfl)]
        refine (lead_S bh bp bq bf us uh up uq uf bhh bhq bhf uhh uhq uhf w CB CU).mono ?_
        rintro e w' ⟨rfl, hb⟩
        exact ⟨rfl, hb⟩
      · rw [if_neg (by show ¬ bs.data.toList.isEmpty = true; rw [isE_no bs hse]; simp)]
        obtain ⟨b1, b2, b3, b4, b5⟩ := sb
        obtain ⟨u1, u2, u3, u4, u5⟩ := su
        simp only at b1 b2 b3 b4 b5 u1 u2 u3 u4 u5
        by_cases hue : us.data.toList = []
        · obtain rfl := bempty_yes us hue
          have CC := fun W => ucomp_any ⟨bs, bhh, bh, bp, bhq, bq, bhf, bf⟩ ⟨⟨#[]⟩, uhh, uh, up, uhq, uq, uhf, uf⟩ ⟨b1, b2, b3, b4, b5⟩ ⟨u1, u2, u3, u4, u5⟩ W
          have hlen := comp_len (UV.l ⟨bs, bhh, bh, bp, bhq, bq, bhf, bf⟩) (UV.l ⟨⟨#[]⟩, uhh, uh, up, uhq, uq, uhf, uf⟩) 120 (by show bs.data.toList.length ≤ 120; rw [← Lib.size_eq]; exact b1) (by show bh.data.toList.length ≤ 120; rw [← Lib.size_eq]; exact b2) (by show bp.data.toList.length ≤ 120; rw [← Lib.size_eq]; exact b3) (by show bq.data.toList.length ≤ 120; rw [← Lib.size_eq]; exact b4) (by show uh.data.toList.length ≤ 120; rw [← Lib.size_eq]; exact u2) (by show up.data.toList.length ≤ 120; rw [← Lib.size_eq]; exact u3) (by show uq.data.toList.length ≤ 120; rw [← Lib.size_eq]; exact u4) (by show uf.data.toList.length ≤ 120; rw [← Lib.size_eq]; exact u5)
          have hfull : fullU (UV.l ⟨bs, bhh, bh, bp, bhq, bq, bhf, bf⟩) (UV.l ⟨⟨#[]⟩, uhh, uh, up, uhq, uq, uhf, uf⟩) = compU (UV.l ⟨bs, bhh, bh, bp, bhq, bq, bhf, bf⟩) (UV.l ⟨⟨#[]⟩, uhh, uh, up, uhq, uq, uhf, uf⟩) := rfl
          rw [hfull]
          generalize compU (UV.l ⟨bs, bhh, bh, bp, bhq, bq, bhf, bf⟩) (UV.l ⟨⟨#[]⟩, uhh, uh, up, uhq, uq, uhf, uf⟩) = Y at *
          obtain ⟨s1, hh1, h1, p1, hq1, q1, hf1, f1⟩ := Y
          obtain ⟨l1, l2, l3, l4, l5⟩ := hlen
          simp only at l1 l2 l3 l4 l5
          have hul := undot_len p1
          have CDa := fun W (hb : Below w.heap.size w W) => udots_any (bar p1) W (hM.below hb) (by rw [bar_size]; omega)
          cases hh1 with
          | true =>
            have hund : undU ⟨s1, true, h1, p1, hq1, q1, hf1, f1⟩ = UV.l ⟨bar s1, true, bar h1, bar (undotU p1), hq1, bar q1, hf1, bar f1⟩ := rfl
            rw [hund]
            exact (lead_CH bs bh bp bq bf uh up uq uf (bar s1) (bar h1) (bar p1) (bar q1) (bar f1) (bar (undotU p1)) bhh bhq bhf uhh uhq uhf hq1 hf1 hse _ _ w CB CU CC CDa (fun W => ulike_any (bar s1) (bar h1) (bar (undotU p1)) (bar q1) (bar f1) true hq1 hf1 W) (fun W => ucheck_any ⟨bar s1, true, bar h1, bar (undotU p1), hq1, bar q1, hf1, bar f1⟩ (by unfold maxLen; exact ⟨by rw [bar_size]; omega, by rw [bar_size]; omega, by rw [bar_size]; omega, by rw [bar_size]; omega, by rw [bar_size]; omega⟩) W)).mono (fun e w' h => upost_lead ⟨bar s1, true, bar h1, bar (undotU p1), hq1, bar q1, hf1, bar f1⟩ _ _ rfl rfl h)
          | false =>
            have CP := fun W => pre_one (bar p1) W
            rw [bar_l] at CP
            cases hps : preS p1 with
            | true =>
              rw [hps] at CP
              have hund : undU ⟨s1, false, h1, p1, hq1, q1, hf1, f1⟩ = UV.l ⟨bar s1, false, bar h1, bar (undotU p1), hq1, bar q1, hf1, bar f1⟩ := by unfold undU; rw [if_pos (by simp only [hps]; rfl)]; rfl
              rw [hund]
              exact (lead_CP bs bh bp bq bf uh up uq uf (bar s1) (bar h1) (bar p1) (bar q1) (bar f1) (bar (undotU p1)) bhh bhq bhf uhh uhq uhf hq1 hf1 hse _ _ w CB CU CC CP CDa (fun W => ulike_any (bar s1) (bar h1) (bar (undotU p1)) (bar q1) (bar f1) false hq1 hf1 W) (fun W => ucheck_any ⟨bar s1, false, bar h1, bar (undotU p1), hq1, bar q1, hf1, bar f1⟩ (by unfold maxLen; exact ⟨by rw [bar_size]; omega, by rw [bar_size]; omega, by rw [bar_size]; omega, by rw [bar_size]; omega, by rw [bar_size]; omega⟩) W)).mono (fun e w' h => upost_lead ⟨bar s1, false, bar h1, bar (undotU p1), hq1, bar q1, hf1, bar f1⟩ _ _ rfl rfl h)
            | false =>
              rw [hps] at CP
              have hund : undU ⟨s1, false, h1, p1, hq1, q1, hf1, f1⟩ = UV.l ⟨bar s1, false, bar h1, bar p1, hq1, bar q1, hf1, bar f1⟩ := by unfold undU; rw [if_neg (by simp only [hps]; simp)]; rfl
              rw [hund]
              exact (lead_CN bs bh bp bq bf uh up uq uf (bar s1) (bar h1) (bar p1) (bar q1) (bar f1) bhh bhq bhf uhh uhq uhf hq1 hf1 hse _ _ w CB CU CC CP (fun W => ulike_any (bar s1) (bar h1) (bar p1) (bar q1) (bar f1) false hq1 hf1 W) (fun W => ucheck_any ⟨bar s1, false, bar h1, bar p1, hq1, bar q1, hf1, bar f1⟩ (by unfold maxLen; exact ⟨by rw [bar_size]; omega, by rw [bar_size]; omega, by rw [bar_size]; omega, by rw [bar_size]; omega, by rw [bar_size]; omega⟩) W)).mono (fun e w' h => upost_lead ⟨bar s1, false, bar h1, bar p1, hq1, bar q1, hf1, bar f1⟩ _ _ rfl rfl h)
        · have hfull : fullU (UV.l ⟨bs, bhh, bh, bp, bhq, bq, bhf, bf⟩) (UV.l ⟨us, uhh, uh, up, uhq, uq, uhf, uf⟩) = UV.l ⟨us, uhh, uh, up, uhq, uq, uhf, uf⟩ := by
            unfold fullU
            rw [if_neg]
            show ¬ us.data.toList.isEmpty = true
            rw [isE_no us hue]; simp
          rw [hfull]
          have hul := undot_len up.data.toList
          have hupl := Lib.size_eq up
          have CDa := fun W (hb : Below w.heap.size w W) => udots_any up W (hM.below hb) (by omega)
          cases uhh with
          | true =>
            have hund : undU (UV.l ⟨us, true, uh, up, uhq, uq, uhf, uf⟩) = UV.l ⟨us, true, uh, bar (undotU up.data.toList), uhq, uq, uhf, uf⟩ := rfl
            rw [hund]
            exact (lead_KH bs bh bp bq bf us uh up uq uf (bar (undotU up.data.toList)) bhh bhq bhf uhq uhf hse hue _ _ w CB CU CDa (fun W => ulike_any us uh (bar (undotU up.data.toList)) uq uf true uhq uhf W) (fun W => ucheck_any ⟨us, true, uh, bar (undotU up.data.toList), uhq, uq, uhf, uf⟩ (by unfold maxLen; exact ⟨by simp only; omega, by simp only; omega, by rw [bar_size]; omega, by simp only; omega, by simp only; omega⟩) W)).mono (fun e w' h => upost_lead ⟨us, true, uh, bar (undotU up.data.toList), uhq, uq, uhf, uf⟩ _ _ rfl rfl h)
          | false =>
            have CP := fun W => pre_one up W
            cases hps : preS up.data.toList with
            | true =>
              rw [hps] at CP
              have hund : undU (UV.l ⟨us, false, uh, up, uhq, uq, uhf, uf⟩) = UV.l ⟨us, false, uh, bar (undotU up.data.toList), uhq, uq, uhf, uf⟩ := by
                unfold undU
                rw [if_pos (by show (false || preS up.data.toList) = true; rw [hps]; rfl)]
                rfl
              rw [hund]
              exact (lead_KP bs bh bp bq bf us uh up uq uf (bar (undotU up.data.toList)) bhh bhq bhf uhq uhf hse hue _ _ w CB CU CP CDa (fun W => ulike_any us uh (bar (undotU up.data.toList)) uq uf false uhq uhf W) (fun W => ucheck_any ⟨us, false, uh, bar (undotU up.data.toList), uhq, uq, uhf, uf⟩ (by unfold maxLen; exact ⟨by simp only; omega, by simp only; omega, by rw [bar_size]; omega, by simp only; omega, by simp only; omega⟩) W)).mono (fun e w' h => upost_lead ⟨us, false, uh, bar (undotU up.data.toList), uhq, uq, uhf, uf⟩ _ _ rfl rfl h)
            | false =>
              rw [hps] at CP
              have hund : undU (UV.l ⟨us, false, uh, up, uhq, uq, uhf, uf⟩) = UV.l ⟨us, false, uh, up, uhq, uq, uhf, uf⟩ := by
                unfold undU
                rw [if_neg (by show ¬ (false || preS up.data.toList) = true; rw [hps]; simp)]
              rw [hund]
              exact (lead_KN bs bh bp bq bf us uh up uq uf bhh bhq bhf uhq uhf hse hue _ _ w CB CU CP (fun W => ulike_any us uh up uq uf false uhq uhf W) (fun W => ucheck_any ⟨us, false, uh, up, uhq, uq, uhf, uf⟩ hu W)).mono (fun e w' h => upost_lead ⟨us, false, uh, up, uhq, uq, uhf, uf⟩ _ _ rfl rfl h)
    · rw [if_neg (by simpa using hcb), if_pos hcu]
      rw [hcb] at CB
      refine (lead_u bs bh bp bq bf us uh up uq uf bhh bhq bhf uhh uhq uhf _ hcu w CB CU).mono ?_
      rintro e w' ⟨rfl, hb⟩
      exact ⟨rfl, hb⟩
  · rw [if_pos hcb]
    refine (lead_b bs bh bp bq bf us uh up uq uf bhh bhq bhf uhh uhq uhf _ hcb w CB).mono ?_
    rintro e w' ⟨rfl, hb⟩
    exact ⟨rfl, hb⟩
end Go.Proofs.YtgnlebbifcmpjaaGreatDoor

/- bundle.Led: what the plain function says; nothing that was there is changed. Conditions: the texts are no longer than a text can be; internal/bytealg.MaxLen holds a number. -/
namespace Go.Proofs.YtgnlebbifcmpjaaGreatDoor
open Go.RowKit

theorem checkedU_short (u : UL) : (ofL (checkedU u).1).short maxLen := by
  unfold checkedU
  split
  · rename_i h
    exact (checkU_short (u := ofL u) (by rw [ofL_l]; exact h)).mono (by decide)
  · show (ofL noUL).short maxLen; unfold UV.short; decide
theorem parseU_short (s : List UInt8) : (ofL (parseU s).1).short maxLen := by
  have h0 : (ofL noUL).short maxLen := by unfold UV.short; decide
  unfold parseU
  split
  · exact h0
  · unfold parseA
    split
    · exact checkedU_short _
    · split
      · exact h0
      · exact checkedU_short _
theorem leadU_short (b u : UL) : (ofL (leadU b u).1).short maxLen := by
  have h0 : (ofL noUL).short maxLen := by unfold UV.short; decide
  unfold leadU
  split
  · exact h0
  · split
    · exact h0
    · split
      · exact h0
      · unfold endU
        split
        · exact h0
        · exact checkedU_short _
/-- bundle.Led. -/
theorem bled_any (a b : ByteArray) (ha : a.size ≤ maxLen) (hb : b.size ≤ maxLen) (w : World) (hM : MaxAt w) :
    Calls Tryz.prog 13 #[.string a, .string b] w fun e w' => e = .returned (.string (bar (ledU a.data.toList b.data.toList))) ∧ Below w.heap.size w w' := by
  have CP := fun W => uparse_any a ha W
  have CQ := fun W => uparse_any b hb W
  have hs1 := parseU_short a.data.toList
  have hs2 := parseU_short b.data.toList
  have CL := fun W (hW : Below w.heap.size w W) => ulead_any (ofL (parseU a.data.toList).1) (ofL (parseU b.data.toList).1) hs1 hs2 W (hM.below hW)
  have CR := fun W => uprint_any (ofL (leadU (parseU a.data.toList).1 (parseU b.data.toList).1).1) (leadU_short _ _) W
  rw [ofL_l] at CR
  simp only [ofL_l] at CL
  unfold ledU
  generalize parseU a.data.toList = P at *
  generalize parseU b.data.toList = Q at *
  generalize leadU P.1 Q.1 = L at *
  generalize printU L.1 = T at *
  refine (bled_walk w a b _ _ _ _ _ _ _ _ _ _ _ _ _ _ _ ⟨T.1.toArray⟩ _ _ _ _ _ _ _ _ _ P.2 Q.2 L.2 T.2 CP CQ CL CR).mono ?_
  rintro e w' ⟨rfl, hb'⟩
  refine ⟨?_, hb'⟩
  congr 2
  by_cases h1 : P.2 ≠ 0
  · rw [if_pos h1, if_pos h1]; rfl
  · rw [if_neg h1, if_neg h1]
    by_cases h2 : Q.2 ≠ 0
    · rw [if_pos h2, if_pos h2]; rfl
    · rw [if_neg h2, if_neg h2]
      by_cases h3 : L.2 ≠ 0
      · rw [if_pos h3, if_pos h3]; rfl
      · rw [if_neg h3, if_neg h3]; rfl
end Go.Proofs.YtgnlebbifcmpjaaGreatDoor

/- Parts as they lie in memory. No function of the program. -/
namespace Go.Proofs.YtgnlebbifcmpjaaGreatDoor
open Go.RowKit

/-- The seven cells of a part. -/
def PCells (w : World) (b o : Nat) (p : PT) (pb : Option Addr) (cb : Nat) (pk : Option Addr) (ck : Nat) : Prop :=
  w.cell? ⟨b, o, none⟩ = some (.string p.ty) ∧ w.cell? ⟨b, o + 1, none⟩ = some (.string p.cs) ∧ w.cell? ⟨b, o + 2, none⟩ = some (.string p.id) ∧ w.cell? ⟨b, o + 3, none⟩ = some (.string p.loc) ∧
  w.cell? ⟨b, o + 4, none⟩ = some (.int .i64 p.how) ∧ w.cell? ⟨b, o + 5, none⟩ = some (.slice pb p.body.length cb) ∧ w.cell? ⟨b, o + 6, none⟩ = some (.slice pk p.kids.length ck)
/-- Texts, bytes, parts as long as they can be. -/
def PLen (p : PT) : Prop :=
  p.ty.size ≤ maxLen ∧ p.cs.size ≤ maxLen ∧ p.id.size ≤ maxLen ∧ p.loc.size ≤ maxLen ∧ -9223372036854775808 ≤ p.how ∧ p.how ≤ 9223372036854775807 ∧ p.body.length ≤ maxLen ∧ p.kids.length ≤ maxLen
/-- What hangs at a part. -/
def PHeldK (K : Option Addr → List PT → Prop) (w : World) (p : PT) (pb : Option Addr) (cb : Nat) (pk : Option Addr) (ck : Nat) : Prop :=
  PLen p ∧ (p.body.length ≤ cb ∧ cb ≤ maxLen ∧ (pb = none → cb = 0)) ∧ BRow w pb p.body ∧ (p.kids.length ≤ ck ∧ ck ≤ maxLen ∧ (pk = none → ck = 0)) ∧ K pk p.kids
/-- Parts lie behind the address, to the depth f. -/
def KAt (w : World) : Nat → Option Addr → List PT → Prop
  | 0, _, l => l = []
  | f + 1, a, l => l ≠ [] → ∃ b o, a = some ⟨b, o, none⟩ ∧ ∀ i, i < l.length → ∃ pb cb pk ck, PCells w b (o + i * 7) (l.getD i pt0) pb cb pk ck ∧ PHeldK (KAt w f) w (l.getD i pt0) pb cb pk ck
def PHeld (w : World) (f : Nat) (p : PT) (pb : Option Addr) (cb : Nat) (pk : Option Addr) (ck : Nat) : Prop := PHeldK (KAt w f) w p pb cb pk ck
def PAt (w : World) (f : Nat) (b o : Nat) (p : PT) : Prop := ∃ pb cb pk ck, PCells w b o p pb cb pk ck ∧ PHeld w f p pb cb pk ck
/-- A part as a value. -/
def pval (p : PT) (pb : Option Addr) (cb : Nat) (pk : Option Addr) (ck : Nat) : Value :=
  .agg #[.string p.ty, .string p.cs, .string p.id, .string p.loc, .int .i64 p.how, .slice pb p.body.length cb, .slice pk p.kids.length ck]

theorem KAt.each {w : World} {f : Nat} {a : Option Addr} {l : List PT} (h : KAt w (f + 1) a l) (hne : l ≠ []) : ∃ b o, a = some ⟨b, o, none⟩ ∧ ∀ i, i < l.length → PAt w f b (o + i * 7) (l.getD i pt0) := by
  obtain ⟨b, o, e, hc⟩ := h hne
  exact ⟨b, o, e, fun i hi => hc i hi⟩
theorem KAt.mk {w : World} {f b o : Nat} {l : List PT} (h : ∀ i, i < l.length → PAt w f b (o + i * 7) (l.getD i pt0)) : KAt w (f + 1) (some ⟨b, o, none⟩) l := fun _ => ⟨b, o, rfl, fun i hi => h i hi⟩
theorem KAt.nil (w : World) (f : Nat) (a : Option Addr) : KAt w f a [] := by
  cases f with
  | zero => rfl
  | succ f => exact fun h => absurd rfl h

theorem BRow.under {w w' : World} {p : Option Addr} {l : List UInt8} (h : BRow w p l) (hb : Below w.heap.size w w') : BRow w' p l := by
  intro hne
  obtain ⟨b, o, rfl, hc⟩ := h hne
  refine ⟨b, o, rfl, fun i hi => ?_⟩
  have := hc i hi
  rw [hb.cell (p := ⟨b, o + i, none⟩) (World.block_lt_of_cell? w _ this)]
  exact this
theorem PCells.below {w w' : World} {b o : Nat} {p : PT} {pb : Option Addr} {cb : Nat} {pk : Option Addr} {ck : Nat} (h : PCells w b o p pb cb pk ck) (hb : Below w.heap.size w w') : PCells w' b o p pb cb pk ck := by
  obtain ⟨h0, h1, h2, h3, h4, h5, h6⟩ := h
  have hl := World.block_lt_of_cell? w _ h0
  refine ⟨?_, ?_, ?_, ?_, ?_, ?_, ?_⟩
  · rw [hb.cell (p := ⟨b, o, none⟩) hl]; exact h0
  · rw [hb.cell (p := ⟨b, o + 1, none⟩) hl]; exact h1
  · rw [hb.cell (p := ⟨b, o + 2, none⟩) hl]; exact h2
  · rw [hb.cell (p := ⟨b, o + 3, none⟩) hl]; exact h3
  · rw [hb.cell (p := ⟨b, o + 4, none⟩) hl]; exact h4
  · rw [hb.cell (p := ⟨b, o + 5, none⟩) hl]; exact h5
  · rw [hb.cell (p := ⟨b, o + 6, none⟩) hl]; exact h6
theorem PHeldK.mono {K K' : Option Addr → List PT → Prop} {w w' : World} {p : PT} {pb : Option Addr} {cb : Nat} {pk : Option Addr} {ck : Nat} (h : PHeldK K w p pb cb pk ck) (hb : Below w.heap.size w w') (hK : ∀ a l, K a l → K' a l) : PHeldK K' w' p pb cb pk ck :=
  ⟨h.1, h.2.1, h.2.2.1.under hb, h.2.2.2.1, hK _ _ h.2.2.2.2⟩
theorem KAt.below {w w' : World} (hb : Below w.heap.size w w') : ∀ (f : Nat) (a : Option Addr) (l : List PT), KAt w f a l → KAt w' f a l
  | 0, _, _, h => h
  | f + 1, a, l, h => fun hne => by
    obtain ⟨b, o, e, hc⟩ := h hne
    refine ⟨b, o, e, fun i hi => ?_⟩
    obtain ⟨pb, cb, pk, ck, h1, h2⟩ := hc i hi
    exact ⟨pb, cb, pk, ck, h1.below hb, h2.mono hb (KAt.below hb f)⟩
theorem PHeld.below {w w' : World} {f : Nat} {p : PT} {pb : Option Addr} {cb : Nat} {pk : Option Addr} {ck : Nat} (h : PHeld w f p pb cb pk ck) (hb : Below w.heap.size w w') : PHeld w' f p pb cb pk ck := PHeldK.mono h hb (KAt.below hb f)
theorem PAt.below {w w' : World} {f b o : Nat} {p : PT} (h : PAt w f b o p) (hb : Below w.heap.size w w') : PAt w' f b o p := by
  obtain ⟨pb, cb, pk, ck, h1, h2⟩ := h
  exact ⟨pb, cb, pk, ck, h1.below hb, h2.below hb⟩
theorem PAt.lt {w : World} {f b o : Nat} {p : PT} (h : PAt w f b o p) : b < w.heap.size := by
  obtain ⟨pb, cb, pk, ck, h1, h2⟩ := h
  exact World.block_lt_of_cell? w _ h1.1
end Go.Proofs.YtgnlebbifcmpjaaGreatDoor
