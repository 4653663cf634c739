/- url.small: what the plain function says; nothing that was there is changed. Condition: the text is not too long. -/
import Derived.Test.YtgnlebbifcmpjaaGreatDoorXbundlegoals17
import Derived.Test.YtgnlebbifcmpjaaGreatDoorXbundlegoals12
import Derived.Lib.ConvBytes
import Derived.Test.YtgnlebbifcmpjaaGreatDoorXbundlegoals22
namespace Go.Proofs.YtgnlebbifcmpjaaGreatDoor
open Go.RowKit

/-- The first k letters small. -/
def smk (k : Nat) (l : List UInt8) : List UInt8 := smallU (l.take k) ++ l.drop k
theorem smk_length (k : Nat) (l : List UInt8) : (smk k l).length = l.length := by
  unfold smk smallU
  rw [List.length_append, List.length_map, List.length_take, List.length_drop]
  omega
theorem smk_all (l : List UInt8) : smk l.length l = smallU l := by
  unfold smk
  rw [List.take_length, List.drop_length, List.append_nil]
theorem smk_get (k : Nat) (l : List UInt8) (h : k < l.length) : (smk k l).getD k 0 = l.getD k 0 := by
  unfold smk smallU
  rw [List.getD_eq_getElem?_getD, List.getElem?_append_right (by simp; omega), List.length_map, List.length_take, Nat.min_eq_left (by omega), Nat.sub_self, List.getElem?_drop, List.getD_eq_getElem?_getD]
  rfl
theorem smk_succ (k : Nat) (l : List UInt8) (h : k < l.length) : smk (k + 1) l = (smk k l).set k (lowU (l.getD k 0)) := by
  have hl : (smallU (l.take k)).length = k := by unfold smallU; rw [List.length_map, List.length_take]; omega
  unfold smk
  rw [List.set_append_right _ _ (by omega), hl, Nat.sub_self, List.drop_eq_getElem_cons h, List.set_cons_zero]
  rw [List.take_add_one, List.getElem?_eq_getElem h]
  unfold smallU
  rw [List.map_append, List.append_assoc]
  simp [List.getD_eq_getElem?_getD, List.getElem?_eq_getElem h]
theorem set_getD (l : List UInt8) (k i : Nat) (v : UInt8) (h : k < l.length) : (l.set k v).getD i 0 = if i = k then v else l.getD i 0 := by
  rw [List.getD_eq_getElem?_getD, List.getElem?_set]
  by_cases hik : k = i
  · subst hik; simp [h]
  · rw [if_neg hik, if_neg (Ne.symm hik), List.getD_eq_getElem?_getD]
theorem set_self (l : List UInt8) (k : Nat) (h : k < l.length) : l.set k (l.getD k 0) = l := by
  rw [List.getD_eq_getElem?_getD, List.getElem?_eq_getElem h]
  simp

set_option maxHeartbeats 4000000 in
set_option maxRecDepth 100000 in
/-- url.small. -/
theorem usm_any (s : ByteArray) (w : World) (hs : s.size ≤ 1000000) :
    Calls Tryz.prog 71 #[.string s] w fun e w' => e = .returned (.string ⟨(smallU s.data.toList).toArray⟩) ∧ Below w.heap.size w w' := by
  have hcv : (convert 9 22 (.string s)).run Tryz.prog w = .ok (.slice (some ⟨w.heap.size, 0, none⟩) s.size (grownCap w s.size 0 5)) (Lib.bytesWorld w 5 s) := Lib.run_convert_string_bytes w _ _ _ s Tryz.underlying9 Tryz.underlying22 Tryz.underlying5
  have hB : Below w.heap.size w (Lib.bytesWorld w 5 s) := ⟨rfl, rfl, rfl, by rw [Lib.bytesWorld_size]; omega, fun k hk => Lib.bytesWorld_at_old w _ s k hk⟩
  have HC0 : Hid (∀ i, i < s.size → (Lib.bytesWorld w 5 s).cell? ⟨w.heap.size, i, none⟩ = some (.int .u8 ((s.data.toList.getD i 0).toNat : Int))) := fun i hi => Lib.bytesWorld_cell w _ s i hi
  have HF0 : Hid (∀ i, i < s.size → (Lib.bytesWorld w 5 s).frozen? ⟨w.heap.size, i, none⟩ = false) := fun i hi => by
    unfold World.frozen?
    simp only [Lib.bytesWorld_at_new]
    have : s.size ≤ (Lib.bytesCells w 5 s).size := by unfold Lib.bytesCells; simp
    rw [Bool.and_eq_false_iff]
    left
    rw [decide_eq_false_iff_not]
    omega
  generalize grownCap w s.size 0 5 = CAP at *
  generalize Lib.bytesWorld w 5 s = w1 at *
  have hle : Hid (s.size = s.data.toList.length) := Lib.size_eq s
  go_enter Tryz.func71, Tryz.ntmps71
  go_wp2
  go_loopw [10] (fun iv wr => ∃ k : Nat, k ≤ s.size ∧ iv = .int .i64 k ∧ Below w.heap.size w wr ∧ Hid (∀ i, i < s.size → wr.cell? ⟨w.heap.size, i, none⟩ = some (.int .u8 (((smk k s.data.toList).getD i 0).toNat : Int))) ∧ Hid (∀ i, i < s.size → wr.frozen? ⟨w.heap.size, i, none⟩ = false)) (fun iv _ => s.size - (intOf iv).toNat)
  case atStart => exact ⟨0, Nat.zero_le _, rfl, hB, HC0, HF0⟩
  case round =>
    obtain ⟨k, hk, rfl, hbel, HC, HF⟩ := hrel
    clear HC0 HF0
    by_cases hlt : k < s.size
    · have hll : k < s.data.toList.length := by rw [← hle.out]; exact hlt
      have hck := HC.out k hlt
      rw [smk_get k _ hll] at hck
      have hfk := HF.out k hlt
      obtain ⟨c, hc⟩ : ∃ c, s.data.toList.getD k 0 = c := ⟨_, rfl⟩
      rw [hc] at hck
      have CI : Hid (Calls Tryz.prog 127 #[.int .u8 (c.toNat : Int)] wr fun e w' => e = .returned (.bool (isUpB c)) ∧ w' = wr) := ularge_any c wr
      cases hu : isUpB c with
      | false =>
        rw [hu] at CI
        have HC2 : Hid (∀ i, i < s.size → wr.cell? ⟨w.heap.size, i, none⟩ = some (.int .u8 (((smk (k + 1) s.data.toList).getD i 0).toNat : Int))) := fun i hi => by
          rw [smk_succ k _ hll, hc, show lowU c = c from by unfold lowU; rw [hu]; rfl, ← hc, ← smk_get k _ hll, set_self _ k (by rw [smk_length]; exact hll)]
          exact HC.out i hi
        clear HC hc hu
        go_wp2_with fail
        refine CI.out.mono ?_
        rintro e w' ⟨rfl, hw'⟩
        have hw'' := hw'.symm
        subst hw''
        clear CI
        go_wp2
        go_roundw
        case rel => exact ⟨k + 1, by omega, by go_num, hbel, HC2, HF⟩
        case measure => simp [intOf]; omega
      | true =>
        rw [hu] at CI
        have hub : 65 ≤ c.toNat ∧ c.toNat ≤ 90 := by unfold isUpB at hu; simpa using hu
        have h65 : (65 : Int) ≤ (c.toNat : Int) := by omega
        have h90 : (c.toNat : Int) ≤ 90 := by omega
        have hval : (c.toNat : Int) - 65 + 97 = ((lowU c).toNat : Int) := by
          have : (lowU c).toNat = c.toNat + 32 := by
            unfold lowU
            rw [if_pos hu, UInt8.toNat_add]
            show (c.toNat + 32) % 256 = _
            omega
          omega
        have HC2 : Hid (∀ i, i < s.size → (wr.setCell ⟨w.heap.size, k, none⟩ (.int .u8 ((lowU c).toNat : Int))).cell? ⟨w.heap.size, i, none⟩ = some (.int .u8 (((smk (k + 1) s.data.toList).getD i 0).toNat : Int))) := fun i hi => by
          rw [smk_succ k _ hll, hc, set_getD _ _ _ _ (by rw [smk_length]; exact hll)]
          by_cases hik : i = k
          · subst hik
            rw [if_pos rfl]
            exact World.cell?_setCell_same _ _ _ hck
          · rw [if_neg hik, World.cell?_setCell_other _ _ _ _ (fun e => hik (by injection e with _ e _; exact e.symm))]
            exact HC.out i hi
        have HF2 : Hid (∀ i, i < s.size → (wr.setCell ⟨w.heap.size, k, none⟩ (.int .u8 ((lowU c).toNat : Int))).frozen? ⟨w.heap.size, i, none⟩ = false) := fun i hi => by
          rw [World.frozen?_setCell]; exact HF.out i hi
        have hb2 : Below w.heap.size w (wr.setCell ⟨w.heap.size, k, none⟩ (.int .u8 ((lowU c).toNat : Int))) := hbel.setCell (Nat.le_refl _) _
        clear HC HF hc hu hub
        go_wp2_with fail
        refine CI.out.mono ?_
        rintro e w' ⟨rfl, hw'⟩
        have hw'' := hw'.symm
        subst hw''
        clear CI
        go_wp2
        try simp only [hval]
        go_roundw
        case rel => exact ⟨k + 1, by omega, by go_num, hb2, HC2, HF2⟩
        case measure => simp [intOf]; omega
    · obtain rfl : k = s.size := by omega
      have hr : BRow wr (some ⟨w.heap.size, 0, none⟩) (smallU s.data.toList) := fun _ => ⟨w.heap.size, 0, rfl, fun i hi => by
        have hi' : i < s.size := by rw [hle.out]; unfold smallU at hi; rw [List.length_map] at hi; exact hi
        have := HC.out i hi'
        rw [hle.out, smk_all] at this
        rw [Nat.zero_add]
        exact this⟩
      have hcv2 := conv_bytes wr (some ⟨w.heap.size, 0, none⟩) s.size CAP (smallU s.data.toList) (by rw [hle.out]; unfold smallU; rw [List.length_map]) hr (fun e => by cases e)
      clear HC HF hr
      go_wp2
      go_ret
      exact ⟨rfl, hbel⟩
end Go.Proofs.YtgnlebbifcmpjaaGreatDoor

/- Plain facts of addresses: what is printed is read as it was; what is read is printed, with small letters in its scheme and host alone. No program. -/
namespace Go.Proofs.YtgnlebbifcmpjaaGreatDoor

theorem betw_at {lo hi : Nat} {but l : List UInt8} (h : betw lo hi but l = true) {d : UInt8} (hd : but.contains d = true) : ∀ c ∈ l, c ≠ d := by
  intro c hc e
  subst e
  have := (inB_at h hc).2.2
  rw [hd] at this
  cases this
theorem cutB_no (d : UInt8) : ∀ l : List UInt8, (∀ c ∈ l, c ≠ d) → cutB d l = none
  | [], _ => rfl
  | c :: l, h => by rw [cutB, if_neg (h c (by simp)), cutB_no d l (fun x hx => h x (by simp [hx]))]; rfl
theorem cutO_opt (d : UInt8) (a f : List UInt8) (b : Bool) (ha : ∀ c ∈ a, c ≠ d) (hb : b = false → f = []) : cutO d (a ++ opt b (d :: f)) = (a, f, b) := by
  unfold cutO opt
  cases b with
  | true => rw [if_pos rfl, cutB_at d a f ha]
  | false => rw [if_neg (by simp), List.append_nil, cutB_no d a ha, hb rfl]
theorem sch_facts {l : List UInt8} (h : schemeS l = true) : l ≠ [] ∧ ∀ c ∈ l, schB c = true := by
  unfold schemeS at h
  simp only [Bool.and_eq_true, List.all_eq_true] at h
  refine ⟨?_, h.2⟩
  rintro rfl
  exact absurd h.1 (by simp)
theorem schB_facts {c : UInt8} (h : schB c = true) : c ≠ 58 ∧ c ≠ 47 ∧ c ≠ 63 ∧ c ≠ 35 ∧ isUpB c = false ∧ c.toNat < 128 := by
  have : ∀ n : Fin 256, schB (UInt8.ofNat n.val) = true → UInt8.ofNat n.val ≠ 58 ∧ UInt8.ofNat n.val ≠ 47 ∧ UInt8.ofNat n.val ≠ 63 ∧ UInt8.ofNat n.val ≠ 35 ∧ isUpB (UInt8.ofNat n.val) = false ∧ (UInt8.ofNat n.val).toNat < 128 := by decide +kernel
  have h2 := this ⟨c.toNat, c.toNat_lt⟩
  simp only [UInt8.ofNat_toNat] at h2
  exact h2 h
theorem lowU_self {c : UInt8} (h : isUpB c = false) : lowU c = c := by unfold lowU; rw [h]; rfl
theorem smallU_self {l : List UInt8} (h : ∀ c ∈ l, isUpB c = false) : smallU l = l := by
  unfold smallU
  induction l with
  | nil => rfl
  | cons c l ih => rw [List.map_cons, lowU_self (h c (by simp)), ih (fun x hx => h x (by simp [hx]))]
theorem cutC_at : ∀ (a r : List UInt8), (∀ c ∈ a, c ≠ 58 ∧ c ≠ 47) → cutC (a ++ 58 :: r) = some (a, r)
  | [], r, _ => by rw [List.nil_append, cutC, if_pos rfl]
  | c :: a, r, h => by
    rw [List.cons_append, cutC, if_neg (h c (by simp)).1, if_neg (h c (by simp)).2, cutC_at a r (fun x hx => h x (by simp [hx]))]
    rfl
theorem cutC_some : ∀ (l a r : List UInt8), cutC l = some (a, r) → l = a ++ 58 :: r
  | [], _, _, h => by cases h
  | c :: l, a, r, h => by
    rw [cutC] at h
    split at h
    · rename_i e; subst e; cases h; rfl
    · split at h
      · cases h
      · cases hl : cutC l with
        | none => rw [hl] at h; cases h
        | some x =>
          obtain ⟨x1, x2⟩ := x
          rw [hl] at h
          cases h
          rw [cutC_some l x1 x2 hl]; rfl
theorem cutH_host (h p : List UInt8) (hh : ∀ c ∈ h, c ≠ 47) (hp : p = [] ∨ preS p = true) : cutH (h ++ p) = (h, p) := by
  unfold cutH
  rcases hp with rfl | hp
  · rw [List.append_nil, cutB_no 47 h hh]
  · obtain ⟨r, rfl⟩ := (preS_iff p).1 hp
    rw [cutB_at 47 h r hh]
theorem cutH_app (l : List UInt8) : (cutH l).1 ++ (cutH l).2 = l := by
  unfold cutH
  cases hc : cutB 47 l with
  | none => simp
  | some x =>
    obtain ⟨x1, x2⟩ := x
    exact ((cutB_some 47 l x1 x2 hc).1).symm

/-- WHAT IS PRINTED IS READ. -/
theorem parse_text {u : UL} (h : checkU u = 0) : parseU (textU u) = (u, 0) := by
  obtain ⟨h1, h2, h3, h4⟩ := checkU_zero h
  obtain ⟨b1, b2, b3, b4, b5, b6⟩ := wrtU_true h2
  obtain ⟨c1, c2, c3, c4, c5⟩ := frmU_true h3
  have hs : ∀ c ∈ opt (!u.sch.isEmpty) (u.sch ++ [58]), c ≠ 35 ∧ c ≠ 63 := by
    intro c hc
    rcases b1 with e | e
    · rw [e] at hc; cases hc
    · unfold opt at hc
      split at hc
      · rcases List.mem_append.1 hc with hc | hc
        · have := schB_facts ((sch_facts e).2 c hc); exact ⟨this.2.2.2.1, this.2.2.1⟩
        · simp at hc; subst hc; decide
      · cases hc
  have hm : ∀ c ∈ opt u.hh ([47, 47] ++ u.hst), c ≠ 35 ∧ c ≠ 63 := by
    intro c hc
    unfold opt at hc
    split at hc
    · rcases List.mem_append.1 hc with hc | hc
      · simp at hc; subst hc; decide
      · exact ⟨betw_at b2 (by decide) c hc, betw_at b2 (by decide) c hc⟩
    · cases hc
  have hp : ∀ c ∈ u.pth, c ≠ 35 ∧ c ≠ 63 := fun c hc => ⟨betw_at b3 (by decide) c hc, betw_at b3 (by decide) c hc⟩
  have hA : ∀ c ∈ opt (!u.sch.isEmpty) (u.sch ++ [58]) ++ (opt u.hh ([47, 47] ++ u.hst) ++ u.pth), c ≠ 35 ∧ c ≠ 63 := by
    intro c hc
    rcases List.mem_append.1 hc with hc | hc
    · exact hs c hc
    · rcases List.mem_append.1 hc with hc | hc
      · exact hm c hc
      · exact hp c hc
  have hB : ∀ c ∈ opt u.hq (63 :: u.qry), c ≠ 35 := by
    intro c hc
    unfold opt at hc
    split at hc
    · rcases List.mem_cons.1 hc with hc | hc
      · subst hc; decide
      · exact betw_at b4 (by decide) c hc
    · cases hc
  obtain ⟨A, eA⟩ : ∃ A, A = opt (!u.sch.isEmpty) (u.sch ++ [58]) ++ (opt u.hh ([47, 47] ++ u.hst) ++ u.pth) := ⟨_, rfl⟩
  have eT : textU u = (A ++ opt u.hq (63 :: u.qry)) ++ opt u.hf (35 :: u.frg) := by rw [eA]; unfold textU; simp only [List.append_assoc]
  rw [← eA] at hA
  have e1 : cutO 35 (textU u) = (A ++ opt u.hq (63 :: u.qry), u.frg, u.hf) := by
    rw [eT]
    exact cutO_opt 35 _ _ _ (fun c hc => (List.mem_append.1 hc).elim (fun x => (hA c x).1) (hB c)) c3
  have e2 : cutO 63 (A ++ opt u.hq (63 :: u.qry)) = (A, u.qry, u.hq) := cutO_opt 63 _ _ _ (fun c hc => (hA c hc).2) c2
  unfold parseU
  rw [if_neg (by omega), e1]
  simp only
  rw [e2]
  simp only
  have eH : ∀ sch, sch = u.sch → hostU sch (opt u.hh ([47, 47] ++ u.hst) ++ u.pth) u.hq u.qry u.hf u.frg = u := by
    rintro sch rfl
    unfold hostU
    cases ehh : u.hh with
    | true =>
      have e3 : opt true ([47, 47] ++ u.hst) ++ u.pth = 47 :: 47 :: (u.hst ++ u.pth) := rfl
      rw [e3, if_pos (show preSS (47 :: 47 :: (u.hst ++ u.pth)) = true from rfl)]
      simp only [List.drop_succ_cons, List.drop_zero]
      rw [cutH_host u.hst u.pth (betw_at b2 (by decide)) (c4 ehh), smallU_self b6]
      cases u; simp at ehh ⊢; exact ehh
    | false =>
      have e3 : opt false ([47, 47] ++ u.hst) ++ u.pth = u.pth := rfl
      rw [e3, if_neg (by rw [(c5 ehh).1]; simp)]
      have := c1 ehh
      cases u; simp at ehh this ⊢; first | exact ⟨ehh, this⟩ | exact ⟨ehh, this.symm⟩
  unfold parseA
  rcases b1 with e | e
  · have eA' : A = opt u.hh ([47, 47] ++ u.hst) ++ u.pth := by rw [eA, e]; rfl
    have eC : cutC A = none := by
      rw [eA']
      cases ehh : u.hh with
      | true => rfl
      | false => exact (c5 ehh).2 e
    rw [eC]
    simp only
    rw [eA', eH [] e.symm]
    unfold checkedU
    rw [if_pos h]
  · have eS := sch_facts e
    have ene : u.sch.isEmpty = false := by cases hu : u.sch with
      | nil => exact absurd hu eS.1
      | cons a b => rfl
    have eA' : A = u.sch ++ 58 :: (opt u.hh ([47, 47] ++ u.hst) ++ u.pth) := by
      rw [eA, ene]
      show (u.sch ++ [58]) ++ _ = _
      rw [List.append_assoc]; rfl
    have eC := cutC_at u.sch (opt u.hh ([47, 47] ++ u.hst) ++ u.pth) (fun c hc => by
      have := schB_facts (eS.2 c hc); exact ⟨this.1, this.2.1⟩)
    rw [← eA'] at eC
    rw [eC]
    simp only
    have eSm : smallU u.sch = u.sch := smallU_self (fun c hc => (schB_facts (eS.2 c hc)).2.2.2.2.1)
    rw [eSm, if_neg (by rw [e]; simp), eH u.sch rfl]
    unfold checkedU
    rw [if_pos h]

theorem cutO_app (d : UInt8) (l : List UInt8) : (cutO d l).1 ++ opt (cutO d l).2.2 (d :: (cutO d l).2.1) = l := by
  unfold cutO
  cases hc : cutB d l with
  | none => simp [opt]
  | some x =>
    obtain ⟨x1, x2⟩ := x
    simp only [opt, if_true]
    exact ((cutB_some d l x1 x2 hc).1).symm
theorem hostU_text (sch l : List UInt8) (hq : Bool) (q : List UInt8) (hf : Bool) (f : List UInt8) : ∃ h, smallU h = (hostU sch l hq q hf f).hst ∧ l = opt (hostU sch l hq q hf f).hh ([47, 47] ++ h) ++ (hostU sch l hq q hf f).pth ∧ (hostU sch l hq q hf f).sch = sch ∧ (hostU sch l hq q hf f).hq = hq ∧ (hostU sch l hq q hf f).qry = q ∧ (hostU sch l hq q hf f).hf = hf ∧ (hostU sch l hq q hf f).frg = f := by
  unfold hostU
  split
  · rename_i hp
    refine ⟨(cutH (l.drop 2)).1, rfl, ?_, rfl, rfl, rfl, rfl, rfl⟩
    simp only [opt, if_true]
    rw [List.append_assoc, cutH_app]
    match l, hp with
    | a :: b :: r, hp =>
      simp [preSS] at hp
      rw [hp.1, hp.2]; rfl
    | [], hp => cases hp
    | [a], hp => cases hp
  · exact ⟨[], rfl, rfl, rfl, rfl, rfl, rfl, rfl⟩
theorem checkedU_out {u : UL} (h : (checkedU u).2 = 0) : checkU u = 0 ∧ checkedU u = (u, 0) := by
  unfold checkedU at h ⊢
  split at h
  · rename_i h1; exact ⟨h1, by rw [if_pos h1]⟩
  · exact absurd h (by assumption)
/-- What is read: its text, but for large letters in scheme and host. -/
theorem parse_out {s : List UInt8} (h : (parseU s).2 = 0) : checkU (parseU s).1 = 0 ∧ s.length ≤ 120 ∧ ∃ a g, smallU a = (parseU s).1.sch ∧ smallU g = (parseU s).1.hst ∧
    s = opt (!a.isEmpty) (a ++ [58]) ++ (opt (parseU s).1.hh ([47, 47] ++ g) ++ ((parseU s).1.pth ++ (opt (parseU s).1.hq (63 :: (parseU s).1.qry) ++ opt (parseU s).1.hf (35 :: (parseU s).1.frg)))) := by
  unfold parseU at h ⊢
  split at h
  · cases h
  rename_i hl
  rw [if_neg hl]
  have e1 := cutO_app 35 s
  have e2 := cutO_app 63 (cutO 35 s).1
  generalize (cutO 35 s).2.2 = hf at *
  generalize (cutO 35 s).2.1 = f at *
  generalize (cutO 35 s).1 = s1 at *
  generalize (cutO 63 s1).2.2 = hq at *
  generalize (cutO 63 s1).2.1 = q at *
  generalize (cutO 63 s1).1 = s2 at *
  have es : s = s2 ++ (opt hq (63 :: q) ++ opt hf (35 :: f)) := by rw [← e1, ← e2, List.append_assoc]
  unfold parseA at h ⊢
  cases hc : cutC s2 with
  | none =>
    rw [hc] at h
    simp only at h ⊢
    obtain ⟨k1, k2⟩ := checkedU_out h
    rw [k2]
    obtain ⟨g, g1, g2, g3, g4, g5, g6, g7⟩ := hostU_text [] s2 hq q hf f
    refine ⟨k1, by omega, [], g, ?_, g1, ?_⟩
    · simp only; rw [g3]; rfl
    · simp only; rw [g4, g5, g6, g7, es, ← List.append_assoc _ (hostU [] s2 hq q hf f).pth, ← g2]; rfl
  | some x =>
    obtain ⟨a, r⟩ := x
    rw [hc] at h
    simp only at h ⊢
    split at h
    · cases h
    rename_i hsc
    rw [if_neg hsc]
    obtain ⟨k1, k2⟩ := checkedU_out h
    rw [k2]
    obtain ⟨g, g1, g2, g3, g4, g5, g6, g7⟩ := hostU_text (smallU a) r hq q hf f
    have ha : a.isEmpty = false := by cases a with
      | nil => exact absurd rfl hsc
      | cons x y => rfl
    refine ⟨k1, by omega, a, g, ?_, g1, ?_⟩
    · simp only; rw [g3]
    · simp only; rw [g4, g5, g6, g7, es, ← List.append_assoc _ (hostU (smallU a) r hq q hf f).pth, ← g2, ha, cutC_some s2 a r hc]
      show (a ++ 58 :: r) ++ _ = (a ++ [58]) ++ _
      simp

theorem low_lowU (c : UInt8) : Lib.lowerB (lowU c) = Lib.lowerB c := by
  have : ∀ n : Fin 256, Lib.lowerB (lowU (UInt8.ofNat n.val)) = Lib.lowerB (UInt8.ofNat n.val) := by decide +kernel
  have h := this ⟨c.toNat, c.toNat_lt⟩
  simp only [UInt8.ofNat_toNat] at h
  exact h
theorem ascii_lowU (c : UInt8) : (lowU c).toNat < 128 ↔ c.toNat < 128 := by
  have : ∀ n : Fin 256, (lowU (UInt8.ofNat n.val)).toNat < 128 ↔ (UInt8.ofNat n.val).toNat < 128 := by decide +kernel
  have h := this ⟨c.toNat, c.toNat_lt⟩
  simp only [UInt8.ofNat_toNat] at h
  exact h
theorem map_smallU (l : List UInt8) : (smallU l).map Lib.lowerB = l.map Lib.lowerB := by
  unfold smallU
  rw [List.map_map]
  congr 1
  funext c
  exact low_lowU c
theorem betw_ascii {lo : Nat} {but l : List UInt8} (h : betw lo 126 but l = true) : ∀ c ∈ l, c.toNat < 128 := fun c hc => by
  have := (inB_at h hc).2.1; omega
theorem smallU_ascii {l : List UInt8} (h : ∀ c ∈ smallU l, c.toNat < 128) : ∀ c ∈ l, c.toNat < 128 := fun c hc => (ascii_lowU c).1 (h _ (List.mem_map_of_mem hc))
theorem smallU_nil {l : List UInt8} : (smallU l).isEmpty = l.isEmpty := by cases l <;> rfl
theorem opt_mem {b : Bool} {l : List UInt8} {c : UInt8} (h : c ∈ opt b l) : c ∈ l := by
  unfold opt at h
  split at h
  · exact h
  · cases h
theorem opt_map (g : UInt8 → UInt8) (b : Bool) (l : List UInt8) : (opt b l).map g = opt b (l.map g) := by cases b <;> rfl
def tailU (u : UL) : List UInt8 := opt u.hq (63 :: u.qry) ++ opt u.hf (35 :: u.frg)
theorem text_ascii {u : UL} (h : checkU u = 0) (a g : List UInt8) (ha : smallU a = u.sch) (hg : smallU g = u.hst) : ∀ c ∈ opt (!a.isEmpty) (a ++ [58]) ++ (opt u.hh ([47, 47] ++ g) ++ (u.pth ++ (opt u.hq (63 :: u.qry) ++ opt u.hf (35 :: u.frg)))), c.toNat < 128 := by
  obtain ⟨_, h2, _, _⟩ := checkU_zero h
  obtain ⟨b1, b2, b3, b4, b5, b6⟩ := wrtU_true h2
  have hsa : ∀ c ∈ a, c.toNat < 128 := smallU_ascii (fun c hc => by
    rw [ha] at hc
    rcases b1 with e | e
    · rw [e] at hc; cases hc
    · exact (schB_facts ((sch_facts e).2 c hc)).2.2.2.2.2)
  have hsg : ∀ c ∈ g, c.toNat < 128 := smallU_ascii (fun c hc => by rw [hg] at hc; exact betw_ascii b2 c hc)
  intro c hc
  rcases List.mem_append.1 hc with hc | hc
  · rcases List.mem_append.1 (opt_mem hc) with hc | hc
    · exact hsa c hc
    · simp at hc; subst hc; decide
  rcases List.mem_append.1 hc with hc | hc
  · rcases List.mem_append.1 (opt_mem hc) with hc | hc
    · simp at hc; subst hc; decide
    · exact hsg c hc
  rcases List.mem_append.1 hc with hc | hc
  · exact betw_ascii b3 c hc
  rcases List.mem_append.1 hc with hc | hc
  · rcases List.mem_cons.1 (opt_mem hc) with hc | hc
    · subst hc; decide
    · exact betw_ascii b4 c hc
  · rcases List.mem_cons.1 (opt_mem hc) with hc | hc
    · subst hc; decide
    · exact betw_ascii b5 c hc

/-- URLBack's second half. -/
theorem back_plain {s : List UInt8} (h : (parseU s).2 = 0) : checkU (parseU s).1 = 0 ∧ parseU (textU (parseU s).1) = ((parseU s).1, 0) ∧ s.length ≤ 120 ∧ (∀ c ∈ s, c.toNat < 128) ∧ (∀ c ∈ textU (parseU s).1, c.toNat < 128) ∧
    Lib.equalFold (textU (parseU s).1) s = true ∧ (tailU (parseU s).1).length ≤ s.length ∧ Lib.hasSuffix s ((parseU s).1.pth.drop (min (parseU s).1.pth.length 1) ++ s.drop (s.length - (tailU (parseU s).1).length)) = true := by
  obtain ⟨h1, h2, a, g, ha, hg, hs⟩ := parse_out h
  have A1 := text_ascii h1 a g ha hg
  have A2 : ∀ c ∈ textU (parseU s).1, c.toNat < 128 := text_ascii h1 (parseU s).1.sch (parseU s).1.hst (smallU_self (by
      obtain ⟨_, w, _, _⟩ := checkU_zero h1
      obtain ⟨b1, _⟩ := wrtU_true w
      intro c hc
      rcases b1 with e | e
      · rw [e] at hc; cases hc
      · exact (schB_facts ((sch_facts e).2 c hc)).2.2.2.2.1)) (smallU_self (by
      obtain ⟨_, w, _, _⟩ := checkU_zero h1
      exact (wrtU_true w).2.2.2.2.2))
  rw [← hs] at A1
  have e1 : textU (parseU s).1 = opt (!a.isEmpty) (smallU a ++ [58]) ++ (opt (parseU s).1.hh ([47, 47] ++ smallU g) ++ ((parseU s).1.pth ++ (opt (parseU s).1.hq (63 :: (parseU s).1.qry) ++ opt (parseU s).1.hf (35 :: (parseU s).1.frg)))) := by
    rw [ha, hg, ← smallU_nil, ha]; rfl
  have eF : Lib.equalFold (textU (parseU s).1) s = true := by
    rw [fold_low, decide_eq_true_eq, e1]
    conv => rhs; rw [hs]
    simp only [List.map_append, opt_map, map_smallU]
  refine ⟨h1, parse_text h1, h2, A1, A2, eF, ?_, ?_⟩
  · have hl := congrArg List.length hs
    unfold tailU; simp only [List.length_append] at hl ⊢; omega
  · obtain ⟨p, hp⟩ : ∃ p, p = opt (!a.isEmpty) (a ++ [58]) ++ opt (parseU s).1.hh ([47, 47] ++ g) := ⟨_, rfl⟩
    have hs2 : s = (p ++ (parseU s).1.pth) ++ tailU (parseU s).1 := by
      rw [hp]
      refine hs.trans ?_
      unfold tailU
      simp only [List.append_assoc]
    generalize (parseU s).1.pth = P at *
    generalize tailU (parseU s).1 = T at *
    have hd : s.drop (s.length - T.length) = T := by
      have hl : s.length - T.length = (p ++ P).length := by rw [hs2]; simp only [List.length_append]; omega
      rw [hl]
      conv => lhs; rw [hs2]
      exact List.drop_left
    rw [hd]
    unfold Lib.hasSuffix
    rw [List.isSuffixOf_iff_suffix]
    refine ⟨p ++ P.take (min P.length 1), ?_⟩
    rw [List.append_assoc, ← List.append_assoc (P.take _), List.take_append_drop]
    rw [hs2, List.append_assoc]
end Go.Proofs.YtgnlebbifcmpjaaGreatDoor
