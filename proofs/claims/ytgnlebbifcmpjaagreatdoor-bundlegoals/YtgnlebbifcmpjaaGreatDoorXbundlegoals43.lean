/- The walk of the law BundleGoals: it answers true, and nothing that was there is changed. Conditions: the part lies there; the tables lie there. -/
import Derived.Test.YtgnlebbifcmpjaaGreatDoorXbundlegoals40
import Derived.Test.YtgnlebbifcmpjaaGreatDoorXbundlegoals41
import Derived.Test.YtgnlebbifcmpjaaGreatDoorXbundlegoals42
import Derived.Deep.DeepCutAuto
namespace Go.Proofs.YtgnlebbifcmpjaaGreatDoor
open Go.RowKit

abbrev pvg (p : PT) (pb : Option Addr) (cb : Nat) (pk : Option Addr) (ck : Nat) : Array Value := #[.string p.ty, .string p.cs, .string p.id, .string p.loc, .int .i64 p.how, .slice pb p.body.length cb, .slice pk p.kids.length ck]
theorem cells7 {W : World} {k : Nat} {t : TypeId} {v0 v1 v2 v3 v4 v5 v6 : Value} (h : W.heap[k]? = some (.cells #[v0, v1, v2, v3, v4, v5, v6] t)) :
    W.cell? ⟨k, 0, none⟩ = some v0 ∧ W.cell? ⟨k, 1, none⟩ = some v1 ∧ W.cell? ⟨k, 2, none⟩ = some v2 ∧ W.cell? ⟨k, 3, none⟩ = some v3 ∧ W.cell? ⟨k, 4, none⟩ = some v4 ∧ W.cell? ⟨k, 5, none⟩ = some v5 ∧ W.cell? ⟨k, 6, none⟩ = some v6 :=
  ⟨(blk_c h 0).trans rfl, (blk_c h 1).trans rfl, (blk_c h 2).trans rfl, (blk_c h 3).trans rfl, (blk_c h 4).trans rfl, (blk_c h 5).trans rfl, (blk_c h 6).trans rfl⟩
theorem chkA_id {p : PT} (h : chkA p = 0) : p.id.data.toList.length ≤ 120 := by
  unfold chkA at h
  split at h
  · cases h
  · rename_i h1
    have : textsOk p = true := by simpa using h1
    unfold textsOk at this
    rw [Bool.and_eq_true, Bool.and_eq_true] at this
    have h2 := this.1.2
    unfold wordS at h2
    rw [Bool.and_eq_true] at h2
    exact of_decide_eq_true h2.1
theorem glv_get : ∀ (l : List GL) (i : Nat) (x : GL) (j : Nat), l[i]? = some x → j < 6 → (glv l)[i * 6 + j]? = (g1v x)[j]?
  | [], _, _, _, h, _ => by simp at h
  | y :: l, 0, x, j, h, hj => by
    have e : glv (y :: l) = g1v y ++ glv l := by simp [glv]
    simp at h
    subst h
    rw [e, Nat.zero_mul, Nat.zero_add, List.getElem?_append_left (by simp [g1v]; omega)]
  | y :: l, i + 1, x, j, h, hj => by
    have e : glv (y :: l) = g1v y ++ glv l := by simp [glv]
    have hl : (g1v y).length = 6 := rfl
    rw [e, List.getElem?_append_right (by rw [hl]; omega), hl, show (i + 1) * 6 + j - 6 = i * 6 + j from by omega]
    exact glv_get l i x j (by simpa using h) hj
/-- Goals lie behind the address. -/
def GRow (w : World) (p : Option Addr) (l : List GL) : Prop := l ≠ [] → ∃ b, p = some ⟨b, 0, none⟩ ∧ ∀ (i : Nat) (x : GL), l[i]? = some x → w.cell? ⟨b, i * 6, none⟩ = some (.int .i64 x.part) ∧ w.cell? ⟨b, i * 6 + 1, none⟩ = some (.int .i64 x.fr) ∧ w.cell? ⟨b, i * 6 + 2, none⟩ = some (.int .i64 x.tt) ∧ w.cell? ⟨b, i * 6 + 3, none⟩ = some (.string (tx8 x.text)) ∧ w.cell? ⟨b, i * 6 + 4, none⟩ = some (.string (tx8 x.led)) ∧ w.cell? ⟨b, i * 6 + 5, none⟩ = some (.int .i64 x.find)
theorem GRow.below {w w' : World} {p : Option Addr} {l : List GL} (h : GRow w p l) (hb : Below w.heap.size w w') : GRow w' p l := by
  intro hne
  obtain ⟨b, rfl, hc⟩ := h hne
  refine ⟨b, rfl, fun i x hi => ?_⟩
  obtain ⟨c0, c1, c2, c3, c4, c5⟩ := hc i x hi
  have hl : b < w.heap.size := World.block_lt_of_cell? w _ c0
  exact ⟨(hb.cell (p := ⟨b, i * 6, none⟩) hl).trans c0, (hb.cell (p := ⟨b, i * 6 + 1, none⟩) hl).trans c1, (hb.cell (p := ⟨b, i * 6 + 2, none⟩) hl).trans c2, (hb.cell (p := ⟨b, i * 6 + 3, none⟩) hl).trans c3, (hb.cell (p := ⟨b, i * 6 + 4, none⟩) hl).trans c4, (hb.cell (p := ⟨b, i * 6 + 5, none⟩) hl).trans c5⟩
theorem owned_goals {w : World} {B : Nat} {v : Value} {l : List GL} (h : w.ownsRow B 42 6 v l.length (glv l)) : ∃ p c, v = .slice p l.length c ∧ l.length ≤ c ∧ c ≤ maxLen ∧ GRow w p l := by
  have hcl := fun g hg => h.cells (g := g) hg
  rcases h.2 with ⟨rfl, h0⟩ | ⟨g, cap, cur, rfl, _, _, hn, hm, _, _⟩
  · exact ⟨none, 0, by rw [h0], by omega, by decide, fun hne => absurd (List.length_eq_zero_iff.1 h0) hne⟩
  · refine ⟨some ⟨g, 0, none⟩, cap, rfl, hn, hm, fun hne => ⟨g, rfl, fun i x hi => ?_⟩⟩
    have k0 := hcl g rfl (i * 6 + 0) _ ((glv_get l i x 0 hi (by decide)).trans rfl)
    have k1 := hcl g rfl (i * 6 + 1) _ ((glv_get l i x 1 hi (by decide)).trans rfl)
    have k2 := hcl g rfl (i * 6 + 2) _ ((glv_get l i x 2 hi (by decide)).trans rfl)
    have k3 := hcl g rfl (i * 6 + 3) _ ((glv_get l i x 3 hi (by decide)).trans rfl)
    have k4 := hcl g rfl (i * 6 + 4) _ ((glv_get l i x 4 hi (by decide)).trans rfl)
    have k5 := hcl g rfl (i * 6 + 5) _ ((glv_get l i x 5 hi (by decide)).trans rfl)
    rw [Addr.add_lit, Nat.zero_add] at k0 k1 k2 k3 k4 k5
    exact ⟨k0, k1, k2, k3, k4, k5⟩
theorem nm_next {f : Nat → Bool} {t : Nat} (h : ∀ x, x < t → f x = false) (h1 : f t = false) : ∀ x, x < t + 1 → f x = false := fun x hx => by
  rcases Nat.lt_succ_iff_lt_or_eq.1 hx with h2 | rfl
  · exact h x h2
  · exact h1
set_option maxHeartbeats 16000000 in
set_option maxRecDepth 100000 in
/-- BundleGoals. -/
theorem goalslaw_any (p : PT) (pb : Option Addr) (cb : Nat) (pk : Option Addr) (ck F : Nat) (w : World) (hE : LEnv w) (hH : PHeld w F p pb cb pk ck) :
    Calls Tryz.prog 4 #[.agg (pvg p pb cb pk ck)] w fun e w' => e = .returned (.bool true) ∧ Below w.heap.size w w' := by
  have HE : Hid (LEnv w) := hE
  have CG : Hid (∀ W, Below w.heap.size w W → Calls Tryz.prog 10 #[.agg (pvg p pb cb pk ck)] W fun e w' => GoalsPost W (placesP p) e w') := fun W hb => bgoals_any p pb cb pk ck F W (hE.below hb) (hH.below hb)
  have CW : Hid (∀ W, Below w.heap.size w W → Calls Tryz.prog 9 #[.agg (pvg p pb cb pk ck)] W fun e w' => WherePost W (placesP p) e w') := fun W hb => bwhere_any p pb cb pk ck F W (hE.max hb) (hH.below hb)
  have CA : Hid (∀ W, Below w.heap.size w W → Calls Tryz.prog 19 #[.agg (pvg p pb cb pk ck)] W fun e w' => AllPost W (placesP p) e w') := fun W hb => all_any p pb cb pk ck F W (hH.below hb)
  have h12 := placesP_few p
  have HCK : Hid (∀ x ∈ (placesP p).2, chkA x.1 = 0) := placesP_each p
  generalize placesP p = R at *
  clear hE hH
  obtain ⟨W1, hW1⟩ : ∃ W, W = w.alloc (.cells (pvg p pb cb pk ck) 25) := ⟨_, rfl⟩
  have hb1 : Below w.heap.size w W1 := by rw [hW1]; exact (Below.refl _ _).alloc (Nat.le_refl _) _
  have hk1 : W1.heap[w.heap.size]? = some (.cells (pvg p pb cb pk ck) 25) := by rw [hW1]; exact blk_new _ _
  go_enter Tryz.func4, Tryz.ntmps4
  go_wp2_with fail
  rw [← hW1]
  clear hW1
  refine (CG.out _ hb1).mono ?_
  rintro e w2 ⟨hb2, hno, hok⟩
  have hbe2 : Below w.heap.size w w2 := hb1.trans (hb2.mono hb1.size)
  have hk2 := blk_on hk1 hb2
  have HB : Hid ((∃ c : Int, c ≠ 0 ∧ e = .returned (.tuple #[.slice none 0 0, .int .i64 c])) ∨ R.1 = 0 ∧ ∃ G v, goalsGo lowT (R.2.map fun x => x.1.alone) (whereP R.2) 0 (R.2.map fun x => x.1.alone) [] = some G ∧ e = .returned (.tuple #[v, .int .i64 0]) ∧ w2.ownsRow W1.heap.size 42 6 v G.length (glv G)) := by
    by_cases h0 : R.1 = 0
    · have hok := hok h0
      cases hgo : goalsGo lowT (R.2.map fun x => x.1.alone) (whereP R.2) 0 (R.2.map fun x => x.1.alone) [] with
      | none => rw [hgo] at hok; exact Or.inl ⟨2, by decide, hok⟩
      | some G => rw [hgo] at hok; obtain ⟨v, e1, e2⟩ := hok; exact Or.inr ⟨h0, G, v, rfl, e1, e2⟩
    · exact Or.inl ⟨(R.1 : Int), by omega, hno h0⟩
  clear CG hb1 hk1 hb2 hno hok
  rcases HB.out with ⟨c, hc0, rfl⟩ | ⟨h0, G, v2, hgo, rfl, own2⟩
  · have hz : (c == 0) = false := by rw [beq_eq_false_iff_ne]; exact hc0
    clear HB hc0
    go_wp2_with fail
    refine (ledc_any _ (HE.out.below hbe2)).mono ?_
    rintro e w3 ⟨rfl, hb3⟩
    have hbe3 : Below w.heap.size w w3 := hbe2.trans (hb3.mono hbe2.size)
    clear hb3 hbe2 hk2
    go_wp2_with fail
    refine (ledc_any _ (HE.out.below hbe3)).mono ?_
    rintro e w4 ⟨rfl, hb4⟩
    have hbe4 : Below w.heap.size w w4 := hbe3.trans (hb4.mono hbe3.size)
    clear hb4 hbe3
    go_wp2_with fail
    go_ret
    exact ⟨rfl, hbe4⟩
  · obtain ⟨qg, cg, rfl, hcg1, hcg2, hG2⟩ := owned_goals own2
    clear HB own2
    obtain ⟨nl, hnl⟩ : ∃ n, G.length = n := ⟨_, rfl⟩
    have HNL : Hid (G.length = nl) := hnl
    rw [hnl] at hcg1 ⊢
    have HN62 : Hid (nl ≤ 9223372036854775807) := by unfold Hid; unfold maxLen at hcg2; omega
    clear hnl
    go_wp2_with fail
    refine (ledc_any _ (HE.out.below hbe2)).mono ?_
    rintro e w3 ⟨rfl, hb3⟩
    have hbe3 : Below w.heap.size w w3 := hbe2.trans (hb3.mono hbe2.size)
    have hk3 := blk_on hk2 hb3
    have HG3 : Hid (GRow w3 qg G) := hG2.below hb3
    clear hb3 hbe2 hk2 hG2
    obtain ⟨d0, d1, d2, d3, d4, d5, d6⟩ := cells7 hk3
    go_wp2_with fail
    refine (CA.out _ hbe3).mono ?_
    rintro e w4 ⟨hb4, -, hok⟩
    obtain ⟨qa, ca, rfl, ha1, ha2, ha3, hkt⟩ := hok h0
    have hbe4 : Below w.heap.size w w4 := hbe3.trans (hb4.mono hbe3.size)
    have hk4 := blk_on hk3 hb4
    have HG4 : Hid (GRow w4 qg G) := HG3.out.below hb4
    have HK4 : Hid (KAt w4 1 qa (R.2.map fun x => x.1.alone)) := hkt
    clear hok hkt hb4 hbe3 hk3 HG3 CA d0 d1 d2 d3 d4 d5 d6
    obtain ⟨d0, d1, d2, d3, d4, d5, d6⟩ := cells7 hk4
    go_wp2_with fail
    refine (CW.out _ hbe4).mono ?_
    rintro e w5 ⟨hb5, -, hok⟩
    obtain ⟨v5, rfl, own5⟩ := hok h0
    obtain ⟨qw, cw, rfl, hcw1, hcw2, hT5⟩ := owned_t8 rfl own5
    have hbe5 : Below w.heap.size w w5 := hbe4.trans (hb5.mono hbe4.size)
    have HG5 : Hid (GRow w5 qg G) := HG4.out.below hb5
    have HK5 : Hid (KAt w5 1 qa (R.2.map fun x => x.1.alone)) := KAt.below hb5 _ _ _ HK4.out
    rw [whereP_length] at hT5 hcw1 ⊢
    have HWL : Hid ((whereP R.2).length = R.2.length) := whereP_length R.2
    have HWS : Hid (∀ m : Nat, ((whereP R.2).getD m []).length ≤ 120) := fun m => wh_short (whereP_each R.2) m
    have HID : Hid (∀ k, k < R.2.length → ((R.2.map fun x => x.1.alone).getD k pt0).id.size ≤ 120) := fun k hk => by
      have h := HCK.out _ (show R.2.getD k (pt0, 0) ∈ R.2 by rw [List.getD_eq_getElem?_getD, List.getElem?_eq_getElem hk]; exact List.getElem_mem hk)
      rw [alone_get R.2 k hk, Lib.size_eq]
      show (R.2.getD k (pt0, 0)).1.id.data.toList.length ≤ 120
      exact chkA_id h
    have HLL : Hid ((R.2.map fun x => x.1.alone).length = R.2.length) := List.length_map _
    clear hok own5 hb5 hbe4 hk4 HG4 HK4 CW d0 d1 d2 d3 d4 d5 d6 h0 HCK
    obtain ⟨n, hn⟩ : ∃ n, R.2.length = n := ⟨_, rfl⟩
    rw [hn] at hT5 HLL HWL HID h12 ha1 hcw1 ⊢
    have HT5 : Hid (T8 w5 qw n (whereP R.2)) := hT5
    have HG0 : Hid (goalsGo lowT (R.2.map fun x => x.1.alone) (whereP R.2) 0 ((R.2.map fun x => x.1.alone).drop 0) [] = some G) := hgo
    clear hn hT5 hgo
    generalize whereP R.2 = wh at *
    generalize (R.2.map fun x => x.1.alone) = L at *
    clear R
    go_wp2_with fail
    go_loopw [9, 59] (fun kv iv wr => ∃ (k : Nat) (acc : List GL) (kc : Nat), k ≤ n ∧ iv = .int .i64 k ∧ kv = .int .i64 kc ∧ Hid (acc.length = kc) ∧ kc ≤ nl ∧ Below w5.heap.size w5 wr ∧ Hid (goalsGo lowT L wh k (L.drop k) acc = some G)) (fun _ iv _ => n - (intOf iv).toNat)
    case atStart => exact ⟨0, [], 0, Nat.zero_le _, rfl, rfl, rfl, Nat.zero_le _, Below.refl _ _, HG0⟩
    case round =>
      clear HG0
      obtain ⟨k, acc, kc, hk, rfl, rfl, HKC, hkc, hbr, HG⟩ := hrel
      have hsz := hbr.size
      by_cases hlt : k < n
      · have hlz : (k : Int) < (n : Int) := by omega
        have hkl : k < L.length := by rw [HLL.out]; exact hlt
        obtain ⟨b, o, rfl, -⟩ := KAt.each HK5.out (fun e => by rw [e] at hkl; simp at hkl)
        have HPA : Hid (∀ W, Below w5.heap.size w5 W → ∀ i, i < n → PAt W 0 b (o + i * 7) (L.getD i pt0)) := fun W hW i hi => by
          obtain ⟨b', o', e, h⟩ := KAt.each (KAt.below hW _ _ _ HK5.out) (fun e => by rw [e] at hkl; simp at hkl)
          cases e
          exact h i (by rw [HLL.out]; exact hi)
        obtain ⟨xb, xcb, xk, xck, ⟨c0, c1, c2, c3, c4, c5, c6⟩, hH⟩ := HPA.out wr hbr k hlt
        have hbl : b < wr.heap.size := World.block_lt_of_cell? wr _ c3
        have HBO : Hid (BRow wr xb (L.getD k pt0).body ∧ (xb = none → (L.getD k pt0).body.length = 0 ∧ xcb = 0)) := ⟨hH.2.2.1, fun e => by have h1 := hH.2.1.2.2 e; have h2 := hH.2.1.1; exact ⟨by omega, h1⟩⟩
        have HSKIP : Hid ((L.getD k pt0).ty.data.toList ≠ htmlS → goalsGo lowT L wh (k + 1) (L.drop (k + 1)) acc = some G) := fun hne => by rw [← goalsGo_skip lowT L wh L k acc hkl hne]; exact HG.out
        have HPAGE : Hid ((L.getD k pt0).ty.data.toList = htmlS → ((findP lowT (L.getD k pt0).body).bind fun ls => goalsGo lowT L wh (k + 1) (L.drop (k + 1)) (acc ++ ls.map (goalOf L wh k (L.getD k pt0).body.length))) = some G) := fun hne => by rw [← goalsGo_page lowT L wh L k acc hkl hne]; exact HG.out
        have HTY : Hid ((L.getD k pt0).ty.toList = (L.getD k pt0).ty.data.toList) := ByteArray.toList_eq _
        clear hH HG hkl
        generalize (L.getD k pt0).kids.length = xnk at *
        generalize (L.getD k pt0).how = xhow at *
        generalize (L.getD k pt0).body = BO at *
        obtain ⟨N, hN⟩ : ∃ N, BO.length = N := ⟨_, rfl⟩
        have HNB : Hid (BO.length = N) := hN
        rw [hN] at c5 HBO HPAGE
        clear hN
        generalize (L.getD k pt0).loc = xloc at *
        generalize (L.getD k pt0).id = xid at *
        generalize (L.getD k pt0).cs = xcs at *
        generalize (L.getD k pt0).ty = xty at *
        obtain ⟨Wx, hWx⟩ : ∃ W, W = wr.alloc (.cells #[.string xty, .string xcs, .string xid, .string xloc, .int .i64 xhow, .slice xb N xcb, .slice xk xnk xck] 25) := ⟨_, rfl⟩
        have hbx : Below wr.heap.size wr Wx := by rw [hWx]; exact (Below.refl _ _).alloc (Nat.le_refl _) _
        have hkx : Wx.heap[wr.heap.size]? = some (.cells #[.string xty, .string xcs, .string xid, .string xloc, .int .i64 xhow, .slice xb N xcb, .slice xk xnk xck] 25) := by rw [hWx]; exact blk_new _ _
        have hb5x : Below w5.heap.size w5 Wx := hbr.trans (hbx.mono hbr.size)
        by_cases hty : xty.data.toList = htmlS
        · have hE : (xty.toList == [116, 101, 120, 116, 47, 104, 116, 109, 108]) = true := by rw [HTY.out, hty]; rfl
          have HP : Hid (((findP lowT BO).bind fun ls => goalsGo lowT L wh (k + 1) (L.drop (k + 1)) (acc ++ ls.map (goalOf L wh k N))) = some G) := HPAGE.out hty
          have CF : Hid (Calls Tryz.prog 22 #[.slice xb N xcb] Wx fun e w' => FindPost Wx BO.length (findP lowT BO) e w') := find_any w HE.out xb N xcb BO HNB.out.symm Wx (hbe5.trans (hb5x.mono hbe5.size)) (HBO.out.1.under hbx) HBO.out.2
          clear HSKIP HPAGE HTY hty HBO
          go_wp2_with fail
          rw [← hWx]
          clear hWx hbx hbr hkx c0 c1 c2 c3 c4 c5 c6 hsz hbl
          refine CF.out.mono ?_
          rintro e w6 ⟨hb6, hF⟩
          clear CF
          have hb56 : Below w5.heap.size w5 w6 := hb5x.trans (hb6.mono hb5x.size)
          obtain ⟨ls, hfp⟩ : ∃ ls, findP lowT BO = some ls := by
            cases h : findP lowT BO with
            | none => have h2 := HP.out; rw [h] at h2; cases h2
            | some ls => exact ⟨ls, rfl⟩
          rw [hfp] at hF
          simp only at hF
          obtain ⟨v6, rfl, own6⟩ := hF
          have HX : Hid (goalsGo lowT L wh (k + 1) (L.drop (k + 1)) (acc ++ ls.map (goalOf L wh k N)) = some G) := by have h := HP.out; rw [hfp] at h; exact h
          obtain ⟨q6, cc6, rfl, hq1, hq2, -, hKR⟩ := owned_links own6
          rw [HNB.out] at hKR
          have hm60 : ls.length ≤ 60 := (find_ord lowT BO ls hfp).2.1
          have HAT : Hid (∀ j, j < ls.length → kc + j < nl ∧ G[kc + j]? = some (goalOf L wh k N (ls.getD j (0, [])))) := fun j hj => by
            have h := goal_at lowT L wh k N acc G ls j hj _ HX.out
            rw [HKC.out, HNL.out] at h
            exact h
          have HLE : Hid (kc + ls.length ≤ nl) := by
            obtain ⟨t, e⟩ := goalsGo_pre lowT L wh _ _ _ G HX.out
            have h := congrArg List.length e
            rw [HNL.out, List.length_append, List.length_append, List.length_map, HKC.out] at h
            unfold Hid
            omega
          have HKR : Hid (KRow w6 q6 N ls) := hKR
          obtain ⟨m, hm⟩ : ∃ m, ls.length = m := ⟨_, rfl⟩
          have HM : Hid (ls.length = m) := hm
          rw [hm] at hm60 HAT HLE hq1 ⊢
          clear HP hfp own6 hKR hb6 hb5x HNB hm
          go_wp2_with fail
          go_loopw [9, 77] (fun kv iv wy => ∃ (j c : Nat), j ≤ m ∧ iv = .int .i64 j ∧ kv = .int .i64 c ∧ Hid (c = kc + j) ∧ Below w6.heap.size w6 wy) (fun _ iv _ => m - (intOf iv).toNat)
          case atStart => exact ⟨0, kc, Nat.zero_le _, rfl, rfl, rfl, Below.refl _ _⟩
          case round =>
            obtain ⟨j, c, hj, rfl, rfl, HC, hby⟩ := hrel
            by_cases hjl : j < m
            · have hjz : (j : Int) < (m : Int) := by omega
              have hjt : j < ls.length := by rw [HM.out]; exact hjl
              obtain ⟨b4, rfl, hc4⟩ := HKR.out.below hby (fun e => by rw [e] at hjt; simp at hjt)
              obtain ⟨l0, l1, l2⟩ := hc4 j hjt
              obtain ⟨hcn, hgat⟩ := HAT.out j hjl
              rw [← HC.out] at hcn hgat
              have hcs : c + 1 ≤ 9223372036854775807 := by have := HN62.out; omega
              have hcz : (c : Int) < (nl : Int) := by omega
              have hcq : ((c : Int) == (nl : Int)) = false := by rw [beq_eq_false_iff_ne]; omega
              have hgne : G ≠ [] := fun e => by rw [e] at hgat; simp at hgat
              obtain ⟨bg, rfl, -⟩ := HG5.out hgne
              have HGC : Hid (∀ W, Below w5.heap.size w5 W → W.cell? ⟨bg, c * 6, none⟩ = some (.int .i64 (k : Int)) ∧ W.cell? ⟨bg, c * 6 + 1, none⟩ = some (.int .i64 ((N - (ls.getD j (0, [])).1 : Nat) : Int)) ∧ W.cell? ⟨bg, c * 6 + 2, none⟩ = some (.int .i64 ((N - (ls.getD j (0, [])).1 + (ls.getD j (0, [])).2.length : Nat) : Int)) ∧ W.cell? ⟨bg, c * 6 + 3, none⟩ = some (.string (lba (unamp (ls.getD j (0, [])).2))) ∧ W.cell? ⟨bg, c * 6 + 4, none⟩ = some (.string (tx8 (ledU (fromW wh k) (unamp (ls.getD j (0, [])).2)))) ∧ W.cell? ⟨bg, c * 6 + 5, none⟩ = some (.int .i64 (findW L wh (ledU (fromW wh k) (unamp (ls.getD j (0, [])).2))))) := fun W hW => by
                obtain ⟨b', e, h⟩ := (HG5.out.below hW) hgne
                cases e
                exact h c _ hgat
              have hfi := findW_range L wh (ledU (fromW wh k) (unamp (ls.getD j (0, [])).2))
              rw [HLL.out] at hfi
              have HL0 : Hid (ledU (fromW wh k) (unamp (ls.getD j (0, [])).2) = [] → findW L wh (ledU (fromW wh k) (unamp (ls.getD j (0, [])).2)) = -1) := fun e => by unfold findW; rw [if_pos e]
              have HL1 : Hid (ledU (fromW wh k) (unamp (ls.getD j (0, [])).2) ≠ [] → (parseU (ledU (fromW wh k) (unamp (ls.getD j (0, [])).2))).2 = 0) := fun e => (led_abs _ _ e).1
              have HL2 : Hid (ledU (fromW wh k) (unamp (ls.getD j (0, [])).2) ≠ [] → noFr (ledU (fromW wh k) (unamp (ls.getD j (0, [])).2)) ≠ []) := fun e => noFr_led _ _ e
              have hlel := ledU_len (fromW wh k) (unamp (ls.getD j (0, [])).2)
              generalize ledU (fromW wh k) (unamp (ls.getD j (0, [])).2) = LE at *
              obtain ⟨FI, hFI⟩ : ∃ x, findW L wh LE = x := ⟨_, rfl⟩
              have HFI : Hid (findW L wh LE = FI) := hFI
              rw [hFI] at HGC HL0 hfi
              have hf1 : ¬ FI < -1 := by omega
              have hf2 : ¬ (n : Int) ≤ FI := by omega
              generalize lba (unamp (ls.getD j (0, [])).2) = TX at *
              generalize ((N - (ls.getD j (0, [])).1 + (ls.getD j (0, [])).2.length : Nat) : Int) = T0 at *
              generalize ((N - (ls.getD j (0, [])).1 : Nat) : Int) = F0 at *
              clear hgat hgne hc4 hjt hFI hfi
              obtain ⟨Wy, hWy⟩ : ∃ W, W = wr.alloc (.cells #[.int .i64 F0, .int .i64 T0, .string TX] 40) := ⟨_, rfl⟩
              have hbyy : Below wr.heap.size wr Wy := by rw [hWy]; exact (Below.refl _ _).alloc (Nat.le_refl _) _
              have hky : Wy.heap[wr.heap.size]? = some (.cells #[.int .i64 F0, .int .i64 T0, .string TX] 40) := by rw [hWy]; exact blk_new _ _
              have hb6y : Below w6.heap.size w6 Wy := hby.trans (hbyy.mono hby.size)
              have hb5y : Below w5.heap.size w5 Wy := hb56.trans (hb6y.mono hb56.size)
              go_upto_region 20 with fail
              rw [← hWy]
              obtain ⟨g0, g1, g2, g3, g4, g5⟩ := HGC.out Wy hb5y
              have e0 : Wy.cell? ⟨wr.heap.size, 0, none⟩ = some (.int .i64 F0) := (blk_c hky 0).trans rfl
              have e1 : Wy.cell? ⟨wr.heap.size, 1, none⟩ = some (.int .i64 T0) := (blk_c hky 1).trans rfl
              have e2 : Wy.cell? ⟨wr.heap.size, 2, none⟩ = some (.string TX) := (blk_c hky 2).trans rfl
              clear hWy hbyy hby hky l0 l1 l2
              go_cut [102] (fun cv wx => cv = .bool false ∧ Below Wy.heap.size Wy wx)
              case first =>
                go_quiet (fail)
                go_wp2_with fail
                go_meet
                exact ⟨rfl, below_drewN' (Below.refl _ _) _⟩
              case rest =>
               as_aux_lemma =>
                obtain ⟨rfl, hbc⟩ := hcut
                have hb5a : Below w5.heap.size w5 wc := hb5y.trans (hbc.mono hb5y.size)
                have hb6a : Below w6.heap.size w6 wc := hb6y.trans (hbc.mono hb6y.size)
                clear g0 g1 g2 g3 g4 g5 e0 e1 e2 hb5y hb6y hbc
                obtain ⟨-, -, -, -, g4, -⟩ := HGC.out wc hb5a
                obtain ⟨us, uhh, uh, up, uhq, uq, uhf, uf, eU, hU1, hU2⟩ : ∃ us uhh uh up uhq uq uhf uf eU, (parseU LE).2 = eU ∧ (ofL (parseU LE).1).v = .agg #[.string us, .bool uhh, .string uh, .string up, .bool uhq, .string uq, .bool uhf, .string uf] := ⟨_, _, _, _, _, _, _, _, _, rfl, rfl⟩
                have CP : Hid (∀ W, Calls Tryz.prog 23 #[.string (tx8 LE)] W fun e w' => e = .returned (.tuple #[.agg #[.string us, .bool uhh, .string uh, .string up, .bool uhq, .string uq, .bool uhf, .string uf], .int .i64 (eU : Int)]) ∧ Below W.heap.size W w') := fun W => (uparse_any (tx8 LE) (by rw [tx8_size]; unfold maxLen; omega) W).mono (by rintro e w' ⟨rfl, hb⟩; exact ⟨by rw [tx8_data, hU1, hU2], hb⟩)
                rw [hU1] at HL1
                clear hU1 hU2
                go_wp2_with fail
                refine (CP.out _).mono ?_
                rintro e w7 ⟨rfl, hb7⟩
                obtain ⟨W8, hW8⟩ : ∃ W, W = w7.alloc (.cells #[.string us, .bool uhh, .string uh, .string up, .bool uhq, .string uq, .bool uhf, .string uf] 52) := ⟨_, rfl⟩
                have hb78 : Below w7.heap.size w7 W8 := by rw [hW8]; exact (Below.refl _ _).alloc (Nat.le_refl _) _
                have hb57 : Below w5.heap.size w5 w7 := hb5a.trans (hb7.mono hb5a.size)
                have hb67 : Below w6.heap.size w6 w7 := hb6a.trans (hb7.mono hb6a.size)
                have hb58 : Below w5.heap.size w5 W8 := hb57.trans (hb78.mono hb57.size)
                have hb68 : Below w6.heap.size w6 W8 := hb67.trans (hb78.mono hb67.size)
                go_upto_region 23 with fail
                rw [← hW8]
                clear hW8 g4 CP hb57 hb67 hb78 hb7 hb5a hb6a
                obtain ⟨-, -, -, -, g4, g5⟩ := HGC.out W8 hb58
                go_cut [155] (fun cv wx => cv = .bool false ∧ Below W8.heap.size W8 wx)
                case first =>
                  by_cases hLE : LE = []
                  · have hE2 : (tx8 LE).toList.isEmpty = true := by rw [tx8_empty, hLE]; rfl
                    have hFe : FI = -1 := HL0.out hLE
                    clear hLE
                    subst hFe
                    have hf3 : ¬ (n : Int) ≤ -1 := by omega
                    go_wp2_with fail
                    go_meet
                    exact ⟨rfl, Below.refl _ _⟩
                  · have hE2 : (tx8 LE).toList.isEmpty = false := by rw [tx8_empty]; simpa using hLE
                    have hUe : eU = 0 := HL1.out hLE
                    clear hLE
                    subst hUe
                    go_wp2_with fail
                    go_meet
                    exact ⟨congrArg Value.bool (by rw [decide_eq_false (by omega : ¬ FI < -1), decide_eq_false (by omega : ¬ (n : Int) ≤ FI)]; rfl), Below.refl _ _⟩
                case rest =>
                  obtain ⟨rfl, hbc⟩ := hcut
                  obtain ⟨wl, hwl⟩ : ∃ W, W = wc := ⟨_, rfl⟩
                  subst hwl
                  have hb5c : Below w5.heap.size w5 wl := hb58.trans (hbc.mono hb58.size)
                  have hb6c : Below w6.heap.size w6 wl := hb68.trans (hbc.mono hb68.size)
                  clear g4 g5 hbc hb58 hb68 HL0 HL1 hf1 hf2
                  go_wp2_with fail
                  go_loopw [158] (fun iv wz => ∃ t : Nat, t ≤ n ∧ iv = .int .i64 t ∧ Below wl.heap.size wl wz ∧ Hid (∀ x, x < t → meantP L wh LE x = false)) (fun iv _ => n - (intOf iv).toNat)
                  case atStart => exact ⟨0, Nat.zero_le _, rfl, Below.refl _ _, fun x hx => absurd hx (Nat.not_lt_zero x)⟩
                  case round =>
                    as_aux_lemma =>
                      obtain ⟨t, ht, rfl, hbz, HNM⟩ := hrel
                      by_cases htl : t < n
                      · have htz : (t : Int) < (n : Int) := by omega
                        have hb5z : Below w5.heap.size w5 wr := hb5c.trans (hbz.mono hb5c.size)
                        obtain ⟨zb, zcb, zk, zck, ⟨d0, d1, d2, d3, d4, d5, d6⟩, -⟩ := HPA.out wr hb5z t htl
                        obtain ⟨bw, ow, rfl, -⟩ := HT5.out.2 (by omega)
                        have HWC : Hid (∀ W, Below w5.heap.size w5 W → W.cell? ⟨bw, ow + t, none⟩ = some (.string (tx8 (wh.getD t [])))) := fun W hW => by
                          obtain ⟨b', o', e, h⟩ := (HT5.out.below hW).2 (by omega)
                          cases e
                          exact h t htl
                        have hzi : (L.getD t pt0).id.size ≤ 120 := HID.out t htl
                        have hwl : (wh.getD t []).length ≤ 120 := HWS.out t
                        have HMT : Hid (meantP L wh LE t = ((if Lib.hasPrefix (noFr LE) cidS = true then !(L.getD t pt0).id.data.toList.isEmpty && (noFr LE == cidS ++ (L.getD t pt0).id.data.toList) else !(L.getD t pt0).loc.data.toList.isEmpty && !(wh.getD t []).isEmpty && (noFr (wh.getD t []) == noFr LE)) && !LE.isEmpty && !manyS (L.getD t pt0).ty.data.toList)) := rfl
                        have HFM : Hid (meantP L wh LE t = true → FI = t) := fun h => by rw [← HFI.out]; exact find_meant L wh LE t (by rw [HLL.out]; exact htl) HL2.out HNM.out h
                        generalize (L.getD t pt0).kids.length = znk at *
                        generalize (L.getD t pt0).how = zhow at *
                        generalize (L.getD t pt0).body.length = zn at *
                        generalize (L.getD t pt0).loc = zloc at *
                        generalize (L.getD t pt0).id = zid at *
                        generalize (L.getD t pt0).cs = zcs at *
                        generalize (L.getD t pt0).ty = zty at *
                        generalize wh.getD t [] = WT at *
                        obtain ⟨PB, hPB⟩ : ∃ B : Bool, Lib.hasPrefix (noFr LE) cidS = B := ⟨_, rfl⟩
                        have HPB : Hid (Lib.hasPrefix (noFr LE) cidS = PB) := hPB
                        have CH : Hid (∀ W, Calls Tryz.prog 24 #[.string (tx8 (noFr LE)), .string ⟨#[99, 105, 100, 58]⟩] W fun e w' => e = .returned (.bool PB) ∧ w' = W) := fun W => (Tryz.strings_HasPrefix (tx8 (noFr LE)) ⟨#[99, 105, 100, 58]⟩ W).mono (by rintro e w' ⟨rfl, h⟩; exact ⟨by rw [← hPB]; rfl, h⟩)
                        clear hPB
                        obtain ⟨Wz, hWz⟩ : ∃ W, W = wr.alloc (.cells #[.string zty, .string zcs, .string zid, .string zloc, .int .i64 zhow, .slice zb zn zcb, .slice zk znk zck] 25) := ⟨_, rfl⟩
                        have hbzz : Below wr.heap.size wr Wz := by rw [hWz]; exact (Below.refl _ _).alloc (Nat.le_refl _) _
                        have hkz : Wz.heap[wr.heap.size]? = some (.cells #[.string zty, .string zcs, .string zid, .string zloc, .int .i64 zhow, .slice zb zn zcb, .slice zk znk zck] 25) := by rw [hWz]; exact blk_new _ _
                        have hb5Z : Below w5.heap.size w5 Wz := hb5z.trans (hbzz.mono hb5z.size)
                        have hbcZ : Below wl.heap.size wl Wz := hbz.trans (hbzz.mono hbz.size)
                        go_upto_region 28 with fail
                        rw [← hWz]
                        clear hWz d0 d1 d2 d3 d4 d5 d6 hbzz hb5z hbz
                        obtain ⟨-, -, -, -, g4, -⟩ := HGC.out Wz hb5Z
                        have CB : Hid (∀ (X : List UInt8) (W : World), X.length ≤ 120 → Below w5.heap.size w5 W → Calls Tryz.prog 20 #[.string (tx8 X)] W fun e w' => e = .returned (.string (tx8 (noFr X))) ∧ Below W.heap.size W w') := fun X W hX hW => bare_any (tx8 X) (by rw [tx8_size]; omega) W (HE.out.max (hbe5.trans (hW.mono hbe5.size)))
                        go_wp2_with fail
                        refine (CB.out LE _ hlel hb5Z).mono ?_
                        rintro e w9 ⟨rfl, hb9⟩
                        have hb59 : Below w5.heap.size w5 w9 := hb5Z.trans (hb9.mono hb5Z.size)
                        go_upto_region 29 with fail
                        clear g4
                        obtain ⟨-, -, -, u3, -, -, -⟩ := cells7 (blk_on hkz hb9)
                        have hw9 := HWC.out w9 hb59
                        obtain ⟨IS1, hIS1⟩ : ∃ B : Bool, (!zloc.data.toList.isEmpty && !WT.isEmpty && (noFr WT == noFr LE)) = B := ⟨_, rfl⟩
                        have HIS1 : Hid ((!zloc.data.toList.isEmpty && !WT.isEmpty && (noFr WT == noFr LE)) = IS1) := hIS1
                        clear hIS1
                        go_cut [21] (fun v wx => v = .bool IS1 ∧ Below w9.heap.size w9 wx)
                        case first =>
                          by_cases h1 : zloc.data.toList = []
                          · have q1 : zloc.toList.isEmpty = true := by rw [ByteArray.toList_eq, h1]; rfl
                            have HV : Hid (IS1 = false) := by unfold Hid; rw [← HIS1.out, h1]; rfl
                            clear h1
                            go_wp2_with fail
                            go_meet
                            exact ⟨by rw [HV.out], Below.refl _ _⟩
                          · have q1 : zloc.toList.isEmpty = false := by rw [ByteArray.toList_eq]; simpa using h1
                            by_cases h2 : WT = []
                            · have q2 : (tx8 WT).toList.isEmpty = true := by rw [tx8_empty, h2]; rfl
                              have HV : Hid (IS1 = false) := by unfold Hid; rw [← HIS1.out, h2]; simp
                              clear h1 h2
                              go_wp2_with fail
                              go_meet
                              exact ⟨by rw [HV.out], Below.refl _ _⟩
                            · have q2 : (tx8 WT).toList.isEmpty = false := by rw [tx8_empty]; simpa using h2
                              have HV : Hid (IS1 = ((tx8 (noFr WT)).toList == (tx8 (noFr LE)).toList)) := by
                                unfold Hid
                                have a1 : zloc.data.toList.isEmpty = false := by rw [← ByteArray.toList_eq]; exact q1
                                have a2 : WT.isEmpty = false := by rw [← tx8_empty]; exact q2
                                rw [← HIS1.out, ByteArray.toList_eq, ByteArray.toList_eq, tx8_data, tx8_data, a1, a2, Bool.not_false, Bool.true_and, Bool.true_and]
                              clear h1 h2
                              go_wp2_with fail
                              refine (CB.out WT _ hwl hb59).mono ?_
                              rintro e w10 ⟨rfl, hb10⟩
                              go_wp2_with fail
                              go_meet
                              exact ⟨by rw [HV.out], hb10⟩
                        case rest =>
                          obtain ⟨rfl, hbv0⟩ := hcut
                          obtain ⟨wv, hwv⟩ : ∃ W, W = wc := ⟨_, rfl⟩
                          subst hwv
                          have hbv : Below Wz.heap.size Wz wv := hb9.trans (hbv0.mono hb9.size)
                          clear u3 hw9 hb9 hb59 hbv0
                          go_wp2_with fail
                          refine (CH.out _).mono ?_
                          rintro e w' ⟨rfl, hw'⟩
                          have hw2 := hw'.symm
                          subst hw2
                          cases PB with
                          | true =>
                            have hp : Lib.hasPrefix (noFr LE) cidS = true := HPB.out
                            have HMT2 : Hid (meantP L wh LE t = (!zid.data.toList.isEmpty && (noFr LE == cidS ++ zid.data.toList) && !LE.isEmpty && !manyS zty.data.toList)) := by unfold Hid; rw [HMT.out, if_pos hp]
                            obtain ⟨IS, hIS⟩ : ∃ B : Bool, (!zid.data.toList.isEmpty && (noFr LE == cidS ++ zid.data.toList)) = B := ⟨_, rfl⟩
                            have HIS2 : Hid ((!zid.data.toList.isEmpty && (noFr LE == cidS ++ zid.data.toList)) = IS) := hIS
                            have HIS : Hid (meantP L wh LE t = (IS && !LE.isEmpty && !manyS zty.data.toList)) := by unfold Hid; rw [HMT2.out, hIS]
                            clear hIS HMT HMT2 hp HIS1 CH HPB
                            have u2 : wv.cell? ⟨wr.heap.size, 2, none⟩ = some (.string zid) := (blk_c (blk_on hkz hbv) 2).trans rfl
                            go_upto_region 31 with fail
                            go_cut [21] (fun v wx => v = .bool IS ∧ Below wv.heap.size wv wx)
                            case first =>
                              by_cases h1 : zid.data.toList = []
                              · have q1 : zid.toList.isEmpty = true := by rw [ByteArray.toList_eq, h1]; rfl
                                have HV : Hid (IS = false) := by unfold Hid; rw [← HIS2.out, h1]; rfl
                                clear h1
                                go_wp2_with fail
                                go_meet
                                exact ⟨by rw [HV.out], Below.refl _ _⟩
                              · have q1 : zid.toList.isEmpty = false := by rw [ByteArray.toList_eq]; simpa using h1
                                have hk1 : (ByteArray.mk #[99, 105, 100, 58]).size = 4 := rfl
                                have HV : Hid (IS = ((tx8 (noFr LE)).toList == (⟨#[99, 105, 100, 58]⟩ ++ zid).toList)) := by
                                  unfold Hid
                                  have a1 : zid.data.toList.isEmpty = false := by rw [← ByteArray.toList_eq]; exact q1
                                  rw [← HIS2.out, ByteArray.toList_eq, ByteArray.toList_eq, tx8_data, ByteArray.data_append, Array.toList_append, a1, Bool.not_false, Bool.true_and]
                                  rfl
                                clear h1
                                go_wp2_with fail
                                go_meet
                                exact ⟨by rw [HV.out], Below.refl _ _⟩
                            case rest =>
                              obtain ⟨rfl, hbq0⟩ := hcut
                              obtain ⟨wq, hwq⟩ : ∃ W, W = wc := ⟨_, rfl⟩
                              subst hwq
                              have hbq : Below Wz.heap.size Wz wq := hbv.trans (hbq0.mono hbv.size)
                              clear u2 hbv hbq0 HIS2 CB HWC
                              have hb5v : Below w5.heap.size w5 wq := hb5Z.trans (hbq.mono hb5Z.size)
                              have hbcv : Below wl.heap.size wl wq := hbcZ.trans (hbq.mono hbcZ.size)
                              have u0 : wq.cell? ⟨wr.heap.size, 0, none⟩ = some (.string zty) := (blk_c (blk_on hkz hbq) 0).trans rfl
                              obtain ⟨-, -, -, -, g4, g5⟩ := HGC.out wq hb5v
                              cases IS with
                              | false =>
                                have HNX : Hid (meantP L wh LE t = false) := by unfold Hid; rw [HIS.out]; rfl
                                go_wp2_with fail
                                go_roundw
                                case rel => exact ⟨t + 1, by omega, by go_num, hbcv, nm_next HNM.out HNX.out⟩
                                case measure => simp [intOf]; omega
                              | true =>
                                by_cases hLE : LE = []
                                · have hE2 : (tx8 LE).toList.isEmpty = true := by rw [tx8_empty, hLE]; rfl
                                  have HNX : Hid (meantP L wh LE t = false) := by unfold Hid; rw [HIS.out, hLE]; rfl
                                  clear hLE
                                  go_wp2_with fail
                                  go_roundw
                                  case rel => exact ⟨t + 1, by omega, by go_num, hbcv, nm_next HNM.out HNX.out⟩
                                  case measure => simp [intOf]; omega
                                · have hE2 : (tx8 LE).toList.isEmpty = false := by rw [tx8_empty]; simpa using hLE
                                  cases hmy : manyS zty.data.toList with
                                  | true =>
                                    have HNX : Hid (meantP L wh LE t = false) := by unfold Hid; rw [HIS.out, hmy]; simp
                                    clear hLE
                                    go_wp2_with fail
                                    refine (pmany_any _ _).mono ?_
                                    rintro e w' ⟨rfl, hw'⟩
                                    subst hw'
                                    rw [hmy]
                                    go_wp2_with fail
                                    go_roundw
                                    case rel => exact ⟨t + 1, by omega, by go_num, hbcv, nm_next HNM.out HNX.out⟩
                                    case measure => simp [intOf]; omega
                                  | false =>
                                    have hft : FI = (t : Int) := HFM.out (by rw [HIS.out, hmy]; simpa using hLE)
                                    rw [hft] at g5
                                    clear hLE hft HFM
                                    go_wp2_with fail
                                    refine (pmany_any _ _).mono ?_
                                    rintro e w' ⟨rfl, hw'⟩
                                    subst hw'
                                    rw [hmy]
                                    go_wp2_with fail
                                    go_roundw
                                    case rel => exact ⟨j + 1, c + 1, by omega, by go_num, by go_num, by have := HC.out; unfold Hid; omega, hb6c.trans (hbcv.mono hb6c.size)⟩
                                    case measure => simp [intOf]; omega
                          | false =>
                            have HIS : Hid (meantP L wh LE t = (IS1 && !LE.isEmpty && !manyS zty.data.toList)) := by unfold Hid; rw [HMT.out, if_neg (by rw [HPB.out]; decide), HIS1.out]
                            clear HMT HIS1 CB HWC CH HPB
                            have hb5v : Below w5.heap.size w5 wv := hb5Z.trans (hbv.mono hb5Z.size)
                            have hbcv : Below wl.heap.size wl wv := hbcZ.trans (hbv.mono hbcZ.size)
                            have u0 : wv.cell? ⟨wr.heap.size, 0, none⟩ = some (.string zty) := (blk_c (blk_on hkz hbv) 0).trans rfl
                            obtain ⟨-, -, -, -, g4, g5⟩ := HGC.out wv hb5v
                            cases IS1 with
                            | false =>
                              have HNX : Hid (meantP L wh LE t = false) := by unfold Hid; rw [HIS.out]; rfl
                              go_wp2_with fail
                              go_roundw
                              case rel => exact ⟨t + 1, by omega, by go_num, hbcv, nm_next HNM.out HNX.out⟩
                              case measure => simp [intOf]; omega
                            | true =>
                              by_cases hLE : LE = []
                              · have hE2 : (tx8 LE).toList.isEmpty = true := by rw [tx8_empty, hLE]; rfl
                                have HNX : Hid (meantP L wh LE t = false) := by unfold Hid; rw [HIS.out, hLE]; rfl
                                clear hLE
                                go_wp2_with fail
                                go_roundw
                                case rel => exact ⟨t + 1, by omega, by go_num, hbcv, nm_next HNM.out HNX.out⟩
                                case measure => simp [intOf]; omega
                              · have hE2 : (tx8 LE).toList.isEmpty = false := by rw [tx8_empty]; simpa using hLE
                                cases hmy : manyS zty.data.toList with
                                | true =>
                                  have HNX : Hid (meantP L wh LE t = false) := by unfold Hid; rw [HIS.out, hmy]; simp
                                  clear hLE
                                  go_wp2_with fail
                                  refine (pmany_any _ _).mono ?_
                                  rintro e w' ⟨rfl, hw'⟩
                                  subst hw'
                                  rw [hmy]
                                  go_wp2_with fail
                                  go_roundw
                                  case rel => exact ⟨t + 1, by omega, by go_num, hbcv, nm_next HNM.out HNX.out⟩
                                  case measure => simp [intOf]; omega
                                | false =>
                                  have hft : FI = (t : Int) := HFM.out (by rw [HIS.out, hmy]; simpa using hLE)
                                  rw [hft] at g5
                                  clear hLE hft HFM
                                  go_wp2_with fail
                                  refine (pmany_any _ _).mono ?_
                                  rintro e w' ⟨rfl, hw'⟩
                                  subst hw'
                                  rw [hmy]
                                  go_wp2_with fail
                                  go_roundw
                                  case rel => exact ⟨j + 1, c + 1, by omega, by go_num, by go_num, by have := HC.out; unfold Hid; omega, hb6c.trans (hbcv.mono hb6c.size)⟩
                                  case measure => simp [intOf]; omega
                      · obtain rfl : t = n := by omega
                        have htz : ¬ (t : Int) < (t : Int) := by omega
                        go_wp2_with fail
                        go_roundw
                        case rel => exact ⟨j + 1, c + 1, by omega, by go_num, by go_num, by have := HC.out; unfold Hid; omega, hb6c.trans (hbz.mono hb6c.size)⟩
                        case measure => simp [intOf]; omega
            · obtain rfl : j = m := by omega
              have hjz : ¬ (j : Int) < (j : Int) := by omega
              go_wp2_with fail
              go_roundw
              case rel => exact ⟨k + 1, acc ++ ls.map (goalOf L wh k N), c, by omega, by go_num, rfl, by unfold Hid; rw [List.length_append, List.length_map, HKC.out, HM.out]; exact HC.out.symm, by have := HLE.out; have := HC.out; omega, hb56.trans (hby.mono hb56.size), HX⟩
              case measure => simp [intOf]; omega
        · have hE : (xty.toList == [116, 101, 120, 116, 47, 104, 116, 109, 108]) = false := by rw [HTY.out]; simpa [htmlS] using hty
          have HP : Hid (goalsGo lowT L wh (k + 1) (L.drop (k + 1)) acc = some G) := HSKIP.out hty
          clear HSKIP HPAGE HTY hty HBO
          go_wp2_with fail
          rw [← hWx]
          clear hWx
          go_roundw
          case rel => exact ⟨k + 1, acc, kc, by omega, by go_num, rfl, HKC, hkc, hb5x, HP⟩
          case measure => simp [intOf]; omega
      · obtain rfl : k = n := by omega
        have hlz : ¬ (k : Int) < (k : Int) := by omega
        have hkn : kc = nl := by
          have h := HG.out
          rw [List.drop_eq_nil_of_le (by rw [HLL.out]; exact Nat.le_refl _), goalsGo] at h
          injection h with h
          have := HKC.out
          have := HNL.out
          rw [h] at *
          omega
        subst hkn
        go_wp2_with fail
        go_ret
        exact ⟨rfl, hbe5.trans (hbr.mono hbe5.size)⟩
end Go.Proofs.YtgnlebbifcmpjaaGreatDoor
