/- The law's small bundle. -/
import Derived.Test.YtgnlebbifcmpjaaGreatDoorXbundlegoals34
import Derived.Lib.SlBytesConst
import Derived.Test.YtgnlebbifcmpjaaGreatDoorXbundlegoals38
import Derived.Test.YtgnlebbifcmpjaaGreatDoorXbundlegoals35
import Derived.Test.YtgnlebbifcmpjaaGreatDoorXbundlegoals39
import Derived.Test.YtgnlebbifcmpjaaGreatDoorXbundlegoals15
namespace Go.Proofs.YtgnlebbifcmpjaaGreatDoor
open Go.RowKit

def bodyA : List UInt8 := [60, 97, 32, 104, 114, 101, 102, 61, 39, 99, 39, 62, 60, 105, 109, 103, 32, 83, 82, 67, 61, 99, 105, 100, 58, 120, 62, 60, 97, 32, 104, 114, 101, 102, 61, 35, 100, 62]
def partA : PT := ⟨⟨#[116, 101, 120, 116, 47, 104, 116, 109, 108]⟩, ⟨#[117, 116, 102, 45, 56]⟩, ⟨#[]⟩, ⟨#[]⟩, 2, bodyA, []⟩
def partB : PT := ⟨⟨#[105, 109, 97, 103, 101, 47, 112, 110, 103]⟩, ⟨#[]⟩, ⟨#[120]⟩, ⟨#[99]⟩, 1, [1, 2, 3], []⟩
def smallT : PT := ⟨⟨#[109, 117, 108, 116, 105, 112, 97, 114, 116, 47, 114, 101, 108, 97, 116, 101, 100]⟩, ⟨#[]⟩, ⟨#[]⟩, ⟨#[104, 116, 116, 112, 58, 47, 47, 104, 47, 97, 47, 98]⟩, 0, [], [partA, partB]⟩

theorem BRow_lit (w : World) (L : List UInt8) (C : Array Value) (hC : C = (bv L).toArray) (t : TypeId) (fr : Nat × Nat) (b : Nat) (hb : b = w.heap.size) : BRow (w.alloc (.cells C t fr)) (some ⟨b, 0, none⟩) L := by
  subst hC hb
  intro _
  refine ⟨w.heap.size, 0, rfl, fun i hi => ?_⟩
  rw [Nat.zero_add, World.cell?_alloc_mark w _ t fr i]
  simp [bv, List.getD_eq_getElem?_getD, List.getElem?_eq_getElem hi]

theorem cell_lits (w : World) (c : List Value) (t : TypeId) (b j k : Nat) (x : Value) (hb : b = w.heap.size) (hk : k = j) (h : c[j]? = some x) : (w.alloc (.cells c.toArray t)).cell? ⟨b, k, none⟩ = some x := by
  subst hk
  have := cell_seven w c t b hb k x h
  rwa [Addr.add_lit, Nat.zero_add] at this
theorem lens (p : PT) (h : (decide (p.ty.size ≤ 1000000) && decide (p.cs.size ≤ 1000000) && decide (p.id.size ≤ 1000000) && decide (p.loc.size ≤ 1000000) && decide (-1000 ≤ p.how) && decide (p.how ≤ 1000) && decide (p.body.length ≤ 1000000) && decide (p.kids.length ≤ 1000000)) = true) : PLen p := by
  simp only [Bool.and_eq_true, decide_eq_true_eq] at h
  obtain ⟨⟨⟨⟨⟨⟨⟨a, b⟩, c⟩, d⟩, e⟩, f⟩, g⟩, k⟩ := h
  unfold PLen maxLen
  omega

theorem kc_at (w : World) (X : Obj) (C : Array Value) (n c : Nat) : (convert 22 22 (.slice (some ⟨w.heap.size + 1, 0, none⟩) n c)).run Tryz.prog ((w.alloc X).alloc (.cells C 5)) = .ok (.slice (some ⟨w.heap.size + 1, 0, none⟩) n c) ((w.alloc X).alloc (.cells C 5 (C.size, C.size + 1))) := by
  have h := Lib.run_convert_bytes_const (P := Tryz.prog) (w.alloc X) 22 5 C n c Tryz.underlying22 Tryz.underlying5
  rw [World.size_alloc] at h
  exact h

set_option maxHeartbeats 1000000 in
set_option maxRecDepth 100000 in
theorem psmall_any (w : World) : Calls Tryz.prog 54 #[] w fun e w' => ∃ g, e = .returned (.agg #[.string smallT.ty, .string smallT.cs, .string smallT.id, .string smallT.loc, .int .i64 smallT.how, .slice none smallT.body.length 0, .slice (some ⟨g, 0, none⟩) smallT.kids.length 2]) ∧ PHeld w' 1 smallT none 0 (some ⟨g, 0, none⟩) 2 ∧ Below w.heap.size w w' := by
  have kc := fun (X : Obj) (C : Array Value) (n c : Nat) => kc_at w X C n c
  go_enter Tryz.func54, Tryz.ntmps54
  go_wp2
  (try simp only [Exit.inBlock, Exit.then])
  refine bodyPost_ret (v := .agg #[.string smallT.ty, .string smallT.cs, .string smallT.id, .string smallT.loc, .int .i64 smallT.how, .slice none smallT.body.length 0, .slice (some ⟨w.heap.size + 1 + 1 + 1, 0, none⟩) smallT.kids.length 2]) ?_ rfl ⟨_, rfl, ?_, ?_⟩
  · refine results_cell_row rfl _ _ w.heap.size 25 _ (0, 0) _ rfl ?_ Tryz.underlying25 rfl (by kernel_rfl)
    exact (Below.heap_alloc _ _ _ (by simp; omega)).trans ((Below.heap_alloc _ _ _ (by simp; omega)).trans ((Below.heap_alloc _ _ _ (by simp)).trans (heap_alloc_new w _)))
  · have hA := BRow_lit (w.alloc (.cells #[.string smallT.ty, .string smallT.cs, .string smallT.id, .string smallT.loc, .int .i64 smallT.how, .slice none 0 0, .slice (some ⟨w.heap.size + 1 + 1 + 1, 0, none⟩) 2 2] 25)) bodyA _ rfl 5 (38, 39) (w.heap.size + 1) (by simp)
    have hB := BRow_lit ((w.alloc (.cells #[.string smallT.ty, .string smallT.cs, .string smallT.id, .string smallT.loc, .int .i64 smallT.how, .slice none 0 0, .slice (some ⟨w.heap.size + 1 + 1 + 1, 0, none⟩) 2 2] 25)).alloc (.cells (bv bodyA).toArray 5 (38, 39))) [1, 2, 3] _ rfl 5 (0, 0) (w.heap.size + 1 + 1) (by simp)
    refine ⟨lens _ (by decide), ⟨by decide, by decide, fun _ => rfl⟩, fun h => absurd rfl h, ⟨by decide, by decide, fun h => by cases h⟩, KAt.mk fun i hi => ?_⟩
    have hi2 : i < 2 := hi
    match i, hi2 with
    | 0, _ =>
      refine ⟨some ⟨w.heap.size + 1, 0, none⟩, 38, none, 0, ⟨?_, ?_, ?_, ?_, ?_, ?_, ?_⟩, lens _ (by decide), ⟨by decide, by decide, fun h => by cases h⟩, ?_, ⟨by decide, by decide, fun _ => rfl⟩, rfl⟩
      · exact cell_lits _ _ _ _ 0 _ _ (by simp) rfl rfl
      · exact cell_lits _ _ _ _ 1 _ _ (by simp) rfl rfl
      · exact cell_lits _ _ _ _ 2 _ _ (by simp) rfl rfl
      · exact cell_lits _ _ _ _ 3 _ _ (by simp) rfl rfl
      · exact cell_lits _ _ _ _ 4 _ _ (by simp) rfl rfl
      · exact cell_lits _ _ _ _ 5 _ _ (by simp) rfl rfl
      · exact cell_lits _ _ _ _ 6 _ _ (by simp) rfl rfl
      · exact hA.under (((Below.refl _ _).alloc (Nat.le_refl _) _).alloc (by simp) _)
    | 1, _ =>
      refine ⟨some ⟨w.heap.size + 1 + 1, 0, none⟩, 3, none, 0, ⟨?_, ?_, ?_, ?_, ?_, ?_, ?_⟩, lens _ (by decide), ⟨by decide, by decide, fun h => by cases h⟩, ?_, ⟨by decide, by decide, fun _ => rfl⟩, rfl⟩
      · exact cell_lits _ _ _ _ 7 _ _ (by simp) rfl rfl
      · exact cell_lits _ _ _ _ 8 _ _ (by simp) rfl rfl
      · exact cell_lits _ _ _ _ 9 _ _ (by simp) rfl rfl
      · exact cell_lits _ _ _ _ 10 _ _ (by simp) rfl rfl
      · exact cell_lits _ _ _ _ 11 _ _ (by simp) rfl rfl
      · exact cell_lits _ _ _ _ 12 _ _ (by simp) rfl rfl
      · exact cell_lits _ _ _ _ 13 _ _ (by simp) rfl rfl
      · exact hB.under ((Below.refl _ _).alloc (Nat.le_refl _) _)
  · exact ((((Below.refl _ w).alloc (Nat.le_refl _) _).alloc (by simp) _).alloc (by simp; omega) _).alloc (by simp; omega) _
end Go.Proofs.YtgnlebbifcmpjaaGreatDoor

/- Plain facts on the law's small bundle: where its parts are, and where its links lead. No program. -/
namespace Go.Proofs.YtgnlebbifcmpjaaGreatDoor

def hab : List UInt8 := [104, 116, 116, 112, 58, 47, 47, 104, 47, 97, 47, 98]
def hac : List UInt8 := [104, 116, 116, 112, 58, 47, 47, 104, 47, 97, 47, 99]
def habd : List UInt8 := [104, 116, 116, 112, 58, 47, 47, 104, 47, 97, 47, 98, 35, 100]
theorem small_pl : placesP smallT = (0, [(smallT, -1), (partA, 0), (partB, 0)]) := by kernel_rfl
theorem small_wh : whereP [(smallT, -1), (partA, 0), (partB, 0)] = [hab, hab, hac] := by kernel_rfl
def smallG : List GL := [⟨1, 9, 10, [99], hac, 2⟩, ⟨1, 21, 26, [99, 105, 100, 58, 120], [99, 105, 100, 58, 120], 2⟩, ⟨1, 35, 37, [35, 100], habd, -1⟩]
theorem small_go : goalsGo lowT [smallT.alone, partA.alone, partB.alone] [hab, hab, hac] 0 [smallT.alone, partA.alone, partB.alone] [] = some smallG := by kernel_rfl
end Go.Proofs.YtgnlebbifcmpjaaGreatDoor

/- slices.Equal at []string answers whether the two lists of texts are one; the world is as it was but for draws. Conditions: the cells of both lie there. -/
namespace Go.Proofs.YtgnlebbifcmpjaaGreatDoor
open Go.RowKit

/-- Texts lie behind the address. -/
def T8 (w : World) (p : Option Addr) (n : Nat) (xs : List (List UInt8)) : Prop := xs.length = n ∧ (n ≠ 0 → ∃ b o, p = some ⟨b, o, none⟩ ∧ ∀ i, i < n → w.cell? ⟨b, o + i, none⟩ = some (.string (tx8 (xs.getD i []))))
theorem T8.below {w w' : World} {p : Option Addr} {n : Nat} {xs : List (List UInt8)} (h : T8 w p n xs) (hb : Below w.heap.size w w') : T8 w' p n xs := by
  refine ⟨h.1, fun hn => ?_⟩
  obtain ⟨b, o, e, hc⟩ := h.2 hn
  exact ⟨b, o, e, fun i hi => (hb.cell (p := ⟨b, o + i, none⟩) (World.block_lt_of_cell? w _ (hc i hi))).trans (hc i hi)⟩
theorem texts_same {xs ys : List (List UInt8)} {n : Nat} (hx : xs.length = n) (hy : ys.length = n) (h : ∀ j, j < n → xs.getD j [] = ys.getD j []) : xs = ys := by
  apply List.ext_getElem?
  intro i
  by_cases hi : i < n
  · have := h i hi
    rw [List.getD_eq_getElem?_getD, List.getD_eq_getElem?_getD, List.getElem?_eq_getElem (by omega), List.getElem?_eq_getElem (by omega)] at this
    rw [List.getElem?_eq_getElem (by omega), List.getElem?_eq_getElem (by omega)]
    simpa using this
  · rw [List.getElem?_eq_none (by omega), List.getElem?_eq_none (by omega)]
set_option maxHeartbeats 2000000 in
theorem eqs_any (p1 p2 : Option Addr) (n m c d : Nat) (xs ys : List (List UInt8)) (w : World) (hn : n ≤ maxLen) (hm : m ≤ maxLen) (h1 : T8 w p1 n xs) (h2 : T8 w p2 m ys) :
    Calls Tryz.prog 16 #[.slice p1 n c, .slice p2 m d] w fun e w' => e = .returned (.bool (decide (xs = ys))) ∧ ∃ q, w' = w.drewN q := by
  unfold maxLen at hn hm
  obtain ⟨hx, r1⟩ := h1
  obtain ⟨hy, r2⟩ := h2
  by_cases hnm : n = m
  · subst hnm
    by_cases h0 : n = 0
    · subst h0
      have exy : xs = ys := by rw [List.eq_nil_of_length_eq_zero hx, List.eq_nil_of_length_eq_zero hy]
      have hfin : decide (xs = ys) = true := by simp [exy]
      rw [hfin]
      clear r1 r2 exy hfin hx hy
      go_enter Tryz.func16, Tryz.ntmps16
      go_wp2
      refine wp_loop_rounds 1 ?_
      rw [rounds_succ]
      go_wp2
      go_ret
      exact ⟨rfl, 0, rfl⟩
    · obtain ⟨b1, o1, rfl, k1⟩ := r1 h0
      obtain ⟨b2, o2, rfl, k2⟩ := r2 h0
      clear r1 r2
      go_enter Tryz.func16, Tryz.ntmps16
      go_wp2
      go_loopg [13] n (fun g s13 wr => ∃ k q : Nat, k ≤ n ∧ n - k ≤ g ∧ s13 = .int .i64 k ∧ wr = w.drewN q ∧ ∀ j, j < k → xs.getD j [] = ys.getD j [])
      case atStart => exact ⟨0, 0, Nat.zero_le _, by omega, rfl, rfl, fun j hj => absurd hj (Nat.not_lt_zero _)⟩
      case round =>
        obtain ⟨k, q, hk, hg, rfl, rfl, heq⟩ := hrel
        by_cases hlt : k < n
        · have g1 : w.cell? ⟨b1, o1 + k, none⟩ = some (.string (tx8 (xs.getD k []))) := k1 k hlt
          have g2 : w.cell? ⟨b2, o2 + k, none⟩ = some (.string (tx8 (ys.getD k []))) := k2 k hlt
          have A : Hid (∀ j, j < k → xs.getD j [] = ys.getD j []) := heq
          clear heq k1 k2
          generalize hxk : xs.getD k [] = x at g1
          generalize hyk : ys.getD k [] = y at g2
          have B : Hid (xs.getD k [] = x ∧ ys.getD k [] = y) := ⟨hxk, hyk⟩
          clear hxk hyk
          by_cases hxy : x = y
          · subst hxy
            go_wp2_with fail
            go_quiet (fail)
            go_wp2
            go_roundg (n - (k + 1))
            case measure => omega
            case rel =>
              refine ⟨k + 1, q + nq, by omega, by omega, by go_num, rfl, fun j hj => ?_⟩
              by_cases e : j = k
              · subst e
                rw [B.out.1, B.out.2]
              · exact A.out j (by omega)
          · have hxb : ((tx8 x).toList == (tx8 y).toList) = false := by rw [list_eq, tx8_data, tx8_data, beq_eq_false_iff_ne]; exact hxy
            go_wp2_with fail
            go_quiet (fail)
            go_wp2
            go_ret
            refine ⟨ret_bool ?_, q + nq, World.drewN_drewN _ _ _⟩
            symm
            rw [decide_eq_false_iff_not]
            intro e
            apply hxy
            rw [← B.out.1, ← B.out.2, e]
        · have : k = n := by omega
          subst this
          have hfin : Hid (decide (xs = ys) = true) := by simp [Hid, texts_same hx hy heq]
          clear k1 k2 heq
          go_wp2
          go_ret
          exact ⟨ret_bool hfin.out.symm, q, rfl⟩
  · have hnm' : ¬ (n : Int) = (m : Int) := by omega
    have hfin : decide (xs = ys) = false := by
      rw [decide_eq_false_iff_not]
      intro e
      apply hnm
      rw [← hx, ← hy, e]
    rw [hfin]
    clear r1 r2 hfin
    go_enter Tryz.func16, Tryz.ntmps16
    go_wp2
    go_ret
    exact ⟨rfl, 0, rfl⟩
end Go.Proofs.YtgnlebbifcmpjaaGreatDoor

/- The law's closed fact 'led' answers true; nothing that was there is changed. Conditions: the tables lie there. -/
namespace Go.Proofs.YtgnlebbifcmpjaaGreatDoor
open Go.RowKit

theorem small_goals {w w' : World} {e : Ending} (h : GoalsPost w (placesP smallT) e w') : Below w.heap.size w w' ∧ ∃ v, e = .returned (.tuple #[v, .int .i64 0]) ∧ w'.ownsRow w.heap.size 42 6 v 3 (glv smallG) := by
  obtain ⟨hb, -, hok⟩ := h
  refine ⟨hb, ?_⟩
  rw [small_pl] at hok
  have h2 := hok rfl
  have e1 : goalsGo lowT (([(smallT, -1), (partA, 0), (partB, 0)] : List (PT × Int)).map fun x => x.1.alone) (whereP [(smallT, -1), (partA, 0), (partB, 0)]) 0 (([(smallT, -1), (partA, 0), (partB, 0)] : List (PT × Int)).map fun x => x.1.alone) [] = some smallG := by rw [small_wh]; exact small_go
  simp only [e1] at h2
  exact h2
theorem small_where {w w' : World} {e : Ending} (h : WherePost w (placesP smallT) e w') : Below w.heap.size w w' ∧ ∃ v, e = .returned (.tuple #[v, .int .i64 0]) ∧ w'.ownsRow w.heap.size 9 1 v 3 (wtv [hab, hab, hac]) := by
  obtain ⟨hb, -, hok⟩ := h
  refine ⟨hb, ?_⟩
  rw [small_pl] at hok
  have h2 := hok rfl
  simp only [small_wh] at h2
  exact h2
theorem owned_t8 {w : World} {B n : Nat} {v : Value} {ts : List (List UInt8)} (hn : ts.length = n) (h : w.ownsRow B 9 1 v n (wtv ts)) : ∃ p c, v = .slice p n c ∧ n ≤ c ∧ c ≤ maxLen ∧ T8 w p n ts := by
  have h' := h
  rcases h.2 with ⟨rfl, h0⟩ | ⟨g, cap, cur, rfl, hg, hh, hnc, hcp, hcs, htake⟩
  · subst h0
    exact ⟨none, 0, rfl, Nat.le_refl _, by decide, hn, fun h => absurd rfl h⟩
  · refine ⟨some ⟨g, 0, none⟩, cap, rfl, hnc, hcp, hn, fun _ => ⟨g, 0, rfl, fun i hi => ?_⟩⟩
    rw [Nat.zero_add, h'.cellAt i (by omega)]
    unfold wtv
    rw [List.getElem?_map, List.getElem?_eq_getElem (by omega), List.getD_eq_getElem?_getD, List.getElem?_eq_getElem (by omega)]
    rfl
theorem three_goals {w : World} {B : Nat} {v : Value} (h : w.ownsRow B 42 6 v 3 (glv smallG)) : ∃ g c, v = .slice (some ⟨g, 0, none⟩) 3 c ∧ 3 ≤ c ∧ c ≤ maxLen ∧ g < w.heap.size ∧ ∀ i u, (glv smallG)[i]? = some u → i < 18 → w.cell? ⟨g, i, none⟩ = some u := by
  have h' := h
  rcases h.2 with ⟨rfl, h0⟩ | ⟨g, cap, cur, rfl, hg, hh, hnc, hcp, hcs, htake⟩
  · cases h0
  · exact ⟨g, cap, rfl, hnc, hcp, (Array.getElem?_eq_some_iff.1 hh).1, fun i u hu hi => by rw [h'.cellAt i (by omega)]; exact hu⟩
set_option maxHeartbeats 8000000 in
set_option maxRecDepth 100000 in
/-- led. -/
theorem ledc_any (w : World) (hE : LEnv w) : Calls Tryz.prog 12 #[] w fun e w' => e = .returned (.bool true) ∧ Below w.heap.size w w' := by
  have HE : Hid (LEnv w) := hE
  clear hE
  go_enter Tryz.func12, Tryz.ntmps12
  go_wp2_with fail
  refine (psmall_any _).mono ?_
  rintro e w1 ⟨g1, rfl, hH1, hb1⟩
  have CG := bgoals_any smallT none 0 (some ⟨g1, 0, none⟩) 2 1 w1 (HE.out.below hb1) hH1
  have CG' : Hid (Calls Tryz.prog 10 #[.agg #[.string smallT.ty, .string smallT.cs, .string smallT.id, .string smallT.loc, .int .i64 smallT.how, .slice none smallT.body.length 0, .slice (some ⟨g1, 0, none⟩) smallT.kids.length 2]] w1 fun e w' => GoalsPost w1 (placesP smallT) e w') := CG
  clear CG hH1
  go_wp2_with fail
  refine CG'.out.mono ?_
  intro e w2 h2
  obtain ⟨hb2, v2, rfl, own2⟩ := small_goals h2
  obtain ⟨gg, gc, rfl, hgc1, hgc2, hgl, hcell⟩ := three_goals own2
  have hbe2 : Below w.heap.size w w2 := hb1.trans (hb2.mono hb1.size)
  clear CG' h2 own2 hb1 hb2
  go_wp2_with fail
  refine (psmall_any _).mono ?_
  rintro e w3 ⟨g3, rfl, hH3, hb3⟩
  have hbe3 : Below w.heap.size w w3 := hbe2.trans (hb3.mono hbe2.size)
  have CW := bwhere_any smallT none 0 (some ⟨g3, 0, none⟩) 2 1 w3 (HE.out.max hbe3) hH3
  have CW' : Hid (Calls Tryz.prog 9 #[.agg #[.string smallT.ty, .string smallT.cs, .string smallT.id, .string smallT.loc, .int .i64 smallT.how, .slice none smallT.body.length 0, .slice (some ⟨g3, 0, none⟩) smallT.kids.length 2]] w3 fun e w' => WherePost w3 (placesP smallT) e w') := CW
  clear CW hH3
  go_wp2_with fail
  refine CW'.out.mono ?_
  intro e w4 h4
  obtain ⟨hb4, v4, rfl, own4⟩ := small_where h4
  obtain ⟨q4, c4, rfl, hc41, hc42, hT4⟩ := owned_t8 rfl own4
  have hb24 : Below w2.heap.size w2 w4 := hb3.trans (hb4.mono hb3.size)
  have hbe4 : Below w.heap.size w w4 := hbe2.trans (hb24.mono hbe2.size)
  clear CW' h4 own4 hb3 hb4 hbe3
  obtain ⟨W5, hW5⟩ : ∃ W, W = w4.alloc (.cells #[.string (tx8 hab), .string (tx8 hab), .string (tx8 hac)] 9) := ⟨_, rfl⟩
  have hb45 : Below w4.heap.size w4 W5 := by rw [hW5]; exact (Below.refl _ _).alloc (Nat.le_refl _) _
  have hk5 : W5.heap[w4.heap.size]? = some (.cells #[.string (tx8 hab), .string (tx8 hab), .string (tx8 hac)] 9) := by rw [hW5]; exact blk_new _ _
  have hT5 : T8 W5 (some ⟨w4.heap.size, 0, none⟩) 3 [hab, hab, hac] := ⟨rfl, fun _ => ⟨w4.heap.size, 0, rfl, fun i hi => by
    match i, hi with
    | 0, _ => exact (blk_c hk5 _).trans rfl
    | 1, _ => exact (blk_c hk5 _).trans rfl
    | 2, _ => exact (blk_c hk5 _).trans rfl⟩⟩
  have CE : Hid (Calls Tryz.prog 16 #[.slice q4 3 c4, .slice (some ⟨w4.heap.size, 0, none⟩) 3 3] W5 fun e w' => e = .returned (.bool true) ∧ Below W5.heap.size W5 w') := by
    refine (eqs_any q4 (some ⟨w4.heap.size, 0, none⟩) 3 3 c4 3 [hab, hab, hac] [hab, hab, hac] W5 (by decide) (by decide) (hT4.below hb45) hT5).mono ?_
    rintro e w' ⟨rfl, m, rfl⟩
    exact ⟨by rw [decide_eq_true rfl], below_drewN' (Below.refl _ _) m⟩
  go_wp2_with fail
  have hW5' : w4.alloc (.cells #[.string (tx8 hab), .string (tx8 hab), .string (tx8 hac)] 9) = W5 := hW5.symm
  show Calls _ _ _ (w4.alloc (.cells #[.string (tx8 hab), .string (tx8 hab), .string (tx8 hac)] 9)) _
  rw [hW5']
  clear hW5 hW5' hk5 hT5 hT4
  refine CE.out.mono ?_
  rintro e w6 ⟨rfl, hb6⟩
  have hb26 : Below w2.heap.size w2 w6 := hb24.trans ((hb45.trans (hb6.mono hb45.size)).mono hb24.size)
  have hbe6 : Below w.heap.size w w6 := hbe2.trans (hb26.mono hbe2.size)
  have a0 : w6.cell? ⟨gg, 4, none⟩ = some (.string (tx8 hac)) := (hb26.cell (p := ⟨gg, 4, none⟩) hgl).trans (hcell 4 _ rfl (by decide))
  have a1 : w6.cell? ⟨gg, 5, none⟩ = some (.int .i64 2) := (hb26.cell (p := ⟨gg, 5, none⟩) hgl).trans (hcell 5 _ rfl (by decide))
  have a2 : w6.cell? ⟨gg, 10, none⟩ = some (.string (tx8 [99, 105, 100, 58, 120])) := (hb26.cell (p := ⟨gg, 10, none⟩) hgl).trans (hcell 10 _ rfl (by decide))
  have a3 : w6.cell? ⟨gg, 11, none⟩ = some (.int .i64 2) := (hb26.cell (p := ⟨gg, 11, none⟩) hgl).trans (hcell 11 _ rfl (by decide))
  have a4 : w6.cell? ⟨gg, 16, none⟩ = some (.string (tx8 habd)) := (hb26.cell (p := ⟨gg, 16, none⟩) hgl).trans (hcell 16 _ rfl (by decide))
  have a5 : w6.cell? ⟨gg, 17, none⟩ = some (.int .i64 (-1)) := (hb26.cell (p := ⟨gg, 17, none⟩) hgl).trans (hcell 17 _ rfl (by decide))
  have t0 : (tx8 hac).toList = [104, 116, 116, 112, 58, 47, 47, 104, 47, 97, 47, 99] := by rw [ByteArray.toList_eq]; rfl
  have t1 : (tx8 [99, 105, 100, 58, 120]).toList = [99, 105, 100, 58, 120] := by rw [ByteArray.toList_eq]; rfl
  have t2 : (tx8 habd).toList = [104, 116, 116, 112, 58, 47, 47, 104, 47, 97, 47, 98, 35, 100] := by rw [ByteArray.toList_eq]; rfl
  clear CE hcell hb6 hb24 hb26 hb45 hbe4 hbe2
  go_wp2_with fail
  go_ret
  exact ⟨rfl, hbe6⟩
end Go.Proofs.YtgnlebbifcmpjaaGreatDoor

/- Plain facts on parts: what is put into the list of places are the part and all in it, depth first, each with the number of the one that it is in, if they are few enough and not too deep. No program. -/
namespace Go.Proofs.YtgnlebbifcmpjaaGreatDoor

/-- What is in a part that lies behind others: one number more. -/
def sub (n : Nat) (x : PT × Option Nat) : PT × Option Nat := (x.1, some (match x.2 with | none => 0 | some j => j + n))
def abs (n : Nat) (inn : Int) (x : PT × Option Nat) : PT × Int := (x.1, match x.2 with | none => inn | some j => ((n + j : Nat) : Int))
/-- A part and all in it, depth first, each with the number of the one that it is in; none: the first. -/
def tree : Nat → PT → List (PT × Option Nat)
  | 0, _ => []
  | f + 1, p => p.kids.foldl (fun acc k => acc ++ (tree f k).map (sub acc.length)) [(p, none)]
def grow (f : Nat) (acc : List (PT × Option Nat)) (ks : List PT) : List (PT × Option Nat) := ks.foldl (fun acc k => acc ++ (tree f k).map (sub acc.length)) acc
theorem grow_nil (f : Nat) (acc : List (PT × Option Nat)) : grow f acc [] = acc := rfl
theorem grow_cons (f : Nat) (acc : List (PT × Option Nat)) (k : PT) (ks : List PT) : grow f acc (k :: ks) = grow f (acc ++ (tree f k).map (sub acc.length)) ks := rfl
theorem tree_grow (f : Nat) (p : PT) : tree (f + 1) p = grow f [(p, none)] p.kids := by rw [tree]; rfl
theorem grow_le (f : Nat) : ∀ (ks : List PT) (acc : List (PT × Option Nat)), acc.length ≤ (grow f acc ks).length
  | [], acc => Nat.le_refl _
  | k :: ks, acc => by
    rw [grow_cons]
    have := grow_le f ks (acc ++ (tree f k).map (sub acc.length))
    rw [List.length_append] at this
    omega
theorem tree_pos (f : Nat) (p : PT) : 1 ≤ (tree (f + 1) p).length := by
  rw [tree_grow]; exact grow_le f p.kids [(p, none)]
/-- As many levels at most. -/
def lev : Nat → PT → Bool
  | 0, _ => false
  | n + 1, p => p.kids.all (lev n)
theorem lev_succ (n : Nat) (p : PT) : lev (n + 1) p = p.kids.all (lev n) := by rw [lev]

theorem abs_sub (n a : Nat) (inn : Int) (x : PT × Option Nat) : abs n inn (sub a x) = abs (n + a) n x := by
  obtain ⟨x, j⟩ := x
  cases j with
  | none => simp [abs, sub]
  | some j => simp only [abs, sub]; congr 1; omega

theorem putAll_spec (f : Nat) (ih : ∀ l p inn, l.length ≤ 12 → put (f + 1) l p (4 - f) inn = if lev f p = true ∧ l.length + (tree (f + 1) p).length ≤ 12 then some (l ++ (tree (f + 1) p).map (abs l.length inn)) else none) (l : List (PT × Int)) (inn : Int) :
    ∀ (ks : List PT) (acc : List (PT × Option Nat)), l.length + acc.length ≤ 12 → putAll (f + 1) (4 - f) l.length (l ++ acc.map (abs l.length inn)) ks =
      if ks.all (lev f) = true ∧ l.length + (grow (f + 1) acc ks).length ≤ 12 then some (l ++ (grow (f + 1) acc ks).map (abs l.length inn)) else none
  | [], acc, h => by rw [putAll_nil, grow_nil, if_pos ⟨rfl, h⟩]
  | k :: ks, acc, h => by
    have hk := ih (l ++ acc.map (abs l.length inn)) k l.length (by rw [List.length_append, List.length_map]; exact h)
    rw [List.length_append, List.length_map] at hk
    have hg := grow_le (f + 1) ks (acc ++ (tree (f + 1) k).map (sub acc.length))
    rw [List.length_append, List.length_map] at hg
    rw [grow_cons]
    by_cases hc : lev f k = true ∧ l.length + acc.length + (tree (f + 1) k).length ≤ 12
    · rw [if_pos hc] at hk
      rw [putAll_some _ _ _ _ _ _ _ hk]
      have e : (l ++ acc.map (abs l.length inn)) ++ (tree (f + 1) k).map (abs (l.length + acc.length) l.length) = l ++ (acc ++ (tree (f + 1) k).map (sub acc.length)).map (abs l.length inn) := by
        rw [List.map_append, List.map_map, List.append_assoc]
        congr 2
        exact List.map_congr_left fun x _ => (abs_sub _ _ _ x).symm
      rw [e, putAll_spec f ih l inn ks _ (by rw [List.length_append, List.length_map]; omega), List.all_cons, hc.1, Bool.true_and]
    · rw [if_neg hc] at hk
      rw [putAll_none _ _ _ _ _ _ hk, if_neg]
      rintro ⟨h1, h2⟩
      rw [List.all_cons, Bool.and_eq_true] at h1
      exact hc ⟨h1.1, by omega⟩

theorem put_spec : ∀ (f : Nat), f ≤ 3 → ∀ (l : List (PT × Int)) (p : PT) (inn : Int), l.length ≤ 12 →
    put (f + 1) l p (4 - f) inn = if lev f p = true ∧ l.length + (tree (f + 1) p).length ≤ 12 then some (l ++ (tree (f + 1) p).map (abs l.length inn)) else none
  | 0, _, l, p, inn, _ => by rw [put_stop _ _ _ _ _ (Or.inr (by omega)), if_neg (fun h => by have := h.1; rw [lev] at this; cases this)]
  | f + 1, hf, l, p, inn, hl => by
    by_cases hs : l.length = 12
    · rw [put_stop _ _ _ _ _ (Or.inl hs), if_neg]
      have := tree_pos (f + 1) p
      omega
    · rw [put_go _ _ _ _ _ (by omega), show 4 - (f + 1) + 1 = 4 - f from by omega]
      have := putAll_spec f (fun l p inn hl => put_spec f (by omega) l p inn hl) l inn p.kids [(p, none)] (by simp; omega)
      rw [show l ++ [(p, none)].map (abs l.length inn) = l ++ [(p, inn)] from rfl] at this
      rw [this, ← tree_grow, ← lev_succ]
/-- The list of places of a part, as the document says it. -/
theorem places_spec (p : PT) : put 4 [] p 1 (-1) = if lev 3 p = true ∧ (tree 4 p).length ≤ 12 then some ((tree 4 p).map (abs 0 (-1))) else none := by
  have := put_spec 3 (by omega) [] p (-1) (by simp)
  simpa using this
end Go.Proofs.YtgnlebbifcmpjaaGreatDoor
