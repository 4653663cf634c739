/- mime.Read: as the plain function says; nothing that was there is changed. Conditions: the bytes and the tables lie there. -/
import Derived.Test.YtpgnkhaanoalhaaGreatDoorXmimeborders37
import Derived.Test.YtpgnkhaanoalhaaGreatDoorXmimeborders47
import Derived.Test.YtpgnkhaanoalhaaGreatDoorXmimeborders12
import Derived.Lib.SlBytesConst
namespace Go.Proofs.YtpgnkhaanoalhaaGreatDoor
open Go.RowKit

def ReadMPost (w : World) (r : Nat × PT) (e : Ending) (w' : World) : Prop :=
  Below w.heap.size w w' ∧ (r.1 = 0 → ∃ pb cb pk ck, e = .returned (.tuple #[.agg #[.string r.2.ty, .string r.2.cs, .string r.2.id, .string r.2.loc, .int .i64 r.2.how, .slice pb r.2.body.length cb, .slice pk r.2.kids.length ck], .int .i64 0]) ∧ PFar w' (fun b => w.heap.size ≤ b ∧ b < w'.heap.size) 3 r.2 pb cb pk ck) ∧
  (r.1 ≠ 0 → e = .returned (.tuple #[.agg Z7, .int .i64 (r.1 : Int)]))
theorem readMPost_no {w w' : World} {n : Nat} {p : PT} (hb : Below w.heap.size w w') (hn : n ≠ 0) : ReadMPost w (n, p) (.returned (.tuple #[.agg Z7, .int .i64 (n : Int)])) w' := ⟨hb, fun h => absurd h hn, fun _ => rfl⟩
theorem fill7_below {w W : World} (h : Below w.heap.size w W) {r : Nat} (hr : w.heap.size ≤ r) (v0 v1 v2 v3 v4 v5 v6 : Value) : Below w.heap.size w (fill7 W r v0 v1 v2 v3 v4 v5 v6) :=
  ((((((h.setCell (p := ⟨r, 0, none⟩) hr v0).setCell (p := ⟨r, 1, none⟩) hr v1).setCell (p := ⟨r, 2, none⟩) hr v2).setCell (p := ⟨r, 3, none⟩) hr v3).setCell (p := ⟨r, 4, none⟩) hr v4).setCell (p := ⟨r, 5, none⟩) hr v5).setCell (p := ⟨r, 6, none⟩) hr v6

set_option maxHeartbeats 8000000 in
set_option maxRecDepth 100000 in
theorem mReadM_any (p : Option Addr) (n c : Nat) (L : List UInt8) (en : n = L.length) (w : World) (hE : Env w) (hc : n ≤ c) (hcm : c ≤ maxLen) (hp : p = none → n = 0 ∧ c = 0) (hr : BRow w p L) :
    Calls Tryz.prog 10 #[.slice p n c] w fun e w' => ReadMPost w (readM L) e w' := by
  subst en
  by_cases hn : 40000 < L.length
  · have hn' : (40000 : Int) < (L.length : Int) := by omega
    rw [readM, if_pos hn]
    go_enter Tryz.func10, Tryz.ntmps10
    go_wp2
    refine bodyPost_ret (v := .tuple #[.agg Z7, .int .i64 2]) ?_ rfl (readMPost_no ((Below.refl _ _).alloc (Nat.le_refl _) _) (by decide))
    rw [results_cell_tmp rfl]
    go_simp
  have hn' : ¬ (40000 : Int) < (L.length : Int) := by omega
  obtain ⟨RES, hRES⟩ : ∃ R, readM L = R := ⟨_, rfl⟩
  have HRES : Hid (readM L = RES) := hRES
  rw [hRES]
  clear hRES
  have b1 : Below w.heap.size w ((w.alloc (.cells Z7 25)).alloc (.cells #[.int .i64 0] 3)) := ((Below.refl _ _).alloc (Nat.le_refl _) _).alloc (by simp) _
  have k1 : CountAt ((w.alloc (.cells Z7 25)).alloc (.cells #[.int .i64 0] 3)) (w.heap.size + 1) ((0 : Nat) : Int) := by
    have := m_new (w.alloc (.cells Z7 25)) (.cells #[.int .i64 0] 3)
    have e : (w.alloc (.cells Z7 25)).heap.size = w.heap.size + 1 := by simp
    rw [e] at this
    exact this
  have r1 : ((w.alloc (.cells Z7 25)).alloc (.cells #[.int .i64 0] 3)).heap[w.heap.size]? = some (.cells Z7 25) := m_kept (m_new w _) ((Below.refl _ _).alloc (Nat.le_refl _) _)
  have HE : Hid (Env w) := hE
  clear hE
  go_enter Tryz.func10, Tryz.ntmps10
  go_wp2_with fail
  obtain ⟨W1, hW1⟩ : ∃ W, W = (w.alloc (.cells Z7 25)).alloc (.cells #[.int .i64 0] 3) := ⟨_, rfl⟩
  rw [← hW1] at b1 k1 r1
  rw [← hW1]
  clear hW1
  obtain ⟨E1, Q1, K1, hrp⟩ : ∃ a b c, readP 3 L 0 = (a, b, c) := ⟨_, _, _, rfl⟩
  have HRP : Hid (readP 3 L 0 = (E1, Q1, K1)) := hrp
  have CR : Calls Tryz.prog 34 #[.slice p L.length c, .int .i64 1, .pointer (some ⟨w.heap.size + 1, 0, none⟩)] W1 fun e w' => RPost 3 W1 (w.heap.size + 1) (E1, Q1, K1) e w' := by
    have := mread_any w HE.out 3 p L.length c L 1 (w.heap.size + 1) 0 W1 rfl rfl b1 (by omega) k1 (by omega) hc hcm hp (hr.below b1) (by decide)
    rw [hrp] at this
    exact this
  clear hrp
  refine CR.mono ?_
  rintro e w2 ⟨ht2, hok, hno⟩
  have b2 : Below w.heap.size w w2 := ht2.base b1 (by omega)
  have r2 := (ht2.block w.heap.size (Array.getElem?_eq_some_iff.1 r1).1 (by omega)).trans r1
  have hs2 : W1.heap.size ≤ w2.heap.size := ht2.size
  have hs1 : w.heap.size < W1.heap.size := (Array.getElem?_eq_some_iff.1 r1).1
  clear ht2 b1 k1 r1 CR hr
  by_cases h1 : E1 = 0
  · subst h1
    obtain ⟨pb, cb, pk, ck, rfl, hfar⟩ := hok rfl
    have HF : Hid (PFar w2 (fun b => W1.heap.size ≤ b ∧ b < w2.heap.size) 3 Q1 pb cb pk ck) := hfar
    clear hok hno hfar
    obtain ⟨ty, cs, id, loc, how, body, kids⟩ := Q1
    simp only
    go_wp2_with fail
    obtain ⟨W3, hW3⟩ : ∃ W, W = w2.alloc (.cells #[.string ty, .string cs, .string id, .string loc, .int .i64 how, .slice pb body.length cb, .slice pk kids.length ck] 25) := ⟨_, rfl⟩
    have g3 : Below w2.heap.size w2 W3 := by rw [hW3]; exact (Below.refl _ _).alloc (Nat.le_refl _) _
    have q3 : W3.heap[w2.heap.size]? = some (.cells #[.string ty, .string cs, .string id, .string loc, .int .i64 how, .slice pb body.length cb, .slice pk kids.length ck] 25) := by rw [hW3]; exact m_new _ _
    rw [← hW3]
    clear hW3
    have HF3 : Hid (PFar W3 (fun b => W1.heap.size ≤ b ∧ b < w2.heap.size) 3 ⟨ty, cs, id, loc, how, body, kids⟩ pb cb pk ck) := HF.out.below g3
    have b3 : Below w.heap.size w W3 := b2.trans (g3.mono b2.size)
    have r3 := m_kept r2 g3
    clear HF
    refine (pcheck_any ⟨ty, cs, id, loc, how, body, kids⟩ pb cb pk ck 3 W3 HF3.out.held).mono ?_
    rintro e w4 ⟨rfl, hb4⟩
    have HF4 : Hid (PFar w4 (fun b => W1.heap.size ≤ b ∧ b < w2.heap.size) 3 ⟨ty, cs, id, loc, how, body, kids⟩ pb cb pk ck) := HF3.out.below hb4
    have b4 : Below w.heap.size w w4 := b3.trans (hb4.mono b3.size)
    have r4 := m_kept r3 hb4
    have q4 := m_kept q3 hb4
    have hs4 : w2.heap.size < w4.heap.size := (Array.getElem?_eq_some_iff.1 q4).1
    have hrq : w.heap.size < w2.heap.size := by omega
    clear hb4 HF3 b3 r3 q3 g3 r2 b2
    obtain ⟨q, hq⟩ : ∃ q, w2.heap.size = q := ⟨_, rfl⟩
    rw [hq] at HF4 q4 hs4 hrq hs2
    rw [hq]
    clear hq
    obtain ⟨E2, hE2⟩ : ∃ x, (placesP ⟨ty, cs, id, loc, how, body, kids⟩).1 = x := ⟨_, rfl⟩
    have HE2 : Hid ((placesP ⟨ty, cs, id, loc, how, body, kids⟩).1 = E2) := hE2
    rw [hE2]
    clear hE2
    obtain ⟨r0, r1, r2, r3, r4', r5, r6, rf⟩ := m_cells r4
    obtain ⟨c0, c1, c2, c3, c4, c5, c6, cfz⟩ := m_cells q4
    have hqr : ¬ q = w.heap.size := by omega
    by_cases h2 : E2 = 0
    · subst h2
      go_wp2
      have hres : RES = (0, ⟨ty, cs, id, loc, how, body, kids⟩) := by
        rw [← HRES.out, readM, if_neg hn, HRP.out, if_neg (by simp)]
        simp only
        rw [HE2.out, if_neg (by simp)]
      rw [hres]
      refine bodyPost_ret (v := .tuple #[.agg #[.string ty, .string cs, .string id, .string loc, .int .i64 how, .slice pb body.length cb, .slice pk kids.length ck], .int .i64 0]) ?_ rfl ⟨fill7_below b4 (Nat.le_refl _) _ _ _ _ _ _ _, fun _ => ⟨pb, cb, pk, ck, rfl, ?_⟩, fun h => absurd rfl h⟩
      · rw [results_cell_tmp rfl]
        go_simp
      · refine PFar.kind (fun b hb => ?_) (PFar.move (fun b hb _ => fill7_block _ _ _ _ _ _ _ _ _ b ?_) HF4.out)
        · have hb' : W1.heap.size ≤ b ∧ b < q := hb
          rw [fill7_size]
          omega
        · have hb' : W1.heap.size ≤ b ∧ b < q := hb
          omega
    · have hz1 : ¬ (E2 : Int) = 0 := by omega
      have hz2 : ((E2 : Int) == 0) = false := by rw [beq_eq_false_iff_ne]; exact hz1
      go_wp2
      have hres : RES = (E2, pt0) := by
        rw [← HRES.out, readM, if_neg hn, HRP.out, if_neg (by simp)]
        simp only
        rw [HE2.out, if_pos h2]
      rw [hres]
      refine bodyPost_ret (v := .tuple #[.agg Z7, .int .i64 (E2 : Int)]) ?_ rfl (readMPost_no (fill7_below b4 (Nat.le_refl _) _ _ _ _ _ _ _) h2)
      rw [results_cell_tmp rfl]
      go_simp
  · obtain ⟨s0, s1, s2, s3, hw, a1, n1, c1, a2, n2, c2, rfl⟩ := hno h1
    have hz1 : ¬ (E1 : Int) = 0 := by omega
    have hz2 : ((E1 : Int) == 0) = false := by rw [beq_eq_false_iff_ne]; exact hz1
    clear hok hno
    simp only
    obtain ⟨r0, r1, r2', r3, r4', r5, r6, rf⟩ := m_cells r2
    have hlt : w.heap.size < w2.heap.size := by omega
    have hne : ¬ w.heap.size = w2.heap.size := by omega
    go_wp2
    have hres : RES = (E1, pt0) := by
      rw [← HRES.out, readM, if_neg hn, HRP.out, if_pos h1]
    rw [hres]
    refine bodyPost_ret (v := .tuple #[.agg Z7, .int .i64 (E1 : Int)]) ?_ rfl (readMPost_no ((fill7_below b2 (Nat.le_refl _) _ _ _ _ _ _ _).alloc (by rw [fill7_size]; exact b2.size) _) h1)
    rw [results_cell_tmp rfl]
    go_simp
end Go.Proofs.YtpgnkhaanoalhaaGreatDoor

/- The law's small bundle. -/
namespace Go.Proofs.YtpgnkhaanoalhaaGreatDoor
open Go.RowKit

def bodyA : List UInt8 := [60, 97, 32, 104, 114, 101, 102, 61, 39, 99, 39, 62, 60, 105, 109, 103, 32, 83, 82, 67, 61, 99, 105, 100, 58, 120, 62, 60, 97, 32, 104, 114, 101, 102, 61, 35, 100, 62]
def partA : PT := ⟨⟨#[116, 101, 120, 116, 47, 104, 116, 109, 108]⟩, ⟨#[117, 116, 102, 45, 56]⟩, ⟨#[]⟩, ⟨#[]⟩, 2, bodyA, []⟩
def partB : PT := ⟨⟨#[105, 109, 97, 103, 101, 47, 112, 110, 103]⟩, ⟨#[]⟩, ⟨#[120]⟩, ⟨#[99]⟩, 1, [1, 2, 3], []⟩
def smallT : PT := ⟨⟨#[109, 117, 108, 116, 105, 112, 97, 114, 116, 47, 114, 101, 108, 97, 116, 101, 100]⟩, ⟨#[]⟩, ⟨#[]⟩, ⟨#[104, 116, 116, 112, 58, 47, 47, 104, 47, 97, 47, 98]⟩, 0, [], [partA, partB]⟩

theorem BRow_lit (w : World) (L : List UInt8) (C : Array Value) (hC : C = (bv L).toArray) (t : TypeId) (fr : Nat × Nat) (b : Nat) (hb : b = w.heap.size) : BRow (w.alloc (.cells C t fr)) (some ⟨b, 0, none⟩) L := by
  subst hC hb
  intro _
  refine ⟨w.heap.size, 0, rfl, fun i hi => ?_⟩
  rw [Nat.zero_add, World.cell?_alloc_mark w _ t fr i]
  simp [bv, List.getD_eq_getElem?_getD, List.getElem?_eq_getElem hi]

theorem cell_lits (w : World) (c : List Value) (t : TypeId) (b j k : Nat) (x : Value) (hb : b = w.heap.size) (hk : k = j) (h : c[j]? = some x) : (w.alloc (.cells c.toArray t)).cell? ⟨b, k, none⟩ = some x := by
  subst hk
  have := cell_seven w c t b hb k x h
  rwa [Addr.add_lit, Nat.zero_add] at this
theorem lens (p : PT) (h : (decide (p.ty.size ≤ 1000000) && decide (p.cs.size ≤ 1000000) && decide (p.id.size ≤ 1000000) && decide (p.loc.size ≤ 1000000) && decide (-1000 ≤ p.how) && decide (p.how ≤ 1000) && decide (p.body.length ≤ 1000000) && decide (p.kids.length ≤ 1000000)) = true) : PLen p := by
  simp only [Bool.and_eq_true, decide_eq_true_eq] at h
  obtain ⟨⟨⟨⟨⟨⟨⟨a, b⟩, c⟩, d⟩, e⟩, f⟩, g⟩, k⟩ := h
  unfold PLen maxLen
  omega

theorem kc_at (w : World) (X : Obj) (C : Array Value) (n c : Nat) : (convert 22 22 (.slice (some ⟨w.heap.size + 1, 0, none⟩) n c)).run Tryz.prog ((w.alloc X).alloc (.cells C 5)) = .ok (.slice (some ⟨w.heap.size + 1, 0, none⟩) n c) ((w.alloc X).alloc (.cells C 5 (C.size, C.size + 1))) := by
  have h := Lib.run_convert_bytes_const (P := Tryz.prog) (w.alloc X) 22 5 C n c Tryz.underlying22 Tryz.underlying5
  rw [World.size_alloc] at h
  exact h

set_option maxHeartbeats 1000000 in
set_option maxRecDepth 100000 in
theorem psmall_any (w : World) : Calls Tryz.prog 46 #[] w fun e w' => ∃ g, e = .returned (.agg #[.string smallT.ty, .string smallT.cs, .string smallT.id, .string smallT.loc, .int .i64 smallT.how, .slice none smallT.body.length 0, .slice (some ⟨g, 0, none⟩) smallT.kids.length 2]) ∧ PHeld w' 1 smallT none 0 (some ⟨g, 0, none⟩) 2 ∧ Below w.heap.size w w' := by
  have kc := fun (X : Obj) (C : Array Value) (n c : Nat) => kc_at w X C n c
  go_enter Tryz.func46, Tryz.ntmps46
  go_wp2
  (try simp only [Exit.inBlock, Exit.then])
  refine bodyPost_ret (v := .agg #[.string smallT.ty, .string smallT.cs, .string smallT.id, .string smallT.loc, .int .i64 smallT.how, .slice none smallT.body.length 0, .slice (some ⟨w.heap.size + 1 + 1 + 1, 0, none⟩) smallT.kids.length 2]) ?_ rfl ⟨_, rfl, ?_, ?_⟩
  · refine results_cell_row rfl _ _ w.heap.size 25 _ (0, 0) _ rfl ?_ Tryz.underlying25 rfl (by kernel_rfl)
    exact (Below.heap_alloc _ _ _ (by simp; omega)).trans ((Below.heap_alloc _ _ _ (by simp; omega)).trans ((Below.heap_alloc _ _ _ (by simp)).trans (heap_alloc_new w _)))
  · have hA := BRow_lit (w.alloc (.cells #[.string smallT.ty, .string smallT.cs, .string smallT.id, .string smallT.loc, .int .i64 smallT.how, .slice none 0 0, .slice (some ⟨w.heap.size + 1 + 1 + 1, 0, none⟩) 2 2] 25)) bodyA _ rfl 5 (38, 39) (w.heap.size + 1) (by simp)
    have hB := BRow_lit ((w.alloc (.cells #[.string smallT.ty, .string smallT.cs, .string smallT.id, .string smallT.loc, .int .i64 smallT.how, .slice none 0 0, .slice (some ⟨w.heap.size + 1 + 1 + 1, 0, none⟩) 2 2] 25)).alloc (.cells (bv bodyA).toArray 5 (38, 39))) [1, 2, 3] _ rfl 5 (0, 0) (w.heap.size + 1 + 1) (by simp)
    refine ⟨lens _ (by decide), ⟨by decide, by decide, fun _ => rfl⟩, fun h => absurd rfl h, ⟨by decide, by decide, fun h => by cases h⟩, KAt.mk fun i hi => ?_⟩
    have hi2 : i < 2 := hi
    match i, hi2 with
    | 0, _ =>
      refine ⟨some ⟨w.heap.size + 1, 0, none⟩, 38, none, 0, ⟨?_, ?_, ?_, ?_, ?_, ?_, ?_⟩, lens _ (by decide), ⟨by decide, by decide, fun h => by cases h⟩, ?_, ⟨by decide, by decide, fun _ => rfl⟩, rfl⟩
      · exact cell_lits _ _ _ _ 0 _ _ (by simp) rfl rfl
      · exact cell_lits _ _ _ _ 1 _ _ (by simp) rfl rfl
      · exact cell_lits _ _ _ _ 2 _ _ (by simp) rfl rfl
      · exact cell_lits _ _ _ _ 3 _ _ (by simp) rfl rfl
      · exact cell_lits _ _ _ _ 4 _ _ (by simp) rfl rfl
      · exact cell_lits _ _ _ _ 5 _ _ (by simp) rfl rfl
      · exact cell_lits _ _ _ _ 6 _ _ (by simp) rfl rfl
      · exact hA.under (((Below.refl _ _).alloc (Nat.le_refl _) _).alloc (by simp) _)
    | 1, _ =>
      refine ⟨some ⟨w.heap.size + 1 + 1, 0, none⟩, 3, none, 0, ⟨?_, ?_, ?_, ?_, ?_, ?_, ?_⟩, lens _ (by decide), ⟨by decide, by decide, fun h => by cases h⟩, ?_, ⟨by decide, by decide, fun _ => rfl⟩, rfl⟩
      · exact cell_lits _ _ _ _ 7 _ _ (by simp) rfl rfl
      · exact cell_lits _ _ _ _ 8 _ _ (by simp) rfl rfl
      · exact cell_lits _ _ _ _ 9 _ _ (by simp) rfl rfl
      · exact cell_lits _ _ _ _ 10 _ _ (by simp) rfl rfl
      · exact cell_lits _ _ _ _ 11 _ _ (by simp) rfl rfl
      · exact cell_lits _ _ _ _ 12 _ _ (by simp) rfl rfl
      · exact cell_lits _ _ _ _ 13 _ _ (by simp) rfl rfl
      · exact hB.under ((Below.refl _ _).alloc (Nat.le_refl _) _)
  · exact ((((Below.refl _ w).alloc (Nat.le_refl _) _).alloc (by simp) _).alloc (by simp; omega) _).alloc (by simp; omega) _
end Go.Proofs.YtpgnkhaanoalhaaGreatDoor
