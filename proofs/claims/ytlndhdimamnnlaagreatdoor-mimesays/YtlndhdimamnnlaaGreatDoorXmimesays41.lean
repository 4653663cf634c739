
import Derived.Test.YtlndhdimamnnlaaGreatDoorXmimesays39
import Derived.Test.YtlndhdimamnnlaaGreatDoorXmimesays40
namespace Go.Proofs.YtlndhdimamnnlaaGreatDoor
open Go.RowKit
def bodyA : List UInt8 := [60, 97, 32, 104, 114, 101, 102, 61, 39, 99, 39, 62, 60, 105, 109, 103, 32, 83, 82, 67, 61, 99, 105, 100, 58, 120, 62, 60, 97, 32, 104, 114, 101, 102, 61, 35, 100, 62]
def partA : PT := ⟨⟨#[116, 101, 120, 116, 47, 104, 116, 109, 108]⟩, ⟨#[117, 116, 102, 45, 56]⟩, ⟨#[]⟩, ⟨#[]⟩, 2, bodyA, []⟩
def partB : PT := ⟨⟨#[105, 109, 97, 103, 101, 47, 112, 110, 103]⟩, ⟨#[]⟩, ⟨#[120]⟩, ⟨#[99]⟩, 1, [1, 2, 3], []⟩
def smallT : PT := ⟨⟨#[109, 117, 108, 116, 105, 112, 97, 114, 116, 47, 114, 101, 108, 97, 116, 101, 100]⟩, ⟨#[]⟩, ⟨#[]⟩, ⟨#[104, 116, 116, 112, 58, 47, 47, 104, 47, 97, 47, 98]⟩, 0, [], [partA, partB]⟩
theorem BRow_lit (w : World) (L : List UInt8) (C : Array Value) (hC : C = (bv L).toArray) (t : TypeId) (fr : Nat × Nat) (b : Nat) (hb : b = w.heap.size) : BRow (w.alloc (.cells C t fr)) (some ⟨b, 0, none⟩) L := by
 subst hC hb
 intro _
 refine ⟨w.heap.size, 0, rfl, fun i hi => ?_⟩
 rw [Nat.zero_add, World.cell?_alloc_mark w _ t fr i]
 simp [bv, List.getD_eq_getElem?_getD, List.getElem?_eq_getElem hi]
theorem cell_lits (w : World) (c : List Value) (t : TypeId) (b j k : Nat) (x : Value) (hb : b = w.heap.size) (hk : k = j) (h : c[j]? = some x) : (w.alloc (.cells c.toArray t)).cell? ⟨b, k, none⟩ = some x := by
 subst hk
 have := cell_seven w c t b hb k x h
 rwa [Addr.add_lit, Nat.zero_add] at this
theorem lens (p : PT) (h : (decide (p.ty.size ≤ 1000000) && decide (p.cs.size ≤ 1000000) && decide (p.id.size ≤ 1000000) && decide (p.loc.size ≤ 1000000) && decide (-1000 ≤ p.how) && decide (p.how ≤ 1000) && decide (p.body.length ≤ 1000000) && decide (p.kids.length ≤ 1000000)) = true) : PLen p := by
 simp only [Bool.and_eq_true, decide_eq_true_eq] at h
 obtain ⟨⟨⟨⟨⟨⟨⟨a, b⟩, c⟩, d⟩, e⟩, f⟩, g⟩, k⟩ := h
 unfold PLen maxLen
 omega
theorem kc_at (w : World) (X : Obj) (C : Array Value) (n c : Nat) : (convert 22 22 (.slice (some ⟨w.heap.size + 1, 0, none⟩) n c)).run Tryz.prog ((w.alloc X).alloc (.cells C 5)) = .ok (.slice (some ⟨w.heap.size + 1, 0, none⟩) n c) ((w.alloc X).alloc (.cells C 5 (C.size, C.size + 1))) := by
 have h := Lib.run_convert_bytes_const (P := Tryz.prog) (w.alloc X) 22 5 C n c Tryz.underlying22 Tryz.underlying5
 rw [World.size_alloc] at h
 exact h
set_option maxHeartbeats 1000000 in
set_option maxRecDepth 100000 in
theorem psmall_any (w : World) : Calls Tryz.prog 41 #[] w fun e w' => ∃ g, e = .returned (.agg #[.string smallT.ty, .string smallT.cs, .string smallT.id, .string smallT.loc, .int .i64 smallT.how, .slice none smallT.body.length 0, .slice (some ⟨g, 0, none⟩) smallT.kids.length 2]) ∧ PHeld w' 1 smallT none 0 (some ⟨g, 0, none⟩) 2 ∧ Below w.heap.size w w' := by
 have kc := fun (X : Obj) (C : Array Value) (n c : Nat) => kc_at w X C n c
 go_enter Tryz.func41, Tryz.ntmps41
 go_wp2
 (try simp only [Exit.inBlock, Exit.then])
 refine bodyPost_ret (v := .agg #[.string smallT.ty, .string smallT.cs, .string smallT.id, .string smallT.loc, .int .i64 smallT.how, .slice none smallT.body.length 0, .slice (some ⟨w.heap.size + 1 + 1 + 1, 0, none⟩) smallT.kids.length 2]) ?_ rfl ⟨_, rfl, ?_, ?_⟩
 ·refine results_cell_row rfl _ _ w.heap.size 25 _ (0, 0) _ rfl ?_ Tryz.underlying25 rfl (by kernel_rfl)
  exact (Below.heap_alloc _ _ _ (by simp; omega)).trans ((Below.heap_alloc _ _ _ (by simp; omega)).trans ((Below.heap_alloc _ _ _ (by simp)).trans (heap_alloc_new w _)))
 ·have hA := BRow_lit (w.alloc (.cells #[.string smallT.ty, .string smallT.cs, .string smallT.id, .string smallT.loc, .int .i64 smallT.how, .slice none 0 0, .slice (some ⟨w.heap.size + 1 + 1 + 1, 0, none⟩) 2 2] 25)) bodyA _ rfl 5 (38, 39) (w.heap.size + 1) (by simp)
  have hB := BRow_lit ((w.alloc (.cells #[.string smallT.ty, .string smallT.cs, .string smallT.id, .string smallT.loc, .int .i64 smallT.how, .slice none 0 0, .slice (some ⟨w.heap.size + 1 + 1 + 1, 0, none⟩) 2 2] 25)).alloc (.cells (bv bodyA).toArray 5 (38, 39))) [1, 2, 3] _ rfl 5 (0, 0) (w.heap.size + 1 + 1) (by simp)
  refine ⟨lens _ (by decide), ⟨by decide, by decide, fun _ => rfl⟩, fun h => absurd rfl h, ⟨by decide, by decide, fun h => by cases h⟩, KAt.mk fun i hi => ?_⟩
  have hi2 : i < 2 := hi
  match i, hi2 with
  | 0, _ =>
   refine ⟨some ⟨w.heap.size + 1, 0, none⟩, 38, none, 0, ⟨?_, ?_, ?_, ?_, ?_, ?_, ?_⟩, lens _ (by decide), ⟨by decide, by decide, fun h => by cases h⟩, ?_, ⟨by decide, by decide, fun _ => rfl⟩, rfl⟩
   ·exact cell_lits _ _ _ _ 0 _ _ (by simp) rfl rfl
   ·exact cell_lits _ _ _ _ 1 _ _ (by simp) rfl rfl
   ·exact cell_lits _ _ _ _ 2 _ _ (by simp) rfl rfl
   ·exact cell_lits _ _ _ _ 3 _ _ (by simp) rfl rfl
   ·exact cell_lits _ _ _ _ 4 _ _ (by simp) rfl rfl
   ·exact cell_lits _ _ _ _ 5 _ _ (by simp) rfl rfl
   ·exact cell_lits _ _ _ _ 6 _ _ (by simp) rfl rfl
   ·exact hA.under (((Below.refl _ _).alloc (Nat.le_refl _) _).alloc (by simp) _)
  | 1, _ =>
   refine ⟨some ⟨w.heap.size + 1 + 1, 0, none⟩, 3, none, 0, ⟨?_, ?_, ?_, ?_, ?_, ?_, ?_⟩, lens _ (by decide), ⟨by decide, by decide, fun h => by cases h⟩, ?_, ⟨by decide, by decide, fun _ => rfl⟩, rfl⟩
   ·exact cell_lits _ _ _ _ 7 _ _ (by simp) rfl rfl
   ·exact cell_lits _ _ _ _ 8 _ _ (by simp) rfl rfl
   ·exact cell_lits _ _ _ _ 9 _ _ (by simp) rfl rfl
   ·exact cell_lits _ _ _ _ 10 _ _ (by simp) rfl rfl
   ·exact cell_lits _ _ _ _ 11 _ _ (by simp) rfl rfl
   ·exact cell_lits _ _ _ _ 12 _ _ (by simp) rfl rfl
   ·exact cell_lits _ _ _ _ 13 _ _ (by simp) rfl rfl
   ·exact hB.under ((Below.refl _ _).alloc (Nat.le_refl _) _)
 ·exact ((((Below.refl _ w).alloc (Nat.le_refl _) _).alloc (by simp) _).alloc (by simp; omega) _).alloc (by simp; omega) _
end Go.Proofs.YtlndhdimamnnlaaGreatDoor



namespace Go.Proofs.YtlndhdimamnnlaaGreatDoor
open Go.RowKit
theorem small_places : (placesP smallT).1 = 0 := by kernel_rfl
theorem small_good : goodP 3 smallT ∧ nodesP 3 smallT ≤ 12 := good_places small_places
theorem kid_len {p : PT} (h : goodP 2 p) (hm : manyS p.ty.data.toList = false) (n : Nat) (he : (encP p).length ≤ n) : (textP 2 p).length ≤ 3738 + n := by
 rw [goodP] at h
 have h1 := head_len (chkA_facts h.1).1 brTok_nil
 rw [textP, hm, if_neg (by decide), List.length_append]
 omega
theorem small_len : (textP 3 smallT).length ≤ 40000 := by
 obtain ⟨g1, g2⟩ := small_good
 rw [goodP] at g1
 have a1 := (chkA_facts g1.1).1
 have hA := kid_len (g1.2 partA (by simp [smallT])) (by kernel_rfl) 120 (by show (encQ bodyA).length ≤ 120; have := enc_length bodyA; have h2 : bodyA.length = 38 := rfl; omega)
 have hB := kid_len (g1.2 partB (by simp [smallT])) (by kernel_rfl) 20 (by show (encode [1, 2, 3]).length ≤ 20; have := encode_length [1, 2, 3]; have h2 : ([1, 2, 3] : List UInt8).length = 3 := rfl; omega)
 have hk : smallT.kids.map (textP 2) = [textP 2 partA, textP 2 partB] := rfl
 obtain ⟨l1, l2⟩ := least_range [textP 2 partA, textP 2 partB]
 simp only [List.map_cons, List.map_nil, List.sum_cons, List.sum_nil] at l2
 obtain ⟨b1, b2, b3⟩ := brd_tok (leastP [textP 2 partA, textP 2 partB]) l1 (by omega)
 have h1 := head_len a1 b1
 rw [textP, if_pos (by kernel_rfl), hk]
 unfold brT
 simp only [List.length_append, lastT, dd, crlf2, pieceT, List.flatMap_cons, List.flatMap_nil, List.length_cons, List.length_nil] at h1 ⊢
 omega
theorem small_write : writeM smallT = (0, textP 3 smallT) := by
 have := small_len
 unfold writeM
 rw [if_neg (by rw [small_places]; simp), if_neg (by omega)]
theorem small_read : readM (textP 3 smallT) = (0, smallT) := by
 have h := read_write (p := smallT) (by rw [small_write])
 rw [small_write] at h
 exact h
def splitX : List UInt8 := [120, 10, 45, 45, 98, 10, 121, 13, 10, 45, 45, 98, 32, 10, 10, 45, 45, 98, 45, 45, 10, 122]
theorem split_small : splitS splitX [98] = ([[121], []], 0) := by kernel_rfl
def MEnv (w0 : World) : Prop := Env w0 ∧ TEnv w0
theorem MEnv.below {w0 w : World} (h : MEnv w0) (hb : Below w0.heap.size w0 w) : MEnv w := ⟨fun w' hb' => h.1 w' (hb.trans (hb'.mono hb.size)), h.2.below hb⟩
theorem blkM_c {W : World} {k : Nat} {c : Array Value} {t : TypeId} (h : W.heap[k]? = some (.cells c t)) (i : Nat) : W.cell? ⟨k, i, none⟩ = c[i]? := by
 simp [World.cell?, h]
theorem blkM_on {W W' : World} {k : Nat} {o : Obj} (h : W.heap[k]? = some o) (hb : Below W.heap.size W W') : W'.heap[k]? = some o := by
 rw [hb.block _ (Array.getElem?_eq_some_iff.1 h).1]; exact h
theorem blkM_new (W : World) (o : Obj) : (W.alloc o).heap[W.heap.size]? = some o := by
 show (W.heap.push _)[W.heap.size]? = _
 simp
theorem two_pieces {w : World} {B : Nat} {v : Value} {Y : List SY} (hY : Y.map (·.1) = [[121], []]) (ho : w.ownsRow B 22 1 v 2 (syv Y)) (hs : SOwn w B Y) :
  ∃ g c p0 c0 p1 c1, v = .slice (some ⟨g, 0, none⟩) 2 c ∧ 2 ≤ c ∧ c ≤ maxLen ∧ g < w.heap.size ∧ w.cell? ⟨g, 0, none⟩ = some (.slice p0 1 c0) ∧ w.cell? ⟨g, 1, none⟩ = some (.slice p1 0 c1) ∧ BRow w p0 [121] ∧ (p0 = none → 1 = 0 ∧ c0 = 0) := by
 match Y, hY with
 | [y0, y1], hY =>
  simp at hY
  obtain ⟨e0, e1⟩ := hY
  have h0 := hs y0 (by simp)
  have ho' := ho
  rcases ho.2 with ⟨_, h⟩ | ⟨g, cap, cur, rfl, hg, hh, hnc, hcp, hcs, htake⟩
  ·cases h
  ·obtain ⟨p, c, e2, k1, k2, k3, k4⟩ := owned_row h0
   injection e2 with e3 e4 e5
   refine ⟨g, cap, y0.2.1, y0.2.2, y1.2.1, y1.2.2, rfl, hnc, hcp, (Array.getElem?_eq_some_iff.1 hh).1, ?_, ?_, ?_, ?_⟩
   ·rw [ho'.cellAt 0 (by omega)]
    simp [syv, e0]
   ·rw [ho'.cellAt 1 (by omega)]
    simp [syv, e1]
   ·rw [e3, ← e0]; exact k4
   ·intro h
    rw [e3] at h
    have := k3 h
    rw [e0] at this
    rw [e5]
    exact this
set_option maxHeartbeats 8000000 in
set_option maxRecDepth 100000 in
theorem bundled_any (w : World) (hE : MEnv w) : Calls Tryz.prog 10 #[] w fun e w' => e = .returned (.bool true) ∧ Below w.heap.size w w' := by
 have kc := fun (w : World) (C : Array Value) (n c : Nat) => Lib.run_convert_bytes_const (P := Tryz.prog) w 22 5 C n c Tryz.underlying22 Tryz.underlying5
 have HE : Hid (MEnv w) := hE
 have hRD := small_read
 have hWR := small_write
 have hLN := small_len
 generalize textP 3 smallT = L at *
 have HRD : Hid (readM L = (0, smallT)) := hRD
 have HWR : Hid (writeM smallT = (0, L)) := hWR
 clear hE hRD hWR
 go_enter Tryz.func10, Tryz.ntmps10
 go_wp2_with fail
 refine (psmall_any _).mono ?_
 rintro e w1 ⟨g1, rfl, hH1, hb1⟩
 have CW := write_mime smallT none 0 (some ⟨g1, 0, none⟩) 2 1 w1 (HE.out.below hb1).2 hH1
 rw [HWR.out] at CW
 have CW' : Hid (Calls Tryz.prog 5 #[.agg #[.string smallT.ty, .string smallT.cs, .string smallT.id, .string smallT.loc, .int .i64 smallT.how, .slice none smallT.body.length 0, .slice (some ⟨g1, 0, none⟩) smallT.kids.length 2]] w1 fun e w' => WritePost w1 (0, L) e w') := CW
 clear CW hH1
 go_wp2_with fail
 refine CW'.out.mono ?_
 rintro e w2 ⟨hb2, q, c, rfl, h1, h2, h3, hr⟩
 simp only at h1 hr
 clear CW'
 have hbe2 : Below w.heap.size w w2 := hb1.trans (hb2.mono hb1.size)
 have CR := mReadM_any q L.length c L rfl w2 (HE.out.below hbe2).1 h1 h2 (fun h => by have := h3 h; omega) hr
 rw [HRD.out] at CR
 have CR' : Hid (Calls Tryz.prog 7 #[.slice q L.length c] w2 fun e w' => ReadMPost w2 (0, smallT) e w') := CR
 clear CR hb1 hb2 hr h1 h2 h3
 go_wp2_with fail
 refine CR'.out.mono ?_
 rintro e w3 ⟨hb3, hok, -⟩
 obtain ⟨pb, cb, pk, ck, rfl, hF⟩ := hok rfl
 have hbe3 : Below w.heap.size w w3 := hbe2.trans (hb3.mono hbe2.size)
 have HP3 : Hid (PHeld w3 3 smallT pb cb pk ck) := hF.held
 clear CR' hok hF hb3 hbe2
 simp only
 have kc4 := fun (X : Obj) (C : Array Value) (n c : Nat) => kc_at w3 X C n c
 clear kc
 obtain ⟨W5, hW5⟩ : ∃ W, W = (w3.alloc (.cells #[Value.string smallT.ty, .string smallT.cs, .string smallT.id, .string smallT.loc, .int .i64 smallT.how, .slice pb smallT.body.length cb, .slice pk smallT.kids.length ck] 25)).alloc (.cells (bv splitX).toArray 5 (22, 23)) := ⟨_, rfl⟩
 have hb5 : Below w3.heap.size w3 W5 := by rw [hW5]; exact ((Below.refl _ _).alloc (Nat.le_refl _) _).alloc (by simp) _
 have hk5 : W5.heap[w3.heap.size]? = some (.cells #[Value.string smallT.ty, .string smallT.cs, .string smallT.id, .string smallT.loc, .int .i64 smallT.how, .slice pb smallT.body.length cb, .slice pk smallT.kids.length ck] 25) := by rw [hW5]; exact blkM_on (blkM_new _ _) ((Below.refl _ _).alloc (Nat.le_refl _) _)
 have hr5 : BRow W5 (some ⟨w3.heap.size + 1, 0, none⟩) splitX := by rw [hW5]; exact BRow_lit _ splitX _ rfl _ _ _ (by simp)
 have CS := split_any (some ⟨w3.heap.size + 1, 0, none⟩) 22 22 splitX rfl ⟨#[98]⟩ W5 (Nat.le_refl _) hr5
 rw [show (ByteArray.mk #[98]).data.toList = [98] from rfl, split_small] at CS
 have CS' : Hid (Calls Tryz.prog 6 #[.slice (some ⟨w3.heap.size + 1, 0, none⟩) 22 22, .string ⟨#[98]⟩] W5 fun e w' => SplitPost W5 ([[121], []], 0) e w') := CS
 clear CS hr5
 go_wp2_with fail
 have hW5' : (w3.alloc (.cells #[Value.string smallT.ty, .string smallT.cs, .string smallT.id, .string smallT.loc, .int .i64 smallT.how, .slice pb smallT.body.length cb, .slice pk smallT.kids.length ck] 25)).alloc (.cells (bv splitX).toArray 5 (22, 23)) = W5 := hW5.symm
 show Calls _ _ _ ((w3.alloc (.cells #[Value.string smallT.ty, .string smallT.cs, .string smallT.id, .string smallT.loc, .int .i64 smallT.how, .slice pb smallT.body.length cb, .slice pk smallT.kids.length ck] 25)).alloc (.cells (bv splitX).toArray 5 (22, 23))) _
 rw [hW5']
 clear hW5 hW5' kc4
 refine CS'.out.mono ?_
 rintro e w6 ⟨hb6, v, rfl, -, hok⟩
 obtain ⟨Y, hY, hown, hso⟩ := hok rfl
 obtain ⟨g, cc, p0, c0, p1, c1, rfl, hc2, hcm, hgl, hcell0, hcell1, hbr0, hp0⟩ := two_pieces hY hown hso
 have hk6 := blkM_on hk5 hb6
 have hbe5 : Below w.heap.size w W5 := hbe3.trans (hb5.mono hbe3.size)
 have hbe6 : Below w.heap.size w w6 := hbe5.trans (hb6.mono hbe5.size)
 have HP6 : Hid (PHeld w6 3 smallT pb cb pk ck) := (HP3.out.below hb5).below hb6
 clear CS' hok hY hown hso hk5 hb6 hb5 hbe5 hbe3 HP3
 have hlt : w3.heap.size < w6.heap.size := (Array.getElem?_eq_some_iff.1 hk6).1
 have hb0 : Below w6.heap.size w6 w6 := Below.refl _ _
 have d0 : ∀ w', Below w6.heap.size w6 w' → w'.cell? ⟨w3.heap.size, 0, none⟩ = some (.string smallT.ty) := fun w' hb => (blkM_c (blkM_on hk6 hb) 0).trans rfl
 have d1 : ∀ w', Below w6.heap.size w6 w' → w'.cell? ⟨w3.heap.size, 1, none⟩ = some (.string smallT.cs) := fun w' hb => (blkM_c (blkM_on hk6 hb) 1).trans rfl
 have d2 : ∀ w', Below w6.heap.size w6 w' → w'.cell? ⟨w3.heap.size, 2, none⟩ = some (.string smallT.id) := fun w' hb => (blkM_c (blkM_on hk6 hb) 2).trans rfl
 have d3 : ∀ w', Below w6.heap.size w6 w' → w'.cell? ⟨w3.heap.size, 3, none⟩ = some (.string smallT.loc) := fun w' hb => (blkM_c (blkM_on hk6 hb) 3).trans rfl
 have d4 : ∀ w', Below w6.heap.size w6 w' → w'.cell? ⟨w3.heap.size, 4, none⟩ = some (.int .i64 smallT.how) := fun w' hb => (blkM_c (blkM_on hk6 hb) 4).trans rfl
 have d5 : ∀ w', Below w6.heap.size w6 w' → w'.cell? ⟨w3.heap.size, 5, none⟩ = some (.slice pb smallT.body.length cb) := fun w' hb => (blkM_c (blkM_on hk6 hb) 5).trans rfl
 have d6 : ∀ w', Below w6.heap.size w6 w' → w'.cell? ⟨w3.heap.size, 6, none⟩ = some (.slice pk smallT.kids.length ck) := fun w' hb => (blkM_c (blkM_on hk6 hb) 6).trans rfl
 have d7 : ∀ w', Below w6.heap.size w6 w' → w'.cell? ⟨g, 0, none⟩ = some (.slice p0 1 c0) := fun w' hb => (hb.cell (p := ⟨g, 0, none⟩) hgl).trans hcell0
 have d8 : ∀ w', Below w6.heap.size w6 w' → w'.cell? ⟨g, 1, none⟩ = some (.slice p1 0 c1) := fun w' hb => (hb.cell (p := ⟨g, 1, none⟩) hgl).trans hcell1
 have d9 : ∀ w', Below w6.heap.size w6 w' → (convert 22 9 (.slice p0 1 c0)).run Tryz.prog w' = .ok (.string ⟨#[121]⟩) w' := fun w' hb => conv_bytes w' p0 1 c0 [121] rfl (hbr0.under hb) hp0
 clear hcell0 hcell1 hbr0 hk6
 go_wp2_with fail
 go_region_held3 (fun w' => Below w6.heap.size w6 w') (first | assumption | exact hb0.drew) (first
  | (go_at_call 41; refine (psmall_any _).mono ?_; rintro e w7 ⟨g7, rfl, hH7, hb7⟩; have hbe7 : Below w6.heap.size w6 w7 := (hb0.drew).trans (hb7.mono (Nat.le_refl _)); have HH7 : Hid (PHeld w7 1 smallT none 0 (some ⟨g7, 0, none⟩) 2) := hH7; clear hb7 hH7)
  | (go_at_call 11; refine (rsame_any 3 smallT smallT pb none cb pk (some ⟨g7, 0, none⟩) ck 0 2 1 _ (HP6.out.below hbe7) HH7.out).mono ?_; rintro e w8 ⟨b8, rfl, hiff, hb8⟩; have hbt : b8 = true := hiff.2 rfl; subst hbt; have hbe8 : Below w6.heap.size w6 w8 := hbe7.trans (hb8.mono hbe7.size); clear hb8 hiff))
 go_wp2_with fail
 go_ret
 exact ⟨rfl, hbe6.trans (hbe8.mono hbe6.size)⟩
end Go.Proofs.YtlndhdimamnnlaaGreatDoor

