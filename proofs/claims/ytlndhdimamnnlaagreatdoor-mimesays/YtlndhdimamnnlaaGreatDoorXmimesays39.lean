
import Derived.Test.YtlndhdimamnnlaaGreatDoorXmimesays38
namespace Go.Proofs.YtlndhdimamnnlaaGreatDoor
open Go.RowKit
theorem sum_ge (f : Nat) : ∀ ks : List PT, (∀ k ∈ ks, goodP f k) → ks.length ≤ (ks.map (nodesP f)).sum
 | [], _ => Nat.zero_le _
 | k :: ks, h => by
  have h1 := sum_ge f ks (fun x hx => h x (by simp [hx]))
  have h2 : 1 ≤ nodesP f k := by
   have := h k (by simp)
   cases f with
   | zero => rw [goodP] at this; exact absurd this id
   | succ f => rw [nodesP]; omega
  rw [List.length_cons, List.map_cons, List.sum_cons]
  omega
theorem text_any : ∀ (f F b o : Nat) (p : PT) (w : World), TEnv w → PAt w F b o p → goodP f p → nodesP f p ≤ 12 →
  Calls Tryz.prog 24 #[.pointer (some ⟨b, o, none⟩)] w fun e w' => e = .returned (.string (ba (textP f p))) ∧ Below w.heap.size w w'
 | 0, _, _, _, _, _, _, _, h, _ => absurd h (by rw [goodP]; exact id)
 | f + 1, F, b, o, p, w, hE, hP, hg, hn => by
  rw [goodP] at hg
  rw [nodesP] at hn
  obtain ⟨a1, a2, a3, a4, a5⟩ := chkA_facts hg.1
  rw [textP]
  cases hm : manyS p.ty.data.toList with
  | false =>
   rw [if_neg (by decide)]
   exact text_one b o F p w hE hP hg.1 hm
  | true =>
   rw [if_pos rfl]
   obtain ⟨m1, m2, m3, m4⟩ := formed_many a5 hm
   have hk : ∀ k ∈ p.kids, (textP f k).length + 100 ≤ 20000 * nodesP f k := fun k hk => text_len f k (hg.2 k hk) (by have := sum_mem f p.kids k hk; omega)
   obtain ⟨s1, s2⟩ := sum_le (textP f) (nodesP f) p.kids hk
   obtain ⟨l1, l2⟩ := least_range (p.kids.map (textP f))
   obtain ⟨b1, b2, b3⟩ := brd_tok (leastP (p.kids.map (textP f))) l1 (by omega)
   have hlen := sum_ge f p.kids hg.2
   have hP2 := hP
   obtain ⟨pb, cb, pk, ck, hC, hH⟩ := hP
   obtain ⟨F', rfl⟩ : ∃ F', F = F' + 1 := by
    cases F with
    | zero => exact absurd hH.2.2.2.2 m1
    | succ F' => exact ⟨F', rfl⟩
   obtain ⟨bk, ok, rfl, hkids⟩ := KAt.each hH.2.2.2.2 m1
   have hts : ∀ k ∈ p.kids, (textP f k).length ≤ 240000 := fun k hkk => by
    have h1 := hk k hkk
    have h2 := sum_mem f p.kids k hkk
    omega
   have hmap : ((p.kids.map fun k => ba (textP f k)).map fun t => t.data.toList) = p.kids.map (textP f) := by
    rw [List.map_map]
    rfl
   have hget : ∀ i, i < p.kids.length → (p.kids.map fun k => ba (textP f k)).getD i ⟨#[]⟩ = ba (textP f (p.kids.getD i pt0)) := fun i hi => by
    simp [List.getD_eq_getElem?_getD, List.getElem?_eq_getElem hi]
   have hmem : ∀ i, i < p.kids.length → p.kids.getD i pt0 ∈ p.kids := fun i hi => by
    rw [List.getD_eq_getElem?_getD, List.getElem?_eq_getElem hi]
    exact List.getElem_mem hi
   refine text_many b o p.kids.length bk ok ck p.ty (p.kids.map fun k => ba (textP f k)) (ba (brT (p.kids.map (textP f)))) (ba (headP p (brT (p.kids.map (textP f))))) _ (leastP (p.kids.map (textP f))) w (by omega) (by have := List.length_pos_iff.2 m1; omega) hH.2.2.2.1.1 ?_ hP2.lt ?_ ?_ hC.1 hC.2.2.2.2.2.2 ?_ ?_ ?_ ?_ ?_ ?_ ?_ ?_
   ·unfold Hid; simp
   ·rw [ba_size]; exact head_len a1 b1
   ·intro t ht
    obtain ⟨k, hk1, rfl⟩ := List.mem_map.1 ht
    rw [ba_size]; exact hts k hk1
   ·have := pmany_any p.ty w
    rw [hm] at this
    exact this
   ·intro W i hi hW
    rw [hget i hi]
    exact text_any f F' bk (ok + i * 7) (p.kids.getD i pt0) W (hE.below hW) ((hkids i hi).below hW) (hg.2 _ (hmem i hi)) (by have := sum_mem f p.kids _ (hmem i hi); omega)
   ·intro W q c hW hT
    obtain ⟨M, hM⟩ := (hE W hW).2.1
    have := least_any q p.kids.length c (p.kids.map fun k => ba (textP f k)) (by simp) W (by omega) (fun t ht => by obtain ⟨k, hk1, rfl⟩ := List.mem_map.1 ht; rw [ba_size]; have := hts k hk1; omega) hT M hM
    rw [hmap] at this
    exact this
   ·intro W hW
    refine (Tryz.strconv_Itoa (leastP (p.kids.map (textP f))) (by omega) (by omega) W (hE W hW).2.2).mono ?_
    rintro e w' ⟨rfl, k, os, rfl⟩
    exact ⟨rfl, Lib.below_grow _ W (Nat.le_refl _) k os⟩
   ·unfold Hid brT brd
    apply ByteArray.ext
    simp [ba]
   ·rw [ba_size]; exact b3
   ·intro W hW
    exact head_any b o (F' + 1) p (ba (brT (p.kids.map (textP f)))) W (hP2.below hW) (hE W hW).1 a2 a3 a1 b1
   ·unfold Hid
    rw [hmap]
    apply ByteArray.ext
    simp [ba, lastT, dd, crlf2]
theorem bytes_ofM (s : ByteArray) (w : World) (hs : s.size ≤ maxLen) : ∃ (W1 : World) (cap : Nat), (convert 9 22 (.string s)).run Tryz.prog w = .ok (.slice (some ⟨w.heap.size, 0, none⟩) s.size cap) W1 ∧ Below w.heap.size w W1 ∧ BRow W1 (some ⟨w.heap.size, 0, none⟩) s.data.toList ∧ s.size ≤ cap ∧ cap ≤ maxLen := by
 refine ⟨_, _, run_bytes_of_string (P := Tryz.prog) w 9 22 5 s Tryz.underlying9 Tryz.underlying22 Tryz.underlying5, ((Below.refl _ _).drew).alloc (Nat.le_refl _) _, fun _ => ⟨w.heap.size, 0, rfl, fun i hi => ?_⟩, grownCap_ge _ _ _ _, grownCap_le_maxLen _ _ _ _ hs⟩
 have hi' : i < s.data.size := by simpa using hi
 rw [Nat.zero_add]
 refine (World.cell?_alloc_mark w.drew _ _ _ i).trans ?_
 unfold bytesRow
 rw [Array.getElem?_append_left (by simpa using hi')]
 simp [List.getD_eq_getElem?_getD, Array.getElem?_eq_getElem hi']
def WritePost (w : World) (r : Nat × List UInt8) (e : Ending) (w' : World) : Prop := Below w.heap.size w w' ∧ ∃ q c, e = .returned (.tuple #[.slice q r.2.length c, .int .i64 (r.1 : Int)]) ∧ r.2.length ≤ c ∧ c ≤ maxLen ∧ (q = none → c = 0) ∧ BRow w' q r.2
set_option maxHeartbeats 2000000 in
set_option maxRecDepth 100000 in
theorem write_mime (p : PT) (pb : Option Addr) (cb : Nat) (pk : Option Addr) (ck F : Nat) (w : World) (hE : TEnv w) (hH : PHeld w F p pb cb pk ck) :
  Calls Tryz.prog 5 #[.agg #[.string p.ty, .string p.cs, .string p.id, .string p.loc, .int .i64 p.how, .slice pb p.body.length cb, .slice pk p.kids.length ck]] w fun e w' => WritePost w (writeM p) e w' := by
 have CC : Hid (∀ W, Below w.heap.size w W → Calls Tryz.prog 23 #[.agg #[.string p.ty, .string p.cs, .string p.id, .string p.loc, .int .i64 p.how, .slice pb p.body.length cb, .slice pk p.kids.length ck]] W fun e w' => e = .returned (.int .i64 ((placesP p).1 : Nat)) ∧ Below W.heap.size W w') := fun W hb => pcheck_any p pb cb pk ck F W (hH.below hb)
 obtain ⟨V, hV⟩ : ∃ V, V = #[Value.string p.ty, .string p.cs, .string p.id, .string p.loc, .int .i64 p.how, .slice pb p.body.length cb, .slice pk p.kids.length ck] := ⟨_, rfl⟩
 have hPA := boxed hH 25 V hV
 have hb1 : Below w.heap.size w (w.alloc (.cells V 25)) := (Below.refl _ _).alloc (Nat.le_refl _) _
 by_cases hbad : (placesP p).1 = 0
 ·obtain ⟨g1, g2⟩ := good_places hbad
  rw [hbad] at CC
  have CT : Hid (∀ W, Below (w.alloc (.cells V 25)).heap.size (w.alloc (.cells V 25)) W → Calls Tryz.prog 24 #[.pointer (some ⟨w.heap.size, 0, none⟩)] W fun e w' => e = .returned (.string (ba (textP 3 p))) ∧ Below W.heap.size W w') := fun W hW => text_any 3 F w.heap.size 0 p W (hE.below (hb1.trans (hW.mono (by simp)))) (hPA.below hW) g1 g2
  have hWM : writeM p = if 40000 < (textP 3 p).length then (2, []) else (0, textP 3 p) := by unfold writeM; rw [if_neg (by rw [hbad]; simp)]
  have htl := text_len 3 p g1 g2
  have hts : (ba (textP 3 p)).size ≤ 240000 := by rw [ba_size]; omega
  have HTS : Hid ((ba (textP 3 p)).size = (textP 3 p).length) := ba_size _
  rw [hWM]
  clear hE hH hbad g1 g2 htl hPA hWM
  by_cases hl : 40000 < (textP 3 p).length
  ·rw [if_pos hl]
   have hlz : (40000 : Int) < ((ba (textP 3 p)).size : Int) := by rw [HTS.out]; omega
   generalize ba (textP 3 p) = T at *
   clear HTS hl
   subst hV
   go_enter Tryz.func5, Tryz.ntmps5
   go_wp2_with fail
   refine (CC.out _ hb1).mono ?_
   rintro e w1 ⟨rfl, hb2⟩
   have hbe2 := hb1.trans (hb2.mono (by simp))
   go_wp2_with fail
   refine (CT.out _ hb2).mono ?_
   rintro e w3 ⟨rfl, hb3⟩
   have hbe3 : Below w.heap.size w w3 := hbe2.trans (hb3.mono hbe2.size)
   clear CC CT hb2 hb3 hbe2 hb1
   go_wp2_with fail
   go_ret2
   exact ⟨hbe3, none, 0, rfl, Nat.le_refl _, by decide, fun _ => rfl, fun h => absurd rfl h⟩
  ·rw [if_neg hl]
   have hlz : ¬ (40000 : Int) < ((ba (textP 3 p)).size : Int) := by rw [HTS.out]; omega
   generalize textP 3 p = L at *
   have hT4 : (ba L).size ≤ maxLen := by unfold maxLen; omega
   have HD : Hid ((ba L).data.toList = L) := ba_data L
   generalize ba L = T at *
   clear hl
   subst hV
   go_enter Tryz.func5, Tryz.ntmps5
   go_wp2_with fail
   refine (CC.out _ hb1).mono ?_
   rintro e w1 ⟨rfl, hb2⟩
   have hbe2 := hb1.trans (hb2.mono (by simp))
   go_wp2_with fail
   refine (CT.out _ hb2).mono ?_
   rintro e w3 ⟨rfl, hb3⟩
   have hbe3 : Below w.heap.size w w3 := hbe2.trans (hb3.mono hbe2.size)
   clear CC CT hb2 hb3 hbe2 hb1
   obtain ⟨W1, cap, hcv, hbW, hbr, hc1, hc2⟩ := bytes_ofM T w3 hT4
   go_wp2_with fail
   go_ret2
   refine ⟨hbe3.trans (hbW.mono hbe3.size), some ⟨w3.heap.size, 0, none⟩, cap, ?_, ?_, hc2, (fun h => by cases h), ?_⟩
   ·rw [← HTS.out]; rfl
   ·rw [← HTS.out]; exact hc1
   ·rw [HD.out] at hbr; exact hbr
 ·have hWM : writeM p = ((placesP p).1, []) := by unfold writeM; rw [if_pos hbad]
  rw [hWM]
  generalize (placesP p).1 = n at *
  have hz : ((n : Int) == 0) = false := by rw [beq_eq_false_iff_ne]; omega
  clear hPA hWM hE hH hbad
  subst hV
  go_enter Tryz.func5, Tryz.ntmps5
  go_wp2_with fail
  refine (CC.out _ hb1).mono ?_
  rintro e w1 ⟨rfl, hb2⟩
  have hbe2 : Below w.heap.size w w1 := hb1.trans (hb2.mono (by simp))
  clear CC hb2 hb1
  go_wp2_with fail
  go_ret2
  exact ⟨hbe2, none, 0, rfl, Nat.le_refl _, by decide, fun _ => rfl, fun h => absurd rfl h⟩
end Go.Proofs.YtlndhdimamnnlaaGreatDoor

