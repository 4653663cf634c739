
import Derived.Test.YtlndhdimamnnlaaGreatDoorXmimesays8
import Derived.Lib.SlBytesConst
namespace Go.Proofs.YtlndhdimamnnlaaGreatDoor
open Go.RowKit
def BAt (w : World) (b o : Nat) (L : List UInt8) : Prop := ∀ i, i < L.length → w.cell? ⟨b, o + i, none⟩ = some (.int .u8 ((L.getD i 0).toNat : Int))
theorem BAt.drop {w : World} {b o : Nat} {L : List UInt8} (h : BAt w b o L) (k : Nat) : BAt w b (o + k) (L.drop k) := fun i hi => by
 rw [List.length_drop] at hi
 have := h (k + i) (by omega)
 rw [← Nat.add_assoc] at this
 rw [this, List.getD_eq_getElem?_getD, List.getD_eq_getElem?_getD, List.getElem?_drop]
theorem BAt.take {w : World} {b o : Nat} {L : List UInt8} (h : BAt w b o L) (k : Nat) : BAt w b o (L.take k) := fun i hi => by
 rw [List.length_take] at hi
 rw [h i (by omega), List.getD_eq_getElem?_getD, List.getD_eq_getElem?_getD, List.getElem?_take, if_pos (by omega)]
theorem BAt.below {w w' : World} {b o : Nat} {L : List UInt8} (h : BAt w b o L) (hb : Below w.heap.size w w') : BAt w' b o L := fun i hi => (hb.cell (World.block_lt_of_cell? w _ (h i hi))).trans (h i hi)
theorem BAt.row {w : World} {b o : Nat} {L : List UInt8} (h : BAt w b o L) : BRow w (some ⟨b, o, none⟩) L := fun _ => ⟨b, o, rfl, fun i hi => by
 have := h i hi
 rw [this]⟩
set_option maxHeartbeats 2000000 in
set_option maxRecDepth 100000 in
theorem btrim_any (b o cap : Nat) (L : List UInt8) (w : World) (hs : L.length ≤ 1000000) (hcap : L.length ≤ cap) (hr : BAt w b o L) :
  Calls Tryz.prog 62 #[.slice (some ⟨b, o, none⟩) L.length cap, .string ⟨#[32, 9, 13, 10]⟩] w fun e w' => e = .returned (.slice (some ⟨b, o, none⟩) (bareL L).length cap) ∧ Below w.heap.size w w' := by
 rcases Nat.eq_zero_or_pos L.length with h0 | h0
 ·obtain rfl : L = [] := List.length_eq_zero_iff.1 h0
  clear h0 hr
  have e1 : (bareL []).length = 0 := rfl
  rw [e1]
  go_enter Tryz.func62, Tryz.ntmps62
  go_wp2
  go_ret
  exact ⟨rfl, Below.refl _ _⟩
 ·have HM := bmake_set ⟨#[32, 9, 13, 10]⟩ w (by decide) (fun j x hx => by
   have : x ∈ [(32 : UInt8), 9, 13, 10] := List.mem_of_getElem? hx
   simp at this
   rcases this with rfl | rfl | rfl | rfl <;> decide)
  have HS1 : Hid ((Lib.setCells (ByteArray.mk #[32, 9, 13, 10]).data.toList).size = 256) := Lib.setCells_size _
  have HS2 : Hid (∀ c : UInt8, (Lib.setCells (ByteArray.mk #[32, 9, 13, 10]).data.toList)[c.toNat]? = some (.bool (endC c))) := fun c => Lib.setCells_at _ c
  have HS3 : Hid ((Lib.setCells (ByteArray.mk #[32, 9, 13, 10]).data.toList).all (·.oneCell') = true) := Lib.setCells_one _
  generalize Lib.setCells (ByteArray.mk #[32, 9, 13, 10]).data.toList = SA at *
  have HMM : Hid (Calls Tryz.prog 110 #[.string ⟨#[32, 9, 13, 10]⟩] w _) := HM
  clear HM
  have CT : Hid (∀ w' g, Below w.heap.size w w' → (∀ c : UInt8, w'.cell? ⟨g, c.toNat, none⟩ = some (.bool (endC c))) → Calls Tryz.prog 111 #[.slice (some ⟨b, o, none⟩) L.length cap, .pointer (some ⟨g, 0, none⟩)] w' fun e w'' => e = .returned (.slice (some ⟨b, o, none⟩) (bareL L).length cap) ∧ w'' = w') := fun w' g hb hg => bright_set endC g b o cap L w' (by omega) hcap hg (hr.below hb)
  have hl0 : ((L.length : Int) == 0) = false := by rw [beq_eq_false_iff_ne]; omega
  generalize (bareL L).length = R at *
  clear hr
  go_enter Tryz.func62, Tryz.ntmps62
  go_wp2_with fail
  refine HMM.out.mono ?_
  rintro e w1 ⟨rfl, rfl⟩
  clear HMM
  have hA1 := HS1.out
  have hsc : (storeCells ⟨w.heap.size + 1, 0, none⟩ SA.toList 0).run Tryz.prog ((w.alloc (.cells SA 139)).alloc (.cells Tryz.zeroCells139 139)) = .ok () ((w.alloc (.cells SA 139)).alloc (.cells SA 139)) := by
   have := run_storeCells_new (P := Tryz.prog) (w.alloc (.cells SA 139)) 139 Tryz.zeroCells139 SA (by rw [hA1]; kernel_rfl) (by rw [hA1]; kernel_rfl) HS3.out
   simpa using this
  have HC : Hid (∀ c : UInt8, ((w.alloc (.cells SA 139)).alloc (.cells SA 139)).cell? ⟨w.heap.size + 1, c.toNat, none⟩ = some (.bool (endC c))) := fun c => by
   rw [World.cell?_alloc_at _ _ _ _ (by simp)]; exact HS2.out c
  have hb2 : Below w.heap.size w ((w.alloc (.cells SA 139)).alloc (.cells SA 139)) := ((Below.refl _ _).alloc (Nat.le_refl _) _).alloc (by simp) _
  go_wp2_with fail
  clear hsc
  generalize ((w.alloc (.cells SA 139)).alloc (.cells SA 139)) = w2 at *
  refine (CT.out w2 (w.heap.size + 1) hb2 HC.out).mono ?_
  rintro e w3 ⟨rfl, hw3⟩
  have hw3' := hw3.symm
  subst hw3'
  clear HC CT
  go_wp2
  go_ret
  exact ⟨rfl, hb2⟩
theorem mline_any (b o n c : Nat) (L : List UInt8) (en : n = L.length) (k : Nat) (hk : k < n) (hn : n ≤ 40000) (hc : n ≤ c) (w : World) (hr : BAt w b o L) :
  Calls Tryz.prog 25 #[.slice (some ⟨b, o, none⟩) n c, .int .i64 (k : Int)] w fun e w' => e = .returned (.int .i64 ((k + lineN (L.drop k) : Nat) : Int)) ∧ w' = w := by
 have CI := Tryz.bytes_IndexByte b (o + k) (n - k) (c - k) ((L.drop k).map fun x => ((x.toNat : Nat) : Int)) 10 w (by rw [List.length_map, List.length_drop, en]) (fun i hi => by
  have := (hr.drop k) i (by rw [List.length_drop, ← en]; exact hi)
  rw [this]
  have hl : i < (L.drop k).length := by rw [List.length_drop, ← en]; exact hi
  simp only [List.getD_eq_getElem?_getD, List.getElem?_map, List.getElem?_eq_getElem hl, Option.map_some, Option.getD_some])
 rw [bytes_same] at CI
 have hi1 := lineN_index (L.drop k)
 have hi2 := index_ge (L.drop k)
 have hi3 := lineN_le (L.drop k)
 rw [List.length_drop, ← en] at hi1 hi3
 have e10 : (10 : Int).toNat.toUInt8 = (10 : UInt8) := rfl
 rw [e10] at CI
 generalize Lib.indexByte (L.drop k) 10 = I at *
 generalize lineN (L.drop k) = M at *
 have CI' : Hid (Calls Tryz.prog 61 #[.slice (some ⟨b, o + k, none⟩) (n - k) (c - k), .int .u8 10] w fun e w' => e = .returned (.int .i64 I) ∧ w' = w) := CI
 clear CI hr en e10
 have hkc : ¬ k = c := by omega
 by_cases hI : I < 0
 ·rw [if_pos hI] at hi1
  have HM : Hid (k + M = n) := by unfold Hid; omega
  clear hi1 hi2 hi3
  go_enter Tryz.func25, Tryz.ntmps25
  go_wp2_with fail
  refine CI'.out.mono ?_
  rintro e w1 ⟨rfl, rfl⟩
  clear CI'
  go_wp2_with fail
  go_ret
  exact ⟨by rw [HM.out]; rfl, rfl⟩
 ·rw [if_neg hI] at hi1
  obtain ⟨J, rfl⟩ : ∃ J : Nat, I = (J : Int) := ⟨I.toNat, by omega⟩
  have HM : Hid (M = J + 1) := by unfold Hid; omega
  have hJ : J < 40000 := by omega
  clear hi1 hi2 hi3
  go_enter Tryz.func25, Tryz.ntmps25
  go_wp2_with fail
  refine CI'.out.mono ?_
  rintro e w1 ⟨rfl, rfl⟩
  clear CI'
  go_wp2_with fail
  go_ret
  refine ⟨?_, rfl⟩
  have e : ((k + M : Nat) : Int) = (k : Int) + (J : Int) + 1 := by rw [HM.out]; omega
  rw [e]
  rfl
theorem bareL_take (L : List UInt8) : bareL L = L.take (bareL L).length := by
 have h : bareL L <+: L := by
  have := List.reverse_prefix.2 (List.dropWhile_suffix endC (l := L.reverse))
  rw [List.reverse_reverse] at this
  exact this
 exact (List.prefix_iff_eq_take.1 h)
set_option maxHeartbeats 2000000 in
set_option maxRecDepth 100000 in
theorem border_any (b o n cap : Nat) (L : List UInt8) (en : n = L.length) (B : ByteArray) (w : World) (hs : n ≤ 1000000) (hcap : n ≤ cap) (hB : B.size ≤ 1000) (hr : BAt w b o L) :
  Calls Tryz.prog 26 #[.slice (some ⟨b, o, none⟩) n cap, .string B] w fun e w' => e = .returned (.tuple #[.bool (decide (bareL L = dd ++ B.data.toList)), .bool (decide (bareL L = dd ++ B.data.toList ++ dd))]) ∧ Below w.heap.size w w' := by
 have CT : Hid (Calls Tryz.prog 62 #[.slice (some ⟨b, o, none⟩) n cap, .string ⟨#[32, 9, 13, 10]⟩] w fun e w' => e = .returned (.slice (some ⟨b, o, none⟩) (bareL L).length cap) ∧ Below w.heap.size w w') := by
  subst en
  exact btrim_any b o cap L w hs hcap hr
 have hcv : Hid (∀ w', Below w.heap.size w w' → (convert 22 9 (.slice (some ⟨b, o, none⟩) (bareL L).length cap)).run Tryz.prog w' = .ok (.string ⟨(bareL L).toArray⟩) w') := fun w' hb => by
  refine conv_bytes w' _ _ cap (bareL L) rfl ?_ (fun h => by cases h)
  have h1 := ((hr.below hb).take (bareL L).length).row
  rw [← bareL_take L] at h1
  exact h1
 obtain ⟨T, hT⟩ : ∃ T : ByteArray, (⟨(bareL L).toArray⟩ : ByteArray) = T := ⟨_, rfl⟩
 have HT : Hid (bareL L = T.data.toList) := by unfold Hid; rw [← hT]
 rw [hT] at hcv
 generalize (bareL L).length = R at *
 rw [HT.out]
 clear hT hr en HT
 go_enter Tryz.func26, Tryz.ntmps26
 go_wp2_with fail
 refine CT.out.mono ?_
 rintro e w1 ⟨rfl, hb1⟩
 clear CT
 have hcv1 := hcv.out w1 hb1
 clear hcv
 go_wp2_with fail
 go_ret2
 refine ⟨?_, hb1⟩
 show Ending.returned (.tuple #[.bool (T.toList == (ByteArray.mk #[45, 45] ++ B).toList), .bool (T.toList == (ByteArray.mk #[45, 45] ++ B ++ ByteArray.mk #[45, 45]).toList)]) = _
 rw [str_beq, str_beq]
 simp [dd]
 exact ⟨decide_eq_decide.2 Iff.rfl, decide_eq_decide.2 Iff.rfl⟩
theorem suffix_one (d : UInt8) (L : List UInt8) : Lib.hasSuffix L [d] = true ↔ L.getLast? = some d := by
 unfold Lib.hasSuffix
 rw [List.isSuffixOf_iff_suffix]
 constructor
 ·rintro ⟨t, rfl⟩
  simp
 ·intro h
  refine ⟨L.dropLast, ?_⟩
  have hne : L ≠ [] := fun e => by rw [e] at h; cases h
  have h2 : L.getLast hne = d := by rw [List.getLast?_eq_some_getLast hne] at h; exact Option.some.inj h
  rw [← h2]
  exact List.dropLast_concat_getLast hne
theorem tsuf_any (b o n cap : Nat) (L : List UInt8) (en : n = L.length) (d : UInt8) (g : Nat) (w : World) (hs : n ≤ 1000000) (hcap : n ≤ cap) (hr : BAt w b o L) (hg : w.cell? ⟨g, 0, none⟩ = some (.int .u8 (d.toNat : Int))) :
  Calls Tryz.prog 63 #[.slice (some ⟨b, o, none⟩) n cap, .slice (some ⟨g, 0, none⟩) 1 1] w fun e w' => e = .returned (.slice (some ⟨b, o, none⟩) (noEnd d L).length cap) ∧ w' = w := by
 subst en
 refine (Tryz.bytes_TrimSuffix_all (some ⟨b, o, none⟩) (some ⟨g, 0, none⟩) L.length cap 1 1 (L.map fun x => ((x.toNat : Nat) : Int)) [((d.toNat : Nat) : Int)] w (by simp) rfl hcap (by omega) ?_ ?_).mono ?_
 ·intro _
  refine ⟨b, o, rfl, fun i hi => ?_⟩
  rw [hr i hi]
  simp only [List.getD_eq_getElem?_getD, List.getElem?_map, List.getElem?_eq_getElem hi, Option.map_some, Option.getD_some]
 ·intro _
  refine ⟨g, 0, rfl, fun i hi => ?_⟩
  obtain rfl : i = 0 := by omega
  exact hg
 ·rintro e w' ⟨rfl, rfl⟩
  refine ⟨?_, rfl⟩
  congr 1
  have e1 : Lib.bytesOf [((d.toNat : Nat) : Int)] = [d] := bytes_same [d]
  show Lib.bytesTrimSuffix b o L.length cap _ _ = _
  unfold Lib.bytesTrimSuffix Lib.sliceTo
  rw [e1, bytes_same]
  by_cases h : L.getLast? = some d
  ·rw [if_pos ((suffix_one d L).2 h)]
   unfold noEnd
   rw [if_pos h, List.length_dropLast]
   rfl
  ·rw [if_neg (fun e => h ((suffix_one d L).1 e))]
   unfold noEnd
   rw [if_neg h]
theorem noEnd_take (d : UInt8) (L : List UInt8) : noEnd d L = L.take (noEnd d L).length := by
 unfold noEnd
 split
 ·rw [List.length_dropLast, List.dropLast_eq_take]
 ·rw [List.take_length]
theorem noEnd_le (d : UInt8) (L : List UInt8) : (noEnd d L).length ≤ L.length := by
 unfold noEnd
 split
 ·rw [List.length_dropLast]; omega
 ·exact Nat.le_refl _
set_option maxHeartbeats 2000000 in
set_option maxRecDepth 100000 in
theorem strip_any (b o n cap : Nat) (L : List UInt8) (en : n = L.length) (w : World) (hs : n ≤ 1000000) (hcap : n ≤ cap) (hr : BAt w b o L) :
  Calls Tryz.prog 28 #[.slice (some ⟨b, o, none⟩) n cap] w fun e w' => e = .returned (.slice (some ⟨b, o, none⟩) (stripE L).length cap) ∧ Below w.heap.size w w' := by
 have h10 := noEnd_le 10 L
 have C1 : Hid (∀ w' g, Below w.heap.size w w' → w'.cell? ⟨g, 0, none⟩ = some (.int .u8 10) → Calls Tryz.prog 63 #[.slice (some ⟨b, o, none⟩) n cap, .slice (some ⟨g, 0, none⟩) 1 1] w' fun e w'' => e = .returned (.slice (some ⟨b, o, none⟩) (noEnd 10 L).length cap) ∧ w'' = w') :=
  fun w' g hb hg => tsuf_any b o n cap L en 10 g w' hs hcap (hr.below hb) hg
 have C2 : Hid (∀ w' g, Below w.heap.size w w' → w'.cell? ⟨g, 0, none⟩ = some (.int .u8 13) → Calls Tryz.prog 63 #[.slice (some ⟨b, o, none⟩) (noEnd 10 L).length cap, .slice (some ⟨g, 0, none⟩) 1 1] w' fun e w'' => e = .returned (.slice (some ⟨b, o, none⟩) (stripE L).length cap) ∧ w'' = w') :=
  fun w' g hb hg => tsuf_any b o _ cap (noEnd 10 L) rfl 13 g w' (by omega) (by omega) (by
   have h1 := (hr.below hb).take (noEnd 10 L).length
   rw [← noEnd_take 10 L] at h1
   exact h1) hg
 clear hr
 generalize (stripE L).length = R at *
 generalize (noEnd 10 L).length = M at *
 have kc := fun (w : World) (C : Array Value) (n c : Nat) => Lib.run_convert_bytes_const (P := Tryz.prog) w 22 5 C n c Tryz.underlying22 Tryz.underlying5
 clear en h10
 go_enter Tryz.func28, Tryz.ntmps28
 go_wp2_with fail
 refine (C1.out (w.alloc (.cells #[.int .u8 10] 5 (1, 2))) w.heap.size ((Below.refl _ _).alloc (Nat.le_refl _) _) ((cell_of_row _ w.heap.size 0 #[.int .u8 10] 5 (1, 2) (heap_alloc_new w _)).trans rfl)).mono ?_
 rintro e w1 ⟨rfl, rfl⟩
 clear C1
 have kc2 := kc (w.alloc (.cells #[.int .u8 10] 5 (1, 2))) #[.int .u8 13] 1 1
 simp only [World.size_alloc] at kc2
 go_wp2_with fail
 refine (C2.out ((w.alloc (.cells #[.int .u8 10] 5 (1, 2))).alloc (.cells #[.int .u8 13] 5 (1, 2))) (w.heap.size + 1) (((Below.refl _ _).alloc (Nat.le_refl _) _).alloc (by simp) _) ((cell_of_row _ (w.heap.size + 1) 0 #[.int .u8 13] 5 (1, 2) (by have := heap_alloc_new (w.alloc (.cells #[.int .u8 10] 5 (1, 2))) (.cells #[.int .u8 13] 5 (1, 2)); simpa using this)).trans rfl)).mono ?_
 rintro e w1 ⟨rfl, rfl⟩
 clear C2
 go_wp2_with fail
 go_ret
 exact ⟨rfl, ((Below.refl _ _).alloc (Nat.le_refl _) _).alloc (by simp) _⟩
end Go.Proofs.YtlndhdimamnnlaaGreatDoor

