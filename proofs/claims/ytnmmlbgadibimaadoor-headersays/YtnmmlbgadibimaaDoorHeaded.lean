/- The law's closed fact 'headed' answers true; nothing that was there is changed. No condition. -/
import Derived.Test.YtnmmlbgadibimaaDoorHParse
import Derived.Test.YtnmmlbgadibimaaDoorHParams
import Derived.Test.YtnmmlbgadibimaaDoorHGet
import Derived.Test.YtnmmlbgadibimaaDoorHEqF
import Derived.Lib.SlBytesConst
namespace Go.Proofs.YtnmmlbgadibimaaDoor
open Go.RowKit

theorem parse_two : parseF [65, 58, 32, 98, 59, 10, 32, 99, 13, 10, 68, 58, 101, 10, 10, 102] = ([([65], [98, 59, 32, 99]), ([68], [101])], 15, 0) := by decide +kernel
theorem params_two : paramsF [84, 101, 120, 116, 47, 88, 32, 59, 32, 97, 61, 34, 98, 32, 99, 34, 59, 32, 68, 61, 101] = ([116, 101, 120, 116, 47, 120], [([97], [98, 32, 99]), ([100], [101])], 0) := by decide +kernel

theorem BRow_const (w : World) (L : List UInt8) (C : Array Value) (hC : C = (bv L).toArray) (t : TypeId) (fr : Nat × Nat) : BRow (w.alloc (.cells C t fr)) (some ⟨w.heap.size, 0, none⟩) L := by
  subst hC
  intro _
  refine ⟨w.heap.size, 0, rfl, fun i hi => ?_⟩
  rw [Nat.zero_add, World.cell?_alloc_mark w _ t fr i]
  simp [bv, List.getD_eq_getElem?_getD, List.getElem?_eq_getElem hi]

def fvOf (f : Fld) : FV := (ba f.1, ba f.2)
theorem of_fl {fs : List FV} {l : List Fld} (h : fs.map fl = l) : fs = l.map fvOf := by
  rw [← h, List.map_map]
  have : (fvOf ∘ fl) = id := by funext f; rfl
  rw [this, List.map_id]

theorem FRow_two (w : World) (a b c d : ByteArray) (t : TypeId) : FRow (w.alloc (.cells #[.string a, .string b, .string c, .string d] t)) (some ⟨w.heap.size, 0, none⟩) [(a, b), (c, d)] := by
  intro _
  refine ⟨w.heap.size, 0, rfl, fun i hi => ?_⟩
  rcases (by simpa using hi : i < 2) with hi
  match i, hi with
  | 0, _ => simp
  | 1, _ => simp

set_option maxHeartbeats 2000000 in
theorem headed_any (w : World) :
    Calls Tryd.prog 33 #[] w fun e w' => e = .returned (.bool true) ∧ Below w.heap.size w w' := by
  have kc := fun (w : World) (C : Array Value) (n c : Nat) => Lib.run_convert_bytes_const (P := Tryd.prog) w 22 5 C n c Tryd.underlying22 Tryd.underlying5
  go_enter Tryd.func33, Tryd.ntmps33
  go_wp2_with fail
  refine (hparse_any _ _ _ [65, 58, 32, 98, 59, 10, 32, 99, 13, 10, 68, 58, 101, 10, 10, 102] rfl _ (fun h => by cases h) (BRow_const w _ _ rfl _ _)).mono ?_
  rintro e w1 ⟨hb1, p, c, fs, rfl, hfs, hc1, hc2, hrow, hlen⟩
  rw [parse_two] at hfs ⊢
  have hfs' := of_fl hfs
  subst hfs'
  have hbw : Below w.heap.size w w1 := ((Below.refl w.heap.size w).alloc (Nat.le_refl _) _).trans (hb1.mono (by simp))
  clear hb1 hfs
  simp only [List.map_cons, List.map_nil, List.length_cons, List.length_nil, fvOf] at hrow hc1 hlen ⊢
  go_wp2_with fail
  refine (hparams_any [84, 101, 120, 116, 47, 88, 32, 59, 32, 97, 61, 34, 98, 32, 99, 34, 59, 32, 68, 61, 101] _ (by decide)).mono ?_
  rintro e w2 ⟨hb2, p2, c2, fs2, rfl, hfs2, hd1, hd2, hrow2, hlen2⟩
  rw [params_two] at hfs2 ⊢
  have hfs2' := of_fl hfs2
  subst hfs2'
  have hrow1 := hrow.below hb2
  have hbw2 := hbw.trans (hb2.mono hbw.size)
  clear hb2 hfs2 hbw hrow
  simp only [List.map_cons, List.map_nil, List.length_cons, List.length_nil, fvOf] at hrow2 hd1 hlen2 ⊢
  have HR1 : Hid (FRow w2 p [(ba [65], ba [98, 59, 32, 99]), (ba [68], ba [101])]) := hrow1
  have HR2 : Hid (FRow w2 p2 [(ba [97], ba [98, 32, 99]), (ba [100], ba [101])]) := hrow2
  clear hrow1 hrow2 hlen hlen2
  have hmain : (ba [116, 101, 120, 116, 47, 120]).toList = [116, 101, 120, 116, 47, 120] := by rw [ByteArray.toList_eq]; rfl
  go_wp2_with fail
  refine (feq_any _ _ _ _ _ _ [(ba [65], ba [98, 59, 32, 99]), (ba [68], ba [101])] [(ba [65], ba [98, 59, 32, 99]), (ba [68], ba [101])] rfl rfl _ (by decide) (HR1.out.below ((Below.refl _ _).alloc (Nat.le_refl _) _)) (FRow_two w2 _ _ _ _ _)).mono ?_
  rintro e w3 ⟨rfl, hb3⟩
  rw [show eqV [(ba [65], ba [98, 59, 32, 99]), (ba [68], ba [101])] [(ba [65], ba [98, 59, 32, 99]), (ba [68], ba [101])] = true from by decide]
  have hb23 : Below w2.heap.size w2 w3 := ((Below.refl _ _).alloc (Nat.le_refl _) _).trans (hb3.mono (by simp))
  clear hb3
  go_wp2_with fail
  refine (feq_any _ _ _ _ _ _ [(ba [97], ba [98, 32, 99]), (ba [100], ba [101])] [(ba [97], ba [98, 32, 99]), (ba [100], ba [101])] rfl rfl _ (by decide) ((HR2.out.below hb23).below ((Below.refl _ _).alloc (Nat.le_refl _) _)) (FRow_two w3 _ _ _ _ _)).mono ?_
  rintro e w4 ⟨rfl, hb4⟩
  rw [show eqV [(ba [97], ba [98, 32, 99]), (ba [100], ba [101])] [(ba [97], ba [98, 32, 99]), (ba [100], ba [101])] = true from by decide]
  have hb34 : Below w3.heap.size w3 w4 := ((Below.refl _ _).alloc (Nat.le_refl _) _).trans (hb4.mono (by simp))
  have hb24 := hb23.trans (hb34.mono hb23.size)
  clear hb4 hb34 hb23
  go_wp2_with fail
  refine (hget_any (fun s => Lib.equalFold s.data.toList [100]) ⟨#[100]⟩ _ _ _ [(ba [65], ba [98, 59, 32, 99]), (ba [68], ba [101])] rfl _ (by decide) (fun f hf w' _ => ?_) (HR1.out.below hb24)).mono ?_
  · refine fold_ascii f.1 ⟨#[100]⟩ ?_ ?_ ?_ w'
    · simp at hf; rcases hf with rfl | rfl <;> decide
    · simp at hf; rcases hf with rfl | rfl <;> decide
    · decide
  rintro e w5 ⟨rfl, hb5⟩
  rw [show getE (fun s => Lib.equalFold s.data.toList [100]) [(ba [65], ba [98, 59, 32, 99]), (ba [68], ba [101])] = ⟨#[101]⟩ from by decide]
  have hb25 := hb24.trans (hb5.mono hb24.size)
  clear hb5 hb24
  go_wp2
  go_ret
  exact ⟨rfl, hbw2.trans (hb25.mono hbw2.size)⟩
end Go.Proofs.YtnmmlbgadibimaaDoor
