
import Derived.Test.YtlndhdimamnnlaaGreatDoorXmimesays45
import Derived.Test.YtlndhdimamnnlaaGreatDoorXmimesays46
import Derived.Test.YtlndhdimamnnlaaGreatDoorXmimesays38
namespace Go.Proofs.YtlndhdimamnnlaaGreatDoor
open Go.RowKit
def hwB : Nat → ByteArray
 | 1 => ⟨#[98, 97, 115, 101, 54, 52, 13, 10, 13, 10]⟩
 | 2 => ⟨#[113, 117, 111, 116, 101, 100, 45, 112, 114, 105, 110, 116, 97, 98, 108, 101, 13, 10, 13, 10]⟩
 | _ => ⟨#[56, 98, 105, 116, 13, 10, 13, 10]⟩
set_option maxHeartbeats 8000000 in
set_option maxRecDepth 100000 in
theorem rtext_one (ty cs id loc E S1 S4 S5 R : ByteArray) (hn : Nat) (pb : Option Addr) (nb cb : Nat) (pk : Option Addr) (nk ck : Nat) (w : World) (hn2 : hn ≤ 2) (hs0 : ty.size ≤ 1000) (hs1 : cs.size ≤ 1000) (hs2 : id.size ≤ 1000) (hs3 : loc.size ≤ 1000) (hs4 : S1.size ≤ 3000) (hs5 : S4.size ≤ 5000) (hs6 : S5.size ≤ 7000) (hsE : E.size ≤ 20000)
  (CM : Hid (∀ W, Calls Tryz.prog 32 #[.string ty] W fun e w' => e = .returned (.bool false) ∧ w' = W))
  (CB : Hid (∀ W, Below w.heap.size w W → hn = 1 → Calls Tryz.prog 39 #[.slice pb nb cb] W fun e w' => e = .returned (.string E) ∧ Below W.heap.size W w'))
  (CQ : Hid (∀ W, Below w.heap.size w W → hn = 2 → Calls Tryz.prog 40 #[.slice pb nb cb] W fun e w' => e = .returned (.string E) ∧ Below W.heap.size W w'))
  (CV : Hid (∀ W, Below w.heap.size w W → hn = 0 → (convert 22 9 (.slice pb nb cb)).run Tryz.prog W = .ok (.string E) W))
  (X1 : Hid ((cs.data.toList = [] ∧ ⟨#[67, 111, 110, 116, 101, 110, 116, 45, 84, 121, 112, 101, 58, 32]⟩ ++ ty = S1) ∨ (cs.data.toList ≠ [] ∧ S1 = ⟨#[67, 111, 110, 116, 101, 110, 116, 45, 84, 121, 112, 101, 58, 32]⟩ ++ ty ++ (⟨#[59, 32, 99, 104, 97, 114, 115, 101, 116, 61]⟩ ++ cs))))
  (X2 : Hid ((id.data.toList = [] ∧ S1 ++ ⟨#[13, 10]⟩ = S4) ∨ (id.data.toList ≠ [] ∧ S4 = S1 ++ ⟨#[13, 10]⟩ ++ (⟨#[67, 111, 110, 116, 101, 110, 116, 45, 73, 68, 58, 32, 60]⟩ ++ id ++ ⟨#[62, 13, 10]⟩))))
  (X3 : Hid ((loc.data.toList = [] ∧ S4 = S5) ∨ (loc.data.toList ≠ [] ∧ S5 = S4 ++ (⟨#[67, 111, 110, 116, 101, 110, 116, 45, 76, 111, 99, 97, 116, 105, 111, 110, 58, 32]⟩ ++ loc ++ ⟨#[13, 10]⟩))))
  (HR : Hid (R = S5 ++ ⟨#[67, 111, 110, 116, 101, 110, 116, 45, 84, 114, 97, 110, 115, 102, 101, 114, 45, 69, 110, 99, 111, 100, 105, 110, 103, 58, 32]⟩ ++ hwB hn ++ E)) :
  Calls Tryz.prog 9 #[.agg #[.string ty, .string cs, .string id, .string loc, .int .i64 (hn : Int), .slice pb nb cb, .slice pk nk ck]] w fun e w' => e = .returned (.string R) ∧ Below w.heap.size w w' := by
 obtain ⟨W1, hW1⟩ : ∃ W, W = w.alloc (.cells #[.string ty, .string cs, .string id, .string loc, .int .i64 (hn : Int), .slice pb nb cb, .slice pk nk ck] 25) := ⟨_, rfl⟩
 have hb1 : Below w.heap.size w W1 := by rw [hW1]; exact (Below.refl _ _).alloc (Nat.le_refl _) _
 have d0 : W1.cell? ⟨w.heap.size, 0, none⟩ = some (.string ty) := by rw [hW1]; simp
 have d1 : W1.cell? ⟨w.heap.size, 1, none⟩ = some (.string cs) := by rw [hW1]; simp
 have d2 : W1.cell? ⟨w.heap.size, 2, none⟩ = some (.string id) := by rw [hW1]; simp
 have d3 : W1.cell? ⟨w.heap.size, 3, none⟩ = some (.string loc) := by rw [hW1]; simp
 have d4 : W1.cell? ⟨w.heap.size, 4, none⟩ = some (.int .i64 (hn : Int)) := by rw [hW1]; simp
 have d5 : W1.cell? ⟨w.heap.size, 5, none⟩ = some (.slice pb nb cb) := by rw [hW1]; simp
 have hkCT : (ByteArray.mk #[67, 111, 110, 116, 101, 110, 116, 45, 84, 121, 112, 101, 58, 32]).size = 14 := rfl
 have hkCS : (ByteArray.mk #[59, 32, 99, 104, 97, 114, 115, 101, 116, 61]).size = 10 := rfl
 have hkNL : (ByteArray.mk #[13, 10]).size = 2 := rfl
 have hkCI : (ByteArray.mk #[67, 111, 110, 116, 101, 110, 116, 45, 73, 68, 58, 32, 60]).size = 13 := rfl
 have hkGT : (ByteArray.mk #[62, 13, 10]).size = 3 := rfl
 have hkCL : (ByteArray.mk #[67, 111, 110, 116, 101, 110, 116, 45, 76, 111, 99, 97, 116, 105, 111, 110, 58, 32]).size = 18 := rfl
 have hkCE : (ByteArray.mk #[67, 111, 110, 116, 101, 110, 116, 45, 84, 114, 97, 110, 115, 102, 101, 114, 45, 69, 110, 99, 111, 100, 105, 110, 103, 58, 32]).size = 27 := rfl
 have hkB64 : (ByteArray.mk #[98, 97, 115, 101, 54, 52, 13, 10, 13, 10]).size = 10 := rfl
 have hkQP : (ByteArray.mk #[113, 117, 111, 116, 101, 100, 45, 112, 114, 105, 110, 116, 97, 98, 108, 101, 13, 10, 13, 10]).size = 20 := rfl
 have hkE8 : (ByteArray.mk #[56, 98, 105, 116, 13, 10, 13, 10]).size = 8 := rfl
 go_enter Tryz.func9, Tryz.ntmps9
 go_wp2_with fail
 rw [← hW1]
 clear hW1
 refine (CM.out _).mono ?_
 rintro e w1 ⟨rfl, hw1⟩
 have hw2 := hw1.symm
 subst hw2
 clear CM
 go_upto_if 45 with fail
 go_cut [10] (fun s wx => s = .string S1 ∧ wx = W1)
 case first =>
  rcases X1.out with ⟨x1, rfl⟩ | ⟨x1, rfl⟩
  ·have he := he_t _ x1
   rw [he]
   go_wp2_with fail
   go_meet
   exact ⟨rfl, rfl⟩
  ·have he := he_f _ x1
   rw [he]
   go_wp2_with fail
   go_meet
   exact ⟨rfl, rfl⟩
 case rest =>
 obtain ⟨rfl, rfl⟩ := hcut
 clear X1
 go_upto_if 61 with fail
 go_cut [10] (fun s wx => s = .string S4 ∧ wx = wc)
 case first =>
  rcases X2.out with ⟨x1, rfl⟩ | ⟨x1, rfl⟩
  ·have he := he_t _ x1
   rw [he]
   go_wp2_with fail
   go_meet
   exact ⟨rfl, rfl⟩
  ·have he := he_f _ x1
   rw [he]
   go_wp2_with fail
   go_meet
   exact ⟨rfl, rfl⟩
 case rest =>
 obtain ⟨rfl, rfl⟩ := hcut
 clear X2
 go_upto_if 70 with fail
 go_cut [10] (fun s wx => s = .string S5 ∧ wx = wc)
 case first =>
  rcases X3.out with ⟨x1, rfl⟩ | ⟨x1, rfl⟩
  ·have he := he_t _ x1
   rw [he]
   go_wp2_with fail
   go_meet
   exact ⟨rfl, rfl⟩
  ·have he := he_f _ x1
   rw [he]
   go_wp2_with fail
   go_meet
   exact ⟨rfl, rfl⟩
 case rest =>
 obtain ⟨rfl, rfl⟩ := hcut
 clear X3
 match hn, hn2 with
 | 0, _ =>
  have hcv := CV.out _ hb1 rfl
  clear CB CQ CV
  go_wp2_with fail
  go_ret
  exact ⟨by rw [HR.out]; rfl, hb1⟩
 | 1, _ =>
  have CB1 : Hid (Calls Tryz.prog 39 #[.slice pb nb cb] wc fun e w' => e = .returned (.string E) ∧ Below wc.heap.size wc w') := CB.out _ hb1 rfl
  clear CB CQ CV
  go_wp2_with fail
  refine CB1.out.mono ?_
  rintro e w2 ⟨rfl, hb2⟩
  have hbe2 : Below w.heap.size w w2 := hb1.trans (hb2.mono hb1.size)
  clear CB1 hb2
  go_wp2_with fail
  go_ret
  exact ⟨by rw [HR.out]; rfl, hbe2⟩
 | 2, _ =>
  have CB1 : Hid (Calls Tryz.prog 40 #[.slice pb nb cb] wc fun e w' => e = .returned (.string E) ∧ Below wc.heap.size wc w') := CQ.out _ hb1 rfl
  clear CB CQ CV
  go_wp2_with fail
  refine CB1.out.mono ?_
  rintro e w2 ⟨rfl, hb2⟩
  have hbe2 : Below w.heap.size w w2 := hb1.trans (hb2.mono hb1.size)
  clear CB1 hb2
  go_wp2_with fail
  go_ret
  exact ⟨by rw [HR.out]; rfl, hbe2⟩
def KidC (W1 : World) (bk ok i : Nat) (tx : ByteArray) : Prop := ∃ (t c d l : ByteArray) (h : Int) (pb : Option Addr) (nb cb : Nat) (pk : Option Addr) (nk ck : Nat), (∀ W, Below W1.heap.size W1 W → W.cell? ⟨bk, ok + i * 7, none⟩ = some (.string t) ∧ W.cell? ⟨bk, ok + i * 7 + 1, none⟩ = some (.string c) ∧ W.cell? ⟨bk, ok + i * 7 + 2, none⟩ = some (.string d) ∧ W.cell? ⟨bk, ok + i * 7 + 3, none⟩ = some (.string l) ∧ W.cell? ⟨bk, ok + i * 7 + 4, none⟩ = some (.int .i64 h) ∧ W.cell? ⟨bk, ok + i * 7 + 5, none⟩ = some (.slice pb nb cb) ∧ W.cell? ⟨bk, ok + i * 7 + 6, none⟩ = some (.slice pk nk ck)) ∧
 ∀ W, Below W1.heap.size W1 W → Calls Tryz.prog 9 #[.agg #[.string t, .string c, .string d, .string l, .int .i64 h, .slice pb nb cb, .slice pk nk ck]] W fun e w' => e = .returned (.string tx) ∧ Below W.heap.size W w'
set_option maxHeartbeats 16000000 in
set_option maxRecDepth 100000 in
theorem rtext_many (ty cs id loc J S4 S5 R BR SEP : ByteArray) (hw : Int) (pb : Option Addr) (nb cb : Nat) (bk ok m ck : Nat) (ts : List ByteArray) (N : Nat) (w : World) (hm1 : 1 ≤ m) (hm12 : m ≤ 12) (hmc : m ≤ ck) (em : Hid (m = ts.length)) (hN : 1 ≤ N) (hN2 : N < 10000000) (hs0 : ty.size ≤ 1000) (hs2 : id.size ≤ 1000) (hs3 : loc.size ≤ 1000) (hs5 : S4.size ≤ 5000) (hs6 : S5.size ≤ 7000) (hsJ : J.size ≤ 3000000) (hsB : BR.size ≤ 20)
  (hcs : cs.toList.isEmpty = true) (hBR : Hid (BR = ⟨#[61, 95]⟩ ++ ⟨(Lib.itoa (N : Int)).toArray⟩)) (hne : BR.toList.isEmpty = false)
  (CM : Hid (∀ W, Calls Tryz.prog 32 #[.string ty] W fun e w' => e = .returned (.bool true) ∧ w' = W))
  (CK : Hid (∀ W1, Below w.heap.size w W1 → ∀ i, i < m → KidC W1 bk ok i (ts.getD i ⟨#[]⟩)))
  (CI : Hid (∀ W (k : Nat), Below w.heap.size w W → 1 ≤ k → k ≤ N → Calls Tryz.prog 36 #[.int .i64 (k : Int)] W fun e w' => e = .returned (.string ⟨(Lib.itoa (k : Int)).toArray⟩) ∧ Below W.heap.size W w'))
  (hIs : Hid (∀ k : Nat, 1 ≤ k → k ≤ N → (⟨(Lib.itoa (k : Int)).toArray⟩ : ByteArray).size ≤ 10))
  (CC : Hid (∀ W q c g (k : Nat) TR, Below w.heap.size w W → 1 ≤ k → k ≤ N → TRow W q ts → TR = ⟨#[61, 95]⟩ ++ ⟨(Lib.itoa (k : Int)).toArray⟩ → W.cell? ⟨g, 0, none⟩ = some (.string TR) → Calls Tryz.prog 37 #[.slice q m c, .func (Fn.func 38) #[] #[.pointer (some ⟨g, 0, none⟩)]] W fun e w' => e = .returned (.bool (decide (k < N))) ∧ w' = W))
  (CJ : Hid (∀ W q c, Below w.heap.size w W → m ≤ c → TRow W q ts → Calls Tryz.prog 19 #[.slice q m c, .string SEP] W fun e w' => e = .returned (.string J) ∧ Below W.heap.size W w'))
  (hSEP : ⟨#[13, 10, 45, 45]⟩ ++ BR ++ ⟨#[13, 10]⟩ = SEP)
  (X2 : Hid ((id.data.toList = [] ∧ ⟨#[67, 111, 110, 116, 101, 110, 116, 45, 84, 121, 112, 101, 58, 32]⟩ ++ ty ++ (⟨#[59, 32, 98, 111, 117, 110, 100, 97, 114, 121, 61, 34]⟩ ++ BR ++ ⟨#[34]⟩) ++ ⟨#[13, 10]⟩ = S4) ∨ (id.data.toList ≠ [] ∧ S4 = ⟨#[67, 111, 110, 116, 101, 110, 116, 45, 84, 121, 112, 101, 58, 32]⟩ ++ ty ++ (⟨#[59, 32, 98, 111, 117, 110, 100, 97, 114, 121, 61, 34]⟩ ++ BR ++ ⟨#[34]⟩) ++ ⟨#[13, 10]⟩ ++ (⟨#[67, 111, 110, 116, 101, 110, 116, 45, 73, 68, 58, 32, 60]⟩ ++ id ++ ⟨#[62, 13, 10]⟩))))
  (X3 : Hid ((loc.data.toList = [] ∧ S4 = S5) ∨ (loc.data.toList ≠ [] ∧ S5 = S4 ++ (⟨#[67, 111, 110, 116, 101, 110, 116, 45, 76, 111, 99, 97, 116, 105, 111, 110, 58, 32]⟩ ++ loc ++ ⟨#[13, 10]⟩))))
  (HR : Hid (R = S5 ++ (SEP ++ J ++ ⟨#[13, 10, 45, 45]⟩ ++ BR ++ ⟨#[45, 45, 13, 10]⟩))) :
  Calls Tryz.prog 9 #[.agg #[.string ty, .string cs, .string id, .string loc, .int .i64 hw, .slice pb nb cb, .slice (some ⟨bk, ok, none⟩) m ck]] w fun e w' => e = .returned (.string R) ∧ Below w.heap.size w w' := by
 obtain ⟨i0, hi, hz0, hz1, hz2⟩ := info_parts info_strM
 obtain ⟨W1, hW1⟩ : ∃ W, W = w.alloc (.cells #[.string ty, .string cs, .string id, .string loc, .int .i64 hw, .slice pb nb cb, .slice (some ⟨bk, ok, none⟩) m ck] 25) := ⟨_, rfl⟩
 have hb1 : Below w.heap.size w W1 := by rw [hW1]; exact (Below.refl _ _).alloc (Nat.le_refl _) _
 have hlt1 : w.heap.size < W1.heap.size := by rw [hW1]; simp
 have HD : Hid (∀ W, Below W1.heap.size W1 W → W.cell? ⟨w.heap.size, 0, none⟩ = some (.string ty) ∧ W.cell? ⟨w.heap.size, 1, none⟩ = some (.string cs) ∧ W.cell? ⟨w.heap.size, 2, none⟩ = some (.string id) ∧ W.cell? ⟨w.heap.size, 3, none⟩ = some (.string loc) ∧ W.cell? ⟨w.heap.size, 6, none⟩ = some (.slice (some ⟨bk, ok, none⟩) m ck)) := fun W hW => by
  refine ⟨?_, ?_, ?_, ?_, ?_⟩
  ·rw [hW.cell (p := ⟨w.heap.size, 0, none⟩) hlt1, hW1]; simp
  ·rw [hW.cell (p := ⟨w.heap.size, 1, none⟩) hlt1, hW1]; simp
  ·rw [hW.cell (p := ⟨w.heap.size, 2, none⟩) hlt1, hW1]; simp
  ·rw [hW.cell (p := ⟨w.heap.size, 3, none⟩) hlt1, hW1]; simp
  ·rw [hW.cell (p := ⟨w.heap.size, 6, none⟩) hlt1, hW1]; simp
 have HK : Hid (∀ i, i < m → KidC W1 bk ok i (ts.getD i ⟨#[]⟩)) := CK.out W1 hb1
 obtain ⟨d0, -, -, -, d6⟩ := HD.out W1 (Below.refl _ _)
 clear CK
 go_enter Tryz.func9, Tryz.ntmps9
 go_wp2_with fail
 rw [← hW1]
 clear hW1
 refine (CM.out _).mono ?_
 rintro e w1 ⟨rfl, hw1⟩
 have hw2 := hw1.symm
 subst hw2
 clear CM
 go_wp2_with fail
 clear d0 d6
 go_loopw [5, 18] (fun ov iv wr => ∃ (i : Nat) (q : Option Addr) (c : Nat), i ≤ m ∧ iv = .int .i64 i ∧ ov = .slice q i c ∧ Below W1.heap.size W1 wr ∧ Hid (wr.ownsRow W1.heap.size 9 1 (.slice q i c) i (stv (ts.take i)))) (fun _ iv _ => m - (intOf iv).toNat)
 case atStart => exact ⟨0, none, 0, Nat.zero_le _, rfl, rfl, Below.refl _ _, World.ownsRow_nil _ _ _ _⟩
 case round =>
  obtain ⟨i, q, c, hi2, rfl, rfl, hbr1, HO⟩ := hrel
  have hsz := hbr1.size
  by_cases hlt : i < m
  ·have hlz : (i : Int) < (m : Int) := by omega
   obtain ⟨kt, kc, kd, kl, kh, kpb, knb, kcb, kpk, knk, kck, hcell, hcall⟩ := HK.out i hlt
   obtain ⟨a0, a1, a2, a3, a4, a5, a6⟩ := hcell wr hbr1
   have hbkr : bk < wr.heap.size := World.block_lt_of_cell? wr _ a0
   have HTK : Hid (stv (ts.take (i + 1)) = stv (ts.take i) ++ [.string (ts.getD i ⟨#[]⟩)]) := by unfold Hid; rw [ts_take ts i (by rw [← em.out]; exact hlt), stv_snoc]
   have CT : Hid (∀ W, Below W1.heap.size W1 W → Calls Tryz.prog 9 #[.agg #[.string kt, .string kc, .string kd, .string kl, .int .i64 kh, .slice kpb knb kcb, .slice kpk knk kck]] W fun e w' => e = .returned (.string (ts.getD i ⟨#[]⟩)) ∧ Below W.heap.size W w') := hcall
   clear hcell hcall
   generalize ts.getD i ⟨#[]⟩ = tx at *
   have hba := hbr1.alloc hsz (.cells #[.string kt, .string kc, .string kd, .string kl, .int .i64 kh, .slice kpb knb kcb, .slice kpk knk kck] 25)
   go_wp2_with fail
   refine (CT.out _ hba).mono ?_
   rintro e w2 ⟨rfl, hb2⟩
   clear CT a0 a1 a2 a3 a4 a5 a6
   have hbe2 : Below W1.heap.size W1 w2 := hba.trans (hb2.mono (by simp; omega))
   have own2 : w2.ownsRow W1.heap.size 9 1 (.slice q i c) i (stv (ts.take i)) := ownsRow_below (HO.out.alloc _) hb2
   have hsz2 := hbe2.size
   clear hb2 HO hba
   go_wp2_with (at_builtin; refine wpList_append_own _ rfl (.tmp 22) (.tmp 25) 41 rfl W1.heap.size 9 i0 (.string ⟨#[]⟩) 1 16 Tryz.underlying41 hi hz0 hz1 hz2 rfl (by decide) _ _ _ rfl (own2.alloc _) ⟨w2.heap.size, 0, none⟩ 1 1 [.string tx] rfl rfl (cell_lone1 _ _ _) (one_str _) ?d1 ?d2 ?d3 ?_)
   case d1 => unfold maxLen; omega
   case d2 => omega
   case d3 => simp; omega
   intro v9 w9 own9 g9 _
   rw [← HTK.out] at own9
   have hb9 : Below W1.heap.size W1 w9 := (hbe2.alloc hsz2 _).grown g9 (by simp; omega) (fun j hj => (own2.lt j hj).1)
   obtain ⟨q9, c9, rfl⟩ := owned_slice own9
   have HO9 : Hid (w9.ownsRow W1.heap.size 9 1 (.slice q9 (i + 1) c9) (i + 1) (stv (ts.take (i + 1)))) := own9
   clear own9 own2 g9
   go_wp2_with fail
   go_roundw
   case rel => exact ⟨i + 1, q9, c9, by omega, by go_num, rfl, hb9, HO9⟩
   case measure => simp [intOf]; omega
  ·obtain rfl : i = m := by omega
   obtain ⟨wo, hwo⟩ : ∃ x, x = wr := ⟨_, rfl⟩
   subst hwo
   have hown := HO.out
   rw [em.out, List.take_length] at hown
   obtain ⟨q', c', e1, hc1, -, htr⟩ := owned_texts hown
   obtain ⟨rfl, rfl⟩ : q = q' ∧ c = c' := by injection e1 with e1 _ e2; exact ⟨e1, e2⟩
   rw [← em.out] at hc1
   have HT : Hid (∀ W, Below wo.heap.size wo W → TRow W q ts) := fun W hW => htr.under hW
   clear hown e1 htr HO HK hlt
   go_wp2_with fail
   go_loopw [4, 8] (fun bv nv wr => ∃ (k : Nat), 1 ≤ k ∧ nv = .int .i64 k ∧ Below wo.heap.size wo wr ∧ ((bv = .string ⟨#[]⟩ ∧ k ≤ N) ∨ (bv = .string BR ∧ k = N + 1))) (fun _ nv _ => N + 2 - (intOf nv).toNat)
   case atStart => exact ⟨1, Nat.le_refl _, rfl, Below.refl _ _, .inl ⟨rfl, hN⟩⟩
   case round =>
    obtain ⟨k, hk1, rfl, hbx, hcase⟩ := hrel
    have hsx := hbx.size
    have hbex : Below W1.heap.size W1 wr := hbr1.trans (hbx.mono hsz)
    have hbwx : Below w.heap.size w wr := hb1.trans (hbex.mono hb1.size)
    rcases hcase with ⟨rfl, hkN⟩ | ⟨rfl, hkN⟩
    ·have CI1 : Hid (Calls Tryz.prog 36 #[.int .i64 (k : Int)] wr fun e w' => e = .returned (.string ⟨(Lib.itoa (k : Int)).toArray⟩) ∧ Below wr.heap.size wr w') := CI.out wr k hbwx hk1 hkN
     have hIk := hIs.out k hk1 hkN
     have HTR0 : Hid (k = N → ⟨#[61, 95]⟩ ++ ⟨(Lib.itoa (k : Int)).toArray⟩ = BR) := fun e => by rw [e]; exact hBR.out.symm
     obtain ⟨IT, hIT⟩ : ∃ IT : ByteArray, (⟨(Lib.itoa (k : Int)).toArray⟩ : ByteArray) = IT := ⟨_, rfl⟩
     rw [hIT] at CI1 hIk HTR0
     obtain ⟨TR, hTR⟩ : ∃ TR : ByteArray, ⟨#[61, 95]⟩ ++ IT = TR := ⟨_, rfl⟩
     rw [hTR] at HTR0
     have HTR : Hid (TR = ⟨#[61, 95]⟩ ++ ⟨(Lib.itoa (k : Int)).toArray⟩) := by unfold Hid; rw [hIT]; exact hTR.symm
     clear hIT
     go_wp2_with fail
     refine CI1.out.mono ?_
     rintro e w2 ⟨rfl, hb2⟩
     have hbx2 : Below wo.heap.size wo w2 := hbx.trans (hb2.mono hsx)
     have hbe2 : Below w.heap.size w w2 := hbwx.trans (hb2.mono hbwx.size)
     clear CI1 hb2
     have hba : Below wo.heap.size wo (w2.alloc (.cells #[.string TR] 9)) := hbx2.alloc hbx2.size _
     have hbaw : Below w.heap.size w (w2.alloc (.cells #[.string TR] 9)) := hbe2.alloc hbe2.size _
     have CC1 : Hid (Calls Tryz.prog 37 #[.slice q i c, .func (Fn.func 38) #[] #[.pointer (some ⟨w2.heap.size, 0, none⟩)]] (w2.alloc (.cells #[.string TR] 9)) fun e w' => e = .returned (.bool (decide (k < N))) ∧ w' = (w2.alloc (.cells #[.string TR] 9))) := CC.out _ q c w2.heap.size k TR hbaw hk1 hkN (HT.out _ hba) HTR.out (by simp)
     by_cases hkl : k < N
     ·rw [decide_eq_true hkl] at CC1
      go_wp2_with fail
      refine CC1.out.mono ?_
      rintro e w3 ⟨rfl, hw3⟩
      have hw4 := hw3.symm
      subst hw4
      clear CC1
      go_wp2_with fail
      go_roundw
      case rel => exact ⟨k + 1, by omega, by go_num, hba, .inl ⟨rfl, by omega⟩⟩
      case measure => simp [intOf]; omega
     ·rw [decide_eq_false hkl] at CC1
      have hTB := HTR0.out (by omega)
      clear HTR HTR0
      subst hTB
      go_wp2_with fail
      refine CC1.out.mono ?_
      rintro e w3 ⟨rfl, hw3⟩
      have hw4 := hw3.symm
      subst hw4
      clear CC1
      go_wp2_with fail
      go_roundw
      case rel => exact ⟨k + 1, by omega, by go_num, hba, .inr ⟨rfl, by omega⟩⟩
      case measure => simp [intOf]; omega
    ·clear hkN
     obtain ⟨d0, d1, d2, d3, -⟩ := HD.out wr hbex
     have CJ1 : Hid (Calls Tryz.prog 19 #[.slice q i c, .string SEP] wr fun e w' => e = .returned (.string J) ∧ Below wr.heap.size wr w') := CJ.out wr q c hbwx hc1 (HT.out wr hbx)
     clear CI CC CJ HT hIs
     have hkCT : (ByteArray.mk #[67, 111, 110, 116, 101, 110, 116, 45, 84, 121, 112, 101, 58, 32]).size = 14 := rfl
     have hkBD : (ByteArray.mk #[59, 32, 98, 111, 117, 110, 100, 97, 114, 121, 61, 34]).size = 12 := rfl
     have hkQU : (ByteArray.mk #[34]).size = 1 := rfl
     have hkNL : (ByteArray.mk #[13, 10]).size = 2 := rfl
     have hkCI : (ByteArray.mk #[67, 111, 110, 116, 101, 110, 116, 45, 73, 68, 58, 32, 60]).size = 13 := rfl
     have hkGT : (ByteArray.mk #[62, 13, 10]).size = 3 := rfl
     have hkCL : (ByteArray.mk #[67, 111, 110, 116, 101, 110, 116, 45, 76, 111, 99, 97, 116, 105, 111, 110, 58, 32]).size = 18 := rfl
     have hkND : (ByteArray.mk #[13, 10, 45, 45]).size = 4 := rfl
     have hkDN : (ByteArray.mk #[45, 45, 13, 10]).size = 4 := rfl
     have hsS : SEP.size ≤ 30 := by rw [← hSEP]; simp only [ByteArray.size_append]; omega
     go_upto_if 61 with fail
     go_cut [10] (fun s wy => s = .string S4 ∧ wy = wr)
     case first =>
      rcases X2.out with ⟨x1, rfl⟩ | ⟨x1, rfl⟩
      ·have he := he_t _ x1
       rw [he]
       go_wp2_with fail
       go_meet
       exact ⟨rfl, rfl⟩
      ·have he := he_f _ x1
       rw [he]
       go_wp2_with fail
       go_meet
       exact ⟨rfl, rfl⟩
     case rest =>
     obtain ⟨rfl, rfl⟩ := hcut
     clear X2
     go_upto_if 70 with fail
     go_cut [10] (fun s wy => s = .string S5 ∧ wy = wc)
     case first =>
      rcases X3.out with ⟨x1, rfl⟩ | ⟨x1, rfl⟩
      ·have he := he_t _ x1
       rw [he]
       go_wp2_with fail
       go_meet
       exact ⟨rfl, rfl⟩
      ·have he := he_f _ x1
       rw [he]
       go_wp2_with fail
       go_meet
       exact ⟨rfl, rfl⟩
     case rest =>
     obtain ⟨rfl, rfl⟩ := hcut
     clear X3
     go_wp2_with fail
     refine CJ1.out.mono ?_
     rintro e w2 ⟨rfl, hb2⟩
     have hbe2 : Below w.heap.size w w2 := hbwx.trans (hb2.mono hbwx.size)
     clear CJ1 hb2
     go_wp2_with fail
     go_ret
     exact ⟨by rw [HR.out]; rfl, hbe2⟩
end Go.Proofs.YtlndhdimamnnlaaGreatDoor

