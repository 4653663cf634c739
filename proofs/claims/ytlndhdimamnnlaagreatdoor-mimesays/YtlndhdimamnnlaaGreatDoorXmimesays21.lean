
import Derived.Test.YtlndhdimamnnlaaGreatDoorXmimesays20
namespace Go.Proofs.YtlndhdimamnnlaaGreatDoor
open Go.RowKit
theorem trimCR_any (X T : ByteArray) (hT : T.data.toList = noCR X.data.toList) (w : World) (hX : X.size ≤ 1000000000) :
  Calls Tryz.prog 115 #[.string X, .string ⟨#[13]⟩] w fun e w' => e = .returned (.string T) ∧ w' = w := by
 refine (Tryz.strings_TrimSuffix X ⟨#[13]⟩ w (by omega)).mono ?_
 rintro e w' ⟨rfl, rfl⟩
 refine ⟨?_, rfl⟩
 have e1 : Lib.trimSuffix X.data.toList [13] = T.data.toList := by
  rw [hT]
  unfold Lib.trimSuffix noCR
  rcases List.eq_nil_or_concat X.data.toList with h | ⟨x, d, h⟩
  ·rw [h]; rfl
  ·rw [h, List.concat_eq_append]
   by_cases hd : d = 13
   ·subst hd
    simp [Lib.hasSuffix]
   ·have h2 : Lib.hasSuffix (x ++ [d]) [13] = false := by
     rw [← Bool.not_eq_true]
     intro hh
     unfold Lib.hasSuffix at hh
     rw [List.isSuffixOf_iff_suffix] at hh
     obtain ⟨t, ht⟩ := hh
     have := congrArg List.getLast? ht
     simp at this
     exact hd this.symm
    simp [h2, hd]
 rw [show (ByteArray.mk #[13]).data.toList = [13] from rfl, e1]
theorem trimLSp_any (X T : ByteArray) (hT : T.data.toList = X.data.toList.dropWhile isSp) (w : World) :
  Calls Tryz.prog 168 #[.string X, .string ⟨#[32]⟩] w fun e w' => e = .returned (.string T) ∧ w' = w := by
 refine (Tryz.strings_TrimLeft_one X 32 (by decide) w).mono ?_
 rintro e w' ⟨rfl, rfl⟩
 have e1 : Lib.trimLeftB X.data.toList 32 = T.data.toList := by rw [hT, isSp_eq]; rfl
 rw [e1]
 exact ⟨rfl, rfl⟩
theorem trimRSp_any (X T : ByteArray) (hT : T.data.toList = dropEnd isSp X.data.toList) (w : World) (hX : X.size ≤ 1000000000) :
  Calls Tryz.prog 50 #[.string X, .string ⟨#[32]⟩] w fun e w' => e = .returned (.string T) ∧ w' = w := by
 refine (Tryz.strings_TrimRight_one X 32 (by decide) w (by omega)).mono ?_
 rintro e w' ⟨rfl, rfl⟩
 have e1 : Lib.trimRightB X.data.toList 32 = T.data.toList := by rw [hT, isSp_eq]; rfl
 rw [e1]
 exact ⟨rfl, rfl⟩
theorem pre_byte (d : UInt8) (l : List UInt8) : Lib.hasPrefix l [d] = (l.head? == some d) := by
 cases l with
 | nil => rfl
 | cons a l => simp [Lib.hasPrefix, List.isPrefixOf, Bool.beq_comm]
theorem litePre_no (d : UInt8) (s : ByteArray) (w : World) (h : s.data.toList.head? ≠ some d) :
  Calls Tryz.prog 231 #[.string s, .string ⟨#[d]⟩] w fun e w' => e = .returned (.tuple #[.string s, .bool false]) ∧ w' = w := by
 have C := Tryz.stringslite_HasPrefix s ⟨#[d]⟩ w
 rw [show (ByteArray.mk #[d]).data.toList = [d] from rfl, pre_byte, show (s.data.toList.head? == some d) = false from by rw [beq_eq_false_iff_ne]; exact h] at C
 have HC : Hid (Calls Tryz.prog 153 #[.string s, .string ⟨#[d]⟩] w fun e w' => e = .returned (.bool false) ∧ w' = w) := C
 clear C h
 go_enter Tryz.func231, Tryz.ntmps231
 go_wp2_with fail
 refine HC.out.mono ?_
 rintro e w' ⟨rfl, hw'⟩
 have hw'' := hw'.symm
 subst hw''
 clear HC
 go_wp2
 go_ret2
 exact ⟨rfl, rfl⟩
theorem litePre_yes (d : UInt8) (s t : ByteArray) (w : World) (hs : s.size ≤ 1000000000) (h : s.data.toList = d :: t.data.toList) :
  Calls Tryz.prog 231 #[.string s, .string ⟨#[d]⟩] w fun e w' => e = .returned (.tuple #[.string t, .bool true]) ∧ w' = w := by
 have C := Tryz.stringslite_HasPrefix s ⟨#[d]⟩ w
 rw [show (ByteArray.mk #[d]).data.toList = [d] from rfl, pre_byte, show (s.data.toList.head? == some d) = true from by rw [h]; simp] at C
 have HC : Hid (Calls Tryz.prog 153 #[.string s, .string ⟨#[d]⟩] w fun e w' => e = .returned (.bool true) ∧ w' = w) := C
 have h1 : s.size = t.size + 1 := by rw [Lib.size_eq, h, Lib.size_eq]; rfl
 have h2 : s.extract 1 s.size = t := by
  apply ba_inj
  rw [Lib.extract_data, h]
  simp only [List.drop_succ_cons, List.drop_zero]
  exact List.take_of_length_le (by rw [← Lib.size_eq]; omega)
 have h3 : (1 : Int) ≤ (s.size : Int) := by omega
 have h3' : 1 ≤ s.size := by omega
 clear C h h1
 go_enter Tryz.func231, Tryz.ntmps231
 go_wp2_with fail
 refine HC.out.mono ?_
 rintro e w' ⟨rfl, hw'⟩
 have hw'' := hw'.symm
 subst hw''
 clear HC
 go_wp2
 go_ret2
 exact ⟨rfl, rfl⟩
theorem cutPre_no (d : UInt8) (s : ByteArray) (w : World) (h : s.data.toList.head? ≠ some d) :
  Calls Tryz.prog 211 #[.string s, .string ⟨#[d]⟩] w fun e w' => e = .returned (.tuple #[.string s, .bool false]) ∧ w' = w := by
 have HC : Hid (Calls Tryz.prog 231 #[.string s, .string ⟨#[d]⟩] w fun e w' => e = .returned (.tuple #[.string s, .bool false]) ∧ w' = w) := litePre_no d s w h
 clear h
 go_enter Tryz.func211, Tryz.ntmps211
 go_wp2_with fail
 refine HC.out.mono ?_
 rintro e w' ⟨rfl, hw'⟩
 have hw'' := hw'.symm
 subst hw''
 clear HC
 go_wp2
 go_ret2
 exact ⟨rfl, rfl⟩
theorem cutPre_yes (d : UInt8) (s t : ByteArray) (w : World) (hs : s.size ≤ 1000000000) (h : s.data.toList = d :: t.data.toList) :
  Calls Tryz.prog 211 #[.string s, .string ⟨#[d]⟩] w fun e w' => e = .returned (.tuple #[.string t, .bool true]) ∧ w' = w := by
 have HC : Hid (Calls Tryz.prog 231 #[.string s, .string ⟨#[d]⟩] w fun e w' => e = .returned (.tuple #[.string t, .bool true]) ∧ w' = w) := litePre_yes d s t w hs h
 clear h
 go_enter Tryz.func211, Tryz.ntmps211
 go_wp2_with fail
 refine HC.out.mono ?_
 rintro e w' ⟨rfl, hw'⟩
 have hw'' := hw'.symm
 subst hw''
 clear HC
 go_wp2
 go_ret2
 exact ⟨rfl, rfl⟩
end Go.Proofs.YtlndhdimamnnlaaGreatDoor



namespace Go.Proofs.YtlndhdimamnnlaaGreatDoor
open Go.RowKit
theorem results_tmp4 {fn : Func} {t u v x : Tmp} (h : fn.results = #[.tmp t, .tmp u, .tmp v, .tmp x]) (tmps : Array Value) (P : Program) (w : World) :
  (results fn tmps).run P w = .ok (.tuple #[tmps.getD t undef, tmps.getD u undef, tmps.getD v undef, tmps.getD x undef]) w := by
 simp [results, h]
theorem results_cell4 {fn : Func} {p u v x : Tmp} {ty : TypeId} (h : fn.results = #[.cell p ty, .tmp u, .tmp v, .tmp x]) (tmps : Array Value) (P : Program) (w : World) :
  (results fn tmps).run P w =
   ((asAddr (tmps.getD p undef)).run P w).andThen fun a w₁ => ((loadVar ty a).run P w₁).andThen fun y w₂ => .ok (.tuple #[y, tmps.getD u undef, tmps.getD v undef, tmps.getD x undef]) w₂ := by
 simp only [results, h]
 simp [Sem.run_bind, Result.andThen]
theorem cutP_any (d : UInt8) (l : List UInt8) (w : World) (hs : l.length ≤ 1000000000) :
  Calls Tryz.prog 114 #[.string (ba l), .string ⟨#[d]⟩] w fun e w' => e = .returned (.tuple #[.string (ba (cutP d l).1), .string (ba (cutP d l).2.1), .bool (cutP d l).2.2]) ∧ Below w.heap.size w w' := by
 cases h : cutB d l with
 | none =>
  rw [cutP_none h]
  exact cut_none d (ba l) w h
 | some x =>
  obtain ⟨a, b⟩ := x
  rw [cutP_some h]
  exact cut_some d (ba l) (ba a) (ba b) w (by rw [ba_size]; exact hs) h
theorem small_any (l : List UInt8) (w : World) (hs : l.length ≤ 1000000000) (ha : ∀ c ∈ l, c.toNat < 128) :
  Calls Tryz.prog 120 #[.string (ba l)] w fun e w' => e = .returned (.string (ba (small8 l))) ∧ Below w.heap.size w w' := by
 have HC : Hid (∀ w, Calls Tryz.prog 46 #[.string (ba l)] w fun e w' => e = .returned (.string (ba (small8 l))) ∧ Below w.heap.size w w') := fun w =>
  Tryz.strings_ToLower_ascii (ba l) w (by rw [ba_size]; omega) (fun j b hb => ha b (List.mem_of_getElem? hb))
 clear ha
 go_enter Tryz.func120, Tryz.ntmps120
 go_wp2_with fail
 refine (HC.out _).mono ?_
 rintro e w1 ⟨rfl, hb⟩
 clear HC
 go_wp2
 go_ret
 exact ⟨rfl, hb⟩
set_option maxHeartbeats 2000000 in
theorem setting_plain (l : List UInt8) (w : World) (hs : l.length ≤ 100000) (hh : l.head? ≠ some 34) :
  Calls Tryz.prog 167 #[.string (ba l)] w fun e w' => e = .returned (.tuple #[.string (ba (setS l).1), .string (ba (setS l).2.1), .bool (setS l).2.2.1, .bool (setS l).2.2.2]) ∧ Below w.heap.size w w' := by
 have HN : Hid (setS l = (dropEnd isSp (cutP 59 l).1, (cutP 59 l).2.1, (cutP 59 l).2.2, tokenS (dropEnd isSp (cutP 59 l).1))) := by unfold Hid setS; rw [if_neg hh]
 have C1 : Hid (∀ w, Calls Tryz.prog 211 #[.string (ba l), .string ⟨#[34]⟩] w fun e w' => e = .returned (.tuple #[.string (ba l), .bool false]) ∧ w' = w) := fun w => cutPre_no 34 (ba l) w hh
 have C2 : Hid (∀ w, Calls Tryz.prog 114 #[.string (ba l), .string ⟨#[59]⟩] w fun e w' => e = .returned (.tuple #[.string (ba (cutP 59 l).1), .string (ba (cutP 59 l).2.1), .bool (cutP 59 l).2.2]) ∧ Below w.heap.size w w') := fun w => cutP_any 59 l w (by omega)
 have hl := (cutP_length 59 l).1
 have C3 : Hid (∀ w, Calls Tryz.prog 50 #[.string (ba (cutP 59 l).1), .string ⟨#[32]⟩] w fun e w' => e = .returned (.string (ba (dropEnd isSp (cutP 59 l).1))) ∧ w' = w) := fun w => trimRSp_any _ _ rfl w (by rw [ba_size]; omega)
 have hl2 := dropEnd_length isSp (cutP 59 l).1
 have C4 : Hid (∀ w, Calls Tryz.prog 150 #[.string (ba (dropEnd isSp (cutP 59 l).1))] w fun e w' => e = .returned (.bool (tokenS (dropEnd isSp (cutP 59 l).1))) ∧ w' = w) := fun w => htok_any _ w (by rw [ba_size]; unfold maxLen; omega)
 clear hl hl2 hh
 generalize dropEnd isSp (cutP 59 l).1 = V at *
 generalize tokenS V = ok at *
 generalize cutP 59 l = x9 at *
 obtain ⟨a, r, m⟩ := x9
 simp only at *
 have HN' := HN.out
 rw [HN']
 clear HN HN'
 simp only
 generalize ba l = s at *
 generalize ba a = sa at *
 generalize ba r = sr at *
 generalize ba V = sv at *
 go_enter Tryz.func167, Tryz.ntmps167
 go_wp2_with fail
 refine (C1.out _).mono ?_
 rintro e w1 ⟨rfl, hw'⟩
 have hw'' := hw'.symm
 subst hw''
 clear C1
 go_wp2_with fail
 refine (C2.out _).mono ?_
 rintro e w2 ⟨rfl, hb⟩
 clear C2
 go_wp2_with fail
 refine (C3.out _).mono ?_
 rintro e w1 ⟨rfl, hw'⟩
 have hw'' := hw'.symm
 subst hw''
 clear C3
 go_wp2_with fail
 refine (C4.out _).mono ?_
 rintro e w1 ⟨rfl, hw'⟩
 have hw'' := hw'.symm
 subst hw''
 clear C4
 go_wp2
 (try simp only [Exit.inBlock, Exit.then])
 refine bodyPost_ret (results_tmp4 rfl _ _ _) rfl ?_
 exact ⟨rfl, hb⟩
set_option maxHeartbeats 2000000 in
theorem setting_quoted (l t : List UInt8) (w : World) (hs : l.length ≤ 100000) (hh : l = 34 :: t) :
  Calls Tryz.prog 167 #[.string (ba l)] w fun e w' => e = .returned (.tuple #[.string (ba (setS l).1), .string (ba (setS l).2.1), .bool (setS l).2.2.1, .bool (setS l).2.2.2]) ∧ Below w.heap.size w w' := by
 have HN : Hid (setS l = ((cutP 34 t).1, (cutP 59 (cutP 34 t).2.1).2.1, (cutP 59 (cutP 34 t).2.1).2.2, (cutP 34 t).2.2 && (trimBy isSp (cutP 59 (cutP 34 t).2.1).1).isEmpty)) := by
  unfold Hid setS; rw [if_pos (by rw [hh]; rfl), hh]; rfl
 have C1 : Hid (∀ w, Calls Tryz.prog 211 #[.string (ba l), .string ⟨#[34]⟩] w fun e w' => e = .returned (.tuple #[.string (ba t), .bool true]) ∧ w' = w) := fun w => cutPre_yes 34 (ba l) (ba t) w (by rw [ba_size]; omega) hh
 have ht : t.length ≤ 100000 := by rw [hh] at hs; simp at hs; omega
 have C2 : Hid (∀ w, Calls Tryz.prog 114 #[.string (ba t), .string ⟨#[34]⟩] w fun e w' => e = .returned (.tuple #[.string (ba (cutP 34 t).1), .string (ba (cutP 34 t).2.1), .bool (cutP 34 t).2.2]) ∧ Below w.heap.size w w') := fun w => cutP_any 34 t w (by omega)
 have hl := (cutP_length 34 t).2.1
 generalize cutP 34 t = x9 at *
 obtain ⟨v, u, k⟩ := x9
 simp only at *
 have C3 : Hid (∀ w, Calls Tryz.prog 114 #[.string (ba u), .string ⟨#[59]⟩] w fun e w' => e = .returned (.tuple #[.string (ba (cutP 59 u).1), .string (ba (cutP 59 u).2.1), .bool (cutP 59 u).2.2]) ∧ Below w.heap.size w w') := fun w => cutP_any 59 u w (by omega)
 have hl2 := (cutP_length 59 u).1
 generalize cutP 59 u = x9 at *
 obtain ⟨g, r, m⟩ := x9
 simp only at *
 have C4 : Hid (∀ w, Calls Tryz.prog 79 #[.string (ba g), .string ⟨#[32]⟩] w fun e w' => e = .returned (.string (ba (trimBy isSp g))) ∧ Below w.heap.size w w') := fun w => trimSp_any _ _ rfl w (by rw [ba_size]; omega)
 clear hl hl2 hh hs ht
 have hem := ba_isEmpty (trimBy isSp g)
 generalize (trimBy isSp g).isEmpty = em at *
 generalize ba (trimBy isSp g) = sg at *
 have HN' := HN.out
 rw [HN']
 clear HN HN'
 simp only
 generalize ba l = s at *
 generalize ba t = st at *
 generalize ba v = sv at *
 generalize ba u = su at *
 generalize ba r = sr at *
 generalize ba g = sgg at *
 cases k
 all_goals
  go_enter Tryz.func167, Tryz.ntmps167
  go_wp2_with fail
  refine (C1.out _).mono ?_
  rintro e w1 ⟨rfl, hw'⟩
  have hw'' := hw'.symm
  subst hw''
  clear C1
  go_wp2_with fail
  refine (C2.out _).mono ?_
  rintro e w2 ⟨rfl, hb2⟩
  clear C2
  go_wp2_with fail
  refine (C3.out _).mono ?_
  rintro e w3 ⟨rfl, hb3⟩
  have hb23 := hb2.trans (hb3.mono hb2.size)
  clear C3
 ·clear C4
  go_wp2
  (try simp only [Exit.inBlock, Exit.then])
  refine bodyPost_ret (results_tmp4 rfl _ _ _) rfl ?_
  exact ⟨rfl, hb23⟩
 ·go_wp2_with fail
  refine (C4.out _).mono ?_
  rintro e w4 ⟨rfl, hb4⟩
  have hb24 := hb23.trans (hb4.mono hb23.size)
  clear C4
  go_wp2
  (try simp only [Exit.inBlock, Exit.then])
  refine bodyPost_ret (results_tmp4 rfl _ _ _) rfl ?_
  exact ⟨rfl, hb24⟩
theorem setting_any (l : List UInt8) (w : World) (hs : l.length ≤ 100000) :
  Calls Tryz.prog 167 #[.string (ba l)] w fun e w' => e = .returned (.tuple #[.string (ba (setS l).1), .string (ba (setS l).2.1), .bool (setS l).2.2.1, .bool (setS l).2.2.2]) ∧ Below w.heap.size w w' := by
 by_cases hh : l.head? = some 34
 ·cases l with
  | nil => cases hh
  | cons a t =>
   rw [List.head?_cons] at hh
   obtain rfl := Option.some.inj hh
   exact setting_quoted _ t w hs rfl
 ·exact setting_plain l w hs hh
end Go.Proofs.YtlndhdimamnnlaaGreatDoor



namespace Go.Proofs.YtlndhdimamnnlaaGreatDoor
open Go.RowKit
def paramRes (l : List UInt8) : Fld × List UInt8 × Bool × Bool := if paramOk l = true then (paramFld l, (restS l).2.1, (restS l).2.2.1, true) else (([], []), [], false, false)
def ParamPost (w : World) (x : Fld × List UInt8 × Bool × Bool) (e : Ending) (w' : World) : Prop :=
 e = .returned (.tuple #[.agg #[.string (ba x.1.1), .string (ba x.1.2)], .string (ba x.2.1), .bool x.2.2.1, .bool x.2.2.2]) ∧ Below w.heap.size w w'
theorem made_two {w w1 : World} {t : TypeId} {x y : Value} (hb : Below (w.alloc (.cells #[x, y] t)).heap.size (w.alloc (.cells #[x, y] t)) w1) :
  w1.cell? ⟨w.heap.size, 0, none⟩ = some x ∧ w1.cell? ⟨w.heap.size, 1, none⟩ = some y ∧ w1.frozen? ⟨w.heap.size, 0, none⟩ = false ∧ w1.frozen? ⟨w.heap.size, 1, none⟩ = false ∧ w.heap.size < w1.heap.size ∧ Below w.heap.size w w1 := by
 have hs := hb.size
 rw [World.size_alloc] at hs
 refine ⟨?_, ?_, ?_, ?_, by omega, ((Below.refl _ _).alloc (Nat.le_refl _) _).trans (hb.mono (by simp))⟩
 ·rw [hb.cell (p := ⟨w.heap.size, 0, none⟩) (by simp)]; simp
 ·rw [hb.cell (p := ⟨w.heap.size, 1, none⟩) (by simp)]; simp
 ·rw [hb.frozen (p := ⟨w.heap.size, 0, none⟩) (by simp)]; simp
 ·rw [hb.frozen (p := ⟨w.heap.size, 1, none⟩) (by simp)]; simp
set_option maxHeartbeats 2000000 in
theorem param_noname (l : List UInt8) (w : World) (hs : l.length ≤ 100000) (hk : nameOk l = false) :
  Calls Tryz.prog 119 #[.string (ba l)] w fun e w' => ParamPost w (([], []), [], false, false) e w' := by
 have C1 : Hid (∀ w, Calls Tryz.prog 114 #[.string (ba l), .string ⟨#[61]⟩] w fun e w' => e = .returned (.tuple #[.string (ba (cutP 61 l).1), .string (ba (cutP 61 l).2.1), .bool (cutP 61 l).2.2]) ∧ Below w.heap.size w w') := fun w => cutP_any 61 l w (by omega)
 have hl := (cutP_length 61 l).1
 have C2 : Hid (∀ w, Calls Tryz.prog 79 #[.string (ba (cutP 61 l).1), .string ⟨#[32]⟩] w fun e w' => e = .returned (.string (ba (nameS l))) ∧ Below w.heap.size w w') := fun w => trimSp_any _ _ rfl w (by rw [ba_size]; omega)
 have hl2 : (nameS l).length ≤ l.length := Nat.le_trans (trimBy_length isSp _) hl
 have C3 : Hid (∀ w, Calls Tryz.prog 150 #[.string (ba (nameS l))] w fun e w' => e = .returned (.bool (tokenS (nameS l))) ∧ w' = w) := fun w => htok_any _ w (by rw [ba_size]; unfold maxLen; omega)
 rw [nameOk] at hk
 generalize tokenS (nameS l) = tk at *
 generalize ba (nameS l) = sn at *
 generalize cutP 61 l = x9 at *
 obtain ⟨a, r, m⟩ := x9
 simp only at *
 generalize ba l = s at *
 generalize ba a = sa at *
 generalize ba r = sr at *
 clear hl hl2 hs
 cases m
 ·clear C3 hk
  go_enter Tryz.func119, Tryz.ntmps119
  go_wp2_with fail
  refine (C1.out _).mono ?_
  rintro e w1 ⟨rfl, hb1⟩
  clear C1
  go_wp2_with fail
  refine (C2.out _).mono ?_
  rintro e w2 ⟨rfl, hb2⟩
  clear C2
  obtain ⟨m1, m2, m3, m4, m5, m6⟩ := made_two (hb1.trans (hb2.mono hb1.size))
  clear hb1 hb2
  go_wp2
  (try simp only [Exit.inBlock, Exit.then])
  refine bodyPost_ret (v := .tuple #[.agg #[.string ⟨#[]⟩, .string ⟨#[]⟩], .string ⟨#[]⟩, .bool false, .bool false]) ?_ rfl ⟨rfl, (m6.setCell (Nat.le_refl _) _).setCell (Nat.le_refl _) _⟩
  rw [results_cell4 rfl]
  go_simp
 ·have hk' : tk = false := by simpa using hk
  subst hk'
  clear hk
  go_enter Tryz.func119, Tryz.ntmps119
  go_wp2_with fail
  refine (C1.out _).mono ?_
  rintro e w1 ⟨rfl, hb1⟩
  clear C1
  go_wp2_with fail
  refine (C2.out _).mono ?_
  rintro e w2 ⟨rfl, hb2⟩
  clear C2
  go_wp2_with fail
  refine (C3.out _).mono ?_
  rintro e w' ⟨rfl, hw'⟩
  have hw'' := hw'.symm
  subst hw''
  clear C3
  obtain ⟨m1, m2, m3, m4, m5, m6⟩ := made_two (hb1.trans (hb2.mono hb1.size))
  clear hb1 hb2
  go_wp2
  (try simp only [Exit.inBlock, Exit.then])
  refine bodyPost_ret (v := .tuple #[.agg #[.string ⟨#[]⟩, .string ⟨#[]⟩], .string ⟨#[]⟩, .bool false, .bool false]) ?_ rfl ⟨rfl, (m6.setCell (Nat.le_refl _) _).setCell (Nat.le_refl _) _⟩
  rw [results_cell4 rfl]
  go_simp
set_option maxHeartbeats 2000000 in
theorem param_named (l : List UInt8) (w : World) (hs : l.length ≤ 100000) (hk : nameOk l = true) :
  Calls Tryz.prog 119 #[.string (ba l)] w fun e w' => ParamPost w (paramRes l) e w' := by
 have hrl := restS_length l hk
 have C1 : Hid (∀ w, Calls Tryz.prog 114 #[.string (ba l), .string ⟨#[61]⟩] w fun e w' => e = .returned (.tuple #[.string (ba (cutP 61 l).1), .string (ba (cutP 61 l).2.1), .bool (cutP 61 l).2.2]) ∧ Below w.heap.size w w') := fun w => cutP_any 61 l w (by omega)
 have hl := (cutP_length 61 l).1
 have hlr := (cutP_length 61 l).2.1
 have C2 : Hid (∀ w, Calls Tryz.prog 79 #[.string (ba (cutP 61 l).1), .string ⟨#[32]⟩] w fun e w' => e = .returned (.string (ba (nameS l))) ∧ Below w.heap.size w w') := fun w => trimSp_any _ _ rfl w (by rw [ba_size]; omega)
 have hl2 : (nameS l).length ≤ l.length := Nat.le_trans (trimBy_length isSp _) hl
 have htk : tokenS (nameS l) = true := by rw [nameOk, Bool.and_eq_true] at hk; exact hk.2
 have hm : (cutP 61 l).2.2 = true := by rw [nameOk, Bool.and_eq_true] at hk; exact hk.1
 have C3 : Hid (∀ w, Calls Tryz.prog 150 #[.string (ba (nameS l))] w fun e w' => e = .returned (.bool true) ∧ w' = w) := fun w => by rw [← htk]; exact htok_any _ w (by rw [ba_size]; unfold maxLen; omega)
 have C4 : Hid (∀ w, Calls Tryz.prog 168 #[.string (ba (cutP 61 l).2.1), .string ⟨#[32]⟩] w fun e w' => e = .returned (.string (ba ((cutP 61 l).2.1.dropWhile isSp))) ∧ w' = w) := fun w => trimLSp_any _ _ rfl w
 have hl3 := (List.dropWhile_sublist isSp (l := (cutP 61 l).2.1)).length_le
 have C5 : Hid (∀ w, Calls Tryz.prog 167 #[.string (ba ((cutP 61 l).2.1.dropWhile isSp))] w fun e w' => e = .returned (.tuple #[.string (ba (restS l).1), .string (ba (restS l).2.1), .bool (restS l).2.2.1, .bool (restS l).2.2.2]) ∧ Below w.heap.size w w') := fun w => setting_any _ w (by omega)
 have C6 : Hid (∀ w, Calls Tryz.prog 120 #[.string (ba (nameS l))] w fun e w' => e = .returned (.string (ba (small8 (nameS l)))) ∧ Below w.heap.size w w') := fun w => small_any _ w (by omega) (fun c hc => by have := ((token_facts htk).2.2 c hc).2.1; omega)
 have HR : Hid (paramRes l = if (restS l).2.2.2 = true then ((small8 (nameS l), (restS l).1), (restS l).2.1, (restS l).2.2.1, true) else (([], []), [], false, false)) := by
  unfold Hid paramRes paramOk paramFld
  rw [hk, Bool.true_and]
 rw [HR.out]
 rw [hm] at C1
 clear HR hrl hl hlr hl2 htk hm hl3 hk
 generalize restS l = y at *
 obtain ⟨v, r2, mo, ok⟩ := y
 simp only at *
 generalize ba ((cutP 61 l).2.1.dropWhile isSp) = sd at *
 generalize (cutP 61 l).2.1 = r at *
 generalize (cutP 61 l).1 = a at *
 generalize ba (nameS l) = sn at *
 generalize small8 (nameS l) = sm at *
 generalize ba l = s at *
 generalize ba a = sa at *
 generalize ba r = sr at *
 clear hs
 cases ok
 ·clear C6
  rw [if_neg (by simp)]
  generalize ba v = sv at *
  generalize ba r2 = sr2 at *
  go_enter Tryz.func119, Tryz.ntmps119
  go_wp2_with fail
  refine (C1.out _).mono ?_
  rintro e w1 ⟨rfl, hb1⟩
  clear C1
  go_wp2_with fail
  refine (C2.out _).mono ?_
  rintro e w2 ⟨rfl, hb2⟩
  clear C2
  go_wp2_with fail
  refine (C3.out _).mono ?_
  rintro e w' ⟨rfl, hw'⟩
  have hw'' := hw'.symm
  subst hw''
  clear C3
  go_wp2_with fail
  refine (C4.out _).mono ?_
  rintro e w' ⟨rfl, hw'⟩
  have hw'' := hw'.symm
  subst hw''
  clear C4
  go_wp2_with fail
  refine (C5.out _).mono ?_
  rintro e w3 ⟨rfl, hb3⟩
  clear C5
  have hb12 := hb1.trans (hb2.mono hb1.size)
  obtain ⟨m1, m2, m3, m4, m5, m6⟩ := made_two (hb12.trans (hb3.mono hb12.size))
  clear hb1 hb2 hb3 hb12
  go_wp2
  (try simp only [Exit.inBlock, Exit.then])
  refine bodyPost_ret (v := .tuple #[.agg #[.string ⟨#[]⟩, .string ⟨#[]⟩], .string ⟨#[]⟩, .bool false, .bool false]) ?_ rfl ⟨rfl, (m6.setCell (Nat.le_refl _) _).setCell (Nat.le_refl _) _⟩
  rw [results_cell4 rfl]
  go_simp
 ·rw [if_pos rfl]
  unfold ParamPost
  simp only
  generalize ba v = sv at *
  generalize ba r2 = sr2 at *
  generalize ba sm = ssm at *
  go_enter Tryz.func119, Tryz.ntmps119
  go_wp2_with fail
  refine (C1.out _).mono ?_
  rintro e w1 ⟨rfl, hb1⟩
  clear C1
  go_wp2_with fail
  refine (C2.out _).mono ?_
  rintro e w2 ⟨rfl, hb2⟩
  clear C2
  go_wp2_with fail
  refine (C3.out _).mono ?_
  rintro e w' ⟨rfl, hw'⟩
  have hw'' := hw'.symm
  subst hw''
  clear C3
  go_wp2_with fail
  refine (C4.out _).mono ?_
  rintro e w' ⟨rfl, hw'⟩
  have hw'' := hw'.symm
  subst hw''
  clear C4
  go_wp2_with fail
  refine (C5.out _).mono ?_
  rintro e w3 ⟨rfl, hb3⟩
  clear C5
  go_wp2_with fail
  refine (C6.out _).mono ?_
  rintro e w4 ⟨rfl, hb4⟩
  clear C6
  have hb12 := hb1.trans (hb2.mono hb1.size)
  have hb13 := hb12.trans (hb3.mono hb12.size)
  obtain ⟨m1, m2, m3, m4, m5, m6⟩ := made_two (hb13.trans (hb4.mono hb13.size))
  clear hb1 hb2 hb3 hb12 hb13 hb4
  go_wp2
  (try simp only [Exit.inBlock, Exit.then])
  refine bodyPost_ret (v := .tuple #[.agg #[.string ssm, .string sv], .string sr2, .bool mo, .bool true]) ?_ rfl ⟨rfl, (m6.setCell (Nat.le_refl _) _).setCell (Nat.le_refl _) _⟩
  rw [results_cell4 rfl]
  go_simp
theorem param_any (l : List UInt8) (w : World) (hs : l.length ≤ 100000) :
  Calls Tryz.prog 119 #[.string (ba l)] w fun e w' => ParamPost w (paramRes l) e w' := by
 cases hk : nameOk l
 ·have : paramRes l = (([], []), [], false, false) := by rw [paramRes, if_neg (by rw [paramOk, hk]; simp)]
  rw [this]
  exact param_noname l w hs hk
 ·exact param_named l w hs hk
end Go.Proofs.YtlndhdimamnnlaaGreatDoor



namespace Go.Proofs.YtlndhdimamnnlaaGreatDoor
open Go.RowKit
def getE (E : ByteArray → Bool) (l : List FV) : ByteArray := match l.find? (fun f => E f.1) with | none => ⟨#[]⟩ | some f => f.2
theorem getE_yes (E : ByteArray → Bool) (f : FV) (l : List FV) (h : E f.1 = true) : getE E (f :: l) = f.2 := by simp [getE, h]
theorem getE_no (E : ByteArray → Bool) (f : FV) (l : List FV) (h : E f.1 = false) : getE E (f :: l) = getE E l := by simp [getE, h]
set_option maxHeartbeats 1000000 in
theorem hget_some (E : ByteArray → Bool) (nm : ByteArray) (b o n c : Nat) (l : List FV) (en : n = l.length) (w : World) (h0 : 1 ≤ n) (hn : n ≤ maxLen)
  (hE : ∀ f ∈ l, ∀ w', Below w.heap.size w w' → Calls Tryz.prog 83 #[.string f.1, .string nm] w' fun e w'' => e = .returned (.bool (E f.1)) ∧ Below w'.heap.size w' w'')
  (hc : ∀ i, i < n → w.cell? ⟨b, o + i * 2, none⟩ = some (.string (l.getD i default).1) ∧ w.cell? ⟨b, o + i * 2 + 1, none⟩ = some (.string (l.getD i default).2)) :
  Calls Tryz.prog 65 #[.slice (some ⟨b, o, none⟩) n c, .string nm] w fun e w' => e = .returned (.string (getE E l)) ∧ Below w.heap.size w w' := by
 unfold maxLen at hn
 have hbB : b < w.heap.size := World.block_lt_of_cell? w _ (hc 0 (by omega)).1
 have HL : Hid (n = l.length) := en
 have HE : Hid (∀ f ∈ l, ∀ w', Below w.heap.size w w' → Calls Tryz.prog 83 #[.string f.1, .string nm] w' fun e w'' => e = .returned (.bool (E f.1)) ∧ Below w'.heap.size w' w'') := hE
 clear en hE
 go_enter Tryz.func65, Tryz.ntmps65
 go_wp2
 go_loopw [9] (fun iv wr => ∃ k : Nat, k ≤ n ∧ iv = .int .i64 k ∧ Below w.heap.size w wr ∧ Hid (getE E (l.drop k) = getE E l)) (fun iv _ => n - (intOf iv).toNat)
 case atStart => exact ⟨0, Nat.zero_le _, rfl, Below.refl _ _, rfl⟩
 case round =>
  obtain ⟨k, hk, rfl, hbel, HK⟩ := hrel
  have hsz := hbel.size
  by_cases hlt : k < n
  ·have hkl : k < l.length := by rw [← HL.out]; exact hlt
   have hc1 : wr.cell? ⟨b, o + k * 2, none⟩ = some (.string (l.getD k default).1) := (hbel.cell (p := ⟨b, o + k * 2, none⟩) hbB).trans (hc k hlt).1
   have hc2 : wr.cell? ⟨b, o + k * 2 + 1, none⟩ = some (.string (l.getD k default).2) := (hbel.cell (p := ⟨b, o + k * 2 + 1, none⟩) hbB).trans (hc k hlt).2
   have CE : Hid (∀ w', Below w.heap.size w w' → Calls Tryz.prog 83 #[.string (l.getD k default).1, .string nm] w' fun e w'' => e = .returned (.bool (E (l.getD k default).1)) ∧ Below w'.heap.size w' w'') := HE.out _ (fv_mem l k hkl)
   have hdr := fv_at l k hkl
   have HY : Hid (E (l.getD k default).1 = true → getE E l = (l.getD k default).2) := fun h => by rw [← HK.out, hdr, getE_yes E _ _ h]
   have HN : Hid (E (l.getD k default).1 = false → getE E (l.drop (k + 1)) = getE E l) := fun h => by rw [← HK.out, hdr, getE_no E _ _ h]
   clear hc hdr HK
   generalize l.getD k default = f at *
   obtain ⟨A, B⟩ := f
   simp only at hc1 hc2 CE HY HN
   cases hE : E A
   ·rw [hE] at CE
    have HN' : Hid (getE E (l.drop (k + 1)) = getE E l) := HN.out hE
    clear HY HN hE
    go_wp2_with fail
    refine (CE.out _ (hbel.alloc hsz _)).mono ?_
    rintro e w2 ⟨rfl, hb2⟩
    clear CE
    go_wp2
    go_roundw
    case rel => exact ⟨k + 1, by omega, by go_num, (hbel.alloc hsz _).trans (hb2.mono (by simp; omega)), HN'⟩
    case measure => simp [intOf]; omega
   ·rw [hE] at CE
    have HY' : Hid (getE E l = B) := HY.out hE
    clear HY HN hE
    go_wp2_with fail
    refine (CE.out _ (hbel.alloc hsz _)).mono ?_
    rintro e w2 ⟨rfl, hb2⟩
    clear CE
    have hm2 : w2.cell? ⟨wr.heap.size, 1, none⟩ = some (.string B) := by rw [hb2.cell (p := ⟨wr.heap.size, 1, none⟩) (by simp)]; simp
    go_wp2
    go_ret
    exact ⟨by rw [HY'.out]; rfl, (hbel.alloc hsz _).trans (hb2.mono (by simp; omega))⟩
  ·obtain rfl : k = n := by omega
   have HN : Hid (getE E l = ⟨#[]⟩) := by unfold Hid; rw [← HK.out, HL.out, List.drop_length]; rfl
   clear hc
   go_wp2
   go_ret
   exact ⟨by rw [HN.out]; rfl, hbel⟩
theorem hget_any (E : ByteArray → Bool) (nm : ByteArray) (p : Option Addr) (n c : Nat) (l : List FV) (en : n = l.length) (w : World) (hn : n ≤ maxLen)
  (hE : ∀ f ∈ l, ∀ w', Below w.heap.size w w' → Calls Tryz.prog 83 #[.string f.1, .string nm] w' fun e w'' => e = .returned (.bool (E f.1)) ∧ Below w'.heap.size w' w'') (hr : FRow w p l) :
  Calls Tryz.prog 65 #[.slice p n c, .string nm] w fun e w' => e = .returned (.string (getE E l)) ∧ Below w.heap.size w w' := by
 by_cases h0 : l = []
 ·subst h0
  obtain rfl : n = 0 := en
  clear hE hr hn
  go_enter Tryz.func65, Tryz.ntmps65
  go_wp2
  refine wp_loop_rounds 1 ?_
  rw [rounds_succ]
  go_wp2
  go_ret
  exact ⟨rfl, Below.refl _ _⟩
 ·obtain ⟨b, o, rfl, hc⟩ := hr h0
  rw [← en] at hc
  exact hget_some E nm b o n c l en w (by rw [en]; exact List.length_pos_iff.2 h0) hn hE hc
end Go.Proofs.YtlndhdimamnnlaaGreatDoor

