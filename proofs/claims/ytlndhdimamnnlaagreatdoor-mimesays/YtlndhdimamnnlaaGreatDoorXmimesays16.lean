
import Derived.Test.YtlndhdimamnnlaaGreatDoorXmimesays15
namespace Go.Proofs.YtlndhdimamnnlaaGreatDoor
open Go.RowKit
theorem zero_set (w : World) : (zeroValue 121).run Tryz.prog w = .ok (.agg (Array.replicate 256 (.bool false))) w := by kernel_rfl
theorem has_any (g : Nat) (c : UInt8) (cc : Int) (e : cc = (c.toNat : Int)) (v : Bool) (w : World) (hc : w.cell? ⟨g, c.toNat, none⟩ = some (.bool v)) :
  Calls Tryz.prog 141 #[.pointer (some ⟨g, 0, none⟩), .int .u8 cc] w fun e w' => e = .returned (.bool v) ∧ w' = w := by
 subst e
 have := c.toNat_lt
 go_enter Tryz.func141, Tryz.ntmps141
 go_wp2
 go_ret
 exact ⟨rfl, rfl⟩
theorem cut_two (a b : UInt8) : (ByteArray.mk #[a, b]).extract 0 1 = ⟨#[a]⟩ := rfl
theorem cut_one (a : UInt8) : (ByteArray.mk #[a]).extract 0 0 = ⟨#[]⟩ := rfl
theorem tail_two (a b : UInt8) : (ByteArray.mk #[a, b]).extract 1 2 = ⟨#[b]⟩ := rfl
set_option maxHeartbeats 1000000 in
theorem right2 (g : Nat) (a b : UInt8) (va vb : Bool) (w : World) (ha : w.cell? ⟨g, a.toNat, none⟩ = some (.bool va)) (hb : w.cell? ⟨g, b.toNat, none⟩ = some (.bool vb)) :
  Calls Tryz.prog 94 #[.string ⟨#[a, b]⟩, .pointer (some ⟨g, 0, none⟩)] w fun e w' => e = .returned (.string (if vb = true then (if va = true then ⟨#[]⟩ else ⟨#[a]⟩) else ⟨#[a, b]⟩)) ∧ w' = w := by
 have x1 := cut_two a b
 have x2 := cut_one a
 cases vb
 ·go_enter Tryz.func94, Tryz.ntmps94
  go_wp2_with fail
  refine wp_loop_rounds 1 ?_
  rw [rounds_succ]
  go_wp2_with fail
  refine (has_any g b _ rfl false w hb).mono ?_
  rintro e w' ⟨rfl, hw'⟩
  have hw'' := hw'.symm
  subst hw''
  go_wp2
  go_ret
  exact ⟨rfl, rfl⟩
 ·cases va
  ·go_enter Tryz.func94, Tryz.ntmps94
   go_wp2_with fail
   refine wp_loop_rounds 2 ?_
   rw [rounds_succ]
   go_wp2_with fail
   refine (has_any g b _ rfl true w hb).mono ?_
   rintro e w' ⟨rfl, hw'⟩
   have hw'' := hw'.symm
   subst hw''
   go_wp2
   rw [rounds_succ]
   go_wp2_with fail
   refine (has_any g a _ rfl false w ha).mono ?_
   rintro e w' ⟨rfl, hw'⟩
   have hw'' := hw'.symm
   subst hw''
   go_wp2
   go_ret
   exact ⟨rfl, rfl⟩
  ·go_enter Tryz.func94, Tryz.ntmps94
   go_wp2_with fail
   refine wp_loop_rounds 3 ?_
   rw [rounds_succ]
   go_wp2_with fail
   refine (has_any g b _ rfl true w hb).mono ?_
   rintro e w' ⟨rfl, hw'⟩
   have hw'' := hw'.symm
   subst hw''
   go_wp2
   rw [rounds_succ]
   go_wp2_with fail
   refine (has_any g a _ rfl true w ha).mono ?_
   rintro e w' ⟨rfl, hw'⟩
   have hw'' := hw'.symm
   subst hw''
   go_wp2
   rw [rounds_succ]
   go_wp2
   go_ret
   exact ⟨rfl, rfl⟩
theorem left0 (g : Nat) (w : World) :
  Calls Tryz.prog 128 #[.string ⟨#[]⟩, .pointer (some ⟨g, 0, none⟩)] w fun e w' => e = .returned (.string ⟨#[]⟩) ∧ w' = w := by
 go_enter Tryz.func128, Tryz.ntmps128
 go_wp2_with fail
 refine wp_loop_rounds 1 ?_
 rw [rounds_succ]
 go_wp2
 go_ret
 exact ⟨rfl, rfl⟩
set_option maxHeartbeats 1000000 in
theorem left1 (g : Nat) (a : UInt8) (w : World) (ha : w.cell? ⟨g, a.toNat, none⟩ = some (.bool false)) :
  Calls Tryz.prog 128 #[.string ⟨#[a]⟩, .pointer (some ⟨g, 0, none⟩)] w fun e w' => e = .returned (.string ⟨#[a]⟩) ∧ w' = w := by
 go_enter Tryz.func128, Tryz.ntmps128
 go_wp2_with fail
 refine wp_loop_rounds 1 ?_
 rw [rounds_succ]
 go_wp2_with fail
 refine (has_any g a _ rfl false w ha).mono ?_
 rintro e w' ⟨rfl, hw'⟩
 have hw'' := hw'.symm
 subst hw''
 go_wp2
 go_ret
 exact ⟨rfl, rfl⟩
set_option maxHeartbeats 1000000 in
theorem left2 (g : Nat) (a b : UInt8) (va : Bool) (w : World) (ha : w.cell? ⟨g, a.toNat, none⟩ = some (.bool va)) (hb : w.cell? ⟨g, b.toNat, none⟩ = some (.bool false)) :
  Calls Tryz.prog 128 #[.string ⟨#[a, b]⟩, .pointer (some ⟨g, 0, none⟩)] w fun e w' => e = .returned (.string (if va = true then ⟨#[b]⟩ else ⟨#[a, b]⟩)) ∧ w' = w := by
 have x1 := tail_two a b
 cases va
 ·go_enter Tryz.func128, Tryz.ntmps128
  go_wp2_with fail
  refine wp_loop_rounds 1 ?_
  rw [rounds_succ]
  go_wp2_with fail
  refine (has_any g a _ rfl false w ha).mono ?_
  rintro e w' ⟨rfl, hw'⟩
  have hw'' := hw'.symm
  subst hw''
  go_wp2
  go_ret
  exact ⟨rfl, rfl⟩
 ·go_enter Tryz.func128, Tryz.ntmps128
  go_wp2_with fail
  refine wp_loop_rounds 2 ?_
  rw [rounds_succ]
  go_wp2_with fail
  refine (has_any g a _ rfl true w ha).mono ?_
  rintro e w' ⟨rfl, hw'⟩
  have hw'' := hw'.symm
  subst hw''
  go_wp2
  rw [rounds_succ]
  go_wp2_with fail
  refine (has_any g b _ rfl false w hb).mono ?_
  rintro e w' ⟨rfl, hw'⟩
  have hw'' := hw'.symm
  subst hw''
  go_wp2
  go_ret
  exact ⟨rfl, rfl⟩
set_option maxHeartbeats 2000000 in
set_option maxRecDepth 100000 in
theorem trim_hex (a b : UInt8) (w : World) :
  Calls Tryz.prog 79 #[.string ⟨#[a, b]⟩, .string ⟨#[48, 49, 50, 51, 52, 53, 54, 55, 56, 57, 65, 66, 67, 68, 69, 70, 97, 98, 99, 100, 101, 102]⟩] w fun e w' =>
   ∃ r : ByteArray, r.toList.isEmpty = (isHex a && isHex b) ∧ e = .returned (.string r) ∧ Below w.heap.size w w' := by
 go_enter Tryz.func79, Tryz.ntmps79
 go_wp2_with fail
 refine (Tryz.strings_makeASCIISet zero_set ⟨#[48, 49, 50, 51, 52, 53, 54, 55, 56, 57, 65, 66, 67, 68, 69, 70, 97, 98, 99, 100, 101, 102]⟩ w (by decide) (fun j c hc => (List.all_eq_true.1 (show hexl.all (fun c => decide (c.toNat < 128)) = true by decide) c (List.mem_of_getElem? hc) |> of_decide_eq_true))).mono ?_
 rintro e w1 ⟨rfl, rfl⟩
 have hA1 : (Lib.setCells (ByteArray.mk #[48, 49, 50, 51, 52, 53, 54, 55, 56, 57, 65, 66, 67, 68, 69, 70, 97, 98, 99, 100, 101, 102]).data.toList).size = 256 := Lib.setCells_size _
 have hA2 : ∀ c : UInt8, (Lib.setCells (ByteArray.mk #[48, 49, 50, 51, 52, 53, 54, 55, 56, 57, 65, 66, 67, 68, 69, 70, 97, 98, 99, 100, 101, 102]).data.toList)[c.toNat]? = some (.bool (isHex c)) := fun c => Lib.setCells_at _ c
 have HA3 : Hid ((Lib.setCells (ByteArray.mk #[48, 49, 50, 51, 52, 53, 54, 55, 56, 57, 65, 66, 67, 68, 69, 70, 97, 98, 99, 100, 101, 102]).data.toList).all (·.oneCell') = true) := Lib.setCells_one _
 generalize Lib.setCells (ByteArray.mk #[48, 49, 50, 51, 52, 53, 54, 55, 56, 57, 65, 66, 67, 68, 69, 70, 97, 98, 99, 100, 101, 102]).data.toList = SA at *
 have hA3 : SA.all (·.oneCell') = true := HA3.out
 have hsc : (storeCells ⟨w.heap.size + 1, 0, none⟩ SA.toList 0).run Tryz.prog ((w.alloc (.cells SA 121)).alloc (.cells Tryz.zeroCells121 121)) = .ok () ((w.alloc (.cells SA 121)).alloc (.cells SA 121)) := by
  have := run_storeCells_new (P := Tryz.prog) (w.alloc (.cells SA 121)) 121 Tryz.zeroCells121 SA (by rw [hA1]; kernel_rfl) (by rw [hA1]; kernel_rfl) hA3
  simpa using this
 have hcell : ∀ c : UInt8, ((w.alloc (.cells SA 121)).alloc (.cells SA 121)).cell? ⟨w.heap.size + 1, c.toNat, none⟩ = some (.bool (isHex c)) := fun c => by
  rw [World.cell?_alloc_at _ _ _ _ (by simp)]; exact hA2 c
 have hb2 : Below w.heap.size w ((w.alloc (.cells SA 121)).alloc (.cells SA 121)) := ((Below.refl _ _).alloc (Nat.le_refl _) _).alloc (by simp) _
 clear hA2 hA3 HA3
 go_wp2_with fail
 clear hsc
 generalize ((w.alloc (.cells SA 121)).alloc (.cells SA 121)) = w2 at *
 have ha := hcell a
 have hb := hcell b
 clear hcell
 obtain ⟨va, hva⟩ : ∃ v, isHex a = v := ⟨_, rfl⟩
 obtain ⟨vb, hvb⟩ : ∃ v, isHex b = v := ⟨_, rfl⟩
 rw [hva] at ha
 rw [hvb] at hb
 have HV : Hid (isHex a = va ∧ isHex b = vb) := ⟨hva, hvb⟩
 clear hva hvb
 refine (right2 (w.heap.size + 1) a b va vb w2 ha hb).mono ?_
 rintro e w3 ⟨rfl, hw3⟩
 have hw3' := hw3.symm
 subst hw3'
 cases vb
 ·rw [if_neg (by decide)]
  cases va
  ·go_wp2_with fail
   refine (left2 (w.heap.size + 1) a b false w2 ha hb).mono ?_
   rintro e w3 ⟨rfl, hw3⟩
   have hw3' := hw3.symm
   subst hw3'
   rw [if_neg (by decide)]
   go_wp2
   go_ret
   exact ⟨_, by rw [HV.out.1, HV.out.2, ByteArray.toList_eq]; rfl, rfl, hb2⟩
  ·go_wp2_with fail
   refine (left2 (w.heap.size + 1) a b true w2 ha hb).mono ?_
   rintro e w3 ⟨rfl, hw3⟩
   have hw3' := hw3.symm
   subst hw3'
   rw [if_pos rfl]
   go_wp2
   go_ret
   exact ⟨_, by rw [HV.out.1, HV.out.2, ByteArray.toList_eq]; rfl, rfl, hb2⟩
 ·rw [if_pos rfl]
  cases va
  ·rw [if_neg (by decide)]
   go_wp2_with fail
   refine (left1 (w.heap.size + 1) a w2 ha).mono ?_
   rintro e w3 ⟨rfl, hw3⟩
   have hw3' := hw3.symm
   subst hw3'
   go_wp2
   go_ret
   exact ⟨_, by rw [HV.out.1, HV.out.2, ByteArray.toList_eq]; rfl, rfl, hb2⟩
  ·rw [if_pos rfl]
   go_wp2_with fail
   refine (left0 (w.heap.size + 1) w2).mono ?_
   rintro e w3 ⟨rfl, hw3⟩
   have hw3' := hw3.symm
   subst hw3'
   go_wp2
   go_ret
   exact ⟨_, by rw [HV.out.1, HV.out.2, ByteArray.toList_eq]; rfl, rfl, hb2⟩
end Go.Proofs.YtlndhdimamnnlaaGreatDoor



namespace Go.Proofs.YtlndhdimamnnlaaGreatDoor
open Go.RowKit
theorem indexByte_cases (c : UInt8) : ∀ l : List UInt8, (Lib.indexByte l c = -1 ∧ ∀ x ∈ l, x ≠ c) ∨ ∃ I : Nat, Lib.indexByte l c = (I : Int) ∧ I < l.length ∧ l = l.take I ++ c :: l.drop (I + 1) ∧ ∀ x ∈ l.take I, x ≠ c
 | [] => .inl ⟨rfl, by simp⟩
 | b :: l => by
  by_cases hb : b = c
  ·subst hb
   exact .inr ⟨0, by simp [Lib.indexByte], by simp, by simp, by simp⟩
  ·rcases indexByte_cases c l with ⟨h, hn⟩ | ⟨I, h, hl, he, hn⟩
   ·refine .inl ⟨by simp [Lib.indexByte, hb, h], ?_⟩
    intro x hx
    rcases List.mem_cons.1 hx with rfl | hx
    ·exact hb
    ·exact hn x hx
   ·refine .inr ⟨I + 1, ?_, by simp; omega, by simpa using he, ?_⟩
    ·have : ¬ ((I : Int) = -1) := by omega
     simp [Lib.indexByte, hb, h, this]
    ·intro x hx
     rw [List.take_succ_cons] at hx
     rcases List.mem_cons.1 hx with rfl | hx
     ·exact hb
     ·exact hn x hx
def CutPost (w : World) (s : ByteArray) (e : Ending) (w' : World) : Prop :=
 Below w.heap.size w w' ∧ ((e = .returned (.tuple #[.string s, .string ⟨#[]⟩, .bool false]) ∧ ∀ c ∈ s.data.toList, c ≠ 10) ∨
  ∃ a r : ByteArray, e = .returned (.tuple #[.string a, .string r, .bool true]) ∧ s.data.toList = a.data.toList ++ 10 :: r.data.toList ∧ ∀ c ∈ a.data.toList, c ≠ 10)
set_option maxHeartbeats 1000000 in
theorem cut_lite (s : ByteArray) (w : World) (hs : s.size ≤ 16000) :
  Calls Tryz.prog 163 #[.string s, .string ⟨#[10]⟩] w fun e w' => CutPost w s e w' := by
 rcases indexByte_cases 10 s.data.toList with ⟨h, hn⟩ | ⟨I, h, hl, he, hn⟩
 ·have HN : Hid (∀ c ∈ s.data.toList, c ≠ 10) := hn
  clear hn
  go_enter Tryz.func163, Tryz.ntmps163
  go_wp2_with fail
  refine (Tryz.stringslite_Index_one s 10 w).mono ?_
  rintro e w' ⟨rfl, hw'⟩
  have hw'' := hw'.symm
  subst hw''
  rw [h]
  go_wp2
  go_ret3
  exact ⟨Below.refl _ _, .inl ⟨rfl, HN.out⟩⟩
 ·have hI : I < s.size := by rw [Lib.size_eq]; exact hl
  have HX : Hid (∃ a r : ByteArray, s.extract 0 I = a ∧ s.extract (I + 1) s.size = r ∧ s.data.toList = a.data.toList ++ 10 :: r.data.toList ∧ ∀ c ∈ a.data.toList, c ≠ 10) := by
   refine ⟨_, _, rfl, rfl, ?_, ?_⟩
   ·rw [Lib.extract_data, Lib.extract_data, List.drop_zero, Nat.sub_zero, List.take_of_length_le (l := List.drop (I + 1) s.data.toList) (by rw [List.length_drop, ← Lib.size_eq]; omega)]
    exact he
   ·rw [Lib.extract_data, List.drop_zero, Nat.sub_zero]
    exact hn
  clear he hn hl
  obtain ⟨A, R, h1, h2, h3, h4⟩ := HX.out
  have H3 : Hid (s.data.toList = A.data.toList ++ 10 :: R.data.toList) := h3
  have H4 : Hid (∀ c ∈ A.data.toList, c ≠ 10) := h4
  clear h3 h4 HX
  go_enter Tryz.func163, Tryz.ntmps163
  go_wp2_with fail
  refine (Tryz.stringslite_Index_one s 10 w).mono ?_
  rintro e w' ⟨rfl, hw'⟩
  have hw'' := hw'.symm
  subst hw''
  rw [h]
  clear h
  go_wp2
  go_region
  go_wp2
  go_ret3
  exact ⟨(Below.refl _ _).drew, .inr ⟨A, R, rfl, H3.out, H4.out⟩⟩
theorem cut_ten (s : ByteArray) (w : World) (hs : s.size ≤ 16000) :
  Calls Tryz.prog 114 #[.string s, .string ⟨#[10]⟩] w fun e w' => CutPost w s e w' := by
 go_enter Tryz.func114, Tryz.ntmps114
 go_wp2_with fail
 refine (cut_lite s w hs).mono ?_
 rintro e w1 ⟨hb, ⟨rfl, hn⟩ | ⟨A, R, rfl, h3, h4⟩⟩
 ·have HN : Hid (∀ c ∈ s.data.toList, c ≠ 10) := hn
  clear hn
  go_wp2
  go_ret3
  exact ⟨hb, .inl ⟨rfl, HN.out⟩⟩
 ·have H3 : Hid (s.data.toList = A.data.toList ++ 10 :: R.data.toList) := h3
  have H4 : Hid (∀ c ∈ A.data.toList, c ≠ 10) := h4
  clear h3 h4
  go_wp2
  go_ret3
  exact ⟨hb, .inr ⟨A, R, rfl, H3.out, H4.out⟩⟩
theorem blank_in (c : UInt8) : [32, 9, 13].contains c = blankQ c := by
 have : ∀ n : Fin 256, [32, 9, 13].contains (UInt8.ofNat n.val) = blankQ (UInt8.ofNat n.val) := by decide +kernel
 have h := this ⟨c.toNat, c.toNat_lt⟩
 rwa [show UInt8.ofNat c.toNat = c from UInt8.ofNat_toNat] at h
theorem strv_eq {s : ByteArray} {l : List UInt8} (h : s.data.toList = l) : Value.string s = .string ⟨l.toArray⟩ := by
 subst h
 rfl
theorem ba_last (t : ByteArray) (n : Nat) (h : t.size = n + 1) : ∃ (c : UInt8) (t8 : ByteArray), t[n] = c ∧ t.extract 0 n = t8 ∧ t8.size = n ∧ t.data.toList = t8.data.toList ++ [c] := by
 obtain ⟨c, t8, h1, h2, h3, h4⟩ := ba_snoc t n h
 refine ⟨_, t8, rfl, h2, h3, ?_⟩
 have e : t.data.toList[n]'(by rw [← Lib.size_eq]; omega) = c := by
  simp only [h4]
  rw [List.getElem_append_right (by rw [← Lib.size_eq]; omega)]
  simp
 rw [h4]
 congr 2
 rw [← e]
 rfl
set_option maxHeartbeats 1000000 in
theorem right_blank (g : Nat) (s : ByteArray) (w : World) (hs : s.size ≤ 16000) (hg : ∀ c : UInt8, w.cell? ⟨g, c.toNat, none⟩ = some (.bool (blankQ c))) :
  Calls Tryz.prog 94 #[.string s, .pointer (some ⟨g, 0, none⟩)] w fun e w' => e = .returned (.string ⟨(stripR s.data.toList).toArray⟩) ∧ w' = w := by
 have HG : Hid (∀ c : UInt8, w.cell? ⟨g, c.toNat, none⟩ = some (.bool (blankQ c))) := hg
 clear hg
 go_enter Tryz.func94, Tryz.ntmps94
 go_wp2
 go_loopw [0] (fun v wr => ∃ t : ByteArray, v = .string t ∧ t.size ≤ s.size ∧ wr = w ∧ Hid (stripR t.data.toList = stripR s.data.toList)) (fun v _ => strLen v)
 case atStart => exact ⟨s, rfl, Nat.le_refl _, rfl, rfl⟩
 case round =>
  obtain ⟨t, rfl, hts, rfl, HT⟩ := hrel
  rcases Nat.eq_zero_or_pos t.size with h0 | h0
  ·go_wp2
   go_ret
   have e : t.data.toList = [] := List.length_eq_zero_iff.1 (by rw [← Lib.size_eq]; exact h0)
   exact ⟨congrArg Ending.returned (strv_eq (by rw [← HT.out, e]; rfl)), rfl⟩
  ·obtain ⟨n, hn⟩ : ∃ n, t.size = n + 1 := ⟨t.size - 1, by omega⟩
   obtain ⟨c, t8, h1, h2, h3, h4⟩ := ba_last t n hn
   have hcell := HG.out c
   cases hb : blankQ c
   ·have HE : Hid (stripR t.data.toList = t.data.toList) := by unfold Hid; rw [h4]; exact stripR_other _ _ hb
    rw [hb] at hcell
    clear h4 hb
    go_wp2_with (go_at_call 141; refine (has_any g c _ rfl false _ hcell).mono ?_; rintro e w' ⟨rfl, hw'⟩; have hw'' := hw'.symm; subst hw'')
    go_ret
    exact ⟨congrArg Ending.returned (strv_eq (by rw [← HT.out, HE.out])), rfl⟩
   ·have HE : Hid (stripR t8.data.toList = stripR t.data.toList) := by unfold Hid; rw [h4]; exact (stripR_blank _ _ hb).symm
    rw [hb] at hcell
    clear h4 hb
    go_wp2_with (go_at_call 141; refine (has_any g c _ rfl true _ hcell).mono ?_; rintro e w' ⟨rfl, hw'⟩; have hw'' := hw'.symm; subst hw'')
    go_roundw
    case rel => exact ⟨t8, rfl, by omega, trivial, HE.out.trans HT.out⟩
    case measure => simp [strLen]; omega
set_option maxHeartbeats 2000000 in
set_option maxRecDepth 100000 in
theorem trim_blank (s : ByteArray) (w : World) (hs : s.size ≤ 16000) :
  Calls Tryz.prog 50 #[.string s, .string ⟨#[32, 9, 13]⟩] w fun e w' => e = .returned (.string ⟨(stripR s.data.toList).toArray⟩) ∧ Below w.heap.size w w' := by
 rcases Nat.eq_zero_or_pos s.size with h0 | h0
 ·have e : s.data.toList = [] := List.length_eq_zero_iff.1 (by rw [← Lib.size_eq]; exact h0)
  obtain rfl : s = ⟨#[]⟩ := ByteArray.ext (Array.toList_inj.1 e)
  clear e h0 hs
  go_enter Tryz.func50, Tryz.ntmps50
  go_wp2
  go_ret
  exact ⟨rfl, Below.refl _ _⟩
 ·have hne : s.toList.isEmpty = false := by
   rw [ByteArray.toList_eq]
   cases h : s.data.toList with
   | nil => have := congrArg List.length h; rw [← Lib.size_eq] at this; rw [List.length_nil] at this; omega
   | cons a b => rfl
  go_enter Tryz.func50, Tryz.ntmps50
  go_wp2_with fail
  refine (Tryz.strings_makeASCIISet zero_set ⟨#[32, 9, 13]⟩ w (by decide) (fun j c hc => (List.all_eq_true.1 (show [32, 9, 13].all (fun c : UInt8 => decide (c.toNat < 128)) = true by decide) c (List.mem_of_getElem? hc) |> of_decide_eq_true))).mono ?_
  rintro e w1 ⟨rfl, rfl⟩
  have hA1 : (Lib.setCells (ByteArray.mk #[32, 9, 13]).data.toList).size = 256 := Lib.setCells_size _
  have hA2 : ∀ c : UInt8, (Lib.setCells (ByteArray.mk #[32, 9, 13]).data.toList)[c.toNat]? = some (.bool (blankQ c)) := fun c => by
   rw [← blank_in c]; exact Lib.setCells_at _ c
  have HA3 : Hid ((Lib.setCells (ByteArray.mk #[32, 9, 13]).data.toList).all (·.oneCell') = true) := Lib.setCells_one _
  generalize Lib.setCells (ByteArray.mk #[32, 9, 13]).data.toList = SA at *
  have hA3 : SA.all (·.oneCell') = true := HA3.out
  have hsc : (storeCells ⟨w.heap.size + 1, 0, none⟩ SA.toList 0).run Tryz.prog ((w.alloc (.cells SA 121)).alloc (.cells Tryz.zeroCells121 121)) = .ok () ((w.alloc (.cells SA 121)).alloc (.cells SA 121)) := by
   have := run_storeCells_new (P := Tryz.prog) (w.alloc (.cells SA 121)) 121 Tryz.zeroCells121 SA (by rw [hA1]; kernel_rfl) (by rw [hA1]; kernel_rfl) hA3
   simpa using this
  have hcell : ∀ c : UInt8, ((w.alloc (.cells SA 121)).alloc (.cells SA 121)).cell? ⟨w.heap.size + 1, c.toNat, none⟩ = some (.bool (blankQ c)) := fun c => by
   rw [World.cell?_alloc_at _ _ _ _ (by simp)]; exact hA2 c
  have hb2 : Below w.heap.size w ((w.alloc (.cells SA 121)).alloc (.cells SA 121)) := ((Below.refl _ _).alloc (Nat.le_refl _) _).alloc (by simp) _
  clear hA2 hA3 HA3
  go_wp2_with fail
  clear hsc
  generalize ((w.alloc (.cells SA 121)).alloc (.cells SA 121)) = w2 at *
  refine (right_blank (w.heap.size + 1) s w2 hs hcell).mono ?_
  rintro e w3 ⟨rfl, hw3⟩
  have hw3' := hw3.symm
  subst hw3'
  clear hcell
  go_wp2
  go_ret
  exact ⟨rfl, hb2⟩
def digv (c : UInt8) : Int := if isHex c = true then (hexv c : Int) else -1
theorem digv_small : ∀ n : Fin 256, 97 ≤ n.val ∧ n.val ≤ 102 → Lib.indexByte [48, 49, 50, 51, 52, 53, 54, 55, 56, 57, 65, 66, 67, 68, 69, 70] ((n.val : Int) - 32).toNat.toUInt8 = digv (UInt8.ofNat n.val) := by decide +kernel
theorem digv_other : ∀ n : Fin 256, ¬ (97 ≤ n.val ∧ n.val ≤ 102) → Lib.indexByte [48, 49, 50, 51, 52, 53, 54, 55, 56, 57, 65, 66, 67, 68, 69, 70] (UInt8.ofNat n.val) = digv (UInt8.ofNat n.val) := by decide +kernel
theorem digit_any (c : UInt8) (cc : Int) (e : cc = (c.toNat : Int)) (w : World) :
  Calls Tryz.prog 214 #[.int .u8 cc] w fun e w' => e = .returned (.int .i64 (digv c)) ∧ w' = w := by
 subst e
 have hc := c.toNat_lt
 have hself : UInt8.ofNat c.toNat = c := UInt8.ofNat_toNat
 by_cases h1 : 97 ≤ c.toNat
 ·have e1 : (97 : Int) ≤ (c.toNat : Int) := by omega
  by_cases h2 : c.toNat ≤ 102
  ·have e2 : (c.toNat : Int) ≤ 102 := by omega
   have HD : Hid (Lib.indexByte [48, 49, 50, 51, 52, 53, 54, 55, 56, 57, 65, 66, 67, 68, 69, 70] ((c.toNat : Int) - 32).toNat.toUInt8 = digv c) := by
    have := digv_small ⟨c.toNat, hc⟩ ⟨h1, h2⟩
    rwa [hself] at this
   clear hself
   go_enter Tryz.func214, Tryz.ntmps214
   go_wp2_with (go_at_call 89; refine (Tryz.strings_IndexByte _ _ _).mono ?_; rintro e w' ⟨rfl, hw'⟩; have hw'' := hw'.symm; subst hw'')
   go_ret
   exact ⟨ret_i64 HD.out, rfl⟩
  ·have e2 : decide ((c.toNat : Int) ≤ 102) = false := by simp; omega
   have HD : Hid (Lib.indexByte [48, 49, 50, 51, 52, 53, 54, 55, 56, 57, 65, 66, 67, 68, 69, 70] c = digv c) := by
    have := digv_other ⟨c.toNat, hc⟩ (fun h => h2 h.2)
    rwa [hself] at this
   clear hself
   go_enter Tryz.func214, Tryz.ntmps214
   go_wp2_with (go_at_call 89; refine (Tryz.strings_IndexByte _ _ _).mono ?_; rintro e w' ⟨rfl, hw'⟩; have hw'' := hw'.symm; subst hw'')
   go_ret
   exact ⟨ret_i64 HD.out, rfl⟩
 ·have e1 : decide ((97 : Int) ≤ (c.toNat : Int)) = false := by simp; omega
  have HD : Hid (Lib.indexByte [48, 49, 50, 51, 52, 53, 54, 55, 56, 57, 65, 66, 67, 68, 69, 70] c = digv c) := by
   have := digv_other ⟨c.toNat, hc⟩ (fun h => h1 h.1)
   rwa [hself] at this
  clear hself
  go_enter Tryz.func214, Tryz.ntmps214
  go_wp2_with (go_at_call 89; refine (Tryz.strings_IndexByte _ _ _).mono ?_; rintro e w' ⟨rfl, hw'⟩; have hw'' := hw'.symm; subst hw'')
  go_ret
  exact ⟨ret_i64 HD.out, rfl⟩
end Go.Proofs.YtlndhdimamnnlaaGreatDoor



namespace Go.Proofs.YtlndhdimamnnlaaGreatDoor
open Go.RowKit
def AppendPost (B : Nat) (w : World) (x l : List UInt8) (e : Ending) (w' : World) : Prop :=
 Below B w w' ∧ B ≤ w'.heap.size ∧ ((decQ l = none ∧ e = .returned (.tuple #[.slice none 0 0, .bool false])) ∨
  ∃ d v, decQ l = some d ∧ e = .returned (.tuple #[v, .bool true]) ∧ d.length ≤ l.length ∧ w'.ownsRow B 5 1 v (x ++ d).length (bv (x ++ d)))
theorem byte61 (c : UInt8) : ((c.toNat : Int) == 61) = (c == 61) := by
 have : ∀ n : Fin 256, ((n.val : Int) == 61) = (UInt8.ofNat n.val == 61) := by decide +kernel
 have h := this ⟨c.toNat, c.toNat_lt⟩
 rwa [show UInt8.ofNat c.toNat = c from UInt8.ofNat_toNat] at h
theorem dropQ (s : ByteArray) (k : Nat) (h : k < s.size) : s.data.toList.drop k = s[k] :: s.data.toList.drop (k + 1) := by
 rw [List.drop_eq_getElem_cons (by simpa using h)]; rfl
theorem or_hex : ∀ a b : Fin 16, bits BinOp.or IntKind.i64 ((a.val : Int) * 16) (b.val : Int) = ((a.val * 16 + b.val : Nat) : Int) := by decide +kernel
theorem hexv_lt (c : UInt8) (h : isHex c = true) : hexv c < 16 := by
 have : ∀ n : Fin 256, isHex (UInt8.ofNat n.val) = true → hexv (UInt8.ofNat n.val) < 16 := by decide +kernel
 have g := this ⟨c.toNat, c.toNat_lt⟩
 rw [show UInt8.ofNat c.toNat = c from UInt8.ofNat_toNat] at g
 exact g h
theorem digv_yes (c : UInt8) (h : isHex c = true) : digv c = (hexv c : Int) := by rw [digv, if_pos h]
theorem digv_no (c : UInt8) (h : isHex c = false) : digv c = -1 := by rw [digv, if_neg (by simp [h])]
theorem bel_drew {B : Nat} {a w : World} (h : Below B a w) (n : Nat) : Below B a (w.drewN n) := ⟨h.os, h.tape, h.output, h.size, h.block⟩
theorem owns_drewN {w : World} {B e size n : Nat} {v : Value} {xs : List Value} (h : w.ownsRow B e size v n xs) (k : Nat) : (w.drewN k).ownsRow B e size v n xs := h
theorem row_eq {w : World} {B : Nat} {v : Value} {n : Nat} {xs : List Value} {l : List UInt8} (h : w.ownsRow B 5 1 v n xs) (hn : n = l.length) (hx : xs = bv l) : w.ownsRow B 5 1 v l.length (bv l) := by
 subst hn hx; exact h
set_option maxHeartbeats 4000000 in
set_option maxRecDepth 100000 in
theorem appendRead_any (B : Nat) (v0 : Value) (n : Nat) (x : List UInt8) (s : ByteArray) (w : World) (en : n = x.length) (hx : n ≤ 100000) (hs : s.size ≤ 16000) (hB : B ≤ w.heap.size) (hown0 : w.ownsRow B 5 1 v0 n (bv x)) :
  Calls Tryz.prog 173 #[v0, .string s] w fun e w' => AppendPost B w x s.data.toList e w' := by
 obtain ⟨i0, hi, hz0, hz1, hz2⟩ := info_parts info_u8
 subst en
 go_enter Tryz.func173, Tryz.ntmps173
 go_wp2
 go_loopw [0, 6] (fun v i wr => ∃ (k : Nat) (y : List UInt8), k ≤ s.size ∧ i = .int .i64 k ∧ y.length ≤ k ∧ wr.ownsRow B 5 1 v (x ++ y).length (bv (x ++ y)) ∧ Below B w wr ∧ Hid ((decQ (s.data.toList.drop k)).map (y ++ ·) = decQ s.data.toList))
  (fun _ i _ => s.size - (intOf i).toNat)
 case atStart => exact ⟨0, [], Nat.zero_le _, rfl, Nat.zero_le _, by simpa using hown0, Below.refl _ _, by unfold Hid; rw [List.drop_zero]; cases decQ s.data.toList <;> simp⟩
 case round =>
  obtain ⟨k, y, hk, rfl, hyk, hown, hbel, HD⟩ := hrel
  have hsz : B ≤ wr.heap.size := Nat.le_trans hB hbel.size
  have hlen : (x ++ y).length ≤ 200000 := by rw [List.length_append]; omega
  by_cases hlt : k < s.size
  ·have hdr := dropQ s k hlt
   have e61 := byte61 s[k]
   by_cases h61 : s[k] = 61
   ·have e61' : ((s[k].toNat : Int) == 61) = true := by rw [e61]; simp [h61]
    rw [h61] at hdr
    clear e61 h61
    by_cases h2 : s.size ≤ k + 2
    ·have HN : Hid (decQ s.data.toList = none) := by
      unfold Hid
      rw [← HD.out, hdr, decQ_short _ (by rw [List.length_drop, ← Lib.size_eq]; omega)]; rfl
     have h2' : (s.size : Int) ≤ (k : Int) + 2 := by omega
     clear HD hdr hown
     go_wp2
     go_ret2
     exact ⟨hbel, hsz, .inl ⟨HN.out, rfl⟩⟩
    ·have h2' : ¬ (s.size : Int) ≤ (k : Int) + 2 := by omega
     rw [dropQ s (k + 1) (by omega), dropQ s (k + 2) (by omega)] at hdr
     obtain ⟨k1, hk1⟩ : ∃ k1, k1 = k + 1 := ⟨_, rfl⟩
     obtain ⟨k2, hk2⟩ : ∃ k2, k2 = k + 2 := ⟨_, rfl⟩
     have hl1 : k1 < s.size := by omega
     have hl2 : k2 < s.size := by omega
     have hi1 : (k1 : Int) < (s.size : Int) := by omega
     have hi2 : (k2 : Int) < (s.size : Int) := by omega
     have hw1 : IntKind.i64.wrap ((k : Int) + 1) = (k1 : Int) := by rw [IntKind.wrap_i64]; omega
     have hw2 : IntKind.i64.wrap ((k : Int) + 2) = (k2 : Int) := by rw [IntKind.wrap_i64]; omega
     obtain ⟨ca, hca⟩ : ∃ c, s[k1]'hl1 = c := ⟨_, rfl⟩
     obtain ⟨cb, hcb⟩ : ∃ c, s[k2]'hl2 = c := ⟨_, rfl⟩
     have hca' : s[k + 1]'(by omega) = ca := by rw [← hca]; congr 1; exact hk1.symm
     have hcb' : s[k + 2]'(by omega) = cb := by rw [← hcb]; congr 1; exact hk2.symm
     rw [hca', hcb'] at hdr
     have HK2 : Hid (k2 = k + 2) := hk2
     clear hca' hcb' hk1 hk2
     cases hha : isHex ca
     ·have HN : Hid (decQ s.data.toList = none) := by
       unfold Hid
       rw [← HD.out, hdr, decQ_bad _ _ _ (by rw [hha]; rfl)]; rfl
      have hd1 := digv_no ca hha
      cases hhb : isHex cb
      ·have hd2 := digv_no cb hhb
       clear HD hdr hown hha hhb
       go_wp2
       go_quiet (first | (go_at_call_of 214 ca; exact Calls.quiet_of_same (digit_any ca _ rfl _)) | (go_at_call_of 214 cb; exact Calls.quiet_of_same (digit_any cb _ rfl _)))
       have hbd : Below B w (wr.drewN nq) := bel_drew hbel nq
       generalize wr.drewN nq = w2 at *
       have hsz2 : B ≤ w2.heap.size := Nat.le_trans hB hbd.size
       go_wp2
       go_ret2
       exact ⟨hbd, hsz2, .inl ⟨HN.out, rfl⟩⟩
      ·have hd2 := digv_yes cb hhb
       have hv2 := hexv_lt cb hhb
       clear HD hdr hown hha hhb
       go_wp2
       go_quiet (first | (go_at_call_of 214 ca; exact Calls.quiet_of_same (digit_any ca _ rfl _)) | (go_at_call_of 214 cb; exact Calls.quiet_of_same (digit_any cb _ rfl _)))
       have hbd : Below B w (wr.drewN nq) := bel_drew hbel nq
       generalize wr.drewN nq = w2 at *
       have hsz2 : B ≤ w2.heap.size := Nat.le_trans hB hbd.size
       go_wp2
       go_ret2
       exact ⟨hbd, hsz2, .inl ⟨HN.out, rfl⟩⟩
     ·have hd1 := digv_yes ca hha
      have hv1 := hexv_lt ca hha
      cases hhb : isHex cb
      ·have HN : Hid (decQ s.data.toList = none) := by
        unfold Hid
        rw [← HD.out, hdr, decQ_bad _ _ _ (by rw [hhb]; simp)]; rfl
       have hd2 := digv_no cb hhb
       clear HD hdr hown hha hhb
       go_wp2
       go_quiet (first | (go_at_call_of 214 ca; exact Calls.quiet_of_same (digit_any ca _ rfl _)) | (go_at_call_of 214 cb; exact Calls.quiet_of_same (digit_any cb _ rfl _)))
       have hbd : Below B w (wr.drewN nq) := bel_drew hbel nq
       generalize wr.drewN nq = w2 at *
       have hsz2 : B ≤ w2.heap.size := Nat.le_trans hB hbd.size
       go_wp2
       go_ret2
       exact ⟨hbd, hsz2, .inl ⟨HN.out, rfl⟩⟩
      ·have hd2 := digv_yes cb hhb
       have hv2 := hexv_lt cb hhb
       have hor := or_hex ⟨hexv ca, hv1⟩ ⟨hexv cb, hv2⟩
       simp only at hor
       have HN : Hid ((decQ (s.data.toList.drop (k + 3))).map ((y ++ [UInt8.ofNat (hexv ca * 16 + hexv cb)]) ++ ·) = decQ s.data.toList) := by
        unfold Hid
        rw [← HD.out, hdr, decQ_hex _ _ _ (by rw [hha, hhb]; rfl), Option.map_map]
        congr 1
        funext z
        simp
       clear HD hdr hha hhb
       generalize hexv ca = A at *
       generalize hexv cb = C at *
       obtain ⟨S, hS⟩ : ∃ S, A * 16 + C = S := ⟨_, rfl⟩
       rw [hS] at hor HN
       have hS256 : S < 256 := by omega
       clear hS
       go_wp2
       go_quiet (first | (go_at_call_of 214 ca; exact Calls.quiet_of_same (digit_any ca _ rfl _)) | (go_at_call_of 214 cb; exact Calls.quiet_of_same (digit_any cb _ rfl _)))
       have hbd : Below B w (wr.drewN nq) := bel_drew hbel nq
       have hownd := owns_drewN hown nq
       clear hown
       generalize wr.drewN nq = w2 at *
       have hsz2 : B ≤ w2.heap.size := Nat.le_trans hB hbd.size
       go_wp2_with (at_builtin; refine wpList_append_own _ rfl (.tmp 49) (.tmp 51) 22 rfl B 5 i0 (.int .u8 0) 1 1 Tryz.underlying22 hi hz0 hz1 hz2 rfl (by decide) _ _ _ rfl (hownd.alloc _) ⟨w2.heap.size, 0, none⟩ 1 1 [.int .u8 (S : Int)] rfl rfl ?c1 ?c2 ?c3 ?c4 ?c5 ?_)
       case c1 => exact cell_one _ _ _ (int_eq (by omega))
       case c2 => intro u hu; simp at hu; subst hu; rfl
       case c3 => unfold maxLen; omega
       case c4 => omega
       case c5 => simp; omega
       intro v' w3 hown' hgrow _
       have RB : Below B w w3 := push_below hownd hbd hsz2 hgrow
       have R := row_eq (l := x ++ (y ++ [UInt8.ofNat S])) hown' (by simp; omega) (by simp [bv]; omega)
       clear hown' hgrow hownd
       go_wp2
       go_roundw
       case rel => exact ⟨k + 3, y ++ [UInt8.ofNat S], by omega, int_eq (by have := HK2.out; omega), by simp; omega, R, RB, HN⟩
       case measure => have := HK2.out; simp [intOf]; omega
   ·have e61' : ((s[k].toNat : Int) == 61) = false := by rw [e61]; simp [h61]
    have HN : Hid ((decQ (s.data.toList.drop (k + 1))).map ((y ++ [s[k]]) ++ ·) = decQ s.data.toList) := by
     unfold Hid
     rw [← HD.out, hdr, decQ_plain _ _ h61, Option.map_map]
     congr 1
     funext z
     simp
    clear e61 h61 HD hdr
    go_wp2_with (at_builtin; refine wpList_append_own _ rfl (.tmp 49) (.tmp 51) 22 rfl B 5 i0 (.int .u8 0) 1 1 Tryz.underlying22 hi hz0 hz1 hz2 rfl (by decide) _ _ _ rfl (hown.alloc _) ⟨wr.heap.size, 0, none⟩ 1 1 [.int .u8 (s[k].toNat : Int)] rfl rfl ?c1 ?c2 ?c3 ?c4 ?c5 ?_)
    case c1 => exact cell_one _ _ _ rfl
    case c2 => intro u hu; simp at hu; subst hu; rfl
    case c3 => unfold maxLen; omega
    case c4 => omega
    case c5 => simp; omega
    intro v' w1 hown' hgrow _
    have RB : Below B w w1 := push_below hown hbel hsz hgrow
    have R := row_eq (l := x ++ (y ++ [s[k]])) hown' (by simp; omega) (by simp [bv])
    clear hown' hgrow hown
    go_wp2
    go_roundw
    case rel => exact ⟨k + 1, y ++ [s[k]], by omega, by go_num, by simp; omega, R, RB, HN⟩
    case measure => simp [intOf]; omega
  ·obtain rfl : k = s.size := by omega
   have HN : Hid (decQ s.data.toList = some y) := by
    unfold Hid
    rw [← HD.out, List.drop_of_length_le (by rw [← Lib.size_eq]; exact Nat.le_refl _)]
    simp [decQ]
   have HO := hown
   clear HD
   go_wp2
   go_ret2
   exact ⟨hbel, hsz, .inr ⟨y, _, HN.out, rfl, by rw [← Lib.size_eq]; exact hyk, HO⟩⟩
end Go.Proofs.YtlndhdimamnnlaaGreatDoor

