
import Derived.Test.YtlndhdimamnnlaaGreatDoorXmimesays25
import Derived.Shelf.Sort.Plain
import Derived.Shelf.Slices.In.SortNone
import Derived.Sort.OwnSortedInts
namespace Go.Proofs.YtlndhdimamnnlaaGreatDoor
open Go.RowKit
def nzv (l : List Nat) : List Value := l.map fun (n : Nat) => Value.int .i64 (n : Int)
theorem nzv_snoc (l : List Nat) (n : Nat) : nzv (l ++ [n]) = nzv l ++ [.int .i64 (n : Int)] := by simp [nzv]
set_option maxHeartbeats 4000000 in
set_option maxRecDepth 100000 in
theorem taken_any (w0 : World) (M : Int) (hM : ∀ w', Below w0.heap.size w0 w' → w'.cell? ⟨1, 0, none⟩ = some (.int .i64 M)) (lv : Value) (l : List Nat) (s : ByteArray) (w : World) (hb : Below w0.heap.size w0 w) (hs : s.size ≤ 1000000) (hl : l.length + s.size * s.size ≤ 2000000000000) (ho : w.ownsRow w0.heap.size 3 1 lv l.length (nzv l)) :
  Calls Tryz.prog 106 #[lv, .string s] w fun e w' => ∃ v, e = .returned v ∧ w'.ownsRow w0.heap.size 3 1 v (l ++ takenOf s.data.toList).length (nzv (l ++ takenOf s.data.toList)) ∧ Below w0.heap.size w0 w' := by
 obtain ⟨i0, hi, hz0, hz1, hz2⟩ := info_parts info_int
 obtain ⟨q, c, rfl⟩ := owned_slice ho
 have HM : Hid (∀ w', Below w0.heap.size w0 w' → w'.cell? ⟨1, 0, none⟩ = some (.int .i64 M)) := hM
 obtain ⟨RES, hRES⟩ : ∃ RES, l ++ takenOf s.data.toList = RES := ⟨_, rfl⟩
 have HRES : Hid (l ++ takenGo (s.data.toList.length + 1) s.data.toList = RES) := hRES
 rw [hRES]
 have HO : Hid (w.ownsRow w0.heap.size 3 1 (.slice q l.length c) l.length (nzv l)) := ho
 obtain ⟨N, hN⟩ : ∃ N, s.size = N := ⟨_, rfl⟩
 rw [hN] at hs hl
 clear hRES hM ho
 go_enter Tryz.func106, Tryz.ntmps106
 go_wp2_with fail
 go_loopw [0, 1] (fun ov sv wr => ∃ (t : ByteArray) (acc : List Nat) (f : Nat) (q : Option Addr) (n c : Nat), sv = .string t ∧ ov = .slice q n c ∧ t.size ≤ N ∧ Hid (n = acc.length) ∧ n + t.size * N ≤ 2000000000000 ∧ Below w0.heap.size w0 wr ∧ Hid (t.size < f) ∧ Hid (wr.ownsRow w0.heap.size 3 1 (.slice q n c) n (nzv acc)) ∧ Hid (acc ++ takenGo f t.data.toList = RES)) (fun _ sv _ => strLen sv)
 case atStart => exact ⟨s, l, s.data.toList.length + 1, q, l.length, c, rfl, rfl, by omega, rfl, by rw [hN]; exact hl, hb, by unfold Hid; rw [Lib.size_eq]; omega, HO, HRES⟩
 case round =>
  obtain ⟨t, acc, f, q1, n1, c1, rfl, rfl, htN, HN1, hn1, hbr, HF, HO1, HR⟩ := hrel
  clear HO HRES hN hb
  obtain ⟨f', rfl⟩ : ∃ f', f = f' + 1 := ⟨f - 1, by have := HF.out; omega⟩
  have CC := Tryz.strings_Cut t ⟨#[45, 45, 61, 95]⟩ M wr (by omega) (HM.out wr hbr)
  rw [takenGo] at HR
  have hm4 : (ByteArray.mk #[45, 45, 61, 95]).data.toList = mark4 := rfl
  rw [hm4] at CC
  have hless := cut_less t.data.toList
  generalize hCT : Lib.cut t.data.toList mark4 = CT at *
  obtain ⟨be, af, ok⟩ := CT
  simp only at CC HR hless
  obtain ⟨A, hA⟩ : ∃ A : ByteArray, (⟨af.toArray⟩ : ByteArray) = A := ⟨_, rfl⟩
  obtain ⟨Bf, hBf⟩ : ∃ B : ByteArray, (⟨be.toArray⟩ : ByteArray) = B := ⟨_, rfl⟩
  have hAf : af = A.data.toList := by rw [← hA]
  rw [hA, hBf] at CC
  rw [hAf] at HR hless
  rw [← Lib.size_eq, ← Lib.size_eq] at hless
  have CC' : Hid (Calls Tryz.prog 114 #[.string t, .string ⟨#[45, 45, 61, 95]⟩] wr fun e w' => e = .returned (.tuple #[.string Bf, .string A, .bool ok]) ∧ ∃ n, w' = wr.drewN n) := CC
  clear CC hA hBf hAf hCT hm4
  cases ok
  ·rw [if_neg (by decide), List.append_nil] at HR
   clear hless
   go_wp2_with fail
   refine CC'.out.mono ?_
   rintro e w1 ⟨rfl, k1, rfl⟩
   clear CC'
   go_wp2_with fail
   go_ret
   refine ⟨_, rfl, ?_, below_drewN' hbr k1⟩
   rw [← HR.out, ← HN1.out]
   exact HO1.out
  ·rw [if_pos rfl] at HR
   have hAs := hless rfl
   have hAN : A.size * N + N ≤ t.size * N := by
    have : (A.size + 1) * N ≤ t.size * N := Nat.mul_le_mul_right N hAs
    rw [Nat.add_mul, Nat.one_mul] at this
    exact this
   have HF2 : Hid (A.size < f') := by unfold Hid; have := HF.out; omega
   clear hless
   go_wp2_with fail
   refine CC'.out.mono ?_
   rintro e w1 ⟨rfl, k1, rfl⟩
   clear CC'
   have hbr1 : Below w0.heap.size w0 (wr.drewN k1) := below_drewN' hbr k1
   have HO2 : Hid ((wr.drewN k1).ownsRow w0.heap.size 3 1 (.slice q1 n1 c1) n1 (nzv acc)) := HO1.out
   clear HO1 hbr
   generalize wr.drewN k1 = w1 at *
   have HRr : Hid (acc ++ digsFrom 0 (A.data.toList.drop 0) ++ takenGo f' A.data.toList = RES) := by unfold Hid; rw [List.drop_zero, List.append_assoc]; exact HR.out
   go_wp2_with fail
   go_loopw [0, 6, 7] (fun ov nv iv wy => ∃ (i nn : Nat) (acc' : List Nat) (q : Option Addr) (n c : Nat), i ≤ A.size ∧ iv = .int .i64 i ∧ nv = .int .i64 nn ∧ nn < 1000000 ∧ ov = .slice q n c ∧ n ≤ n1 + i ∧ Hid (n = acc'.length) ∧ Below w0.heap.size w0 wy ∧ Hid (wy.ownsRow w0.heap.size 3 1 (.slice q n c) n (nzv acc')) ∧ Hid (acc' ++ digsFrom nn (A.data.toList.drop i) ++ takenGo f' A.data.toList = RES)) (fun _ _ iv _ => A.size - (intOf iv).toNat)
   case atStart => exact ⟨0, 0, acc, q1, n1, c1, Nat.zero_le _, rfl, rfl, by decide, rfl, by omega, HN1, hbr1, HO2, HRr⟩
   case round =>
    obtain ⟨i, nn, acc2, q2, n2, c2, hiA, rfl, rfl, hnn, rfl, hn2, HN2, hb2, HOy, HRy⟩ := hrel
    clear HO2 HRr hbr1
    by_cases hlt : i < A.size
    ·have hlz : (i : Int) < (A.size : Int) := by omega
     obtain ⟨x, hx⟩ : ∃ x : UInt8, A[i]'hlt = x := ⟨_, rfl⟩
     have hxl : A.data.toList.drop i = x :: A.data.toList.drop (i + 1) := by
      have hil : i < A.data.toList.length := by rw [← Lib.size_eq]; exact hlt
      rw [List.drop_eq_getElem_cons hil]
      congr 1
     rw [hxl, digsFrom] at HRy
     clear hxl
     by_cases h48 : 48 ≤ x.toNat
     ·have h48' : (48 : Int) ≤ (x.toNat : Int) := by omega
      by_cases h57 : x.toNat ≤ 57
      ·have h57' : (x.toNat : Int) ≤ 57 := by omega
       have hdig : digC x = true := by unfold digC; simp [h48, h57]
       rw [if_pos hdig] at HRy
       obtain ⟨mm, hmm⟩ : ∃ mm : Nat, 10 * nn + (x.toNat - 48) = mm := ⟨_, rfl⟩
       rw [hmm] at HRy
       have hmz : 10 * (nn : Int) + ((x.toNat : Int) - 48) = (mm : Int) := by omega
       have hmb : mm < 10000010 := by omega
       have hu8 : IntKind.u8.wrap ((x.toNat : Int) - 48) = (x.toNat : Int) - 48 := by rw [IntKind.wrap_u8]; omega
       have hw1 : IntKind.i64.wrap (10 * (nn : Int)) = 10 * (nn : Int) := by rw [IntKind.wrap_i64]; omega
       have hw3 : IntKind.i64.wrap ((x.toNat : Int) - 48) = (x.toNat : Int) - 48 := by rw [IntKind.wrap_i64]; omega
       have hw2 : IntKind.i64.wrap (10 * (nn : Int) + ((x.toNat : Int) - 48)) = (mm : Int) := by rw [hmz, IntKind.wrap_i64]; omega
       clear hmm hdig
       by_cases h0 : mm = 0 ∨ 1000000 ≤ mm
       ·rw [if_pos h0, List.append_nil] at HRy
        have HRz : Hid (acc2 ++ takenGo f' A.data.toList = RES) := HRy
        by_cases h00 : mm = 0
        ·have h00' : ((mm : Int) == 0) = true := by rw [h00]; rfl
         clear HRy h0 h00
         go_wp2_with fail
         go_roundw
         case rel => exact ⟨A, acc2, f', q2, n2, c2, rfl, rfl, by omega, HN2, by omega, hb2, HF2, HOy, HRz⟩
         case measure => simp [strLen]; omega
        ·have h00' : ((mm : Int) == 0) = false := by rw [beq_eq_false_iff_ne]; omega
         have hbig : (1000000 : Int) ≤ (mm : Int) := by omega
         clear HRy h0 h00
         go_wp2_with fail
         go_roundw
         case rel => exact ⟨A, acc2, f', q2, n2, c2, rfl, rfl, by omega, HN2, by omega, hb2, HF2, HOy, HRz⟩
         case measure => simp [strLen]; omega
       ·rw [if_neg h0] at HRy
        have h00' : ((mm : Int) == 0) = false := by rw [beq_eq_false_iff_ne]; omega
        have hbig : ¬ (1000000 : Int) ≤ (mm : Int) := by omega
        have HRn : Hid ((acc2 ++ [mm]) ++ digsFrom mm (A.data.toList.drop (i + 1)) ++ takenGo f' A.data.toList = RES) := by
         unfold Hid
         rw [← HRy.out]
         simp
        have hoy := HOy.out
        clear HRy h0
        go_wp2_with (at_builtin; refine wpList_append_own _ rfl (.tmp 49) (.tmp 51) 113 rfl w0.heap.size 3 i0 (.int .i64 0) 1 8 Tryz.underlying113 hi hz0 hz1 hz2 rfl (by decide) _ _ _ rfl (hoy.alloc _) ⟨wr.heap.size, 0, none⟩ 1 1 [.int .i64 (mm : Int)] rfl rfl (cell_lone _ _ _ _ rfl) ?c2 ?c3 ?c4 ?c5 ?_)
        case c2 => first | rfl | (intro u hu; simp at hu; subst hu; rfl)
        case c3 => unfold maxLen; omega
        case c4 => omega
        case c5 => have := hb2.size; simp; omega
        intro v9 w9 hown9 hg9 _
        have hb9 : Below w0.heap.size w0 w9 := (hb2.alloc hb2.size _).grown hg9 (by have := hb2.size; simp; omega) (fun j hj => (hoy.lt j hj).1)
        obtain ⟨q9, c9, rfl⟩ := owned_slice hown9
        have HO9 : Hid (w9.ownsRow w0.heap.size 3 1 (.slice q9 (n2 + 1) c9) (n2 + 1) (nzv (acc2 ++ [mm]))) := by unfold Hid; rw [nzv_snoc]; exact hown9
        have HL9 : Hid (n2 + 1 = (acc2 ++ [mm]).length) := by unfold Hid; rw [List.length_append, ← HN2.out]; rfl
        clear hown9 hg9 hoy HOy
        go_wp2_with fail
        go_roundw
        case rel => exact ⟨i + 1, mm, acc2 ++ [mm], q9, n2 + 1, c9, by omega, by go_num, rfl, by omega, rfl, by omega, HL9, hb9, HO9, HRn⟩
        case measure => simp [intOf]; omega
      ·have h57' : ¬ (x.toNat : Int) ≤ 57 := by omega
       have hdig : digC x = false := by unfold digC; simp; omega
       rw [if_neg (by rw [hdig]; decide), List.append_nil] at HRy
       have HRz : Hid (acc2 ++ takenGo f' A.data.toList = RES) := HRy
       clear HRy hdig
       go_wp2_with fail
       go_roundw
       case rel => exact ⟨A, acc2, f', q2, n2, c2, rfl, rfl, by omega, HN2, by omega, hb2, HF2, HOy, HRz⟩
       case measure => simp [strLen]; omega
     ·have h48' : ¬ (48 : Int) ≤ (x.toNat : Int) := by omega
      have hdig : digC x = false := by unfold digC; simp; omega
      rw [if_neg (by rw [hdig]; decide), List.append_nil] at HRy
      have HRz : Hid (acc2 ++ takenGo f' A.data.toList = RES) := HRy
      clear HRy hdig
      go_wp2_with fail
      go_roundw
      case rel => exact ⟨A, acc2, f', q2, n2, c2, rfl, rfl, by omega, HN2, by omega, hb2, HF2, HOy, HRz⟩
      case measure => simp [strLen]; omega
    ·have hlz : ¬ (i : Int) < (A.size : Int) := by omega
     have HRz : Hid (acc2 ++ takenGo f' A.data.toList = RES) := by
      have h := HRy.out
      rw [List.drop_of_length_le (by rw [← Lib.size_eq]; omega), digsFrom, List.append_nil] at h
      exact h
     clear HRy
     go_wp2_with fail
     go_roundw
     case rel => exact ⟨A, acc2, f', q2, n2, c2, rfl, rfl, by omega, HN2, by omega, hb2, HF2, HOy, HRz⟩
     case measure => simp [strLen]; omega
end Go.Proofs.YtlndhdimamnnlaaGreatDoor



namespace Go.Proofs.YtlndhdimamnnlaaGreatDoor
open Go.RowKit
theorem sort_own (base : Nat) (zs : List Int) (v : Value) (w : World) (hown : w.ownsRow base 3 1 v zs.length (zs.map (Value.int .i64))) (hsz : zs.length < 4611686018427387904) :
  Calls Tryz.prog 107 #[v] w fun e w' => e = .returned (.tuple #[]) ∧ w'.ownsRow base 3 1 v zs.length ((zs.mergeSort fun x y => decide (x ≤ y)).map (Value.int .i64)) ∧ w.grownBy w' v.ownBlock := by
 rcases hown.2 with ⟨rfl, h0⟩ | ⟨g, cap, cur, rfl, hb, hg, h1, h2, h3, h4⟩
 ·obtain rfl : zs = [] := List.length_eq_zero_iff.1 h0
  refine (Go.Proofs.Any.slices_Sort_int_none Tryz.lays189 none 0 w).mono ?_
  rintro e w' ⟨rfl, rfl⟩
  exact ⟨rfl, by simpa using hown, ⟨rfl, rfl, rfl, Nat.le_refl _, fun _ _ _ => rfl⟩⟩
 ·refine (Go.Proofs.Any.slices_Sort_int Tryz.lays189 g 0 cap zs w (Go.holds_of_blockI hg (by rw [Nat.mul_one] at h4; exact h4)) (Array.getElem?_eq_some_iff.1 hg).1 hsz).mono ?_
  rintro e w' ⟨rfl, n, os, rfl⟩
  exact ⟨rfl, Go.ownsRow_sortedI (by simp) hb hg h1 h2 h3, Go.grownBy_sortedI _⟩
end Go.Proofs.YtlndhdimamnnlaaGreatDoor



namespace Go.Proofs.YtlndhdimamnnlaaGreatDoor
open Go.RowKit
def TRow (w : World) (p : Option Addr) (l : List ByteArray) : Prop := l ≠ [] → ∃ b o, p = some ⟨b, o, none⟩ ∧ ∀ i, i < l.length → w.cell? ⟨b, o + i, none⟩ = some (.string (l.getD i ⟨#[]⟩))
theorem nzv_map (l : List Nat) : nzv l = (l.map fun (n : Nat) => (n : Int)).map (Value.int .i64) := by simp [nzv]
set_option maxHeartbeats 4000000 in
set_option maxRecDepth 100000 in
theorem least_any (p : Option Addr) (m c : Nat) (ts : List ByteArray) (em : m = ts.length) (w : World) (hm : m ≤ 12) (hsz : ∀ t ∈ ts, t.size ≤ 400000) (hr : TRow w p ts) (M : Int) (hM : w.cell? ⟨1, 0, none⟩ = some (.int .i64 M)) :
  Calls Tryz.prog 60 #[.slice p m c] w fun e w' => e = .returned (.int .i64 (leastP (ts.map fun t => t.data.toList))) ∧ Below w.heap.size w w' := by
 have HM : Hid (∀ w', Below w.heap.size w w' → w'.cell? ⟨1, 0, none⟩ = some (.int .i64 M)) := fun w' hb => (hb.cell (World.block_lt_of_cell? w _ hM)).trans hM
 have HE : Hid (m = ts.length) := em
 have HT : Hid (∀ i w', i < m → Below w.heap.size w w' → ∃ b o, p = some ⟨b, o, none⟩ ∧ w'.cell? ⟨b, o + i, none⟩ = some (.string (ts.getD i ⟨#[]⟩)) ∧ (ts.getD i ⟨#[]⟩).size ≤ 400000) := fun i w' hi hb => by
  have hil : i < ts.length := by rw [← em]; exact hi
  obtain ⟨b, o, e, hc⟩ := hr (fun e => by rw [e] at hil; simp at hil)
  refine ⟨b, o, e, (hb.cell (World.block_lt_of_cell? w _ (hc i hil))).trans (hc i hil), ?_⟩
  rw [List.getD_eq_getElem?_getD, List.getElem?_eq_getElem hil]
  exact hsz _ (List.getElem_mem hil)
 obtain ⟨RES, hRES⟩ : ∃ RES, leastP (ts.map fun t => t.data.toList) = RES := ⟨_, rfl⟩
 have HRES : Hid (leastP (ts.map fun t => t.data.toList) = RES) := hRES
 rw [hRES]
 clear hRES hr hM em hsz
 go_enter Tryz.func60, Tryz.ntmps60
 go_wp2_with fail
 go_loopw [3, 11] (fun ov iv wr => ∃ (i : Nat) (acc : List Nat) (q : Option Addr) (n cc : Nat), i ≤ m ∧ iv = .int .i64 i ∧ ov = .slice q n cc ∧ Hid (n = acc.length) ∧ n ≤ i * 160000000000 ∧ Below w.heap.size w wr ∧ Hid (wr.ownsRow w.heap.size 3 1 (.slice q n cc) n (nzv acc)) ∧ Hid (acc = ((ts.take i).map fun t => t.data.toList).flatMap takenOf)) (fun _ iv _ => m - (intOf iv).toNat)
 case atStart => exact ⟨0, [], none, 0, 0, Nat.zero_le _, rfl, rfl, rfl, Nat.le_refl _, Below.refl _ _, World.ownsRow_nil _ _ _ _, rfl⟩
 case round =>
  obtain ⟨i, acc, q, n, cc, hi, rfl, rfl, HN, hn, hbr, HO, HA⟩ := hrel
  by_cases hlt : i < m
  ·have hlz : (i : Int) < (m : Int) := by omega
   obtain ⟨b, o, rfl, hcb, hts⟩ := HT.out i wr hlt hbr
   have HA2 : Hid (acc ++ takenOf (ts.getD i ⟨#[]⟩).data.toList = ((ts.take (i + 1)).map fun t => t.data.toList).flatMap takenOf) := by
    have hil : i < ts.length := by rw [← HE.out]; exact hlt
    unfold Hid
    rw [HA.out, List.take_add_one, List.getElem?_eq_getElem hil, List.map_append, List.flatMap_append, List.getD_eq_getElem?_getD, List.getElem?_eq_getElem hil]
    simp
   have hlen : (takenOf (ts.getD i ⟨#[]⟩).data.toList).length ≤ 160000000000 := by
    have h1 := taken_len ((ts.getD i ⟨#[]⟩).data.toList.length + 1) (ts.getD i ⟨#[]⟩).data.toList
    rw [← Lib.size_eq] at h1
    have h2 : (ts.getD i ⟨#[]⟩).size * (ts.getD i ⟨#[]⟩).size ≤ 400000 * 400000 := Nat.mul_le_mul hts hts
    unfold takenOf
    rw [← Lib.size_eq]
    omega
   have hsq : n + (ts.getD i ⟨#[]⟩).size * (ts.getD i ⟨#[]⟩).size ≤ 2000000000000 := by
    have h2 : (ts.getD i ⟨#[]⟩).size * (ts.getD i ⟨#[]⟩).size ≤ 400000 * 400000 := Nat.mul_le_mul hts hts
    omega
   have CT : Hid (Calls Tryz.prog 106 #[.slice q n cc, .string (ts.getD i ⟨#[]⟩)] wr fun e w' => ∃ v, e = .returned v ∧ w'.ownsRow w.heap.size 3 1 v (acc ++ takenOf (ts.getD i ⟨#[]⟩).data.toList).length (nzv (acc ++ takenOf (ts.getD i ⟨#[]⟩).data.toList)) ∧ Below w.heap.size w w') :=
    taken_any w M HM.out (.slice q n cc) acc (ts.getD i ⟨#[]⟩) wr hbr (by omega) (by rw [← HN.out]; exact hsq) (by rw [← HN.out]; exact HO.out)
   generalize ts.getD i ⟨#[]⟩ = t at *
   generalize hacc : acc ++ takenOf t.data.toList = acc2 at *
   have hl2 : acc2.length ≤ (i + 1) * 160000000000 := by rw [← hacc, List.length_append, ← HN.out]; omega
   clear HO HA hacc hlen hsq
   go_wp2_with fail
   refine CT.out.mono ?_
   rintro e w2 ⟨v2, rfl, own2, hb2⟩
   obtain ⟨q2, c2, rfl⟩ := owned_slice own2
   have HO2 : Hid (w2.ownsRow w.heap.size 3 1 (.slice q2 acc2.length c2) acc2.length (nzv acc2)) := own2
   clear CT own2
   go_wp2_with fail
   go_roundw
   case rel => exact ⟨i + 1, acc2, q2, acc2.length, c2, by omega, by go_num, rfl, rfl, hl2, hb2, HO2, HA2⟩
   case measure => simp [intOf]; omega
  ·have hlz : ¬ (i : Int) < (m : Int) := by omega
   have hA : acc = (ts.map fun t => t.data.toList).flatMap takenOf := by
    rw [HA.out, List.take_of_length_le (by rw [← HE.out]; omega)]
   have hRZ : leastScan (sortZ (acc.map fun (n : Nat) => (n : Int))) = RES := by rw [hA]; exact HRES.out
   have CS := sort_own w.heap.size (acc.map fun (n : Nat) => (n : Int)) (.slice q n cc) wr (by rw [List.length_map, ← HN.out, ← nzv_map]; exact HO.out) (by rw [List.length_map, ← HN.out]; omega)
   rw [List.length_map, ← HN.out] at CS
   obtain ⟨Z, hZ⟩ : ∃ Z, sortZ (acc.map fun (n : Nat) => (n : Int)) = Z := ⟨_, rfl⟩
   have HZ : Hid (leastScan Z = RES ∧ Z.length = n) := ⟨by rw [← hZ]; exact hRZ, by rw [← hZ, HN.out]; simp [sortZ]⟩
   have hZ' : ((acc.map fun (n : Nat) => (n : Int)).mergeSort fun x y => decide (x ≤ y)) = Z := hZ
   rw [hZ'] at CS
   have CS' : Hid (Calls Tryz.prog 107 #[.slice q n cc] wr fun e w' => e = .returned (.tuple #[]) ∧ w'.ownsRow w.heap.size 3 1 (.slice q n cc) n (Z.map (Value.int .i64)) ∧ wr.grownBy w' (Value.slice q n cc).ownBlock) := CS
   have HLT : Hid (∀ j, (Value.slice q n cc).ownBlock = some j → w.heap.size ≤ j) := fun j hj => (HO.out.lt j hj).1
   have hn2 : n ≤ 2000000000000 := by omega
   clear CS hZ hZ' hRZ hA HA HO HRES
   go_wp2_with fail
   refine CS'.out.mono ?_
   rintro e w2 ⟨rfl, own2, hg2⟩
   have hb2 : Below w.heap.size w w2 := hbr.grown hg2 hbr.size HLT.out
   clear CS' hg2
   have HC : Hid (∀ j, j < n → ∃ g, q = some ⟨g, 0, none⟩ ∧ w2.cell? ⟨g, j, none⟩ = some (.int .i64 (Z.getD j 0))) := fun j hj => by
    have hjZ : j < Z.length := by rw [HZ.out.2]; exact hj
    rcases own2.2 with ⟨_, h0⟩ | ⟨g, cap, cur, hv, _⟩
    ·omega
    ·cases hv
     refine ⟨g, rfl, ?_⟩
     rw [own2.cellAt j (by omega), List.getElem?_map, List.getElem?_eq_getElem hjZ, List.getD_eq_getElem?_getD, List.getElem?_eq_getElem hjZ]
     rfl
   clear own2
   go_wp2_with fail
   go_loopw [6, 23] (fun lv iv wy => ∃ (j : Nat), j ≤ n ∧ iv = .int .i64 j ∧ lv = .int .i64 (leastScan (Z.take j)) ∧ wy = w2) (fun _ iv _ => n - (intOf iv).toNat)
   case atStart => exact ⟨0, Nat.zero_le _, rfl, rfl, rfl⟩
   case round =>
    obtain ⟨j, hj, rfl, rfl, rfl⟩ := hrel
    have hle := leastScan_le (Z.take j)
    have hln : ((Z.take j).length : Int) ≤ 2000000000000 := by rw [List.length_take]; omega
    by_cases hjn : j < n
    ·have hjz : (j : Int) < (n : Int) := by omega
     obtain ⟨g, rfl, hcg⟩ := HC.out j hjn
     have HS : Hid (leastScan (Z.take (j + 1)) = stepL (leastScan (Z.take j)) (Z.getD j 0)) := by
      have hjZ : j < Z.length := by rw [HZ.out.2]; exact hjn
      unfold Hid
      rw [List.take_add_one, List.getElem?_eq_getElem hjZ, List.getD_eq_getElem?_getD, List.getElem?_eq_getElem hjZ]
      exact leastScan_snoc _ _
     generalize Z.getD j 0 = z at *
     generalize hLS : leastScan (Z.take j) = LS at *
     clear hLS
     by_cases hz : z = LS
     ·have HS2 : Hid (leastScan (Z.take (j + 1)) = LS + 1) := by unfold Hid; rw [HS.out]; unfold stepL; rw [if_pos hz]
      have hzb : (z == LS) = true := by rw [hz]; simp
      subst hz
      clear HS
      go_wp2_with fail
      go_roundw
      case rel => exact ⟨j + 1, by omega, by go_num, by rw [HS2.out], trivial⟩
      case measure => simp [intOf]; omega
     ·have HS2 : Hid (leastScan (Z.take (j + 1)) = LS) := by unfold Hid; rw [HS.out]; unfold stepL; rw [if_neg hz]
      have hzb : (z == LS) = false := by rw [beq_eq_false_iff_ne]; exact hz
      clear HS
      go_wp2_with fail
      go_roundw
      case rel => exact ⟨j + 1, by omega, by go_num, by rw [HS2.out], trivial⟩
      case measure => simp [intOf]; omega
    ·have hjz : ¬ (j : Int) < (n : Int) := by omega
     have HF : Hid (leastScan (Z.take j) = RES) := by unfold Hid; rw [List.take_of_length_le (by rw [HZ.out.2]; omega)]; exact HZ.out.1
     clear HC
     go_wp2_with fail
     go_ret
     exact ⟨by rw [← HF.out]; rfl, hb2⟩
end Go.Proofs.YtlndhdimamnnlaaGreatDoor



namespace Go.Proofs.YtlndhdimamnnlaaGreatDoor
def encP (p : PT) : List UInt8 := if p.how = 1 then encode p.body else if p.how = 2 then encQ p.body else p.body
end Go.Proofs.YtlndhdimamnnlaaGreatDoor



namespace Go.Proofs.YtlndhdimamnnlaaGreatDoor
open Go.RowKit
def hexUp : ByteArray := ⟨#[48, 49, 50, 51, 52, 53, 54, 55, 56, 57, 65, 66, 67, 68, 69, 70]⟩
theorem hexUp_at : ∀ S : Fin 16, ((hexUp[S.val]'(by have := S.isLt; exact this)).toNat : Int) = ((upHex S.val).toNat : Int) := by decide
theorem u8_and_15 (n : Nat) (h : n < 256) : bits BinOp.and IntKind.u8 (n : Int) 15 = ((n % 16 : Nat) : Int) := by
 have : ∀ n : Fin 256, bits BinOp.and IntKind.u8 (n.val : Int) 15 = ((n.val % 16 : Nat) : Int) := by decide +kernel
 exact this ⟨n, h⟩
set_option maxHeartbeats 1000000 in
theorem written_plain (d : UInt8) (dd : Int) (e : dd = (d.toNat : Int)) (w : World) (hp : plainQ d = true) :
  Calls Tryz.prog 156 #[.int .u8 dd] w fun e w' => e = .returned (.tuple #[.agg #[.int .u8 (d.toNat : Int), .int .u8 0, .int .u8 0], .int .i64 1]) ∧ Below w.heap.size w w' := by
 subst e
 have hpp : 33 ≤ d.toNat ∧ d.toNat ≤ 126 ∧ d.toNat ≠ 61 := by simpa [plainQ] using hp
 have e1 : (33 : Int) ≤ (d.toNat : Int) := by omega
 have e2 : (d.toNat : Int) ≤ 126 := by omega
 have e3 : ((d.toNat : Int) == 61) = false := by rw [beq_eq_false_iff_ne]; omega
 clear hp hpp
 go_enter Tryz.func156, Tryz.ntmps156
 go_wp2
 (try simp only [Exit.inBlock, Exit.then])
 refine bodyPost_ret (v := .tuple #[.agg #[.int .u8 (d.toNat : Int), .int .u8 0, .int .u8 0], .int .i64 1]) ?_ rfl ⟨rfl, (Below.refl _ _).alloc (Nat.le_refl _) _⟩
 rw [results_cell_tmp rfl]
 go_simp
set_option maxHeartbeats 1000000 in
theorem written_hex (d : UInt8) (dd : Int) (e : dd = (d.toNat : Int)) (w : World) (hp : plainQ d = false) :
  Calls Tryz.prog 156 #[.int .u8 dd] w fun e w' => e = .returned (.tuple #[.agg #[.int .u8 61, .int .u8 ((upHex (d.toNat / 16)).toNat : Int), .int .u8 ((upHex (d.toNat % 16)).toNat : Int)], .int .i64 3]) ∧ Below w.heap.size w w' := by
 subst e
 have hd := d.toNat_lt
 have hpp : d.toNat < 33 ∨ 126 < d.toNat ∨ d.toNat = 61 := by
  have : ¬ (33 ≤ d.toNat ∧ d.toNat ≤ 126 ∧ d.toNat ≠ 61) := by simpa [plainQ] using hp
  omega
 have hand := u8_and_15 d.toNat hd
 obtain ⟨U, hU⟩ : ∃ U, U = d.toNat / 16 := ⟨_, rfl⟩
 obtain ⟨V, hV⟩ : ∃ V, V = d.toNat % 16 := ⟨_, rfl⟩
 rw [← hV] at hand ⊢
 rw [← hU]
 have hU16 : U < 16 := by omega
 have hV16 : V < 16 := by omega
 have hsh : (d.toNat : Int) / 16 = (U : Int) := by omega
 have hUi : (U : Int) < 16 := by omega
 have hVi : (V : Int) < 16 := by omega
 clear hU hV hp
 by_cases h1 : 33 ≤ d.toNat
 ·have e1 : (33 : Int) ≤ (d.toNat : Int) := by omega
  by_cases h2 : d.toNat ≤ 126
  ·have e2 : (d.toNat : Int) ≤ 126 := by omega
   have e3 : ((d.toNat : Int) == 61) = true := by rw [beq_iff_eq]; omega
   clear hpp
   go_enter Tryz.func156, Tryz.ntmps156
   go_wp2
   go_region
   go_wp2
   (try simp only [Exit.inBlock, Exit.then])
   refine bodyPost_ret (v := .tuple #[.agg #[.int .u8 61, .int .u8 ((upHex U).toNat : Int), .int .u8 ((upHex V).toNat : Int)], .int .i64 3]) ?_ rfl ⟨rfl, ((Below.refl _ _).alloc (Nat.le_refl _) _).drew⟩
   rw [results_cell_tmp rfl, ← hexUp_at ⟨U, hU16⟩, ← hexUp_at ⟨V, hV16⟩]
   go_simp
   exact ⟨rfl, rfl⟩
  ·have e2 : decide ((d.toNat : Int) ≤ 126) = false := by simp; omega
   clear hpp
   go_enter Tryz.func156, Tryz.ntmps156
   go_wp2
   go_region
   go_wp2
   (try simp only [Exit.inBlock, Exit.then])
   refine bodyPost_ret (v := .tuple #[.agg #[.int .u8 61, .int .u8 ((upHex U).toNat : Int), .int .u8 ((upHex V).toNat : Int)], .int .i64 3]) ?_ rfl ⟨rfl, ((Below.refl _ _).alloc (Nat.le_refl _) _).drew⟩
   rw [results_cell_tmp rfl, ← hexUp_at ⟨U, hU16⟩, ← hexUp_at ⟨V, hV16⟩]
   go_simp
   exact ⟨rfl, rfl⟩
 ·have e1 : decide ((33 : Int) ≤ (d.toNat : Int)) = false := by simp; omega
  clear hpp
  go_enter Tryz.func156, Tryz.ntmps156
  go_wp2
  go_region
  go_wp2
  (try simp only [Exit.inBlock, Exit.then])
  refine bodyPost_ret (v := .tuple #[.agg #[.int .u8 61, .int .u8 ((upHex U).toNat : Int), .int .u8 ((upHex V).toNat : Int)], .int .i64 3]) ?_ rfl ⟨rfl, ((Below.refl _ _).alloc (Nat.le_refl _) _).drew⟩
  rw [results_cell_tmp rfl, ← hexUp_at ⟨U, hU16⟩, ← hexUp_at ⟨V, hV16⟩]
  go_simp
  exact ⟨rfl, rfl⟩
end Go.Proofs.YtlndhdimamnnlaaGreatDoor

