/- Plain functions: the numbers whose borders stand in a text, and the least that is not among them. No program. -/
import Derived.Lib.SplitLaws
import Derived.Lib.Strings
import Derived.Test.YtpgnkhaanoalhaaGreatDoorXmimeborders12
import Derived.Test.YtpgnkhaanoalhaaGreatDoorXmimeborders5
import Derived.Shelf.Sort.Plain
import Derived.Shelf.Slices.In.SortNone
import Derived.Sort.OwnSortedInts
namespace Go.Proofs.YtpgnkhaanoalhaaGreatDoor

def mark4 : List UInt8 := [45, 45, 61, 95]
def digC (c : UInt8) : Bool := decide (48 ≤ c.toNat) && decide (c.toNat ≤ 57)
/-- The numbers that stand at the beginning: of 12 the 1, too. -/
def digsFrom : Nat → List UInt8 → List Nat
  | _, [] => []
  | n, c :: r => if digC c = true then (if 10 * n + (c.toNat - 48) = 0 ∨ 1000000 ≤ 10 * n + (c.toNat - 48) then [] else (10 * n + (c.toNat - 48)) :: digsFrom (10 * n + (c.toNat - 48)) r) else []
def takenGo : Nat → List UInt8 → List Nat
  | 0, _ => []
  | f + 1, s => if (Lib.cut s mark4).2.2 = true then digsFrom 0 (Lib.cut s mark4).2.1 ++ takenGo f (Lib.cut s mark4).2.1 else []
def takenOf (s : List UInt8) : List Nat := takenGo (s.length + 1) s
theorem cut_less (s : List UInt8) (h : (Lib.cut s mark4).2.2 = true) : (Lib.cut s mark4).2.1.length + 1 ≤ s.length := by
  unfold Lib.cut at h ⊢
  by_cases h0 : 0 ≤ Lib.index s mark4
  · rw [if_pos h0]
    cases s with
    | nil => exact absurd h0 (by decide)
    | cons a l =>
      show (List.drop _ (a :: l)).length + 1 ≤ _
      rw [List.length_drop]
      simp [mark4]
  · rw [if_neg h0] at h
    cases h
theorem digs_len : ∀ (l : List UInt8) (n : Nat), (digsFrom n l).length ≤ l.length
  | [], n => Nat.le_refl _
  | c :: r, n => by
    rw [digsFrom]
    split
    · split
      · simp
      · have := digs_len r (10 * n + (c.toNat - 48))
        simp
        omega
    · simp
theorem taken_len : ∀ (f : Nat) (s : List UInt8), (takenGo f s).length ≤ s.length * s.length
  | 0, s => by rw [takenGo]; simp
  | f + 1, s => by
    rw [takenGo]
    split
    · rename_i h
      have h1 := cut_less s h
      have h2 := digs_len (Lib.cut s mark4).2.1 0
      have h3 := taken_len f (Lib.cut s mark4).2.1
      generalize (Lib.cut s mark4).2.1 = a at *
      rw [List.length_append]
      have h4 : (a.length + 1) * (a.length + 1) ≤ s.length * s.length := Nat.mul_le_mul h1 h1
      rw [Nat.add_mul, Nat.mul_add, Nat.one_mul, Nat.mul_one] at h4
      omega
    · simp
def stepL (a z : Int) : Int := if z = a then a + 1 else a
/-- The least from 1 on, by numbers in order. -/
def leastScan (zs : List Int) : Int := zs.foldl stepL 1
def sortZ (zs : List Int) : List Int := zs.mergeSort fun x y => decide (x ≤ y)
def leastP (ts : List (List UInt8)) : Int := leastScan (sortZ ((ts.flatMap takenOf).map fun (n : Nat) => (n : Int)))
theorem leastScan_snoc (zs : List Int) (z : Int) : leastScan (zs ++ [z]) = stepL (leastScan zs) z := by simp [leastScan]
theorem fold_le : ∀ (zs : List Int) (a : Int), a ≤ zs.foldl stepL a ∧ zs.foldl stepL a ≤ a + zs.length
  | [], a => by simp
  | z :: zs, a => by
    have h := fold_le zs (stepL a z)
    have h1 : a ≤ stepL a z ∧ stepL a z ≤ a + 1 := by unfold stepL; split <;> omega
    rw [List.foldl_cons, List.length_cons]
    omega
theorem leastScan_le (zs : List Int) : 1 ≤ leastScan zs ∧ leastScan zs ≤ zs.length + 1 := by
  have := fold_le zs 1
  unfold leastScan
  omega

end Go.Proofs.YtpgnkhaanoalhaaGreatDoor

/- mime.appendTaken behind numbers that the caller owns: the numbers whose borders stand in a text, as the plain function says; what the caller does not own is as it was. Conditions: the text is not too long; internal/bytealg.MaxLen holds a number. -/
namespace Go.Proofs.YtpgnkhaanoalhaaGreatDoor
open Go.RowKit

def nzv (l : List Nat) : List Value := l.map fun (n : Nat) => Value.int .i64 (n : Int)
theorem nzv_snoc (l : List Nat) (n : Nat) : nzv (l ++ [n]) = nzv l ++ [.int .i64 (n : Int)] := by simp [nzv]

set_option maxHeartbeats 4000000 in
set_option maxRecDepth 100000 in
/-- mime.appendTaken. -/
theorem taken_any (w0 : World) (M : Int) (hM : ∀ w', Below w0.heap.size w0 w' → w'.cell? ⟨1, 0, none⟩ = some (.int .i64 M)) (lv : Value) (l : List Nat) (s : ByteArray) (w : World) (hb : Below w0.heap.size w0 w) (hs : s.size ≤ 1000000) (hl : l.length + s.size * s.size ≤ 2000000000000) (ho : w.ownsRow w0.heap.size 3 1 lv l.length (nzv l)) :
    Calls Tryz.prog 113 #[lv, .string s] w fun e w' => ∃ v, e = .returned v ∧ w'.ownsRow w0.heap.size 3 1 v (l ++ takenOf s.data.toList).length (nzv (l ++ takenOf s.data.toList)) ∧ Below w0.heap.size w0 w' := by
  obtain ⟨i0, hi, hz0, hz1, hz2⟩ := info_parts info_int
  obtain ⟨q, c, rfl⟩ := owned_slice ho
  have HM : Hid (∀ w', Below w0.heap.size w0 w' → w'.cell? ⟨1, 0, none⟩ = some (.int .i64 M)) := hM
  obtain ⟨RES, hRES⟩ : ∃ RES, l ++ takenOf s.data.toList = RES := ⟨_, rfl⟩
  have HRES : Hid (l ++ takenGo (s.data.toList.length + 1) s.data.toList = RES) := hRES
  rw [hRES]
  have HO : Hid (w.ownsRow w0.heap.size 3 1 (.slice q l.length c) l.length (nzv l)) := ho
  obtain ⟨N, hN⟩ : ∃ N, s.size = N := ⟨_, rfl⟩
  rw [hN] at hs hl
  clear hRES hM ho
  go_enter Tryz.func113, Tryz.ntmps113
  go_wp2_with fail
  go_loopw [0, 1] (fun ov sv wr => ∃ (t : ByteArray) (acc : List Nat) (f : Nat) (q : Option Addr) (n c : Nat), sv = .string t ∧ ov = .slice q n c ∧ t.size ≤ N ∧ Hid (n = acc.length) ∧ n + t.size * N ≤ 2000000000000 ∧ Below w0.heap.size w0 wr ∧ Hid (t.size < f) ∧ Hid (wr.ownsRow w0.heap.size 3 1 (.slice q n c) n (nzv acc)) ∧ Hid (acc ++ takenGo f t.data.toList = RES)) (fun _ sv _ => strLen sv)
  case atStart => exact ⟨s, l, s.data.toList.length + 1, q, l.length, c, rfl, rfl, by omega, rfl, by rw [hN]; exact hl, hb, by unfold Hid; rw [Lib.size_eq]; omega, HO, HRES⟩
  case round =>
    obtain ⟨t, acc, f, q1, n1, c1, rfl, rfl, htN, HN1, hn1, hbr, HF, HO1, HR⟩ := hrel
    clear HO HRES hN hb
    obtain ⟨f', rfl⟩ : ∃ f', f = f' + 1 := ⟨f - 1, by have := HF.out; omega⟩
    have CC := Tryz.strings_Cut t ⟨#[45, 45, 61, 95]⟩ M wr (by omega) (HM.out wr hbr)
    rw [takenGo] at HR
    have hm4 : (ByteArray.mk #[45, 45, 61, 95]).data.toList = mark4 := rfl
    rw [hm4] at CC
    have hless := cut_less t.data.toList
    generalize hCT : Lib.cut t.data.toList mark4 = CT at *
    obtain ⟨be, af, ok⟩ := CT
    simp only at CC HR hless
    obtain ⟨A, hA⟩ : ∃ A : ByteArray, (⟨af.toArray⟩ : ByteArray) = A := ⟨_, rfl⟩
    obtain ⟨Bf, hBf⟩ : ∃ B : ByteArray, (⟨be.toArray⟩ : ByteArray) = B := ⟨_, rfl⟩
    have hAf : af = A.data.toList := by rw [← hA]
    rw [hA, hBf] at CC
    rw [hAf] at HR hless
    rw [← Lib.size_eq, ← Lib.size_eq] at hless
    have CC' : Hid (Calls Tryz.prog 121 #[.string t, .string ⟨#[45, 45, 61, 95]⟩] wr fun e w' => e = .returned (.tuple #[.string Bf, .string A, .bool ok]) ∧ ∃ n, w' = wr.drewN n) := CC
    clear CC hA hBf hAf hCT hm4
    cases ok
    · rw [if_neg (by decide), List.append_nil] at HR
      clear hless
      go_wp2_with fail
      refine CC'.out.mono ?_
      rintro e w1 ⟨rfl, k1, rfl⟩
      clear CC'
      go_wp2_with fail
      go_ret
      refine ⟨_, rfl, ?_, below_drewN' hbr k1⟩
      rw [← HR.out, ← HN1.out]
      exact HO1.out
    · rw [if_pos rfl] at HR
      have hAs := hless rfl
      have hAN : A.size * N + N ≤ t.size * N := by
        have : (A.size + 1) * N ≤ t.size * N := Nat.mul_le_mul_right N hAs
        rw [Nat.add_mul, Nat.one_mul] at this
        exact this
      have HF2 : Hid (A.size < f') := by unfold Hid; have := HF.out; omega
      clear hless
      go_wp2_with fail
      refine CC'.out.mono ?_
      rintro e w1 ⟨rfl, k1, rfl⟩
      clear CC'
      have hbr1 : Below w0.heap.size w0 (wr.drewN k1) := below_drewN' hbr k1
      have HO2 : Hid ((wr.drewN k1).ownsRow w0.heap.size 3 1 (.slice q1 n1 c1) n1 (nzv acc)) := HO1.out
      clear HO1 hbr
      generalize wr.drewN k1 = w1 at *
      have HRr : Hid (acc ++ digsFrom 0 (A.data.toList.drop 0) ++ takenGo f' A.data.toList = RES) := by unfold Hid; rw [List.drop_zero, List.append_assoc]; exact HR.out
      go_wp2_with fail
      go_loopw [0, 6, 7] (fun ov nv iv wy => ∃ (i nn : Nat) (acc' : List Nat) (q : Option Addr) (n c : Nat), i ≤ A.size ∧ iv = .int .i64 i ∧ nv = .int .i64 nn ∧ nn < 1000000 ∧ ov = .slice q n c ∧ n ≤ n1 + i ∧ Hid (n = acc'.length) ∧ Below w0.heap.size w0 wy ∧ Hid (wy.ownsRow w0.heap.size 3 1 (.slice q n c) n (nzv acc')) ∧ Hid (acc' ++ digsFrom nn (A.data.toList.drop i) ++ takenGo f' A.data.toList = RES)) (fun _ _ iv _ => A.size - (intOf iv).toNat)
      case atStart => exact ⟨0, 0, acc, q1, n1, c1, Nat.zero_le _, rfl, rfl, by decide, rfl, by omega, HN1, hbr1, HO2, HRr⟩
      case round =>
        obtain ⟨i, nn, acc2, q2, n2, c2, hiA, rfl, rfl, hnn, rfl, hn2, HN2, hb2, HOy, HRy⟩ := hrel
        clear HO2 HRr hbr1
        by_cases hlt : i < A.size
        · have hlz : (i : Int) < (A.size : Int) := by omega
          obtain ⟨x, hx⟩ : ∃ x : UInt8, A[i]'hlt = x := ⟨_, rfl⟩
          have hxl : A.data.toList.drop i = x :: A.data.toList.drop (i + 1) := by
            have hil : i < A.data.toList.length := by rw [← Lib.size_eq]; exact hlt
            rw [List.drop_eq_getElem_cons hil]
            congr 1
          rw [hxl, digsFrom] at HRy
          clear hxl
          by_cases h48 : 48 ≤ x.toNat
          · have h48' : (48 : Int) ≤ (x.toNat : Int) := by omega
            by_cases h57 : x.toNat ≤ 57
            · have h57' : (x.toNat : Int) ≤ 57 := by omega
              have hdig : digC x = true := by unfold digC; simp [h48, h57]
              rw [if_pos hdig] at HRy
              obtain ⟨mm, hmm⟩ : ∃ mm : Nat, 10 * nn + (x.toNat - 48) = mm := ⟨_, rfl⟩
              rw [hmm] at HRy
              have hmz : 10 * (nn : Int) + ((x.toNat : Int) - 48) = (mm : Int) := by omega
              have hmb : mm < 10000010 := by omega
              have hu8 : IntKind.u8.wrap ((x.toNat : Int) - 48) = (x.toNat : Int) - 48 := by rw [IntKind.wrap_u8]; omega
              have hw1 : IntKind.i64.wrap (10 * (nn : Int)) = 10 * (nn : Int) := by rw [IntKind.wrap_i64]; omega
              have hw3 : IntKind.i64.wrap ((x.toNat : Int) - 48) = (x.toNat : Int) - 48 := by rw [IntKind.wrap_i64]; omega
              have hw2 : IntKind.i64.wrap (10 * (nn : Int) + ((x.toNat : Int) - 48)) = (mm : Int) := by rw [hmz, IntKind.wrap_i64]; omega
              clear hmm hdig
              by_cases h0 : mm = 0 ∨ 1000000 ≤ mm
              · rw [if_pos h0, List.append_nil] at HRy
                have HRz : Hid (acc2 ++ takenGo f' A.data.toList = RES) := HRy
                by_cases h00 : mm = 0
                · have h00' : ((mm : Int) == 0) = true := by rw [h00]; rfl
                  clear HRy h0 h00
                  go_wp2_with fail
                  go_roundw
                  case rel => exact ⟨A, acc2, f', q2, n2, c2, rfl, rfl, by omega, HN2, by omega, hb2, HF2, HOy, HRz⟩
                  case measure => simp [strLen]; omega
                · have h00' : ((mm : Int) == 0) = false := by rw [beq_eq_false_iff_ne]; omega
                  have hbig : (1000000 : Int) ≤ (mm : Int) := by omega
                  clear HRy h0 h00
                  go_wp2_with fail
                  go_roundw
                  case rel => exact ⟨A, acc2, f', q2, n2, c2, rfl, rfl, by omega, HN2, by omega, hb2, HF2, HOy, HRz⟩
                  case measure => simp [strLen]; omega
              · rw [if_neg h0] at HRy
                have h00' : ((mm : Int) == 0) = false := by rw [beq_eq_false_iff_ne]; omega
                have hbig : ¬ (1000000 : Int) ≤ (mm : Int) := by omega
                have HRn : Hid ((acc2 ++ [mm]) ++ digsFrom mm (A.data.toList.drop (i + 1)) ++ takenGo f' A.data.toList = RES) := by
                  unfold Hid
                  rw [← HRy.out]
                  simp
                have hoy := HOy.out
                clear HRy h0
                go_wp2_with (at_builtin; refine wpList_append_own _ rfl (.tmp 49) (.tmp 51) 120 rfl w0.heap.size 3 i0 (.int .i64 0) 1 8 Tryz.underlying120 hi hz0 hz1 hz2 rfl (by decide) _ _ _ rfl (hoy.alloc _) ⟨wr.heap.size, 0, none⟩ 1 1 [.int .i64 (mm : Int)] rfl rfl (cell_lone _ _ _ _ rfl) ?c2 ?c3 ?c4 ?c5 ?_)
                case c2 => first | rfl | (intro u hu; simp at hu; subst hu; rfl)
                case c3 => unfold maxLen; omega
                case c4 => omega
                case c5 => have := hb2.size; simp; omega
                intro v9 w9 hown9 hg9 _
                have hb9 : Below w0.heap.size w0 w9 := (hb2.alloc hb2.size _).grown hg9 (by have := hb2.size; simp; omega) (fun j hj => (hoy.lt j hj).1)
                obtain ⟨q9, c9, rfl⟩ := owned_slice hown9
                have HO9 : Hid (w9.ownsRow w0.heap.size 3 1 (.slice q9 (n2 + 1) c9) (n2 + 1) (nzv (acc2 ++ [mm]))) := by unfold Hid; rw [nzv_snoc]; exact hown9
                have HL9 : Hid (n2 + 1 = (acc2 ++ [mm]).length) := by unfold Hid; rw [List.length_append, ← HN2.out]; rfl
                clear hown9 hg9 hoy HOy
                go_wp2_with fail
                go_roundw
                case rel => exact ⟨i + 1, mm, acc2 ++ [mm], q9, n2 + 1, c9, by omega, by go_num, rfl, by omega, rfl, by omega, HL9, hb9, HO9, HRn⟩
                case measure => simp [intOf]; omega
            · have h57' : ¬ (x.toNat : Int) ≤ 57 := by omega
              have hdig : digC x = false := by unfold digC; simp; omega
              rw [if_neg (by rw [hdig]; decide), List.append_nil] at HRy
              have HRz : Hid (acc2 ++ takenGo f' A.data.toList = RES) := HRy
              clear HRy hdig
              go_wp2_with fail
              go_roundw
              case rel => exact ⟨A, acc2, f', q2, n2, c2, rfl, rfl, by omega, HN2, by omega, hb2, HF2, HOy, HRz⟩
              case measure => simp [strLen]; omega
          · have h48' : ¬ (48 : Int) ≤ (x.toNat : Int) := by omega
            have hdig : digC x = false := by unfold digC; simp; omega
            rw [if_neg (by rw [hdig]; decide), List.append_nil] at HRy
            have HRz : Hid (acc2 ++ takenGo f' A.data.toList = RES) := HRy
            clear HRy hdig
            go_wp2_with fail
            go_roundw
            case rel => exact ⟨A, acc2, f', q2, n2, c2, rfl, rfl, by omega, HN2, by omega, hb2, HF2, HOy, HRz⟩
            case measure => simp [strLen]; omega
        · have hlz : ¬ (i : Int) < (A.size : Int) := by omega
          have HRz : Hid (acc2 ++ takenGo f' A.data.toList = RES) := by
            have h := HRy.out
            rw [List.drop_of_length_le (by rw [← Lib.size_eq]; omega), digsFrom, List.append_nil] at h
            exact h
          clear HRy
          go_wp2_with fail
          go_roundw
          case rel => exact ⟨A, acc2, f', q2, n2, c2, rfl, rfl, by omega, HN2, by omega, hb2, HF2, HOy, HRz⟩
          case measure => simp [strLen]; omega
end Go.Proofs.YtpgnkhaanoalhaaGreatDoor

/- slices.Sort of numbers that the caller owns: they lie there in order; nothing else is changed. -/
namespace Go.Proofs.YtpgnkhaanoalhaaGreatDoor
open Go.RowKit

theorem sort_own (base : Nat) (zs : List Int) (v : Value) (w : World) (hown : w.ownsRow base 3 1 v zs.length (zs.map (Value.int .i64))) (hsz : zs.length < 4611686018427387904) :
    Calls Tryz.prog 114 #[v] w fun e w' => e = .returned (.tuple #[]) ∧ w'.ownsRow base 3 1 v zs.length ((zs.mergeSort fun x y => decide (x ≤ y)).map (Value.int .i64)) ∧ w.grownBy w' v.ownBlock := by
  rcases hown.2 with ⟨rfl, h0⟩ | ⟨g, cap, cur, rfl, hb, hg, h1, h2, h3, h4⟩
  · obtain rfl : zs = [] := List.length_eq_zero_iff.1 h0
    refine (Go.Proofs.Any.slices_Sort_int_none Tryz.lays189 none 0 w).mono ?_
    rintro e w' ⟨rfl, rfl⟩
    exact ⟨rfl, by simpa using hown, ⟨rfl, rfl, rfl, Nat.le_refl _, fun _ _ _ => rfl⟩⟩
  · refine (Go.Proofs.Any.slices_Sort_int Tryz.lays189 g 0 cap zs w (Go.holds_of_blockI hg (by rw [Nat.mul_one] at h4; exact h4)) (Array.getElem?_eq_some_iff.1 hg).1 hsz).mono ?_
    rintro e w' ⟨rfl, n, os, rfl⟩
    exact ⟨rfl, Go.ownsRow_sortedI (by simp) hb hg h1 h2 h3, Go.grownBy_sortedI _⟩
end Go.Proofs.YtpgnkhaanoalhaaGreatDoor
