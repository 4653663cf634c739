/- The reference's small: what the plain function says; nothing that was there is changed. Condition: the text is not too long. -/
import Derived.Test.YtdlnlepecdcmjaaDoorXlinksaysupto24
import Derived.Test.YtdlnlepecdcmjaaDoorXlinksaysupto15
import Derived.Test.YtdlnlepecdcmjaaDoorXlinksaysupto4
import Derived.Lib.ConvBytes
import Derived.Test.YtdlnlepecdcmjaaDoorXlinksaysupto9
namespace Go.Proofs.YtdlnlepecdcmjaaDoor
open Go.RowKit

def upSet : List UInt8 := [65, 66, 67, 68, 69, 70, 71, 72, 73, 74, 75, 76, 77, 78, 79, 80, 81, 82, 83, 84, 85, 86, 87, 88, 89, 90]
theorem upSet_is (c : UInt8) : upSet.contains c = isUpB c := by
  have : ∀ n : Fin 256, upSet.contains (UInt8.ofNat n.val) = isUpB (UInt8.ofNat n.val) := by decide +kernel
  have h := this ⟨c.toNat, c.toNat_lt⟩
  simp only [UInt8.ofNat_toNat] at h
  exact h
set_option maxHeartbeats 4000000 in
set_option maxRecDepth 100000 in
/-- The reference's small. -/
theorem rsm_any (s : ByteArray) (w : World) (hs : s.size ≤ 1000000) :
    Calls Tryd.prog 19 #[.string s] w fun e w' => e = .returned (.string ⟨(smallU s.data.toList).toArray⟩) ∧ Below w.heap.size w w' := by
  have hcv : (convert 9 22 (.string s)).run Tryd.prog w = .ok (.slice (some ⟨w.heap.size, 0, none⟩) s.size (grownCap w s.size 0 5)) (Lib.bytesWorld w 5 s) := Lib.run_convert_string_bytes w _ _ _ s Tryd.underlying9 Tryd.underlying22 Tryd.underlying5
  have hB : Below w.heap.size w (Lib.bytesWorld w 5 s) := ⟨rfl, rfl, rfl, by rw [Lib.bytesWorld_size]; omega, fun k hk => Lib.bytesWorld_at_old w _ s k hk⟩
  have HC0 : Hid (∀ i, i < s.size → (Lib.bytesWorld w 5 s).cell? ⟨w.heap.size, i, none⟩ = some (.int .u8 ((s.data.toList.getD i 0).toNat : Int))) := fun i hi => Lib.bytesWorld_cell w _ s i hi
  have HF0 : Hid (∀ i, i < s.size → (Lib.bytesWorld w 5 s).frozen? ⟨w.heap.size, i, none⟩ = false) := fun i hi => by
    unfold World.frozen?
    simp only [Lib.bytesWorld_at_new]
    have : s.size ≤ (Lib.bytesCells w 5 s).size := by unfold Lib.bytesCells; simp
    rw [Bool.and_eq_false_iff]
    left
    rw [decide_eq_false_iff_not]
    omega
  generalize grownCap w s.size 0 5 = CAP at *
  generalize Lib.bytesWorld w 5 s = w1 at *
  have hle : Hid (s.size = s.data.toList.length) := Lib.size_eq s
  go_enter Tryd.func19, Tryd.ntmps19
  go_wp2
  go_loopw [9] (fun iv wr => ∃ k : Nat, k ≤ s.size ∧ iv = .int .i64 k ∧ Below w.heap.size w wr ∧ Hid (∀ i, i < s.size → wr.cell? ⟨w.heap.size, i, none⟩ = some (.int .u8 (((smk k s.data.toList).getD i 0).toNat : Int))) ∧ Hid (∀ i, i < s.size → wr.frozen? ⟨w.heap.size, i, none⟩ = false)) (fun iv _ => s.size - (intOf iv).toNat)
  case atStart => exact ⟨0, Nat.zero_le _, rfl, hB, HC0, HF0⟩
  case round =>
    obtain ⟨k, hk, rfl, hbel, HC, HF⟩ := hrel
    clear HC0 HF0
    by_cases hlt : k < s.size
    · have hll : k < s.data.toList.length := by rw [← hle.out]; exact hlt
      have hck := HC.out k hlt
      rw [smk_get k _ hll] at hck
      have hfk := HF.out k hlt
      obtain ⟨c, hc⟩ : ∃ c, s.data.toList.getD k 0 = c := ⟨_, rfl⟩
      rw [hc] at hck
      have CI : Hid (Calls Tryd.prog 16 #[.string ⟨#[65, 66, 67, 68, 69, 70, 71, 72, 73, 74, 75, 76, 77, 78, 79, 80, 81, 82, 83, 84, 85, 86, 87, 88, 89, 90]⟩, .int .u8 (c.toNat : Int)] wr fun e w' => ∃ i : Int, e = .returned (.int .i64 i) ∧ decide (0 ≤ i) = isUpB c ∧ w' = wr) := by
        have := ix_any ⟨#[65, 66, 67, 68, 69, 70, 71, 72, 73, 74, 75, 76, 77, 78, 79, 80, 81, 82, 83, 84, 85, 86, 87, 88, 89, 90]⟩ upSet rfl c _ rfl wr
        rw [upSet_is] at this
        exact this
      cases hu : isUpB c with
      | false =>
        rw [hu] at CI
        have HC2 : Hid (∀ i, i < s.size → wr.cell? ⟨w.heap.size, i, none⟩ = some (.int .u8 (((smk (k + 1) s.data.toList).getD i 0).toNat : Int))) := fun i hi => by
          rw [smk_succ k _ hll, hc, show lowU c = c from by unfold lowU; rw [hu]; rfl, ← hc, ← smk_get k _ hll, set_self _ k (by rw [smk_length]; exact hll)]
          exact HC.out i hi
        clear HC hc hu
        go_wp2_with fail
        refine CI.out.mono ?_
        rintro e w' ⟨i9, rfl, hi9, hw'⟩
        have hw'' := hw'.symm
        subst hw''
        clear CI
        go_wp2
        go_roundw
        case rel => exact ⟨k + 1, by omega, by go_num, hbel, HC2, HF⟩
        case measure => simp [intOf]; omega
      | true =>
        rw [hu] at CI
        have hub : 65 ≤ c.toNat ∧ c.toNat ≤ 90 := by unfold isUpB at hu; simpa using hu
        have h65 : (65 : Int) ≤ (c.toNat : Int) := by omega
        have h90 : (c.toNat : Int) ≤ 90 := by omega
        have hval : (c.toNat : Int) + 32 = ((lowU c).toNat : Int) := by
          have : (lowU c).toNat = c.toNat + 32 := by
            unfold lowU
            rw [if_pos hu, UInt8.toNat_add]
            show (c.toNat + 32) % 256 = _
            omega
          omega
        have HC2 : Hid (∀ i, i < s.size → (wr.setCell ⟨w.heap.size, k, none⟩ (.int .u8 ((lowU c).toNat : Int))).cell? ⟨w.heap.size, i, none⟩ = some (.int .u8 (((smk (k + 1) s.data.toList).getD i 0).toNat : Int))) := fun i hi => by
          rw [smk_succ k _ hll, hc, set_getD _ _ _ _ (by rw [smk_length]; exact hll)]
          by_cases hik : i = k
          · subst hik
            rw [if_pos rfl]
            exact World.cell?_setCell_same _ _ _ hck
          · rw [if_neg hik, World.cell?_setCell_other _ _ _ _ (fun e => hik (by injection e with _ e _; exact e.symm))]
            exact HC.out i hi
        have HF2 : Hid (∀ i, i < s.size → (wr.setCell ⟨w.heap.size, k, none⟩ (.int .u8 ((lowU c).toNat : Int))).frozen? ⟨w.heap.size, i, none⟩ = false) := fun i hi => by
          rw [World.frozen?_setCell]; exact HF.out i hi
        have hb2 : Below w.heap.size w (wr.setCell ⟨w.heap.size, k, none⟩ (.int .u8 ((lowU c).toNat : Int))) := hbel.setCell (Nat.le_refl _) _
        clear HC HF hc hu hub
        go_wp2_with fail
        refine CI.out.mono ?_
        rintro e w' ⟨i9, rfl, hi9, hw'⟩
        have hw'' := hw'.symm
        subst hw''
        clear CI
        go_wp2
        try simp only [hval]
        go_roundw
        case rel => exact ⟨k + 1, by omega, by go_num, hb2, HC2, HF2⟩
        case measure => simp [intOf]; omega
    · obtain rfl : k = s.size := by omega
      have hr : BRow wr (some ⟨w.heap.size, 0, none⟩) (smallU s.data.toList) := fun _ => ⟨w.heap.size, 0, rfl, fun i hi => by
        have hi' : i < s.size := by rw [hle.out]; unfold smallU at hi; rw [List.length_map] at hi; exact hi
        have := HC.out i hi'
        rw [hle.out, smk_all] at this
        rw [Nat.zero_add]
        exact this⟩
      have hcv2 := conv_bytes wr (some ⟨w.heap.size, 0, none⟩) s.size CAP (smallU s.data.toList) (by rw [hle.out]; unfold smallU; rw [List.length_map]) hr (fun e => by cases e)
      clear HC HF hr
      go_wp2
      go_ret
      exact ⟨rfl, hbel⟩
end Go.Proofs.YtdlnlepecdcmjaaDoor

/- The reference's closures on links: isSpace, isLetter, behind: what the plain functions say. -/
namespace Go.Proofs.YtdlnlepecdcmjaaDoor
open Go.RowKit

set_option maxHeartbeats 2000000 in
theorem rspace_any (g : Nat) (p : ByteArray) (k : Nat) (hk : k < p.size) (w : World) (hg : w.cell? ⟨g, 0, none⟩ = some (.string p)) :
    Calls Tryd.prog 15 #[.int .i64 (k : Int), .pointer (some ⟨g, 0, none⟩)] w fun e w' => e = .returned (.bool (spB (p[k]'hk))) ∧ w' = w := by
  have hki : (k : Int) < (p.size : Int) := by omega
  go_enter Tryd.func15, Tryd.ntmps15
  go_wp2_with (go_at_call 16; refine (ix_any ⟨#[32, 9, 13, 10, 12]⟩ [32, 9, 13, 10, 12] rfl (p[k]'hk) _ rfl _).mono ?_; rintro e w' ⟨i, rfl, hi8, hw'⟩; have hi9 : Hid (decide (0 ≤ i) = spB (p[k]'hk)) := hi8; clear hi8; have hw'' := hw'.symm; subst hw'')
  go_ret
  exact ⟨ret_bool hi9.out, rfl⟩
def alphaL : List UInt8 := [97, 98, 99, 100, 101, 102, 103, 104, 105, 106, 107, 108, 109, 110, 111, 112, 113, 114, 115, 116, 117, 118, 119, 120, 121, 122]
theorem alpha_low (c : UInt8) : alphaL.contains (lowU c) = letB c := by
  have : ∀ n : Fin 256, alphaL.contains (lowU (UInt8.ofNat n.val)) = letB (UInt8.ofNat n.val) := by decide +kernel
  have h := this ⟨c.toNat, c.toNat_lt⟩
  simpa using h
set_option maxHeartbeats 2000000 in
theorem rletter_any (g : Nat) (p : ByteArray) (k : Nat) (hp : p.size ≤ 4000) (hk : k ≤ p.size + 10) (w : World) (hg : w.cell? ⟨g, 0, none⟩ = some (.string p)) :
    Calls Tryd.prog 17 #[.int .i64 (k : Int), .pointer (some ⟨g, 0, none⟩)] w fun e w' => e = .returned (.bool (headL (p.data.toList.drop k))) ∧ Below w.heap.size w w' := by
  by_cases hlt : k < p.size
  · have HV : Hid (headL (p.data.toList.drop k) = letB (p[k]'hlt)) := by unfold Hid; rw [dropB p k hlt]; rfl
    have hx : p.extract k (k + 1) = ⟨#[p[k]'hlt]⟩ := by
      apply ByteArray.ext
      apply Array.toList_inj.1
      have e := Lib.extract_data p k (k + 1)
      rw [e, dropB p k hlt, show k + 1 - k = 1 from by omega]
      rfl
    have HS : Hid (∀ W, Calls Tryd.prog 19 #[.string ⟨#[p[k]'hlt]⟩] W fun e w' => e = .returned (.string ⟨#[lowU (p[k]'hlt)]⟩) ∧ Below W.heap.size W w') := fun W => rsm_any ⟨#[p[k]'hlt]⟩ W (show 1 ≤ 1000000 by decide)
    have HC : Hid (∀ W c, Calls Tryd.prog 18 #[.string ⟨#[97, 98, 99, 100, 101, 102, 103, 104, 105, 106, 107, 108, 109, 110, 111, 112, 113, 114, 115, 116, 117, 118, 119, 120, 121, 122]⟩, .string ⟨#[lowU c]⟩] W fun e w' => e = .returned (.bool (letB c)) ∧ w' = W) := fun W c => by
      refine (Tryd.strings_Contains_one ⟨#[97, 98, 99, 100, 101, 102, 103, 104, 105, 106, 107, 108, 109, 110, 111, 112, 113, 114, 115, 116, 117, 118, 119, 120, 121, 122]⟩ (lowU c) W).mono ?_
      rintro e w' ⟨rfl, rfl⟩
      refine ⟨?_, rfl⟩
      rw [indexByte_mem, ← alpha_low c]
      simp [alphaL]
    have hki : (k : Int) < (p.size : Int) := by omega
    have hk1 : (k : Int) + 1 ≤ (p.size : Int) := by omega
    have hw1 : IntKind.i64.wrap ((k : Int) + 1) = ((k + 1 : Nat) : Int) := by rw [IntKind.wrap_i64]; omega
    generalize p[k]'hlt = c at *
    go_enter Tryd.func17, Tryd.ntmps17
    go_wp2_with fail
    refine (HS.out _).mono ?_
    rintro e w1 ⟨rfl, hb1⟩
    go_wp2_with fail
    refine (HC.out _ _).mono ?_
    rintro e w2 ⟨rfl, hw2⟩
    have hw3 := hw2.symm
    subst hw3
    go_wp2_with fail
    go_ret
    exact ⟨ret_bool HV.out.symm, hb1⟩
  · have HV : Hid (headL (p.data.toList.drop k) = false) := by unfold Hid; rw [List.drop_of_length_le (by rw [← Lib.size_eq]; omega)]; rfl
    have hki : decide ((k : Int) < (p.size : Int)) = false := by simp; omega
    go_enter Tryd.func17, Tryd.ntmps17
    go_wp2_with fail
    go_ret
    exact ⟨ret_bool HV.out.symm, Below.refl _ _⟩
set_option maxHeartbeats 2000000 in
theorem rbehind_any (g : Nat) (p E : ByteArray) (s : List UInt8) (hS : Suf p s) (hE : E.size ≤ 10) (hp : p.size ≤ 4000) (k : Nat) (hk : k = pos p s) (w : World) (hM : ∃ m : Int, w.cell? ⟨0, 0, none⟩ = some (.int .i64 m)) (hg : w.cell? ⟨g, 0, none⟩ = some (.string p)) :
    Calls Tryd.prog 20 #[.int .i64 (k : Int), .string E, .pointer (some ⟨g, 0, none⟩)] w fun e w' => e = .returned (.int .i64 ((pos p (behindL E.data.toList s) : Nat) : Int)) ∧ w' = w := by
  subst hk
  have hx := ext_end hS
  have hlen := hS.len
  have hki : ((pos p s : Nat) : Int) ≤ (p.size : Int) := by have := pos_le p s; omega
  have hkl := pos_le p s
  obtain ⟨mm, hmm⟩ := hM
  have HC : Hid (Calls Tryd.prog 21 #[.string (lba s), .string E] w fun e w' => e = .returned (.int .i64 (Lib.index s E.data.toList)) ∧ w' = w) := Tryd.strings_Index (lba s) E mm w (by rw [lba_size]; omega) hmm
  have hroom := Lib.index_room s E.data.toList
  by_cases hi : Lib.index s E.data.toList < 0
  · have HP : Hid (pos p (behindL E.data.toList s) = p.size) := by unfold Hid behindL; rw [if_pos hi]; rfl
    generalize Lib.index s E.data.toList = i at *
    generalize pos p (behindL E.data.toList s) = m at *
    generalize pos p s = k at *
    clear hroom hS hmm
    go_enter Tryd.func20, Tryd.ntmps20
    go_wp2_with fail
    refine HC.out.mono ?_
    rintro e w1 ⟨rfl, hw1⟩
    have hw2 := hw1.symm
    subst hw2
    go_wp2_with fail
    go_ret
    exact ⟨by rw [HP.out]; rfl, rfl⟩
  · have HP : Hid (((pos p s : Nat) : Int) + (Lib.index s E.data.toList + (E.size : Int)) = (pos p (behindL E.data.toList s) : Nat)) := behind_pos hS hi
    have hr := hroom (by omega)
    have hw1 : IntKind.i64.wrap (((pos p s : Nat) : Int) + Lib.index s E.data.toList) = ((pos p s : Nat) : Int) + Lib.index s E.data.toList := by rw [IntKind.wrap_i64]; omega
    have hw2 : IntKind.i64.wrap (((pos p s : Nat) : Int) + Lib.index s E.data.toList + (E.size : Int)) = ((pos p s : Nat) : Int) + Lib.index s E.data.toList + (E.size : Int) := by rw [IntKind.wrap_i64]; omega
    generalize Lib.index s E.data.toList = i at *
    generalize pos p (behindL E.data.toList s) = m at *
    generalize pos p s = k at *
    clear hroom hS hmm hr
    go_enter Tryd.func20, Tryd.ntmps20
    go_wp2_with fail
    refine HC.out.mono ?_
    rintro e w1 ⟨rfl, hw1⟩
    have hw2 := hw1.symm
    subst hw2
    go_wp2_with fail
    go_ret
    exact ⟨ret_i64 (by have := HP.out; omega), rfl⟩
end Go.Proofs.YtdlnlepecdcmjaaDoor

/- The reference's LinksOf: its loops, one by one. -/
namespace Go.Proofs.YtdlnlepecdcmjaaDoor
open Go.RowKit

def loopsOf : Code → List Code
  | .loop c => c :: loopsOf c
  | .seq a b => loopsOf a ++ loopsOf b
  | .block _ c => loopsOf c
  | .scope c => loopsOf c
  | .cond _ a b => loopsOf a ++ loopsOf b
  | _ => []
theorem at_byte {p : ByteArray} {c : UInt8} {t : List UInt8} (h : Suf p (c :: t)) : ∃ k, pos p (c :: t) = k ∧ ∃ hk : k < p.size, p[k]'hk = c ∧ pos p t = k + 1 := by
  have h1 := h.len
  have h2 := h.drop
  have hk : pos p (c :: t) < p.size := by unfold pos; simp only [List.length_cons] at *; omega
  refine ⟨_, rfl, hk, ?_, ?_⟩
  · rw [dropB p _ hk] at h2
    exact (List.cons.inj h2).1
  · unfold pos; simp only [List.length_cons] at *; omega
def loopAt (f : Func) (k : Nat) : Code := ((f.body.map loopsOf).getD []).getD k .skip

end Go.Proofs.YtdlnlepecdcmjaaDoor

/- slices.Contains of a text: what the plain function says; the world is as it was. -/
namespace Go.Proofs.YtdlnlepecdcmjaaDoor
open Go.RowKit

/-- Texts lie behind the address. -/
def NRow (w : World) (p : Option Addr) (xs : List (List UInt8)) : Prop := xs ≠ [] → ∃ b o, p = some ⟨b, o, none⟩ ∧ ∀ i, i < xs.length → w.cell? ⟨b, o + i, none⟩ = some (.string (lba (xs.getD i [])))
def TellsN (i : Int) (L : List (List UInt8)) (d : List UInt8) : Prop := decide (0 ≤ i) = L.contains d
set_option maxHeartbeats 1000000 in
theorem indexText_any (p : Option Addr) (n c : Nat) (L : List (List UInt8)) (en : n = L.length) (d : List UInt8) (w : World) (hn : n ≤ 1000000) (hr : NRow w p L) :
    Calls Tryd.prog 34 #[.slice p n c, .string (lba d)] w fun e w' => ∃ i : Int, e = .returned (.int .i64 i) ∧ TellsN i L d ∧ w' = w := by
  have HL : Hid (n = L.length) := en
  have HR : Hid (NRow w p L) := hr
  clear en hr
  obtain ⟨D, hD⟩ : ∃ D, lba d = D := ⟨_, rfl⟩
  have HDD : Hid (lba d = D) := hD
  rw [hD]
  clear hD
  go_enter Tryd.func34, Tryd.ntmps34
  go_wp2
  go_loop [8] (fun iv => ∃ k : Nat, k ≤ n ∧ iv = .int .i64 k ∧ Hid (L.contains d = (L.drop k).contains d)) (fun iv => n - (intOf iv).toNat)
  case atStart => exact ⟨0, Nat.zero_le _, rfl, rfl⟩
  case round =>
    obtain ⟨k, hk, rfl, HK⟩ := hrel
    by_cases hlt : k < n
    · have hkl : k < L.length := by rw [← HL.out]; exact hlt
      obtain ⟨b, o, rfl, hc⟩ := HR.out (fun e => by rw [e] at hkl; simp at hkl)
      have h1 := hc k hkl
      have hdr : L.drop k = L.getD k [] :: L.drop (k + 1) := by
        rw [List.drop_eq_getElem_cons hkl]
        simp [List.getD_eq_getElem?_getD, List.getElem?_eq_getElem hkl]
      have HD : Hid (L.contains d = (d == L.getD k [] || (L.drop (k + 1)).contains d)) := by unfold Hid; rw [HK.out, hdr]; rfl
      clear hc hdr HK
      generalize L.getD k [] = x at *
      obtain ⟨X, hX⟩ : ∃ X, lba x = X := ⟨_, rfl⟩
      by_cases he : d = x
      · subst he
        have HN : Hid (L.contains d = true) := by unfold Hid; rw [HD.out]; simp
        rw [HDD.out] at h1
        clear HD hX HDD
        go_wp2
        go_ret
        exact ⟨_, rfl, by unfold TellsN; rw [HN.out]; simp, rfl⟩
      · have HN : Hid (L.contains d = (L.drop (k + 1)).contains d) := by
          unfold Hid
          rw [HD.out, show (d == x) = false from by simpa using he]
          rfl
        have he' : (D.toList == X.toList) = false := by
          rw [ByteArray.toList_eq, ByteArray.toList_eq, ← HDD.out, ← hX, beq_eq_false_iff_ne]
          exact he
        rw [hX] at h1
        clear HD he hX
        go_wp2
        go_round
        case rel => exact ⟨k + 1, by omega, by go_num, HN⟩
        case measure => simp [intOf]; omega
    · obtain rfl : k = n := by omega
      have HN : Hid (L.contains d = false) := by unfold Hid; rw [HK.out, HL.out, List.drop_of_length_le (Nat.le_refl _)]; rfl
      clear HK
      go_wp2
      go_ret
      exact ⟨_, rfl, by unfold TellsN; rw [HN.out]; rfl, rfl⟩
set_option maxHeartbeats 1000000 in
theorem containsText_any (p : Option Addr) (n c : Nat) (L : List (List UInt8)) (en : n = L.length) (d : List UInt8) (w : World) (hn : n ≤ 1000000) (hr : NRow w p L) :
    Calls Tryd.prog 23 #[.slice p n c, .string (lba d)] w fun e w' => e = .returned (.bool (L.contains d)) ∧ w' = w := by
  have HC : Hid (∀ W, W = w → Calls Tryd.prog 34 #[.slice p n c, .string (lba d)] W fun e w' => ∃ i : Int, e = .returned (.int .i64 i) ∧ TellsN i L d ∧ w' = W) := fun W e => by subst e; exact indexText_any p n c L en d W hn hr
  clear en hr
  generalize lba d = D at *
  go_enter Tryd.func23, Tryd.ntmps23
  go_wp2_with fail
  refine (HC.out _ rfl).mono ?_
  rintro e w1 ⟨i, rfl, HI, hw1⟩
  have hw2 := hw1.symm
  subst hw2
  go_wp2_with fail
  go_ret
  exact ⟨ret_bool HI, rfl⟩
/-- Texts of which the call is the owner lie there. -/
theorem NRow.of_own {w : World} {B n cap : Nat} {p : Option Addr} {L : List (List UInt8)} (h : w.ownsRow B 9 1 (.slice p n cap) n (L.map fun x => Value.string (lba x))) : NRow w p L := by
  intro hne
  rcases h.2 with ⟨hv, h0⟩ | ⟨g, cap', cur, hv, _⟩
  · exfalso
    have h1 := h.1
    rw [h0] at h1
    simp at h1
    exact hne h1
  · injection hv with e1 e2 e3
    subst e1
    refine ⟨g, 0, rfl, fun i hi => ?_⟩
    have := h.cells (g := g) rfl i (.string (lba (L.getD i []))) (by
      rw [List.getElem?_map, List.getElem?_eq_getElem hi]
      simp [List.getD_eq_getElem?_getD, List.getElem?_eq_getElem hi])
    have e : (⟨g, 0, none⟩ : Addr).add i = ⟨g, 0 + i, none⟩ := by
      unfold Addr.add
      split
      · rename_i h0
        rw [h0]
      · rfl
    rw [e] at this
    exact this
end Go.Proofs.YtdlnlepecdcmjaaDoor
