/- base.digits answers what the plain function says; nothing that was there is changed. Condition: the text is no longer than 8000 bytes. -/
import Derived.Test.YtpgnkhaanoalhaaGreatDoorXmimeborders18
namespace Go.Proofs.YtpgnkhaanoalhaaGreatDoor
open Go.RowKit
set_option maxRecDepth 100000

def DigitsPost (w : World) (l : List UInt8) (e : Ending) (w' : World) : Prop :=
  Below w.heap.size w w' ∧ ((digitsS l = none ∧ e = .returned (.tuple #[.slice none 0 0, .int .i64 0, .bool false])) ∨
    ∃ x f v, digitsS l = some (x, f) ∧ e = .returned (.tuple #[v, .int .i64 ((f : Nat) : Int), .bool true]) ∧ w'.ownsRow w.heap.size 5 1 v x.length (bv x))

theorem drop_at (s : ByteArray) (k : Nat) (h : k < s.size) : s.data.toList.drop k = s[k] :: s.data.toList.drop (k + 1) := by
  rw [List.drop_eq_getElem_cons (by simpa using h)]; rfl

theorem scan_space {s : ByteArray} {k : Nat} (h : k < s.size) (st : List UInt8 × Nat) (h1 : sp s[k] = true) : scan (s.data.toList.drop (k + 1)) st = scan (s.data.toList.drop k) st := by
  rw [drop_at s k h, scan, scanStep, if_pos h1]; rfl
theorem scan_fill {s : ByteArray} {k : Nat} (h : k < s.size) (x : List UInt8) (f : Nat) (h1 : sp s[k] = false) (h2 : s[k] = 61) : scan (s.data.toList.drop (k + 1)) (x ++ [0], f + 1) = scan (s.data.toList.drop k) (x, f) := by
  rw [drop_at s k h, scan, scanStep, if_neg (by simp [h1]), if_pos h2]; rfl
theorem scan_bad {s : ByteArray} {k : Nat} (h : k < s.size) (x : List UInt8) (f : Nat) (h1 : sp s[k] = false) (h2 : ¬ s[k] = 61) (h3 : Lib.indexByte abc s[k] < 0 ∨ 0 < f) : scan (s.data.toList.drop k) (x, f) = none := by
  rw [drop_at s k h, scan, scanStep, if_neg (by simp [h1]), if_neg h2, if_pos h3]; rfl
theorem scan_letter {s : ByteArray} {k : Nat} (h : k < s.size) (x : List UInt8) (f I : Nat) (h1 : sp s[k] = false) (h2 : ¬ s[k] = 61) (h3 : Lib.indexByte abc s[k] = (I : Int)) (h4 : f = 0) : scan (s.data.toList.drop (k + 1)) (x ++ [UInt8.ofNat I], f) = scan (s.data.toList.drop k) (x, f) := by
  rw [drop_at s k h, scan, scanStep, if_neg (by simp [h1]), if_neg h2, if_neg (by omega), h3]; rfl

set_option maxHeartbeats 2000000 in
theorem digits_any (s : ByteArray) (w : World) (hs : s.size ≤ 8000) :
    Calls Tryz.prog 174 #[.string s] w fun e w' => DigitsPost w s.data.toList e w' := by
  obtain ⟨i0, hi, hz0, hz1, hz2⟩ := info_parts info_u8
  go_enter Tryz.func174, Tryz.ntmps174
  go_wp2
  go_loopw [2, 3, 10] (fun v fv i wr => ∃ (k : Nat) (x : List UInt8) (f : Nat), k ≤ s.size ∧ i = .int .i64 k ∧ fv = .int .i64 f ∧ x.length ≤ k ∧ f ≤ k ∧ wr.ownsRow w.heap.size 5 1 v x.length (bv x) ∧ Below w.heap.size w wr ∧ scan (s.data.toList.drop k) (x, f) = scan s.data.toList ([], 0))
    (fun _ _ i _ => s.size - (intOf i).toNat)
  case atStart => exact ⟨0, [], 0, Nat.zero_le _, rfl, rfl, Nat.zero_le _, Nat.zero_le _, World.ownsRow_nil _ _ _ _, Below.refl _ _, rfl⟩
  case round =>
    obtain ⟨k, x, f, hk, rfl, rfl, hxk, hfk, hown, hbel, hsc0⟩ := hrel
    have hsc : Hid (scan (s.data.toList.drop k) (x, f) = scan s.data.toList ([], 0)) := hsc0
    clear hsc0
    have hsz := hbel.size
    by_cases hlt : k < s.size
    · by_cases h1 : sp s[k] = true
      · have HN : Hid (scan (s.data.toList.drop (k + 1)) (x, f) = scan (s.data.toList.drop k) (x, f)) := scan_space hlt (x, f) h1
        go_wp2_with (go_at_call 217; refine (space_any _ _).mono ?_; rintro e w' ⟨rfl, hw'⟩; have hw'' := hw'.symm; subst hw'')
        go_roundw
        case rel => exact ⟨k + 1, x, f, by omega, by go_num, rfl, by omega, by omega, hown, hbel, by rw [← hsc.out]; exact HN.out⟩
        case measure => simp [intOf]; omega
      · rw [Bool.not_eq_true] at h1
        have e61 := byte_eq_ofNat s[k] 61 (by decide) 61 rfl 61 rfl
        by_cases h2 : s[k] = 61
        · have HN : Hid (scan (s.data.toList.drop (k + 1)) (x ++ [0], f + 1) = scan (s.data.toList.drop k) (x, f)) := scan_fill hlt x f h1 h2
          have e61' : ((s[k].toNat : Int) == 61) = true := by rw [e61]; simp [h2]
          clear h2 e61
          go_wp2_with (first | (go_at_call 217; refine (space_any _ _).mono ?_; rintro e w' ⟨rfl, hw'⟩; have hw'' := hw'.symm; subst hw'') | (go_at_call 95; refine (indexByte_any _ abc rfl _ _).mono ?_; rintro e w' ⟨rfl, hw'⟩; have hw'' := hw'.symm; subst hw'') | (at_builtin; refine wpList_append_own _ rfl (.tmp 22) (.tmp 23) 22 rfl w.heap.size 5 i0 (.int .u8 0) 1 1 Tryz.underlying22 hi hz0 hz1 hz2 rfl (by decide) _ _ _ rfl (hown.alloc _) ⟨wr.heap.size, 0, none⟩ 1 1 [.int .u8 0] rfl rfl ?c1 ?c2 ?c3 ?c4 ?c5 ?_))
          case c1 => exact cell_one _ _ _ rfl
          case c2 => intro u hu; simp at hu; subst hu; rfl
          case c3 => unfold maxLen; omega
          case c4 => omega
          case c5 => simp; omega
          intro v' w1 hown' hgrow _
          have RB : Below w.heap.size w w1 := push_below hown hbel hsz hgrow
          have R : w1.ownsRow w.heap.size 5 1 v' (x ++ [0]).length (bv (x ++ [0])) := by
            simpa [bv] using hown'
          clear hown' hgrow hown
          go_wp2
          go_roundw
          case rel => exact ⟨k + 1, x ++ [0], f + 1, by omega, by go_num, by go_num, by simp; omega, by omega, R, RB, by rw [← hsc.out]; exact HN.out⟩
          case measure => simp [intOf]; omega
        · have e61' : ((s[k].toNat : Int) == 61) = false := by rw [e61]; simp [h2]
          have hge := idx_ge s[k]
          have hltI := idx_lt s[k]
          by_cases h3 : Lib.indexByte abc s[k] < 0 ∨ 0 < f
          · have HN : Hid (scan (s.data.toList.drop k) (x, f) = none) := scan_bad hlt x f h1 h2 h3
            clear h2 e61
            by_cases h4 : Lib.indexByte abc s[k] < 0
            · go_wp2_with (first | (go_at_call 217; refine (space_any _ _).mono ?_; rintro e w' ⟨rfl, hw'⟩; have hw'' := hw'.symm; subst hw'') | (go_at_call 95; refine (indexByte_any _ abc rfl _ _).mono ?_; rintro e w' ⟨rfl, hw'⟩; have hw'' := hw'.symm; subst hw''))
              go_ret3
              exact ⟨hbel, .inl ⟨by unfold digitsS; rw [← hsc.out, HN.out]; rfl, rfl⟩⟩
            · have hd : decide (Lib.indexByte abc s[k] < 0) = false := by simpa using h4
              have hf : (0 : Int) < (f : Int) := by omega
              go_wp2_with (first | (go_at_call 217; refine (space_any _ _).mono ?_; rintro e w' ⟨rfl, hw'⟩; have hw'' := hw'.symm; subst hw'') | (go_at_call 95; refine (indexByte_any _ abc rfl _ _).mono ?_; rintro e w' ⟨rfl, hw'⟩; have hw'' := hw'.symm; subst hw''))
              go_ret3
              exact ⟨hbel, .inl ⟨by unfold digitsS; rw [← hsc.out, HN.out]; rfl, rfl⟩⟩
          · obtain ⟨I, hI⟩ : ∃ I : Nat, Lib.indexByte abc s[k] = (I : Int) := ⟨(Lib.indexByte abc s[k]).toNat, by omega⟩
            have HN : Hid (scan (s.data.toList.drop (k + 1)) (x ++ [UInt8.ofNat I], f) = scan (s.data.toList.drop k) (x, f)) := scan_letter hlt x f I h1 h2 hI (by omega)
            have hI64 : I < 64 := by omega
            have hf0 : ¬ 0 < f := by omega
            have hd2 : decide ((0 : Int) < (f : Int)) = false := by simp; omega
            clear h2 e61 h3 hge hltI
            go_wp2_with (first | (go_at_call 217; refine (space_any _ _).mono ?_; rintro e w' ⟨rfl, hw'⟩; have hw'' := hw'.symm; subst hw'') | (go_at_call 95; refine (indexByte_any _ abc rfl _ _).mono ?_; rintro e w' ⟨rfl, hw'⟩; have hw'' := hw'.symm; subst hw'') | (at_builtin; refine wpList_append_own _ rfl (.tmp 33) (.tmp 36) 22 rfl w.heap.size 5 i0 (.int .u8 0) 1 1 Tryz.underlying22 hi hz0 hz1 hz2 rfl (by decide) _ _ _ rfl (hown.alloc _) ⟨wr.heap.size, 0, none⟩ 1 1 [.int .u8 (I : Int)] rfl rfl ?c1 ?c2 ?c3 ?c4 ?c5 ?_))
            case c1 => exact cell_one _ _ _ rfl
            case c2 => intro u hu; simp at hu; subst hu; rfl
            case c3 => unfold maxLen; omega
            case c4 => omega
            case c5 => simp; omega
            intro v' w1 hown' hgrow _
            have RB : Below w.heap.size w w1 := push_below hown hbel hsz hgrow
            have R : w1.ownsRow w.heap.size 5 1 v' (x ++ [UInt8.ofNat I]).length (bv (x ++ [UInt8.ofNat I])) := by
              simpa [bv, show ((I : Int) % 256) = (I : Int) from by omega] using hown'
            clear hown' hgrow hown
            go_wp2
            go_roundw
            case rel => exact ⟨k + 1, x ++ [UInt8.ofNat I], f, by omega, by go_num, by rfl, by simp; omega, by omega, R, RB, by rw [← hsc.out]; exact HN.out⟩
            case measure => simp [intOf]; omega
    · obtain rfl : k = s.size := by omega
      have hfin : scan s.data.toList ([], 0) = some (x, f) := by
        rw [← hsc.out, List.drop_of_length_le (by rw [Array.length_toList]; exact Nat.le_refl _)]; rfl
      have hdg : digitsS s.data.toList = if 2 < f ∨ x.length % 4 ≠ 0 then none else some (x, f) := by
        unfold digitsS; rw [hfin]; rfl
      clear hfin
      have hown0 := hown
      by_cases h2 : 2 < f
      · have hno : Hid (digitsS s.data.toList = none) := by unfold Hid; rw [hdg, if_pos (.inl h2)]
        clear hdg hown0
        rcases hown.2 with ⟨rfl, hx0⟩ | ⟨g, cap, cur, rfl, hg, hh, hnc, hcp, hcs, htake⟩
        · clear hown hsc
          go_wp2
          go_ret3
          exact ⟨hbel, .inl ⟨hno.out, rfl⟩⟩
        · clear hown hsc htake hh hcs
          go_wp2
          go_ret3
          exact ⟨hbel, .inl ⟨hno.out, rfl⟩⟩
      · have hd2 : decide ((2 : Int) < (f : Int)) = false := by simp; omega
        by_cases h4 : x.length % 4 = 0
        · have hyes : Hid (digitsS s.data.toList = some (x, f)) := by unfold Hid; rw [hdg, if_neg (by omega)]
          have HO : Hid (wr.ownsRow w.heap.size 5 1 _ x.length (bv x)) := hown0
          have hb4 : ((x.length : Int) % 4 != 0) = false := by rw [bne_eq_false_iff_eq]; omega
          clear hdg hown0
          rcases hown.2 with ⟨rfl, hx0⟩ | ⟨g, cap, cur, rfl, hg, hh, hnc, hcp, hcs, htake⟩
          · clear hown hsc hb4 hx0
            go_wp2
            go_ret3
            exact ⟨hbel, .inr ⟨x, f, _, hyes.out, rfl, HO.out⟩⟩
          · clear hown hsc htake hh hcs
            go_wp2
            go_ret3
            exact ⟨hbel, .inr ⟨x, f, _, hyes.out, rfl, HO.out⟩⟩
        · have hno : Hid (digitsS s.data.toList = none) := by unfold Hid; rw [hdg, if_pos (.inr h4)]
          have hb4 : ((x.length : Int) % 4 != 0) = true := by rw [bne_iff_ne]; omega
          clear hdg hown0
          rcases hown.2 with ⟨rfl, hx0⟩ | ⟨g, cap, cur, rfl, hg, hh, hnc, hcp, hcs, htake⟩
          · exact absurd (by rw [hx0]) h4
          · clear hown hsc htake hh hcs
            go_wp2
            go_ret3
            exact ⟨hbel, .inl ⟨hno.out, rfl⟩⟩
end Go.Proofs.YtpgnkhaanoalhaaGreatDoor

/- base.join and base.cut answer what the plain functions say; nothing that was there is changed. Conditions: the numbers lie there, each of six bits; no more bytes are cut than there are. -/
namespace Go.Proofs.YtpgnkhaanoalhaaGreatDoor
open Go.RowKit
set_option maxRecDepth 100000

theorem quad_lt (x : List UInt8) (i : Nat) (h : ∀ c ∈ x, c.toNat < 64) : quad x i < 16777216 := by
  have hg : ∀ j, (x.getD j 0).toNat < 64 := by
    intro j
    by_cases hj : j < x.length
    · have e : x.getD j 0 = x[j] := by simp [List.getD_eq_getElem?_getD, List.getElem?_eq_getElem hj]
      rw [e]; exact h _ (List.getElem_mem hj)
    · have e : x.getD j 0 = 0 := getD_none x j hj
      rw [e]; decide
  have h0 := hg (4 * i); have h1 := hg (4 * i + 1); have h2 := hg (4 * i + 2); have h3 := hg (4 * i + 3)
  unfold quad
  omega

theorem or64 (a b : Nat) (ha : a < 1000000) (hb : b < 64) : bits BinOp.or IntKind.u64 ((a : Int) * 64) (b : Int) = ((a * 64 + b : Nat) : Int) := by
  have := u64_or_low (a : Int) (b : Int) 64 6 (by decide) (by omega) (by omega) (by omega) (by omega)
  rw [show ((64 : Nat) : Int) = 64 from rfl] at this
  rw [this]
  omega

theorem join_nil (p : Option Addr) (c : Nat) (w : World) :
    Calls Tryz.prog 176 #[.slice p 0 c] w fun e w' => e = .returned (.slice none 0 0) ∧ w' = w := by
  go_enter Tryz.func176, Tryz.ntmps176
  go_wp2
  refine wp_loop_rounds 1 ?_
  rw [rounds_succ]
  go_wp2
  go_ret
  exact ⟨rfl, rfl⟩

set_option maxHeartbeats 2000000 in
theorem join_some (b o c : Nat) (x : List UInt8) (w : World) (hn : x.length ≤ 8000) (h64 : ∀ c ∈ x, c.toNat < 64) (h4 : x.length % 4 = 0) (h0 : x ≠ [])
    (hc : ∀ i, i < x.length → w.cell? ⟨b, o + i, none⟩ = some (.int .u8 ((x.getD i 0).toNat : Int))) :
    Calls Tryz.prog 176 #[.slice (some ⟨b, o, none⟩) x.length c] w fun e w' => ∃ v, e = .returned v ∧ w'.ownsRow w.heap.size 5 1 v (joinS x).length (bv (joinS x)) ∧ Below w.heap.size w w' := by
  obtain ⟨n, hL⟩ : ∃ n, n = x.length := ⟨_, rfl⟩
  rw [← hL] at hn h4 hc ⊢
  have h1 : 1 ≤ n := by rw [hL]; exact List.length_pos_iff.2 h0
  have hbB : b < w.heap.size := World.block_lt_of_cell? w _ (hc 0 (by omega))
  have HL : Hid (n = x.length) := hL
  clear hL
  obtain ⟨i0, hi, hz0, hz1, hz2⟩ := info_parts info_u8
  obtain ⟨M, hM⟩ : ∃ M, M = n / 4 := ⟨_, rfl⟩
  have hlt64 : ∀ j, (x.getD j 0).toNat < 64 := by
    intro j
    by_cases hj : j < x.length
    · have e : x.getD j 0 = x[j] := by simp [List.getD_eq_getElem?_getD, List.getElem?_eq_getElem hj]
      rw [e]; exact h64 _ (List.getElem_mem hj)
    · have e : x.getD j 0 = 0 := getD_none x j hj
      rw [e]; decide
  go_enter Tryz.func176, Tryz.ntmps176
  go_wp2
  go_loopw [3, 10] (fun v i wr => ∃ k : Nat, k ≤ M ∧ i = .int .i64 k ∧ wr.ownsRow w.heap.size 5 1 v (joinTo x k).length (bv (joinTo x k)) ∧ Below w.heap.size w wr)
    (fun _ i _ => M - (intOf i).toNat)
  case atStart => exact ⟨0, Nat.zero_le _, rfl, World.ownsRow_nil _ _ _ _, Below.refl _ _⟩
  case round =>
    obtain ⟨k, hk, rfl, hown, hbel⟩ := hrel
    have hlen := joinTo_length x k
    have hsz := hbel.size
    by_cases hlt : k < M
    · have c0 : wr.cell? ⟨b, o + 4 * k, none⟩ = some (.int .u8 ((x.getD (4 * k) 0).toNat : Int)) := by
        rw [hbel.cell (p := ⟨b, o + 4 * k, none⟩) hbB]; exact hc (4 * k) (by omega)
      have c1 : wr.cell? ⟨b, o + (4 * k + 1), none⟩ = some (.int .u8 ((x.getD (4 * k + 1) 0).toNat : Int)) := by
        rw [hbel.cell (p := ⟨b, o + (4 * k + 1), none⟩) hbB]; exact hc (4 * k + 1) (by omega)
      have c2 : wr.cell? ⟨b, o + (4 * k + 2), none⟩ = some (.int .u8 ((x.getD (4 * k + 2) 0).toNat : Int)) := by
        rw [hbel.cell (p := ⟨b, o + (4 * k + 2), none⟩) hbB]; exact hc (4 * k + 2) (by omega)
      have c3 : wr.cell? ⟨b, o + (4 * k + 3), none⟩ = some (.int .u8 ((x.getD (4 * k + 3) 0).toNat : Int)) := by
        rw [hbel.cell (p := ⟨b, o + (4 * k + 3), none⟩) hbB]; exact hc (4 * k + 3) (by omega)
      have l0 := hlt64 (4 * k); have l1 := hlt64 (4 * k + 1); have l2 := hlt64 (4 * k + 2); have l3 := hlt64 (4 * k + 3)
      have HQ : Hid (joinTo x (k + 1) = joinTo x k ++ bytes3 (quad x k)) := rfl
      have HV : Hid (quad x k = ((((x.getD (4 * k) 0).toNat * 64 + (x.getD (4 * k + 1) 0).toNat) * 64 + (x.getD (4 * k + 2) 0).toNat) * 64 + (x.getD (4 * k + 3) 0).toNat)) := rfl
      generalize (x.getD (4 * k) 0).toNat = a0 at c0 l0 HV
      generalize (x.getD (4 * k + 1) 0).toNat = a1 at c1 l1 HV
      generalize (x.getD (4 * k + 2) 0).toNat = a2 at c2 l2 HV
      generalize (x.getD (4 * k + 3) 0).toNat = a3 at c3 l3 HV
      have g1 := u64_or_zero (a0 : Int) (by omega) (by omega)
      have g2 := or64 a0 a1 (by omega) l1
      obtain ⟨B1, hB1⟩ : ∃ B1, B1 = a0 * 64 + a1 := ⟨_, rfl⟩
      rw [← hB1] at g2 HV
      have b1 : B1 < 4096 := by omega
      have g3 := or64 B1 a2 (by omega) l2
      obtain ⟨B2, hB2⟩ : ∃ B2, B2 = B1 * 64 + a2 := ⟨_, rfl⟩
      rw [← hB2] at g3 HV
      have b2 : B2 < 262144 := by omega
      have g4 := or64 B2 a3 (by omega) l3
      obtain ⟨V, hV⟩ : ∃ V, V = B2 * 64 + a3 := ⟨_, rfl⟩
      rw [← hV] at g4 HV
      have b3 : V < 16777216 := by omega
      clear hB1 hB2 hV
      clear hc hlt64 h64
      go_wp2_with fail
      refine wp_loop_rounds 5 ?_
      rw [rounds_succ]
      go_wp2
      rw [rounds_succ]
      go_wp2
      rw [rounds_succ]
      go_wp2
      rw [rounds_succ]
      go_wp2
      rw [rounds_succ]
      go_wp2_with (at_builtin; refine wpList_append_own _ rfl (.tmp 28) (.tmp 37) 22 rfl w.heap.size 5 i0 (.int .u8 0) 1 1 Tryz.underlying22 hi hz0 hz1 hz2 rfl (by decide) _ _ _ rfl (hown.alloc _) ⟨wr.heap.size, 0, none⟩ 3 3 [.int .u8 ((V : Int) / 65536), .int .u8 ((V : Int) / 256 % 256), .int .u8 ((V : Int) % 256)] rfl rfl ?c1 ?c2 ?c3 ?c4 ?c5 ?_)
      case c1 => exact cell_three _ _ _ _ _
      case c2 => intro u hu; simp at hu; rcases hu with rfl | rfl | rfl <;> rfl
      case c3 => unfold maxLen; omega
      case c4 => omega
      case c5 => simp; omega
      intro v' w1 hown' hgrow _
      have RB : Below w.heap.size w w1 := push_below hown hbel hsz hgrow
      have R : w1.ownsRow w.heap.size 5 1 v' (joinTo x (k + 1)).length (bv (joinTo x (k + 1))) := by
        rw [HQ.out, HV.out]
        simpa [bv, bytes3, hlen, show ((V : Int) / 65536 % 256) = (V : Int) / 65536 from by omega] using hown'
      clear hown' hgrow hown
      go_wp2
      go_roundw
      case rel => exact ⟨k + 1, by omega, by go_num, R, RB⟩
      case measure => simp [intOf]; omega
    · obtain rfl : k = M := by omega
      have hfin : Hid (joinS x = joinTo x k) := by unfold Hid joinS; rw [← HL.out, ← hM]
      have hno : (n : Int) / 4 ≤ (k : Int) := by omega
      clear hM hlt hc hlt64
      go_wp2
      go_ret
      exact ⟨_, rfl, by rw [hfin.out]; exact hown, hbel⟩

/-- base.join. -/
theorem join_any (p : Option Addr) (n c : Nat) (x : List UInt8) (en : n = x.length) (w : World) (hn : x.length ≤ 8000) (h64 : ∀ c ∈ x, c.toNat < 64) (h4 : x.length % 4 = 0) (hr : BRow w p x) :
    Calls Tryz.prog 176 #[.slice p n c] w fun e w' => ∃ v, e = .returned v ∧ w'.ownsRow w.heap.size 5 1 v (joinS x).length (bv (joinS x)) ∧ Below w.heap.size w w' := by
  subst en
  by_cases h0 : x = []
  · subst h0
    refine (join_nil p c w).mono ?_
    rintro e w' ⟨rfl, rfl⟩
    exact ⟨_, rfl, World.ownsRow_nil _ _ _ _, Below.refl _ _⟩
  · obtain ⟨b, o, rfl, hc⟩ := hr h0
    exact join_some b o c x w hn h64 h4 h0 hc

theorem cut_done (p : Option Addr) (n c : Nat) (w : World) (hn : n ≤ 100000) (hc : n ≤ c) (hp : p = none → n = 0 ∧ c = 0) :
    Calls Tryz.prog 175 #[.slice p n c, .int .i64 0] w fun e w' => e = .returned (.tuple #[.slice p n c, .bool true]) ∧ w' = w := by
  cases p with
  | none =>
    obtain ⟨rfl, rfl⟩ := hp rfl
    go_enter Tryz.func175, Tryz.ntmps175
    go_wp2
    refine wp_loop_rounds 1 ?_
    rw [rounds_succ]
    go_wp2
    go_ret2
    exact ⟨rfl, rfl⟩
  | some a =>
    clear hp
    have h0 : (0 : Int) ≤ (n : Int) := by omega
    have h1 : (n : Int) ≤ (c : Int) := by omega
    go_enter Tryz.func175, Tryz.ntmps175
    go_wp2
    refine wp_loop_rounds 1 ?_
    rw [rounds_succ]
    go_wp2
    go_ret2
    exact ⟨rfl, rfl⟩
end Go.Proofs.YtpgnkhaanoalhaaGreatDoor
