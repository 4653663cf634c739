/- quote.appendRead puts behind its bytes what a line stands for; nothing that was there ahead of the caller's rows is changed. Conditions: the bytes are a row that the caller owns; the line is no longer than 16000 bytes. -/
import Derived.Test.YtnjicfhmheaccaaDoorQCut
namespace Go.Proofs.YtnjicfhmheaccaaDoor
open Go.RowKit

def AppendPost (B : Nat) (w : World) (x l : List UInt8) (e : Ending) (w' : World) : Prop :=
  Below B w w' ∧ B ≤ w'.heap.size ∧ ((decQ l = none ∧ e = .returned (.tuple #[.slice none 0 0, .bool false])) ∨
    ∃ d v, decQ l = some d ∧ e = .returned (.tuple #[v, .bool true]) ∧ d.length ≤ l.length ∧ w'.ownsRow B 5 1 v (x ++ d).length (bv (x ++ d)))

theorem byte61 (c : UInt8) : ((c.toNat : Int) == 61) = (c == 61) := by
  have : ∀ n : Fin 256, ((n.val : Int) == 61) = (UInt8.ofNat n.val == 61) := by decide +kernel
  have h := this ⟨c.toNat, c.toNat_lt⟩
  rwa [show UInt8.ofNat c.toNat = c from UInt8.ofNat_toNat] at h

theorem dropQ (s : ByteArray) (k : Nat) (h : k < s.size) : s.data.toList.drop k = s[k] :: s.data.toList.drop (k + 1) := by
  rw [List.drop_eq_getElem_cons (by simpa using h)]; rfl

theorem or_hex : ∀ a b : Fin 16, bits BinOp.or IntKind.i64 ((a.val : Int) * 16) (b.val : Int) = ((a.val * 16 + b.val : Nat) : Int) := by decide +kernel
theorem hexv_lt (c : UInt8) (h : isHex c = true) : hexv c < 16 := by
  have : ∀ n : Fin 256, isHex (UInt8.ofNat n.val) = true → hexv (UInt8.ofNat n.val) < 16 := by decide +kernel
  have g := this ⟨c.toNat, c.toNat_lt⟩
  rw [show UInt8.ofNat c.toNat = c from UInt8.ofNat_toNat] at g
  exact g h
theorem digv_yes (c : UInt8) (h : isHex c = true) : digv c = (hexv c : Int) := by rw [digv, if_pos h]
theorem digv_no (c : UInt8) (h : isHex c = false) : digv c = -1 := by rw [digv, if_neg (by simp [h])]

theorem bel_drew {B : Nat} {a w : World} (h : Below B a w) (n : Nat) : Below B a (w.drewN n) := ⟨h.os, h.tape, h.output, h.size, h.block⟩
theorem owns_drewN {w : World} {B e size n : Nat} {v : Value} {xs : List Value} (h : w.ownsRow B e size v n xs) (k : Nat) : (w.drewN k).ownsRow B e size v n xs := h

theorem row_eq {w : World} {B : Nat} {v : Value} {n : Nat} {xs : List Value} {l : List UInt8} (h : w.ownsRow B 5 1 v n xs) (hn : n = l.length) (hx : xs = bv l) : w.ownsRow B 5 1 v l.length (bv l) := by
  subst hn hx; exact h

set_option maxHeartbeats 4000000 in
set_option maxRecDepth 100000 in
theorem appendRead_any (B : Nat) (v0 : Value) (n : Nat) (x : List UInt8) (s : ByteArray) (w : World) (en : n = x.length) (hx : n ≤ 100000) (hs : s.size ≤ 16000) (hB : B ≤ w.heap.size) (hown0 : w.ownsRow B 5 1 v0 n (bv x)) :
    Calls Tryd.prog 36 #[v0, .string s] w fun e w' => AppendPost B w x s.data.toList e w' := by
  obtain ⟨i0, hi, hz0, hz1, hz2⟩ := info_parts info_u8
  subst en
  go_enter Tryd.func36, Tryd.ntmps36
  go_wp2
  go_loopw [0, 6] (fun v i wr => ∃ (k : Nat) (y : List UInt8), k ≤ s.size ∧ i = .int .i64 k ∧ y.length ≤ k ∧ wr.ownsRow B 5 1 v (x ++ y).length (bv (x ++ y)) ∧ Below B w wr ∧ Hid ((decQ (s.data.toList.drop k)).map (y ++ ·) = decQ s.data.toList))
    (fun _ i _ => s.size - (intOf i).toNat)
  case atStart => exact ⟨0, [], Nat.zero_le _, rfl, Nat.zero_le _, by simpa using hown0, Below.refl _ _, by unfold Hid; rw [List.drop_zero]; cases decQ s.data.toList <;> simp⟩
  case round =>
    obtain ⟨k, y, hk, rfl, hyk, hown, hbel, HD⟩ := hrel
    have hsz : B ≤ wr.heap.size := Nat.le_trans hB hbel.size
    have hlen : (x ++ y).length ≤ 200000 := by rw [List.length_append]; omega
    by_cases hlt : k < s.size
    · have hdr := dropQ s k hlt
      have e61 := byte61 s[k]
      by_cases h61 : s[k] = 61
      · have e61' : ((s[k].toNat : Int) == 61) = true := by rw [e61]; simp [h61]
        rw [h61] at hdr
        clear e61 h61
        by_cases h2 : s.size ≤ k + 2
        · have HN : Hid (decQ s.data.toList = none) := by
            unfold Hid
            rw [← HD.out, hdr, decQ_short _ (by rw [List.length_drop, ← Lib.size_eq]; omega)]; rfl
          have h2' : (s.size : Int) ≤ (k : Int) + 2 := by omega
          clear HD hdr hown
          go_wp2
          go_ret2
          exact ⟨hbel, hsz, .inl ⟨HN.out, rfl⟩⟩
        · have h2' : ¬ (s.size : Int) ≤ (k : Int) + 2 := by omega
          rw [dropQ s (k + 1) (by omega), dropQ s (k + 2) (by omega)] at hdr
          obtain ⟨k1, hk1⟩ : ∃ k1, k1 = k + 1 := ⟨_, rfl⟩
          obtain ⟨k2, hk2⟩ : ∃ k2, k2 = k + 2 := ⟨_, rfl⟩
          have hl1 : k1 < s.size := by omega
          have hl2 : k2 < s.size := by omega
          have hi1 : (k1 : Int) < (s.size : Int) := by omega
          have hi2 : (k2 : Int) < (s.size : Int) := by omega
          have hw1 : IntKind.i64.wrap ((k : Int) + 1) = (k1 : Int) := by rw [IntKind.wrap_i64]; omega
          have hw2 : IntKind.i64.wrap ((k : Int) + 2) = (k2 : Int) := by rw [IntKind.wrap_i64]; omega
          obtain ⟨ca, hca⟩ : ∃ c, s[k1]'hl1 = c := ⟨_, rfl⟩
          obtain ⟨cb, hcb⟩ : ∃ c, s[k2]'hl2 = c := ⟨_, rfl⟩
          have hca' : s[k + 1]'(by omega) = ca := by rw [← hca]; congr 1; exact hk1.symm
          have hcb' : s[k + 2]'(by omega) = cb := by rw [← hcb]; congr 1; exact hk2.symm
          rw [hca', hcb'] at hdr
          have HK2 : Hid (k2 = k + 2) := hk2
          clear hca' hcb' hk1 hk2
          cases hha : isHex ca
          · have HN : Hid (decQ s.data.toList = none) := by
              unfold Hid
              rw [← HD.out, hdr, decQ_bad _ _ _ (by rw [hha]; rfl)]; rfl
            have hd1 := digv_no ca hha
            cases hhb : isHex cb
            · have hd2 := digv_no cb hhb
              clear HD hdr hown hha hhb
              go_wp2
              go_quiet (first | (go_at_call_of 63 ca; exact Calls.quiet_of_same (digit_any ca _ rfl _)) | (go_at_call_of 63 cb; exact Calls.quiet_of_same (digit_any cb _ rfl _)))
              have hbd : Below B w (wr.drewN nq) := bel_drew hbel nq
              generalize wr.drewN nq = w2 at *
              have hsz2 : B ≤ w2.heap.size := Nat.le_trans hB hbd.size
              go_wp2
              go_ret2
              exact ⟨hbd, hsz2, .inl ⟨HN.out, rfl⟩⟩
            · have hd2 := digv_yes cb hhb
              have hv2 := hexv_lt cb hhb
              clear HD hdr hown hha hhb
              go_wp2
              go_quiet (first | (go_at_call_of 63 ca; exact Calls.quiet_of_same (digit_any ca _ rfl _)) | (go_at_call_of 63 cb; exact Calls.quiet_of_same (digit_any cb _ rfl _)))
              have hbd : Below B w (wr.drewN nq) := bel_drew hbel nq
              generalize wr.drewN nq = w2 at *
              have hsz2 : B ≤ w2.heap.size := Nat.le_trans hB hbd.size
              go_wp2
              go_ret2
              exact ⟨hbd, hsz2, .inl ⟨HN.out, rfl⟩⟩
          · have hd1 := digv_yes ca hha
            have hv1 := hexv_lt ca hha
            cases hhb : isHex cb
            · have HN : Hid (decQ s.data.toList = none) := by
                unfold Hid
                rw [← HD.out, hdr, decQ_bad _ _ _ (by rw [hhb]; simp)]; rfl
              have hd2 := digv_no cb hhb
              clear HD hdr hown hha hhb
              go_wp2
              go_quiet (first | (go_at_call_of 63 ca; exact Calls.quiet_of_same (digit_any ca _ rfl _)) | (go_at_call_of 63 cb; exact Calls.quiet_of_same (digit_any cb _ rfl _)))
              have hbd : Below B w (wr.drewN nq) := bel_drew hbel nq
              generalize wr.drewN nq = w2 at *
              have hsz2 : B ≤ w2.heap.size := Nat.le_trans hB hbd.size
              go_wp2
              go_ret2
              exact ⟨hbd, hsz2, .inl ⟨HN.out, rfl⟩⟩
            · have hd2 := digv_yes cb hhb
              have hv2 := hexv_lt cb hhb
              have hor := or_hex ⟨hexv ca, hv1⟩ ⟨hexv cb, hv2⟩
              simp only at hor
              have HN : Hid ((decQ (s.data.toList.drop (k + 3))).map ((y ++ [UInt8.ofNat (hexv ca * 16 + hexv cb)]) ++ ·) = decQ s.data.toList) := by
                unfold Hid
                rw [← HD.out, hdr, decQ_hex _ _ _ (by rw [hha, hhb]; rfl), Option.map_map]
                congr 1
                funext z
                simp
              clear HD hdr hha hhb
              generalize hexv ca = A at *
              generalize hexv cb = C at *
              obtain ⟨S, hS⟩ : ∃ S, A * 16 + C = S := ⟨_, rfl⟩
              rw [hS] at hor HN
              have hS256 : S < 256 := by omega
              clear hS
              go_wp2
              go_quiet (first | (go_at_call_of 63 ca; exact Calls.quiet_of_same (digit_any ca _ rfl _)) | (go_at_call_of 63 cb; exact Calls.quiet_of_same (digit_any cb _ rfl _)))
              have hbd : Below B w (wr.drewN nq) := bel_drew hbel nq
              have hownd := owns_drewN hown nq
              clear hown
              generalize wr.drewN nq = w2 at *
              have hsz2 : B ≤ w2.heap.size := Nat.le_trans hB hbd.size
              go_wp2_with (at_builtin; refine wpList_append_own _ rfl (.tmp 49) (.tmp 51) 22 rfl B 5 i0 (.int .u8 0) 1 1 Tryd.underlying22 hi hz0 hz1 hz2 rfl (by decide) _ _ _ rfl (hownd.alloc _) ⟨w2.heap.size, 0, none⟩ 1 1 [.int .u8 (S : Int)] rfl rfl ?c1 ?c2 ?c3 ?c4 ?c5 ?_)
              case c1 => exact cell_one _ _ _ (int_eq (by omega))
              case c2 => intro u hu; simp at hu; subst hu; rfl
              case c3 => unfold maxLen; omega
              case c4 => omega
              case c5 => simp; omega
              intro v' w3 hown' hgrow _
              have RB : Below B w w3 := push_below hownd hbd hsz2 hgrow
              have R := row_eq (l := x ++ (y ++ [UInt8.ofNat S])) hown' (by simp; omega) (by simp [bv]; omega)
              clear hown' hgrow hownd
              go_wp2
              go_roundw
              case rel => exact ⟨k + 3, y ++ [UInt8.ofNat S], by omega, int_eq (by have := HK2.out; omega), by simp; omega, R, RB, HN⟩
              case measure => have := HK2.out; simp [intOf]; omega
      · have e61' : ((s[k].toNat : Int) == 61) = false := by rw [e61]; simp [h61]
        have HN : Hid ((decQ (s.data.toList.drop (k + 1))).map ((y ++ [s[k]]) ++ ·) = decQ s.data.toList) := by
          unfold Hid
          rw [← HD.out, hdr, decQ_plain _ _ h61, Option.map_map]
          congr 1
          funext z
          simp
        clear e61 h61 HD hdr
        go_wp2_with (at_builtin; refine wpList_append_own _ rfl (.tmp 49) (.tmp 51) 22 rfl B 5 i0 (.int .u8 0) 1 1 Tryd.underlying22 hi hz0 hz1 hz2 rfl (by decide) _ _ _ rfl (hown.alloc _) ⟨wr.heap.size, 0, none⟩ 1 1 [.int .u8 (s[k].toNat : Int)] rfl rfl ?c1 ?c2 ?c3 ?c4 ?c5 ?_)
        case c1 => exact cell_one _ _ _ rfl
        case c2 => intro u hu; simp at hu; subst hu; rfl
        case c3 => unfold maxLen; omega
        case c4 => omega
        case c5 => simp; omega
        intro v' w1 hown' hgrow _
        have RB : Below B w w1 := push_below hown hbel hsz hgrow
        have R := row_eq (l := x ++ (y ++ [s[k]])) hown' (by simp; omega) (by simp [bv])
        clear hown' hgrow hown
        go_wp2
        go_roundw
        case rel => exact ⟨k + 1, y ++ [s[k]], by omega, by go_num, by simp; omega, R, RB, HN⟩
        case measure => simp [intOf]; omega
    · obtain rfl : k = s.size := by omega
      have HN : Hid (decQ s.data.toList = some y) := by
        unfold Hid
        rw [← HD.out, List.drop_of_length_le (by rw [← Lib.size_eq]; exact Nat.le_refl _)]
        simp [decQ]
      have HO := hown
      clear HD
      go_wp2
      go_ret2
      exact ⟨hbel, hsz, .inr ⟨y, _, HN.out, rfl, by rw [← Lib.size_eq]; exact hyk, HO⟩⟩
end Go.Proofs.YtnjicfhmheaccaaDoor
