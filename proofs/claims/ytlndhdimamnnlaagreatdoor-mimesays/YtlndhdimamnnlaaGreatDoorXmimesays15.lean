
import Derived.Test.YtlndhdimamnnlaaGreatDoorXmimesays14
import Derived.Lib.Replace
namespace Go.Proofs.YtlndhdimamnnlaaGreatDoor
open Go.RowKit
set_option maxRecDepth 100000
theorem or64 (a b : Nat) (ha : a < 1000000) (hb : b < 64) : bits BinOp.or IntKind.u64 ((a : Int) * 64) (b : Int) = ((a * 64 + b : Nat) : Int) := by
 have := u64_or_low (a : Int) (b : Int) 64 6 (by decide) (by omega) (by omega) (by omega) (by omega)
 rw [show ((64 : Nat) : Int) = 64 from rfl] at this
 rw [this]
 omega
theorem join_nil (p : Option Addr) (c : Nat) (w : World) :
  Calls Tryz.prog 171 #[.slice p 0 c] w fun e w' => e = .returned (.slice none 0 0) ∧ w' = w := by
 go_enter Tryz.func171, Tryz.ntmps171
 go_wp2
 refine wp_loop_rounds 1 ?_
 rw [rounds_succ]
 go_wp2
 go_ret
 exact ⟨rfl, rfl⟩
set_option maxHeartbeats 2000000 in
theorem join_some (b o c : Nat) (x : List UInt8) (w : World) (hn : x.length ≤ 8000) (h64 : ∀ c ∈ x, c.toNat < 64) (h4 : x.length % 4 = 0) (h0 : x ≠ [])
  (hc : ∀ i, i < x.length → w.cell? ⟨b, o + i, none⟩ = some (.int .u8 ((x.getD i 0).toNat : Int))) :
  Calls Tryz.prog 171 #[.slice (some ⟨b, o, none⟩) x.length c] w fun e w' => ∃ v, e = .returned v ∧ w'.ownsRow w.heap.size 5 1 v (joinS x).length (bv (joinS x)) ∧ Below w.heap.size w w' := by
 obtain ⟨n, hL⟩ : ∃ n, n = x.length := ⟨_, rfl⟩
 rw [← hL] at hn h4 hc ⊢
 have h1 : 1 ≤ n := by rw [hL]; exact List.length_pos_iff.2 h0
 have hbB : b < w.heap.size := World.block_lt_of_cell? w _ (hc 0 (by omega))
 have HL : Hid (n = x.length) := hL
 clear hL
 obtain ⟨i0, hi, hz0, hz1, hz2⟩ := info_parts info_u8
 obtain ⟨M, hM⟩ : ∃ M, M = n / 4 := ⟨_, rfl⟩
 have hlt64 : ∀ j, (x.getD j 0).toNat < 64 := by
  intro j
  by_cases hj : j < x.length
  ·have e : x.getD j 0 = x[j] := by simp [List.getD_eq_getElem?_getD, List.getElem?_eq_getElem hj]
   rw [e]; exact h64 _ (List.getElem_mem hj)
  ·have e : x.getD j 0 = 0 := getD_none x j hj
   rw [e]; decide
 go_enter Tryz.func171, Tryz.ntmps171
 go_wp2
 go_loopw [3, 10] (fun v i wr => ∃ k : Nat, k ≤ M ∧ i = .int .i64 k ∧ wr.ownsRow w.heap.size 5 1 v (joinTo x k).length (bv (joinTo x k)) ∧ Below w.heap.size w wr)
  (fun _ i _ => M - (intOf i).toNat)
 case atStart => exact ⟨0, Nat.zero_le _, rfl, World.ownsRow_nil _ _ _ _, Below.refl _ _⟩
 case round =>
  obtain ⟨k, hk, rfl, hown, hbel⟩ := hrel
  have hlen := joinTo_length x k
  have hsz := hbel.size
  by_cases hlt : k < M
  ·have c0 : wr.cell? ⟨b, o + 4 * k, none⟩ = some (.int .u8 ((x.getD (4 * k) 0).toNat : Int)) := by
    rw [hbel.cell (p := ⟨b, o + 4 * k, none⟩) hbB]; exact hc (4 * k) (by omega)
   have c1 : wr.cell? ⟨b, o + (4 * k + 1), none⟩ = some (.int .u8 ((x.getD (4 * k + 1) 0).toNat : Int)) := by
    rw [hbel.cell (p := ⟨b, o + (4 * k + 1), none⟩) hbB]; exact hc (4 * k + 1) (by omega)
   have c2 : wr.cell? ⟨b, o + (4 * k + 2), none⟩ = some (.int .u8 ((x.getD (4 * k + 2) 0).toNat : Int)) := by
    rw [hbel.cell (p := ⟨b, o + (4 * k + 2), none⟩) hbB]; exact hc (4 * k + 2) (by omega)
   have c3 : wr.cell? ⟨b, o + (4 * k + 3), none⟩ = some (.int .u8 ((x.getD (4 * k + 3) 0).toNat : Int)) := by
    rw [hbel.cell (p := ⟨b, o + (4 * k + 3), none⟩) hbB]; exact hc (4 * k + 3) (by omega)
   have l0 := hlt64 (4 * k); have l1 := hlt64 (4 * k + 1); have l2 := hlt64 (4 * k + 2); have l3 := hlt64 (4 * k + 3)
   have HQ : Hid (joinTo x (k + 1) = joinTo x k ++ bytes3 (quad x k)) := rfl
   have HV : Hid (quad x k = ((((x.getD (4 * k) 0).toNat * 64 + (x.getD (4 * k + 1) 0).toNat) * 64 + (x.getD (4 * k + 2) 0).toNat) * 64 + (x.getD (4 * k + 3) 0).toNat)) := rfl
   generalize (x.getD (4 * k) 0).toNat = a0 at c0 l0 HV
   generalize (x.getD (4 * k + 1) 0).toNat = a1 at c1 l1 HV
   generalize (x.getD (4 * k + 2) 0).toNat = a2 at c2 l2 HV
   generalize (x.getD (4 * k + 3) 0).toNat = a3 at c3 l3 HV
   have g1 := u64_or_zero (a0 : Int) (by omega) (by omega)
   have g2 := or64 a0 a1 (by omega) l1
   obtain ⟨B1, hB1⟩ : ∃ B1, B1 = a0 * 64 + a1 := ⟨_, rfl⟩
   rw [← hB1] at g2 HV
   have b1 : B1 < 4096 := by omega
   have g3 := or64 B1 a2 (by omega) l2
   obtain ⟨B2, hB2⟩ : ∃ B2, B2 = B1 * 64 + a2 := ⟨_, rfl⟩
   rw [← hB2] at g3 HV
   have b2 : B2 < 262144 := by omega
   have g4 := or64 B2 a3 (by omega) l3
   obtain ⟨V, hV⟩ : ∃ V, V = B2 * 64 + a3 := ⟨_, rfl⟩
   rw [← hV] at g4 HV
   have b3 : V < 16777216 := by omega
   clear hB1 hB2 hV
   clear hc hlt64 h64
   go_wp2_with fail
   refine wp_loop_rounds 5 ?_
   rw [rounds_succ]
   go_wp2
   rw [rounds_succ]
   go_wp2
   rw [rounds_succ]
   go_wp2
   rw [rounds_succ]
   go_wp2
   rw [rounds_succ]
   go_wp2_with (at_builtin; refine wpList_append_own _ rfl (.tmp 28) (.tmp 37) 22 rfl w.heap.size 5 i0 (.int .u8 0) 1 1 Tryz.underlying22 hi hz0 hz1 hz2 rfl (by decide) _ _ _ rfl (hown.alloc _) ⟨wr.heap.size, 0, none⟩ 3 3 [.int .u8 ((V : Int) / 65536), .int .u8 ((V : Int) / 256 % 256), .int .u8 ((V : Int) % 256)] rfl rfl ?c1 ?c2 ?c3 ?c4 ?c5 ?_)
   case c1 => exact cell_three _ _ _ _ _
   case c2 => intro u hu; simp at hu; rcases hu with rfl | rfl | rfl <;> rfl
   case c3 => unfold maxLen; omega
   case c4 => omega
   case c5 => simp; omega
   intro v' w1 hown' hgrow _
   have RB : Below w.heap.size w w1 := push_below hown hbel hsz hgrow
   have R : w1.ownsRow w.heap.size 5 1 v' (joinTo x (k + 1)).length (bv (joinTo x (k + 1))) := by
    rw [HQ.out, HV.out]
    simpa [bv, bytes3, hlen, show ((V : Int) / 65536 % 256) = (V : Int) / 65536 from by omega] using hown'
   clear hown' hgrow hown
   go_wp2
   go_roundw
   case rel => exact ⟨k + 1, by omega, by go_num, R, RB⟩
   case measure => simp [intOf]; omega
  ·obtain rfl : k = M := by omega
   have hfin : Hid (joinS x = joinTo x k) := by unfold Hid joinS; rw [← HL.out, ← hM]
   have hno : (n : Int) / 4 ≤ (k : Int) := by omega
   clear hM hlt hc hlt64
   go_wp2
   go_ret
   exact ⟨_, rfl, by rw [hfin.out]; exact hown, hbel⟩
theorem join_any (p : Option Addr) (n c : Nat) (x : List UInt8) (en : n = x.length) (w : World) (hn : x.length ≤ 8000) (h64 : ∀ c ∈ x, c.toNat < 64) (h4 : x.length % 4 = 0) (hr : BRow w p x) :
  Calls Tryz.prog 171 #[.slice p n c] w fun e w' => ∃ v, e = .returned v ∧ w'.ownsRow w.heap.size 5 1 v (joinS x).length (bv (joinS x)) ∧ Below w.heap.size w w' := by
 subst en
 by_cases h0 : x = []
 ·subst h0
  refine (join_nil p c w).mono ?_
  rintro e w' ⟨rfl, rfl⟩
  exact ⟨_, rfl, World.ownsRow_nil _ _ _ _, Below.refl _ _⟩
 ·obtain ⟨b, o, rfl, hc⟩ := hr h0
  exact join_some b o c x w hn h64 h4 h0 hc
theorem cut_done (p : Option Addr) (n c : Nat) (w : World) (hn : n ≤ 100000) (hc : n ≤ c) (hp : p = none → n = 0 ∧ c = 0) :
  Calls Tryz.prog 170 #[.slice p n c, .int .i64 0] w fun e w' => e = .returned (.tuple #[.slice p n c, .bool true]) ∧ w' = w := by
 cases p with
 | none =>
  obtain ⟨rfl, rfl⟩ := hp rfl
  go_enter Tryz.func170, Tryz.ntmps170
  go_wp2
  refine wp_loop_rounds 1 ?_
  rw [rounds_succ]
  go_wp2
  go_ret2
  exact ⟨rfl, rfl⟩
 | some a =>
  clear hp
  have h0 : (0 : Int) ≤ (n : Int) := by omega
  have h1 : (n : Int) ≤ (c : Int) := by omega
  go_enter Tryz.func170, Tryz.ntmps170
  go_wp2
  refine wp_loop_rounds 1 ?_
  rw [rounds_succ]
  go_wp2
  go_ret2
  exact ⟨rfl, rfl⟩
end Go.Proofs.YtlndhdimamnnlaaGreatDoor



namespace Go.Proofs.YtlndhdimamnnlaaGreatDoor
open Go.RowKit
set_option maxRecDepth 100000
theorem cut1 (b o m c : Nat) (z : Nat) (w : World) (hm : m ≤ 100000) (hc : m + 1 ≤ c) (hcell : w.cell? ⟨b, o + m, none⟩ = some (.int .u8 (z : Int))) :
  Calls Tryz.prog 170 #[.slice (some ⟨b, o, none⟩) (m + 1) c, .int .i64 1] w fun e w' => w' = w ∧ ((z ≠ 0 ∧ e = .returned (.tuple #[.slice none 0 0, .bool false])) ∨ (z = 0 ∧ e = .returned (.tuple #[.slice (some ⟨b, o, none⟩) m c, .bool true]))) := by
 by_cases hz : z = 0
 ·subst hz
  go_enter Tryz.func170, Tryz.ntmps170
  go_wp2
  refine wp_loop_rounds 2 ?_
  rw [rounds_succ]
  go_wp2
  rw [rounds_succ]
  go_wp2
  go_ret2
  exact ⟨rfl, .inr ⟨by simp, rfl⟩⟩
 ·have hb : ((z : Int) != 0) = true := by rw [bne_iff_ne]; omega
  go_enter Tryz.func170, Tryz.ntmps170
  go_wp2
  refine wp_loop_rounds 2 ?_
  rw [rounds_succ]
  go_wp2
  go_ret2
  exact ⟨rfl, .inl ⟨hz, rfl⟩⟩
theorem cut2 (b o m c : Nat) (z u : Nat) (w : World) (hm : m ≤ 100000) (hc : m + 2 ≤ c) (hcell : w.cell? ⟨b, o + m, none⟩ = some (.int .u8 (z : Int))) (hcell1 : w.cell? ⟨b, o + (m + 1), none⟩ = some (.int .u8 (u : Int))) :
  Calls Tryz.prog 170 #[.slice (some ⟨b, o, none⟩) (m + 2) c, .int .i64 2] w fun e w' => w' = w ∧ ((¬ (z = 0 ∧ u = 0) ∧ e = .returned (.tuple #[.slice none 0 0, .bool false])) ∨ ((z = 0 ∧ u = 0) ∧ e = .returned (.tuple #[.slice (some ⟨b, o, none⟩) m c, .bool true]))) := by
 by_cases hz : z = 0
 ·subst hz
  by_cases hu : u = 0
  ·subst hu
   go_enter Tryz.func170, Tryz.ntmps170
   go_wp2
   refine wp_loop_rounds 3 ?_
   rw [rounds_succ]
   go_wp2
   rw [rounds_succ]
   go_wp2
   rw [rounds_succ]
   go_wp2
   go_ret2
   exact ⟨rfl, .inr ⟨by simp, rfl⟩⟩
  ·have hb : ((u : Int) != 0) = true := by rw [bne_iff_ne]; omega
   go_enter Tryz.func170, Tryz.ntmps170
   go_wp2
   refine wp_loop_rounds 3 ?_
   rw [rounds_succ]
   go_wp2
   rw [rounds_succ]
   go_wp2
   go_ret2
   exact ⟨rfl, .inl ⟨fun h => hu h.2, rfl⟩⟩
 ·have hb : ((z : Int) != 0) = true := by rw [bne_iff_ne]; omega
  go_enter Tryz.func170, Tryz.ntmps170
  go_wp2
  refine wp_loop_rounds 3 ?_
  rw [rounds_succ]
  go_wp2
  go_ret2
  exact ⟨rfl, .inl ⟨fun h => hz h.1, rfl⟩⟩
theorem drop_last1 (l : List UInt8) (m : Nat) (h : l.length = m + 1) : l.drop m = [l.getD m 0] := by
 rw [List.drop_eq_getElem_cons (by omega), List.drop_of_length_le (by omega)]
 simp [List.getD_eq_getElem?_getD, List.getElem?_eq_getElem (show m < l.length by omega)]
theorem drop_last2 (l : List UInt8) (m : Nat) (h : l.length = m + 2) : l.drop m = [l.getD m 0, l.getD (m + 1) 0] := by
 rw [List.drop_eq_getElem_cons (by omega), drop_last1 l (m + 1) (by omega)]
 simp [List.getD_eq_getElem?_getD, List.getElem?_eq_getElem (show m < l.length by omega)]
theorem byte_zero (c : UInt8) : (c == 0) = decide (c.toNat = 0) := by
 rw [Bool.eq_iff_iff]
 simp [← UInt8.toNat_inj]
theorem cutS_one (l : List UInt8) (m : Nat) (hm : l.length = m + 1) : cutS l 1 = if (l.getD m 0).toNat = 0 then some (l.take m) else none := by
 unfold cutS
 rw [hm, show m + 1 - 1 = m from rfl, drop_last1 l m hm]
 simp only [List.all_cons, List.all_nil, Bool.and_true, byte_zero, decide_eq_true_eq]
theorem cutS_two (l : List UInt8) (m : Nat) (hm : l.length = m + 2) : cutS l 2 = if (l.getD m 0).toNat = 0 ∧ (l.getD (m + 1) 0).toNat = 0 then some (l.take m) else none := by
 unfold cutS
 rw [hm, show m + 2 - 2 = m from rfl, drop_last2 l m hm]
 simp only [List.all_cons, List.all_nil, Bool.and_true, byte_zero, Bool.and_eq_true, decide_eq_true_eq]
theorem cut_any (p : Option Addr) (n c : Nat) (l : List UInt8) (f : Nat) (en : n = l.length) (w : World) (hn : l.length ≤ 10000) (hcap : l.length ≤ c) (hp : p = none → n = 0 ∧ c = 0) (hf : f ≤ 2) (hfn : f ≤ l.length) (hr : BRow w p l) :
  Calls Tryz.prog 170 #[.slice p n c, .int .i64 (f : Int)] w fun e w' => w' = w ∧ ((cutS l f = none ∧ e = .returned (.tuple #[.slice none 0 0, .bool false])) ∨ (∃ b, cutS l f = some b ∧ b.length ≤ l.length ∧ BRow w p b ∧ e = .returned (.tuple #[.slice p b.length c, .bool true]))) := by
 have htake : ∀ m, BRow w p (l.take m) := by
  intro m hne
  obtain ⟨b, o, rfl, hc⟩ := hr (fun e => hne (by rw [e]; simp))
  refine ⟨b, o, rfl, fun i hi => ?_⟩
  rw [List.length_take] at hi
  rw [hc i (by omega)]
  simp [List.getD_eq_getElem?_getD, show i < m by omega]
 rcases (by omega : f = 0 ∨ f = 1 ∨ f = 2) with rfl | rfl | rfl
 ·refine (cut_done p n c w (by omega) (by omega) hp).mono ?_
  rintro e w' ⟨rfl, rfl⟩
  have e1 : cutS l 0 = some l := by simp [cutS]
  exact ⟨rfl, .inr ⟨l, e1, Nat.le_refl _, hr, by rw [en]⟩⟩
 ·obtain ⟨m, hm⟩ : ∃ m, l.length = m + 1 := ⟨l.length - 1, by omega⟩
  obtain ⟨b, o, rfl, hc⟩ := hr (fun e => by rw [e] at hm; simp at hm)
  have en' : n = m + 1 := by omega
  subst en'
  refine (cut1 b o m c _ w (by omega) (by omega) (hc m (by omega))).mono ?_
  rintro e w' ⟨rfl, h⟩
  have e1 : cutS l 1 = if (l.getD m 0).toNat = 0 then some (l.take m) else none := by
   unfold cutS
   rw [hm, show m + 1 - 1 = m from rfl, drop_last1 l m hm]
   simp only [List.all_cons, List.all_nil, Bool.and_true, byte_zero, decide_eq_true_eq]
  refine ⟨rfl, ?_⟩
  rcases h with ⟨hz, rfl⟩ | ⟨hz, rfl⟩
  ·exact .inl ⟨by rw [e1, if_neg hz], rfl⟩
  ·exact .inr ⟨l.take m, by rw [e1, if_pos hz], by simp; omega, htake m, by rw [List.length_take, Nat.min_eq_left (by omega)]⟩
 ·obtain ⟨m, hm⟩ : ∃ m, l.length = m + 2 := ⟨l.length - 2, by omega⟩
  obtain ⟨b, o, rfl, hc⟩ := hr (fun e => by rw [e] at hm; simp at hm)
  have en' : n = m + 2 := by omega
  subst en'
  refine (cut2 b o m c _ _ w (by omega) (by omega) (hc m (by omega)) (hc (m + 1) (by omega))).mono ?_
  rintro e w' ⟨rfl, h⟩
  have e1 : cutS l 2 = if (l.getD m 0).toNat = 0 ∧ (l.getD (m + 1) 0).toNat = 0 then some (l.take m) else none := by
   unfold cutS
   rw [hm, show m + 2 - 2 = m from rfl, drop_last2 l m hm]
   simp only [List.all_cons, List.all_nil, Bool.and_true, byte_zero, Bool.and_eq_true, decide_eq_true_eq]
  refine ⟨rfl, ?_⟩
  rcases h with ⟨hz, rfl⟩ | ⟨hz, rfl⟩
  ·exact .inl ⟨by rw [e1, if_neg hz], rfl⟩
  ·exact .inr ⟨l.take m, by rw [e1, if_pos hz], by simp; omega, htake m, by rw [List.length_take, Nat.min_eq_left (by omega)]⟩
end Go.Proofs.YtlndhdimamnnlaaGreatDoor



namespace Go.Proofs.YtlndhdimamnnlaaGreatDoor
open Go.RowKit
set_option maxRecDepth 100000
theorem readS_bad {l : List UInt8} (h : l.length ≤ 8000) (h' : scan l ([], 0) = none) : readS l = ([], 1) := by
 unfold readS
 rw [if_neg (by omega)]
 have : digitsS l = none := by unfold digitsS; rw [h']; rfl
 rw [this]
theorem read_many (s : ByteArray) (w : World) (hs : s.size ≤ maxLen) (h : 8000 < s.size) :
  Calls Tryz.prog 121 #[.string s] w fun e w' => e = .returned (.tuple #[.slice none 0 0, .int .i64 2]) ∧ w' = w := by
 unfold maxLen at hs
 have h' : (8000 : Int) < (s.size : Int) := by omega
 go_enter Tryz.func121, Tryz.ntmps121
 go_wp2
 go_ret2
 exact ⟨rfl, rfl⟩
set_option maxHeartbeats 1000000 in
theorem read_few (s : ByteArray) (w : World) (h : s.size ≤ 8000) :
  Calls Tryz.prog 121 #[.string s] w fun e w' => ReadPostN w (readS s.data.toList) e w' := by
 have hlen : ¬ 8000 < s.data.toList.length := by rw [Array.length_toList]; show ¬ 8000 < s.size; omega
 have hlen' : s.data.toList.length ≤ 8000 := by omega
 go_enter Tryz.func121, Tryz.ntmps121
 go_wp2_with fail
 refine (digits_any s w h).mono ?_
 rintro e w1 ⟨hb1, ⟨hd, rfl⟩ | ⟨x, f, v, hd, rfl, hown⟩⟩
 ·have hr : Hid (readS s.data.toList = ([], 1)) := by unfold Hid readS; rw [if_neg hlen, hd]
  clear hd hlen
  go_wp2
  go_ret2
  rw [hr.out]
  exact readPostN_none hb1 1
 ·obtain ⟨p, c, rfl, hc1, hc2, hp, hrow⟩ := owned_row hown
  have hsc : scan s.data.toList ([], 0) = some (x, f) ∧ f ≤ 2 ∧ x.length % 4 = 0 := by
   unfold digitsS at hd
   cases hq : scan s.data.toList ([], 0) with
   | none => rw [hq] at hd; cases hd
   | some st =>
    rw [hq] at hd
    by_cases hh : 2 < st.2 ∨ st.1.length % 4 ≠ 0
    ·simp only [Option.bind_some, if_pos hh] at hd; cases hd
    ·simp only [Option.bind_some, if_neg hh] at hd
     cases hd
     exact ⟨rfl, by simp only at hh; omega, by simp only at hh; omega⟩
  obtain ⟨hs1, hf2, hx4⟩ := hsc
  obtain ⟨hb64, hfx, hxl⟩ := scan_bounds _ _ _ _ hs1 (by simp) (by simp)
  have hx8 : x.length ≤ 8000 := by simp at hxl; omega
  have hjl : Hid ((joinS x).length = 3 * (x.length / 4)) := joinTo_length x _
  have hj1 : (joinS x).length ≤ 6000 := by have := hjl.out; omega
  have hj2 : f ≤ (joinS x).length := by have := hjl.out; omega
  clear hjl
  clear hs1 hxl hown
  have H1 : Hid (readS s.data.toList = match cutS (joinS x) f with | none => ([], 1) | some b => if 4000 < b.length then ([], 2) else (b, 0)) := by
   unfold Hid readS; rw [if_neg hlen, hd]; rfl
  clear hd hlen hlen'
  go_wp2_with fail
  refine (join_any p _ c x rfl _ hx8 hb64 hx4 hrow).mono ?_
  rintro e w2 ⟨v2, rfl, hown2, hb2⟩
  obtain ⟨p2, c2, rfl, hd1, hd2, hp2, hrow2⟩ := owned_row hown2
  have HFR : Hid (FreshP w w2 p2 c2) := own_freshP hown2 hb1.size
  clear hown2
  go_wp2_with fail
  refine (cut_any p2 _ c2 (joinS x) f rfl _ (by omega) hd1 hp2 hf2 hj2 hrow2).mono ?_
  rintro e w3 ⟨rfl, ⟨hcut, rfl⟩ | ⟨b, hcut, hbl, hrow3, rfl⟩⟩
  ·have hr : Hid (readS s.data.toList = ([], 1)) := by unfold Hid; rw [H1.out, hcut]
   clear hcut
   go_wp2
   go_ret2
   rw [hr.out]
   exact readPostN_none (hb1.trans (hb2.mono hb1.size)) 1
  ·by_cases h4 : 4000 < b.length
   ·have hr : Hid (readS s.data.toList = ([], 2)) := by unfold Hid; rw [H1.out, hcut]; simp only [if_pos h4]
    clear hcut
    go_wp2
    go_ret2
    rw [hr.out]
    exact readPostN_none (hb1.trans (hb2.mono hb1.size)) 2
   ·have hr : Hid (readS s.data.toList = (b, 0)) := by unfold Hid; rw [H1.out, hcut]; simp only [if_neg h4]
    clear hcut
    go_wp2
    go_ret2
    rw [hr.out]
    exact ⟨hb1.trans (hb2.mono hb1.size), p2, c2, rfl, by simp only; omega, hd2, hrow3, HFR.out⟩
theorem read_new (s : ByteArray) (w : World) (h : s.size ≤ maxLen) :
  Calls Tryz.prog 121 #[.string s] w fun e w' => ReadPostN w (readS s.data.toList) e w' := by
 by_cases h8 : 8000 < s.size
 ·refine (read_many s w h h8).mono ?_
  rintro e w' ⟨rfl, rfl⟩
  have : readS s.data.toList = ([], 2) := by
   unfold readS; rw [if_pos (by rw [Array.length_toList]; exact h8)]
  rw [this]
  exact readPostN_none (Below.refl _ _) 2
 ·exact read_few s w (by omega)
end Go.Proofs.YtlndhdimamnnlaaGreatDoor



namespace Go.Proofs.YtlndhdimamnnlaaGreatDoor
def upHex (u : Nat) : UInt8 := if u < 10 then UInt8.ofNat (48 + u) else UInt8.ofNat (55 + u)
def plainQ (c : UInt8) : Bool := decide (33 ≤ c.toNat ∧ c.toNat ≤ 126 ∧ c.toNat ≠ 61)
def q1 (c : UInt8) : List UInt8 := if plainQ c = true then [c] else [61, upHex (c.toNat / 16), upHex (c.toNat % 16)]
def qstep (st : List UInt8 × List UInt8) (c : UInt8) : List UInt8 × List UInt8 :=
 if 75 < st.2.length + (q1 c).length then (st.1 ++ st.2 ++ [61, 13, 10], q1 c) else (st.1, st.2 ++ q1 c)
def qst (L : List UInt8) : Nat → List UInt8 × List UInt8
 | 0 => ([], [])
 | k + 1 => qstep (qst L k) (L.getD k 0)
def encQ (L : List UInt8) : List UInt8 := (qst L L.length).1 ++ (qst L L.length).2
theorem q1_length (c : UInt8) : 1 ≤ (q1 c).length ∧ (q1 c).length ≤ 3 := by unfold q1; split <;> simp
theorem qst_length (L : List UInt8) (k : Nat) : (qst L k).1.length + (qst L k).2.length ≤ 6 * k ∧ (qst L k).2.length ≤ 75 := by
 induction k with
 | zero => simp [qst]
 | succ k ih =>
  rw [qst, qstep]
  generalize L.getD k 0 = c
  have := q1_length c
  split
  ·simp; omega
  ·simp; omega
end Go.Proofs.YtlndhdimamnnlaaGreatDoor



namespace Go.Proofs.YtlndhdimamnnlaaGreatDoor
theorem q1_signs : ∀ n : Fin 256, ∀ x ∈ q1 (UInt8.ofNat n.val), 33 ≤ x.toNat ∧ x.toNat ≤ 126 := by decide +kernel
theorem q1_printable (c : UInt8) : ∀ x ∈ q1 c, 33 ≤ x.toNat ∧ x.toNat ≤ 126 := by
 have hc : UInt8.ofNat c.toNat = c := by simp
 have := q1_signs ⟨c.toNat, c.toNat_lt⟩
 simp only [hc] at this
 exact this
theorem q1_hex : ∀ n : Fin 256, plainQ (UInt8.ofNat n.val) = false → isHex (upHex (n.val / 16)) = true ∧ isHex (upHex (n.val % 16)) = true ∧ UInt8.ofNat (hexv (upHex (n.val / 16)) * 16 + hexv (upHex (n.val % 16))) = UInt8.ofNat n.val := by decide +kernel
theorem q1_end : ∀ n : Fin 256, (q1 (UInt8.ofNat n.val)).getLast? ≠ some 61 := by decide +kernel
theorem decQ_q1 (c : UInt8) (r : List UInt8) : decQ (q1 c ++ r) = (decQ r).map (c :: ·) := by
 have hc : UInt8.ofNat c.toNat = c := by simp
 cases h : plainQ c with
 | true =>
  have hne : c ≠ 61 := by
   rintro rfl
   revert h
   decide
  rw [q1, if_pos h]
  exact decQ_plain c r hne
 | false =>
  have := q1_hex ⟨c.toNat, c.toNat_lt⟩
  simp only [hc] at this
  obtain ⟨h1, h2, h3⟩ := this h
  rw [q1, if_neg (by simp [h])]
  show decQ (61 :: upHex (c.toNat / 16) :: upHex (c.toNat % 16) :: r) = _
  rw [decQ_hex _ _ _ (by simp [h1, h2]), h3]
def qs (g : List UInt8) : List UInt8 := g.flatMap q1
theorem qs_cons (c : UInt8) (g : List UInt8) : qs (c :: g) = q1 c ++ qs g := by simp [qs]
theorem qs_append (a b : List UInt8) : qs (a ++ b) = qs a ++ qs b := by simp [qs]
theorem decQ_qs (g : List UInt8) : decQ (qs g) = some g := by
 induction g with
 | nil => rfl
 | cons c g ih => rw [qs_cons, decQ_q1, ih]; rfl
theorem qs_printable (g : List UInt8) : ∀ x ∈ qs g, 33 ≤ x.toNat ∧ x.toNat ≤ 126 := by
 intro x hx
 unfold qs at hx
 rw [List.mem_flatMap] at hx
 obtain ⟨c, _, hc⟩ := hx
 exact q1_printable c x hc
theorem qs_length (g : List UInt8) : g.length ≤ (qs g).length ∧ (qs g).length ≤ 3 * g.length := by
 induction g with
 | nil => simp [qs]
 | cons c g ih => have := q1_length c; rw [qs_cons]; simp; omega
theorem qs_end (g : List UInt8) : endsQ (qs g) 61 = false := by
 rcases List.eq_nil_or_concat g with rfl | ⟨x, c, rfl⟩
 ·rfl
 ·rw [List.concat_eq_append, qs_append]
  have e : qs [c] = q1 c := by simp [qs]
  rw [e]
  unfold endsQ
  have hc : UInt8.ofNat c.toNat = c := by simp
  have h := q1_end ⟨c.toNat, c.toNat_lt⟩
  simp only [hc] at h
  have hl := q1_length c
  rw [List.getLast?_append]
  cases hq : (q1 c).getLast? with
  | none => rw [List.getLast?_eq_none_iff] at hq; rw [hq] at hl; simp at hl
  | some y => rw [hq] at h; simpa using h
theorem strip_printable (x : List UInt8) (h : ∀ c ∈ x, 33 ≤ c.toNat ∧ c.toNat ≤ 126) : stripR x = x := by
 rcases List.eq_nil_or_concat x with rfl | ⟨y, c, rfl⟩
 ·rfl
 ·rw [List.concat_eq_append] at *
  apply stripR_other
  have := h c (by simp)
  unfold blankQ
  have e1 : (c == 32) = false := by rw [beq_eq_false_iff_ne]; rintro rfl; revert this; decide
  have e2 : (c == 9) = false := by rw [beq_eq_false_iff_ne]; rintro rfl; revert this; decide
  have e3 : (c == 13) = false := by rw [beq_eq_false_iff_ne]; rintro rfl; revert this; decide
  simp [e1, e2, e3]
theorem lineQ_on (g : List UInt8) : lineQ (qs g ++ [61, 13, 10]) = (qs g, false) := by
 have e1 : endsQ (qs g ++ [61, 13, 10]) 10 = true := by
  rw [show qs g ++ [61, 13, 10] = (qs g ++ [61, 13]) ++ [10] from by simp, endsQ_snoc]; rfl
 have e2 : (qs g ++ [61, 13, 10]).dropLast = qs g ++ [61, 13] := by
  rw [show qs g ++ [61, 13, 10] = (qs g ++ [61, 13]) ++ [10] from by simp, List.dropLast_concat]
 have e3 : stripR (qs g ++ [61, 13]) = qs g ++ [61] := by
  rw [show qs g ++ [61, 13] = (qs g ++ [61]) ++ [13] from by simp, stripR_blank _ _ (by decide), stripR_other _ _ (by decide)]
 unfold lineQ
 rw [if_pos e1, e2, e3, endsQ_snoc, if_pos (by decide), List.dropLast_concat]
theorem lineQ_last (g : List UInt8) : lineQ (qs g) = (qs g, false) := by
 have hp := qs_printable g
 have e1 : endsQ (qs g) 10 = false := by
  unfold endsQ
  rw [beq_eq_false_iff_ne]
  intro e
  have := hp 10 (List.mem_of_getLast? e)
  revert this; decide
 unfold lineQ
 rw [e1]
 simp only [Bool.false_eq_true, if_false]
 rw [strip_printable _ hp, qs_end]
 rfl
def rendG : List UInt8 → List (List UInt8) → List UInt8
 | g, [] => qs g
 | g, h :: t => qs g ++ ([61, 13, 10] ++ rendG h t)
def pieces : List UInt8 → List (List UInt8) → List (List UInt8)
 | g, [] => [qs g]
 | g, h :: t => (qs g ++ [61, 13, 10]) :: pieces h t
theorem index_none1 (d : UInt8) (a : List UInt8) (h : ∀ c ∈ a, c ≠ d) : Lib.index a [d] = -1 := by
 induction a with
 | nil => rfl
 | cons c a ih =>
  have hc : (d == c) = false := by simp; exact fun e => h c (by simp) e.symm
  have := ih (fun e he => h e (by simp [he]))
  simp [Lib.index, List.isPrefixOf, hc] at this ⊢
  intro hh
  exact absurd this hh
theorem index_at1 (d : UInt8) (a r : List UInt8) (h : ∀ c ∈ a, c ≠ d) : Lib.index (a ++ ([d] ++ r)) [d] = (a.length : Int) := by
 induction a with
 | nil => simp [Lib.index, List.isPrefixOf]
 | cons c a ih =>
  have hc : (d == c) = false := by simp; exact fun e => h c (by simp) e.symm
  have hi := ih (fun e he => h e (by simp [he]))
  rw [List.cons_append, Lib.index]
  have hp : [d].isPrefixOf (c :: (a ++ ([d] ++ r))) = false := by simp [List.isPrefixOf, hc]
  rw [hp, hi]
  simp only [Bool.false_eq_true, if_false]
  rw [if_neg (by simp)]
  simp
theorem drop_one (d : UInt8) (a r : List UInt8) : (a ++ ([d] ++ r)).drop (a.length + 1) = r := by
 rw [show a.length + 1 = (a ++ [d]).length from by simp, ← List.append_assoc, List.drop_left]
theorem take_one (d : UInt8) (a r : List UInt8) : (a ++ ([d] ++ r)).take (a.length + 1) = a ++ [d] := by
 rw [show a.length + 1 = (a ++ [d]).length from by simp, ← List.append_assoc, List.take_left]
theorem not10 (g : List UInt8) : ∀ c ∈ qs g, c ≠ 10 := fun c hc e => by
 have := qs_printable g c hc
 rw [e] at this
 revert this; decide
theorem not10' (g : List UInt8) : ∀ c ∈ qs g ++ [61, 13], c ≠ 10 := by
 intro c hc
 rw [List.mem_append] at hc
 rcases hc with hc | hc
 ·exact not10 g c hc
 ·simp at hc; rcases hc with rfl | rfl <;> decide
theorem split_rend : ∀ (t : List (List UInt8)) (g : List UInt8), Lib.splitK [10] 1 (Lib.count (rendG g t) [10]) (rendG g t) = pieces g t := by
 intro t
 induction t with
 | nil =>
  intro g
  rw [rendG, Lib.count_miss (index_none1 10 _ (not10 g))]
  rfl
 | cons h t ih =>
  intro g
  have e : rendG g (h :: t) = (qs g ++ [61, 13]) ++ ([10] ++ rendG h t) := by rw [rendG]; simp
  have hi := index_at1 10 (qs g ++ [61, 13]) (rendG h t) (not10' g)
  have hd := drop_one 10 (qs g ++ [61, 13]) (rendG h t)
  have ht := take_one 10 (qs g ++ [61, 13]) (rendG h t)
  have ep : pieces g (h :: t) = ((qs g ++ [61, 13]) ++ [10]) :: pieces h t := by rw [pieces]; simp
  rw [e, ep]
  generalize qs g ++ [61, 13] = a at *
  rw [Lib.count_hit (by simp) hi]
  rw [show a.length + [(10 : UInt8)].length = a.length + 1 from rfl, hd, Nat.add_comm 1, Lib.splitK, hi, if_neg (by simp), Int.toNat_natCast, ht]
  rw [show a.length + [(10 : UInt8)].length = a.length + 1 from rfl, hd, ih h]
theorem lines_rend : ∀ (t : List (List UInt8)) (g o : List UInt8), (o ++ (g :: t).flatten).length ≤ 4000 → linesQ (pieces g t) o = (o ++ (g :: t).flatten, 0) := by
 intro t
 induction t with
 | nil =>
  intro g o h
  simp only [List.flatten_cons, List.flatten_nil, List.append_nil] at h ⊢
  rw [pieces, linesQ, lineQ_last]
  simp only [decQ_qs, Bool.false_eq_true, if_false, List.append_nil]
  rw [if_neg (by omega)]
  rfl
 | cons x t ih =>
  intro g o h
  simp only [List.flatten_cons] at h ⊢
  rw [pieces, linesQ, lineQ_on]
  simp only [decQ_qs, Bool.false_eq_true, if_false, List.append_nil]
  have hl : (o ++ g).length ≤ 4000 := by simp only [List.length_append] at h ⊢; omega
  rw [if_neg (by omega), ih x (o ++ g) (by simpa using h)]
  simp
theorem readQ_rend (g : List UInt8) (t : List (List UInt8)) (h : ((g :: t).flatten).length ≤ 4000) (hl : (rendG g t).length ≤ 16000) : readQ (rendG g t) = ((g :: t).flatten, 0) := by
 unfold readQ
 rw [if_neg (by omega), split_rend, lines_rend t g [] (by simpa using h)]
 simp
end Go.Proofs.YtlndhdimamnnlaaGreatDoor

