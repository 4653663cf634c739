
import Derived.Test.YtlndhdimamnnlaaGreatDoorXmimesays26
import Derived.Lib.IndexMore
import Derived.Lib.ItoaNum
namespace Go.Proofs.YtlndhdimamnnlaaGreatDoor
open Go.RowKit
theorem qwrite_nil (p : Option Addr) (c : Nat) (w : World) :
  Calls Tryz.prog 105 #[.slice p 0 c] w fun e w' => e = .returned (.tuple #[.string ⟨#[]⟩, .int .i64 0]) ∧ w' = w := by
 have hcv := convert_nil w
 go_enter Tryz.func105, Tryz.ntmps105
 go_wp2
 refine wp_loop_rounds 1 ?_
 rw [rounds_succ]
 go_wp2
 go_ret2
 exact ⟨rfl, rfl⟩
theorem enc_pos (L : List UInt8) (h : L ≠ []) : 1 ≤ ((qst L L.length).1 ++ (qst L L.length).2).length := by
 obtain ⟨k, hk⟩ : ∃ k, L.length = k + 1 := ⟨L.length - 1, by have := List.length_pos_iff.2 h; omega⟩
 rw [hk, qst, qstep]
 generalize L.getD k 0 = c
 have := (q1_length c).1
 split <;> simp <;> omega
theorem qst_own {w : World} {B : Nat} {v : Value} {L : List UInt8} {k n : Nat} {O M : List UInt8} {xs : List Value} (h : w.ownsRow B 5 1 v n xs) (e : qst L k = (O, M)) (hn : n = (O ++ M).length) (hx : xs = bv (O ++ M)) :
  w.ownsRow B 5 1 v ((qst L k).1 ++ (qst L k).2).length (bv ((qst L k).1 ++ (qst L k).2)) := by
 rw [e]
 simp only
 rw [← hn, ← hx]
 exact h
theorem far_cell {B e n : Nat} {wr w2 : World} {v : Value} {xs : List Value} (hown : wr.ownsRow B e 1 v n xs) (o : Obj) (hg : (wr.alloc o).grownBy w2 v.ownBlock) (i : Nat) (u : Value) (h : (wr.alloc o).cell? ⟨wr.heap.size, i, none⟩ = some u) : w2.cell? ⟨wr.heap.size, i, none⟩ = some u :=
 hg.cell h fun h => by have := (hown.lt _ h.symm).2; simp at this
theorem far_three {B e n : Nat} {wr w2 : World} {v : Value} {xs : List Value} (hown : wr.ownsRow B e 1 v n xs) (a b c : Value) (t : TypeId) (hg : (wr.alloc (.cells #[a, b, c] t)).grownBy w2 v.ownBlock) : ∀ j x, [a, b, c][j]? = some x → w2.cell? ((⟨wr.heap.size, 0, none⟩ : Addr).add j) = some x := by
 intro j x hj
 rw [Addr.add_lit]
 refine far_cell hown _ hg _ _ ?_
 have := cell_three wr a b c t j x hj
 rwa [Addr.add_lit] at this
set_option maxHeartbeats 4000000 in
set_option maxRecDepth 100000 in
theorem qwrite_some (b o c : Nat) (L : List UInt8) (w : World) (h0 : L ≠ []) (hn : L.length ≤ 4000)
  (hc : ∀ i, i < L.length → w.cell? ⟨b, o + i, none⟩ = some (.int .u8 ((L.getD i 0).toNat : Int))) :
  Calls Tryz.prog 105 #[.slice (some ⟨b, o, none⟩) L.length c] w fun e w' => e = .returned (.tuple #[.string ⟨(encQ L).toArray⟩, .int .i64 0]) ∧ Below w.heap.size w w' := by
 obtain ⟨n, hL⟩ : ∃ n, n = L.length := ⟨_, rfl⟩
 rw [← hL] at hn hc ⊢
 have h1 : 1 ≤ n := by rw [hL]; exact List.length_pos_iff.2 h0
 have hbB : b < w.heap.size := World.block_lt_of_cell? w _ (hc 0 (by omega))
 have HL : Hid (n = L.length) := hL
 clear hL
 obtain ⟨i0, hi, hz0, hz1, hz2⟩ := info_parts info_u8
 go_enter Tryz.func105, Tryz.ntmps105
 go_wp2
 go_loopw [4, 5, 15] (fun v wv i wr => ∃ k : Nat, k ≤ n ∧ i = .int .i64 k ∧ wv = .int .i64 ((qst L k).2.length : Nat) ∧ wr.ownsRow w.heap.size 5 1 v ((qst L k).1 ++ (qst L k).2).length (bv ((qst L k).1 ++ (qst L k).2)) ∧ Below w.heap.size w wr)
  (fun _ _ i _ => n - (intOf i).toNat)
 case atStart => exact ⟨0, Nat.zero_le _, rfl, rfl, World.ownsRow_nil _ _ _ _, Below.refl _ _⟩
 case round =>
  obtain ⟨k, hk, rfl, rfl, hown, hbel⟩ := hrel
  obtain ⟨hq1, hq2⟩ := qst_length L k
  have HQ : Hid (qst L (k + 1) = qstep (qst L k) (L.getD k 0)) := rfl
  have hsz := hbel.size
  by_cases hlt : k < n
  ·have hcell : wr.cell? ⟨b, o + k, none⟩ = some (.int .u8 ((L.getD k 0).toNat : Int)) := (hbel.cell (p := ⟨b, o + k, none⟩) hbB).trans (hc k hlt)
   clear hc
   generalize hst : qst L k = st at *
   obtain ⟨O, M⟩ := st
   simp only at hq1 hq2 hown
   clear hst
   generalize L.getD k 0 = d at *
   have hlen : (O ++ M).length ≤ 6 * k := by rw [List.length_append]; omega
   by_cases hp : plainQ d = true
   ·have hq : q1 d = [d] := by rw [q1, if_pos hp]
    by_cases hw : 75 < M.length + 1
    ·have _hh : True := trivial
     have HS : Hid (qst L (k + 1) = (O ++ M ++ [61, 13, 10], [d])) := by unfold Hid; rw [HQ.out, qstep, if_pos (by rw [hq]; simpa using hw), hq]
     have hwi : (75 : Int) < (M.length : Int) + 1 := by omega
     clear HQ hq
     go_wp2_with fail
     refine (written_plain d _ rfl _ hp).mono ?_
     rintro e w1 ⟨rfl, hb1⟩
     have hown1 := ownsRow_below hown hb1
     have hbw1 : Below w.heap.size w w1 := hbel.trans (hb1.mono hsz)
     have hsz1 := hbw1.size
     have hs1 := hb1.size
     clear hb1 hp hown hbel
     go_wp2_with (at_builtin; refine Lib.wpList_append_own_string _ rfl (.tmp 28) (.const (.string ⟨#[61, 13, 10]⟩)) 22 9 rfl w.heap.size 5 i0 Tryz.underlying22 Tryz.underlying9 hi hz0 hz1 hz2 _ _ _ rfl (hown1.alloc _) ⟨#[61, 13, 10]⟩ rfl ?d1 ?d2 ?d3 ?_)
     case d1 => show _ + 3 ≤ maxLen; unfold maxLen; omega
     case d2 => show _ + 3 ≤ _; omega
     case d3 => simp; omega
     intro v2 w2 hown2 hg2 _
     have RB2 : Below w.heap.size w w2 := push_below hown1 hbw1 hsz1 hg2
     have hsz2 := RB2.size
     have hfar := far_three hown1 _ _ _ _ hg2
     clear hg2 hown1 hbw1
     go_wp2_with (at_builtin; refine wpList_append_own _ rfl (.tmp 30) (.tmp 32) 22 rfl w.heap.size 5 i0 (.int .u8 0) 1 1 Tryz.underlying22 hi hz0 hz1 hz2 rfl (by decide) _ _ _ rfl hown2 ⟨w1.heap.size, 0, none⟩ 1 3 [.int .u8 (d.toNat : Int)] rfl rfl ?c1 ?c2 ?c3 ?c4 ?c5 ?_)
     case c1 => intro j x hj; match j, hj with | 0, hj => simp at hj; subst hj; exact hfar 0 _ rfl
     case c2 => intro u hu; simp at hu; subst hu; rfl
     case c3 => show _ + 3 + _ ≤ maxLen; unfold maxLen; omega
     case c4 => show (_ + 3 + _) * 1 ≤ _; omega
     case c5 => exact hsz2
     intro v3 w3 hown3 hg3 _
     have RB3 : Below w.heap.size w w3 := RB2.grown hg3 hsz2 fun j hj => (hown2.lt j hj).1
     have R := qst_own hown3 HS.out (by simp; omega) (by simp [bv, Lib.strCells])
     clear hown3 hg3 hown2 hfar
     go_wp2
     go_roundw
     case rel => exact ⟨k + 1, by omega, by go_num, by rw [HS.out]; rfl, R, RB3⟩
     case measure => simp [intOf]; omega
    ·have _hh : True := trivial
     have HS : Hid (qst L (k + 1) = (O, M ++ [d])) := by unfold Hid; rw [HQ.out, qstep, if_neg (by rw [hq]; simpa using hw), hq]
     have hwi : ¬ (75 : Int) < (M.length : Int) + 1 := by omega
     clear HQ hq
     go_wp2_with fail
     refine (written_plain d _ rfl _ hp).mono ?_
     rintro e w1 ⟨rfl, hb1⟩
     have hown1 := ownsRow_below hown hb1
     have hbw1 : Below w.heap.size w w1 := hbel.trans (hb1.mono hsz)
     have hsz1 := hbw1.size
     have hs1 := hb1.size
     clear hb1 hp hown hbel
     go_wp2_with (at_builtin; refine wpList_append_own _ rfl (.tmp 30) (.tmp 32) 22 rfl w.heap.size 5 i0 (.int .u8 0) 1 1 Tryz.underlying22 hi hz0 hz1 hz2 rfl (by decide) _ _ _ rfl (hown1.alloc _) ⟨w1.heap.size, 0, none⟩ 1 3 [.int .u8 (d.toNat : Int)] rfl rfl ?c1 ?c2 ?c3 ?c4 ?c5 ?_)
     case c1 => intro j x hj; match j, hj with | 0, hj => simp at hj; subst hj; simp [Addr.add_lit]
     case c2 => intro u hu; simp at hu; subst hu; rfl
     case c3 => unfold maxLen; omega
     case c4 => omega
     case c5 => simp; omega
     intro v3 w3 hown3 hg3 _
     have RB3 : Below w.heap.size w w3 := push_below hown1 hbw1 hsz1 hg3
     have R := qst_own hown3 HS.out (by simp; try omega) (by simp [bv])
     clear hown3 hg3 hown1 hbw1
     go_wp2
     go_roundw
     case rel => exact ⟨k + 1, by omega, by go_num, by rw [HS.out]; simp; try go_num, R, RB3⟩
     case measure => simp [intOf]; omega
   ·rw [Bool.not_eq_true] at hp
    have hq : q1 d = [61, upHex (d.toNat / 16), upHex (d.toNat % 16)] := by rw [q1, if_neg (by simp [hp])]
    by_cases hw : 75 < M.length + 3
    ·have _hh : True := trivial
     have HS : Hid (qst L (k + 1) = (O ++ M ++ [61, 13, 10], [61, upHex (d.toNat / 16), upHex (d.toNat % 16)])) := by unfold Hid; rw [HQ.out, qstep, if_pos (by rw [hq]; simpa using hw), hq]
     have hwi : (75 : Int) < (M.length : Int) + 3 := by omega
     clear HQ hq
     go_wp2_with fail
     refine (written_hex d _ rfl _ hp).mono ?_
     rintro e w1 ⟨rfl, hb1⟩
     have hown1 := ownsRow_below hown hb1
     have hbw1 : Below w.heap.size w w1 := hbel.trans (hb1.mono hsz)
     have hsz1 := hbw1.size
     have hs1 := hb1.size
     clear hb1 hp hown hbel
     go_wp2_with (at_builtin; refine Lib.wpList_append_own_string _ rfl (.tmp 28) (.const (.string ⟨#[61, 13, 10]⟩)) 22 9 rfl w.heap.size 5 i0 Tryz.underlying22 Tryz.underlying9 hi hz0 hz1 hz2 _ _ _ rfl (hown1.alloc _) ⟨#[61, 13, 10]⟩ rfl ?d1 ?d2 ?d3 ?_)
     case d1 => show _ + 3 ≤ maxLen; unfold maxLen; omega
     case d2 => show _ + 3 ≤ _; omega
     case d3 => simp; omega
     intro v2 w2 hown2 hg2 _
     have RB2 : Below w.heap.size w w2 := push_below hown1 hbw1 hsz1 hg2
     have hsz2 := RB2.size
     have hfar := far_three hown1 _ _ _ _ hg2
     clear hg2 hown1 hbw1
     go_wp2_with (at_builtin; refine wpList_append_own _ rfl (.tmp 30) (.tmp 32) 22 rfl w.heap.size 5 i0 (.int .u8 0) 1 1 Tryz.underlying22 hi hz0 hz1 hz2 rfl (by decide) _ _ _ rfl hown2 ⟨w1.heap.size, 0, none⟩ 3 3 [.int .u8 61, .int .u8 ((upHex (d.toNat / 16)).toNat : Int), .int .u8 ((upHex (d.toNat % 16)).toNat : Int)] rfl rfl ?c1 ?c2 ?c3 ?c4 ?c5 ?_)
     case c1 => exact hfar
     case c2 => intro u hu; simp at hu; rcases hu with rfl | rfl | rfl <;> rfl
     case c3 => show _ + 3 + _ ≤ maxLen; unfold maxLen; omega
     case c4 => show (_ + 3 + _) * 1 ≤ _; omega
     case c5 => exact hsz2
     intro v3 w3 hown3 hg3 _
     have RB3 : Below w.heap.size w w3 := RB2.grown hg3 hsz2 fun j hj => (hown2.lt j hj).1
     have R := qst_own hown3 HS.out (by simp; omega) (by simp [bv, Lib.strCells])
     clear hown3 hg3 hown2 hfar
     go_wp2
     go_roundw
     case rel => exact ⟨k + 1, by omega, by go_num, by rw [HS.out]; rfl, R, RB3⟩
     case measure => simp [intOf]; omega
    ·have _hh : True := trivial
     have HS : Hid (qst L (k + 1) = (O, M ++ [61, upHex (d.toNat / 16), upHex (d.toNat % 16)])) := by unfold Hid; rw [HQ.out, qstep, if_neg (by rw [hq]; simpa using hw), hq]
     have hwi : ¬ (75 : Int) < (M.length : Int) + 3 := by omega
     clear HQ hq
     go_wp2_with fail
     refine (written_hex d _ rfl _ hp).mono ?_
     rintro e w1 ⟨rfl, hb1⟩
     have hown1 := ownsRow_below hown hb1
     have hbw1 : Below w.heap.size w w1 := hbel.trans (hb1.mono hsz)
     have hsz1 := hbw1.size
     have hs1 := hb1.size
     clear hb1 hp hown hbel
     go_wp2_with (at_builtin; refine wpList_append_own _ rfl (.tmp 30) (.tmp 32) 22 rfl w.heap.size 5 i0 (.int .u8 0) 1 1 Tryz.underlying22 hi hz0 hz1 hz2 rfl (by decide) _ _ _ rfl (hown1.alloc _) ⟨w1.heap.size, 0, none⟩ 3 3 [.int .u8 61, .int .u8 ((upHex (d.toNat / 16)).toNat : Int), .int .u8 ((upHex (d.toNat % 16)).toNat : Int)] rfl rfl ?c1 ?c2 ?c3 ?c4 ?c5 ?_)
     case c1 => exact cell_three _ _ _ _ _
     case c2 => intro u hu; simp at hu; rcases hu with rfl | rfl | rfl <;> rfl
     case c3 => unfold maxLen; omega
     case c4 => omega
     case c5 => simp; omega
     intro v3 w3 hown3 hg3 _
     have RB3 : Below w.heap.size w w3 := push_below hown1 hbw1 hsz1 hg3
     have R := qst_own hown3 HS.out (by simp; try omega) (by simp [bv])
     clear hown3 hg3 hown1 hbw1
     go_wp2
     go_roundw
     case rel => exact ⟨k + 1, by omega, by go_num, by rw [HS.out]; simp; try go_num, R, RB3⟩
     case measure => simp [intOf]; omega
  ·obtain rfl : k = n := by omega
   have hge : 1 ≤ ((qst L k).1 ++ (qst L k).2).length := by rw [HL.out]; exact enc_pos L h0
   have hfin : Hid (encQ L = (qst L k).1 ++ (qst L k).2) := by unfold Hid encQ; rw [← HL.out]
   clear HQ
   generalize (qst L k).1 ++ (qst L k).2 = T at *
   rcases hown.2 with ⟨_, h00⟩ | ⟨g, cap, cur, rfl, hg, hh, hnc, hcp, hcs, htake⟩
   ·omega
   ·have hcells : ∀ j (hj : j < T.length), wr.cell? ((⟨g, 0, none⟩ : Addr).add j) = some (.int .u8 (T[j].toNat : Int)) := fun j hj => by
     rw [Addr.add_lit, Nat.zero_add, hown.cellAt j (by omega)]
     simp [bv, hj]
    have hcv := run_convert_bytes_back (P := Tryz.prog) wr 22 9 5 ⟨g, 0, none⟩ cap T Tryz.underlying22 Tryz.underlying5 Tryz.underlying9 hcells
    clear hown hcells htake hh hc hlt
    go_wp2
    go_ret2
    exact ⟨by rw [hfin.out]; rfl, hbel⟩
theorem qwrite_any (p : Option Addr) (n c : Nat) (L : List UInt8) (en : n = L.length) (w : World) (hn : L.length ≤ 4000) (hr : BRow w p L) :
  Calls Tryz.prog 105 #[.slice p n c] w fun e w' => e = .returned (.tuple #[.string ⟨(encQ L).toArray⟩, .int .i64 0]) ∧ Below w.heap.size w w' := by
 subst en
 by_cases h0 : L = []
 ·subst h0
  refine (qwrite_nil p c w).mono ?_
  rintro e w' ⟨rfl, rfl⟩
  exact ⟨rfl, Below.refl _ _⟩
 ·obtain ⟨b, o, rfl, hc⟩ := hr h0
  exact qwrite_some b o c L w h0 hn hc
end Go.Proofs.YtlndhdimamnnlaaGreatDoor



namespace Go.Proofs.YtlndhdimamnnlaaGreatDoor
open Go.RowKit
set_option maxHeartbeats 2000000 in
set_option maxRecDepth 100000 in
theorem enc_any (b o F : Nat) (p : PT) (w : World) (hP : PAt w F b o p) (h4 : p.body.length ≤ 4000) :
  Calls Tryz.prog 59 #[.pointer (some ⟨b, o, none⟩)] w fun e w' => e = .returned (.string ⟨(encP p).toArray⟩) ∧ Below w.heap.size w w' := by
 obtain ⟨pb, cb, pk, ck, ⟨-, -, -, -, h5, h6, -⟩, hH⟩ := hP
 have hr := hH.2.2.1
 have hc := hH.2.1
 have CW : Hid (Calls Tryz.prog 104 #[.slice pb p.body.length cb] w fun e w' => e = .returned (.tuple #[.string ⟨(encode p.body).toArray⟩, .int .i64 0]) ∧ Below w.heap.size w w') := write_any pb _ cb p.body rfl w h4 hc.1 hr
 have CQ : Hid (Calls Tryz.prog 105 #[.slice pb p.body.length cb] w fun e w' => e = .returned (.tuple #[.string ⟨(encQ p.body).toArray⟩, .int .i64 0]) ∧ Below w.heap.size w w') := qwrite_any pb _ cb p.body rfl w h4 hr
 have hcv := conv_bytes w pb _ cb p.body rfl hr (fun h => by have h3 := hc.2.2 h; have h1 := hc.1; exact ⟨by omega, h3⟩)
 have HE1 : Hid (p.how = 1 → encP p = encode p.body) := fun h => by unfold encP; rw [if_pos h]
 have HE2 : Hid (p.how = 2 → encP p = encQ p.body) := fun h => by unfold encP; rw [if_neg (by rw [h]; decide), if_pos h]
 have HE3 : Hid (¬ p.how = 1 → ¬ p.how = 2 → encP p = p.body) := fun h1 h2 => by unfold encP; rw [if_neg h1, if_neg h2]
 generalize encP p = EP at *
 clear hH hr hc
 generalize p.body.length = nb at *
 by_cases q1 : p.how = 1
 ·have HE := HE1.out q1
  rw [HE]
  rw [q1] at h5
  clear HE1 HE2 HE3 CQ q1 HE hcv
  go_enter Tryz.func59, Tryz.ntmps59
  go_wp2_with fail
  refine CW.out.mono ?_
  rintro e w1 ⟨rfl, hb1⟩
  clear CW
  go_wp2_with fail
  go_ret
  exact ⟨rfl, hb1⟩
 ·by_cases q2 : p.how = 2
  ·have HE := HE2.out q2
   rw [HE]
   rw [q2] at h5
   clear HE1 HE2 HE3 CW q1 q2 HE hcv
   go_enter Tryz.func59, Tryz.ntmps59
   go_wp2_with fail
   refine CQ.out.mono ?_
   rintro e w1 ⟨rfl, hb1⟩
   clear CQ
   go_wp2_with fail
   go_ret
   exact ⟨rfl, hb1⟩
  ·have HE := HE3.out q1 q2
   rw [HE]
   have b1 : (p.how == 1) = false := by rw [beq_eq_false_iff_ne]; exact q1
   have b2 : (p.how == 2) = false := by rw [beq_eq_false_iff_ne]; exact q2
   generalize p.how = hw at *
   clear HE1 HE2 HE3 CW CQ HE
   go_enter Tryz.func59, Tryz.ntmps59
   go_wp2_with fail
   go_ret
   exact ⟨rfl, Below.refl _ _⟩
end Go.Proofs.YtlndhdimamnnlaaGreatDoor



namespace Go.Proofs.YtlndhdimamnnlaaGreatDoor
theorem digC_of (d : Nat) (h : d < 10) : digC (UInt8.ofNat (48 + d)) = true ∧ (UInt8.ofNat (48 + d)).toNat - 48 = d := by
 have e : (UInt8.ofNat (48 + d)).toNat = 48 + d := by rw [UInt8.toNat_ofNat']; omega
 refine ⟨?_, by rw [e]; omega⟩
 unfold digC
 rw [e]
 simp
 omega
theorem digs_at (n m d : Nat) (r : List UInt8) (h : d < 10) (hm : 10 * n + d = m) (h0 : m ≠ 0) (h1 : m < 1000000) : digsFrom n (UInt8.ofNat (48 + d) :: r) = m :: digsFrom m r := by
 obtain ⟨e1, e2⟩ := digC_of d h
 rw [digsFrom, if_pos e1, e2, hm, if_neg (by omega)]
theorem digs_has : ∀ (k n : Nat) (r : List UInt8), n < k → n ≠ 0 → n < 1000000 → ∃ pre, digsFrom 0 (Lib.decDigits n ++ r) = pre ++ (n :: digsFrom n r)
 | 0, n, r, h, _, _ => absurd h (Nat.not_lt_zero _)
 | k + 1, n, r, hk, h0, h1 => by
  by_cases h : n < 10
  ·rw [Lib.decDigits, dif_pos h]
   exact ⟨[], by rw [List.singleton_append, digs_at 0 n n r h (by omega) h0 h1]; rfl⟩
  ·rw [Lib.decDigits, dif_neg h, List.append_assoc, List.singleton_append]
   obtain ⟨pre, e⟩ := digs_has k (n / 10) (UInt8.ofNat (48 + n % 10) :: r) (by omega) (by omega) (by omega)
   refine ⟨pre ++ [n / 10], ?_⟩
   rw [e, digs_at (n / 10) n (n % 10) r (by omega) (by omega) h0 h1]
   simp
theorem occ_iff (s sub : List UInt8) (i : Nat) : Lib.occAt s sub i = true ↔ ∃ post, s.drop i = sub ++ post := by
 unfold Lib.occAt
 rw [List.isPrefixOf_iff_prefix]
 constructor
 ·rintro ⟨t, h⟩; exact ⟨t, h.symm⟩
 ·rintro ⟨t, h⟩; exact ⟨t, h.symm⟩
theorem mark_apart (s a b : List UInt8) (i j : Nat) (ha : s.drop i = mark4 ++ a) (hb : s.drop j = mark4 ++ b) (h : i < j) : i + 4 ≤ j := by
 have key : ∀ d, 1 ≤ d → d ≤ 3 → j = i + d → False := by
  intro d h1 h2 hj
  rw [hj, ← List.drop_drop, ha] at hb
  unfold mark4 at hb
  match d, h1, h2 with
  | 1, _, _ => simp at hb
  | 2, _, _ => simp at hb
  | 3, _, _ => simp at hb
 apply Classical.byContradiction
 intro hn
 exact key (j - i) (by omega) (by omega) (by omega)
theorem cut_at {s : List UInt8} {i : Nat} (h : Lib.index s mark4 = i) : Lib.cut s mark4 = (s.take i, s.drop (i + 4), true) := by
 unfold Lib.cut
 rw [h, if_pos (by omega)]
 rfl
theorem taken_has : ∀ (f : Nat) (s pre post : List UInt8) (n : Nat), s.length < f → s = pre ++ (mark4 ++ (Lib.decDigits n ++ post)) → n ≠ 0 → n < 1000000 → n ∈ takenGo f s
 | 0, s, _, _, _, h, _, _, _ => absurd h (Nat.not_lt_zero _)
 | f + 1, s, pre, post, n, hf, hs, h0, h1 => by
  have hd : s.drop pre.length = mark4 ++ (Lib.decDigits n ++ post) := by rw [hs, List.drop_left]
  have ho : Lib.occAt s mark4 pre.length = true := (occ_iff _ _ _).2 ⟨_, hd⟩
  have hl : pre.length ≤ s.length := by rw [hs, List.length_append]; omega
  rcases Lib.index_spec s mark4 with ⟨_, hno⟩ | ⟨i, hi, hile, hocc, hnone⟩
  ·rw [hno _ hl] at ho; cases ho
  ·have hip : i ≤ pre.length := by
    apply Classical.byContradiction
    intro hn
    have := hnone pre.length (by omega)
    rw [this] at ho
    cases ho
   rw [takenGo, cut_at hi, if_pos rfl]
   simp only
   rw [List.mem_append]
   by_cases e : i = pre.length
   ·left
    have hdd : s.drop (i + 4) = Lib.decDigits n ++ post := by
     rw [← List.drop_drop, e, hd]
     rfl
    obtain ⟨q, hq⟩ := digs_has (n + 1) n post (by omega) h0 h1
    rw [hdd, hq]
    simp
   ·right
    obtain ⟨a, ha⟩ := (occ_iff _ _ _).1 hocc
    have h4 := mark_apart s a _ i pre.length ha hd (by omega)
    refine taken_has f (s.drop (i + 4)) (pre.drop (i + 4)) post n ?_ ?_ h0 h1
    ·rw [List.length_drop]
     have : 4 ≤ s.length := by omega
     omega
    ·rw [hs, List.drop_append_of_le_length h4]
theorem digs_few : ∀ (l : List UInt8) (n j : Nat), 10 ^ j ≤ n → j ≤ 5 → (digsFrom n l).length ≤ 5 - j
 | [], n, j, _, _ => by rw [digsFrom]; simp
 | c :: r, n, j, h, hj => by
  rw [digsFrom]
  split
  ·split
   ·simp
   ·rename_i h1 h2
    have hp : 10 ^ (j + 1) ≤ 10 * n + (c.toNat - 48) := by rw [Nat.pow_succ]; omega
    by_cases h5 : j = 5
    ·subst h5
     exact absurd hp (by omega)
    ·have := digs_few r (10 * n + (c.toNat - 48)) (j + 1) hp (by omega)
     rw [List.length_cons]
     omega
  ·simp
theorem digs_six (l : List UInt8) : (digsFrom 0 l).length ≤ 6 := by
 cases l with
 | nil => rw [digsFrom]; simp
 | cons c r =>
  rw [digsFrom]
  split
  ·split
   ·simp
   ·rename_i h1 h2
    have := digs_few r (10 * 0 + (c.toNat - 48)) 0 (by rw [Nat.pow_zero]; omega) (by omega)
    rw [List.length_cons]
    omega
  ·simp
theorem taken_two : ∀ (f : Nat) (s : List UInt8), (takenGo f s).length ≤ 2 * s.length
 | 0, s => by rw [takenGo]; simp
 | f + 1, s => by
  rw [takenGo]
  rcases Lib.index_spec s mark4 with ⟨hi, _⟩ | ⟨i, hi, _⟩
  ·have : (Lib.cut s mark4).2.2 = false := by unfold Lib.cut; rw [hi]; rfl
   rw [this]
   simp
  ·rw [cut_at hi, if_pos rfl]
   have h1 := digs_six (s.drop (i + 4))
   have h2 := taken_two f (s.drop (i + 4))
   have h3 := Lib.index_room s mark4 (by rw [hi]; omega)
   have h4 : mark4.length = 4 := rfl
   rw [hi, h4] at h3
   rw [List.length_drop] at h2
   simp only
   rw [List.length_append]
   omega
theorem fold_gt : ∀ (zs : List Int) (a : Int), (∀ z ∈ zs, a < z) → zs.foldl stepL a = a
 | [], a, _ => rfl
 | z :: zs, a, h => by
  rw [List.foldl_cons]
  have h1 := h z (by simp)
  have e : stepL a z = a := by unfold stepL; rw [if_neg (by omega)]
  rw [e]
  exact fold_gt zs a (fun y hy => h y (by simp [hy]))
theorem fold_free : ∀ (zs : List Int) (a : Int), zs.Pairwise (· ≤ ·) → ∀ z ∈ zs, z ≠ zs.foldl stepL a
 | [], a, _, z, hz => by simp at hz
 | y :: zs, a, hp, z, hz => by
  rw [List.pairwise_cons] at hp
  rw [List.foldl_cons]
  have hle := (fold_le zs (stepL a y)).1
  rcases List.mem_cons.1 hz with rfl | hz
  ·by_cases h1 : z = a
   ·have e : stepL a z = a + 1 := by unfold stepL; rw [if_pos h1]
    rw [e] at hle ⊢
    omega
   ·have e : stepL a z = a := by unfold stepL; rw [if_neg h1]
    rw [e] at hle ⊢
    by_cases h2 : z < a
    ·omega
    ·rw [fold_gt zs a (fun x hx => by have := hp.1 x hx; omega)]
     exact h1
  ·exact fold_free zs (stepL a y) hp.2 z hz
theorem least_free (zs : List Int) : ∀ z ∈ zs, z ≠ leastScan (sortZ zs) := fun z hz => by
 have hp : (sortZ zs).Pairwise (· ≤ ·) := by
  have := List.pairwise_mergeSort (le := fun x y : Int => decide (x ≤ y)) (by intro a b c; simp; omega) (by intro a b; simp; omega) zs
  refine this.imp ?_
  intro a b h
  simpa using h
 exact fold_free (sortZ zs) 1 hp z (by unfold sortZ; rw [List.mem_mergeSort]; exact hz)
theorem total_taken : ∀ (ts : List (List UInt8)), (ts.flatMap takenOf).length ≤ 2 * (ts.map List.length).sum
 | [] => by simp
 | t :: ts => by
  have h1 := taken_two (t.length + 1) t
  have h2 := total_taken ts
  rw [List.flatMap_cons, List.length_append, List.map_cons, List.sum_cons]
  unfold takenOf at h2 ⊢
  omega
def dd2 : List UInt8 := [45, 45]
def brd (n : Int) : List UInt8 := [61, 95] ++ Lib.itoa n
theorem least_range (ts : List (List UInt8)) : 1 ≤ leastP ts ∧ leastP ts ≤ 2 * (ts.map List.length).sum + 1 := by
 have h := leastScan_le (sortZ ((ts.flatMap takenOf).map fun (n : Nat) => (n : Int)))
 have h2 := total_taken ts
 have h3 : (sortZ ((ts.flatMap takenOf).map fun (n : Nat) => (n : Int))).length = (ts.flatMap takenOf).length := by unfold sortZ; rw [List.length_mergeSort, List.length_map]
 rw [h3] at h
 unfold leastP
 omega
theorem brd_nat (n : Int) (h : 1 ≤ n) : brd n = [61, 95] ++ Lib.decDigits n.toNat := by
 unfold brd Lib.itoa
 rw [if_neg (by omega)]
theorem least_border (ts : List (List UInt8)) (h : (ts.map List.length).sum ≤ 400000) : ∀ t ∈ ts, ¬ (dd2 ++ brd (leastP ts)) <:+: t := by
 rintro t ht ⟨pre, post, e⟩
 obtain ⟨h1, h2⟩ := least_range ts
 rw [brd_nat _ h1] at e
 have hin : (leastP ts).toNat ∈ takenOf t := by
  refine taken_has (t.length + 1) t pre post _ (by omega) ?_ (by omega) (by omega)
  rw [← e]
  simp [dd2, mark4]
 have hm : ((leastP ts).toNat : Int) ∈ (ts.flatMap takenOf).map fun (n : Nat) => (n : Int) := by
  rw [List.mem_map]
  exact ⟨_, List.mem_flatMap.2 ⟨t, ht, hin⟩, rfl⟩
 have := least_free _ _ hm
 apply this
 show _ = leastP ts
 omega
theorem dec_digits : ∀ (k n : Nat), n < k → ∀ c ∈ Lib.decDigits n, 48 ≤ c.toNat ∧ c.toNat ≤ 57
 | 0, n, h, _, _ => absurd h (Nat.not_lt_zero _)
 | k + 1, n, hk, c, hc => by
  have one : ∀ d, d < 10 → c = UInt8.ofNat (48 + d) → 48 ≤ c.toNat ∧ c.toNat ≤ 57 := by
   rintro d hd rfl
   rw [UInt8.toNat_ofNat']
   omega
  rw [Lib.decDigits] at hc
  split at hc
  ·rename_i h
   exact one n h (by simpa using hc)
  ·rename_i h
   rcases List.mem_append.1 hc with hc | hc
   ·exact dec_digits k (n / 10) (by omega) c hc
   ·exact one (n % 10) (by omega) (by simpa using hc)
theorem dec_few : ∀ (k n : Nat), n < 10 ^ (k + 1) → (Lib.decDigits n).length ≤ k + 1
 | 0, n, h => by
  rw [Lib.decDigits, dif_pos (by simpa using h)]
  simp
 | k + 1, n, h => by
  rw [Lib.decDigits]
  split
  ·simp
  ·rw [Nat.pow_succ] at h
   have := dec_few k (n / 10) (by omega)
   rw [List.length_append]
   simp
   omega
theorem brd_facts (n : Int) (h1 : 1 ≤ n) (h2 : n < 10000000) : brd n ≠ [] ∧ (brd n).length ≤ 9 ∧ ∀ c ∈ brd n, 48 ≤ c.toNat ∧ c.toNat ≤ 57 ∨ c = 61 ∨ c = 95 := by
 rw [brd_nat n h1]
 have h3 := dec_few 6 n.toNat (by omega)
 refine ⟨by simp, by rw [List.length_append]; simp; omega, fun c hc => ?_⟩
 rcases List.mem_append.1 hc with hc | hc
 ·simp at hc
  rcases hc with rfl | rfl
  ·exact .inr (.inl rfl)
  ·exact .inr (.inr rfl)
 ·exact .inl (dec_digits _ _ (Nat.lt_succ_self _) c hc)
end Go.Proofs.YtlndhdimamnnlaaGreatDoor

