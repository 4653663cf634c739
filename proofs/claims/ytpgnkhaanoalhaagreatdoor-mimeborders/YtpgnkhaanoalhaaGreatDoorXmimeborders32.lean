/- quote.Write answers the bytes as printable signs, in lines, or ErrMany; nothing that was there is changed. Conditions: the bytes lie there. -/
import Derived.Test.YtpgnkhaanoalhaaGreatDoorXmimeborders31
import Derived.Lib.AppendStr
import Derived.Test.YtpgnkhaanoalhaaGreatDoorXmimeborders6
import Derived.Test.YtpgnkhaanoalhaaGreatDoorXmimeborders18
import Derived.Test.YtpgnkhaanoalhaaGreatDoorXmimeborders8
namespace Go.Proofs.YtpgnkhaanoalhaaGreatDoor
open Go.RowKit

theorem qwrite_many (p : Option Addr) (n c : Nat) (w : World) (h : 4000 < n) (hm : n ≤ maxLen) :
    Calls Tryz.prog 112 #[.slice p n c] w fun e w' => e = .returned (.tuple #[.string ⟨#[]⟩, .int .i64 2]) ∧ w' = w := by
  unfold maxLen at hm
  have h' : (4000 : Int) < (n : Int) := by omega
  go_enter Tryz.func112, Tryz.ntmps112
  go_wp2
  go_ret2
  exact ⟨rfl, rfl⟩

theorem qwrite_nil (p : Option Addr) (c : Nat) (w : World) :
    Calls Tryz.prog 112 #[.slice p 0 c] w fun e w' => e = .returned (.tuple #[.string ⟨#[]⟩, .int .i64 0]) ∧ w' = w := by
  have hcv := convert_nil w
  go_enter Tryz.func112, Tryz.ntmps112
  go_wp2
  refine wp_loop_rounds 1 ?_
  rw [rounds_succ]
  go_wp2
  go_ret2
  exact ⟨rfl, rfl⟩

theorem enc_pos (L : List UInt8) (h : L ≠ []) : 1 ≤ ((qst L L.length).1 ++ (qst L L.length).2).length := by
  obtain ⟨k, hk⟩ : ∃ k, L.length = k + 1 := ⟨L.length - 1, by have := List.length_pos_iff.2 h; omega⟩
  rw [hk, qst, qstep]
  generalize L.getD k 0 = c
  have := (q1_length c).1
  split <;> simp <;> omega

theorem qst_own {w : World} {B : Nat} {v : Value} {L : List UInt8} {k n : Nat} {O M : List UInt8} {xs : List Value} (h : w.ownsRow B 5 1 v n xs) (e : qst L k = (O, M)) (hn : n = (O ++ M).length) (hx : xs = bv (O ++ M)) :
    w.ownsRow B 5 1 v ((qst L k).1 ++ (qst L k).2).length (bv ((qst L k).1 ++ (qst L k).2)) := by
  rw [e]
  simp only
  rw [← hn, ← hx]
  exact h

theorem far_cell {B e n : Nat} {wr w2 : World} {v : Value} {xs : List Value} (hown : wr.ownsRow B e 1 v n xs) (o : Obj) (hg : (wr.alloc o).grownBy w2 v.ownBlock) (i : Nat) (u : Value) (h : (wr.alloc o).cell? ⟨wr.heap.size, i, none⟩ = some u) : w2.cell? ⟨wr.heap.size, i, none⟩ = some u :=
  hg.cell h fun h => by have := (hown.lt _ h.symm).2; simp at this

theorem far_three {B e n : Nat} {wr w2 : World} {v : Value} {xs : List Value} (hown : wr.ownsRow B e 1 v n xs) (a b c : Value) (t : TypeId) (hg : (wr.alloc (.cells #[a, b, c] t)).grownBy w2 v.ownBlock) : ∀ j x, [a, b, c][j]? = some x → w2.cell? ((⟨wr.heap.size, 0, none⟩ : Addr).add j) = some x := by
  intro j x hj
  rw [Addr.add_lit]
  refine far_cell hown _ hg _ _ ?_
  have := cell_three wr a b c t j x hj
  rwa [Addr.add_lit] at this

set_option maxHeartbeats 4000000 in
set_option maxRecDepth 100000 in
theorem qwrite_some (b o c : Nat) (L : List UInt8) (w : World) (h0 : L ≠ []) (hn : L.length ≤ 4000)
    (hc : ∀ i, i < L.length → w.cell? ⟨b, o + i, none⟩ = some (.int .u8 ((L.getD i 0).toNat : Int))) :
    Calls Tryz.prog 112 #[.slice (some ⟨b, o, none⟩) L.length c] w fun e w' => e = .returned (.tuple #[.string ⟨(encQ L).toArray⟩, .int .i64 0]) ∧ Below w.heap.size w w' := by
  obtain ⟨n, hL⟩ : ∃ n, n = L.length := ⟨_, rfl⟩
  rw [← hL] at hn hc ⊢
  have h1 : 1 ≤ n := by rw [hL]; exact List.length_pos_iff.2 h0
  have hbB : b < w.heap.size := World.block_lt_of_cell? w _ (hc 0 (by omega))
  have HL : Hid (n = L.length) := hL
  clear hL
  obtain ⟨i0, hi, hz0, hz1, hz2⟩ := info_parts info_u8
  go_enter Tryz.func112, Tryz.ntmps112
  go_wp2
  go_loopw [4, 5, 15] (fun v wv i wr => ∃ k : Nat, k ≤ n ∧ i = .int .i64 k ∧ wv = .int .i64 ((qst L k).2.length : Nat) ∧ wr.ownsRow w.heap.size 5 1 v ((qst L k).1 ++ (qst L k).2).length (bv ((qst L k).1 ++ (qst L k).2)) ∧ Below w.heap.size w wr)
    (fun _ _ i _ => n - (intOf i).toNat)
  case atStart => exact ⟨0, Nat.zero_le _, rfl, rfl, World.ownsRow_nil _ _ _ _, Below.refl _ _⟩
  case round =>
    obtain ⟨k, hk, rfl, rfl, hown, hbel⟩ := hrel
    obtain ⟨hq1, hq2⟩ := qst_length L k
    have HQ : Hid (qst L (k + 1) = qstep (qst L k) (L.getD k 0)) := rfl
    have hsz := hbel.size
    by_cases hlt : k < n
    · have hcell : wr.cell? ⟨b, o + k, none⟩ = some (.int .u8 ((L.getD k 0).toNat : Int)) := (hbel.cell (p := ⟨b, o + k, none⟩) hbB).trans (hc k hlt)
      clear hc
      generalize hst : qst L k = st at *
      obtain ⟨O, M⟩ := st
      simp only at hq1 hq2 hown
      clear hst
      generalize L.getD k 0 = d at *
      have hlen : (O ++ M).length ≤ 6 * k := by rw [List.length_append]; omega
      by_cases hp : plainQ d = true
      · have hq : q1 d = [d] := by rw [q1, if_pos hp]
        by_cases hw : 75 < M.length + 1
        · have _hh : True := trivial
          have HS : Hid (qst L (k + 1) = (O ++ M ++ [61, 13, 10], [d])) := by unfold Hid; rw [HQ.out, qstep, if_pos (by rw [hq]; simpa using hw), hq]
          have hwi : (75 : Int) < (M.length : Int) + 1 := by omega
          clear HQ hq
          go_wp2_with fail
          refine (written_plain d _ rfl _ hp).mono ?_
          rintro e w1 ⟨rfl, hb1⟩
          have hown1 := ownsRow_below hown hb1
          have hbw1 : Below w.heap.size w w1 := hbel.trans (hb1.mono hsz)
          have hsz1 := hbw1.size
          have hs1 := hb1.size
          clear hb1 hp hown hbel
          go_wp2_with (at_builtin; refine Lib.wpList_append_own_string _ rfl (.tmp 28) (.const (.string ⟨#[61, 13, 10]⟩)) 22 9 rfl w.heap.size 5 i0 Tryz.underlying22 Tryz.underlying9 hi hz0 hz1 hz2 _ _ _ rfl (hown1.alloc _) ⟨#[61, 13, 10]⟩ rfl ?d1 ?d2 ?d3 ?_)
          case d1 => show _ + 3 ≤ maxLen; unfold maxLen; omega
          case d2 => show _ + 3 ≤ _; omega
          case d3 => simp; omega
          intro v2 w2 hown2 hg2 _
          have RB2 : Below w.heap.size w w2 := push_below hown1 hbw1 hsz1 hg2
          have hsz2 := RB2.size
          have hfar := far_three hown1 _ _ _ _ hg2
          clear hg2 hown1 hbw1
          go_wp2_with (at_builtin; refine wpList_append_own _ rfl (.tmp 30) (.tmp 32) 22 rfl w.heap.size 5 i0 (.int .u8 0) 1 1 Tryz.underlying22 hi hz0 hz1 hz2 rfl (by decide) _ _ _ rfl hown2 ⟨w1.heap.size, 0, none⟩ 1 3 [.int .u8 (d.toNat : Int)] rfl rfl ?c1 ?c2 ?c3 ?c4 ?c5 ?_)
          case c1 => intro j x hj; match j, hj with | 0, hj => simp at hj; subst hj; exact hfar 0 _ rfl
          case c2 => intro u hu; simp at hu; subst hu; rfl
          case c3 => show _ + 3 + _ ≤ maxLen; unfold maxLen; omega
          case c4 => show (_ + 3 + _) * 1 ≤ _; omega
          case c5 => exact hsz2
          intro v3 w3 hown3 hg3 _
          have RB3 : Below w.heap.size w w3 := RB2.grown hg3 hsz2 fun j hj => (hown2.lt j hj).1
          have R := qst_own hown3 HS.out (by simp; omega) (by simp [bv, Lib.strCells])
          clear hown3 hg3 hown2 hfar
          go_wp2
          go_roundw
          case rel => exact ⟨k + 1, by omega, by go_num, by rw [HS.out]; rfl, R, RB3⟩
          case measure => simp [intOf]; omega
        · have _hh : True := trivial
          have HS : Hid (qst L (k + 1) = (O, M ++ [d])) := by unfold Hid; rw [HQ.out, qstep, if_neg (by rw [hq]; simpa using hw), hq]
          have hwi : ¬ (75 : Int) < (M.length : Int) + 1 := by omega
          clear HQ hq
          go_wp2_with fail
          refine (written_plain d _ rfl _ hp).mono ?_
          rintro e w1 ⟨rfl, hb1⟩
          have hown1 := ownsRow_below hown hb1
          have hbw1 : Below w.heap.size w w1 := hbel.trans (hb1.mono hsz)
          have hsz1 := hbw1.size
          have hs1 := hb1.size
          clear hb1 hp hown hbel
          go_wp2_with (at_builtin; refine wpList_append_own _ rfl (.tmp 30) (.tmp 32) 22 rfl w.heap.size 5 i0 (.int .u8 0) 1 1 Tryz.underlying22 hi hz0 hz1 hz2 rfl (by decide) _ _ _ rfl (hown1.alloc _) ⟨w1.heap.size, 0, none⟩ 1 3 [.int .u8 (d.toNat : Int)] rfl rfl ?c1 ?c2 ?c3 ?c4 ?c5 ?_)
          case c1 => intro j x hj; match j, hj with | 0, hj => simp at hj; subst hj; simp [Addr.add_lit]
          case c2 => intro u hu; simp at hu; subst hu; rfl
          case c3 => unfold maxLen; omega
          case c4 => omega
          case c5 => simp; omega
          intro v3 w3 hown3 hg3 _
          have RB3 : Below w.heap.size w w3 := push_below hown1 hbw1 hsz1 hg3
          have R := qst_own hown3 HS.out (by simp; try omega) (by simp [bv])
          clear hown3 hg3 hown1 hbw1
          go_wp2
          go_roundw
          case rel => exact ⟨k + 1, by omega, by go_num, by rw [HS.out]; simp; try go_num, R, RB3⟩
          case measure => simp [intOf]; omega
      · rw [Bool.not_eq_true] at hp
        have hq : q1 d = [61, upHex (d.toNat / 16), upHex (d.toNat % 16)] := by rw [q1, if_neg (by simp [hp])]
        by_cases hw : 75 < M.length + 3
        · have _hh : True := trivial
          have HS : Hid (qst L (k + 1) = (O ++ M ++ [61, 13, 10], [61, upHex (d.toNat / 16), upHex (d.toNat % 16)])) := by unfold Hid; rw [HQ.out, qstep, if_pos (by rw [hq]; simpa using hw), hq]
          have hwi : (75 : Int) < (M.length : Int) + 3 := by omega
          clear HQ hq
          go_wp2_with fail
          refine (written_hex d _ rfl _ hp).mono ?_
          rintro e w1 ⟨rfl, hb1⟩
          have hown1 := ownsRow_below hown hb1
          have hbw1 : Below w.heap.size w w1 := hbel.trans (hb1.mono hsz)
          have hsz1 := hbw1.size
          have hs1 := hb1.size
          clear hb1 hp hown hbel
          go_wp2_with (at_builtin; refine Lib.wpList_append_own_string _ rfl (.tmp 28) (.const (.string ⟨#[61, 13, 10]⟩)) 22 9 rfl w.heap.size 5 i0 Tryz.underlying22 Tryz.underlying9 hi hz0 hz1 hz2 _ _ _ rfl (hown1.alloc _) ⟨#[61, 13, 10]⟩ rfl ?d1 ?d2 ?d3 ?_)
          case d1 => show _ + 3 ≤ maxLen; unfold maxLen; omega
          case d2 => show _ + 3 ≤ _; omega
          case d3 => simp; omega
          intro v2 w2 hown2 hg2 _
          have RB2 : Below w.heap.size w w2 := push_below hown1 hbw1 hsz1 hg2
          have hsz2 := RB2.size
          have hfar := far_three hown1 _ _ _ _ hg2
          clear hg2 hown1 hbw1
          go_wp2_with (at_builtin; refine wpList_append_own _ rfl (.tmp 30) (.tmp 32) 22 rfl w.heap.size 5 i0 (.int .u8 0) 1 1 Tryz.underlying22 hi hz0 hz1 hz2 rfl (by decide) _ _ _ rfl hown2 ⟨w1.heap.size, 0, none⟩ 3 3 [.int .u8 61, .int .u8 ((upHex (d.toNat / 16)).toNat : Int), .int .u8 ((upHex (d.toNat % 16)).toNat : Int)] rfl rfl ?c1 ?c2 ?c3 ?c4 ?c5 ?_)
          case c1 => exact hfar
          case c2 => intro u hu; simp at hu; rcases hu with rfl | rfl | rfl <;> rfl
          case c3 => show _ + 3 + _ ≤ maxLen; unfold maxLen; omega
          case c4 => show (_ + 3 + _) * 1 ≤ _; omega
          case c5 => exact hsz2
          intro v3 w3 hown3 hg3 _
          have RB3 : Below w.heap.size w w3 := RB2.grown hg3 hsz2 fun j hj => (hown2.lt j hj).1
          have R := qst_own hown3 HS.out (by simp; omega) (by simp [bv, Lib.strCells])
          clear hown3 hg3 hown2 hfar
          go_wp2
          go_roundw
          case rel => exact ⟨k + 1, by omega, by go_num, by rw [HS.out]; rfl, R, RB3⟩
          case measure => simp [intOf]; omega
        · have _hh : True := trivial
          have HS : Hid (qst L (k + 1) = (O, M ++ [61, upHex (d.toNat / 16), upHex (d.toNat % 16)])) := by unfold Hid; rw [HQ.out, qstep, if_neg (by rw [hq]; simpa using hw), hq]
          have hwi : ¬ (75 : Int) < (M.length : Int) + 3 := by omega
          clear HQ hq
          go_wp2_with fail
          refine (written_hex d _ rfl _ hp).mono ?_
          rintro e w1 ⟨rfl, hb1⟩
          have hown1 := ownsRow_below hown hb1
          have hbw1 : Below w.heap.size w w1 := hbel.trans (hb1.mono hsz)
          have hsz1 := hbw1.size
          have hs1 := hb1.size
          clear hb1 hp hown hbel
          go_wp2_with (at_builtin; refine wpList_append_own _ rfl (.tmp 30) (.tmp 32) 22 rfl w.heap.size 5 i0 (.int .u8 0) 1 1 Tryz.underlying22 hi hz0 hz1 hz2 rfl (by decide) _ _ _ rfl (hown1.alloc _) ⟨w1.heap.size, 0, none⟩ 3 3 [.int .u8 61, .int .u8 ((upHex (d.toNat / 16)).toNat : Int), .int .u8 ((upHex (d.toNat % 16)).toNat : Int)] rfl rfl ?c1 ?c2 ?c3 ?c4 ?c5 ?_)
          case c1 => exact cell_three _ _ _ _ _
          case c2 => intro u hu; simp at hu; rcases hu with rfl | rfl | rfl <;> rfl
          case c3 => unfold maxLen; omega
          case c4 => omega
          case c5 => simp; omega
          intro v3 w3 hown3 hg3 _
          have RB3 : Below w.heap.size w w3 := push_below hown1 hbw1 hsz1 hg3
          have R := qst_own hown3 HS.out (by simp; try omega) (by simp [bv])
          clear hown3 hg3 hown1 hbw1
          go_wp2
          go_roundw
          case rel => exact ⟨k + 1, by omega, by go_num, by rw [HS.out]; simp; try go_num, R, RB3⟩
          case measure => simp [intOf]; omega
    · obtain rfl : k = n := by omega
      have hge : 1 ≤ ((qst L k).1 ++ (qst L k).2).length := by rw [HL.out]; exact enc_pos L h0
      have hfin : Hid (encQ L = (qst L k).1 ++ (qst L k).2) := by unfold Hid encQ; rw [← HL.out]
      clear HQ
      generalize (qst L k).1 ++ (qst L k).2 = T at *
      rcases hown.2 with ⟨_, h00⟩ | ⟨g, cap, cur, rfl, hg, hh, hnc, hcp, hcs, htake⟩
      · omega
      · have hcells : ∀ j (hj : j < T.length), wr.cell? ((⟨g, 0, none⟩ : Addr).add j) = some (.int .u8 (T[j].toNat : Int)) := fun j hj => by
          rw [Addr.add_lit, Nat.zero_add, hown.cellAt j (by omega)]
          simp [bv, hj]
        have hcv := run_convert_bytes_back (P := Tryz.prog) wr 22 9 5 ⟨g, 0, none⟩ cap T Tryz.underlying22 Tryz.underlying5 Tryz.underlying9 hcells
        clear hown hcells htake hh hc hlt
        go_wp2
        go_ret2
        exact ⟨by rw [hfin.out]; rfl, hbel⟩

/-- quote.Write of few enough bytes. -/
theorem qwrite_any (p : Option Addr) (n c : Nat) (L : List UInt8) (en : n = L.length) (w : World) (hn : L.length ≤ 4000) (hr : BRow w p L) :
    Calls Tryz.prog 112 #[.slice p n c] w fun e w' => e = .returned (.tuple #[.string ⟨(encQ L).toArray⟩, .int .i64 0]) ∧ Below w.heap.size w w' := by
  subst en
  by_cases h0 : L = []
  · subst h0
    refine (qwrite_nil p c w).mono ?_
    rintro e w' ⟨rfl, rfl⟩
    exact ⟨rfl, Below.refl _ _⟩
  · obtain ⟨b, o, rfl, hc⟩ := hr h0
    exact qwrite_some b o c L w h0 hn hc
end Go.Proofs.YtpgnkhaanoalhaaGreatDoor

/- mime.encoded of a part that lies there: its body, written as it says; nothing that was there is changed. Condition: its body has at most 4000 bytes. -/
namespace Go.Proofs.YtpgnkhaanoalhaaGreatDoor
open Go.RowKit

set_option maxHeartbeats 2000000 in
set_option maxRecDepth 100000 in
/-- mime.encoded. -/
theorem enc_any (b o F : Nat) (p : PT) (w : World) (hP : PAt w F b o p) (h4 : p.body.length ≤ 4000) :
    Calls Tryz.prog 65 #[.pointer (some ⟨b, o, none⟩)] w fun e w' => e = .returned (.string ⟨(encP p).toArray⟩) ∧ Below w.heap.size w w' := by
  obtain ⟨pb, cb, pk, ck, ⟨-, -, -, -, h5, h6, -⟩, hH⟩ := hP
  have hr := hH.2.2.1
  have hc := hH.2.1
  have CW : Hid (Calls Tryz.prog 111 #[.slice pb p.body.length cb] w fun e w' => e = .returned (.tuple #[.string ⟨(encode p.body).toArray⟩, .int .i64 0]) ∧ Below w.heap.size w w') := write_any pb _ cb p.body rfl w h4 hc.1 hr
  have CQ : Hid (Calls Tryz.prog 112 #[.slice pb p.body.length cb] w fun e w' => e = .returned (.tuple #[.string ⟨(encQ p.body).toArray⟩, .int .i64 0]) ∧ Below w.heap.size w w') := qwrite_any pb _ cb p.body rfl w h4 hr
  have hcv := conv_bytes w pb _ cb p.body rfl hr (fun h => by have h3 := hc.2.2 h; have h1 := hc.1; exact ⟨by omega, h3⟩)
  have HE1 : Hid (p.how = 1 → encP p = encode p.body) := fun h => by unfold encP; rw [if_pos h]
  have HE2 : Hid (p.how = 2 → encP p = encQ p.body) := fun h => by unfold encP; rw [if_neg (by rw [h]; decide), if_pos h]
  have HE3 : Hid (¬ p.how = 1 → ¬ p.how = 2 → encP p = p.body) := fun h1 h2 => by unfold encP; rw [if_neg h1, if_neg h2]
  generalize encP p = EP at *
  clear hH hr hc
  generalize p.body.length = nb at *
  by_cases q1 : p.how = 1
  · have HE := HE1.out q1
    rw [HE]
    rw [q1] at h5
    clear HE1 HE2 HE3 CQ q1 HE hcv
    go_enter Tryz.func65, Tryz.ntmps65
    go_wp2_with fail
    refine CW.out.mono ?_
    rintro e w1 ⟨rfl, hb1⟩
    clear CW
    go_wp2_with fail
    go_ret
    exact ⟨rfl, hb1⟩
  · by_cases q2 : p.how = 2
    · have HE := HE2.out q2
      rw [HE]
      rw [q2] at h5
      clear HE1 HE2 HE3 CW q1 q2 HE hcv
      go_enter Tryz.func65, Tryz.ntmps65
      go_wp2_with fail
      refine CQ.out.mono ?_
      rintro e w1 ⟨rfl, hb1⟩
      clear CQ
      go_wp2_with fail
      go_ret
      exact ⟨rfl, hb1⟩
    · have HE := HE3.out q1 q2
      rw [HE]
      have b1 : (p.how == 1) = false := by rw [beq_eq_false_iff_ne]; exact q1
      have b2 : (p.how == 2) = false := by rw [beq_eq_false_iff_ne]; exact q2
      generalize p.how = hw at *
      clear HE1 HE2 HE3 CW CQ HE
      go_enter Tryz.func65, Tryz.ntmps65
      go_wp2_with fail
      go_ret
      exact ⟨rfl, Below.refl _ _⟩
end Go.Proofs.YtpgnkhaanoalhaaGreatDoor
