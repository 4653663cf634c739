/- The law URLLeads answers true at all addresses; nothing that was there is changed. Conditions: the texts are no longer than a text can be; internal/bytealg.MaxLen holds a number. -/
import Derived.Test.YtjngeofnoogkfabDoorXurlleads18
namespace Go.Proofs.YtjngeofnoogkfabDoor
open Go.RowKit

theorem isdot_any (s : ByteArray) (w : World) (h : isDot s.data.toList = false) :
    Calls Tryd.prog 22 #[.string s] w fun e w' => e = .returned (.bool false) ∧ w' = w := by
  unfold isDot at h
  rw [Bool.or_eq_false_iff] at h
  have h1 : (s.toList == [46]) = false := by rw [ByteArray.toList_eq]; exact h.1
  have h2 : (s.toList == [46, 46]) = false := by rw [ByteArray.toList_eq]; exact h.2
  clear h
  go_enter Tryd.func22, Tryd.ntmps22
  go_wp2
  go_ret
  exact ⟨rfl, rfl⟩

set_option maxHeartbeats 1000000 in
theorem dotidx_none (b n c : Nat) (xs : List ByteArray) (hn : n = xs.length) (hmax : n ≤ 1000000) (w : World)
    (hc : ∀ i, i < n → w.cell? ⟨b, i, none⟩ = some (.string (xs.getD i ByteArray.empty))) (hall : ∀ x ∈ xs, isDot x.data.toList = false) :
    Calls Tryd.prog 50 #[.slice (some ⟨b, 0, none⟩) n c, .func (Fn.func 22) #[] #[]] w fun e w' => e = .returned (.int .i64 (-1)) ∧ w' = w := by
  have hsz : ∀ i, i < n → isDot (xs.getD i ByteArray.empty).data.toList = false := by
    intro i hi
    have e : xs.getD i ByteArray.empty = xs[i] := by simp [List.getD_eq_getElem?_getD, List.getElem?_eq_getElem (show i < xs.length by omega)]
    rw [e]
    exact hall _ (List.getElem_mem (by omega))
  clear hall hn
  go_enter Tryd.func50, Tryd.ntmps50
  go_wp2
  go_loop [8] (fun iv => ∃ k : Nat, k ≤ n ∧ iv = .int .i64 k) (fun iv => n - (intOf iv).toNat)
  case atStart => exact ⟨0, Nat.zero_le _, rfl⟩
  case round =>
    obtain ⟨k, hk, rfl⟩ := hrel
    by_cases hlt : k < n
    · have h1 := hc k hlt
      have h2 : Hid (isDot (xs.getD k ByteArray.empty).data.toList = false) := hsz k hlt
      clear hc hsz
      generalize xs.getD k ByteArray.empty = x at *
      go_wp2_with fail
      refine (isdot_any x w h2.out).mono ?_
      rintro e w' ⟨rfl, hw'⟩
      have hw'' := hw'.symm
      subst hw''
      go_wp2
      go_round
      case rel => exact ⟨k + 1, by omega, by go_num⟩
      case measure => simp [intOf]; omega
    · obtain rfl : k = n := by omega
      clear hc hsz
      go_wp2
      go_ret
      exact ⟨rfl, rfl⟩
theorem dotin_none (b n c : Nat) (xs : List ByteArray) (hn : n = xs.length) (hmax : n ≤ 1000000) (w : World)
    (hc : ∀ i, i < n → w.cell? ⟨b, i, none⟩ = some (.string (xs.getD i ByteArray.empty))) (hall : ∀ x ∈ xs, isDot x.data.toList = false) :
    Calls Tryd.prog 20 #[.slice (some ⟨b, 0, none⟩) n c, .func (Fn.func 22) #[] #[]] w fun e w' => e = .returned (.bool false) ∧ w' = w := by
  have C : Hid (Calls Tryd.prog 50 #[.slice (some ⟨b, 0, none⟩) n c, .func (Fn.func 22) #[] #[]] w fun e w' => e = .returned (.int .i64 (-1)) ∧ w' = w) := dotidx_none b n c xs hn hmax w hc hall
  clear hc hall hn
  go_enter Tryd.func20, Tryd.ntmps20
  go_wp2_with fail
  refine C.out.mono ?_
  rintro e w' ⟨rfl, hw'⟩
  have hw'' := hw'.symm
  subst hw''
  go_wp2
  go_ret
  exact ⟨rfl, rfl⟩

set_option maxHeartbeats 4000000 in
set_option maxRecDepth 100000 in
theorem leads_A (bs bh bp bq bf us uh up uq uf cs ch cp cq cf xs xh xp xq xf : ByteArray) (bhh bhq bhf uhh uhq uhf chh chq chf xhh xhq xhf : Bool) (ne : Nat) (hne : ne ≠ 0) (w : World)
    (CL : Hid (∀ W, Below w.heap.size w W → Calls Tryd.prog 9 #[.agg #[.string bs, .bool bhh, .string bh, .string bp, .bool bhq, .string bq, .bool bhf, .string bf], .agg #[.string us, .bool uhh, .string uh, .string up, .bool uhq, .string uq, .bool uhf, .string uf]] W fun e w' => e = .returned (.tuple #[.agg #[.string xs, .bool xhh, .string xh, .string xp, .bool xhq, .string xq, .bool xhf, .string xf], .int .i64 (ne : Int)]) ∧ Below W.heap.size W w'))
    (CA : Hid (∀ W, Below w.heap.size w W → Calls Tryd.prog 13 #[] W fun e w' => e = .returned (.bool true) ∧ Below W.heap.size W w')) :
    Calls Tryd.prog 5 #[.agg #[.string bs, .bool bhh, .string bh, .string bp, .bool bhq, .string bq, .bool bhf, .string bf], .agg #[.string us, .bool uhh, .string uh, .string up, .bool uhq, .string uq, .bool uhf, .string uf], .agg #[.string cs, .bool chh, .string ch, .string cp, .bool chq, .string cq, .bool chf, .string cf]] w fun e w' => e = .returned (.bool true) ∧ Below w.heap.size w w' := by
  have hn0 : ((ne : Int) == 0) = false := by rw [beq_eq_false_iff_ne]; omega
  go_enter Tryd.func5, Tryd.ntmps5
  go_wp2_with fail
  have P0 := tri_new w 23 #[.string bs, .bool bhh, .string bh, .string bp, .bool bhq, .string bq, .bool bhf, .string bf] #[.string us, .bool uhh, .string uh, .string up, .bool uhq, .string uq, .bool uhf, .string uf] #[.string cs, .bool chh, .string ch, .string cp, .bool chq, .string cq, .bool chf, .string cf]
  refine (CL.out _ P0.1).mono ?_
  rintro e w1 ⟨rfl, hb1⟩
  have P1 := P0.below hb1
  clear CL P0 hb1
  have hl := P1.lt
  have l1 : w.heap.size < w1.heap.size := by omega
  have l2 : w.heap.size + 1 < w1.heap.size := by omega
  have n1 : ¬ w.heap.size = w1.heap.size := by omega
  have n2 : ¬ w.heap.size + 1 = w1.heap.size := by omega
  have n3 : ¬ w.heap.size + 1 + 1 = w1.heap.size := by omega
  go_wp2_with fail
  refine (CA.out _ (P1.alloc _).1).mono ?_
  rintro e w2 ⟨rfl, hb2⟩
  have P2 := (P1.alloc (.cells #[.string xs, .bool xhh, .string xh, .string xp, .bool xhq, .string xq, .bool xhf, .string xf] 23)).below hb2
  have HX2 := kept8 hb2
  clear hb2 P1 hl
  clear l1 l2 n1 n2 n3
  go_wp2_with fail
  refine (CA.out _ P2.1).mono ?_
  rintro e w5 ⟨rfl, hb5⟩
  have P5 := P2.below hb5
  go_wp2
  go_ret
  exact ⟨rfl, P5.1⟩

set_option maxHeartbeats 4000000 in
set_option maxRecDepth 100000 in
theorem leads_Fn (bs bh bp bq bf us uh up uq uf cs ch cp cq cf xs xh xp xq ys yh yp yq yf : ByteArray) (bhh bhq bhf uhh uhq uhf chh chq chf xhh xhq yhh yhq yhf : Bool) (hxe : xs.data.toList ≠ []) (n2 nc : Nat) (hnc : nc ≠ 0) (w : World)
    (CL : Hid (∀ W, Below w.heap.size w W → Calls Tryd.prog 9 #[.agg #[.string bs, .bool bhh, .string bh, .string bp, .bool bhq, .string bq, .bool bhf, .string bf], .agg #[.string us, .bool uhh, .string uh, .string up, .bool uhq, .string uq, .bool uhf, .string uf]] W fun e w' => e = .returned (.tuple #[.agg #[.string xs, .bool xhh, .string xh, .string xp, .bool xhq, .string xq, .bool uhf, .string uf], .int .i64 0]) ∧ Below W.heap.size W w'))
    (CA : Hid (∀ W, Below w.heap.size w W → Calls Tryd.prog 13 #[] W fun e w' => e = .returned (.bool true) ∧ Below W.heap.size W w'))
    (CX : Hid (∀ W, Calls Tryd.prog 14 #[.agg #[.string xs, .bool xhh, .string xh, .string xp, .bool xhq, .string xq, .bool uhf, .string uf]] W fun e w' => e = .returned (.int .i64 0) ∧ Below W.heap.size W w'))
    (CP : Hid (∀ W, Calls Tryd.prog 19 #[.string xp, .string ⟨#[47]⟩] W fun e w' => e = .returned (.bool false) ∧ w' = W))
    (CM : Hid (∀ W, Below w.heap.size w W → Calls Tryd.prog 9 #[.agg #[.string cs, .bool chh, .string ch, .string cp, .bool chq, .string cq, .bool chf, .string cf], .agg #[.string xs, .bool xhh, .string xh, .string xp, .bool xhq, .string xq, .bool uhf, .string uf]] W fun e w' => e = .returned (.tuple #[.agg #[.string ys, .bool yhh, .string yh, .string yp, .bool yhq, .string yq, .bool yhf, .string yf], .int .i64 (n2 : Int)]) ∧ Below W.heap.size W w'))
    (CC : Hid (∀ W, Calls Tryd.prog 14 #[.agg #[.string cs, .bool chh, .string ch, .string cp, .bool chq, .string cq, .bool chf, .string cf]] W fun e w' => e = .returned (.int .i64 (nc : Int)) ∧ Below W.heap.size W w'))
    (CH : Hid (∀ W, Below w.heap.size w W → Calls Tryd.prog 9 #[.agg #[.string xs, .bool xhh, .string xh, .string xp, .bool xhq, .string xq, .bool uhf, .string uf], .agg #[.string ⟨#[]⟩, .bool false, .string ⟨#[]⟩, .string ⟨#[]⟩, .bool false, .string ⟨#[]⟩, .bool false, .string ⟨#[]⟩]] W fun e w' => e = .returned (.tuple #[.agg #[.string xs, .bool xhh, .string xh, .string xp, .bool xhq, .string xq, .bool false, .string ⟨#[]⟩], .int .i64 0]) ∧ Below W.heap.size W w')) :
    Calls Tryd.prog 5 #[.agg #[.string bs, .bool bhh, .string bh, .string bp, .bool bhq, .string bq, .bool bhf, .string bf], .agg #[.string us, .bool uhh, .string uh, .string up, .bool uhq, .string uq, .bool uhf, .string uf], .agg #[.string cs, .bool chh, .string ch, .string cp, .bool chq, .string cq, .bool chf, .string cf]] w fun e w' => e = .returned (.bool true) ∧ Below w.heap.size w w' := by
  have hxE := bempty_no xs hxe
  clear hxe
  have hn0 : ((nc : Int) == 0) = false := by rw [beq_eq_false_iff_ne]; omega
  go_enter Tryd.func5, Tryd.ntmps5
  go_wp2_with fail
  have P0 := tri_new w 23 #[.string bs, .bool bhh, .string bh, .string bp, .bool bhq, .string bq, .bool bhf, .string bf] #[.string us, .bool uhh, .string uh, .string up, .bool uhq, .string uq, .bool uhf, .string uf] #[.string cs, .bool chh, .string ch, .string cp, .bool chq, .string cq, .bool chf, .string cf]
  refine (CL.out _ P0.1).mono ?_
  rintro e w1 ⟨rfl, hb1⟩
  have P1 := P0.below hb1
  clear CL P0 hb1
  have hl := P1.lt
  have kw1 : w.heap.size ≤ w1.heap.size := by omega
  have l1 : w.heap.size < w1.heap.size := by omega
  have l2 : w.heap.size + 1 < w1.heap.size := by omega
  have n1 : ¬ w.heap.size = w1.heap.size := by omega
  have n2 : ¬ w.heap.size + 1 = w1.heap.size := by omega
  have n3 : ¬ w.heap.size + 1 + 1 = w1.heap.size := by omega
  go_wp2_with fail
  refine (CA.out _ (P1.alloc _).1).mono ?_
  rintro e w2 ⟨rfl, hb2⟩
  have P2 := (P1.alloc (.cells #[.string xs, .bool xhh, .string xh, .string xp, .bool xhq, .string xq, .bool uhf, .string uf] 23)).below hb2
  have HX2 := kept8 hb2
  clear hb2 P1 hl
  clear l1 l2 n1 n2 n3
  clear CA
  obtain ⟨c0, c1, c2, c3, c4, c5, c6, c7, c8⟩ := P2.cells
  obtain ⟨x0, x1, x2, x3, x4, x5, x6, x7, x8⟩ := cells_8 HX2
  go_wp2_with fail
  refine (CX.out _).mono ?_
  rintro e w3 ⟨rfl, hb3⟩
  have P3 := P2.below hb3
  have HX3 := kept_on HX2 hb3
  clear CX hb3 P2 HX2
  clear c0 c1 c2 c3 c4 c5 c6 c7 c8 x0 x1 x2 x3 x4 x5 x6 x7 x8
  obtain ⟨c0, c1, c2, c3, c4, c5, c6, c7, c8⟩ := P3.cells
  obtain ⟨r0, r1, r2, r3, r4, r5, r6, r7, r8⟩ := P3.res
  obtain ⟨x0, x1, x2, x3, x4, x5, x6, x7, x8⟩ := cells_8 HX3
  go_wp2_with fail
  refine (CP.out _).mono ?_
  rintro e w' ⟨rfl, hw'⟩
  have hw'' := hw'.symm
  subst hw''
  clear CP
  have P4 := P3
  have HX4 := HX3
  clear P3 HX3
  go_wp2_with fail
  refine (CM.out _ P4.1).mono ?_
  rintro e w5 ⟨rfl, hb5⟩
  have P5 := P4.below hb5
  have HX5 := kept_on HX4 hb5
  clear CM hb5 P4 HX4
  clear c0 c1 c2 c3 c4 c5 c6 c7 c8 r0 r1 r2 r3 r4 r5 r6 r7 r8 x0 x1 x2 x3 x4 x5 x6 x7 x8
  obtain ⟨r0, r1, r2, r3, r4, r5, r6, r7, r8⟩ := P5.res
  obtain ⟨x0, x1, x2, x3, x4, x5, x6, x7, x8⟩ := cells_8 HX5
  have hl := P5.lt
  have kx := kept_lt HX5
  have kn := kept_ltn HX5
  have l1 : w.heap.size < w5.heap.size := by omega
  have l2 : w.heap.size + 1 < w5.heap.size := by omega
  have n1 : ¬ w.heap.size = w5.heap.size := by omega
  have n2 : ¬ w.heap.size + 1 = w5.heap.size := by omega
  have n3 : ¬ w.heap.size + 1 + 1 = w5.heap.size := by omega
  go_wp2_with fail
  refine (CC.out _).mono ?_
  rintro e w6 ⟨rfl, hb6⟩
  have P6 := (P5.alloc (.cells #[.string ys, .bool yhh, .string yh, .string yp, .bool yhq, .string yq, .bool yhf, .string yf] 23)).below hb6
  have HX6 := kept_on (kept_alloc HX5) hb6
  have HY6 := kept8 hb6
  clear CC hb6 P5 HX5 hl kx kn
  clear l1 l2 n1 n2 n3
  clear r0 r1 r2 r3 r4 r5 r6 r7 r8 x0 x1 x2 x3 x4 x5 x6 x7 x8
  obtain ⟨r0, r1, r2, r3, r4, r5, r6, r7, r8⟩ := P6.res
  obtain ⟨x0, x1, x2, x3, x4, x5, x6, x7, x8⟩ := cells_8 HX6
  obtain ⟨y0, y1, y2, y3, y4, y5, y6, y7, y8⟩ := cells_8 HY6
  go_wp2_with fail
  refine (CH.out _ P6.1).mono ?_
  rintro e w7 ⟨rfl, hb7⟩
  have P7 := P6.below hb7
  have HX7 := kept_on HX6 hb7
  clear CH hb7 P6 HX6 HY6
  clear r0 r1 r2 r3 r4 r5 r6 r7 r8 x0 x1 x2 x3 x4 x5 x6 x7 x8 y0 y1 y2 y3 y4 y5 y6 y7 y8
  obtain ⟨x0, x1, x2, x3, x4, x5, x6, x7, x8⟩ := cells_8 HX7
  have hl := P7.lt
  have kx := kept_lt HX7
  have kn := kept_ltn HX7
  have l1 : w.heap.size < w7.heap.size := by omega
  have l2 : w.heap.size + 1 < w7.heap.size := by omega
  have n1 : ¬ w.heap.size = w7.heap.size := by omega
  have n2 : ¬ w.heap.size + 1 = w7.heap.size := by omega
  have n3 : ¬ w.heap.size + 1 + 1 = w7.heap.size := by omega
  have h8 : Below w.heap.size w ((w7.setCell ⟨w1.heap.size, 6, none⟩ (.bool false)).setCell ⟨w1.heap.size, 7, none⟩ (.string ⟨#[]⟩)) := (P7.1.setCell (p := ⟨w1.heap.size, 6, none⟩) kw1 _).setCell (p := ⟨w1.heap.size, 7, none⟩) kw1 _
  go_wp2
  go_ret
  exact ⟨by simp, h8.alloc h8.size _⟩

set_option maxHeartbeats 4000000 in
set_option maxRecDepth 100000 in
theorem leads_Fe (bs bh bp bq bf us uh up uq uf ch cp cq cf xs xh xp xq ys yh yp yq yf : ByteArray) (bhh bhq bhf uhh uhq uhf chh chq chf xhh xhq yhh yhq yhf : Bool) (hxe : xs.data.toList ≠ []) (n2 nc : Nat) (w : World)
    (CL : Hid (∀ W, Below w.heap.size w W → Calls Tryd.prog 9 #[.agg #[.string bs, .bool bhh, .string bh, .string bp, .bool bhq, .string bq, .bool bhf, .string bf], .agg #[.string us, .bool uhh, .string uh, .string up, .bool uhq, .string uq, .bool uhf, .string uf]] W fun e w' => e = .returned (.tuple #[.agg #[.string xs, .bool xhh, .string xh, .string xp, .bool xhq, .string xq, .bool uhf, .string uf], .int .i64 0]) ∧ Below W.heap.size W w'))
    (CA : Hid (∀ W, Below w.heap.size w W → Calls Tryd.prog 13 #[] W fun e w' => e = .returned (.bool true) ∧ Below W.heap.size W w'))
    (CX : Hid (∀ W, Calls Tryd.prog 14 #[.agg #[.string xs, .bool xhh, .string xh, .string xp, .bool xhq, .string xq, .bool uhf, .string uf]] W fun e w' => e = .returned (.int .i64 0) ∧ Below W.heap.size W w'))
    (CP : Hid (∀ W, Calls Tryd.prog 19 #[.string xp, .string ⟨#[47]⟩] W fun e w' => e = .returned (.bool false) ∧ w' = W))
    (CM : Hid (∀ W, Below w.heap.size w W → Calls Tryd.prog 9 #[.agg #[.string ⟨#[]⟩, .bool chh, .string ch, .string cp, .bool chq, .string cq, .bool chf, .string cf], .agg #[.string xs, .bool xhh, .string xh, .string xp, .bool xhq, .string xq, .bool uhf, .string uf]] W fun e w' => e = .returned (.tuple #[.agg #[.string ys, .bool yhh, .string yh, .string yp, .bool yhq, .string yq, .bool yhf, .string yf], .int .i64 (n2 : Int)]) ∧ Below W.heap.size W w'))
    (CC : Hid (∀ W, Calls Tryd.prog 14 #[.agg #[.string ⟨#[]⟩, .bool chh, .string ch, .string cp, .bool chq, .string cq, .bool chf, .string cf]] W fun e w' => e = .returned (.int .i64 (nc : Int)) ∧ Below W.heap.size W w'))
    (CH : Hid (∀ W, Below w.heap.size w W → Calls Tryd.prog 9 #[.agg #[.string xs, .bool xhh, .string xh, .string xp, .bool xhq, .string xq, .bool uhf, .string uf], .agg #[.string ⟨#[]⟩, .bool false, .string ⟨#[]⟩, .string ⟨#[]⟩, .bool false, .string ⟨#[]⟩, .bool false, .string ⟨#[]⟩]] W fun e w' => e = .returned (.tuple #[.agg #[.string xs, .bool xhh, .string xh, .string xp, .bool xhq, .string xq, .bool false, .string ⟨#[]⟩], .int .i64 0]) ∧ Below W.heap.size W w')) :
    Calls Tryd.prog 5 #[.agg #[.string bs, .bool bhh, .string bh, .string bp, .bool bhq, .string bq, .bool bhf, .string bf], .agg #[.string us, .bool uhh, .string uh, .string up, .bool uhq, .string uq, .bool uhf, .string uf], .agg #[.string ⟨#[]⟩, .bool chh, .string ch, .string cp, .bool chq, .string cq, .bool chf, .string cf]] w fun e w' => e = .returned (.bool true) ∧ Below w.heap.size w w' := by
  have hxE := bempty_no xs hxe
  clear hxe
  go_enter Tryd.func5, Tryd.ntmps5
  go_wp2_with fail
  have P0 := tri_new w 23 #[.string bs, .bool bhh, .string bh, .string bp, .bool bhq, .string bq, .bool bhf, .string bf] #[.string us, .bool uhh, .string uh, .string up, .bool uhq, .string uq, .bool uhf, .string uf] #[.string ⟨#[]⟩, .bool chh, .string ch, .string cp, .bool chq, .string cq, .bool chf, .string cf]
  refine (CL.out _ P0.1).mono ?_
  rintro e w1 ⟨rfl, hb1⟩
  have P1 := P0.below hb1
  clear CL P0 hb1
  have hl := P1.lt
  have kw1 : w.heap.size ≤ w1.heap.size := by omega
  have l1 : w.heap.size < w1.heap.size := by omega
  have l2 : w.heap.size + 1 < w1.heap.size := by omega
  have n1 : ¬ w.heap.size = w1.heap.size := by omega
  have n2 : ¬ w.heap.size + 1 = w1.heap.size := by omega
  have n3 : ¬ w.heap.size + 1 + 1 = w1.heap.size := by omega
  go_wp2_with fail
  refine (CA.out _ (P1.alloc _).1).mono ?_
  rintro e w2 ⟨rfl, hb2⟩
  have P2 := (P1.alloc (.cells #[.string xs, .bool xhh, .string xh, .string xp, .bool xhq, .string xq, .bool uhf, .string uf] 23)).below hb2
  have HX2 := kept8 hb2
  clear hb2 P1 hl
  clear l1 l2 n1 n2 n3
  clear CA
  obtain ⟨c0, c1, c2, c3, c4, c5, c6, c7, c8⟩ := P2.cells
  obtain ⟨x0, x1, x2, x3, x4, x5, x6, x7, x8⟩ := cells_8 HX2
  go_wp2_with fail
  refine (CX.out _).mono ?_
  rintro e w3 ⟨rfl, hb3⟩
  have P3 := P2.below hb3
  have HX3 := kept_on HX2 hb3
  clear CX hb3 P2 HX2
  clear c0 c1 c2 c3 c4 c5 c6 c7 c8 x0 x1 x2 x3 x4 x5 x6 x7 x8
  obtain ⟨c0, c1, c2, c3, c4, c5, c6, c7, c8⟩ := P3.cells
  obtain ⟨r0, r1, r2, r3, r4, r5, r6, r7, r8⟩ := P3.res
  obtain ⟨x0, x1, x2, x3, x4, x5, x6, x7, x8⟩ := cells_8 HX3
  go_wp2_with fail
  refine (CP.out _).mono ?_
  rintro e w' ⟨rfl, hw'⟩
  have hw'' := hw'.symm
  subst hw''
  clear CP
  have P4 := P3
  have HX4 := HX3
  clear P3 HX3
  go_wp2_with fail
  refine (CM.out _ P4.1).mono ?_
  rintro e w5 ⟨rfl, hb5⟩
  have P5 := P4.below hb5
  have HX5 := kept_on HX4 hb5
  clear CM hb5 P4 HX4
  clear c0 c1 c2 c3 c4 c5 c6 c7 c8 r0 r1 r2 r3 r4 r5 r6 r7 r8 x0 x1 x2 x3 x4 x5 x6 x7 x8
  obtain ⟨r0, r1, r2, r3, r4, r5, r6, r7, r8⟩ := P5.res
  obtain ⟨x0, x1, x2, x3, x4, x5, x6, x7, x8⟩ := cells_8 HX5
  have hl := P5.lt
  have kx := kept_lt HX5
  have kn := kept_ltn HX5
  have l1 : w.heap.size < w5.heap.size := by omega
  have l2 : w.heap.size + 1 < w5.heap.size := by omega
  have n1 : ¬ w.heap.size = w5.heap.size := by omega
  have n2 : ¬ w.heap.size + 1 = w5.heap.size := by omega
  have n3 : ¬ w.heap.size + 1 + 1 = w5.heap.size := by omega
  go_wp2_with fail
  refine (CC.out _).mono ?_
  rintro e w6 ⟨rfl, hb6⟩
  have P6 := (P5.alloc (.cells #[.string ys, .bool yhh, .string yh, .string yp, .bool yhq, .string yq, .bool yhf, .string yf] 23)).below hb6
  have HX6 := kept_on (kept_alloc HX5) hb6
  have HY6 := kept8 hb6
  clear CC hb6 P5 HX5 hl kx kn
  clear l1 l2 n1 n2 n3
  clear r0 r1 r2 r3 r4 r5 r6 r7 r8 x0 x1 x2 x3 x4 x5 x6 x7 x8
  obtain ⟨r0, r1, r2, r3, r4, r5, r6, r7, r8⟩ := P6.res
  obtain ⟨x0, x1, x2, x3, x4, x5, x6, x7, x8⟩ := cells_8 HX6
  obtain ⟨y0, y1, y2, y3, y4, y5, y6, y7, y8⟩ := cells_8 HY6
  by_cases hnz : nc = 0
  · subst hnz
    go_wp2_with fail
    refine (CH.out _ P6.1).mono ?_
    rintro e w7 ⟨rfl, hb7⟩
    have P7 := P6.below hb7
    have HX7 := kept_on HX6 hb7
    clear CH hb7 P6 HX6 HY6
    clear r0 r1 r2 r3 r4 r5 r6 r7 r8 x0 x1 x2 x3 x4 x5 x6 x7 x8 y0 y1 y2 y3 y4 y5 y6 y7 y8
    obtain ⟨x0, x1, x2, x3, x4, x5, x6, x7, x8⟩ := cells_8 HX7
    have hl := P7.lt
    have kx := kept_lt HX7
    have kn := kept_ltn HX7
    have l1 : w.heap.size < w7.heap.size := by omega
    have l2 : w.heap.size + 1 < w7.heap.size := by omega
    have n1 : ¬ w.heap.size = w7.heap.size := by omega
    have n2 : ¬ w.heap.size + 1 = w7.heap.size := by omega
    have n3 : ¬ w.heap.size + 1 + 1 = w7.heap.size := by omega
    have h8 : Below w.heap.size w ((w7.setCell ⟨w1.heap.size, 6, none⟩ (.bool false)).setCell ⟨w1.heap.size, 7, none⟩ (.string ⟨#[]⟩)) := (P7.1.setCell (p := ⟨w1.heap.size, 6, none⟩) kw1 _).setCell (p := ⟨w1.heap.size, 7, none⟩) kw1 _
    go_wp2
    go_ret
    exact ⟨by simp, h8.alloc h8.size _⟩
  · have hn0 : ((nc : Int) == 0) = false := by rw [beq_eq_false_iff_ne]; omega
    go_wp2_with fail
    refine (CH.out _ P6.1).mono ?_
    rintro e w7 ⟨rfl, hb7⟩
    have P7 := P6.below hb7
    have HX7 := kept_on HX6 hb7
    clear CH hb7 P6 HX6 HY6
    clear r0 r1 r2 r3 r4 r5 r6 r7 r8 x0 x1 x2 x3 x4 x5 x6 x7 x8 y0 y1 y2 y3 y4 y5 y6 y7 y8
    obtain ⟨x0, x1, x2, x3, x4, x5, x6, x7, x8⟩ := cells_8 HX7
    have hl := P7.lt
    have kx := kept_lt HX7
    have kn := kept_ltn HX7
    have l1 : w.heap.size < w7.heap.size := by omega
    have l2 : w.heap.size + 1 < w7.heap.size := by omega
    have n1 : ¬ w.heap.size = w7.heap.size := by omega
    have n2 : ¬ w.heap.size + 1 = w7.heap.size := by omega
    have n3 : ¬ w.heap.size + 1 + 1 = w7.heap.size := by omega
    have h8 : Below w.heap.size w ((w7.setCell ⟨w1.heap.size, 6, none⟩ (.bool false)).setCell ⟨w1.heap.size, 7, none⟩ (.string ⟨#[]⟩)) := (P7.1.setCell (p := ⟨w1.heap.size, 6, none⟩) kw1 _).setCell (p := ⟨w1.heap.size, 7, none⟩) kw1 _
    go_wp2
    go_ret
    exact ⟨by simp, h8.alloc h8.size _⟩

set_option maxHeartbeats 4000000 in
set_option maxRecDepth 100000 in
theorem leads_Fs (bs bh bp bq bf us uh up uq uf cs ch cp cq cf xs xh xp xq : ByteArray) (bhh bhq bhf uhh uhq uhf chh chq chf xhh xhq : Bool) (hxe : xs.data.toList ≠ []) (hce : cs.data.toList ≠ []) (w : World)
    (CL : Hid (∀ W, Below w.heap.size w W → Calls Tryd.prog 9 #[.agg #[.string bs, .bool bhh, .string bh, .string bp, .bool bhq, .string bq, .bool bhf, .string bf], .agg #[.string us, .bool uhh, .string uh, .string up, .bool uhq, .string uq, .bool uhf, .string uf]] W fun e w' => e = .returned (.tuple #[.agg #[.string xs, .bool xhh, .string xh, .string xp, .bool xhq, .string xq, .bool uhf, .string uf], .int .i64 0]) ∧ Below W.heap.size W w'))
    (CA : Hid (∀ W, Below w.heap.size w W → Calls Tryd.prog 13 #[] W fun e w' => e = .returned (.bool true) ∧ Below W.heap.size W w'))
    (CX : Hid (∀ W, Calls Tryd.prog 14 #[.agg #[.string xs, .bool xhh, .string xh, .string xp, .bool xhq, .string xq, .bool uhf, .string uf]] W fun e w' => e = .returned (.int .i64 0) ∧ Below W.heap.size W w'))
    (CP : Hid (∀ W, Calls Tryd.prog 19 #[.string xp, .string ⟨#[47]⟩] W fun e w' => e = .returned (.bool false) ∧ w' = W))
    (CM : Hid (∀ W, Below w.heap.size w W → Calls Tryd.prog 9 #[.agg #[.string cs, .bool chh, .string ch, .string cp, .bool chq, .string cq, .bool chf, .string cf], .agg #[.string xs, .bool xhh, .string xh, .string xp, .bool xhq, .string xq, .bool uhf, .string uf]] W fun e w' => e = .returned (.tuple #[.agg #[.string xs, .bool xhh, .string xh, .string xp, .bool xhq, .string xq, .bool uhf, .string uf], .int .i64 0]) ∧ Below W.heap.size W w'))
    (CC : Hid (∀ W, Calls Tryd.prog 14 #[.agg #[.string cs, .bool chh, .string ch, .string cp, .bool chq, .string cq, .bool chf, .string cf]] W fun e w' => e = .returned (.int .i64 0) ∧ Below W.heap.size W w'))
    (CH : Hid (∀ W, Below w.heap.size w W → Calls Tryd.prog 9 #[.agg #[.string xs, .bool xhh, .string xh, .string xp, .bool xhq, .string xq, .bool uhf, .string uf], .agg #[.string ⟨#[]⟩, .bool false, .string ⟨#[]⟩, .string ⟨#[]⟩, .bool false, .string ⟨#[]⟩, .bool false, .string ⟨#[]⟩]] W fun e w' => e = .returned (.tuple #[.agg #[.string xs, .bool xhh, .string xh, .string xp, .bool xhq, .string xq, .bool false, .string ⟨#[]⟩], .int .i64 0]) ∧ Below W.heap.size W w')) :
    Calls Tryd.prog 5 #[.agg #[.string bs, .bool bhh, .string bh, .string bp, .bool bhq, .string bq, .bool bhf, .string bf], .agg #[.string us, .bool uhh, .string uh, .string up, .bool uhq, .string uq, .bool uhf, .string uf], .agg #[.string cs, .bool chh, .string ch, .string cp, .bool chq, .string cq, .bool chf, .string cf]] w fun e w' => e = .returned (.bool true) ∧ Below w.heap.size w w' := by
  have hxE := bempty_no xs hxe
  clear hxe
  have hcE := bempty_no cs hce
  clear hce
  go_enter Tryd.func5, Tryd.ntmps5
  go_wp2_with fail
  have P0 := tri_new w 23 #[.string bs, .bool bhh, .string bh, .string bp, .bool bhq, .string bq, .bool bhf, .string bf] #[.string us, .bool uhh, .string uh, .string up, .bool uhq, .string uq, .bool uhf, .string uf] #[.string cs, .bool chh, .string ch, .string cp, .bool chq, .string cq, .bool chf, .string cf]
  refine (CL.out _ P0.1).mono ?_
  rintro e w1 ⟨rfl, hb1⟩
  have P1 := P0.below hb1
  clear CL P0 hb1
  have hl := P1.lt
  have kw1 : w.heap.size ≤ w1.heap.size := by omega
  have l1 : w.heap.size < w1.heap.size := by omega
  have l2 : w.heap.size + 1 < w1.heap.size := by omega
  have n1 : ¬ w.heap.size = w1.heap.size := by omega
  have n2 : ¬ w.heap.size + 1 = w1.heap.size := by omega
  have n3 : ¬ w.heap.size + 1 + 1 = w1.heap.size := by omega
  go_wp2_with fail
  refine (CA.out _ (P1.alloc _).1).mono ?_
  rintro e w2 ⟨rfl, hb2⟩
  have P2 := (P1.alloc (.cells #[.string xs, .bool xhh, .string xh, .string xp, .bool xhq, .string xq, .bool uhf, .string uf] 23)).below hb2
  have HX2 := kept8 hb2
  clear hb2 P1 hl
  clear l1 l2 n1 n2 n3
  clear CA
  obtain ⟨c0, c1, c2, c3, c4, c5, c6, c7, c8⟩ := P2.cells
  obtain ⟨x0, x1, x2, x3, x4, x5, x6, x7, x8⟩ := cells_8 HX2
  go_wp2_with fail
  refine (CX.out _).mono ?_
  rintro e w3 ⟨rfl, hb3⟩
  have P3 := P2.below hb3
  have HX3 := kept_on HX2 hb3
  clear CX hb3 P2 HX2
  clear c0 c1 c2 c3 c4 c5 c6 c7 c8 x0 x1 x2 x3 x4 x5 x6 x7 x8
  obtain ⟨c0, c1, c2, c3, c4, c5, c6, c7, c8⟩ := P3.cells
  obtain ⟨r0, r1, r2, r3, r4, r5, r6, r7, r8⟩ := P3.res
  obtain ⟨x0, x1, x2, x3, x4, x5, x6, x7, x8⟩ := cells_8 HX3
  go_wp2_with fail
  refine (CP.out _).mono ?_
  rintro e w' ⟨rfl, hw'⟩
  have hw'' := hw'.symm
  subst hw''
  clear CP
  have P4 := P3
  have HX4 := HX3
  clear P3 HX3
  go_wp2_with fail
  refine (CM.out _ P4.1).mono ?_
  rintro e w5 ⟨rfl, hb5⟩
  have P5 := P4.below hb5
  have HX5 := kept_on HX4 hb5
  clear CM hb5 P4 HX4
  clear c0 c1 c2 c3 c4 c5 c6 c7 c8 r0 r1 r2 r3 r4 r5 r6 r7 r8 x0 x1 x2 x3 x4 x5 x6 x7 x8
  obtain ⟨r0, r1, r2, r3, r4, r5, r6, r7, r8⟩ := P5.res
  obtain ⟨x0, x1, x2, x3, x4, x5, x6, x7, x8⟩ := cells_8 HX5
  have hl := P5.lt
  have kx := kept_lt HX5
  have kn := kept_ltn HX5
  have l1 : w.heap.size < w5.heap.size := by omega
  have l2 : w.heap.size + 1 < w5.heap.size := by omega
  have n1 : ¬ w.heap.size = w5.heap.size := by omega
  have n2 : ¬ w.heap.size + 1 = w5.heap.size := by omega
  have n3 : ¬ w.heap.size + 1 + 1 = w5.heap.size := by omega
  go_wp2_with fail
  refine (CC.out _).mono ?_
  rintro e w6 ⟨rfl, hb6⟩
  have P6 := (P5.alloc (.cells #[.string xs, .bool xhh, .string xh, .string xp, .bool xhq, .string xq, .bool uhf, .string uf] 23)).below hb6
  have HX6 := kept_on (kept_alloc HX5) hb6
  have HY6 := kept8 hb6
  clear CC hb6 P5 HX5 hl kx kn
  clear l1 l2 n1 n2 n3
  clear r0 r1 r2 r3 r4 r5 r6 r7 r8 x0 x1 x2 x3 x4 x5 x6 x7 x8
  obtain ⟨r0, r1, r2, r3, r4, r5, r6, r7, r8⟩ := P6.res
  obtain ⟨x0, x1, x2, x3, x4, x5, x6, x7, x8⟩ := cells_8 HX6
  obtain ⟨y0, y1, y2, y3, y4, y5, y6, y7, y8⟩ := cells_8 HY6
  go_wp2_with fail
  refine (CH.out _ P6.1).mono ?_
  rintro e w7 ⟨rfl, hb7⟩
  have P7 := P6.below hb7
  have HX7 := kept_on HX6 hb7
  clear CH hb7 P6 HX6 HY6
  clear r0 r1 r2 r3 r4 r5 r6 r7 r8 x0 x1 x2 x3 x4 x5 x6 x7 x8 y0 y1 y2 y3 y4 y5 y6 y7 y8
  obtain ⟨x0, x1, x2, x3, x4, x5, x6, x7, x8⟩ := cells_8 HX7
  have hl := P7.lt
  have kx := kept_lt HX7
  have kn := kept_ltn HX7
  have l1 : w.heap.size < w7.heap.size := by omega
  have l2 : w.heap.size + 1 < w7.heap.size := by omega
  have n1 : ¬ w.heap.size = w7.heap.size := by omega
  have n2 : ¬ w.heap.size + 1 = w7.heap.size := by omega
  have n3 : ¬ w.heap.size + 1 + 1 = w7.heap.size := by omega
  have h8 : Below w.heap.size w ((w7.setCell ⟨w1.heap.size, 6, none⟩ (.bool false)).setCell ⟨w1.heap.size, 7, none⟩ (.string ⟨#[]⟩)) := (P7.1.setCell (p := ⟨w1.heap.size, 6, none⟩) kw1 _).setCell (p := ⟨w1.heap.size, 7, none⟩) kw1 _
  go_wp2
  go_ret
  exact ⟨by simp, h8.alloc h8.size _⟩

set_option maxHeartbeats 4000000 in
set_option maxRecDepth 100000 in
theorem leads_Tn (bs bh bp bq bf us uh up uq uf cs ch cp cq cf xs xh xp xq ys yh yp yq yf : ByteArray) (bhh bhq bhf uhh uhq uhf chh chq chf xhh xhq yhh yhq yhf : Bool) (hxe : xs.data.toList ≠ []) (n2 nc : Nat) (hnc : nc ≠ 0) (hxp : xp.size ≤ 120) (hdots : ∀ z ∈ partsP xp.data.toList, isDot z = false) (w : World) (hM : MaxAt w)
    (CL : Hid (∀ W, Below w.heap.size w W → Calls Tryd.prog 9 #[.agg #[.string bs, .bool bhh, .string bh, .string bp, .bool bhq, .string bq, .bool bhf, .string bf], .agg #[.string us, .bool uhh, .string uh, .string up, .bool uhq, .string uq, .bool uhf, .string uf]] W fun e w' => e = .returned (.tuple #[.agg #[.string xs, .bool xhh, .string xh, .string xp, .bool xhq, .string xq, .bool uhf, .string uf], .int .i64 0]) ∧ Below W.heap.size W w'))
    (CA : Hid (∀ W, Below w.heap.size w W → Calls Tryd.prog 13 #[] W fun e w' => e = .returned (.bool true) ∧ Below W.heap.size W w'))
    (CX : Hid (∀ W, Calls Tryd.prog 14 #[.agg #[.string xs, .bool xhh, .string xh, .string xp, .bool xhq, .string xq, .bool uhf, .string uf]] W fun e w' => e = .returned (.int .i64 0) ∧ Below W.heap.size W w'))
    (CP : Hid (∀ W, Calls Tryd.prog 19 #[.string xp, .string ⟨#[47]⟩] W fun e w' => e = .returned (.bool true) ∧ w' = W))
    (CM : Hid (∀ W, Below w.heap.size w W → Calls Tryd.prog 9 #[.agg #[.string cs, .bool chh, .string ch, .string cp, .bool chq, .string cq, .bool chf, .string cf], .agg #[.string xs, .bool xhh, .string xh, .string xp, .bool xhq, .string xq, .bool uhf, .string uf]] W fun e w' => e = .returned (.tuple #[.agg #[.string ys, .bool yhh, .string yh, .string yp, .bool yhq, .string yq, .bool yhf, .string yf], .int .i64 (n2 : Int)]) ∧ Below W.heap.size W w'))
    (CC : Hid (∀ W, Calls Tryd.prog 14 #[.agg #[.string cs, .bool chh, .string ch, .string cp, .bool chq, .string cq, .bool chf, .string cf]] W fun e w' => e = .returned (.int .i64 (nc : Int)) ∧ Below W.heap.size W w'))
    (CH : Hid (∀ W, Below w.heap.size w W → Calls Tryd.prog 9 #[.agg #[.string xs, .bool xhh, .string xh, .string xp, .bool xhq, .string xq, .bool uhf, .string uf], .agg #[.string ⟨#[]⟩, .bool false, .string ⟨#[]⟩, .string ⟨#[]⟩, .bool false, .string ⟨#[]⟩, .bool false, .string ⟨#[]⟩]] W fun e w' => e = .returned (.tuple #[.agg #[.string xs, .bool xhh, .string xh, .string xp, .bool xhq, .string xq, .bool false, .string ⟨#[]⟩], .int .i64 0]) ∧ Below W.heap.size W w')) :
    Calls Tryd.prog 5 #[.agg #[.string bs, .bool bhh, .string bh, .string bp, .bool bhq, .string bq, .bool bhf, .string bf], .agg #[.string us, .bool uhh, .string uh, .string up, .bool uhq, .string uq, .bool uhf, .string uf], .agg #[.string cs, .bool chh, .string ch, .string cp, .bool chq, .string cq, .bool chf, .string cf]] w fun e w' => e = .returned (.bool true) ∧ Below w.heap.size w w' := by
  have hxE := bempty_no xs hxe
  clear hxe
  have hn0 : ((nc : Int) == 0) = false := by rw [beq_eq_false_iff_ne]; omega
  go_enter Tryd.func5, Tryd.ntmps5
  go_wp2_with fail
  have P0 := tri_new w 23 #[.string bs, .bool bhh, .string bh, .string bp, .bool bhq, .string bq, .bool bhf, .string bf] #[.string us, .bool uhh, .string uh, .string up, .bool uhq, .string uq, .bool uhf, .string uf] #[.string cs, .bool chh, .string ch, .string cp, .bool chq, .string cq, .bool chf, .string cf]
  refine (CL.out _ P0.1).mono ?_
  rintro e w1 ⟨rfl, hb1⟩
  have P1 := P0.below hb1
  clear CL P0 hb1
  have hl := P1.lt
  have kw1 : w.heap.size ≤ w1.heap.size := by omega
  have l1 : w.heap.size < w1.heap.size := by omega
  have l2 : w.heap.size + 1 < w1.heap.size := by omega
  have n1 : ¬ w.heap.size = w1.heap.size := by omega
  have n2 : ¬ w.heap.size + 1 = w1.heap.size := by omega
  have n3 : ¬ w.heap.size + 1 + 1 = w1.heap.size := by omega
  go_wp2_with fail
  refine (CA.out _ (P1.alloc _).1).mono ?_
  rintro e w2 ⟨rfl, hb2⟩
  have P2 := (P1.alloc (.cells #[.string xs, .bool xhh, .string xh, .string xp, .bool xhq, .string xq, .bool uhf, .string uf] 23)).below hb2
  have HX2 := kept8 hb2
  clear hb2 P1 hl
  clear l1 l2 n1 n2 n3
  clear CA
  obtain ⟨c0, c1, c2, c3, c4, c5, c6, c7, c8⟩ := P2.cells
  obtain ⟨x0, x1, x2, x3, x4, x5, x6, x7, x8⟩ := cells_8 HX2
  go_wp2_with fail
  refine (CX.out _).mono ?_
  rintro e w3 ⟨rfl, hb3⟩
  have P3 := P2.below hb3
  have HX3 := kept_on HX2 hb3
  clear CX hb3 P2 HX2
  clear c0 c1 c2 c3 c4 c5 c6 c7 c8 x0 x1 x2 x3 x4 x5 x6 x7 x8
  obtain ⟨c0, c1, c2, c3, c4, c5, c6, c7, c8⟩ := P3.cells
  obtain ⟨r0, r1, r2, r3, r4, r5, r6, r7, r8⟩ := P3.res
  obtain ⟨x0, x1, x2, x3, x4, x5, x6, x7, x8⟩ := cells_8 HX3
  go_wp2_with fail
  refine (CP.out _).mono ?_
  rintro e w' ⟨rfl, hw'⟩
  have hw'' := hw'.symm
  subst hw''
  clear CP
  obtain ⟨zs, hzp, hzl, hzx, CS⟩ := split47_any xp w3 (hM.below P3.1) (by omega)
  have HS : Hid (Calls Tryd.prog 21 #[.string xp, .string ⟨#[47]⟩] w3 fun e w' => e = .returned (.slice (some ⟨w3.heap.size, 0, none⟩) zs.length zs.length) ∧ w' = w3.alloc (.cells (zs.map Value.string).toArray 9)) := CS
  have CN := dotin_none w3.heap.size zs.length zs.length zs rfl (by omega) (w3.alloc (.cells (zs.map Value.string).toArray 9)) (fun i hi => by
    rw [World.cell?_alloc_at _ _ _ _ rfl]
    simp [List.getD_eq_getElem?_getD, hi]) (fun x hx => hdots _ (by rw [← hzp]; exact List.mem_map_of_mem hx))
  have HN : Hid (Calls Tryd.prog 20 #[.slice (some ⟨w3.heap.size, 0, none⟩) zs.length zs.length, .func (Fn.func 22) #[] #[]] (w3.alloc (.cells (zs.map Value.string).toArray 9)) fun e w' => e = .returned (.bool false) ∧ w' = w3.alloc (.cells (zs.map Value.string).toArray 9)) := CN
  have P4 := P3.alloc (.cells (zs.map Value.string).toArray 9)
  have HX4 := kept_alloc (o' := .cells (zs.map Value.string).toArray 9) HX3
  clear CS CN hzp hzx hdots hxp
  generalize w3.alloc (.cells (zs.map Value.string).toArray 9) = w4 at *
  generalize zs.length = zn at *
  go_wp2_with fail
  refine HS.out.mono ?_
  rintro e w' ⟨rfl, hw'⟩
  have hw'' := hw'.symm
  subst hw''
  clear HS
  go_wp2_with fail
  refine HN.out.mono ?_
  rintro e w' ⟨rfl, hw'⟩
  have hw'' := hw'.symm
  subst hw''
  clear HN P3 HX3
  clear c0 c1 c2 c3 c4 c5 c6 c7 c8 r0 r1 r2 r3 r4 r5 r6 r7 r8 x0 x1 x2 x3 x4 x5 x6 x7 x8
  obtain ⟨r0, r1, r2, r3, r4, r5, r6, r7, r8⟩ := P4.res
  obtain ⟨x0, x1, x2, x3, x4, x5, x6, x7, x8⟩ := cells_8 HX4
  go_wp2_with fail
  refine (CM.out _ P4.1).mono ?_
  rintro e w5 ⟨rfl, hb5⟩
  have P5 := P4.below hb5
  have HX5 := kept_on HX4 hb5
  clear CM hb5 P4 HX4
  clear r0 r1 r2 r3 r4 r5 r6 r7 r8 x0 x1 x2 x3 x4 x5 x6 x7 x8
  obtain ⟨r0, r1, r2, r3, r4, r5, r6, r7, r8⟩ := P5.res
  obtain ⟨x0, x1, x2, x3, x4, x5, x6, x7, x8⟩ := cells_8 HX5
  have hl := P5.lt
  have kx := kept_lt HX5
  have kn := kept_ltn HX5
  have l1 : w.heap.size < w5.heap.size := by omega
  have l2 : w.heap.size + 1 < w5.heap.size := by omega
  have n1 : ¬ w.heap.size = w5.heap.size := by omega
  have n2 : ¬ w.heap.size + 1 = w5.heap.size := by omega
  have n3 : ¬ w.heap.size + 1 + 1 = w5.heap.size := by omega
  go_wp2_with fail
  refine (CC.out _).mono ?_
  rintro e w6 ⟨rfl, hb6⟩
  have P6 := (P5.alloc (.cells #[.string ys, .bool yhh, .string yh, .string yp, .bool yhq, .string yq, .bool yhf, .string yf] 23)).below hb6
  have HX6 := kept_on (kept_alloc HX5) hb6
  have HY6 := kept8 hb6
  clear CC hb6 P5 HX5 hl kx kn
  clear l1 l2 n1 n2 n3
  clear r0 r1 r2 r3 r4 r5 r6 r7 r8 x0 x1 x2 x3 x4 x5 x6 x7 x8
  obtain ⟨r0, r1, r2, r3, r4, r5, r6, r7, r8⟩ := P6.res
  obtain ⟨x0, x1, x2, x3, x4, x5, x6, x7, x8⟩ := cells_8 HX6
  obtain ⟨y0, y1, y2, y3, y4, y5, y6, y7, y8⟩ := cells_8 HY6
  go_wp2_with fail
  refine (CH.out _ P6.1).mono ?_
  rintro e w7 ⟨rfl, hb7⟩
  have P7 := P6.below hb7
  have HX7 := kept_on HX6 hb7
  clear CH hb7 P6 HX6 HY6
  clear r0 r1 r2 r3 r4 r5 r6 r7 r8 x0 x1 x2 x3 x4 x5 x6 x7 x8 y0 y1 y2 y3 y4 y5 y6 y7 y8
  obtain ⟨x0, x1, x2, x3, x4, x5, x6, x7, x8⟩ := cells_8 HX7
  have hl := P7.lt
  have kx := kept_lt HX7
  have kn := kept_ltn HX7
  have l1 : w.heap.size < w7.heap.size := by omega
  have l2 : w.heap.size + 1 < w7.heap.size := by omega
  have n1 : ¬ w.heap.size = w7.heap.size := by omega
  have n2 : ¬ w.heap.size + 1 = w7.heap.size := by omega
  have n3 : ¬ w.heap.size + 1 + 1 = w7.heap.size := by omega
  have h8 : Below w.heap.size w ((w7.setCell ⟨w1.heap.size, 6, none⟩ (.bool false)).setCell ⟨w1.heap.size, 7, none⟩ (.string ⟨#[]⟩)) := (P7.1.setCell (p := ⟨w1.heap.size, 6, none⟩) kw1 _).setCell (p := ⟨w1.heap.size, 7, none⟩) kw1 _
  go_wp2
  go_ret
  exact ⟨by simp, h8.alloc h8.size _⟩

set_option maxHeartbeats 4000000 in
set_option maxRecDepth 100000 in
theorem leads_Te (bs bh bp bq bf us uh up uq uf ch cp cq cf xs xh xp xq ys yh yp yq yf : ByteArray) (bhh bhq bhf uhh uhq uhf chh chq chf xhh xhq yhh yhq yhf : Bool) (hxe : xs.data.toList ≠ []) (n2 nc : Nat) (hxp : xp.size ≤ 120) (hdots : ∀ z ∈ partsP xp.data.toList, isDot z = false) (w : World) (hM : MaxAt w)
    (CL : Hid (∀ W, Below w.heap.size w W → Calls Tryd.prog 9 #[.agg #[.string bs, .bool bhh, .string bh, .string bp, .bool bhq, .string bq, .bool bhf, .string bf], .agg #[.string us, .bool uhh, .string uh, .string up, .bool uhq, .string uq, .bool uhf, .string uf]] W fun e w' => e = .returned (.tuple #[.agg #[.string xs, .bool xhh, .string xh, .string xp, .bool xhq, .string xq, .bool uhf, .string uf], .int .i64 0]) ∧ Below W.heap.size W w'))
    (CA : Hid (∀ W, Below w.heap.size w W → Calls Tryd.prog 13 #[] W fun e w' => e = .returned (.bool true) ∧ Below W.heap.size W w'))
    (CX : Hid (∀ W, Calls Tryd.prog 14 #[.agg #[.string xs, .bool xhh, .string xh, .string xp, .bool xhq, .string xq, .bool uhf, .string uf]] W fun e w' => e = .returned (.int .i64 0) ∧ Below W.heap.size W w'))
    (CP : Hid (∀ W, Calls Tryd.prog 19 #[.string xp, .string ⟨#[47]⟩] W fun e w' => e = .returned (.bool true) ∧ w' = W))
    (CM : Hid (∀ W, Below w.heap.size w W → Calls Tryd.prog 9 #[.agg #[.string ⟨#[]⟩, .bool chh, .string ch, .string cp, .bool chq, .string cq, .bool chf, .string cf], .agg #[.string xs, .bool xhh, .string xh, .string xp, .bool xhq, .string xq, .bool uhf, .string uf]] W fun e w' => e = .returned (.tuple #[.agg #[.string ys, .bool yhh, .string yh, .string yp, .bool yhq, .string yq, .bool yhf, .string yf], .int .i64 (n2 : Int)]) ∧ Below W.heap.size W w'))
    (CC : Hid (∀ W, Calls Tryd.prog 14 #[.agg #[.string ⟨#[]⟩, .bool chh, .string ch, .string cp, .bool chq, .string cq, .bool chf, .string cf]] W fun e w' => e = .returned (.int .i64 (nc : Int)) ∧ Below W.heap.size W w'))
    (CH : Hid (∀ W, Below w.heap.size w W → Calls Tryd.prog 9 #[.agg #[.string xs, .bool xhh, .string xh, .string xp, .bool xhq, .string xq, .bool uhf, .string uf], .agg #[.string ⟨#[]⟩, .bool false, .string ⟨#[]⟩, .string ⟨#[]⟩, .bool false, .string ⟨#[]⟩, .bool false, .string ⟨#[]⟩]] W fun e w' => e = .returned (.tuple #[.agg #[.string xs, .bool xhh, .string xh, .string xp, .bool xhq, .string xq, .bool false, .string ⟨#[]⟩], .int .i64 0]) ∧ Below W.heap.size W w')) :
    Calls Tryd.prog 5 #[.agg #[.string bs, .bool bhh, .string bh, .string bp, .bool bhq, .string bq, .bool bhf, .string bf], .agg #[.string us, .bool uhh, .string uh, .string up, .bool uhq, .string uq, .bool uhf, .string uf], .agg #[.string ⟨#[]⟩, .bool chh, .string ch, .string cp, .bool chq, .string cq, .bool chf, .string cf]] w fun e w' => e = .returned (.bool true) ∧ Below w.heap.size w w' := by
  have hxE := bempty_no xs hxe
  clear hxe
  go_enter Tryd.func5, Tryd.ntmps5
  go_wp2_with fail
  have P0 := tri_new w 23 #[.string bs, .bool bhh, .string bh, .string bp, .bool bhq, .string bq, .bool bhf, .string bf] #[.string us, .bool uhh, .string uh, .string up, .bool uhq, .string uq, .bool uhf, .string uf] #[.string ⟨#[]⟩, .bool chh, .string ch, .string cp, .bool chq, .string cq, .bool chf, .string cf]
  refine (CL.out _ P0.1).mono ?_
  rintro e w1 ⟨rfl, hb1⟩
  have P1 := P0.below hb1
  clear CL P0 hb1
  have hl := P1.lt
  have kw1 : w.heap.size ≤ w1.heap.size := by omega
  have l1 : w.heap.size < w1.heap.size := by omega
  have l2 : w.heap.size + 1 < w1.heap.size := by omega
  have n1 : ¬ w.heap.size = w1.heap.size := by omega
  have n2 : ¬ w.heap.size + 1 = w1.heap.size := by omega
  have n3 : ¬ w.heap.size + 1 + 1 = w1.heap.size := by omega
  go_wp2_with fail
  refine (CA.out _ (P1.alloc _).1).mono ?_
  rintro e w2 ⟨rfl, hb2⟩
  have P2 := (P1.alloc (.cells #[.string xs, .bool xhh, .string xh, .string xp, .bool xhq, .string xq, .bool uhf, .string uf] 23)).below hb2
  have HX2 := kept8 hb2
  clear hb2 P1 hl
  clear l1 l2 n1 n2 n3
  clear CA
  obtain ⟨c0, c1, c2, c3, c4, c5, c6, c7, c8⟩ := P2.cells
  obtain ⟨x0, x1, x2, x3, x4, x5, x6, x7, x8⟩ := cells_8 HX2
  go_wp2_with fail
  refine (CX.out _).mono ?_
  rintro e w3 ⟨rfl, hb3⟩
  have P3 := P2.below hb3
  have HX3 := kept_on HX2 hb3
  clear CX hb3 P2 HX2
  clear c0 c1 c2 c3 c4 c5 c6 c7 c8 x0 x1 x2 x3 x4 x5 x6 x7 x8
  obtain ⟨c0, c1, c2, c3, c4, c5, c6, c7, c8⟩ := P3.cells
  obtain ⟨r0, r1, r2, r3, r4, r5, r6, r7, r8⟩ := P3.res
  obtain ⟨x0, x1, x2, x3, x4, x5, x6, x7, x8⟩ := cells_8 HX3
  go_wp2_with fail
  refine (CP.out _).mono ?_
  rintro e w' ⟨rfl, hw'⟩
  have hw'' := hw'.symm
  subst hw''
  clear CP
  obtain ⟨zs, hzp, hzl, hzx, CS⟩ := split47_any xp w3 (hM.below P3.1) (by omega)
  have HS : Hid (Calls Tryd.prog 21 #[.string xp, .string ⟨#[47]⟩] w3 fun e w' => e = .returned (.slice (some ⟨w3.heap.size, 0, none⟩) zs.length zs.length) ∧ w' = w3.alloc (.cells (zs.map Value.string).toArray 9)) := CS
  have CN := dotin_none w3.heap.size zs.length zs.length zs rfl (by omega) (w3.alloc (.cells (zs.map Value.string).toArray 9)) (fun i hi => by
    rw [World.cell?_alloc_at _ _ _ _ rfl]
    simp [List.getD_eq_getElem?_getD, hi]) (fun x hx => hdots _ (by rw [← hzp]; exact List.mem_map_of_mem hx))
  have HN : Hid (Calls Tryd.prog 20 #[.slice (some ⟨w3.heap.size, 0, none⟩) zs.length zs.length, .func (Fn.func 22) #[] #[]] (w3.alloc (.cells (zs.map Value.string).toArray 9)) fun e w' => e = .returned (.bool false) ∧ w' = w3.alloc (.cells (zs.map Value.string).toArray 9)) := CN
  have P4 := P3.alloc (.cells (zs.map Value.string).toArray 9)
  have HX4 := kept_alloc (o' := .cells (zs.map Value.string).toArray 9) HX3
  clear CS CN hzp hzx hdots hxp
  generalize w3.alloc (.cells (zs.map Value.string).toArray 9) = w4 at *
  generalize zs.length = zn at *
  go_wp2_with fail
  refine HS.out.mono ?_
  rintro e w' ⟨rfl, hw'⟩
  have hw'' := hw'.symm
  subst hw''
  clear HS
  go_wp2_with fail
  refine HN.out.mono ?_
  rintro e w' ⟨rfl, hw'⟩
  have hw'' := hw'.symm
  subst hw''
  clear HN P3 HX3
  clear c0 c1 c2 c3 c4 c5 c6 c7 c8 r0 r1 r2 r3 r4 r5 r6 r7 r8 x0 x1 x2 x3 x4 x5 x6 x7 x8
  obtain ⟨r0, r1, r2, r3, r4, r5, r6, r7, r8⟩ := P4.res
  obtain ⟨x0, x1, x2, x3, x4, x5, x6, x7, x8⟩ := cells_8 HX4
  go_wp2_with fail
  refine (CM.out _ P4.1).mono ?_
  rintro e w5 ⟨rfl, hb5⟩
  have P5 := P4.below hb5
  have HX5 := kept_on HX4 hb5
  clear CM hb5 P4 HX4
  clear r0 r1 r2 r3 r4 r5 r6 r7 r8 x0 x1 x2 x3 x4 x5 x6 x7 x8
  obtain ⟨r0, r1, r2, r3, r4, r5, r6, r7, r8⟩ := P5.res
  obtain ⟨x0, x1, x2, x3, x4, x5, x6, x7, x8⟩ := cells_8 HX5
  have hl := P5.lt
  have kx := kept_lt HX5
  have kn := kept_ltn HX5
  have l1 : w.heap.size < w5.heap.size := by omega
  have l2 : w.heap.size + 1 < w5.heap.size := by omega
  have n1 : ¬ w.heap.size = w5.heap.size := by omega
  have n2 : ¬ w.heap.size + 1 = w5.heap.size := by omega
  have n3 : ¬ w.heap.size + 1 + 1 = w5.heap.size := by omega
  go_wp2_with fail
  refine (CC.out _).mono ?_
  rintro e w6 ⟨rfl, hb6⟩
  have P6 := (P5.alloc (.cells #[.string ys, .bool yhh, .string yh, .string yp, .bool yhq, .string yq, .bool yhf, .string yf] 23)).below hb6
  have HX6 := kept_on (kept_alloc HX5) hb6
  have HY6 := kept8 hb6
  clear CC hb6 P5 HX5 hl kx kn
  clear l1 l2 n1 n2 n3
  clear r0 r1 r2 r3 r4 r5 r6 r7 r8 x0 x1 x2 x3 x4 x5 x6 x7 x8
  obtain ⟨r0, r1, r2, r3, r4, r5, r6, r7, r8⟩ := P6.res
  obtain ⟨x0, x1, x2, x3, x4, x5, x6, x7, x8⟩ := cells_8 HX6
  obtain ⟨y0, y1, y2, y3, y4, y5, y6, y7, y8⟩ := cells_8 HY6
  by_cases hnz : nc = 0
  · subst hnz
    go_wp2_with fail
    refine (CH.out _ P6.1).mono ?_
    rintro e w7 ⟨rfl, hb7⟩
    have P7 := P6.below hb7
    have HX7 := kept_on HX6 hb7
    clear CH hb7 P6 HX6 HY6
    clear r0 r1 r2 r3 r4 r5 r6 r7 r8 x0 x1 x2 x3 x4 x5 x6 x7 x8 y0 y1 y2 y3 y4 y5 y6 y7 y8
    obtain ⟨x0, x1, x2, x3, x4, x5, x6, x7, x8⟩ := cells_8 HX7
    have hl := P7.lt
    have kx := kept_lt HX7
    have kn := kept_ltn HX7
    have l1 : w.heap.size < w7.heap.size := by omega
    have l2 : w.heap.size + 1 < w7.heap.size := by omega
    have n1 : ¬ w.heap.size = w7.heap.size := by omega
    have n2 : ¬ w.heap.size + 1 = w7.heap.size := by omega
    have n3 : ¬ w.heap.size + 1 + 1 = w7.heap.size := by omega
    have h8 : Below w.heap.size w ((w7.setCell ⟨w1.heap.size, 6, none⟩ (.bool false)).setCell ⟨w1.heap.size, 7, none⟩ (.string ⟨#[]⟩)) := (P7.1.setCell (p := ⟨w1.heap.size, 6, none⟩) kw1 _).setCell (p := ⟨w1.heap.size, 7, none⟩) kw1 _
    go_wp2
    go_ret
    exact ⟨by simp, h8.alloc h8.size _⟩
  · have hn0 : ((nc : Int) == 0) = false := by rw [beq_eq_false_iff_ne]; omega
    go_wp2_with fail
    refine (CH.out _ P6.1).mono ?_
    rintro e w7 ⟨rfl, hb7⟩
    have P7 := P6.below hb7
    have HX7 := kept_on HX6 hb7
    clear CH hb7 P6 HX6 HY6
    clear r0 r1 r2 r3 r4 r5 r6 r7 r8 x0 x1 x2 x3 x4 x5 x6 x7 x8 y0 y1 y2 y3 y4 y5 y6 y7 y8
    obtain ⟨x0, x1, x2, x3, x4, x5, x6, x7, x8⟩ := cells_8 HX7
    have hl := P7.lt
    have kx := kept_lt HX7
    have kn := kept_ltn HX7
    have l1 : w.heap.size < w7.heap.size := by omega
    have l2 : w.heap.size + 1 < w7.heap.size := by omega
    have n1 : ¬ w.heap.size = w7.heap.size := by omega
    have n2 : ¬ w.heap.size + 1 = w7.heap.size := by omega
    have n3 : ¬ w.heap.size + 1 + 1 = w7.heap.size := by omega
    have h8 : Below w.heap.size w ((w7.setCell ⟨w1.heap.size, 6, none⟩ (.bool false)).setCell ⟨w1.heap.size, 7, none⟩ (.string ⟨#[]⟩)) := (P7.1.setCell (p := ⟨w1.heap.size, 6, none⟩) kw1 _).setCell (p := ⟨w1.heap.size, 7, none⟩) kw1 _
    go_wp2
    go_ret
    exact ⟨by simp, h8.alloc h8.size _⟩

set_option maxHeartbeats 4000000 in
set_option maxRecDepth 100000 in
theorem leads_Ts (bs bh bp bq bf us uh up uq uf cs ch cp cq cf xs xh xp xq : ByteArray) (bhh bhq bhf uhh uhq uhf chh chq chf xhh xhq : Bool) (hxe : xs.data.toList ≠ []) (hce : cs.data.toList ≠ []) (hxp : xp.size ≤ 120) (hdots : ∀ z ∈ partsP xp.data.toList, isDot z = false) (w : World) (hM : MaxAt w)
    (CL : Hid (∀ W, Below w.heap.size w W → Calls Tryd.prog 9 #[.agg #[.string bs, .bool bhh, .string bh, .string bp, .bool bhq, .string bq, .bool bhf, .string bf], .agg #[.string us, .bool uhh, .string uh, .string up, .bool uhq, .string uq, .bool uhf, .string uf]] W fun e w' => e = .returned (.tuple #[.agg #[.string xs, .bool xhh, .string xh, .string xp, .bool xhq, .string xq, .bool uhf, .string uf], .int .i64 0]) ∧ Below W.heap.size W w'))
    (CA : Hid (∀ W, Below w.heap.size w W → Calls Tryd.prog 13 #[] W fun e w' => e = .returned (.bool true) ∧ Below W.heap.size W w'))
    (CX : Hid (∀ W, Calls Tryd.prog 14 #[.agg #[.string xs, .bool xhh, .string xh, .string xp, .bool xhq, .string xq, .bool uhf, .string uf]] W fun e w' => e = .returned (.int .i64 0) ∧ Below W.heap.size W w'))
    (CP : Hid (∀ W, Calls Tryd.prog 19 #[.string xp, .string ⟨#[47]⟩] W fun e w' => e = .returned (.bool true) ∧ w' = W))
    (CM : Hid (∀ W, Below w.heap.size w W → Calls Tryd.prog 9 #[.agg #[.string cs, .bool chh, .string ch, .string cp, .bool chq, .string cq, .bool chf, .string cf], .agg #[.string xs, .bool xhh, .string xh, .string xp, .bool xhq, .string xq, .bool uhf, .string uf]] W fun e w' => e = .returned (.tuple #[.agg #[.string xs, .bool xhh, .string xh, .string xp, .bool xhq, .string xq, .bool uhf, .string uf], .int .i64 0]) ∧ Below W.heap.size W w'))
    (CC : Hid (∀ W, Calls Tryd.prog 14 #[.agg #[.string cs, .bool chh, .string ch, .string cp, .bool chq, .string cq, .bool chf, .string cf]] W fun e w' => e = .returned (.int .i64 0) ∧ Below W.heap.size W w'))
    (CH : Hid (∀ W, Below w.heap.size w W → Calls Tryd.prog 9 #[.agg #[.string xs, .bool xhh, .string xh, .string xp, .bool xhq, .string xq, .bool uhf, .string uf], .agg #[.string ⟨#[]⟩, .bool false, .string ⟨#[]⟩, .string ⟨#[]⟩, .bool false, .string ⟨#[]⟩, .bool false, .string ⟨#[]⟩]] W fun e w' => e = .returned (.tuple #[.agg #[.string xs, .bool xhh, .string xh, .string xp, .bool xhq, .string xq, .bool false, .string ⟨#[]⟩], .int .i64 0]) ∧ Below W.heap.size W w')) :
    Calls Tryd.prog 5 #[.agg #[.string bs, .bool bhh, .string bh, .string bp, .bool bhq, .string bq, .bool bhf, .string bf], .agg #[.string us, .bool uhh, .string uh, .string up, .bool uhq, .string uq, .bool uhf, .string uf], .agg #[.string cs, .bool chh, .string ch, .string cp, .bool chq, .string cq, .bool chf, .string cf]] w fun e w' => e = .returned (.bool true) ∧ Below w.heap.size w w' := by
  have hxE := bempty_no xs hxe
  clear hxe
  have hcE := bempty_no cs hce
  clear hce
  go_enter Tryd.func5, Tryd.ntmps5
  go_wp2_with fail
  have P0 := tri_new w 23 #[.string bs, .bool bhh, .string bh, .string bp, .bool bhq, .string bq, .bool bhf, .string bf] #[.string us, .bool uhh, .string uh, .string up, .bool uhq, .string uq, .bool uhf, .string uf] #[.string cs, .bool chh, .string ch, .string cp, .bool chq, .string cq, .bool chf, .string cf]
  refine (CL.out _ P0.1).mono ?_
  rintro e w1 ⟨rfl, hb1⟩
  have P1 := P0.below hb1
  clear CL P0 hb1
  have hl := P1.lt
  have kw1 : w.heap.size ≤ w1.heap.size := by omega
  have l1 : w.heap.size < w1.heap.size := by omega
  have l2 : w.heap.size + 1 < w1.heap.size := by omega
  have n1 : ¬ w.heap.size = w1.heap.size := by omega
  have n2 : ¬ w.heap.size + 1 = w1.heap.size := by omega
  have n3 : ¬ w.heap.size + 1 + 1 = w1.heap.size := by omega
  go_wp2_with fail
  refine (CA.out _ (P1.alloc _).1).mono ?_
  rintro e w2 ⟨rfl, hb2⟩
  have P2 := (P1.alloc (.cells #[.string xs, .bool xhh, .string xh, .string xp, .bool xhq, .string xq, .bool uhf, .string uf] 23)).below hb2
  have HX2 := kept8 hb2
  clear hb2 P1 hl
  clear l1 l2 n1 n2 n3
  clear CA
  obtain ⟨c0, c1, c2, c3, c4, c5, c6, c7, c8⟩ := P2.cells
  obtain ⟨x0, x1, x2, x3, x4, x5, x6, x7, x8⟩ := cells_8 HX2
  go_wp2_with fail
  refine (CX.out _).mono ?_
  rintro e w3 ⟨rfl, hb3⟩
  have P3 := P2.below hb3
  have HX3 := kept_on HX2 hb3
  clear CX hb3 P2 HX2
  clear c0 c1 c2 c3 c4 c5 c6 c7 c8 x0 x1 x2 x3 x4 x5 x6 x7 x8
  obtain ⟨c0, c1, c2, c3, c4, c5, c6, c7, c8⟩ := P3.cells
  obtain ⟨r0, r1, r2, r3, r4, r5, r6, r7, r8⟩ := P3.res
  obtain ⟨x0, x1, x2, x3, x4, x5, x6, x7, x8⟩ := cells_8 HX3
  go_wp2_with fail
  refine (CP.out _).mono ?_
  rintro e w' ⟨rfl, hw'⟩
  have hw'' := hw'.symm
  subst hw''
  clear CP
  obtain ⟨zs, hzp, hzl, hzx, CS⟩ := split47_any xp w3 (hM.below P3.1) (by omega)
  have HS : Hid (Calls Tryd.prog 21 #[.string xp, .string ⟨#[47]⟩] w3 fun e w' => e = .returned (.slice (some ⟨w3.heap.size, 0, none⟩) zs.length zs.length) ∧ w' = w3.alloc (.cells (zs.map Value.string).toArray 9)) := CS
  have CN := dotin_none w3.heap.size zs.length zs.length zs rfl (by omega) (w3.alloc (.cells (zs.map Value.string).toArray 9)) (fun i hi => by
    rw [World.cell?_alloc_at _ _ _ _ rfl]
    simp [List.getD_eq_getElem?_getD, hi]) (fun x hx => hdots _ (by rw [← hzp]; exact List.mem_map_of_mem hx))
  have HN : Hid (Calls Tryd.prog 20 #[.slice (some ⟨w3.heap.size, 0, none⟩) zs.length zs.length, .func (Fn.func 22) #[] #[]] (w3.alloc (.cells (zs.map Value.string).toArray 9)) fun e w' => e = .returned (.bool false) ∧ w' = w3.alloc (.cells (zs.map Value.string).toArray 9)) := CN
  have P4 := P3.alloc (.cells (zs.map Value.string).toArray 9)
  have HX4 := kept_alloc (o' := .cells (zs.map Value.string).toArray 9) HX3
  clear CS CN hzp hzx hdots hxp
  generalize w3.alloc (.cells (zs.map Value.string).toArray 9) = w4 at *
  generalize zs.length = zn at *
  go_wp2_with fail
  refine HS.out.mono ?_
  rintro e w' ⟨rfl, hw'⟩
  have hw'' := hw'.symm
  subst hw''
  clear HS
  go_wp2_with fail
  refine HN.out.mono ?_
  rintro e w' ⟨rfl, hw'⟩
  have hw'' := hw'.symm
  subst hw''
  clear HN P3 HX3
  clear c0 c1 c2 c3 c4 c5 c6 c7 c8 r0 r1 r2 r3 r4 r5 r6 r7 r8 x0 x1 x2 x3 x4 x5 x6 x7 x8
  obtain ⟨r0, r1, r2, r3, r4, r5, r6, r7, r8⟩ := P4.res
  obtain ⟨x0, x1, x2, x3, x4, x5, x6, x7, x8⟩ := cells_8 HX4
  go_wp2_with fail
  refine (CM.out _ P4.1).mono ?_
  rintro e w5 ⟨rfl, hb5⟩
  have P5 := P4.below hb5
  have HX5 := kept_on HX4 hb5
  clear CM hb5 P4 HX4
  clear r0 r1 r2 r3 r4 r5 r6 r7 r8 x0 x1 x2 x3 x4 x5 x6 x7 x8
  obtain ⟨r0, r1, r2, r3, r4, r5, r6, r7, r8⟩ := P5.res
  obtain ⟨x0, x1, x2, x3, x4, x5, x6, x7, x8⟩ := cells_8 HX5
  have hl := P5.lt
  have kx := kept_lt HX5
  have kn := kept_ltn HX5
  have l1 : w.heap.size < w5.heap.size := by omega
  have l2 : w.heap.size + 1 < w5.heap.size := by omega
  have n1 : ¬ w.heap.size = w5.heap.size := by omega
  have n2 : ¬ w.heap.size + 1 = w5.heap.size := by omega
  have n3 : ¬ w.heap.size + 1 + 1 = w5.heap.size := by omega
  go_wp2_with fail
  refine (CC.out _).mono ?_
  rintro e w6 ⟨rfl, hb6⟩
  have P6 := (P5.alloc (.cells #[.string xs, .bool xhh, .string xh, .string xp, .bool xhq, .string xq, .bool uhf, .string uf] 23)).below hb6
  have HX6 := kept_on (kept_alloc HX5) hb6
  have HY6 := kept8 hb6
  clear CC hb6 P5 HX5 hl kx kn
  clear l1 l2 n1 n2 n3
  clear r0 r1 r2 r3 r4 r5 r6 r7 r8 x0 x1 x2 x3 x4 x5 x6 x7 x8
  obtain ⟨r0, r1, r2, r3, r4, r5, r6, r7, r8⟩ := P6.res
  obtain ⟨x0, x1, x2, x3, x4, x5, x6, x7, x8⟩ := cells_8 HX6
  obtain ⟨y0, y1, y2, y3, y4, y5, y6, y7, y8⟩ := cells_8 HY6
  go_wp2_with fail
  refine (CH.out _ P6.1).mono ?_
  rintro e w7 ⟨rfl, hb7⟩
  have P7 := P6.below hb7
  have HX7 := kept_on HX6 hb7
  clear CH hb7 P6 HX6 HY6
  clear r0 r1 r2 r3 r4 r5 r6 r7 r8 x0 x1 x2 x3 x4 x5 x6 x7 x8 y0 y1 y2 y3 y4 y5 y6 y7 y8
  obtain ⟨x0, x1, x2, x3, x4, x5, x6, x7, x8⟩ := cells_8 HX7
  have hl := P7.lt
  have kx := kept_lt HX7
  have kn := kept_ltn HX7
  have l1 : w.heap.size < w7.heap.size := by omega
  have l2 : w.heap.size + 1 < w7.heap.size := by omega
  have n1 : ¬ w.heap.size = w7.heap.size := by omega
  have n2 : ¬ w.heap.size + 1 = w7.heap.size := by omega
  have n3 : ¬ w.heap.size + 1 + 1 = w7.heap.size := by omega
  have h8 : Below w.heap.size w ((w7.setCell ⟨w1.heap.size, 6, none⟩ (.bool false)).setCell ⟨w1.heap.size, 7, none⟩ (.string ⟨#[]⟩)) := (P7.1.setCell (p := ⟨w1.heap.size, 6, none⟩) kw1 _).setCell (p := ⟨w1.heap.size, 7, none⟩) kw1 _
  go_wp2
  go_ret
  exact ⟨by simp, h8.alloc h8.size _⟩

/-- The law URLLeads. -/
theorem uleads_any (b u c : UV) (hb : b.short maxLen) (hu : u.short maxLen) (hc : c.short maxLen) (w : World) (hM : MaxAt w) :
    Calls Tryd.prog 5 #[b.v, u.v, c.v] w fun e w' => e = .returned (.bool true) ∧ Below w.heap.size w w' := by
  have CL := fun W (h : Below w.heap.size w W) => ulead_any b u hb hu W (hM.below h)
  have CA := fun W (h : Below w.heap.size w W) => addr_any W (hM.below h)
  by_cases hne : (leadU b.l u.l).2 = 0
  · obtain ⟨k1, k2, k3, k4⟩ := lead_keeps hne
    have hse := @lead_self b.l u.l c.l hne
    have hhe := lead_here hne
    have hdo := lead_dots hne
    have ho := (lead_out hne).2.2.2.2.2
    generalize leadU b.l u.l = XX at *
    obtain ⟨X, n0⟩ := XX
    simp only at hne k1 k2 k3 k4 hse hhe hdo
    subst hne
    obtain ⟨xs, xhh, xh, xp, xhq, xq, xhf, xf⟩ := X
    simp only at k2 k3 k4
    obtain ⟨us, uhh, uh, up, uhq, uq, uhf, uf⟩ := u
    obtain rfl : xhf = uhf := k3
    obtain rfl : xf = uf.data.toList := k4
    have hx : UV.short maxLen ⟨bar xs, xhh, bar xh, bar xp, xhq, bar xq, xhf, uf⟩ := (checkU_short (u := ⟨bar xs, xhh, bar xh, bar xp, xhq, bar xq, xhf, uf⟩) k1).mono (by unfold maxLen; omega)
    have hxs : (bar xs).data.toList ≠ [] := by
      rw [bar_l]
      intro e
      rw [e] at k2
      cases k2
    have hxp : (bar xp).size ≤ 120 := (checkU_short (u := ⟨bar xs, xhh, bar xh, bar xp, xhq, bar xq, xhf, uf⟩) k1).2.2.1
    have CX := fun W => ucheck_any ⟨bar xs, xhh, bar xh, bar xp, xhq, bar xq, xhf, uf⟩ hx W
    have e1 : checkU (UV.l ⟨bar xs, xhh, bar xh, bar xp, xhq, bar xq, xhf, uf⟩) = 0 := k1
    rw [e1] at CX
    have CP := fun W => pre_one (bar xp) W
    rw [bar_l] at CP
    have CM := fun W (h : Below w.heap.size w W) => ulead_any c ⟨bar xs, xhh, bar xh, bar xp, xhq, bar xq, xhf, uf⟩ hc hx W (hM.below h)
    have CC := fun W => ucheck_any c hc W
    have CH := fun W (h : Below w.heap.size w W) => ulead_any ⟨bar xs, xhh, bar xh, bar xp, xhq, bar xq, xhf, uf⟩ (ofL noUL) hx (small_short _ (by decide)) W (hM.below h)
    have e2 : leadU (UV.l ⟨bar xs, xhh, bar xh, bar xp, xhq, bar xq, xhf, uf⟩) (ofL noUL).l = (noFrag ⟨xs, xhh, xh, xp, xhq, xq, xhf, uf.data.toList⟩, 0) := hhe
    rw [e2] at CH
    obtain ⟨bs, bhh, bh, bp, bhq, bq, bhf, bf⟩ := b
    by_cases hcn : checkU c.l = 0
    · by_cases hce : c.sch.data.toList = []
      · generalize leadU c.l (UV.l ⟨bar xs, xhh, bar xh, bar xp, xhq, bar xq, xhf, uf⟩) = YY at *
        obtain ⟨Y, n2⟩ := YY
        obtain ⟨cs, chh, ch, cp, chq, cq, chf, cf⟩ := c
        obtain rfl := bempty_yes cs hce
        cases hps : preS xp with
        | true =>
          rw [hps] at CP
          exact leads_Te bs bh bp bq bf us uh up uq uf ch cp cq cf (bar xs) (bar xh) (bar xp) (bar xq) (bar Y.sch) (bar Y.hst) (bar Y.pth) (bar Y.qry) (bar Y.frg) bhh bhq bhf uhh uhq xhf chh chq chf xhh xhq Y.hh Y.hq Y.hf hxs n2 _ hxp (hdo (.inr hps)) w hM CL CA CX CP CM CC CH
        | false =>
          rw [hps] at CP
          exact leads_Fe bs bh bp bq bf us uh up uq uf ch cp cq cf (bar xs) (bar xh) (bar xp) (bar xq) (bar Y.sch) (bar Y.hst) (bar Y.pth) (bar Y.qry) (bar Y.frg) bhh bhq bhf uhh uhq xhf chh chq chf xhh xhq Y.hh Y.hq Y.hf hxs n2 _ w CL CA CX CP CM CC CH
      · have e3 := hse hcn (isE_no c.sch hce)
        have e4 : leadU c.l (UV.l ⟨bar xs, xhh, bar xh, bar xp, xhq, bar xq, xhf, uf⟩) = (⟨xs, xhh, xh, xp, xhq, xq, xhf, uf.data.toList⟩, 0) := e3
        rw [e4] at CM
        rw [hcn] at CC
        obtain ⟨cs, chh, ch, cp, chq, cq, chf, cf⟩ := c
        cases hps : preS xp with
        | true =>
          rw [hps] at CP
          exact leads_Ts bs bh bp bq bf us uh up uq uf cs ch cp cq cf (bar xs) (bar xh) (bar xp) (bar xq) bhh bhq bhf uhh uhq xhf chh chq chf xhh xhq hxs hce hxp (hdo (.inr hps)) w hM CL CA CX CP CM CC CH
        | false =>
          rw [hps] at CP
          exact leads_Fs bs bh bp bq bf us uh up uq uf cs ch cp cq cf (bar xs) (bar xh) (bar xp) (bar xq) bhh bhq bhf uhh uhq xhf chh chq chf xhh xhq hxs hce w CL CA CX CP CM CC CH
    · generalize leadU c.l (UV.l ⟨bar xs, xhh, bar xh, bar xp, xhq, bar xq, xhf, uf⟩) = YY at *
      obtain ⟨Y, n2⟩ := YY
      obtain ⟨cs, chh, ch, cp, chq, cq, chf, cf⟩ := c
      cases hps : preS xp with
      | true =>
        rw [hps] at CP
        exact leads_Tn bs bh bp bq bf us uh up uq uf cs ch cp cq cf (bar xs) (bar xh) (bar xp) (bar xq) (bar Y.sch) (bar Y.hst) (bar Y.pth) (bar Y.qry) (bar Y.frg) bhh bhq bhf uhh uhq xhf chh chq chf xhh xhq Y.hh Y.hq Y.hf hxs n2 _ hcn hxp (hdo (.inr hps)) w hM CL CA CX CP CM CC CH
      | false =>
        rw [hps] at CP
        exact leads_Fn bs bh bp bq bf us uh up uq uf cs ch cp cq cf (bar xs) (bar xh) (bar xp) (bar xq) (bar Y.sch) (bar Y.hst) (bar Y.pth) (bar Y.qry) (bar Y.frg) bhh bhq bhf uhh uhq xhf chh chq chf xhh xhq Y.hh Y.hq Y.hf hxs n2 _ hcn w CL CA CX CP CM CC CH
  · generalize leadU b.l u.l = XX at *
    obtain ⟨X, n0⟩ := XX
    obtain ⟨bs, bhh, bh, bp, bhq, bq, bhf, bf⟩ := b
    obtain ⟨us, uhh, uh, up, uhq, uq, uhf, uf⟩ := u
    obtain ⟨cs, chh, ch, cp, chq, cq, chf, cf⟩ := c
    exact leads_A bs bh bp bq bf us uh up uq uf cs ch cp cq cf (bar X.sch) (bar X.hst) (bar X.pth) (bar X.qry) (bar X.frg) bhh bhq bhf uhh uhq uhf chh chq chf X.hh X.hq X.hf n0 hne w CL CA
end Go.Proofs.YtjngeofnoogkfabDoor
