/- mime.readParts, over what mime.read answers of each piece: the walk. Conditions: the bytes and the count lie there. -/
import Derived.Test.YtpgnkhaanoalhaaGreatDoorXmimeborders41
import Derived.Deep.AppendLies
import Derived.Test.YtpgnkhaanoalhaaGreatDoorXmimeborders2
import Derived.Test.YtpgnkhaanoalhaaGreatDoorXmimeborders27
import Derived.Test.YtpgnkhaanoalhaaGreatDoorXmimeborders26
import Derived.Test.YtpgnkhaanoalhaaGreatDoorXmimeborders8
namespace Go.Proofs.YtpgnkhaanoalhaaGreatDoor
open Go.RowKit

theorem Ticks.same {w w' : World} {g : Nat} {k : Int} (hb : Below w.heap.size w w') (hc : CountAt w g k) : Ticks w g k w' := by
  refine ⟨hb.os, hb.tape, hb.output, by rw [set_size]; exact hb.size, fun i hi => ?_⟩
  by_cases e : i = g
  · subst e
    rw [hb.block i hi, show w.heap[i]? = _ from hc, show (w.setCell ⟨i, 0, none⟩ (.int .i64 k)).heap[i]? = _ from hc.set k]
  · rw [hb.block i hi, Below.heap_setCell _ _ _ _ e]

set_option maxHeartbeats 4000000 in
set_option maxRecDepth 100000 in
theorem parts_any (w0 : World) (f : Nat) (IH : ReadC w0 f) (p : Option Addr) (n c : Nat) (L : List UInt8) (en : n = L.length) (B : ByteArray) (d g k : Nat) (hd : f + d = 4) (w : World) (hb0 : Below w0.heap.size w0 w) (hg : w0.heap.size ≤ g) (hC : CountAt w g (k : Int)) (hn : n ≤ 40000) (hc : n ≤ c) (hr : BRow w p L) (hk : k ≤ 12) :
    Calls Tryz.prog 74 #[.slice p n c, .string B, .int .i64 (d : Int), .pointer (some ⟨g, 0, none⟩)] w fun e w' => PartsPost f w g (partsR f L B.data.toList k) e w' := by
  obtain ⟨i0, hi, hz0, hz1, hz2⟩ := info_parts info_part
  have CS : Hid (Calls Tryz.prog 9 #[.slice p n c, .string B] w fun e w' => SplitPost w (splitS L B.data.toList) e w') := split_any p n c L en B w hc hr
  have HLs : Hid (∀ x ∈ (splitS L B.data.toList).1, x.length ≤ 40000) := fun x hx => by have := splitS_len _ _ x hx; omega
  obtain ⟨RES, hRES⟩ : ∃ RES, partsR f L B.data.toList k = RES := ⟨_, rfl⟩
  have HRES : Hid (partsR f L B.data.toList k = RES) := hRES
  rw [hRES]
  unfold partsR at HRES
  clear hRES hr en
  generalize splitS L B.data.toList = S at *
  obtain ⟨PS, ES⟩ := S
  simp only at HRES HLs
  have HIH : Hid (ReadC w0 f) := IH
  have HB0 : Hid (Below w0.heap.size w0 w) := hb0
  have hgw := hC.lt
  have HC : Hid (CountAt w g (k : Int)) := hC
  clear IH hb0 hC
  go_enter Tryz.func74, Tryz.ntmps74
  go_wp2_with fail
  refine CS.out.mono ?_
  rintro e w1 ⟨hb1, v, rfl, h1, h2⟩
  clear CS
  by_cases hE : ES = 0
  · obtain ⟨Y, hY, hown, hso⟩ := h2 hE
    obtain rfl : ES = 0 := hE
    rw [if_neg (by simp)] at HRES
    simp only at hY hown
    clear h1 h2
    obtain ⟨qv, cv, rfl, hv1, hv2, hv3, hvc⟩ := owned_cells hown
    obtain ⟨m, hm⟩ : ∃ m, PS.length = m := ⟨_, rfl⟩
    have HM : Hid (PS.length = m ∧ Y.length = m) := ⟨hm, by rw [← hm, ← hY, List.length_map]⟩
    rw [hm] at hv1 hown
    have hm4 : m ≤ 9223372036854775807 := by unfold maxLen at hv2; omega
    simp only [hm]
    have HY : Hid (Y.map (·.1) = PS) := hY
    have HC1 : Hid (CountAt w1 g (k : Int)) := HC.out.below hb1
    -- what lies of the pieces, whenever only the count has turned
    have HP : Hid (∀ (i : Nat) (wr : World) (x : Int), i < m → Ticks w1 g x wr → ∃ b o y, qv = some ⟨b, o, none⟩ ∧ Y[i]? = some y ∧ wr.cell? ⟨b, o + i, none⟩ = some (.slice y.2.1 y.1.length y.2.2) ∧ y.1.length ≤ y.2.2 ∧ y.2.2 ≤ maxLen ∧ (y.2.1 = none → y.1.length = 0 ∧ y.2.2 = 0) ∧ BRow wr y.2.1 y.1) := fun i wr x hi ht => by
      have hiY : i < Y.length := by rw [HM.out.2]; exact hi
      have ho2 := ht.owns hown hgw
      obtain ⟨q2, c2, e2, _, _, _, hc2⟩ := owned_cells ho2
      cases e2
      obtain ⟨b, o, rfl, hcell⟩ := hc2 (fun e => by have := congrArg List.length e; rw [syv, List.length_map, List.length_nil] at this; omega)
      have hy : Y[i]? = some Y[i] := List.getElem?_eq_getElem hiY
      obtain ⟨p9, c9, e9, r1, r2, r3, r4⟩ := owned_bytes (hso Y[i] (List.getElem_mem hiY))
      have hv9 : Y[i].2.1 = p9 ∧ Y[i].2.2 = c9 := by cases e9; exact ⟨rfl, rfl⟩
      refine ⟨b, o, Y[i], rfl, hy, ?_, ?_, ?_, ?_, ht.bytes HC1.out ?_⟩
      · exact hcell i _ (by rw [syv, List.getElem?_map, hy]; rfl)
      · rw [hv9.2]; exact r1
      · rw [hv9.2]; exact r2
      · rw [hv9.1, hv9.2]; exact r3
      · rw [hv9.1]; exact r4
    have hs1 := hb1.size
    have hg1 : g < w1.heap.size := by omega
    have HB1 : Hid (Below w0.heap.size w0 w1) := HB0.out.trans (hb1.mono HB0.out.size)
    have HT1 : Hid (Ticks w g (k : Int) w1) := Ticks.same hb1 HC.out
    clear hown hso hvc hY hm hv3
    go_wp2_with fail
    go_loopw [12, 28] (fun ov iv wr => ∃ (i x : Nat) (q : Option Addr) (n6 c6 : Nat) (Z : List PZ), i ≤ m ∧ x ≤ 12 ∧ iv = .int .i64 i ∧ ov = .slice q n6 c6 ∧ Hid (n6 = Z.length) ∧ n6 ≤ x ∧ Hid (Ticks w1 g (x : Int) wr) ∧ Hid (wr.ownsRow w1.heap.size 25 7 (.slice q n6 c6) n6 (pzv Z)) ∧ Hid (∀ z ∈ Z, PFar wr (fun b => w1.heap.size ≤ b ∧ (Value.slice q n6 c6).ownBlock ≠ some b ∧ b < wr.heap.size) f z.1 z.2.1.1 z.2.1.2 z.2.2.1 z.2.2.2) ∧ Hid (readAll (readP f) (PS.drop i) x (Z.map (·.1)) = RES)) (fun _ iv _ => m - (intOf iv).toNat)
    case atStart => exact ⟨0, k, none, 0, 0, [], Nat.zero_le _, hk, rfl, rfl, rfl, Nat.zero_le _, Ticks.same (Below.refl _ _) HC1.out, World.ownsRow_nil _ _ _ _, (fun z hz => by cases hz), HRES⟩
    case round =>
      obtain ⟨i, x, q, n6, c6, Z, him, hx, rfl, rfl, HN6, hn6, HT, HO, HF, HR⟩ := hrel
      clear HRES
      by_cases hlt : i < m
      · have hlz : (i : Int) < (m : Int) := by omega
        obtain ⟨b, o, y, rfl, hy, hcy, hy1, hy2, hy3, hy4⟩ := HP.out i wr x hlt HT.out
        have hyP : PS.drop i = y.1 :: PS.drop (i + 1) := by
          have hiP : i < PS.length := by rw [HM.out.1]; exact hlt
          rw [List.drop_eq_getElem_cons hiP]
          congr 1
          have h1 := congrArg (·[i]?) HY.out
          simp only [List.getElem?_map, hy, List.getElem?_eq_getElem hiP] at h1
          exact (Option.some.inj h1).symm
        have hy40 : y.1.length ≤ 40000 := HLs.out y.1 (by rw [← HY.out]; exact List.mem_map.2 ⟨y, List.mem_of_getElem? hy, rfl⟩)
        have HCr : Hid (CountAt wr g (x : Int)) := HT.out.count HC1.out
        have HBr : Hid (Below w0.heap.size w0 wr) := HT.out.base HB1.out hg
        have CR := HIH.out y.2.1 y.1.length y.2.2 y.1 d g x wr rfl hd HBr.out hg HCr.out hy40 hy1 hy2 hy3 hy4 hx
        rw [hyP, readAll] at HR
        have hfew := readP_few f y.1 x
        have hmore := readP_grows f y.1 x
        generalize hRP : readP f y.1 x = RP at *
        obtain ⟨er, pr, xr⟩ := RP
        simp only at HR hfew hmore
        obtain ⟨ny, hny⟩ : ∃ ny, y.1.length = ny := ⟨_, rfl⟩
        rw [hny] at hcy CR
        have CR' : Hid (Calls Tryz.prog 34 #[.slice y.2.1 ny y.2.2, .int .i64 (d : Int), .pointer (some ⟨g, 0, none⟩)] wr fun e w' => RPost f wr g (er, pr, xr) e w') := CR
        generalize y.2.1 = py at *
        generalize y.2.2 = cy at *
        clear CR hy hyP hy1 hy2 hy3 hy4 hy40 hny hRP HP
        have hsr : w1.heap.size ≤ wr.heap.size := HT.out.size
        go_wp2_with fail
        refine CR'.out.mono ?_
        rintro e w2 ⟨ht2, hok, hno⟩
        simp only at ht2 hok hno
        have HT2 : Hid (Ticks wr g (xr : Int) w2) := ht2
        have hs2 := ht2.size
        clear CR' ht2
        by_cases hEr : er = 0
        · obtain ⟨pb, cb, pk, ck, rfl, hfar⟩ := hok hEr
          rw [if_pos hEr] at HR
          have hxr : xr ≤ 12 := hfew hEr
          obtain rfl : er = 0 := hEr
          have HO2 : Hid (w2.ownsRow w1.heap.size 25 7 (.slice q n6 c6) n6 (pzv Z)) := HT2.out.owns HO.out hg1
          have HF2 : Hid (∀ z ∈ Z ++ [(pr, (pb, cb), (pk, ck))], PFar w2 (fun b => w1.heap.size ≤ b ∧ (Value.slice q n6 c6).ownBlock ≠ some b ∧ b < w2.heap.size) f z.1 z.2.1.1 z.2.1.2 z.2.2.1 z.2.2.2) := fun z hz => by
            rcases List.mem_append.1 hz with h | h
            · exact (HT2.out.far (fun b hb => by have := hb.1; omega) (HF.out z h)).kind fun b hb => ⟨hb.1, hb.2.1, by have := hb.2.2; omega⟩
            · obtain rfl : z = (pr, (pb, cb), (pk, ck)) := by simpa using h
              exact hfar.kind fun b hb => ⟨Nat.le_trans hsr hb.1, (fun e => by have := (HO.out.lt b e).2; have := hb.1; omega), hb.2⟩
          have HZm : Hid ((Z ++ [(pr, (pb, cb), (pk, ck))]).map (·.1) = Z.map (·.1) ++ [pr]) := by unfold Hid; rw [List.map_append]; rfl
          have HZv : Hid (pzv (Z ++ [(pr, (pb, cb), (pk, ck))]) = pzv Z ++ [.string pr.ty, .string pr.cs, .string pr.id, .string pr.loc, .int .i64 pr.how, .slice pb pr.body.length cb, .slice pk pr.kids.length ck]) := by unfold Hid; rw [pzv_append]; simp [pzv, pzc]
          have HZl : Hid ((Z ++ [(pr, (pb, cb), (pk, ck))]).length = n6 + 1) := by unfold Hid; rw [List.length_append, ← HN6.out]; rfl
          have HTw : Hid (Ticks w1 g (xr : Int) w2) := HT.out.trans HT2.out HC1.out
          generalize Z ++ [(pr, (pb, cb), (pk, ck))] = Z2 at *
          have HR2 : Hid (readAll (readP f) (PS.drop (i + 1)) xr (Z2.map (·.1)) = RES) := by unfold Hid; rw [HZm.out]; exact HR.out
          obtain ⟨ty, cs, id, loc, how, body, kids⟩ := pr
          simp only at HZv
          obtain ⟨nb, hnb⟩ : ∃ nb, body.length = nb := ⟨_, rfl⟩
          obtain ⟨nk, hnk⟩ : ∃ nk, kids.length = nk := ⟨_, rfl⟩
          rw [hnb, hnk] at HZv
          simp only [hnb, hnk]
          obtain ⟨m0, m1, m2, m3, m4, m5, m6, _, _, _, _⟩ := made_seven (Below.refl _ (w2.alloc (.cells #[.string ty, .string cs, .string id, .string loc, .int .i64 how, .slice pb nb cb, .slice pk nk ck] 25))) w2.heap.size rfl
          clear hok hno hfar hfew HR HO HF hnb hnk HT HT2 HZm
          have HO3 := (HO2.out.alloc (.cells #[.string ty, .string cs, .string id, .string loc, .int .i64 how, .slice pb nb cb, .slice pk nk ck] 25))
          have hn13 : n6 + 1 ≤ 9223372036854775807 := by omega
          go_wp2_with (at_builtin; refine wpList_append_lies _ rfl (.tmp 42) (.tmp 44) 23 rfl w1.heap.size 25 i0 (.agg #[.string ⟨#[]⟩, .string ⟨#[]⟩, .string ⟨#[]⟩, .string ⟨#[]⟩, .int .i64 0, .slice none 0 0, .slice none 0 0]) 7 120 Tryz.underlying23 hi hz0 hz1 hz2 rfl (by decide) _ _ _ rfl (HO3.alloc _) ⟨w2.heap.size + 1, 0, none⟩ 1 1 [.string ty, .string cs, .string id, .string loc, .int .i64 how, .slice pb nb cb, .slice pk nk ck] rfl rfl ?c1 ?c2 (by decide) ?c3 ?c4 ?c5 (w2.heap.size + 2) ?c6 ?_)
          case c1 => exact cell_seven _ [_, _, _, _, _, _, _] _ _ (by simp)
          case c2 => intro u hu; simp at hu; rcases hu with rfl | rfl | rfl | rfl | rfl | rfl | rfl <;> rfl
          case c3 => unfold maxLen; omega
          case c4 => omega
          case c5 => simp; omega
          case c6 => simp
          intro g9 c9 w9 hown9 hg9 hlies hlt9
          have HT9 : Hid (Ticks w1 g (xr : Int) w9) := by
            have h1 : Ticks w1 g (xr : Int) ((w2.alloc (.cells #[.string ty, .string cs, .string id, .string loc, .int .i64 how, .slice pb nb cb, .slice pk nk ck] 25)).alloc (.cells #[.string ty, .string cs, .string id, .string loc, .int .i64 how, .slice pb nb cb, .slice pk nk ck] 25)) := HTw.out.then (((Below.refl _ _).alloc (Nat.le_refl _) _).alloc (by simp) _)
            have h2 : Below w1.heap.size (w1.setCell ⟨g, 0, none⟩ (.int .i64 (xr : Int))) _ := h1
            exact h2.grown hg9 (by have := HTw.out.size; simp; omega) (fun j hj => (HO2.out.lt j hj).1)
          have hs9 : w2.heap.size + 2 ≤ w9.heap.size := by have := hg9.size; simp at this; omega
          have HF9 : Hid (∀ z ∈ Z2, PFar w9 (fun b => w1.heap.size ≤ b ∧ (Value.slice (some ⟨g9, 0, none⟩) (n6 + 1) c9).ownBlock ≠ some b ∧ b < w9.heap.size) f z.1 z.2.1.1 z.2.1.2 z.2.2.1 z.2.2.2) := fun z hz => by
            have hmv := PFar.move (w' := w9) (fun b hb hlt => by
              rw [hg9.block b (by simp; omega) (fun e => hb.2.1 e.symm)]
              rw [Below.heap_alloc _ _ _ (by simp; omega), Below.heap_alloc _ _ _ hlt]) (HF2.out z hz)
            refine hmv.kind fun b hb => ⟨hb.1, fun e => ?_, by have := hb.2.2; omega⟩
            have e' : g9 = b := by simpa [Value.ownBlock] using e
            rcases hlies with h | h
            · exact hb.2.1 (by rw [h, e'])
            · have := hb.2.2; omega
          have R9 : Hid (w9.ownsRow w1.heap.size 25 7 (.slice (some ⟨g9, 0, none⟩) (n6 + 1) c9) (n6 + 1) (pzv Z2)) := by unfold Hid; rw [HZv.out]; exact hown9
          clear hown9 hg9 HO3 m0 m1 m2 m3 m4 m5 m6
          go_wp2_with fail
          go_roundw
          case rel =>
            (repeat apply Exists.intro)
            refine ⟨?_, rfl⟩
            exact ⟨i + 1, xr, some ⟨g9, 0, none⟩, n6 + 1, c9, Z2, by omega, hxr, by go_num, rfl, HZl.out.symm, by omega, HT9, R9, HF9, HR2⟩
          case measure => simp [intOf]; omega
        · obtain ⟨s0, s1, s2, s3, h, a1, n1, c1, a2, n2, c2, rfl⟩ := hno hEr
          rw [if_neg hEr] at HR
          have hErb : ((er : Int) != 0) = true := by simp; exact hEr
          have hErz : ¬ ((er : Int) = 0) := by omega
          have HT9 : Hid (Ticks w g (xr : Int) (w2.alloc (.cells #[.string s0, .string s1, .string s2, .string s3, .int .i64 h, .slice a1 n1 c1, .slice a2 n2 c2] 25))) :=
            ((HT1.out.trans HT.out HC.out).trans HT2.out HC.out).then ((Below.refl _ _).alloc (Nat.le_refl _) _)
          clear hok hno hfew hEr HO HF
          go_wp2_with fail
          go_ret2
          show PartsPost _ _ _ _ _ _
          rw [← HR.out]
          exact partsPost_no HT9.out
      · have hlz : ¬ ((i : Int) < (m : Int)) := by omega
        have hRe : RES = (0, Z.map (·.1), x) := by
          rw [← HR.out, List.drop_of_length_le (by rw [HM.out.1]; omega), readAll]
        have HRe : Hid (RES = (0, Z.map (·.1), x)) := hRe
        have HTx : Hid (Ticks w g (x : Int) wr) := HT1.out.trans HT.out HC.out
        obtain ⟨q9, c9, hv9, h91, h92, h93, hk9⟩ := KFar.of_list (Q := fun b => w1.heap.size ≤ b ∧ b < wr.heap.size) HO.out HN6.out (fun b h1 h2 => ⟨h1, h2⟩) (fun z hz => (HF.out z hz).kind fun b h => ⟨h.1, h.2.2⟩)
        have hq9 : q = q9 ∧ c6 = c9 := by cases hv9; exact ⟨rfl, rfl⟩
        obtain ⟨rfl, rfl⟩ := hq9
        have HK9 : Hid (KFar wr (fun b => w1.heap.size ≤ b ∧ b < wr.heap.size) (f + 1) q (Z.map (·.1))) := hk9
        clear hRe HR HO HF hv9 hk9
        go_wp2_with fail
        go_ret2
        show PartsPost _ _ _ _ _ _
        rw [HRe.out]
        refine ⟨HTx.out, q, c6, ?_, ?_, h92, h93, KFar.kind (fun b h => ⟨Nat.le_trans hs1 h.1, h.2⟩) _ _ _ HK9.out⟩
        · show _ = Ending.returned (.tuple #[.slice q (Z.map (·.1)).length c6, .int .i64 0])
          rw [List.length_map, ← HN6.out]
          rfl
        · show (Z.map (·.1)).length ≤ c6
          rw [List.length_map, ← HN6.out]
          exact h91
  · have hEb : ((ES : Int) != 0) = true := by simp; exact hE
    have hEz : ¬ ((ES : Int) = 0) := by omega
    obtain rfl : v = .slice none 0 0 := h1 hE
    rw [if_pos hE] at HRES
    have HT1 : Hid (Ticks w g (k : Int) w1) := Ticks.same hb1 HC.out
    clear h1 h2
    go_wp2_with fail
    go_ret2
    show PartsPost _ _ _ _ _ _
    rw [← HRES.out]
    exact partsPost_no HT1.out
end Go.Proofs.YtpgnkhaanoalhaaGreatDoor

/- header.small, setting, param: what the plain functions say; nothing that was there is changed. Conditions: the texts are no longer than a value. -/
namespace Go.Proofs.YtpgnkhaanoalhaaGreatDoor
open Go.RowKit

theorem results_tmp4 {fn : Func} {t u v x : Tmp} (h : fn.results = #[.tmp t, .tmp u, .tmp v, .tmp x]) (tmps : Array Value) (P : Program) (w : World) :
    (results fn tmps).run P w = .ok (.tuple #[tmps.getD t undef, tmps.getD u undef, tmps.getD v undef, tmps.getD x undef]) w := by
  simp [results, h]
theorem results_cell4 {fn : Func} {p u v x : Tmp} {ty : TypeId} (h : fn.results = #[.cell p ty, .tmp u, .tmp v, .tmp x]) (tmps : Array Value) (P : Program) (w : World) :
    (results fn tmps).run P w =
      ((asAddr (tmps.getD p undef)).run P w).andThen fun a w₁ => ((loadVar ty a).run P w₁).andThen fun y w₂ => .ok (.tuple #[y, tmps.getD u undef, tmps.getD v undef, tmps.getD x undef]) w₂ := by
  simp only [results, h]
  simp [Sem.run_bind, Result.andThen]

theorem cutP_any (d : UInt8) (l : List UInt8) (w : World) (hs : l.length ≤ 1000000000) :
    Calls Tryz.prog 121 #[.string (ba l), .string ⟨#[d]⟩] w fun e w' => e = .returned (.tuple #[.string (ba (cutP d l).1), .string (ba (cutP d l).2.1), .bool (cutP d l).2.2]) ∧ Below w.heap.size w w' := by
  cases h : cutB d l with
  | none =>
    rw [cutP_none h]
    exact cut_none d (ba l) w h
  | some x =>
    obtain ⟨a, b⟩ := x
    rw [cutP_some h]
    exact cut_some d (ba l) (ba a) (ba b) w (by rw [ba_size]; exact hs) h

theorem small_any (l : List UInt8) (w : World) (hs : l.length ≤ 1000000000) (ha : ∀ c ∈ l, c.toNat < 128) :
    Calls Tryz.prog 127 #[.string (ba l)] w fun e w' => e = .returned (.string (ba (small8 l))) ∧ Below w.heap.size w w' := by
  have HC : Hid (∀ w, Calls Tryz.prog 51 #[.string (ba l)] w fun e w' => e = .returned (.string (ba (small8 l))) ∧ Below w.heap.size w w') := fun w =>
    Tryz.strings_ToLower_ascii (ba l) w (by rw [ba_size]; omega) (fun j b hb => ha b (List.mem_of_getElem? hb))
  clear ha
  go_enter Tryz.func127, Tryz.ntmps127
  go_wp2_with fail
  refine (HC.out _).mono ?_
  rintro e w1 ⟨rfl, hb⟩
  clear HC
  go_wp2
  go_ret
  exact ⟨rfl, hb⟩

set_option maxHeartbeats 2000000 in
theorem setting_plain (l : List UInt8) (w : World) (hs : l.length ≤ 100000) (hh : l.head? ≠ some 34) :
    Calls Tryz.prog 172 #[.string (ba l)] w fun e w' => e = .returned (.tuple #[.string (ba (setS l).1), .string (ba (setS l).2.1), .bool (setS l).2.2.1, .bool (setS l).2.2.2]) ∧ Below w.heap.size w w' := by
  have HN : Hid (setS l = (dropEnd isSp (cutP 59 l).1, (cutP 59 l).2.1, (cutP 59 l).2.2, tokenS (dropEnd isSp (cutP 59 l).1))) := by unfold Hid setS; rw [if_neg hh]
  have C1 : Hid (∀ w, Calls Tryz.prog 216 #[.string (ba l), .string ⟨#[34]⟩] w fun e w' => e = .returned (.tuple #[.string (ba l), .bool false]) ∧ w' = w) := fun w => cutPre_no 34 (ba l) w hh
  have C2 : Hid (∀ w, Calls Tryz.prog 121 #[.string (ba l), .string ⟨#[59]⟩] w fun e w' => e = .returned (.tuple #[.string (ba (cutP 59 l).1), .string (ba (cutP 59 l).2.1), .bool (cutP 59 l).2.2]) ∧ Below w.heap.size w w') := fun w => cutP_any 59 l w (by omega)
  have hl := (cutP_length 59 l).1
  have C3 : Hid (∀ w, Calls Tryz.prog 55 #[.string (ba (cutP 59 l).1), .string ⟨#[32]⟩] w fun e w' => e = .returned (.string (ba (dropEnd isSp (cutP 59 l).1))) ∧ w' = w) := fun w => trimRSp_any _ _ rfl w (by rw [ba_size]; omega)
  have hl2 := dropEnd_length isSp (cutP 59 l).1
  have C4 : Hid (∀ w, Calls Tryz.prog 152 #[.string (ba (dropEnd isSp (cutP 59 l).1))] w fun e w' => e = .returned (.bool (tokenS (dropEnd isSp (cutP 59 l).1))) ∧ w' = w) := fun w => htok_any _ w (by rw [ba_size]; unfold maxLen; omega)
  clear hl hl2 hh
  generalize dropEnd isSp (cutP 59 l).1 = V at *
  generalize tokenS V = ok at *
  generalize cutP 59 l = x9 at *
  obtain ⟨a, r, m⟩ := x9
  simp only at *
  have HN' := HN.out
  rw [HN']
  clear HN HN'
  simp only
  generalize ba l = s at *
  generalize ba a = sa at *
  generalize ba r = sr at *
  generalize ba V = sv at *
  go_enter Tryz.func172, Tryz.ntmps172
  go_wp2_with fail
  refine (C1.out _).mono ?_
  rintro e w1 ⟨rfl, hw'⟩
  have hw'' := hw'.symm
  subst hw''
  clear C1
  go_wp2_with fail
  refine (C2.out _).mono ?_
  rintro e w2 ⟨rfl, hb⟩
  clear C2
  go_wp2_with fail
  refine (C3.out _).mono ?_
  rintro e w1 ⟨rfl, hw'⟩
  have hw'' := hw'.symm
  subst hw''
  clear C3
  go_wp2_with fail
  refine (C4.out _).mono ?_
  rintro e w1 ⟨rfl, hw'⟩
  have hw'' := hw'.symm
  subst hw''
  clear C4
  go_wp2
  (try simp only [Exit.inBlock, Exit.then])
  refine bodyPost_ret (results_tmp4 rfl _ _ _) rfl ?_
  exact ⟨rfl, hb⟩

set_option maxHeartbeats 2000000 in
theorem setting_quoted (l t : List UInt8) (w : World) (hs : l.length ≤ 100000) (hh : l = 34 :: t) :
    Calls Tryz.prog 172 #[.string (ba l)] w fun e w' => e = .returned (.tuple #[.string (ba (setS l).1), .string (ba (setS l).2.1), .bool (setS l).2.2.1, .bool (setS l).2.2.2]) ∧ Below w.heap.size w w' := by
  have HN : Hid (setS l = ((cutP 34 t).1, (cutP 59 (cutP 34 t).2.1).2.1, (cutP 59 (cutP 34 t).2.1).2.2, (cutP 34 t).2.2 && (trimBy isSp (cutP 59 (cutP 34 t).2.1).1).isEmpty)) := by
    unfold Hid setS; rw [if_pos (by rw [hh]; rfl), hh]; rfl
  have C1 : Hid (∀ w, Calls Tryz.prog 216 #[.string (ba l), .string ⟨#[34]⟩] w fun e w' => e = .returned (.tuple #[.string (ba t), .bool true]) ∧ w' = w) := fun w => cutPre_yes 34 (ba l) (ba t) w (by rw [ba_size]; omega) hh
  have ht : t.length ≤ 100000 := by rw [hh] at hs; simp at hs; omega
  have C2 : Hid (∀ w, Calls Tryz.prog 121 #[.string (ba t), .string ⟨#[34]⟩] w fun e w' => e = .returned (.tuple #[.string (ba (cutP 34 t).1), .string (ba (cutP 34 t).2.1), .bool (cutP 34 t).2.2]) ∧ Below w.heap.size w w') := fun w => cutP_any 34 t w (by omega)
  have hl := (cutP_length 34 t).2.1
  generalize cutP 34 t = x9 at *
  obtain ⟨v, u, k⟩ := x9
  simp only at *
  have C3 : Hid (∀ w, Calls Tryz.prog 121 #[.string (ba u), .string ⟨#[59]⟩] w fun e w' => e = .returned (.tuple #[.string (ba (cutP 59 u).1), .string (ba (cutP 59 u).2.1), .bool (cutP 59 u).2.2]) ∧ Below w.heap.size w w') := fun w => cutP_any 59 u w (by omega)
  have hl2 := (cutP_length 59 u).1
  generalize cutP 59 u = x9 at *
  obtain ⟨g, r, m⟩ := x9
  simp only at *
  have C4 : Hid (∀ w, Calls Tryz.prog 85 #[.string (ba g), .string ⟨#[32]⟩] w fun e w' => e = .returned (.string (ba (trimBy isSp g))) ∧ Below w.heap.size w w') := fun w => trimSp_any _ _ rfl w (by rw [ba_size]; omega)
  clear hl hl2 hh hs ht
  have hem := ba_isEmpty (trimBy isSp g)
  generalize (trimBy isSp g).isEmpty = em at *
  generalize ba (trimBy isSp g) = sg at *
  have HN' := HN.out
  rw [HN']
  clear HN HN'
  simp only
  generalize ba l = s at *
  generalize ba t = st at *
  generalize ba v = sv at *
  generalize ba u = su at *
  generalize ba r = sr at *
  generalize ba g = sgg at *
  cases k
  all_goals
    go_enter Tryz.func172, Tryz.ntmps172
    go_wp2_with fail
    refine (C1.out _).mono ?_
    rintro e w1 ⟨rfl, hw'⟩
    have hw'' := hw'.symm
    subst hw''
    clear C1
    go_wp2_with fail
    refine (C2.out _).mono ?_
    rintro e w2 ⟨rfl, hb2⟩
    clear C2
    go_wp2_with fail
    refine (C3.out _).mono ?_
    rintro e w3 ⟨rfl, hb3⟩
    have hb23 := hb2.trans (hb3.mono hb2.size)
    clear C3
  · clear C4
    go_wp2
    (try simp only [Exit.inBlock, Exit.then])
    refine bodyPost_ret (results_tmp4 rfl _ _ _) rfl ?_
    exact ⟨rfl, hb23⟩
  · go_wp2_with fail
    refine (C4.out _).mono ?_
    rintro e w4 ⟨rfl, hb4⟩
    have hb24 := hb23.trans (hb4.mono hb23.size)
    clear C4
    go_wp2
    (try simp only [Exit.inBlock, Exit.then])
    refine bodyPost_ret (results_tmp4 rfl _ _ _) rfl ?_
    exact ⟨rfl, hb24⟩

/-- header.setting. -/
theorem setting_any (l : List UInt8) (w : World) (hs : l.length ≤ 100000) :
    Calls Tryz.prog 172 #[.string (ba l)] w fun e w' => e = .returned (.tuple #[.string (ba (setS l).1), .string (ba (setS l).2.1), .bool (setS l).2.2.1, .bool (setS l).2.2.2]) ∧ Below w.heap.size w w' := by
  by_cases hh : l.head? = some 34
  · cases l with
    | nil => cases hh
    | cons a t =>
      rw [List.head?_cons] at hh
      obtain rfl := Option.some.inj hh
      exact setting_quoted _ t w hs rfl
  · exact setting_plain l w hs hh
end Go.Proofs.YtpgnkhaanoalhaaGreatDoor
