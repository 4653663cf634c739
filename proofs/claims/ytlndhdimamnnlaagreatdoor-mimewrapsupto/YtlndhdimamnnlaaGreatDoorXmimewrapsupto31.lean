/- mime.text of a part that has parts, and so of any part with nothing wrong. -/
import Derived.Test.YtlndhdimamnnlaaGreatDoorXmimewrapsupto30
import Derived.Deep.RegionHeld3
import Derived.Test.YtlndhdimamnnlaaGreatDoorXmimewrapsupto11
namespace Go.Proofs.YtlndhdimamnnlaaGreatDoor
open Go.RowKit

theorem cell_lone1 (w : World) (v : Value) (t : TypeId) : ∀ j x, [v][j]? = some x → (w.alloc (.cells #[v] t)).cell? ((⟨w.heap.size, 0, none⟩ : Addr).add j) = some x := cell_one w v t rfl
theorem one_str (s : ByteArray) : ∀ u ∈ [Value.string s], u.oneCell' = true := by
  intro u hu; simp at hu; subst hu; rfl
theorem ts_take (ts : List ByteArray) (i : Nat) (hi : i < ts.length) : ts.take (i + 1) = ts.take i ++ [ts.getD i ⟨#[]⟩] := by
  rw [List.take_add_one, List.getElem?_eq_getElem hi, List.getD_eq_getElem?_getD, List.getElem?_eq_getElem hi]
  rfl
set_option maxHeartbeats 8000000 in
set_option maxRecDepth 100000 in
theorem text_many (b o m : Nat) (bk ok ck : Nat) (ty : ByteArray) (ts : List ByteArray) (br HD R : ByteArray) (n : Int) (w : World) (hm12 : m ≤ 12) (hm1 : 1 ≤ m) (hck : m ≤ ck) (hem : Hid (m = ts.length)) (hbb : b < w.heap.size)
    (hHD : HD.size ≤ 3738) (hts : Hid (∀ t ∈ ts, t.size ≤ 240000))
    (c0 : w.cell? ⟨b, o, none⟩ = some (.string ty)) (c6 : w.cell? ⟨b, o + 6, none⟩ = some (.slice (some ⟨bk, ok, none⟩) m ck))
    (CM : Hid (Calls Tryz.prog 57 #[.string ty] w fun e w' => e = .returned (.bool true) ∧ w' = w))
    (CT : Hid (∀ W i, i < m → Below w.heap.size w W → Calls Tryz.prog 24 #[.pointer (some ⟨bk, ok + i * 7, none⟩)] W fun e w' => e = .returned (.string (ts.getD i ⟨#[]⟩)) ∧ Below W.heap.size W w'))
    (CL : Hid (∀ W q c, Below w.heap.size w W → TRow W q ts → Calls Tryz.prog 60 #[.slice q m c] W fun e w' => e = .returned (.int .i64 n) ∧ Below W.heap.size W w'))
    (CI : Hid (∀ W, Below w.heap.size w W → Calls Tryz.prog 36 #[.int .i64 n] W fun e w' => e = .returned (.string ⟨(Lib.itoa n).toArray⟩) ∧ Below W.heap.size W w'))
    (hbr : Hid (br = ⟨#[61, 95]⟩ ++ ⟨(Lib.itoa n).toArray⟩)) (hbs : br.size ≤ 9)
    (CH : Hid (∀ W, Below w.heap.size w W → Calls Tryz.prog 58 #[.pointer (some ⟨b, o, none⟩), .string br] W fun e w' => e = .returned (.string HD) ∧ Below W.heap.size W w'))
    (hR : Hid (R = HD ++ ba ((ts.map fun t => t.data.toList).flatMap (pieceT br.data.toList)) ++ ⟨#[45, 45]⟩ ++ br ++ ⟨#[45, 45]⟩ ++ ⟨#[13, 10]⟩)) :
    Calls Tryz.prog 24 #[.pointer (some ⟨b, o, none⟩)] w fun e w' => e = .returned (.string R) ∧ Below w.heap.size w w' := by
  obtain ⟨i0, hi, hz0, hz1, hz2⟩ := info_parts info_strM
  obtain ⟨j0, gi, gz0, gz1, gz2⟩ := info_parts info_u8
  have HC6 : Hid (∀ W, Below w.heap.size w W → W.cell? ⟨b, o + 6, none⟩ = some (.slice (some ⟨bk, ok, none⟩) m ck)) := fun W hb => (hb.cell (p := ⟨b, o + 6, none⟩) hbb).trans c6
  go_enter Tryz.func24, Tryz.ntmps24
  go_wp2_with fail
  refine CM.out.mono ?_
  rintro e w1 ⟨rfl, hw1⟩
  have hw2 := hw1.symm
  subst hw2
  clear CM
  go_wp2_with fail
  go_loopw [3, 25] (fun ov iv wr => ∃ (i : Nat) (q : Option Addr) (c : Nat), i ≤ m ∧ iv = .int .i64 i ∧ ov = .slice q i c ∧ Below w.heap.size w wr ∧ Hid (wr.ownsRow w.heap.size 9 1 (.slice q i c) i (stv (ts.take i)))) (fun _ iv _ => m - (intOf iv).toNat)
  case atStart => exact ⟨0, none, 0, Nat.zero_le _, rfl, rfl, Below.refl _ _, World.ownsRow_nil _ _ _ _⟩
  case round =>
    obtain ⟨i, q, c, hi2, rfl, rfl, hbr1, HO⟩ := hrel
    have hsz := hbr1.size
    by_cases hlt : i < m
    · have hlz : (i : Int) < (m : Int) := by omega
      have hc6 := HC6.out wr hbr1
      have CTi : Hid (Calls Tryz.prog 24 #[.pointer (some ⟨bk, ok + i * 7, none⟩)] wr fun e w' => e = .returned (.string (ts.getD i ⟨#[]⟩)) ∧ Below wr.heap.size wr w') := CT.out wr i hlt hbr1
      have HTK : Hid (stv (ts.take (i + 1)) = stv (ts.take i) ++ [.string (ts.getD i ⟨#[]⟩)]) := by unfold Hid; rw [ts_take ts i (by rw [← hem.out]; exact hlt), stv_snoc]
      generalize ts.getD i ⟨#[]⟩ = tx at *
      go_wp2_with fail
      refine CTi.out.mono ?_
      rintro e w2 ⟨rfl, hb2⟩
      clear CTi hc6
      have hbe2 : Below w.heap.size w w2 := hbr1.trans (hb2.mono hbr1.size)
      have own2 : w2.ownsRow w.heap.size 9 1 (.slice q i c) i (stv (ts.take i)) := ownsRow_below HO.out hb2
      have hsz2 := hbe2.size
      clear hb2 HO
      go_wp2_with (at_builtin; refine wpList_append_own _ rfl (.tmp 28) (.tmp 36) 41 rfl w.heap.size 9 i0 (.string ⟨#[]⟩) 1 16 Tryz.underlying41 hi hz0 hz1 hz2 rfl (by decide) _ _ _ rfl (own2.alloc _) ⟨w2.heap.size, 0, none⟩ 1 1 [.string tx] rfl rfl (cell_lone1 _ _ _) (one_str _) ?d1 ?d2 ?d3 ?_)
      case d1 => unfold maxLen; omega
      case d2 => omega
      case d3 => simp; omega
      intro v9 w9 own9 g9 _
      have b9 : Below w.heap.size w w9 := (hbe2.alloc hbe2.size _).grown g9 (by simp; omega) (fun j hj => (own2.lt j hj).1)
      obtain ⟨q9, c9, rfl⟩ := owned_slice own9
      have HO9 : Hid (w9.ownsRow w.heap.size 9 1 (.slice q9 (i + 1) c9) (i + 1) (stv (ts.take (i + 1)))) := by unfold Hid; rw [HTK.out]; exact own9
      clear own9 g9 own2 HTK
      go_wp2_with fail
      go_roundw
      case rel => exact ⟨i + 1, q9, c9, by omega, by go_num, rfl, b9, HO9⟩
      case measure => simp [intOf]; omega
    · obtain rfl : i = m := by omega
      have hlz : ¬ (i : Int) < (i : Int) := by omega
      have HT : Hid (TRow wr q ts) := by
        have h := HO.out
        rw [List.take_of_length_le (by rw [← hem.out]; omega)] at h
        have h2 : wr.ownsRow w.heap.size 9 1 (.slice q i c) ts.length (stv ts) := by rw [← hem.out]; exact h
        obtain ⟨p', c', e, _, _, hr⟩ := owned_texts h2
        cases e
        exact hr
      clear HO CT HC6
      obtain ⟨IT, hIT⟩ : ∃ IT : ByteArray, (⟨(Lib.itoa n).toArray⟩ : ByteArray) = IT := ⟨_, rfl⟩
      have hbq : (⟨#[61, 95]⟩ : ByteArray) ++ IT = br := by rw [← hIT]; exact hbr.out.symm
      have hIs : IT.size ≤ 9 := by
        have := congrArg ByteArray.size hbq
        rw [ByteArray.size_append] at this
        omega
      rw [hIT] at CI
      clear hIT hbr
      go_wp2_with fail
      refine (CL.out wr q c hbr1 HT.out).mono ?_
      rintro e w3 ⟨rfl, hb3⟩
      have hbe3 : Below w.heap.size w w3 := hbr1.trans (hb3.mono hbr1.size)
      have HT3 : Hid (TRow w3 q ts) := HT.out.under hb3
      clear CL HT hb3 hbr1
      go_wp2_with fail
      refine (CI.out _ hbe3).mono ?_
      rintro e w4 ⟨rfl, hb4⟩
      have hbe4 : Below w.heap.size w w4 := hbe3.trans (hb4.mono hbe3.size)
      have HT4 : Hid (TRow w4 q ts) := HT3.out.under hb4
      clear CI HT3 hb4 hbe3
      go_wp2_with fail
      clear hbq
      go_loopw [6, 45] (fun ov iv wr => ∃ (j : Nat) (O : List UInt8), j ≤ i ∧ iv = .int .i64 j ∧ wr.ownsRow w4.heap.size 5 1 ov O.length (bv O) ∧ O.length ≤ 240020 * j ∧ Below w4.heap.size w4 wr ∧ Hid (O = ((ts.take j).map fun t => t.data.toList).flatMap (pieceT br.data.toList))) (fun _ iv _ => i - (intOf iv).toNat)
      case atStart => exact ⟨0, [], Nat.zero_le _, rfl, World.ownsRow_nil _ _ _ _, Nat.zero_le _, Below.refl _ _, rfl⟩
      case round =>
        obtain ⟨j, O, hj, rfl, hown, hO, hbel, HK⟩ := hrel
        have hsz4 := hbel.size
        by_cases hjl : j < i
        · have hjz : (j : Int) < (i : Int) := by omega
          have hjt : j < ts.length := by rw [← hem.out]; exact hjl
          obtain ⟨b5, o5, rfl, hc5⟩ := HT4.out.under hbel (fun e => by rw [e] at hjt; simp at hjt)
          have hcj := hc5 j hjt
          have hsj : (ts.getD j ⟨#[]⟩).size ≤ 240000 := by
            rw [List.getD_eq_getElem?_getD, List.getElem?_eq_getElem hjt]
            exact hts.out _ (List.getElem_mem hjt)
          have HN : Hid (((ts.take (j + 1)).map fun t => t.data.toList).flatMap (pieceT br.data.toList) = ((ts.take j).map fun t => t.data.toList).flatMap (pieceT br.data.toList) ++ pieceT br.data.toList (ts.getD j ⟨#[]⟩).data.toList) := by
            unfold Hid
            rw [ts_take ts j hjt, List.map_append, List.flatMap_append]
            simp
          clear hc5 hjt
          generalize ts.getD j ⟨#[]⟩ = tx at *
          have hXd : (⟨#[45, 45]⟩ ++ br ++ ⟨#[13, 10]⟩ ++ tx ++ ⟨#[13, 10]⟩ : ByteArray).data.toList = pieceT br.data.toList tx.data.toList := by simp [pieceT, dd, crlf2]
          have hk1 : (ByteArray.mk #[45, 45]).size = 2 := rfl
          have hk2 : (ByteArray.mk #[13, 10]).size = 2 := rfl
          have hXs : (⟨#[45, 45]⟩ ++ br ++ ⟨#[13, 10]⟩ ++ tx ++ ⟨#[13, 10]⟩ : ByteArray).size = br.size + tx.size + 6 := by
            rw [ByteArray.size_append, ByteArray.size_append, ByteArray.size_append, ByteArray.size_append, hk1, hk2]; omega
          go_wp2_with (at_builtin; refine Lib.wpList_append_own_string _ rfl (.tmp 49) (.tmp 55) 22 9 rfl w4.heap.size 5 j0 Tryz.underlying22 Tryz.underlying9 gi gz0 gz1 gz2 _ _ _ rfl hown (⟨#[45, 45]⟩ ++ br ++ ⟨#[13, 10]⟩ ++ tx ++ ⟨#[13, 10]⟩) rfl ?e1 ?e2 ?e3 ?_)
          case e1 => rw [hXs]; unfold maxLen; omega
          case e2 => rw [hXs]; omega
          case e3 => exact hsz4
          intro v2 w2 hown2 hg2 _
          have RB2 : Below w4.heap.size w4 w2 := hbel.grown hg2 hsz4 (fun k hk => (hown.lt k hk).1)
          have R2 : w2.ownsRow w4.heap.size 5 1 v2 (O ++ pieceT br.data.toList tx.data.toList).length (bv (O ++ pieceT br.data.toList tx.data.toList)) := by
            have e2 : (O ++ pieceT br.data.toList tx.data.toList).length = O.length + (br.size + tx.size + 6) := by rw [List.length_append, ← hXd, ← Lib.size_eq, hXs]
            rw [e2, bv_append, ← hXd, ← strCells_bv]
            exact hown2
          have hl2 : (O ++ pieceT br.data.toList tx.data.toList).length ≤ 240020 * (j + 1) := by
            rw [List.length_append, ← hXd, ← Lib.size_eq, hXs]; omega
          clear hg2 hown hown2 hXd hXs hcj
          go_wp2_with fail
          go_roundw
          case rel => exact ⟨j + 1, _, by omega, by go_num, R2, hl2, RB2, by unfold Hid; rw [HN.out, ← HK.out]⟩
          case measure => simp [intOf]; omega
        · obtain rfl : j = i := by omega
          have hjz : ¬ (j : Int) < (j : Int) := by omega
          obtain ⟨q7, c7, rfl, _, _, hq7, hbr7⟩ := owned_row hown
          have HOE : Hid (ba O = ba ((ts.map fun t => t.data.toList).flatMap (pieceT br.data.toList))) := by
            unfold Hid
            rw [HK.out, List.take_of_length_le (by rw [← hem.out]; omega)]
          have hOs : (ba O).size ≤ 2900000 := by rw [ba_size]; omega
          have hbe7 : Below w.heap.size w wr := hbe4.trans (hbel.mono hbe4.size)
          have hconv : ∀ w', Below wr.heap.size wr w' → (convert 22 9 (.slice q7 O.length c7)).run Tryz.prog w' = .ok (.string (ba O)) w' := fun w' hb => conv_bytes w' q7 _ c7 O rfl (hbr7.under hb) hq7
          have hb0 : Below wr.heap.size wr wr := Below.refl _ _
          have HR2 : Hid (R = HD ++ ba O ++ ⟨#[45, 45]⟩ ++ br ++ ⟨#[45, 45]⟩ ++ ⟨#[13, 10]⟩) := by unfold Hid; rw [hR.out, HOE.out]
          have hk1 : (ByteArray.mk #[45, 45]).size = 2 := rfl
          have hk2 : (ByteArray.mk #[13, 10]).size = 2 := rfl
          clear hown HK HOE hbr7 hR hbel HT4 hbe4 hO
          generalize ba O = OB at *
          generalize O.length = nO at *
          have s1 : ∀ W, (Op.stringOp .add HD OB).run Tryz.prog W = .ok (.string (HD ++ OB)) W := fun W => run_string_add_sum W _ _ (by omega)
          have s2 : ∀ W, (Op.stringOp .add (HD ++ OB) ⟨#[45, 45]⟩).run Tryz.prog W = .ok (.string (HD ++ OB ++ ⟨#[45, 45]⟩)) W := fun W => run_string_add_sum W _ _ (by rw [ByteArray.size_append]; omega)
          have s3 : ∀ W, (Op.stringOp .add (HD ++ OB ++ ⟨#[45, 45]⟩) br).run Tryz.prog W = .ok (.string (HD ++ OB ++ ⟨#[45, 45]⟩ ++ br)) W := fun W => run_string_add_sum W _ _ (by rw [ByteArray.size_append, ByteArray.size_append]; omega)
          have s4 : ∀ W, (Op.stringOp .add (HD ++ OB ++ ⟨#[45, 45]⟩ ++ br) ⟨#[45, 45]⟩).run Tryz.prog W = .ok (.string (HD ++ OB ++ ⟨#[45, 45]⟩ ++ br ++ ⟨#[45, 45]⟩)) W := fun W => run_string_add_sum W _ _ (by rw [ByteArray.size_append, ByteArray.size_append, ByteArray.size_append]; omega)
          have s5 : ∀ W, (Op.stringOp .add (HD ++ OB ++ ⟨#[45, 45]⟩ ++ br ++ ⟨#[45, 45]⟩) ⟨#[13, 10]⟩).run Tryz.prog W = .ok (.string (HD ++ OB ++ ⟨#[45, 45]⟩ ++ br ++ ⟨#[45, 45]⟩ ++ ⟨#[13, 10]⟩)) W := fun W => run_string_add_sum W _ _ (by rw [ByteArray.size_append, ByteArray.size_append, ByteArray.size_append, ByteArray.size_append]; omega)
          go_wp2_with fail
          go_region_held3 (fun w' => Below wr.heap.size wr w') (first | assumption | exact hb0.drew) (first
            | (go_at_call 58; refine (CH.out _ hbe7.drew).mono ?_; rintro e w8 ⟨rfl, hb8⟩; have hbe8 : Below wr.heap.size wr w8 := (hb0.drew).trans (hb8.mono (Nat.le_refl _)); clear hb8))
          go_wp2_with fail
          go_ret
          exact ⟨by rw [HR2.out]; rfl, hbe7.trans (hbe8.mono hbe7.size)⟩
end Go.Proofs.YtlndhdimamnnlaaGreatDoor

/- part.Check: what the plain function says; nothing that was there is changed. Condition: the part lies there. -/
namespace Go.Proofs.YtlndhdimamnnlaaGreatDoor
open Go.RowKit

/-- part.Check. -/
theorem pcheck_any (p : PT) (pb : Option Addr) (cb : Nat) (pk : Option Addr) (ck F : Nat) (w : World) (hH : PHeld w F p pb cb pk ck) :
    Calls Tryz.prog 23 #[.agg #[.string p.ty, .string p.cs, .string p.id, .string p.loc, .int .i64 p.how, .slice pb p.body.length cb, .slice pk p.kids.length ck]] w fun e w' => e = .returned (.int .i64 ((placesP p).1 : Nat)) ∧ Below w.heap.size w w' := by
  have CC : Hid (∀ w', Below w.heap.size w w' → Calls Tryz.prog 56 #[.agg #[.string p.ty, .string p.cs, .string p.id, .string p.loc, .int .i64 p.how, .slice pb p.body.length cb, .slice pk p.kids.length ck]] w' fun e w'' => CheckedPost w' (placesP p) e w'') := fun w' hb => checked_any p pb cb pk ck F w' (hH.below hb)
  generalize placesP p = R at *
  clear hH
  go_enter Tryz.func23, Tryz.ntmps23
  go_wp2_with fail
  refine (CC.out _ ((Below.refl _ _).alloc (Nat.le_refl _) _)).mono ?_
  rintro e w1 ⟨hb1, h1, h2⟩
  have hbel := ((Below.refl _ w).alloc (Nat.le_refl _) _).trans (hb1.mono (by simp))
  by_cases hr : R.1 = 0
  · obtain ⟨q, c, X, rfl, _, _⟩ := h2 hr
    have HR : Hid (R.1 = 0) := hr
    clear h1 h2 hr CC
    go_wp2_with fail
    go_ret
    exact ⟨by rw [HR.out]; rfl, hbel⟩
  · obtain rfl := h1 hr
    clear h1 h2 CC
    obtain ⟨r, hrr⟩ : ∃ r, R.1 = r := ⟨_, rfl⟩
    have HR : Hid (R.1 = r) := hrr
    simp only [hrr]
    clear hrr hr
    go_wp2_with fail
    go_ret
    exact ⟨by rw [HR.out]; rfl, hbel⟩
end Go.Proofs.YtlndhdimamnnlaaGreatDoor

/- mime.text, mime.Write: what the plain functions say; nothing that was there is changed. Conditions: the part lies there; the tables lie there; internal/bytealg.MaxLen holds a number. -/
namespace Go.Proofs.YtlndhdimamnnlaaGreatDoor
open Go.RowKit

theorem sum_ge (f : Nat) : ∀ ks : List PT, (∀ k ∈ ks, goodP f k) → ks.length ≤ (ks.map (nodesP f)).sum
  | [], _ => Nat.zero_le _
  | k :: ks, h => by
    have h1 := sum_ge f ks (fun x hx => h x (by simp [hx]))
    have h2 : 1 ≤ nodesP f k := by
      have := h k (by simp)
      cases f with
      | zero => rw [goodP] at this; exact absurd this id
      | succ f => rw [nodesP]; omega
    rw [List.length_cons, List.map_cons, List.sum_cons]
    omega
/-- mime.text. -/
theorem text_any : ∀ (f F b o : Nat) (p : PT) (w : World), TEnv w → PAt w F b o p → goodP f p → nodesP f p ≤ 12 →
    Calls Tryz.prog 24 #[.pointer (some ⟨b, o, none⟩)] w fun e w' => e = .returned (.string (ba (textP f p))) ∧ Below w.heap.size w w'
  | 0, _, _, _, _, _, _, _, h, _ => absurd h (by rw [goodP]; exact id)
  | f + 1, F, b, o, p, w, hE, hP, hg, hn => by
    rw [goodP] at hg
    rw [nodesP] at hn
    obtain ⟨a1, a2, a3, a4, a5⟩ := chkA_facts hg.1
    rw [textP]
    cases hm : manyS p.ty.data.toList with
    | false =>
      rw [if_neg (by decide)]
      exact text_one b o F p w hE hP hg.1 hm
    | true =>
      rw [if_pos rfl]
      obtain ⟨m1, m2, m3, m4⟩ := formed_many a5 hm
      have hk : ∀ k ∈ p.kids, (textP f k).length + 100 ≤ 20000 * nodesP f k := fun k hk => text_len f k (hg.2 k hk) (by have := sum_mem f p.kids k hk; omega)
      obtain ⟨s1, s2⟩ := sum_le (textP f) (nodesP f) p.kids hk
      obtain ⟨l1, l2⟩ := least_range (p.kids.map (textP f))
      obtain ⟨b1, b2, b3⟩ := brd_tok (leastP (p.kids.map (textP f))) l1 (by omega)
      have hlen := sum_ge f p.kids hg.2
      have hP2 := hP
      obtain ⟨pb, cb, pk, ck, hC, hH⟩ := hP
      obtain ⟨F', rfl⟩ : ∃ F', F = F' + 1 := by
        cases F with
        | zero => exact absurd hH.2.2.2.2 m1
        | succ F' => exact ⟨F', rfl⟩
      obtain ⟨bk, ok, rfl, hkids⟩ := KAt.each hH.2.2.2.2 m1
      have hts : ∀ k ∈ p.kids, (textP f k).length ≤ 240000 := fun k hkk => by
        have h1 := hk k hkk
        have h2 := sum_mem f p.kids k hkk
        omega
      have hmap : ((p.kids.map fun k => ba (textP f k)).map fun t => t.data.toList) = p.kids.map (textP f) := by
        rw [List.map_map]
        rfl
      have hget : ∀ i, i < p.kids.length → (p.kids.map fun k => ba (textP f k)).getD i ⟨#[]⟩ = ba (textP f (p.kids.getD i pt0)) := fun i hi => by
        simp [List.getD_eq_getElem?_getD, List.getElem?_eq_getElem hi]
      have hmem : ∀ i, i < p.kids.length → p.kids.getD i pt0 ∈ p.kids := fun i hi => by
        rw [List.getD_eq_getElem?_getD, List.getElem?_eq_getElem hi]
        exact List.getElem_mem hi
      refine text_many b o p.kids.length bk ok ck p.ty (p.kids.map fun k => ba (textP f k)) (ba (brT (p.kids.map (textP f)))) (ba (headP p (brT (p.kids.map (textP f))))) _ (leastP (p.kids.map (textP f))) w (by omega) (by have := List.length_pos_iff.2 m1; omega) hH.2.2.2.1.1 ?_ hP2.lt ?_ ?_ hC.1 hC.2.2.2.2.2.2 ?_ ?_ ?_ ?_ ?_ ?_ ?_ ?_
      · unfold Hid; simp
      · rw [ba_size]; exact head_len a1 b1
      · intro t ht
        obtain ⟨k, hk1, rfl⟩ := List.mem_map.1 ht
        rw [ba_size]; exact hts k hk1
      · have := pmany_any p.ty w
        rw [hm] at this
        exact this
      · intro W i hi hW
        rw [hget i hi]
        exact text_any f F' bk (ok + i * 7) (p.kids.getD i pt0) W (hE.below hW) ((hkids i hi).below hW) (hg.2 _ (hmem i hi)) (by have := sum_mem f p.kids _ (hmem i hi); omega)
      · intro W q c hW hT
        obtain ⟨M, hM⟩ := (hE W hW).2.1
        have := least_any q p.kids.length c (p.kids.map fun k => ba (textP f k)) (by simp) W (by omega) (fun t ht => by obtain ⟨k, hk1, rfl⟩ := List.mem_map.1 ht; rw [ba_size]; have := hts k hk1; omega) hT M hM
        rw [hmap] at this
        exact this
      · intro W hW
        refine (Tryz.strconv_Itoa (leastP (p.kids.map (textP f))) (by omega) (by omega) W (hE W hW).2.2).mono ?_
        rintro e w' ⟨rfl, k, os, rfl⟩
        exact ⟨rfl, Lib.below_grow _ W (Nat.le_refl _) k os⟩
      · unfold Hid brT brd
        apply ByteArray.ext
        simp [ba]
      · rw [ba_size]; exact b3
      · intro W hW
        exact head_any b o (F' + 1) p (ba (brT (p.kids.map (textP f)))) W (hP2.below hW) (hE W hW).1 a2 a3 a1 b1
      · unfold Hid
        rw [hmap]
        apply ByteArray.ext
        simp [ba, lastT, dd, crlf2]

theorem bytes_ofM (s : ByteArray) (w : World) (hs : s.size ≤ maxLen) : ∃ (W1 : World) (cap : Nat), (convert 9 22 (.string s)).run Tryz.prog w = .ok (.slice (some ⟨w.heap.size, 0, none⟩) s.size cap) W1 ∧ Below w.heap.size w W1 ∧ BRow W1 (some ⟨w.heap.size, 0, none⟩) s.data.toList ∧ s.size ≤ cap ∧ cap ≤ maxLen := by
  refine ⟨_, _, run_bytes_of_string (P := Tryz.prog) w 9 22 5 s Tryz.underlying9 Tryz.underlying22 Tryz.underlying5, ((Below.refl _ _).drew).alloc (Nat.le_refl _) _, fun _ => ⟨w.heap.size, 0, rfl, fun i hi => ?_⟩, grownCap_ge _ _ _ _, grownCap_le_maxLen _ _ _ _ hs⟩
  have hi' : i < s.data.size := by simpa using hi
  rw [Nat.zero_add]
  refine (World.cell?_alloc_mark w.drew _ _ _ i).trans ?_
  unfold bytesRow
  rw [Array.getElem?_append_left (by simpa using hi')]
  simp [List.getD_eq_getElem?_getD, Array.getElem?_eq_getElem hi']
/-- What Write answers. -/
def WritePost (w : World) (r : Nat × List UInt8) (e : Ending) (w' : World) : Prop := Below w.heap.size w w' ∧ ∃ q c, e = .returned (.tuple #[.slice q r.2.length c, .int .i64 (r.1 : Int)]) ∧ r.2.length ≤ c ∧ c ≤ maxLen ∧ (q = none → c = 0) ∧ BRow w' q r.2
set_option maxHeartbeats 2000000 in
set_option maxRecDepth 100000 in
/-- mime.Write. -/
theorem write_mime (p : PT) (pb : Option Addr) (cb : Nat) (pk : Option Addr) (ck F : Nat) (w : World) (hE : TEnv w) (hH : PHeld w F p pb cb pk ck) :
    Calls Tryz.prog 5 #[.agg #[.string p.ty, .string p.cs, .string p.id, .string p.loc, .int .i64 p.how, .slice pb p.body.length cb, .slice pk p.kids.length ck]] w fun e w' => WritePost w (writeM p) e w' := by
  have CC : Hid (∀ W, Below w.heap.size w W → Calls Tryz.prog 23 #[.agg #[.string p.ty, .string p.cs, .string p.id, .string p.loc, .int .i64 p.how, .slice pb p.body.length cb, .slice pk p.kids.length ck]] W fun e w' => e = .returned (.int .i64 ((placesP p).1 : Nat)) ∧ Below W.heap.size W w') := fun W hb => pcheck_any p pb cb pk ck F W (hH.below hb)
  obtain ⟨V, hV⟩ : ∃ V, V = #[Value.string p.ty, .string p.cs, .string p.id, .string p.loc, .int .i64 p.how, .slice pb p.body.length cb, .slice pk p.kids.length ck] := ⟨_, rfl⟩
  have hPA := boxed hH 25 V hV
  have hb1 : Below w.heap.size w (w.alloc (.cells V 25)) := (Below.refl _ _).alloc (Nat.le_refl _) _
  by_cases hbad : (placesP p).1 = 0
  · obtain ⟨g1, g2⟩ := good_places hbad
    rw [hbad] at CC
    have CT : Hid (∀ W, Below (w.alloc (.cells V 25)).heap.size (w.alloc (.cells V 25)) W → Calls Tryz.prog 24 #[.pointer (some ⟨w.heap.size, 0, none⟩)] W fun e w' => e = .returned (.string (ba (textP 3 p))) ∧ Below W.heap.size W w') := fun W hW => text_any 3 F w.heap.size 0 p W (hE.below (hb1.trans (hW.mono (by simp)))) (hPA.below hW) g1 g2
    have hWM : writeM p = if 40000 < (textP 3 p).length then (2, []) else (0, textP 3 p) := by unfold writeM; rw [if_neg (by rw [hbad]; simp)]
    have htl := text_len 3 p g1 g2
    have hts : (ba (textP 3 p)).size ≤ 240000 := by rw [ba_size]; omega
    have HTS : Hid ((ba (textP 3 p)).size = (textP 3 p).length) := ba_size _
    rw [hWM]
    clear hE hH hbad g1 g2 htl hPA hWM
    by_cases hl : 40000 < (textP 3 p).length
    · rw [if_pos hl]
      have hlz : (40000 : Int) < ((ba (textP 3 p)).size : Int) := by rw [HTS.out]; omega
      generalize ba (textP 3 p) = T at *
      clear HTS hl
      subst hV
      go_enter Tryz.func5, Tryz.ntmps5
      go_wp2_with fail
      refine (CC.out _ hb1).mono ?_
      rintro e w1 ⟨rfl, hb2⟩
      have hbe2 := hb1.trans (hb2.mono (by simp))
      go_wp2_with fail
      refine (CT.out _ hb2).mono ?_
      rintro e w3 ⟨rfl, hb3⟩
      have hbe3 : Below w.heap.size w w3 := hbe2.trans (hb3.mono hbe2.size)
      clear CC CT hb2 hb3 hbe2 hb1
      go_wp2_with fail
      go_ret2
      exact ⟨hbe3, none, 0, rfl, Nat.le_refl _, by decide, fun _ => rfl, fun h => absurd rfl h⟩
    · rw [if_neg hl]
      have hlz : ¬ (40000 : Int) < ((ba (textP 3 p)).size : Int) := by rw [HTS.out]; omega
      generalize textP 3 p = L at *
      have hT4 : (ba L).size ≤ maxLen := by unfold maxLen; omega
      have HD : Hid ((ba L).data.toList = L) := ba_data L
      generalize ba L = T at *
      clear hl
      subst hV
      go_enter Tryz.func5, Tryz.ntmps5
      go_wp2_with fail
      refine (CC.out _ hb1).mono ?_
      rintro e w1 ⟨rfl, hb2⟩
      have hbe2 := hb1.trans (hb2.mono (by simp))
      go_wp2_with fail
      refine (CT.out _ hb2).mono ?_
      rintro e w3 ⟨rfl, hb3⟩
      have hbe3 : Below w.heap.size w w3 := hbe2.trans (hb3.mono hbe2.size)
      clear CC CT hb2 hb3 hbe2 hb1
      obtain ⟨W1, cap, hcv, hbW, hbr, hc1, hc2⟩ := bytes_ofM T w3 hT4
      go_wp2_with fail
      go_ret2
      refine ⟨hbe3.trans (hbW.mono hbe3.size), some ⟨w3.heap.size, 0, none⟩, cap, ?_, ?_, hc2, (fun h => by cases h), ?_⟩
      · rw [← HTS.out]; rfl
      · rw [← HTS.out]; exact hc1
      · rw [HD.out] at hbr; exact hbr
  · have hWM : writeM p = ((placesP p).1, []) := by unfold writeM; rw [if_pos hbad]
    rw [hWM]
    generalize (placesP p).1 = n at *
    have hz : ((n : Int) == 0) = false := by rw [beq_eq_false_iff_ne]; omega
    clear hPA hWM hE hH hbad
    subst hV
    go_enter Tryz.func5, Tryz.ntmps5
    go_wp2_with fail
    refine (CC.out _ hb1).mono ?_
    rintro e w1 ⟨rfl, hb2⟩
    have hbe2 : Below w.heap.size w w1 := hb1.trans (hb2.mono (by simp))
    clear CC hb2 hb1
    go_wp2_with fail
    go_ret2
    exact ⟨hbe2, none, 0, rfl, Nat.le_refl _, by decide, fun _ => rfl, fun h => absurd rfl h⟩
end Go.Proofs.YtlndhdimamnnlaaGreatDoor
