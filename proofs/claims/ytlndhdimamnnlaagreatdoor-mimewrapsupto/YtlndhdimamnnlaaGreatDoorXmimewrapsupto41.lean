/- The walk of the law MimeWraps: it answers true, and nothing that was there is changed. Conditions: the texts lie there, and are no more than some two million bytes; the tables lie there. -/
import Derived.Test.YtlndhdimamnnlaaGreatDoorXmimewrapsupto40
import Derived.Test.YtlndhdimamnnlaaGreatDoorXmimewrapsupto23
import Derived.Deep.RegionHeld3
namespace Go.Proofs.YtlndhdimamnnlaaGreatDoor
open Go.RowKit

theorem br_enc (r : Nat) (h : r < 26) : Utf8.encode (97 + (r : Int)) = ⟨#[UInt8.ofNat (97 + r)]⟩ := by
  have hv : Utf8.valid (97 + (r : Int)) = true := by
    unfold Utf8.valid
    rw [Bool.or_eq_true]
    left
    rw [Bool.and_eq_true, decide_eq_true_iff, decide_eq_true_iff]
    omega
  have hn : (97 + (r : Int)).toNat = 97 + r := by omega
  unfold Utf8.encode
  simp only [hv, if_true, hn]
  rw [if_pos (by omega)]
theorem br_end (r : Nat) (h : r < 26) : endC (UInt8.ofNat (97 + r)) = false := by
  have : ∀ n : Fin 26, endC (UInt8.ofNat (97 + n.val)) = false := by decide +kernel
  exact this ⟨r, h⟩
theorem wb_ext {s t : ByteArray} (h : s.data.toList = t.data.toList) : s = t := by
  cases s; cases t
  simp only [ByteArray.mk.injEq]
  exact Array.toList_inj.1 h
/-- The text behind k rounds. -/
def wTx (A BR : ByteArray) (L : List ByteArray) (k : Nat) : ByteArray := ba (A.data.toList ++ ((L.map (·.data.toList)).take k).flatMap (wrapP BR.data.toList))
theorem wTx_zero (A BR : ByteArray) (L : List ByteArray) : wTx A BR L 0 = A := wb_ext (by rw [wTx, ba_data]; simp)
theorem wTx_succ (A BR : ByteArray) (L : List ByteArray) (k : Nat) (h : k < L.length) : wTx A BR L k ++ (⟨#[13, 10, 45, 45]⟩ ++ BR ++ ⟨#[13, 10]⟩ ++ L.getD k default) = wTx A BR L (k + 1) := by
  apply wb_ext
  have e : (L.map (·.data.toList)).take (k + 1) = (L.map (·.data.toList)).take k ++ [(L.getD k default).data.toList] := by
    rw [List.take_add_one, List.getElem?_map, List.getElem?_eq_getElem h, List.getD_eq_getElem?_getD, List.getElem?_eq_getElem h]
    rfl
  rw [wTx, wTx, e, ba_data]
  simp [ba_data, wrapP, crlf2, dd]
theorem wTx_size (A BR : ByteArray) (L : List ByteArray) : ∀ k, (wTx A BR L k).size ≤ A.size + Lib.lens (L.map (·.data.toList)) + k * (6 + BR.size) := by
  intro k
  have key : ∀ (x : List (List UInt8)), (x.flatMap (wrapP BR.data.toList)).length = Lib.lens x + x.length * (6 + BR.size) := by
    intro x
    induction x with
    | nil => simp [Lib.lens]
    | cons y x ih =>
      rw [List.flatMap_cons, List.length_append, ih]
      simp only [wrapP, crlf2, dd, Lib.lens, List.length_append, List.length_cons, List.length_nil, List.map_cons, List.sum_cons, Nat.succ_mul]
      rw [← Lib.size_eq]
      omega
  rw [wTx, ba_size, List.length_append, key, ← Lib.size_eq]
  have h1 := Lib.lens_take_le (L.map (·.data.toList)) k
  have h2 : ((L.map (·.data.toList)).take k).length ≤ k := List.length_take_le _ _
  have h3 := Nat.mul_le_mul_right (6 + BR.size) h2
  omega
/-- What the row of all texts and the one ahead is joined to. -/
theorem join_row {w : World} {B : Nat} {v : Value} {n : Nat} {l : List ByteArray} (hl : l.length = n) (h1 : 1 ≤ n) (hn : n ≤ 3000000) (ho : w.ownsRow B 9 1 v n (stv l)) (hlen : Lib.lens (l.map (·.data.toList)) ≤ 3000000) :
    ∃ p c, v = .slice p n c ∧ Calls Tryz.prog 19 #[.slice p n c, .string ⟨#[32]⟩] w fun e w' => e = .returned (.string (ba (Lib.join (l.map (·.data.toList)) [32]))) ∧ Below w.heap.size w w' := by
  rcases ho.2 with ⟨e, h⟩ | ⟨g, cap, cur, rfl, hg, hh, hnc, hcp, hcs, htake⟩
  · omega
  · refine ⟨_, _, rfl, ?_⟩
    have hj := join_len [32] (l.map (·.data.toList))
    simp only [List.length_map, List.length_cons, List.length_nil] at hj
    have := Tryz.strings_Join g 0 cap l ⟨#[32]⟩ w (fun j y hy => by
      rw [ho.cellAt (0 + j) (by rw [Nat.zero_add]; have := (List.getElem?_eq_some_iff.1 hy).1; omega)]
      simp [stv, hy]) (Array.getElem?_eq_some_iff.1 hh).1 (by omega) (by omega) (by show (Lib.join _ [32]).length ≤ _; omega)
    rw [hl] at this
    exact this
theorem lens_app (a b : List (List UInt8)) : Lib.lens (a ++ b) = Lib.lens a + Lib.lens b := by simp [Lib.lens]
theorem max_at {w : World} (h : MEnv w) : ∃ m, w.cell? ⟨1, 0, none⟩ = some (.int .i64 m) := (h.2 w (Below.refl _ _)).2.1
theorem wpList_append_own_g {P : Program} (w : World) {ops : Array Oper} {rest : List Oper} {o : Oper} {a : Act} {Q : Exit → Act → World → Prop} (hgd : Region.wanted o (yielded ops a.tmps) = true) (s x : Operand) (t : TypeId)
    (ho : o.op = .call { callee := .builtin .append, args := #[s, x], argTypes := #[t, t] })
    (base : Nat) (e : TypeId) (i : TypeInfo) (z : Value) (size bytes : Nat) (ht : P.underlying t = some (.slice e)) (hi : P.info? e = some i) (hz : i.zero = some z)
    (hsize : i.size = size) (hby : i.bytes = bytes) (hzs : z.cells.size = size) (hsz : 0 < size)
    (v : Value) (n : Nat) (xs : List Value) (hs : a.eval s = v) (hown : w.ownsRow base e size v n xs)
    (ad : Addr) (m c : Nat) (news : List Value) (hx : a.eval x = .slice (some ad) m c) (hl : news.length = m * size) (hnews : ∀ j u, news[j]? = some u → w.cell? (ad.add j) = some u) (h1 : ∀ u ∈ news, u.oneCell' = true)
    (h63 : n + m ≤ maxLen) (hbytes : (n + m) * bytes ≤ 140737488355328) (hbase : base ≤ w.heap.size)
    (h : ∀ v' w', w'.ownsRow base e size v' (n + m) (xs ++ news) → w.grownBy w' v.ownBlock → (v' = .slice none 0 0 ↔ v = .slice none 0 0 ∧ m = 0) → wpList P ops Q rest (a.put o.dst v') w') : wpList P ops Q (o :: rest) a w := by
  rw [wpList, if_pos hgd]
  exact .inl (wp_append_own w s x t ho base e i z size bytes ht hi hz hsize hby hzs hsz v n xs hs hown ad m c news hx hl hnews h1 h63 hbytes hbase h)
theorem bytes_of_freeM (s : ByteArray) (w : World) : ∃ (W1 : World) (cap : Nat), (convert 9 22 (.string s)).run Tryz.prog w = .ok (.slice (some ⟨w.heap.size, 0, none⟩) s.size cap) W1 ∧ Below w.heap.size w W1 ∧ (w.heap.size < W1.heap.size ∧ s.size ≤ cap) ∧
    (∀ i, i < s.size → W1.cell? ⟨w.heap.size, i, none⟩ = some (.int .u8 ((s.data.toList.getD i 0).toNat : Int))) ∧ True := by
  refine ⟨_, _, run_bytes_of_string (P := Tryz.prog) w 9 22 5 s Tryz.underlying9 Tryz.underlying22 Tryz.underlying5, ((Below.refl _ _).drew).alloc (Nat.le_refl _) _, ⟨by show w.heap.size < (w.heap.push _).size; simp, grownCap_ge _ _ _ _⟩, fun i hi => ?_, trivial⟩
  have hi' : i < s.data.size := hi
  refine (World.cell?_alloc_mark w.drew _ _ _ i).trans ?_
  unfold bytesRow
  rw [Array.getElem?_append_left (by simpa using hi')]
  simp [List.getD_eq_getElem?_getD, Array.getElem?_eq_getElem hi']
/-- The pieces that were split are the texts. -/
theorem weq_pieces {w w6 : World} {W5 : Nat} {b o k : Nat} {L : List ByteArray} {v : Value} {Y : List SY} (h1 : 1 ≤ k) (h8 : k ≤ 8) (hk : k ≤ L.length) (hY : Y.map (·.1) = (L.map (·.data.toList)).take k) (hown0 : w6.ownsRow W5 22 1 v ((L.map (·.data.toList)).take k).length (syv Y)) (hso : SOwn w6 W5 Y) (hr : SRow w (some ⟨b, o, none⟩) L) (hb : Below w.heap.size w w6) :
    ∃ p c, v = .slice p k c ∧ ∀ d, Calls Tryz.prog 21 #[.slice p k c, .slice (some ⟨b, o, none⟩) k d, .func (Fn.func 22) #[] #[]] w6 fun e w' => e = .returned (.bool true) ∧ w' = w6 := by
  have hown : w6.ownsRow W5 22 1 v Y.length (syv Y) := by rw [← hY, List.length_map] at hown0; exact hown0
  have hYl : Y.length = k := by
    have := congrArg List.length hY
    simp only [List.length_map, List.length_take] at this
    omega
  rcases hown.2 with ⟨_, h⟩ | ⟨g, cap, cur, rfl, hg, hh, hnc, hcp, hcs, htake⟩
  · omega
  · rw [hYl]
    refine ⟨_, _, rfl, fun d => ?_⟩
    have hne : L ≠ [] := fun e => by rw [e] at hk; simp at hk; omega
    obtain ⟨b', o', e', hcell⟩ := hr hne
    obtain ⟨rfl, rfl⟩ : b = b' ∧ o = o' := by injection e' with e'; injection e' with e1 e2; exact ⟨e1, e2⟩
    have each : ∀ i, i < k → (Y.getD i default).1 = (L.getD i default).data.toList := fun i hi => by
      have := congrArg (·[i]?) hY
      simp only [List.getElem?_map, List.getElem?_take_of_lt hi] at this
      rw [List.getElem?_eq_getElem (by omega), List.getElem?_eq_getElem (by omega)] at this
      simpa [List.getD_eq_getElem?_getD, List.getElem?_eq_getElem (show i < Y.length by omega), List.getElem?_eq_getElem (show i < L.length by omega)] using this
    refine weq_some g 0 b o k cap d w6 (by omega) (fun i => (Y.getD i default).1) (fun i => (Y.getD i default).2.1) (fun i => (Y.getD i default).2.2) (fun i hi => ?_) (fun i hi => ?_) (fun i hi => ?_)
    · rw [hown.cellAt (0 + i) (by omega)]
      simp [syv, List.getD_eq_getElem?_getD, List.getElem?_eq_getElem (show i < Y.length by omega)]
    · have hi' := hcell i (by omega)
      rw [hb.cell (p := ⟨b, o + i, none⟩) (World.block_lt_of_cell? w _ hi'), hi', each i hi]
    · have hm : Y.getD i default ∈ Y := by simp [List.getD_eq_getElem?_getD, List.getElem?_eq_getElem (show i < Y.length by omega)]
      obtain ⟨p, c, e2, k1, k2, k3, k4⟩ := owned_row (hso _ hm)
      injection e2 with e3 e4 e5
      rw [e3, e5]
      exact ⟨k4, k3⟩
set_option maxHeartbeats 8000000 in
set_option maxRecDepth 100000 in
theorem mwraps_none (_u : Unit) (L : List ByteArray) (en : Hid (0 = L.length)) (A B : ByteArray) (num : Int) (w : World) (hE : MEnv w) (_hc : 0 ≤ 0) (hr : Hid (SRow w (none) L)) (hbig : Lib.lens (L.map (·.data.toList)) + L.length + A.size + B.size ≤ 2000000) :
    Calls Tryz.prog 4 #[.slice (none) 0 0, .string A, .string B, .int .i64 num] w fun e w' => e = .returned (.bool true) ∧ Below w.heap.size w w' := by
  obtain ⟨i0, hi, hz0, hz1, hz2⟩ := info_parts info_strM
  have HE : Hid (MEnv w) := hE
  obtain ⟨sm, hsm⟩ : ∃ sm, Lib.lens (L.map (·.data.toList)) = sm := ⟨_, rfl⟩
  have hnn : 0 ≤ 2000000 := by rw [en.out]; omega
  have hbig2 : sm + A.size + B.size + 0 ≤ 2000000 := by rw [en.out]; omega
  have HSM : Hid (Lib.lens (L.map (·.data.toList)) = sm) := hsm
  clear hE hsm hbig
  obtain ⟨M, hMd⟩ : ∃ M, M = min 0 8 := ⟨_, rfl⟩
  have hM1 : M ≤ 0 := by omega
  have hM8 : M ≤ 8 := by omega
  have hmin : min ((0 : Nat) : Int) 8 = (M : Int) := by omega
  have hMc : (M : Int) ≤ ((0 : Nat) : Int) := by omega
  clear hMd
  have hM0 : M = 0 := by omega
  go_enter Tryz.func4, Tryz.ntmps4
  go_wp2_with fail
  refine (at_any num 26 26 rfl _ (by decide) (by decide)).mono ?_
  rintro e w1 ⟨r, hr26, rfl, hw1⟩
  have hw2 := hw1.symm
  subst hw2
  have hr0 : (0 : Int) ≤ (r : Int) := by omega
  have hr1 : (r : Int) < 26 := by omega
  have hr2 : IntKind.i64.wrap (97 + (r : Int)) = 97 + (r : Int) := by rw [IntKind.wrap_i64]; omega
  have hr3 : IntKind.i32.wrap (97 + (r : Int)) = 97 + (r : Int) := by rw [IntKind.wrap_i32]; omega
  have hEn := br_enc r hr26
  have hB2 := br_end r hr26
  generalize UInt8.ofNat (97 + r) = ch at hEn hB2
  obtain ⟨BR, hBR⟩ : ∃ BR : ByteArray, ⟨#[61, 95]⟩ ++ ⟨#[ch]⟩ = BR := ⟨_, rfl⟩
  have hBl : BR.data.toList = [61, 95, ch] := by rw [← hBR]; simp
  have hBs : BR.size = 3 := by rw [Lib.size_eq, hBl]; rfl
  have HBok : Hid (BrOk BR.data.toList) := by
    unfold Hid
    rw [hBl]
    refine ⟨by simp, fun x hx => ?_⟩
    simp only [List.mem_cons, List.not_mem_nil, or_false] at hx
    rcases hx with rfl | rfl | rfl
    · decide
    · decide
    · exact hB2
  have HBs : Hid (BR.size = 3) := hBs
  have hBs3 : BR.size ≤ 3 := by omega
  clear hB2 hBl hBs
  go_wp2_with fail
  clear hBR hEn hr2 hr3 hr0 hr1 hr26
  go_loop [10, 28] (fun tv iv => ∃ (k : Nat) (T : ByteArray), k ≤ M ∧ iv = .int .i64 k ∧ tv = .string T ∧ T.size ≤ 2000080 ∧ Hid (T = wTx A BR L k)) (fun _ iv => M - (intOf iv).toNat)
  case atStart => exact ⟨0, A, Nat.zero_le _, rfl, rfl, by omega, (wTx_zero A BR L).symm⟩
  case round =>
    obtain ⟨k, T, hk, rfl, rfl, hT, HT⟩ := hrel
    by_cases hlt : k < M
    · exact absurd hlt (by omega)
    · obtain rfl : k = M := by omega
      clear hlt
      obtain ⟨TT, hTT⟩ : ∃ TT : ByteArray, T ++ (⟨#[13, 10, 45, 45]⟩ ++ BR ++ ⟨#[45, 45, 13, 10]⟩ ++ B) = TT := ⟨_, rfl⟩
      have hTs : TT.size ≤ 4000100 := by
        rw [← hTT]
        simp only [ByteArray.size_append]
        show T.size + (4 + BR.size + 4 + B.size) ≤ _
        omega
      have HTT : Hid (TT.data.toList = A.data.toList ++ ((L.map (·.data.toList)).take k).flatMap (wrapP BR.data.toList) ++ (crlf2 ++ dd ++ BR.data.toList ++ dd ++ crlf2 ++ B.data.toList)) := by
        unfold Hid
        rw [← hTT, HT.out, wTx]
        simp [ba_data, crlf2, dd]
      have hBB : (⟨#[45, 45]⟩ ++ BR : ByteArray).data.toList = dd ++ BR.data.toList := by simp [dd]
      have hBBs : (⟨#[45, 45]⟩ ++ BR : ByteArray).size ≤ 5 := by simp only [ByteArray.size_append]; show 2 + BR.size ≤ 5; omega
      obtain ⟨DB, hDB⟩ : ∃ DB : ByteArray, ⟨#[45, 45]⟩ ++ BR = DB := ⟨_, rfl⟩
      rw [hDB] at hBB hBBs
      have HDB : Hid (DB.data.toList = dd ++ BR.data.toList) := hBB
      clear HT hBB
      by_cases h4 : (40000 : Int) < (TT.size : Int)
      · go_wp2_with fail
        refine (bundled_any _ HE.out).mono ?_
        rintro e w1 ⟨rfl, hb1⟩
        go_wp2_with fail
        refine (bundled_any _ (HE.out.below hb1)).mono ?_
        rintro e w2 ⟨rfl, hb2⟩
        have hb12 := hb1.trans (hb2.mono hb1.size)
        clear hb1 hb2
        go_wp2
        go_ret
        exact ⟨rfl, hb12⟩
      · have HCL : Hid (∀ W, Below w.heap.size w W → Calls Tryz.prog 20 #[.slice (none) 0 0] W fun e w' => Below W.heap.size W w' ∧ ∃ v, e = .returned v ∧ w'.ownsRow W.heap.size 9 1 v 0 (stv L)) := fun W hW => sclone_any _ 0 0 L en.out W (by omega) (fun _ => ⟨rfl, rfl⟩) (hr.out.below hW)
        go_wp2_with fail
        refine (bundled_any _ HE.out).mono ?_
        rintro e w1 ⟨rfl, hb1⟩
        go_wp2_with fail
        refine (HCL.out _ hb1).mono ?_
        rintro e w2 ⟨hb2, v2, rfl, own2⟩
        clear HCL
        have hbe2 : Below w.heap.size w w2 := hb1.trans (hb2.mono hb1.size)
        have hsz2 := hb2.size
        go_wp2_with (at_builtin; refine wpList_append_own_g _ (by simp [Region.wanted, yielded]; omega) (.tmp 56) (.tmp 58) 41 rfl w1.heap.size 9 i0 (.string ⟨#[]⟩) 1 16 Tryz.underlying41 hi hz0 hz1 hz2 rfl (by decide) _ _ _ rfl (own2.alloc _) ⟨w2.heap.size, 0, none⟩ 1 1 [.string A] rfl rfl (cell_lone1 _ _ _) (one_str _) ?d1 ?d2 ?d3 ?_)
        case d1 => unfold maxLen; omega
        case d2 => omega
        case d3 => simp; omega
        intro v9 w9 own9 g9 _
        have hb9 : Below w.heap.size w w9 := (hbe2.alloc hbe2.size _).grown g9 (by have := hbe2.size; simp; omega) (fun j hj => Nat.le_trans hb1.size (own2.lt j hj).1)
        rw [← stv_snoc] at own9
        obtain ⟨p9, c9, rfl, CJ0⟩ := join_row (l := L ++ [A]) (by rw [List.length_append, ← en.out]; rfl) (by omega) (by omega) own9 (by rw [List.map_append, lens_app, HSM.out]; simp only [List.map_cons, List.map_nil, Lib.lens, List.sum_cons, List.sum_nil]; rw [← Lib.size_eq]; omega)
        have HJL : Hid ((ba (Lib.join ((L ++ [A]).map (·.data.toList)) [32])).size ≤ 5000000) := by
          unfold Hid
          rw [ba_size]
          have hj := join_len [32] ((L ++ [A]).map (·.data.toList))
          rw [List.map_append, lens_app, HSM.out] at hj
          simp only [List.length_append, List.length_map, List.length_cons, List.length_nil, List.map_cons, List.map_nil, Lib.lens, List.sum_cons, List.sum_nil] at hj
          rw [← en.out, ← Lib.size_eq] at hj
          simp only [List.map_append, List.map_cons, List.map_nil]
          omega
        obtain ⟨J, hJ⟩ : ∃ J, ba (Lib.join ((L ++ [A]).map (·.data.toList)) [32]) = J := ⟨_, rfl⟩
        rw [hJ] at CJ0 HJL
        have HJ : Hid (J.data.toList = Lib.join (L.map (·.data.toList) ++ [A.data.toList]) [32]) := by unfold Hid; rw [← hJ, ba_data]; simp
        have CJ : Hid (Calls Tryz.prog 19 #[.slice p9 (0 + 1) c9, .string ⟨#[32]⟩] w9 fun e w' => e = .returned (.string J) ∧ Below w9.heap.size w9 w') := CJ0
        have HCC : Hid (∀ W, Below w.heap.size w W → Calls Tryz.prog 18 #[.string J, .string DB] W fun e w' => e = .returned (.bool (Lib.contains J.data.toList DB.data.toList)) ∧ w' = W) := fun W hW => by
          obtain ⟨m, hm⟩ := max_at (HE.out.below hW)
          exact Tryz.strings_Contains J DB m W (by have := HJL.out; omega) hm
        clear CJ0 hJ own9 own2 g9 hb2 hbe2 hsz2 hb1
        go_wp2_with fail
        refine CJ.out.mono ?_
        rintro e w3 ⟨rfl, hb3⟩
        have hbe3 : Below w.heap.size w w3 := hb9.trans (hb3.mono hb9.size)
        clear CJ hb3 hb9
        go_wp2_with fail
        refine (HCC.out _ hbe3).mono ?_
        rintro e w4 ⟨rfl, hw4⟩
        have hw5 := hw4.symm
        subst hw5
        clear HCC
        cases hct : Lib.contains J.data.toList DB.data.toList
        · have h4' : TT.size ≤ 40000 := by omega
          rw [HJ.out, HDB.out] at hct
          have hsp := wraps_split BR.data.toList A.data.toList B.data.toList HBok.out (by rw [← Lib.size_eq]; omega) (L.map (·.data.toList)) k hct (by rw [← HTT.out, ← Lib.size_eq]; exact h4')
          rw [← HTT.out] at hsp
          obtain ⟨W5, cap5, hcv, hb5, hlt5, hc5, -⟩ := bytes_of_freeM TT w3
          have hr5 : BRow W5 (some ⟨w3.heap.size, 0, none⟩) TT.data.toList := fun _ => ⟨_, _, rfl, fun i hi => by rw [Nat.zero_add]; exact hc5 i (by rw [Lib.size_eq]; exact hi)⟩
          have CS0 := split_any (some ⟨w3.heap.size, 0, none⟩) TT.size cap5 TT.data.toList (Lib.size_eq _) BR W5 hlt5.2 hr5
          rw [hsp] at CS0
          have CS : Hid (Calls Tryz.prog 6 #[.slice (some ⟨w3.heap.size, 0, none⟩) TT.size cap5, .string BR] W5 fun e w' => SplitPost W5 ((L.map (·.data.toList)).take k, 0) e w') := CS0
          have hbe5 : Below w.heap.size w W5 := hbe3.trans (hb5.mono hbe3.size)
          clear CS0 hr5 hc5 hb5 hsp hct hbe3 HTT
          go_wp2_with fail
          refine CS.out.mono ?_
          rintro e w6 ⟨hb6, v6, rfl, -, hok⟩
          obtain ⟨Y, hY, hown, hso⟩ := hok rfl
          have hbe6 : Below w.heap.size w w6 := hbe5.trans (hb6.mono hbe5.size)
          clear CS hok hb6 hbe5
          have hk0 : k = 0 := by omega
          subst hk0
          obtain rfl : Y = [] := by simpa using hY
          obtain ⟨p6, c6, rfl⟩ : ∃ p6 c6, v6 = .slice p6 0 c6 := by
            rcases hown.2 with ⟨rfl, h⟩ | ⟨g, cap, cur, rfl, _⟩
            · exact ⟨_, _, rfl⟩
            · exact ⟨_, _, rfl⟩
          have CQ : Hid (∀ q d, Calls Tryz.prog 21 #[.slice p6 0 c6, .slice q 0 d, .func (Fn.func 22) #[] #[]] w6 fun e w' => e = .returned (.bool true) ∧ w' = w6) := fun q d => weq_none p6 q c6 d w6
          clear hY hown hso
          go_wp2_with fail
          refine (CQ.out _ _).mono ?_
          rintro e w7 ⟨rfl, hw7⟩
          have hw8 := hw7.symm
          subst hw8
          go_wp2
          go_ret
          exact ⟨rfl, hbe6⟩
        · clear hct
          go_wp2_with fail
          refine (bundled_any _ (HE.out.below hbe3)).mono ?_
          rintro e w5 ⟨rfl, hb5⟩
          have hbe5 : Below w.heap.size w w5 := hbe3.trans (hb5.mono hbe3.size)
          clear hb5
          go_wp2
          go_ret
          exact ⟨rfl, hbe5⟩
set_option maxHeartbeats 8000000 in
set_option maxRecDepth 100000 in
theorem mwraps_zero (q : Addr) (c : Nat) (L : List ByteArray) (en : Hid (0 = L.length)) (A B : ByteArray) (num : Int) (w : World) (hE : MEnv w) (hc : 0 ≤ c) (hr : Hid (SRow w (some q) L)) (hbig : Lib.lens (L.map (·.data.toList)) + L.length + A.size + B.size ≤ 2000000) :
    Calls Tryz.prog 4 #[.slice (some q) 0 c, .string A, .string B, .int .i64 num] w fun e w' => e = .returned (.bool true) ∧ Below w.heap.size w w' := by
  obtain ⟨i0, hi, hz0, hz1, hz2⟩ := info_parts info_strM
  have HE : Hid (MEnv w) := hE
  obtain ⟨sm, hsm⟩ : ∃ sm, Lib.lens (L.map (·.data.toList)) = sm := ⟨_, rfl⟩
  have hnn : 0 ≤ 2000000 := by rw [en.out]; omega
  have hbig2 : sm + A.size + B.size + 0 ≤ 2000000 := by rw [en.out]; omega
  have HSM : Hid (Lib.lens (L.map (·.data.toList)) = sm) := hsm
  clear hE hsm hbig
  obtain ⟨M, hMd⟩ : ∃ M, M = min 0 8 := ⟨_, rfl⟩
  have hM1 : M ≤ 0 := by omega
  have hM8 : M ≤ 8 := by omega
  have hmin : min ((0 : Nat) : Int) 8 = (M : Int) := by omega
  have hMc : (M : Int) ≤ ((c : Nat) : Int) := by omega
  clear hMd
  have hM0 : M = 0 := by omega
  go_enter Tryz.func4, Tryz.ntmps4
  go_wp2_with fail
  refine (at_any num 26 26 rfl _ (by decide) (by decide)).mono ?_
  rintro e w1 ⟨r, hr26, rfl, hw1⟩
  have hw2 := hw1.symm
  subst hw2
  have hr0 : (0 : Int) ≤ (r : Int) := by omega
  have hr1 : (r : Int) < 26 := by omega
  have hr2 : IntKind.i64.wrap (97 + (r : Int)) = 97 + (r : Int) := by rw [IntKind.wrap_i64]; omega
  have hr3 : IntKind.i32.wrap (97 + (r : Int)) = 97 + (r : Int) := by rw [IntKind.wrap_i32]; omega
  have hEn := br_enc r hr26
  have hB2 := br_end r hr26
  generalize UInt8.ofNat (97 + r) = ch at hEn hB2
  obtain ⟨BR, hBR⟩ : ∃ BR : ByteArray, ⟨#[61, 95]⟩ ++ ⟨#[ch]⟩ = BR := ⟨_, rfl⟩
  have hBl : BR.data.toList = [61, 95, ch] := by rw [← hBR]; simp
  have hBs : BR.size = 3 := by rw [Lib.size_eq, hBl]; rfl
  have HBok : Hid (BrOk BR.data.toList) := by
    unfold Hid
    rw [hBl]
    refine ⟨by simp, fun x hx => ?_⟩
    simp only [List.mem_cons, List.not_mem_nil, or_false] at hx
    rcases hx with rfl | rfl | rfl
    · decide
    · decide
    · exact hB2
  have HBs : Hid (BR.size = 3) := hBs
  have hBs3 : BR.size ≤ 3 := by omega
  clear hB2 hBl hBs
  go_wp2_with fail
  clear hBR hEn hr2 hr3 hr0 hr1 hr26
  go_loop [10, 28] (fun tv iv => ∃ (k : Nat) (T : ByteArray), k ≤ M ∧ iv = .int .i64 k ∧ tv = .string T ∧ T.size ≤ 2000080 ∧ Hid (T = wTx A BR L k)) (fun _ iv => M - (intOf iv).toNat)
  case atStart => exact ⟨0, A, Nat.zero_le _, rfl, rfl, by omega, (wTx_zero A BR L).symm⟩
  case round =>
    obtain ⟨k, T, hk, rfl, rfl, hT, HT⟩ := hrel
    by_cases hlt : k < M
    · exact absurd hlt (by omega)
    · obtain rfl : k = M := by omega
      clear hlt
      obtain ⟨TT, hTT⟩ : ∃ TT : ByteArray, T ++ (⟨#[13, 10, 45, 45]⟩ ++ BR ++ ⟨#[45, 45, 13, 10]⟩ ++ B) = TT := ⟨_, rfl⟩
      have hTs : TT.size ≤ 4000100 := by
        rw [← hTT]
        simp only [ByteArray.size_append]
        show T.size + (4 + BR.size + 4 + B.size) ≤ _
        omega
      have HTT : Hid (TT.data.toList = A.data.toList ++ ((L.map (·.data.toList)).take k).flatMap (wrapP BR.data.toList) ++ (crlf2 ++ dd ++ BR.data.toList ++ dd ++ crlf2 ++ B.data.toList)) := by
        unfold Hid
        rw [← hTT, HT.out, wTx]
        simp [ba_data, crlf2, dd]
      have hBB : (⟨#[45, 45]⟩ ++ BR : ByteArray).data.toList = dd ++ BR.data.toList := by simp [dd]
      have hBBs : (⟨#[45, 45]⟩ ++ BR : ByteArray).size ≤ 5 := by simp only [ByteArray.size_append]; show 2 + BR.size ≤ 5; omega
      obtain ⟨DB, hDB⟩ : ∃ DB : ByteArray, ⟨#[45, 45]⟩ ++ BR = DB := ⟨_, rfl⟩
      rw [hDB] at hBB hBBs
      have HDB : Hid (DB.data.toList = dd ++ BR.data.toList) := hBB
      clear HT hBB
      by_cases h4 : (40000 : Int) < (TT.size : Int)
      · go_wp2_with fail
        refine (bundled_any _ HE.out).mono ?_
        rintro e w1 ⟨rfl, hb1⟩
        go_wp2_with fail
        refine (bundled_any _ (HE.out.below hb1)).mono ?_
        rintro e w2 ⟨rfl, hb2⟩
        have hb12 := hb1.trans (hb2.mono hb1.size)
        clear hb1 hb2
        go_wp2
        go_ret
        exact ⟨rfl, hb12⟩
      · have HCL : Hid (∀ W, Below w.heap.size w W → Calls Tryz.prog 20 #[.slice (some q) 0 c] W fun e w' => Below W.heap.size W w' ∧ ∃ v, e = .returned v ∧ w'.ownsRow W.heap.size 9 1 v 0 (stv L)) := fun W hW => sclone_any _ 0 c L en.out W (by omega) (fun h => by cases h) (hr.out.below hW)
        go_wp2_with fail
        refine (bundled_any _ HE.out).mono ?_
        rintro e w1 ⟨rfl, hb1⟩
        go_wp2_with fail
        refine (HCL.out _ hb1).mono ?_
        rintro e w2 ⟨hb2, v2, rfl, own2⟩
        clear HCL
        have hbe2 : Below w.heap.size w w2 := hb1.trans (hb2.mono hb1.size)
        have hsz2 := hb2.size
        go_wp2_with (at_builtin; refine wpList_append_own_g _ (by simp [Region.wanted, yielded]; omega) (.tmp 56) (.tmp 58) 41 rfl w1.heap.size 9 i0 (.string ⟨#[]⟩) 1 16 Tryz.underlying41 hi hz0 hz1 hz2 rfl (by decide) _ _ _ rfl (own2.alloc _) ⟨w2.heap.size, 0, none⟩ 1 1 [.string A] rfl rfl (cell_lone1 _ _ _) (one_str _) ?d1 ?d2 ?d3 ?_)
        case d1 => unfold maxLen; omega
        case d2 => omega
        case d3 => simp; omega
        intro v9 w9 own9 g9 _
        have hb9 : Below w.heap.size w w9 := (hbe2.alloc hbe2.size _).grown g9 (by have := hbe2.size; simp; omega) (fun j hj => Nat.le_trans hb1.size (own2.lt j hj).1)
        rw [← stv_snoc] at own9
        obtain ⟨p9, c9, rfl, CJ0⟩ := join_row (l := L ++ [A]) (by rw [List.length_append, ← en.out]; rfl) (by omega) (by omega) own9 (by rw [List.map_append, lens_app, HSM.out]; simp only [List.map_cons, List.map_nil, Lib.lens, List.sum_cons, List.sum_nil]; rw [← Lib.size_eq]; omega)
        have HJL : Hid ((ba (Lib.join ((L ++ [A]).map (·.data.toList)) [32])).size ≤ 5000000) := by
          unfold Hid
          rw [ba_size]
          have hj := join_len [32] ((L ++ [A]).map (·.data.toList))
          rw [List.map_append, lens_app, HSM.out] at hj
          simp only [List.length_append, List.length_map, List.length_cons, List.length_nil, List.map_cons, List.map_nil, Lib.lens, List.sum_cons, List.sum_nil] at hj
          rw [← en.out, ← Lib.size_eq] at hj
          simp only [List.map_append, List.map_cons, List.map_nil]
          omega
        obtain ⟨J, hJ⟩ : ∃ J, ba (Lib.join ((L ++ [A]).map (·.data.toList)) [32]) = J := ⟨_, rfl⟩
        rw [hJ] at CJ0 HJL
        have HJ : Hid (J.data.toList = Lib.join (L.map (·.data.toList) ++ [A.data.toList]) [32]) := by unfold Hid; rw [← hJ, ba_data]; simp
        have CJ : Hid (Calls Tryz.prog 19 #[.slice p9 (0 + 1) c9, .string ⟨#[32]⟩] w9 fun e w' => e = .returned (.string J) ∧ Below w9.heap.size w9 w') := CJ0
        have HCC : Hid (∀ W, Below w.heap.size w W → Calls Tryz.prog 18 #[.string J, .string DB] W fun e w' => e = .returned (.bool (Lib.contains J.data.toList DB.data.toList)) ∧ w' = W) := fun W hW => by
          obtain ⟨m, hm⟩ := max_at (HE.out.below hW)
          exact Tryz.strings_Contains J DB m W (by have := HJL.out; omega) hm
        clear CJ0 hJ own9 own2 g9 hb2 hbe2 hsz2 hb1
        go_wp2_with fail
        refine CJ.out.mono ?_
        rintro e w3 ⟨rfl, hb3⟩
        have hbe3 : Below w.heap.size w w3 := hb9.trans (hb3.mono hb9.size)
        clear CJ hb3 hb9
        go_wp2_with fail
        refine (HCC.out _ hbe3).mono ?_
        rintro e w4 ⟨rfl, hw4⟩
        have hw5 := hw4.symm
        subst hw5
        clear HCC
        cases hct : Lib.contains J.data.toList DB.data.toList
        · have h4' : TT.size ≤ 40000 := by omega
          rw [HJ.out, HDB.out] at hct
          have hsp := wraps_split BR.data.toList A.data.toList B.data.toList HBok.out (by rw [← Lib.size_eq]; omega) (L.map (·.data.toList)) k hct (by rw [← HTT.out, ← Lib.size_eq]; exact h4')
          rw [← HTT.out] at hsp
          obtain ⟨W5, cap5, hcv, hb5, hlt5, hc5, -⟩ := bytes_of_freeM TT w3
          have hr5 : BRow W5 (some ⟨w3.heap.size, 0, none⟩) TT.data.toList := fun _ => ⟨_, _, rfl, fun i hi => by rw [Nat.zero_add]; exact hc5 i (by rw [Lib.size_eq]; exact hi)⟩
          have CS0 := split_any (some ⟨w3.heap.size, 0, none⟩) TT.size cap5 TT.data.toList (Lib.size_eq _) BR W5 hlt5.2 hr5
          rw [hsp] at CS0
          have CS : Hid (Calls Tryz.prog 6 #[.slice (some ⟨w3.heap.size, 0, none⟩) TT.size cap5, .string BR] W5 fun e w' => SplitPost W5 ((L.map (·.data.toList)).take k, 0) e w') := CS0
          have hbe5 : Below w.heap.size w W5 := hbe3.trans (hb5.mono hbe3.size)
          clear CS0 hr5 hc5 hb5 hsp hct hbe3 HTT
          go_wp2_with fail
          refine CS.out.mono ?_
          rintro e w6 ⟨hb6, v6, rfl, -, hok⟩
          obtain ⟨Y, hY, hown, hso⟩ := hok rfl
          have hbe6 : Below w.heap.size w w6 := hbe5.trans (hb6.mono hbe5.size)
          clear CS hok hb6 hbe5
          have hk0 : k = 0 := by omega
          subst hk0
          obtain rfl : Y = [] := by simpa using hY
          obtain ⟨p6, c6, rfl⟩ : ∃ p6 c6, v6 = .slice p6 0 c6 := by
            rcases hown.2 with ⟨rfl, h⟩ | ⟨g, cap, cur, rfl, _⟩
            · exact ⟨_, _, rfl⟩
            · exact ⟨_, _, rfl⟩
          have CQ : Hid (∀ q d, Calls Tryz.prog 21 #[.slice p6 0 c6, .slice q 0 d, .func (Fn.func 22) #[] #[]] w6 fun e w' => e = .returned (.bool true) ∧ w' = w6) := fun q d => weq_none p6 q c6 d w6
          clear hY hown hso
          go_wp2_with fail
          refine (CQ.out _ _).mono ?_
          rintro e w7 ⟨rfl, hw7⟩
          have hw8 := hw7.symm
          subst hw8
          go_wp2
          go_ret
          exact ⟨rfl, hbe6⟩
        · clear hct
          go_wp2_with fail
          refine (bundled_any _ (HE.out.below hbe3)).mono ?_
          rintro e w5 ⟨rfl, hb5⟩
          have hbe5 : Below w.heap.size w w5 := hbe3.trans (hb5.mono hbe3.size)
          clear hb5
          go_wp2
          go_ret
          exact ⟨rfl, hbe5⟩
set_option maxHeartbeats 8000000 in
set_option maxRecDepth 100000 in
theorem mwraps_some (b o n c : Nat) (L : List ByteArray) (en : Hid (n = L.length)) (A B : ByteArray) (num : Int) (w : World) (hE : MEnv w) (hc : n ≤ c) (hn1 : 1 ≤ n) (hr : Hid (SRow w (some ⟨b, o, none⟩) L)) (hbig : Lib.lens (L.map (·.data.toList)) + L.length + A.size + B.size ≤ 2000000) :
    Calls Tryz.prog 4 #[.slice (some ⟨b, o, none⟩) n c, .string A, .string B, .int .i64 num] w fun e w' => e = .returned (.bool true) ∧ Below w.heap.size w w' := by
  obtain ⟨i0, hi, hz0, hz1, hz2⟩ := info_parts info_strM
  have HE : Hid (MEnv w) := hE
  obtain ⟨sm, hsm⟩ : ∃ sm, Lib.lens (L.map (·.data.toList)) = sm := ⟨_, rfl⟩
  have hnn : n ≤ 2000000 := by rw [en.out]; omega
  have hbig2 : sm + A.size + B.size + n ≤ 2000000 := by rw [en.out]; omega
  have HSM : Hid (Lib.lens (L.map (·.data.toList)) = sm) := hsm
  clear hE hsm hbig
  obtain ⟨M, hMd⟩ : ∃ M, M = min n 8 := ⟨_, rfl⟩
  have hM1 : M ≤ n := by omega
  have hM8 : M ≤ 8 := by omega
  have hmin : min ((n : Nat) : Int) 8 = (M : Int) := by omega
  have hMc : (M : Int) ≤ ((c : Nat) : Int) := by omega
  clear hMd
  have hk1' : Hid (1 ≤ M) := (by omega : 1 ≤ M)
  go_enter Tryz.func4, Tryz.ntmps4
  go_wp2_with fail
  refine (at_any num 26 26 rfl _ (by decide) (by decide)).mono ?_
  rintro e w1 ⟨r, hr26, rfl, hw1⟩
  have hw2 := hw1.symm
  subst hw2
  have hr0 : (0 : Int) ≤ (r : Int) := by omega
  have hr1 : (r : Int) < 26 := by omega
  have hr2 : IntKind.i64.wrap (97 + (r : Int)) = 97 + (r : Int) := by rw [IntKind.wrap_i64]; omega
  have hr3 : IntKind.i32.wrap (97 + (r : Int)) = 97 + (r : Int) := by rw [IntKind.wrap_i32]; omega
  have hEn := br_enc r hr26
  have hB2 := br_end r hr26
  generalize UInt8.ofNat (97 + r) = ch at hEn hB2
  obtain ⟨BR, hBR⟩ : ∃ BR : ByteArray, ⟨#[61, 95]⟩ ++ ⟨#[ch]⟩ = BR := ⟨_, rfl⟩
  have hBl : BR.data.toList = [61, 95, ch] := by rw [← hBR]; simp
  have hBs : BR.size = 3 := by rw [Lib.size_eq, hBl]; rfl
  have HBok : Hid (BrOk BR.data.toList) := by
    unfold Hid
    rw [hBl]
    refine ⟨by simp, fun x hx => ?_⟩
    simp only [List.mem_cons, List.not_mem_nil, or_false] at hx
    rcases hx with rfl | rfl | rfl
    · decide
    · decide
    · exact hB2
  have HBs : Hid (BR.size = 3) := hBs
  have hBs3 : BR.size ≤ 3 := by omega
  clear hB2 hBl hBs
  go_wp2_with fail
  clear hBR hEn hr2 hr3 hr0 hr1 hr26
  go_loop [10, 28] (fun tv iv => ∃ (k : Nat) (T : ByteArray), k ≤ M ∧ iv = .int .i64 k ∧ tv = .string T ∧ T.size ≤ 2000080 ∧ Hid (T = wTx A BR L k)) (fun _ iv => M - (intOf iv).toNat)
  case atStart => exact ⟨0, A, Nat.zero_le _, rfl, rfl, by omega, (wTx_zero A BR L).symm⟩
  case round =>
    obtain ⟨k, T, hk, rfl, rfl, hT, HT⟩ := hrel
    by_cases hlt : k < M
    · have hlz : (k : Int) < (M : Int) := by omega
      have hkl : k < L.length := by rw [← en.out]; omega
      obtain ⟨b', o', e', hcell'⟩ := hr.out (fun e => by rw [e] at hkl; exact absurd hkl (by simp))
      obtain ⟨rfl, rfl⟩ : b = b' ∧ o = o' := by injection e' with e'; injection e' with e1 e2; exact ⟨e1, e2⟩
      have hcell := hcell' k hkl
      have hsz := wTx_size A BR L (k + 1)
      rw [HSM.out, HBs.out] at hsz
      have hnx := wTx_succ A BR L k hkl
      rw [← HT.out] at hnx
      have hsx : (L.getD k default).size ≤ 2000080 := by
        have h1 := congrArg ByteArray.size hnx
        simp only [ByteArray.size_append] at h1
        omega
      generalize L.getD k default = sx at *
      have HNX : Hid (T ++ (⟨#[13, 10, 45, 45]⟩ ++ BR ++ ⟨#[13, 10]⟩ ++ sx) = wTx A BR L (k + 1)) := hnx
      have hsz2 : (T ++ (⟨#[13, 10, 45, 45]⟩ ++ BR ++ ⟨#[13, 10]⟩ ++ sx)).size ≤ 2000080 := by rw [hnx]; omega
      clear hcell' e' hnx hsz HT
      go_wp2_with fail
      go_round
      case rel => exact ⟨k + 1, _, by omega, by go_num, rfl, hsz2, HNX⟩
      case measure => simp [intOf]; omega
    · obtain rfl : k = M := by omega
      clear hlt
      obtain ⟨TT, hTT⟩ : ∃ TT : ByteArray, T ++ (⟨#[13, 10, 45, 45]⟩ ++ BR ++ ⟨#[45, 45, 13, 10]⟩ ++ B) = TT := ⟨_, rfl⟩
      have hTs : TT.size ≤ 4000100 := by
        rw [← hTT]
        simp only [ByteArray.size_append]
        show T.size + (4 + BR.size + 4 + B.size) ≤ _
        omega
      have HTT : Hid (TT.data.toList = A.data.toList ++ ((L.map (·.data.toList)).take k).flatMap (wrapP BR.data.toList) ++ (crlf2 ++ dd ++ BR.data.toList ++ dd ++ crlf2 ++ B.data.toList)) := by
        unfold Hid
        rw [← hTT, HT.out, wTx]
        simp [ba_data, crlf2, dd]
      have hBB : (⟨#[45, 45]⟩ ++ BR : ByteArray).data.toList = dd ++ BR.data.toList := by simp [dd]
      have hBBs : (⟨#[45, 45]⟩ ++ BR : ByteArray).size ≤ 5 := by simp only [ByteArray.size_append]; show 2 + BR.size ≤ 5; omega
      obtain ⟨DB, hDB⟩ : ∃ DB : ByteArray, ⟨#[45, 45]⟩ ++ BR = DB := ⟨_, rfl⟩
      rw [hDB] at hBB hBBs
      have HDB : Hid (DB.data.toList = dd ++ BR.data.toList) := hBB
      clear HT hBB
      by_cases h4 : (40000 : Int) < (TT.size : Int)
      · go_wp2_with fail
        refine (bundled_any _ HE.out).mono ?_
        rintro e w1 ⟨rfl, hb1⟩
        go_wp2_with fail
        refine (bundled_any _ (HE.out.below hb1)).mono ?_
        rintro e w2 ⟨rfl, hb2⟩
        have hb12 := hb1.trans (hb2.mono hb1.size)
        clear hb1 hb2
        go_wp2
        go_ret
        exact ⟨rfl, hb12⟩
      · have HCL : Hid (∀ W, Below w.heap.size w W → Calls Tryz.prog 20 #[.slice (some ⟨b, o, none⟩) n c] W fun e w' => Below W.heap.size W w' ∧ ∃ v, e = .returned v ∧ w'.ownsRow W.heap.size 9 1 v n (stv L)) := fun W hW => sclone_any _ n c L en.out W (by omega) (fun h => by cases h) (hr.out.below hW)
        go_wp2_with fail
        refine (bundled_any _ HE.out).mono ?_
        rintro e w1 ⟨rfl, hb1⟩
        go_wp2_with fail
        refine (HCL.out _ hb1).mono ?_
        rintro e w2 ⟨hb2, v2, rfl, own2⟩
        clear HCL
        have hbe2 : Below w.heap.size w w2 := hb1.trans (hb2.mono hb1.size)
        have hsz2 := hb2.size
        go_wp2_with (at_builtin; refine wpList_append_own_g _ (by simp [Region.wanted, yielded]; omega) (.tmp 56) (.tmp 58) 41 rfl w1.heap.size 9 i0 (.string ⟨#[]⟩) 1 16 Tryz.underlying41 hi hz0 hz1 hz2 rfl (by decide) _ _ _ rfl (own2.alloc _) ⟨w2.heap.size, 0, none⟩ 1 1 [.string A] rfl rfl (cell_lone1 _ _ _) (one_str _) ?d1 ?d2 ?d3 ?_)
        case d1 => unfold maxLen; omega
        case d2 => omega
        case d3 => simp; omega
        intro v9 w9 own9 g9 _
        have hb9 : Below w.heap.size w w9 := (hbe2.alloc hbe2.size _).grown g9 (by have := hbe2.size; simp; omega) (fun j hj => Nat.le_trans hb1.size (own2.lt j hj).1)
        rw [← stv_snoc] at own9
        obtain ⟨p9, c9, rfl, CJ0⟩ := join_row (l := L ++ [A]) (by rw [List.length_append, ← en.out]; rfl) (by omega) (by omega) own9 (by rw [List.map_append, lens_app, HSM.out]; simp only [List.map_cons, List.map_nil, Lib.lens, List.sum_cons, List.sum_nil]; rw [← Lib.size_eq]; omega)
        have HJL : Hid ((ba (Lib.join ((L ++ [A]).map (·.data.toList)) [32])).size ≤ 5000000) := by
          unfold Hid
          rw [ba_size]
          have hj := join_len [32] ((L ++ [A]).map (·.data.toList))
          rw [List.map_append, lens_app, HSM.out] at hj
          simp only [List.length_append, List.length_map, List.length_cons, List.length_nil, List.map_cons, List.map_nil, Lib.lens, List.sum_cons, List.sum_nil] at hj
          rw [← en.out, ← Lib.size_eq] at hj
          simp only [List.map_append, List.map_cons, List.map_nil]
          omega
        obtain ⟨J, hJ⟩ : ∃ J, ba (Lib.join ((L ++ [A]).map (·.data.toList)) [32]) = J := ⟨_, rfl⟩
        rw [hJ] at CJ0 HJL
        have HJ : Hid (J.data.toList = Lib.join (L.map (·.data.toList) ++ [A.data.toList]) [32]) := by unfold Hid; rw [← hJ, ba_data]; simp
        have CJ : Hid (Calls Tryz.prog 19 #[.slice p9 (n + 1) c9, .string ⟨#[32]⟩] w9 fun e w' => e = .returned (.string J) ∧ Below w9.heap.size w9 w') := CJ0
        have HCC : Hid (∀ W, Below w.heap.size w W → Calls Tryz.prog 18 #[.string J, .string DB] W fun e w' => e = .returned (.bool (Lib.contains J.data.toList DB.data.toList)) ∧ w' = W) := fun W hW => by
          obtain ⟨m, hm⟩ := max_at (HE.out.below hW)
          exact Tryz.strings_Contains J DB m W (by have := HJL.out; omega) hm
        clear CJ0 hJ own9 own2 g9 hb2 hbe2 hsz2 hb1
        go_wp2_with fail
        refine CJ.out.mono ?_
        rintro e w3 ⟨rfl, hb3⟩
        have hbe3 : Below w.heap.size w w3 := hb9.trans (hb3.mono hb9.size)
        clear CJ hb3 hb9
        go_wp2_with fail
        refine (HCC.out _ hbe3).mono ?_
        rintro e w4 ⟨rfl, hw4⟩
        have hw5 := hw4.symm
        subst hw5
        clear HCC
        cases hct : Lib.contains J.data.toList DB.data.toList
        · have h4' : TT.size ≤ 40000 := by omega
          rw [HJ.out, HDB.out] at hct
          have hsp := wraps_split BR.data.toList A.data.toList B.data.toList HBok.out (by rw [← Lib.size_eq]; omega) (L.map (·.data.toList)) k hct (by rw [← HTT.out, ← Lib.size_eq]; exact h4')
          rw [← HTT.out] at hsp
          obtain ⟨W5, cap5, hcv, hb5, hlt5, hc5, -⟩ := bytes_of_freeM TT w3
          have hr5 : BRow W5 (some ⟨w3.heap.size, 0, none⟩) TT.data.toList := fun _ => ⟨_, _, rfl, fun i hi => by rw [Nat.zero_add]; exact hc5 i (by rw [Lib.size_eq]; exact hi)⟩
          have CS0 := split_any (some ⟨w3.heap.size, 0, none⟩) TT.size cap5 TT.data.toList (Lib.size_eq _) BR W5 hlt5.2 hr5
          rw [hsp] at CS0
          have CS : Hid (Calls Tryz.prog 6 #[.slice (some ⟨w3.heap.size, 0, none⟩) TT.size cap5, .string BR] W5 fun e w' => SplitPost W5 ((L.map (·.data.toList)).take k, 0) e w') := CS0
          have hbe5 : Below w.heap.size w W5 := hbe3.trans (hb5.mono hbe3.size)
          clear CS0 hr5 hc5 hb5 hsp hct hbe3 HTT
          go_wp2_with fail
          refine CS.out.mono ?_
          rintro e w6 ⟨hb6, v6, rfl, -, hok⟩
          obtain ⟨Y, hY, hown, hso⟩ := hok rfl
          have hbe6 : Below w.heap.size w w6 := hbe5.trans (hb6.mono hbe5.size)
          clear CS hok hb6 hbe5
          have hk1 : 1 ≤ k := hk1'.out
          obtain ⟨p6, c6, rfl, CQ0⟩ := weq_pieces hk1 hM8 (by rw [← en.out]; exact hM1) hY hown hso hr.out hbe6
          have CQ : Hid (∀ d, Calls Tryz.prog 21 #[.slice p6 k c6, .slice (some ⟨b, o, none⟩) k d, .func (Fn.func 22) #[] #[]] w6 fun e w' => e = .returned (.bool true) ∧ w' = w6) := CQ0
          clear CQ0
          clear hY hown hso
          go_wp2_with fail
          refine (CQ.out _).mono ?_
          rintro e w7 ⟨rfl, hw7⟩
          have hw8 := hw7.symm
          subst hw8
          go_wp2
          go_ret
          exact ⟨rfl, hbe6⟩
        · clear hct
          go_wp2_with fail
          refine (bundled_any _ (HE.out.below hbe3)).mono ?_
          rintro e w5 ⟨rfl, hb5⟩
          have hbe5 : Below w.heap.size w w5 := hbe3.trans (hb5.mono hbe3.size)
          clear hb5
          go_wp2
          go_ret
          exact ⟨rfl, hbe5⟩
/-- MimeWraps. -/
theorem mwraps_any (p : Option Addr) (n c : Nat) (L : List ByteArray) (en : n = L.length) (A B : ByteArray) (num : Int) (w : World) (hE : MEnv w) (hc : n ≤ c) (hp : p = none → n = 0 ∧ c = 0) (hr : SRow w p L) (hbig : Lib.lens (L.map (·.data.toList)) + L.length + A.size + B.size ≤ 2000000) :
    Calls Tryz.prog 4 #[.slice p n c, .string A, .string B, .int .i64 num] w fun e w' => e = .returned (.bool true) ∧ Below w.heap.size w w' := by
  by_cases h0 : L = []
  · have hn0 : n = 0 := by rw [en, h0]; rfl
    cases p with
    | none =>
      obtain ⟨-, rfl⟩ := hp rfl
      subst hn0
      exact mwraps_none () L en A B num w hE hc hr hbig
    | some a =>
      subst hn0
      exact mwraps_zero a c L en A B num w hE hc hr hbig
  · obtain ⟨b, o, rfl, hcell⟩ := hr h0
    exact mwraps_some b o n c L en A B num w hE hc (by rw [en]; exact List.length_pos_iff.2 h0) (fun _ => ⟨b, o, rfl, hcell⟩) hbig
end Go.Proofs.YtlndhdimamnnlaaGreatDoor
