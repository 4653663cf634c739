/- slices.Replace of owned bytes: by as many. -/
import Derived.Test.YtdlnlepecdcmjaaDoorXlinksaysupto21
import Derived.Test.YtdlnlepecdcmjaaDoorXlinksaysupto19
namespace Go.Proofs.YtdlnlepecdcmjaaDoor
open Go.RowKit

set_option maxHeartbeats 4000000 in
set_option maxRecDepth 100000 in
theorem rep_same (w : World) (base g cap : Nat) (X : List UInt8) (cur : List Value) (vb vc : Nat) (T : List UInt8) (h : RepIn w base g cap X cur vb vc T) (i j n m d : Nat) (en : n = X.length) (em : m = T.length) (hd : n - j = d) (hij : i < j) (hj : j < n) (hm : i + m = j) :
    Calls Tryd.prog 27 #[.slice (some ⟨g, 0, none⟩) n cap, .int .i64 i, .int .i64 j, .slice (some ⟨vb, 0, none⟩) m vc] w fun e w' => RepPost w base (X.take i ++ T ++ X.drop j) e w' := by
  have hcm : cap ≤ 9223372036854775807 := h.hcm
  have hbig := h.big
  have hXc := h.hXc
  have hlc := h.hcl
  have hm0 : 0 < m := by rw [em]; exact h.hT
  have hnc : n ≤ cap := by omega
  have hTl : (bv T).length = m := by rw [bv_length, em]
  have hDl : ((bv X).drop j).length = d := by rw [List.length_drop, bv_length]; omega
  have hD1 : ∀ v ∈ (bv X).drop j, v.oneCell' = true := fun v hv => bv_one X v (List.mem_of_mem_drop hv)
  have hlen : (X.take i ++ T ++ X.drop j).length = i + m + d := rep_len en em hd (by omega) (by omega)
  have e0 : cur.take i = bv (X.take i) := by
    have h2 : cur.take i = (cur.take X.length).take i := by rw [List.take_take, Nat.min_eq_left (by omega)]
    rw [h2, h.hX, bv_takes]
  have hcell : ∀ q v, ((bv X).drop j)[q]? = some v → w.cell? ⟨g, j + q, none⟩ = some v := fun q v hq => by
    rw [List.getElem?_drop] at hq
    have := h.cell (j + q) v hq
    rwa [Nat.zero_add] at this
  obtain ⟨w2, hc2, hg2, ho2⟩ := copyK w.drew g i (i + m + d - i) ⟨vb, 0, none⟩ m cur (bv T) h.hg (by rw [hTl]; simp only [Nat.min_def]; split <;> omega) (fun q v hq => by rw [Addr.add_lit]; exact h.hvs q v hq) (by omega) (bv_one T)
  have hs2 : (splice cur i (bv T)).length = cap := by rw [length_splice _ _ _ (by omega)]; exact hlc
  obtain ⟨w3, hc3, hg3, ho3⟩ := copyK w2.drew g (i + m) (i + m + d - (i + m)) ⟨g, j, none⟩ d (splice cur i (bv T)) ((bv X).drop j) hg2 (by rw [hDl]; simp only [Nat.min_def]; split <;> omega) (fun q v hq => by
    rw [Addr.add_lit]
    have h1 := hcell q v hq
    show w2.cell? _ = _
    rw [World.cell?, h.hg] at h1
    rw [World.cell?, hg2]
    have h1' : cur[j + q]? = some v := by simpa using h1
    have h2 : (splice cur i (bv T))[j + q]? = cur[j + q]? := by
      unfold splice
      have hl1 : (cur.take i).length = i := by rw [List.length_take]; omega
      rw [List.getElem?_append_right (by omega), List.getElem?_append_right (by omega), List.getElem?_drop]
      congr 1
      omega
    have h3 : (splice cur i (bv T))[j + q]? = some v := h2.trans h1'
    simpa using h3) (by omega) hD1
  have hs3 : (splice (splice cur i (bv T)) (i + m) ((bv X).drop j)).length = cap := by rw [length_splice _ _ _ (by omega)]; exact hs2
  have e3 : (splice (splice cur i (bv T)) (i + m) ((bv X).drop j)).take (i + m + d) = bv (X.take i ++ T ++ X.drop j) := by
    rw [take_splice _ _ _ _ (by omega) (by omega), hDl, Nat.sub_self, List.take_zero, List.append_nil, take_splice _ _ _ _ (by omega) (by omega), hTl, Nat.sub_self, List.take_zero, List.append_nil, e0, bv_append, bv_append, bv_drops]
  have HP : Hid (RepPost w base (X.take i ++ T ++ X.drop j) (.returned (.slice (some ⟨g, 0, none⟩) (i + m + d) cap)) w3) := by
    refine ⟨g, cap, by rw [hlen], ((Only.drew g w).trans (ho2.trans ((Only.drew g w2).trans ho3))).below h.hb, ⟨by rw [bv_length]; omega, .inr ⟨g, cap, _, by rw [hlen], h.hb, hg3, by omega, h.hcm, by rw [List.size_toArray, hs3]; omega, ?_⟩⟩⟩
    show List.take _ _ = _
    rw [hlen, Nat.mul_one, e3]
  have hk0 : n - (i + m + d) = 0 := by omega
  have HC2 : Hid (∀ ty dc, (Builtin.copy_ #[22, 22] ty #[.slice (some ⟨g, i, none⟩) (i + m + d - i) dc, .slice (some ⟨vb, 0, none⟩) m vc]).run Tryd.prog w.drew = .ok (goInt (m : Int)) w2) := fun ty dc => by have := hc2 ty dc vc; rw [hTl] at this; exact this
  have HC3 : Hid (∀ ty dc sc, (Builtin.copy_ #[22, 22] ty #[.slice (some ⟨g, i + m, none⟩) (i + m + d - (i + m)) dc, .slice (some ⟨g, j, none⟩) d sc]).run Tryd.prog w2.drew = .ok (goInt (d : Int)) w3) := fun ty dc sc => by have := hc3 ty dc sc; rw [hDl] at this; exact this
  have hjn : (j : Int) ≤ (n : Int) := by omega
  have hjc : (j : Int) ≤ (cap : Int) := by omega
  have hijI : (i : Int) ≤ (j : Int) := by omega
  have hiN : i ≤ n := by omega
  have hic : i ≤ cap := by omega
  have hjN : j ≤ n := by omega
  have hne1 : ((i : Int) == (j : Int)) = false := by rw [beq_eq_false_iff_ne]; omega
  have hne2 : ((j : Int) == (n : Int)) = false := by rw [beq_eq_false_iff_ne]; omega
  have hw1 : IntKind.i64.wrap ((i : Int) + (m : Int)) = (i : Int) + (m : Int) := by rw [IntKind.wrap_i64]; omega
  have hw2 : IntKind.i64.wrap ((i : Int) + (m : Int) + (d : Int)) = (i : Int) + (m : Int) + (d : Int) := by rw [IntKind.wrap_i64]; omega
  have htn : ((i : Int) + (m : Int)).toNat = i + m := by omega
  have htn2 : ((i : Int) + (m : Int) + (d : Int)).toNat = i + m + d := by omega
  have hp1 : (0 : Int) ≤ (i : Int) + (m : Int) := by omega
  have hp2 : (0 : Int) ≤ (i : Int) + (m : Int) + (d : Int) := by omega
  have hci : ¬ (cap = i) := by omega
  have hcj : ¬ (cap = j) := by omega
  have hle : (i : Int) + (m : Int) ≤ (j : Int) := by omega
  have hroom2 : ¬ ((cap : Int) < (i : Int) + (m : Int) + (d : Int)) := by omega
  have htc : (i : Int) + (m : Int) + (d : Int) ≤ (cap : Int) := by omega
  have htN : (i : Int) + (m : Int) + (d : Int) ≤ (n : Int) := by omega
  have hit : (i : Int) ≤ (i : Int) + (m : Int) + (d : Int) := by omega
  have himt : (i : Int) + (m : Int) ≤ (i : Int) + (m : Int) + (d : Int) := by omega
  have hcim : ¬ (cap = i + m) := by omega
  clear hc2 hc3 hg2 hg3 ho2 ho3 hs2 hs3 e3 e0 hlen hcell hD1 hTl hDl h en em hbig hXc hlc hm
  have hcn := clear_none
  generalize X.take i ++ T ++ X.drop j = R at *
  go_enter Tryd.func27, Tryd.ntmps27
  go_upto_region 9 with fail
  go_region
  go_wp2_with (refine wpList_copy_runI _ rfl _ _ 22 22 rfl _ _ rfl rfl (HC2.out _ _) ?_)
  go_region_law (refine step_copy_runI rfl _ _ 22 22 rfl _ _ (by simp [Act.eval, Act.put]) (by simp [Act.eval, Act.put]) (HC3.out _ (cap - (i + m)) (cap - j)) ?_)
  go_wp2_with fail
  all_goals (go_ret; first | exact HP.out | (have h := HP.out; rw [show cap = i + m + d by omega] at h; exact h))
end Go.Proofs.YtdlnlepecdcmjaaDoor

/- slices.Replace of owned bytes: by more, in place. -/
namespace Go.Proofs.YtdlnlepecdcmjaaDoor
open Go.RowKit

set_option maxHeartbeats 4000000 in
set_option maxRecDepth 100000 in
theorem rep_more (w : World) (base g cap : Nat) (X : List UInt8) (cur : List Value) (vb vc : Nat) (T : List UInt8) (h : RepIn w base g cap X cur vb vc T) (i j n m d : Nat) (en : n = X.length) (em : m = T.length) (hd : n - j = d) (hij : i < j) (hj : j < n) (hm : j < i + m) (hroom : i + m + d ≤ cap) :
    Calls Tryd.prog 27 #[.slice (some ⟨g, 0, none⟩) n cap, .int .i64 i, .int .i64 j, .slice (some ⟨vb, 0, none⟩) m vc] w fun e w' => RepPost w base (X.take i ++ T ++ X.drop j) e w' := by
  have hcm : cap ≤ 9223372036854775807 := h.hcm
  have hbig := h.big
  have hXc := h.hXc
  have hlc := h.hcl
  have hm0 : 0 < m := by rw [em]; exact h.hT
  have hnc : n ≤ cap := by omega
  have hTl : (bv T).length = m := by rw [bv_length, em]
  have hDl : ((bv X).drop j).length = d := by rw [List.length_drop, bv_length]; omega
  have hD1 : ∀ v ∈ (bv X).drop j, v.oneCell' = true := fun v hv => bv_one X v (List.mem_of_mem_drop hv)
  have hlen : (X.take i ++ T ++ X.drop j).length = i + m + d := rep_len en em hd (by omega) (by omega)
  have e0 : cur.take i = bv (X.take i) := by
    have h2 : cur.take i = (cur.take X.length).take i := by rw [List.take_take, Nat.min_eq_left (by omega)]
    rw [h2, h.hX, bv_takes]
  obtain ⟨vcur, hvb, hvl⟩ := h.hv
  have hov : ∀ lb cb, (callFunc 40 #[.slice (some ⟨g, i + m, none⟩) lb cb, .slice (some ⟨vb, 0, none⟩) m vc]).run Tryd.prog w.drew = .ok (.value (.bool false)) w.drew := fun lb cb =>
    over_run ⟨g, i + m, none⟩ ⟨vb, 0, none⟩ lb cb m vc (Ne.symm h.ne) cur.toArray vcur _ _ h.hg hvb (Or.inl ⟨rfl, rfl, by omega, by show 0 < vcur.size; omega⟩)
  obtain ⟨w2, hc2, hg2, ho2⟩ := copyK w.drew.drew g (i + m) (i + m + d - (i + m)) ⟨g, j, none⟩ d cur ((bv X).drop j) h.hg (by rw [hDl]; simp only [Nat.min_def]; split <;> omega) (fun q v hq => by
    rw [Addr.add_lit]
    rw [List.getElem?_drop] at hq
    have := h.cell (j + q) v hq
    rw [Nat.zero_add] at this
    exact this) (by omega) hD1
  have hs2 : (splice cur (i + m) ((bv X).drop j)).length = cap := by rw [length_splice _ _ _ (by omega)]; exact hlc
  obtain ⟨w3, hc3, hg3, ho3⟩ := copyK w2 g i (i + m + d - i) ⟨vb, 0, none⟩ m (splice cur (i + m) ((bv X).drop j)) (bv T) hg2 (by rw [hTl]; simp only [Nat.min_def]; split <;> omega) (fun q v hq => by rw [Addr.add_lit, ho2.cell _ h.ne]; exact h.hvs q v hq) (by omega) (bv_one T)
  have hs3 : (splice (splice cur (i + m) ((bv X).drop j)) i (bv T)).length = cap := by rw [length_splice _ _ _ (by omega)]; exact hs2
  have e3 : (splice (splice cur (i + m) ((bv X).drop j)) i (bv T)).take (i + m + d) = bv (X.take i ++ T ++ X.drop j) := by
    rw [take_splice _ _ _ _ (by omega) (by omega), hTl]
    have e1 : (splice cur (i + m) ((bv X).drop j)).take i = bv (X.take i) := by
      unfold splice
      rw [List.take_append_of_le_length (by rw [List.length_take]; omega), List.take_take, Nat.min_eq_left (by omega), e0]
    have e2 : ((splice cur (i + m) ((bv X).drop j)).drop (i + m)).take (i + m + d - (i + m)) = bv (X.drop j) := by
      unfold splice
      have h3 : (cur.take (i + m)).length = i + m := by rw [List.length_take]; omega
      rw [List.drop_append, h3, Nat.sub_self, List.drop_zero, List.drop_of_length_le (by omega), List.nil_append, List.take_append_of_le_length (by omega), List.take_of_length_le (by omega), bv_drops]
    rw [e1, e2, bv_append, bv_append, List.append_assoc]
  have HP : Hid (RepPost w base (X.take i ++ T ++ X.drop j) (.returned (.slice (some ⟨g, 0, none⟩) (i + m + d) cap)) w3) := by
    refine ⟨g, cap, by rw [hlen], ((Only.drew g w).trans ((Only.drew g w.drew).trans (ho2.trans ho3))).below h.hb, ⟨by rw [bv_length]; omega, .inr ⟨g, cap, _, by rw [hlen], h.hb, hg3, by omega, h.hcm, by rw [List.size_toArray, hs3]; omega, ?_⟩⟩⟩
    show List.take _ _ = _
    rw [hlen, Nat.mul_one, e3]
  have HC2 : Hid (∀ ty dc sc, (Builtin.copy_ #[22, 22] ty #[.slice (some ⟨g, i + m, none⟩) (i + m + d - (i + m)) dc, .slice (some ⟨g, j, none⟩) d sc]).run Tryd.prog w.drew.drew = .ok (goInt (d : Int)) w2) := fun ty dc sc => by have := hc2 ty dc sc; rw [hDl] at this; exact this
  have HC3 : Hid (∀ ty dc, (Builtin.copy_ #[22, 22] ty #[.slice (some ⟨g, i, none⟩) (i + m + d - i) dc, .slice (some ⟨vb, 0, none⟩) m vc]).run Tryd.prog w2 = .ok (goInt (m : Int)) w3) := fun ty dc => by have := hc3 ty dc vc; rw [hTl] at this; exact this
  have hjn : (j : Int) ≤ (n : Int) := by omega
  have hjc : (j : Int) ≤ (cap : Int) := by omega
  have hijI : (i : Int) ≤ (j : Int) := by omega
  have hiN : i ≤ n := by omega
  have hic : i ≤ cap := by omega
  have hjN : j ≤ n := by omega
  have hne1 : ((i : Int) == (j : Int)) = false := by rw [beq_eq_false_iff_ne]; omega
  have hne2 : ((j : Int) == (n : Int)) = false := by rw [beq_eq_false_iff_ne]; omega
  have hw1 : IntKind.i64.wrap ((i : Int) + (m : Int)) = (i : Int) + (m : Int) := by rw [IntKind.wrap_i64]; omega
  have hw2 : IntKind.i64.wrap ((i : Int) + (m : Int) + (d : Int)) = (i : Int) + (m : Int) + (d : Int) := by rw [IntKind.wrap_i64]; omega
  have htn : ((i : Int) + (m : Int)).toNat = i + m := by omega
  have htn2 : ((i : Int) + (m : Int) + (d : Int)).toNat = i + m + d := by omega
  have hp1 : (0 : Int) ≤ (i : Int) + (m : Int) := by omega
  have hp2 : (0 : Int) ≤ (i : Int) + (m : Int) + (d : Int) := by omega
  have hci : ¬ (cap = i) := by omega
  have hcj : ¬ (cap = j) := by omega
  have hle : ¬ ((i : Int) + (m : Int) ≤ (j : Int)) := by omega
  have hroom2 : ¬ ((cap : Int) < (i : Int) + (m : Int) + (d : Int)) := by omega
  have htc : (i : Int) + (m : Int) + (d : Int) ≤ (cap : Int) := by omega
  have hit : (i : Int) ≤ (i : Int) + (m : Int) + (d : Int) := by omega
  have himt : (i : Int) + (m : Int) ≤ (i : Int) + (m : Int) + (d : Int) := by omega
  have hcim : ¬ (cap = i + m) := by omega
  clear hc2 hc3 hg2 hg3 ho2 ho3 hs2 hs3 e3 e0 hlen hD1 hTl hDl h en em hbig hXc hlc hvb hvl
  go_enter Tryd.func27, Tryd.ntmps27
  go_upto_region 9 with fail
  go_region
  go_wp2_with (simp only [hov])
  go_region_law (refine step_copy_runI rfl _ _ 22 22 rfl _ _ (by simp [Act.eval, Act.put]) (by simp [Act.eval, Act.put]) (HC2.out _ (cap - (i + m)) (cap - j)) ?_)
  go_wp2_with (refine wpList_copy_runI _ rfl _ _ 22 22 rfl _ _ rfl rfl (HC3.out _ _) ?_)
  go_ret
  exact HP.out
end Go.Proofs.YtdlnlepecdcmjaaDoor

/- slices.Replace of owned bytes: each way. -/
namespace Go.Proofs.YtdlnlepecdcmjaaDoor
open Go.RowKit

set_option maxHeartbeats 1000000 in
set_option maxRecDepth 100000 in
theorem rep_ins (w : World) (base g cap : Nat) (X : List UInt8) (cur : List Value) (vb vc : Nat) (T : List UInt8) (h : RepIn w base g cap X cur vb vc T) (i n m : Nat) (en : n = X.length) (em : m = T.length) (hi : i < n) :
    Calls Tryd.prog 27 #[.slice (some ⟨g, 0, none⟩) n cap, .int .i64 i, .int .i64 i, .slice (some ⟨vb, 0, none⟩) m vc] w fun e w' => RepPost w base (X.take i ++ T ++ X.drop i) e w' := by
  have CI : Hid (Calls Tryd.prog 39 #[.slice (some ⟨g, 0, none⟩) n cap, .int .i64 i, .slice (some ⟨vb, 0, none⟩) m vc] w fun e w' => RepPost w base (X.take i ++ T ++ X.drop i) e w') := ins_any w base g cap X cur vb vc T h i n m en em hi
  have hXc := h.hXc
  have hin : (i : Int) ≤ (n : Int) := by omega
  have hic : (i : Int) ≤ (cap : Int) := by omega
  have hii : ((i : Int) == (i : Int)) = true := by simp
  have hci : ¬ (cap = i) := by omega
  clear h en em hXc
  go_enter Tryd.func27, Tryd.ntmps27
  go_wp2_with fail
  refine CI.out.mono ?_
  intro e w' hp
  obtain ⟨g', cap', rfl, h2, h3⟩ := hp
  have HP : Hid (RepPost w base (X.take i ++ T ++ X.drop i) (.returned (.slice (some ⟨g', 0, none⟩) (X.take i ++ T ++ X.drop i).length cap')) w') := ⟨g', cap', rfl, h2, h3⟩
  clear CI h2 h3
  generalize (X.take i ++ T ++ X.drop i).length = nn at *
  go_wp2_with fail
  go_ret
  exact HP.out
/-- slices.Replace of bytes that are owned, ahead of their end. -/
theorem rep_any (w : World) (base g cap : Nat) (X : List UInt8) (cur : List Value) (vb vc : Nat) (T : List UInt8) (h : RepIn w base g cap X cur vb vc T) (i j n m : Nat) (en : n = X.length) (em : m = T.length) (hij : i ≤ j) (hj : j < n) :
    Calls Tryd.prog 27 #[.slice (some ⟨g, 0, none⟩) n cap, .int .i64 i, .int .i64 j, .slice (some ⟨vb, 0, none⟩) m vc] w fun e w' => RepPost w base (X.take i ++ T ++ X.drop j) e w' := by
  by_cases h0 : i = j
  · subst h0
    exact rep_ins w base g cap X cur vb vc T h i n m en em hj
  · by_cases h1 : cap < i + m + (n - j)
    · exact rep_grow w base g cap X cur vb vc T h i j n m (n - j) en em rfl (by omega) hj h1
    · by_cases h2 : i + m < j
      · exact rep_less w base g cap X cur vb vc T h i j n m (n - j) en em rfl (by omega) hj h2
      · by_cases h3 : i + m = j
        · exact rep_same w base g cap X cur vb vc T h i j n m (n - j) en em rfl (by omega) hj h3
        · exact rep_more w base g cap X cur vb vc T h i j n m (n - j) en em rfl (by omega) hj (by omega) (by omega)
end Go.Proofs.YtdlnlepecdcmjaaDoor

/- The reference's PutIn: one text is put in: slices.Replace of what is there by the bytes of the text. -/
namespace Go.Proofs.YtdlnlepecdcmjaaDoor
open Go.RowKit

/-- What the loop from the last text on has come to: those from k on are in. -/
structure PuAt (w : World) (b : List UInt8) (l : List LK) (ts : List (List UInt8)) (v : Value) (wr : World) (k : Nat) (X : List UInt8) : Prop where
  bel : Below w.heap.size w wr
  own : wr.ownsRow w.heap.size 5 1 v X.length (bv X)
  eq : X = fillP (l.drop k) (ts.drop k) b
theorem puts_one (w wr : World) (v : Value) (X : List UInt8) (T : ByteArray) (i j n : Nat) (en : n = X.length) (hij : i ≤ j) (hj : j < n) (hT : T.data.toList ≠ []) (hbig : X.length + T.size ≤ 3000000) (hb : Below w.heap.size w wr) (hown : wr.ownsRow w.heap.size 5 1 v X.length (bv X)) :
    Calls Tryd.prog 27 #[v, .int .i64 i, .int .i64 j, .slice (some ⟨wr.heap.size, 0, none⟩) T.size (grownCap wr.drew T.size 0 5)] (Lib.bytesWorld wr.drew 5 T) fun e w' => ∃ v', e = .returned v' ∧ Below w.heap.size w w' ∧ w'.ownsRow w.heap.size 5 1 v' (X.take i ++ T.data.toList ++ X.drop j).length (bv (X.take i ++ T.data.toList ++ X.drop j)) := by
  have hBW : Below wr.heap.size wr (Lib.bytesWorld wr.drew 5 T) := ⟨rfl, rfl, rfl, by rw [Lib.bytesWorld_size]; show wr.heap.size ≤ wr.heap.size + 1; omega, fun k hk => Lib.bytesWorld_at_old wr.drew _ T k hk⟩
  have hTl : T.size = T.data.toList.length := Lib.size_eq T
  have hT0 : 0 < T.data.toList.length := List.length_pos_iff.2 hT
  rcases hown.2 with ⟨rfl, h0⟩ | ⟨g, cap, cur, rfl, h1, h2, h3, h4, h5, h6⟩
  · omega
  · have hgl : g < wr.heap.size := (Array.getElem?_eq_some_iff.1 h2).1
    have hin : RepIn (Lib.bytesWorld wr.drew 5 T) w.heap.size g cap X cur.toList wr.heap.size (grownCap wr.drew T.size 0 5) T.data.toList := by
      refine ⟨h1, Nat.le_trans hb.size hBW.size, by rw [hBW.block g hgl]; simpa using h2, by rw [Array.length_toList, h5]; omega, h4, by rw [Nat.mul_one] at h6; exact h6, h3, ⟨_, Lib.bytesWorld_at_new wr.drew 5 T, ?_⟩, fun q u hq => ?_, by omega, hT0, by omega⟩
      · unfold Lib.bytesCells
        simp
      · have hql : q < T.size := by
          have := (List.getElem?_eq_some_iff.1 hq).1
          rwa [bv_length, ← hTl] at this
        rw [Nat.zero_add]
        have := Lib.bytesWorld_cell wr.drew 5 T q hql
        rw [show wr.drew.heap.size = wr.heap.size from rfl] at this
        rw [this]
        rw [hTl] at hql
        simp only [bv, List.getElem?_map, List.getElem?_eq_getElem hql, Option.map_some, Option.some.injEq] at hq
        rw [← hq]
        simp [List.getD_eq_getElem?_getD, List.getElem?_eq_getElem hql]
    have := rep_any (Lib.bytesWorld wr.drew 5 T) w.heap.size g cap X cur.toList wr.heap.size (grownCap wr.drew T.size 0 5) T.data.toList hin i j n T.size en hTl hij hj
    rw [en] at this
    refine this.mono ?_
    rintro e w' ⟨g', cap', rfl, h8, h9⟩
    exact ⟨_, rfl, (hb.trans (hBW.mono hb.size)).trans h8, h9⟩
end Go.Proofs.YtdlnlepecdcmjaaDoor
