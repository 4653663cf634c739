/- slices.Replace of bytes that the call owns, by bytes that were made of a text. -/
import Derived.Test.YtdlnlepecdcmjaaDoorXlinksaysupto20
namespace Go.Proofs.YtdlnlepecdcmjaaDoor
open Go.RowKit

/-- clear of a part of an owned row. -/
theorem clearK (w : World) (g off k cap : Nat) (cur : List Value) (hg : w.heap[g]? = some (.cells cur.toArray 5 (0, 0))) (hfit : off + (k + 1) ≤ cur.length) :
    ∃ w', (∀ ty, (Builtin.clear_ #[22] ty #[.slice (some ⟨g, off, none⟩) (k + 1) cap]).run Tryd.prog w = .ok (.tuple #[]) w') ∧ (∃ cur', w'.heap[g]? = some (.cells (List.toArray cur') 5 (0, 0)) ∧ cur'.length = cur.length ∧ cur'.take off = cur.take off) ∧ Only g w w' := by
  have hzl : (Builtin.zeroCells (Value.int .u8 0).cells (k + 1)).toList.length = k + 1 := by rw [Array.length_toList, size_zeroCells]; show (k + 1) * 1 = _; omega
  have hst := run_storeCells_at (P := Tryd.prog) g off 5 (Builtin.zeroCells (Value.int .u8 0).cells (k + 1)).toList 0 cur.toArray w hg (by rw [hzl]; simpa using hfit) (fun v hv => by
    have hv' : v ∈ Builtin.zeroCells (Value.int .u8 0).cells (k + 1) := by simpa using hv
    unfold Builtin.zeroCells at hv'
    rw [Array.mem_map] at hv'
    obtain ⟨q, _, rfl⟩ := hv'
    show ((#[Value.int .u8 0] : Array Value)[q % 1]!).oneCell' = true
    rw [Nat.mod_one]
    rfl)
  rw [Nat.add_zero, hzl] at hst
  have hl : (List.take off cur.toArray.toList ++ (Builtin.zeroCells (Value.int .u8 0).cells (k + 1)).toList ++ List.drop (off + (k + 1)) cur.toArray.toList).length = cur.length := by
    rw [List.length_append, List.length_append, hzl, List.length_take, List.length_drop]
    show min off cur.length + (k + 1) + (cur.length - (off + (k + 1))) = cur.length
    omega
  refine ⟨_, fun ty => ?_, ⟨_, setRow_heap w g _ _ _ _ hg, hl, ?_⟩, ⟨rfl, rfl, rfl, by simp [World.setRow], fun q hq => setRow_other w g q _ hq⟩⟩
  · simp only [Builtin.clear_]
    simp [run_underlying Tryd.underlying22, hst]
  · rw [List.append_assoc, List.take_append_of_le_length (by rw [List.length_take]; show off ≤ min off cur.length; omega), List.take_take, Nat.min_self]
theorem RepIn.drew {w : World} {base g cap : Nat} {X : List UInt8} {cur : List Value} {vb vc : Nat} {T : List UInt8} (h : RepIn w base g cap X cur vb vc T) : RepIn w.drew base g cap X cur vb vc T := ⟨h.hb, h.hbw, h.hg, h.hcl, h.hcm, h.hX, h.hXc, h.hv, h.hvs, h.ne, h.hT, h.big⟩
theorem RepPost.of_drew {w w' : World} {base : Nat} {R : List UInt8} {e : Ending} (h : RepPost w.drew base R e w') : RepPost w base R e w' := by
  obtain ⟨g', cap', h1, h2, h3⟩ := h
  exact ⟨g', cap', h1, (Below.refl _ _).drew.trans h2, h3⟩
theorem clear_none (p : Option Addr) (c : Nat) (ty : TypeId) (W : World) : (Builtin.clear_ #[22] ty #[.slice p 0 c]).run Tryd.prog W = .ok (.tuple #[]) W := by
  simp only [Builtin.clear_]
  cases p <;> simp [run_underlying Tryd.underlying22]
theorem rep_len {X T : List UInt8} {i j m n d : Nat} (en : n = X.length) (em : m = T.length) (hd : n - j = d) (hij : i ≤ j) (hj : j ≤ n) : (X.take i ++ T ++ X.drop j).length = i + m + d := by rw [List.length_append, List.length_append, List.length_take, List.length_drop]; omega
theorem bv_takes (X : List UInt8) (i : Nat) : bv (X.take i) = (bv X).take i := by unfold bv; rw [List.map_take]
theorem bv_drops (X : List UInt8) (i : Nat) : bv (X.drop i) = (bv X).drop i := by unfold bv; rw [List.map_drop]
set_option maxHeartbeats 4000000 in
set_option maxRecDepth 100000 in
theorem rep_grow (w : World) (base g cap : Nat) (X : List UInt8) (cur : List Value) (vb vc : Nat) (T : List UInt8) (h : RepIn w base g cap X cur vb vc T) (i j n m d : Nat) (en : n = X.length) (em : m = T.length) (hd : n - j = d) (hij : i < j) (hj : j < n) (hroom : cap < i + m + d) :
    Calls Tryd.prog 27 #[.slice (some ⟨g, 0, none⟩) n cap, .int .i64 i, .int .i64 j, .slice (some ⟨vb, 0, none⟩) m vc] w fun e w' => RepPost w base (X.take i ++ T ++ X.drop j) e w' := by
  have hcm : cap ≤ 9223372036854775807 := h.hcm
  have hbig := h.big
  have hXc := h.hXc
  have hlc := h.hcl
  have hm0 : 0 < m := by rw [em]; exact h.hT
  have hnc : n ≤ cap := by omega
  obtain ⟨W1, G, ROW, hz, hrow, hb1, hl, hG, hGm, ht⟩ := zerosK w.drew base g cap X cur vb vc T h.drew i (m + d) (by omega) (by omega) (by omega) (by omega) ((i : Int) + (m : Int) + (d : Int) - (i : Int)) (by omega)
  obtain ⟨w2, hc2, hrest⟩ := growK w.drew base g cap X cur vb vc T h.drew i j (m + d) m em (by omega) (by omega) (by omega) W1 G ROW hrow hb1 hl hG hGm ht W1 (Only.refl _ _) rfl
  obtain ⟨w3, hc3, hpost⟩ := hrest w2.drew (Only.drew _ _) rfl
  have hGm' : G ≤ 9223372036854775807 := hGm
  rw [← en, hd] at hc3
  obtain ⟨tt, htt⟩ : ∃ t, i + (m + d) = t := ⟨_, rfl⟩
  rw [htt] at hz hc2 hc3 hpost hG
  have HZ : Hid (∀ ty, (Builtin.append_ #[22, 3] ty #[.slice (some ⟨g, 0, none⟩) i cap, .int .i64 ((i : Int) + (m : Int) + (d : Int) - (i : Int))]).run Tryd.prog w.drew = .ok (.slice (some ⟨w.heap.size, 0, none⟩) tt G) W1) := hz
  have HC2 : Hid (∀ ty dc, (Builtin.copy_ #[22, 22] ty #[.slice (some ⟨w.heap.size, i, none⟩) (tt - i) dc, .slice (some ⟨vb, 0, none⟩) m vc]).run Tryd.prog W1 = .ok (goInt m) w2) := hc2
  have HC3 : Hid (∀ ty dc sc, (Builtin.copy_ #[22, 22] ty #[.slice (some ⟨w.heap.size, i + m, none⟩) (tt - (i + m)) dc, .slice (some ⟨g, j, none⟩) d sc]).run Tryd.prog w2.drew = .ok (goInt (d : Int)) w3) := hc3
  have HP : Hid (RepPost w base (X.take i ++ T ++ X.drop j) (.returned (.slice (some ⟨w.heap.size, 0, none⟩) tt G)) w3) := hpost.of_drew
  have hz3 : (cap : Int) < (i : Int) + (m : Int) + (d : Int) := by omega
  have hw3 : IntKind.i64.wrap ((i : Int) + (m : Int) + (d : Int) - (i : Int)) = (i : Int) + (m : Int) + (d : Int) - (i : Int) := by rw [IntKind.wrap_i64]; omega
  have hGi : ¬ (G = i) := by omega
  have hGim : ¬ (G = i + m) := by omega
  have hig : i ≤ tt := by omega
  have higI : (i : Int) ≤ (tt : Int) := by omega
  have him : (i : Int) + (m : Int) ≤ (tt : Int) := by omega
  have hdi : ((n : Int) - (j : Int)) = (d : Int) := by omega
  have hjn : (j : Int) ≤ (n : Int) := by omega
  have hjc : (j : Int) ≤ (cap : Int) := by omega
  have hijI : (i : Int) ≤ (j : Int) := by omega
  have hiN : i ≤ n := by omega
  have hic : i ≤ cap := by omega
  have hjN : j ≤ n := by omega
  have hne1 : ((i : Int) == (j : Int)) = false := by rw [beq_eq_false_iff_ne]; omega
  have hne2 : ((j : Int) == (n : Int)) = false := by rw [beq_eq_false_iff_ne]; omega
  have hw1 : IntKind.i64.wrap ((i : Int) + (m : Int)) = (i : Int) + (m : Int) := by rw [IntKind.wrap_i64]; omega
  have hw2 : IntKind.i64.wrap ((i : Int) + (m : Int) + (d : Int)) = (i : Int) + (m : Int) + (d : Int) := by rw [IntKind.wrap_i64]; omega
  have htn : ((i : Int) + (m : Int)).toNat = i + m := by omega
  have htn2 : ((i : Int) + (m : Int) + (d : Int)).toNat = i + m + d := by omega
  have hp1 : (0 : Int) ≤ (i : Int) + (m : Int) := by omega
  have hp2 : (0 : Int) ≤ (i : Int) + (m : Int) + (d : Int) := by omega
  have hci : ¬ (cap = i) := by omega
  have hcj : ¬ (cap = j) := by omega
  have HTT : Hid (i + (m + d) = tt) := htt
  clear hz hc2 hc3 hpost hrest hrow hb1 hl ht h en em hbig hXc hGm htt hlc
  go_enter Tryd.func27, Tryd.ntmps27
  go_upto_region 9 with fail
  go_region
  go_wp2_with (first | (refine wpList_copy_runI _ rfl _ _ 22 22 rfl _ _ rfl rfl (HC2.out _ _) ?_) | (at_builtin; refine Lib.wpList_append_run _ rfl _ _ _ _ rfl _ _ rfl rfl _ _ (HZ.out _) ?_))
  go_region_law (refine step_copy_runI rfl _ _ 22 22 rfl _ _ (by simp [Act.eval, Act.put]) (by simp [Act.eval, Act.put]) (HC3.out _ (G - (i + m)) (cap - j)) ?_)
  go_wp2_with fail
  go_ret
  exact HP.out
end Go.Proofs.YtdlnlepecdcmjaaDoor

/- slices.Replace of owned bytes: by fewer. -/
namespace Go.Proofs.YtdlnlepecdcmjaaDoor
open Go.RowKit

set_option maxHeartbeats 4000000 in
set_option maxRecDepth 100000 in
theorem rep_less (w : World) (base g cap : Nat) (X : List UInt8) (cur : List Value) (vb vc : Nat) (T : List UInt8) (h : RepIn w base g cap X cur vb vc T) (i j n m d : Nat) (en : n = X.length) (em : m = T.length) (hd : n - j = d) (hij : i < j) (hj : j < n) (hm : i + m < j) :
    Calls Tryd.prog 27 #[.slice (some ⟨g, 0, none⟩) n cap, .int .i64 i, .int .i64 j, .slice (some ⟨vb, 0, none⟩) m vc] w fun e w' => RepPost w base (X.take i ++ T ++ X.drop j) e w' := by
  have hcm : cap ≤ 9223372036854775807 := h.hcm
  have hbig := h.big
  have hXc := h.hXc
  have hlc := h.hcl
  have hm0 : 0 < m := by rw [em]; exact h.hT
  have hnc : n ≤ cap := by omega
  have hTl : (bv T).length = m := by rw [bv_length, em]
  have hDl : ((bv X).drop j).length = d := by rw [List.length_drop, bv_length]; omega
  have hD1 : ∀ v ∈ (bv X).drop j, v.oneCell' = true := fun v hv => bv_one X v (List.mem_of_mem_drop hv)
  have hlen : (X.take i ++ T ++ X.drop j).length = i + m + d := rep_len en em hd (by omega) (by omega)
  have e0 : cur.take i = bv (X.take i) := by
    have h2 : cur.take i = (cur.take X.length).take i := by rw [List.take_take, Nat.min_eq_left (by omega)]
    rw [h2, h.hX, bv_takes]
  have hcell : ∀ q v, ((bv X).drop j)[q]? = some v → w.cell? ⟨g, j + q, none⟩ = some v := fun q v hq => by
    rw [List.getElem?_drop] at hq
    have := h.cell (j + q) v hq
    rwa [Nat.zero_add] at this
  obtain ⟨w2, hc2, hg2, ho2⟩ := copyK w.drew g i (i + m + d - i) ⟨vb, 0, none⟩ m cur (bv T) h.hg (by rw [hTl]; simp only [Nat.min_def]; split <;> omega) (fun q v hq => by rw [Addr.add_lit]; exact h.hvs q v hq) (by omega) (bv_one T)
  have hs2 : (splice cur i (bv T)).length = cap := by rw [length_splice _ _ _ (by omega)]; exact hlc
  obtain ⟨w3, hc3, hg3, ho3⟩ := copyK w2.drew g (i + m) (i + m + d - (i + m)) ⟨g, j, none⟩ d (splice cur i (bv T)) ((bv X).drop j) hg2 (by rw [hDl]; simp only [Nat.min_def]; split <;> omega) (fun q v hq => by
    rw [Addr.add_lit]
    have h1 := hcell q v hq
    show w2.cell? _ = _
    rw [World.cell?, h.hg] at h1
    rw [World.cell?, hg2]
    have h1' : cur[j + q]? = some v := by simpa using h1
    have h2 : (splice cur i (bv T))[j + q]? = cur[j + q]? := by
      unfold splice
      have hl1 : (cur.take i).length = i := by rw [List.length_take]; omega
      rw [List.getElem?_append_right (by omega), List.getElem?_append_right (by omega), List.getElem?_drop]
      congr 1
      omega
    have h3 : (splice cur i (bv T))[j + q]? = some v := h2.trans h1'
    simpa using h3) (by omega) hD1
  have hs3 : (splice (splice cur i (bv T)) (i + m) ((bv X).drop j)).length = cap := by rw [length_splice _ _ _ (by omega)]; exact hs2
  have e3 : (splice (splice cur i (bv T)) (i + m) ((bv X).drop j)).take (i + m + d) = bv (X.take i ++ T ++ X.drop j) := by
    rw [take_splice _ _ _ _ (by omega) (by omega), hDl, Nat.sub_self, List.take_zero, List.append_nil, take_splice _ _ _ _ (by omega) (by omega), hTl, Nat.sub_self, List.take_zero, List.append_nil, e0, bv_append, bv_append, bv_drops]
  obtain ⟨k0, hk0⟩ : ∃ k, n - (i + m + d) = k + 1 := ⟨n - (i + m + d) - 1, by omega⟩
  obtain ⟨w4, hcl, ⟨cur4, hg4, hl4, ht4⟩, ho4⟩ := clearK w3 g (i + m + d) k0 (cap - (i + m + d)) (splice (splice cur i (bv T)) (i + m) ((bv X).drop j)) hg3 (by omega)
  have HP : Hid (RepPost w base (X.take i ++ T ++ X.drop j) (.returned (.slice (some ⟨g, 0, none⟩) (i + m + d) cap)) w4) := by
    refine ⟨g, cap, by rw [hlen], ((Only.drew g w).trans (ho2.trans ((Only.drew g w2).trans (ho3.trans ho4)))).below h.hb, ⟨by rw [bv_length]; omega, .inr ⟨g, cap, _, by rw [hlen], h.hb, hg4, by omega, h.hcm, by rw [List.size_toArray, hl4]; omega, ?_⟩⟩⟩
    show List.take _ cur4 = _
    rw [hlen, Nat.mul_one, ht4, e3]
  have hctd : ¬ (cap = i + m + d) := by omega
  have HC2 : Hid (∀ ty dc, (Builtin.copy_ #[22, 22] ty #[.slice (some ⟨g, i, none⟩) (i + m + d - i) dc, .slice (some ⟨vb, 0, none⟩) m vc]).run Tryd.prog w.drew = .ok (goInt (m : Int)) w2) := fun ty dc => by have := hc2 ty dc vc; rw [hTl] at this; exact this
  have HC3 : Hid (∀ ty dc sc, (Builtin.copy_ #[22, 22] ty #[.slice (some ⟨g, i + m, none⟩) (i + m + d - (i + m)) dc, .slice (some ⟨g, j, none⟩) d sc]).run Tryd.prog w2.drew = .ok (goInt (d : Int)) w3) := fun ty dc sc => by have := hc3 ty dc sc; rw [hDl] at this; exact this
  have hjn : (j : Int) ≤ (n : Int) := by omega
  have hjc : (j : Int) ≤ (cap : Int) := by omega
  have hijI : (i : Int) ≤ (j : Int) := by omega
  have hiN : i ≤ n := by omega
  have hic : i ≤ cap := by omega
  have hjN : j ≤ n := by omega
  have hne1 : ((i : Int) == (j : Int)) = false := by rw [beq_eq_false_iff_ne]; omega
  have hne2 : ((j : Int) == (n : Int)) = false := by rw [beq_eq_false_iff_ne]; omega
  have hw1 : IntKind.i64.wrap ((i : Int) + (m : Int)) = (i : Int) + (m : Int) := by rw [IntKind.wrap_i64]; omega
  have hw2 : IntKind.i64.wrap ((i : Int) + (m : Int) + (d : Int)) = (i : Int) + (m : Int) + (d : Int) := by rw [IntKind.wrap_i64]; omega
  have htn : ((i : Int) + (m : Int)).toNat = i + m := by omega
  have htn2 : ((i : Int) + (m : Int) + (d : Int)).toNat = i + m + d := by omega
  have hp1 : (0 : Int) ≤ (i : Int) + (m : Int) := by omega
  have hp2 : (0 : Int) ≤ (i : Int) + (m : Int) + (d : Int) := by omega
  have hci : ¬ (cap = i) := by omega
  have hcj : ¬ (cap = j) := by omega
  have hle : (i : Int) + (m : Int) ≤ (j : Int) := by omega
  have hroom2 : ¬ ((cap : Int) < (i : Int) + (m : Int) + (d : Int)) := by omega
  have htc : (i : Int) + (m : Int) + (d : Int) ≤ (cap : Int) := by omega
  have htN : (i : Int) + (m : Int) + (d : Int) ≤ (n : Int) := by omega
  have hit : (i : Int) ≤ (i : Int) + (m : Int) + (d : Int) := by omega
  have himt : (i : Int) + (m : Int) ≤ (i : Int) + (m : Int) + (d : Int) := by omega
  have hcim : ¬ (cap = i + m) := by omega
  clear hc2 hc3 hg2 hg3 hg4 ho2 ho3 ho4 hs2 hs3 e3 e0 hlen hcell hD1 hTl hDl h en em hbig hXc hlc hl4 ht4
  go_enter Tryd.func27, Tryd.ntmps27
  go_upto_region 9 with fail
  go_region
  go_wp2_with (refine wpList_copy_runI _ rfl _ _ 22 22 rfl _ _ rfl rfl (HC2.out _ _) ?_)
  go_region_law (refine step_copy_runI rfl _ _ 22 22 rfl _ _ (by simp [Act.eval, Act.put]) (by simp [Act.eval, Act.put]) (HC3.out _ (cap - (i + m)) (cap - j)) ?_)
  go_wp2_with fail
  go_ret
  exact HP.out
end Go.Proofs.YtdlnlepecdcmjaaDoor
