/- Parts whose parts are taken away, in a row that the call owns. No function of the program. -/
import Derived.Test.YtehiaenicfmpbaaDoorXpartsaysupto11
import Derived.Test.YtehiaenicfmpbaaDoorXpartsaysupto9
import Derived.Test.YtehiaenicfmpbaaDoorXpartsaysupto10
import Derived.Test.YtehiaenicfmpbaaDoorXpartsaysupto1
namespace Go.Proofs.YtehiaenicfmpbaaDoor
open Go.RowKit

def clr (z : PZ) : PZ := (z.1.alone, z.2.1, (none, 0))
def clrs (k : Nat) (Z : List PZ) : List PZ := (Z.take k).map clr ++ Z.drop k
theorem clrs_length (k : Nat) (Z : List PZ) (h : k ≤ Z.length) : (clrs k Z).length = Z.length := by
  unfold clrs
  rw [List.length_append, List.length_map, List.length_take, List.length_drop]
  omega
theorem clrs_zero (Z : List PZ) : clrs 0 Z = Z := rfl
theorem clrs_all (Z : List PZ) : clrs Z.length Z = Z.map clr := by
  unfold clrs
  rw [List.take_length, List.drop_length, List.append_nil]
theorem clrs_at (k : Nat) (Z : List PZ) (h : k < Z.length) : clrs k Z = (Z.take k).map clr ++ Z[k] :: Z.drop (k + 1) := by
  unfold clrs
  rw [List.drop_eq_getElem_cons h]
theorem clrs_succ (k : Nat) (Z : List PZ) (h : k < Z.length) : clrs (k + 1) Z = (Z.take k).map clr ++ clr Z[k] :: Z.drop (k + 1) := by
  unfold clrs
  rw [List.take_add_one, List.getElem?_eq_getElem h, List.map_append, List.append_assoc]
  rfl
theorem pz_set (A B : List PZ) (z : PZ) : (pzv (A ++ z :: B)).set (A.length * 7 + 6) (.slice none 0 0) = pzv (A ++ clr z :: B) := by
  rw [pzv_append, pzv_append]
  have e1 : ∀ z : PZ, pzv (z :: B) = pzc z ++ pzv B := fun z => by simp [pzv]
  rw [e1, e1, List.set_append_right _ _ (by rw [pzv_length]; omega), pzv_length, Nat.add_sub_cancel_left, List.set_append_left _ _ (by simp [pzc])]
  rfl
theorem clrs_set (k : Nat) (Z : List PZ) (h : k < Z.length) : (pzv (clrs k Z)).set (k * 7 + 6) (.slice none 0 0) = pzv (clrs (k + 1) Z) := by
  rw [clrs_at k Z h, clrs_succ k Z h]
  have := pz_set ((Z.take k).map clr) (Z.drop (k + 1)) Z[k]
  rw [List.length_map, List.length_take, Nat.min_eq_left (by omega)] at this
  exact this
/-- What a row of parts holds at the seventh cell of a part is a slice. -/
theorem pz_seventh (Z : List PZ) (k : Nat) (h : k < Z.length) : ∃ a n c, (pzv Z)[k * 7 + 6]? = some (.slice a n c) :=
  ⟨_, _, _, pz_at Z k Z[k] (List.getElem?_eq_getElem h) 6 _ rfl⟩

theorem BRow.kept {w : World} {p : Option Addr} {l : List UInt8} (h : BRow w p l) {a : Addr} {x : Option Addr} {n c : Nat} (hc : w.cell? a = some (.slice x n c)) (v : Value) : BRow (w.setCell a v) p l := by
  intro hne
  obtain ⟨b, o, e, hl⟩ := h hne
  refine ⟨b, o, e, fun i hi => ?_⟩
  have h1 := hl i hi
  rw [World.cell?_setCell_other _ _ _ _ (fun e => by rw [e] at hc; rw [hc] at h1; cases h1)]
  exact h1
/-- A part without its parts lies there. -/
def Alone (w : World) (z : PZ) : Prop := PHeld w 0 z.1.alone z.2.1.1 z.2.1.2 none 0
theorem Alone.of {w : World} {F : Nat} {z : PZ} (h : PHeld w F z.1 z.2.1.1 z.2.1.2 z.2.2.1 z.2.2.2) : Alone w z := by
  obtain ⟨⟨h1, h2, h3, h4, h5, h6, h7, _⟩, hb, hr, _, _⟩ := h
  exact ⟨⟨h1, h2, h3, h4, h5, h6, h7, Nat.zero_le _⟩, hb, hr, ⟨Nat.le_refl _, by decide, fun _ => rfl⟩, KAt.nil _ _ _⟩
theorem Alone.kept {w : World} {z : PZ} (h : Alone w z) {a : Addr} {x : Option Addr} {n c : Nat} (hc : w.cell? a = some (.slice x n c)) (v : Value) : Alone (w.setCell a v) z :=
  ⟨h.1, h.2.1, h.2.2.1.kept hc v, h.2.2.2.1, KAt.nil _ _ _⟩
end Go.Proofs.YtehiaenicfmpbaaDoor

/- slices.EqualFunc by the reference's SamePart of two lists of the same parts answers true; nothing that was there is changed. Conditions: the parts lie there. -/
namespace Go.Proofs.YtehiaenicfmpbaaDoor
open Go.RowKit

def aggOf (z : PZ) : Value := .agg #[.string z.1.ty, .string z.1.cs, .string z.1.id, .string z.1.loc, .int .i64 z.1.how, .slice z.2.1.1 z.1.body.length z.2.1.2, .slice z.2.2.1 z.1.kids.length z.2.2.2]

set_option maxHeartbeats 2000000 in
theorem eqSameR_some (b o b2 o2 n c d : Nat) (Y Z : List PZ) (eY : n = Y.length) (eZ : n = Z.length) (w : World) (h0 : 1 ≤ n) (hn : n ≤ 100000)
    (hY : ∀ j u, (pzv Y)[j]? = some u → w.cell? ⟨b, o + j, none⟩ = some u) (hZ : ∀ j u, (pzv Z)[j]? = some u → w.cell? ⟨b2, o2 + j, none⟩ = some u)
    (hF : ∀ (i : Nat) y z, Y[i]? = some y → Z[i]? = some z → ∀ w', Below w.heap.size w w' → Calls Tryd.prog 59 #[aggOf y, aggOf z] w' fun e w'' => e = .returned (.bool true) ∧ Below w'.heap.size w' w'') :
    Calls Tryd.prog 67 #[.slice (some ⟨b, o, none⟩) n c, .slice (some ⟨b2, o2, none⟩) n d, .func (Fn.func 59) #[] #[]] w fun e w' => e = .returned (.bool true) ∧ Below w.heap.size w w' := by
  have HE : Hid (n = Y.length ∧ n = Z.length) := ⟨eY, eZ⟩
  have HF : Hid (∀ (i : Nat) y z, Y[i]? = some y → Z[i]? = some z → ∀ w', Below w.heap.size w w' → Calls Tryd.prog 59 #[aggOf y, aggOf z] w' fun e w'' => e = .returned (.bool true) ∧ Below w'.heap.size w' w'') := hF
  have HY : Hid (∀ j u, (pzv Y)[j]? = some u → w.cell? ⟨b, o + j, none⟩ = some u) := hY
  have HZ : Hid (∀ j u, (pzv Z)[j]? = some u → w.cell? ⟨b2, o2 + j, none⟩ = some u) := hZ
  clear eY eZ hF hY hZ
  go_enter Tryd.func67, Tryd.ntmps67
  go_wp2_with fail
  go_loopw [17] (fun iv wr => ∃ k : Nat, k ≤ n ∧ iv = .int .i64 k ∧ Below w.heap.size w wr) (fun iv _ => n - (intOf iv).toNat)
  case atStart => exact ⟨0, Nat.zero_le _, rfl, Below.refl _ _⟩
  case round =>
    obtain ⟨k, hk, rfl, hbr⟩ := hrel
    have hsr := hbr.size
    by_cases hlt : k < n
    · have hlz : (k : Int) < (n : Int) := by omega
      have hkY : k < Y.length := by rw [← HE.out.1]; exact hlt
      have hkZ : k < Z.length := by rw [← HE.out.2]; exact hlt
      obtain ⟨y, hy⟩ : ∃ y, Y[k]? = some y := ⟨_, List.getElem?_eq_getElem hkY⟩
      obtain ⟨z, hz⟩ : ∃ z, Z[k]? = some z := ⟨_, List.getElem?_eq_getElem hkZ⟩
      have cy : ∀ j u, (pzc y)[j]? = some u → wr.cell? ⟨b, o + k * 7 + j, none⟩ = some u := fun j u hj => by
        have := HY.out (k * 7 + j) u (pz_at Y k y hy j u hj)
        rw [← Nat.add_assoc] at this
        exact (hbr.cell (World.block_lt_of_cell? w _ this)).trans this
      have cz : ∀ j u, (pzc z)[j]? = some u → wr.cell? ⟨b2, o2 + k * 7 + j, none⟩ = some u := fun j u hj => by
        have := HZ.out (k * 7 + j) u (pz_at Z k z hz j u hj)
        rw [← Nat.add_assoc] at this
        exact (hbr.cell (World.block_lt_of_cell? w _ this)).trans this
      have CF : Hid (∀ w', Below w.heap.size w w' → Calls Tryd.prog 59 #[aggOf y, aggOf z] w' fun e w'' => e = .returned (.bool true) ∧ Below w'.heap.size w' w'') := HF.out k y z hy hz
      clear hy hz
      obtain ⟨⟨yt, yc, yi, yl, yh, yb, yk⟩, ⟨yp, yq⟩, ⟨yr, ys⟩⟩ := y
      obtain ⟨⟨zt, zc, zi, zl, zh, zb, zk⟩, ⟨zp, zq⟩, ⟨zr, zs⟩⟩ := z
      have a0 := cy 0 _ rfl
      have a1 := cy 1 _ rfl
      have a2 := cy 2 _ rfl
      have a3 := cy 3 _ rfl
      have a4 := cy 4 _ rfl
      have a5 := cy 5 _ rfl
      have a6 := cy 6 _ rfl
      have d0 := cz 0 _ rfl
      have d1 := cz 1 _ rfl
      have d2 := cz 2 _ rfl
      have d3 := cz 3 _ rfl
      have d4 := cz 4 _ rfl
      have d5 := cz 5 _ rfl
      have d6 := cz 6 _ rfl
      have hbB : b < wr.heap.size := World.block_lt_of_cell? wr _ a0
      have hbB2 : b2 < wr.heap.size := World.block_lt_of_cell? wr _ d0
      simp only [aggOf, Nat.add_zero] at CF a0 a1 a2 a3 a4 a5 a6 d0 d1 d2 d3 d4 d5 d6
      clear cy cz
      obtain ⟨n1, hn1⟩ : ∃ n1, yb.length = n1 := ⟨_, rfl⟩
      obtain ⟨n2, hn2⟩ : ∃ n2, yk.length = n2 := ⟨_, rfl⟩
      obtain ⟨n3, hn3⟩ : ∃ n3, zb.length = n3 := ⟨_, rfl⟩
      obtain ⟨n4, hn4⟩ : ∃ n4, zk.length = n4 := ⟨_, rfl⟩
      rw [hn1] at a5 CF
      rw [hn2] at a6 CF
      rw [hn3] at d5 CF
      rw [hn4] at d6 CF
      clear hn1 hn2 hn3 hn4
      have hba := (hbr.alloc hsr (.cells #[.string yt, .string yc, .string yi, .string yl, .int .i64 yh, .slice yp n1 yq, .slice yr n2 ys] 65)).alloc (by simp; omega) (.cells #[.string zt, .string zc, .string zi, .string zl, .int .i64 zh, .slice zp n3 zq, .slice zr n4 zs] 65)
      go_wp2_with fail
      refine (CF.out _ hba).mono ?_
      rintro e w2 ⟨rfl, hb2⟩
      have hb3 := hba.trans (hb2.mono (by simp; omega))
      clear CF
      go_wp2_with fail
      go_roundw
      case rel => exact ⟨k + 1, by omega, by go_num, hb3⟩
      case measure => simp [intOf]; omega
    · have hlz : ¬ ((k : Int) < (n : Int)) := by omega
      clear HF HY HZ
      go_wp2_with fail
      go_ret
      exact ⟨rfl, hbr⟩
theorem eqSameR_nil (p q : Option Addr) (c d : Nat) (w : World) :
    Calls Tryd.prog 67 #[.slice p 0 c, .slice q 0 d, .func (Fn.func 59) #[] #[]] w fun e w' => e = .returned (.bool true) ∧ Below w.heap.size w w' := by
  go_enter Tryd.func67, Tryd.ntmps67
  go_wp2_with fail
  refine wp_loop_rounds 1 ?_
  rw [rounds_succ]
  go_wp2_with fail
  go_ret
  exact ⟨rfl, Below.refl _ _⟩
/-- slices.EqualFunc. -/
theorem eqSameR_any (p q : Option Addr) (n c d : Nat) (Y Z : List PZ) (eY : n = Y.length) (eZ : n = Z.length) (w : World) (hn : n ≤ 100000) (hY : Cells w p (pzv Y)) (hZ : Cells w q (pzv Z))
    (hF : ∀ (i : Nat) y z, Y[i]? = some y → Z[i]? = some z → ∀ w', Below w.heap.size w w' → Calls Tryd.prog 59 #[aggOf y, aggOf z] w' fun e w'' => e = .returned (.bool true) ∧ Below w'.heap.size w' w'') :
    Calls Tryd.prog 67 #[.slice p n c, .slice q n d, .func (Fn.func 59) #[] #[]] w fun e w' => e = .returned (.bool true) ∧ Below w.heap.size w w' := by
  rcases Nat.eq_zero_or_pos n with h | h
  · subst h
    exact eqSameR_nil p q c d w
  · have lY := pzv_length Y
    have lZ := pzv_length Z
    obtain ⟨b, o, rfl, h1⟩ := hY (fun e => by rw [e] at lY; simp at lY; omega)
    obtain ⟨b2, o2, rfl, h2⟩ := hZ (fun e => by rw [e] at lZ; simp at lZ; omega)
    exact eqSameR_some b o b2 o2 n c d Y Z eY eZ w h hn h1 h2 hF
end Go.Proofs.YtehiaenicfmpbaaDoor

/- Plain facts on parts: what is put into the list of places are the part and all in it, depth first, each with the number of the one that it is in, if they are few enough and not too deep. No program. -/
namespace Go.Proofs.YtehiaenicfmpbaaDoor

/-- What is in a part that lies behind others: one number more. -/
def sub (n : Nat) (x : PT × Option Nat) : PT × Option Nat := (x.1, some (match x.2 with | none => 0 | some j => j + n))
def abs (n : Nat) (inn : Int) (x : PT × Option Nat) : PT × Int := (x.1, match x.2 with | none => inn | some j => ((n + j : Nat) : Int))
/-- A part and all in it, depth first, each with the number of the one that it is in; none: the first. -/
def tree : Nat → PT → List (PT × Option Nat)
  | 0, _ => []
  | f + 1, p => p.kids.foldl (fun acc k => acc ++ (tree f k).map (sub acc.length)) [(p, none)]
def grow (f : Nat) (acc : List (PT × Option Nat)) (ks : List PT) : List (PT × Option Nat) := ks.foldl (fun acc k => acc ++ (tree f k).map (sub acc.length)) acc
theorem grow_nil (f : Nat) (acc : List (PT × Option Nat)) : grow f acc [] = acc := rfl
theorem grow_cons (f : Nat) (acc : List (PT × Option Nat)) (k : PT) (ks : List PT) : grow f acc (k :: ks) = grow f (acc ++ (tree f k).map (sub acc.length)) ks := rfl
theorem tree_grow (f : Nat) (p : PT) : tree (f + 1) p = grow f [(p, none)] p.kids := by rw [tree]; rfl
theorem grow_le (f : Nat) : ∀ (ks : List PT) (acc : List (PT × Option Nat)), acc.length ≤ (grow f acc ks).length
  | [], acc => Nat.le_refl _
  | k :: ks, acc => by
    rw [grow_cons]
    have := grow_le f ks (acc ++ (tree f k).map (sub acc.length))
    rw [List.length_append] at this
    omega
theorem tree_pos (f : Nat) (p : PT) : 1 ≤ (tree (f + 1) p).length := by
  rw [tree_grow]; exact grow_le f p.kids [(p, none)]
/-- As many levels at most. -/
def lev : Nat → PT → Bool
  | 0, _ => false
  | n + 1, p => p.kids.all (lev n)
theorem lev_succ (n : Nat) (p : PT) : lev (n + 1) p = p.kids.all (lev n) := by rw [lev]

theorem abs_sub (n a : Nat) (inn : Int) (x : PT × Option Nat) : abs n inn (sub a x) = abs (n + a) n x := by
  obtain ⟨x, j⟩ := x
  cases j with
  | none => simp [abs, sub]
  | some j => simp only [abs, sub]; congr 1; omega

theorem putAll_spec (f : Nat) (ih : ∀ l p inn, l.length ≤ 12 → put (f + 1) l p (4 - f) inn = if lev f p = true ∧ l.length + (tree (f + 1) p).length ≤ 12 then some (l ++ (tree (f + 1) p).map (abs l.length inn)) else none) (l : List (PT × Int)) (inn : Int) :
    ∀ (ks : List PT) (acc : List (PT × Option Nat)), l.length + acc.length ≤ 12 → putAll (f + 1) (4 - f) l.length (l ++ acc.map (abs l.length inn)) ks =
      if ks.all (lev f) = true ∧ l.length + (grow (f + 1) acc ks).length ≤ 12 then some (l ++ (grow (f + 1) acc ks).map (abs l.length inn)) else none
  | [], acc, h => by rw [putAll_nil, grow_nil, if_pos ⟨rfl, h⟩]
  | k :: ks, acc, h => by
    have hk := ih (l ++ acc.map (abs l.length inn)) k l.length (by rw [List.length_append, List.length_map]; exact h)
    rw [List.length_append, List.length_map] at hk
    have hg := grow_le (f + 1) ks (acc ++ (tree (f + 1) k).map (sub acc.length))
    rw [List.length_append, List.length_map] at hg
    rw [grow_cons]
    by_cases hc : lev f k = true ∧ l.length + acc.length + (tree (f + 1) k).length ≤ 12
    · rw [if_pos hc] at hk
      rw [putAll_some _ _ _ _ _ _ _ hk]
      have e : (l ++ acc.map (abs l.length inn)) ++ (tree (f + 1) k).map (abs (l.length + acc.length) l.length) = l ++ (acc ++ (tree (f + 1) k).map (sub acc.length)).map (abs l.length inn) := by
        rw [List.map_append, List.map_map, List.append_assoc]
        congr 2
        exact List.map_congr_left fun x _ => (abs_sub _ _ _ x).symm
      rw [e, putAll_spec f ih l inn ks _ (by rw [List.length_append, List.length_map]; omega), List.all_cons, hc.1, Bool.true_and]
    · rw [if_neg hc] at hk
      rw [putAll_none _ _ _ _ _ _ hk, if_neg]
      rintro ⟨h1, h2⟩
      rw [List.all_cons, Bool.and_eq_true] at h1
      exact hc ⟨h1.1, by omega⟩

theorem put_spec : ∀ (f : Nat), f ≤ 3 → ∀ (l : List (PT × Int)) (p : PT) (inn : Int), l.length ≤ 12 →
    put (f + 1) l p (4 - f) inn = if lev f p = true ∧ l.length + (tree (f + 1) p).length ≤ 12 then some (l ++ (tree (f + 1) p).map (abs l.length inn)) else none
  | 0, _, l, p, inn, _ => by rw [put_stop _ _ _ _ _ (Or.inr (by omega)), if_neg (fun h => by have := h.1; rw [lev] at this; cases this)]
  | f + 1, hf, l, p, inn, hl => by
    by_cases hs : l.length = 12
    · rw [put_stop _ _ _ _ _ (Or.inl hs), if_neg]
      have := tree_pos (f + 1) p
      omega
    · rw [put_go _ _ _ _ _ (by omega), show 4 - (f + 1) + 1 = 4 - f from by omega]
      have := putAll_spec f (fun l p inn hl => put_spec f (by omega) l p inn hl) l inn p.kids [(p, none)] (by simp; omega)
      rw [show l ++ [(p, none)].map (abs l.length inn) = l ++ [(p, inn)] from rfl] at this
      rw [this, ← tree_grow, ← lev_succ]
/-- The list of places of a part, as the document says it. -/
theorem places_spec (p : PT) : put 4 [] p 1 (-1) = if lev 3 p = true ∧ (tree 4 p).length ≤ 12 then some ((tree 4 p).map (abs 0 (-1))) else none := by
  have := put_spec 3 (by omega) [] p (-1) (by simp)
  simpa using this
end Go.Proofs.YtehiaenicfmpbaaDoor

/- Plain facts on parts: each part is in one ahead of it, which has parts; each that has parts has one in it. No program. -/
namespace Go.Proofs.YtehiaenicfmpbaaDoor

theorem grow_same (f g : Nat) : ∀ (ks : List PT) (acc : List (PT × Option Nat)), (∀ k ∈ ks, tree g k = tree f k) → grow g acc ks = grow f acc ks
  | [], _, _ => rfl
  | k :: ks, acc, h => by
    rw [grow_cons, grow_cons, h k (by simp)]
    exact grow_same f g ks _ fun x hx => h x (by simp [hx])
theorem tree_fuel : ∀ (f : Nat) (p : PT), lev f p = true → ∀ g, f ≤ g → tree g p = tree f p
  | 0, p, h, _, _ => by rw [lev] at h; cases h
  | f + 1, p, h, 0, hg => by omega
  | f + 1, p, h, g + 1, hg => by
    rw [lev_succ, List.all_eq_true] at h
    rw [tree_grow, tree_grow]
    exact grow_same f g p.kids _ fun k hk => tree_fuel f k (h k hk) g (by omega)

/-- Each but the first is in one ahead of it, which has parts; each that has parts has one in it, but for those that q says. -/
def GoodBut (q : Nat → Prop) (T : List (PT × Option Nat)) : Prop :=
  (∀ (j : Nat) (x : PT × Option Nat), 1 ≤ j → T[j]? = some x → ∃ (k : Nat) (y : PT × Option Nat), x.2 = some k ∧ k < j ∧ T[k]? = some y ∧ y.1.kids ≠ []) ∧
  (∀ (j : Nat) (x : PT × Option Nat), T[j]? = some x → x.1.kids ≠ [] → q j ∨ ∃ (i : Nat) (y : PT × Option Nat), T[i]? = some y ∧ y.2 = some j)
def Good (p : PT) (T : List (PT × Option Nat)) : Prop := T[0]? = some (p, none) ∧ GoodBut (fun _ => False) T

theorem good_add (p k : PT) (q : Nat → Prop) (acc t : List (PT × Option Nat)) (hp : p.kids ≠ []) (h0 : acc[0]? = some (p, none)) (ha : GoodBut q acc) (ht : Good k t) :
    (acc ++ t.map (sub acc.length))[0]? = some (p, none) ∧ GoodBut (fun j => q j ∧ j ≠ 0) (acc ++ t.map (sub acc.length)) := by
  have hpos : 0 < acc.length := by
    rcases Nat.eq_zero_or_pos acc.length with h | h
    · rw [List.eq_nil_of_length_eq_zero h] at h0; cases h0
    · exact h
  have hl : ∀ (i : Nat) x, acc[i]? = some x → (acc ++ t.map (sub acc.length))[i]? = some x := fun i x h => by
    have hi : i < acc.length := (List.getElem?_eq_some_iff.1 h).1
    rw [List.getElem?_append_left hi]; exact h
  have hr : ∀ (i : Nat) x, t[i]? = some x → (acc ++ t.map (sub acc.length))[acc.length + i]? = some (sub acc.length x) := fun i x h => by
    rw [List.getElem?_append_right (by omega), show acc.length + i - acc.length = i from by omega, List.getElem?_map, h]; rfl
  have hwhich : ∀ (j : Nat) x, (acc ++ t.map (sub acc.length))[j]? = some x → acc[j]? = some x ∨ ∃ i y, j = acc.length + i ∧ t[i]? = some y ∧ x = sub acc.length y := fun j x h => by
    by_cases hj : j < acc.length
    · rw [List.getElem?_append_left hj] at h; exact Or.inl h
    · rw [List.getElem?_append_right (by omega), List.getElem?_map] at h
      cases hy : t[j - acc.length]? with
      | none => rw [hy] at h; cases h
      | some y => rw [hy] at h; exact Or.inr ⟨j - acc.length, y, by omega, hy, (Option.some.inj h).symm⟩
  refine ⟨hl 0 _ h0, fun j x hj h => ?_, fun j x h hk => ?_⟩
  · rcases hwhich j x h with h | ⟨i, y, rfl, hy, rfl⟩
    · obtain ⟨k', y, e, hlt, hy, hk⟩ := ha.1 j x hj h
      exact ⟨k', y, e, hlt, hl _ _ hy, hk⟩
    · by_cases hi : i = 0
      · subst hi
        rw [ht.1] at hy
        obtain rfl := Option.some.inj hy
        exact ⟨0, (p, none), rfl, by omega, hl 0 _ h0, hp⟩
      · obtain ⟨k', z, e, hlt, hz, hkz⟩ := ht.2.1 i y (by omega) hy
        exact ⟨acc.length + k', sub acc.length z, by simp [sub, e]; omega, by omega, hr _ _ hz, hkz⟩
  · rcases hwhich j x h with h | ⟨i, y, rfl, hy, rfl⟩
    · by_cases hj : j = 0
      · subst hj
        exact Or.inr ⟨acc.length, _, hr 0 _ ht.1, rfl⟩
      · rcases ha.2 j x h hk with hq | ⟨i, y, hy, e⟩
        · exact Or.inl ⟨hq, hj⟩
        · exact Or.inr ⟨i, y, hl _ _ hy, e⟩
    · rcases ht.2.2 i y hy hk with hq | ⟨i', z, hz, e⟩
      · cases hq
      · exact Or.inr ⟨acc.length + i', _, hr _ _ hz, by simp [sub, e]; omega⟩

theorem good_grow (f : Nat) (p : PT) (hp : p.kids ≠ []) : ∀ (ks : List PT) (q : Nat → Prop) (acc : List (PT × Option Nat)), (∀ k ∈ ks, Good k (tree f k)) → acc[0]? = some (p, none) → GoodBut q acc →
    (grow f acc ks)[0]? = some (p, none) ∧ GoodBut (fun j => q j ∧ (ks ≠ [] → j ≠ 0)) (grow f acc ks)
  | [], q, acc, _, h0, ha => ⟨h0, ha.1, fun j x h hk => (ha.2 j x h hk).imp_left fun hq => ⟨hq, fun h => absurd rfl h⟩⟩
  | k :: ks, q, acc, hk, h0, ha => by
    rw [grow_cons]
    obtain ⟨h1, h2⟩ := good_add p k q acc (tree f k) hp h0 ha (hk k (by simp))
    obtain ⟨h3, h4⟩ := good_grow f p hp ks _ _ (fun x hx => hk x (by simp [hx])) h1 h2
    exact ⟨h3, h4.1, fun j x h hk => (h4.2 j x h hk).imp_left fun hq => ⟨hq.1.1, fun _ => hq.1.2⟩⟩

theorem good_tree : ∀ (f : Nat) (p : PT), lev f p = true → Good p (tree f p)
  | 0, p, h => by rw [lev] at h; cases h
  | f + 1, p, h => by
    rw [lev_succ, List.all_eq_true] at h
    rw [tree_grow]
    have hb : GoodBut (fun j => j = 0 ∧ p.kids ≠ []) [(p, none)] := by
      refine ⟨fun j x hj h => ?_, fun j x h hk => ?_⟩
      · rw [List.getElem?_eq_none (by simp; omega)] at h; cases h
      · cases j with
        | zero => cases h; exact Or.inl ⟨rfl, hk⟩
        | succ j => cases h
    by_cases hp : p.kids = []
    · rw [hp, grow_nil]
      exact ⟨rfl, hb.1, fun j x h hk => (hb.2 j x h hk).imp_left fun hq => hq.2 hp⟩
    · obtain ⟨h1, h2⟩ := good_grow f p hp p.kids _ [(p, none)] (fun k hk => good_tree f k (h k hk)) rfl hb
      exact ⟨h1, h2.1, fun j x hx hk => (h2.2 j x hx hk).imp_left fun hq => hq.2 hp hq.1.1⟩
end Go.Proofs.YtehiaenicfmpbaaDoor

/- Plain facts on parts: of a part with nothing wrong each place but the first is in one ahead of it, which is Many; those are Many in which one is. No program. -/
namespace Go.Proofs.YtehiaenicfmpbaaDoor

theorem places_ok (p : PT) (h : (placesP p).1 = 0) : lev 3 p = true ∧ (tree 3 p).length ≤ 12 ∧ (placesP p).2 = (tree 3 p).map (abs 0 (-1)) ∧ firstBad (placesP p).2 = 0 := by
  have hs := places_spec p
  unfold placesP at h ⊢
  by_cases hc : lev 3 p = true ∧ (tree 4 p).length ≤ 12
  · rw [if_pos hc] at hs
    rw [hs] at h ⊢
    simp only at h ⊢
    by_cases hb : firstBad ((tree 4 p).map (abs 0 (-1))) = 0
    · rw [if_pos hb]
      rw [tree_fuel 3 p hc.1 4 (by omega)] at hc hb ⊢
      exact ⟨hc.1, hc.2, rfl, hb⟩
    · rw [if_neg hb] at h; exact absurd h hb
  · rw [if_neg hc] at hs
    rw [hs] at h
    cases h

theorem chkA_many (p : PT) (h : chkA p = 0) : manyS p.ty.data.toList = !p.kids.isEmpty := by
  unfold chkA at h
  split at h
  · cases h
  · split at h
    · cases h
    · split at h
      · cases h
      · split at h
        · cases h
        · rename_i hf
          have hf' : formedP p = true := by simpa using hf
          unfold formedP at hf'
          cases hm : manyS p.ty.data.toList with
          | true => rw [hm] at hf'; simp at hf'; simp [hf'.1]
          | false => rw [hm] at hf'; simp at hf'; simp [hf']
theorem bad_each : ∀ (L : List (PT × Int)), firstBad L = 0 → ∀ x ∈ L, chkA x.1 = 0
  | [], _, x, hx => by cases hx
  | y :: L, h, x, hx => by
    rw [firstBad] at h
    split at h
    · rename_i h0
      rcases List.mem_cons.1 hx with e | e
      · subst e; exact h0
      · exact bad_each L h x e
    · rename_i h0; exact absurd h h0

theorem tree_facts (p : PT) (h : (placesP p).1 = 0) :
    (placesP p).2.length ≤ 12 ∧ ((placesP p).2[0]? = some (p, -1)) ∧
    (∀ (j : Nat) (x : PT × Int), 1 ≤ j → (placesP p).2[j]? = some x → ∃ (k : Nat) (y : PT × Int), x.2 = (k : Int) ∧ k < j ∧ (placesP p).2[k]? = some y ∧ manyS y.1.ty.data.toList = true) ∧
    (∀ (j : Nat) (x : PT × Int), (placesP p).2[j]? = some x → manyS x.1.ty.data.toList = ((placesP p).2.map (·.2)).contains (j : Int)) := by
  obtain ⟨hl, h12, hL, hb⟩ := places_ok p h
  have hg := good_tree 3 p hl
  rw [hL] at hb ⊢
  generalize tree 3 p = T at *
  obtain ⟨g0, g1, g2⟩ := hg
  have hat : ∀ (j : Nat) (x : PT × Int), (T.map (abs 0 (-1)))[j]? = some x → ∃ t, T[j]? = some t ∧ x = abs 0 (-1) t := fun j x hx => by
    rw [List.getElem?_map] at hx
    cases ht : T[j]? with
    | none => rw [ht] at hx; cases hx
    | some t => rw [ht] at hx; exact ⟨t, rfl, (Option.some.inj hx).symm⟩
  have hto : ∀ (j : Nat) (t : PT × Option Nat), T[j]? = some t → (T.map (abs 0 (-1)))[j]? = some (abs 0 (-1) t) := fun j t ht => by rw [List.getElem?_map, ht]; rfl
  have hmany : ∀ (j : Nat) (t : PT × Option Nat), T[j]? = some t → manyS t.1.ty.data.toList = !t.1.kids.isEmpty := fun j t ht => chkA_many t.1 (bad_each _ hb _ (List.mem_of_getElem? (hto j t ht)))
  refine ⟨by rw [List.length_map]; exact h12, hto 0 _ g0, fun j x hj hx => ?_, fun j x hx => ?_⟩
  · obtain ⟨t, ht, rfl⟩ := hat j x hx
    obtain ⟨k, y, e, hk, hy, hkk⟩ := g1 j t hj ht
    refine ⟨k, abs 0 (-1) y, by simp [abs, e], hk, hto k y hy, ?_⟩
    show manyS y.1.ty.data.toList = true
    rw [hmany k y hy]
    cases hq : y.1.kids with
    | nil => exact absurd hq hkk
    | cons a l => rfl
  · obtain ⟨t, ht, rfl⟩ := hat j x hx
    show manyS t.1.ty.data.toList = _
    rw [hmany j t ht, Bool.eq_iff_iff]
    constructor
    · intro hq
      have hne : t.1.kids ≠ [] := fun e => by rw [e] at hq; cases hq
      rcases g2 j t ht hne with hf | ⟨i, y, hy, e⟩
      · cases hf
      · rw [List.contains_iff_mem]
        exact List.mem_map.2 ⟨_, List.mem_of_getElem? (hto i y hy), by simp [abs, e]⟩
    · intro hq
      rw [List.contains_iff_mem] at hq
      obtain ⟨x, hx, hxj⟩ := List.mem_map.1 hq
      obtain ⟨i, hi⟩ := List.mem_iff_getElem?.1 hx
      obtain ⟨y, hy, rfl⟩ := hat i x hi
      have hye : y.2 = some j := by
        cases hyy : y.2 with
        | none => simp [abs, hyy] at hxj
        | some k => simp [abs, hyy] at hxj; rw [show k = j from by omega]
      have hi1 : 1 ≤ i := by
        rcases Nat.eq_zero_or_pos i with e | e
        · subst e; rw [g0] at hy; obtain rfl := Option.some.inj hy; cases hye
        · exact e
      obtain ⟨k, z, e, _, hz, hzk⟩ := g1 i y hi1 hy
      rw [hye] at e
      obtain rfl := Option.some.inj e
      rw [ht] at hz
      obtain rfl := Option.some.inj hz
      cases hq : t.1.kids with
      | nil => exact absurd hq hzk
      | cons a l => rfl
end Go.Proofs.YtehiaenicfmpbaaDoor
