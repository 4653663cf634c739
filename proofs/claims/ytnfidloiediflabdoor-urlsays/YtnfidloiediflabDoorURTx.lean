/- The reference's URLText: what the plain function says; nothing that was there is changed. Condition: the texts are not too long. -/
import Derived.Test.YtnfidloiediflabDoorURs
import Derived.Test.YtnfidloiediflabDoorUAddr
namespace Go.Proofs.YtnfidloiediflabDoor
open Go.RowKit

/-- What holds between two calls of URLText's own function: the address lies there, and a list of texts behind its variable. -/
def LS (w : World) (UA : Array Value) (W : World) (ls : List ByteArray) : Prop :=
  Below w.heap.size w W ∧ W.heap[w.heap.size]? = some (.cells UA 23) ∧ w.heap.size + 1 < W.heap.size ∧ W.frozen? ⟨w.heap.size + 1, 0, none⟩ = false ∧
  ∃ q n c, W.cell? ⟨w.heap.size + 1, 0, none⟩ = some (.slice q n c) ∧ n = ls.length ∧ W.ownsRow (w.heap.size + 2) 9 1 (.slice q n c) n (strv ls)
theorem LS.alloc {w W : World} {UA : Array Value} {ls : List ByteArray} (h : LS w UA W ls) (o : Obj) : LS w UA (W.alloc o) ls := by
  obtain ⟨h1, h2, h3, h4, q, n, c, h5, h6, h7⟩ := h
  have hb : Below W.heap.size W (W.alloc o) := (Below.refl _ _).alloc (Nat.le_refl _) _
  exact ⟨h1.alloc h1.size _, kept_alloc h2, by simp; omega, (hb.frozen (p := ⟨w.heap.size + 1, 0, none⟩) h3).trans h4, q, n, c, (hb.cell (p := ⟨w.heap.size + 1, 0, none⟩) h3).trans h5, h6, h7.alloc _⟩

set_option maxHeartbeats 1000000 in
theorem radd_no (gl : Nat) (sl : Value) (W : World) :
    Calls Tryd.prog 52 #[.bool false, sl, .pointer (some ⟨gl, 0, none⟩)] W fun e w' => e = .returned (.tuple #[]) ∧ w' = W := by
  go_enter Tryd.func52, Tryd.ntmps52
  go_wp2
  go_end0
  exact ⟨rfl, rfl⟩

set_option maxHeartbeats 2000000 in
set_option maxRecDepth 100000 in
theorem radd_yes (w W : World) (UA : Array Value) (ls xs : List ByteArray) (h : LS w UA W ls) (p : Addr) (m c : Nat) (hm : xs.length = m) (hls : ls.length ≤ 100) (hms : m ≤ 10)
    (hx : ∀ j u, (strv xs)[j]? = some u → W.cell? (p.add j) = some u) :
    Calls Tryd.prog 52 #[.bool true, .slice (some p) m c, .pointer (some ⟨w.heap.size + 1, 0, none⟩)] W fun e w' => e = .returned (.tuple #[]) ∧ LS w UA w' (ls ++ xs) := by
  obtain ⟨i0, hi, hz0, hz1, hz2⟩ := info_parts info_str
  obtain ⟨h1, h2, h3, h4, q, n, c1, h5, h6, h7⟩ := h
  have HX : Hid (∀ j u, (strv xs)[j]? = some u → W.cell? (p.add j) = some u) := hx
  have H2 : Hid (W.heap[w.heap.size]? = some (.cells UA 23)) := h2
  have H6 : Hid (n = ls.length) := h6
  have HM : Hid (xs.length = m) := hm
  have hnl : n ≤ 100 := by omega
  clear hx h2 h6 hm hls
  go_enter Tryd.func52, Tryd.ntmps52
  go_wp2_with (at_builtin; refine wpList_append_own _ rfl (.tmp 6) (.tmp 7) 38 rfl (w.heap.size + 2) 9 i0 (.string ⟨#[]⟩) 1 16 Tryd.underlying38 hi hz0 hz1 hz2 rfl (by decide) _ _ _ rfl h7 p m c (strv xs) rfl ?c0 HX.out ?c2 ?c3 ?c4 ?c5 ?_)
  case c0 => simp [strv]; exact HM.out
  case c2 =>
    intro u hu
    unfold strv at hu
    rw [List.mem_map] at hu
    obtain ⟨y, _, rfl⟩ := hu
    rfl
  case c3 => unfold maxLen; omega
  case c4 => omega
  case c5 => omega
  intro v9 w9 hown9 hg9 _
  have hb9 : Below (w.heap.size + 2) W w9 := (Below.refl _ _).grown hg9 (by omega) (fun j hj => (h7.lt j hj).1)
  have hc9 := (hb9.cell (p := ⟨w.heap.size + 1, 0, none⟩) (by show w.heap.size + 1 < w.heap.size + 2; omega)).trans h5
  have hf9 := (hb9.frozen (p := ⟨w.heap.size + 1, 0, none⟩) (by show w.heap.size + 1 < w.heap.size + 2; omega)).trans h4
  obtain ⟨q9, c9, rfl⟩ := owned_slU hown9
  have hs9 := hb9.size
  have HO : Hid ((w9.setCell ⟨w.heap.size + 1, 0, none⟩ (.slice q9 (n + m) c9)).ownsRow (w.heap.size + 2) 9 1 (.slice q9 (n + m) c9) (n + m) (strv (ls ++ xs))) := by
    unfold Hid
    rw [show strv (ls ++ xs) = strv ls ++ strv xs from by simp [strv]]
    exact ownsRow_setCell_below hown9 (by show w.heap.size + 1 < w.heap.size + 2; omega) _
  have hL : LS w UA (w9.setCell ⟨w.heap.size + 1, 0, none⟩ (.slice q9 (n + m) c9)) (ls ++ xs) := by
    refine ⟨?_, ?_, ?_, ?_, q9, n + m, c9, World.cell?_setCell_same _ _ _ hc9, ?_, HO.out⟩
    · exact (h1.trans (hb9.mono (by omega))).setCell (Nat.le_succ _) _
    · rw [Below.heap_setCell _ _ _ _ (by simp), hb9.block _ (by omega)]; exact H2.out
    · show w.heap.size + 1 < (w9.heap.modify _ _).size
      rw [Array.size_modify]; omega
    · rw [World.frozen?_setCell]; exact hf9
    · rw [List.length_append, H6.out, HM.out]
  clear hown9 hg9 HO h5 h7 h4
  go_wp2
  go_end0
  exact ⟨rfl, hL⟩
theorem radd_any (ok : Bool) (w W : World) (UA : Array Value) (ls xs : List ByteArray) (h : LS w UA W ls) (p : Addr) (m c : Nat) (hm : xs.length = m) (hls : ls.length ≤ 100) (hms : m ≤ 10)
    (hx : ∀ j u, (strv xs)[j]? = some u → W.cell? (p.add j) = some u) :
    Calls Tryd.prog 52 #[.bool ok, .slice (some p) m c, .pointer (some ⟨w.heap.size + 1, 0, none⟩)] W fun e w' => e = .returned (.tuple #[]) ∧ LS w UA w' (if ok then ls ++ xs else ls) := by
  cases ok with
  | true => exact radd_yes w W UA ls xs h p m c hm hls hms hx
  | false =>
    refine (radd_no _ _ W).mono ?_
    rintro e w' ⟨rfl, rfl⟩
    exact ⟨rfl, h⟩
theorem len_if (b : Bool) (ls xs : List ByteArray) : (if b then ls ++ xs else ls).length ≤ ls.length + xs.length := by cases b <;> simp
theorem flat_if (b : Bool) (ls xs : List ByteArray) : (lst (if b then ls ++ xs else ls)).flatten = (lst ls).flatten ++ opt b (lst xs).flatten := by cases b <;> simp [lst, opt]
theorem cell_twU (w : World) (v v' : Value) (t : TypeId) (b : Nat) (hb : b = w.heap.size) : ∀ j x, [v, v'][j]? = some x → (w.alloc (.cells #[v, v'] t)).cell? ((⟨b, 0, none⟩ : Addr).add j) = some x := by
  subst hb
  exact cell_two w v v' t
theorem join_flat (xs : List (List UInt8)) : Lib.join xs [] = xs.flatten := by
  cases xs with
  | nil => rfl
  | cons a t =>
    rw [Lib.join_cons]
    show a ++ (t.map ([] ++ ·)).flatten = a ++ t.flatten
    simp
theorem LS.cells {w W : World} {ls : List ByteArray} {v0 v1 v2 v3 v4 v5 v6 v7 : Value} (h : LS w #[v0, v1, v2, v3, v4, v5, v6, v7] W ls) :
    W.cell? ⟨w.heap.size, 0, none⟩ = some v0 ∧ W.cell? ⟨w.heap.size, 1, none⟩ = some v1 ∧ W.cell? ⟨w.heap.size, 2, none⟩ = some v2 ∧ W.cell? ⟨w.heap.size, 3, none⟩ = some v3 ∧ W.cell? ⟨w.heap.size, 4, none⟩ = some v4 ∧ W.cell? ⟨w.heap.size, 5, none⟩ = some v5 ∧ W.cell? ⟨w.heap.size, 6, none⟩ = some v6 ∧ W.cell? ⟨w.heap.size, 7, none⟩ = some v7 ∧ ∀ i, W.frozen? ⟨w.heap.size, i, none⟩ = false := cells_8 h.2.1

set_option maxHeartbeats 4000000 in
set_option maxRecDepth 100000 in
theorem rtext_walk (us uh up uq uf T : ByteArray) (uhh uhq uhf : Bool) (w : World)
    (hT : Hid (T.data.toList = (lst (if uhf then (if uhq then ((if uhh then (if (!us.toList.isEmpty) then [] ++ [us, ⟨#[58]⟩] else []) ++ [⟨#[47, 47]⟩, uh] else (if (!us.toList.isEmpty) then [] ++ [us, ⟨#[58]⟩] else [])) ++ [up]) ++ [⟨#[63]⟩, uq] else ((if uhh then (if (!us.toList.isEmpty) then [] ++ [us, ⟨#[58]⟩] else []) ++ [⟨#[47, 47]⟩, uh] else (if (!us.toList.isEmpty) then [] ++ [us, ⟨#[58]⟩] else [])) ++ [up])) ++ [⟨#[35]⟩, uf] else (if uhq then ((if uhh then (if (!us.toList.isEmpty) then [] ++ [us, ⟨#[58]⟩] else []) ++ [⟨#[47, 47]⟩, uh] else (if (!us.toList.isEmpty) then [] ++ [us, ⟨#[58]⟩] else [])) ++ [up]) ++ [⟨#[63]⟩, uq] else ((if uhh then (if (!us.toList.isEmpty) then [] ++ [us, ⟨#[58]⟩] else []) ++ [⟨#[47, 47]⟩, uh] else (if (!us.toList.isEmpty) then [] ++ [us, ⟨#[58]⟩] else [])) ++ [up])))).flatten))
    (hTs : T.size ≤ 1000) :
    Calls Tryd.prog 16 #[.agg #[.string us, .bool uhh, .string uh, .string up, .bool uhq, .string uq, .bool uhf, .string uf]] w fun e w' => e = .returned (.string T) ∧ Below w.heap.size w w' := by
  obtain ⟨W0, hW0⟩ : ∃ W, W = (w.alloc (.cells #[.string us, .bool uhh, .string uh, .string up, .bool uhq, .string uq, .bool uhf, .string uf] 23)).alloc (.cells #[.slice none 0 0] 38) := ⟨_, rfl⟩
  have hs0 : W0.heap.size = w.heap.size + 1 + 1 := by rw [hW0]; simp
  have L0 : LS w #[.string us, .bool uhh, .string uh, .string up, .bool uhq, .string uq, .bool uhf, .string uf] W0 [] := by
    have hh : W0.heap[w.heap.size + 1]? = some (.cells #[.slice none 0 0] 38) := by
      rw [hW0]
      show ((w.heap.push _).push _)[w.heap.size + 1]? = _
      rw [Array.getElem?_push, if_pos (by simp)]
    refine ⟨?_, ?_, by omega, blk_frozen hh 0, none, 0, 0, blk_cell hh 0, rfl, World.ownsRow_nil _ _ _ _⟩
    · rw [hW0]; exact ((Below.refl _ _).alloc (Nat.le_refl _) _).alloc (by simp) _
    · rw [hW0]; exact kept_alloc (by show (w.heap.push _)[w.heap.size]? = _; simp)
  go_enter Tryd.func16, Tryd.ntmps16
  go_wp2_with fail
  rw [← hW0]
  refine (radd_any (!us.toList.isEmpty) w _ _ [] [us, ⟨#[58]⟩] (L0.alloc _) ⟨w.heap.size + 1 + 1, 0, none⟩ 2 2 rfl (by decide) (by decide) (cell_twU _ _ _ _ _ hs0.symm)).mono ?_
  rintro e w1 ⟨rfl, L1⟩
  clear L0 hs0 hW0
  have n1 := len_if (!us.toList.isEmpty) [] [us, ⟨#[58]⟩]
  generalize (if (!us.toList.isEmpty) = true then [] ++ [us, ⟨#[58]⟩] else []) = l1 at *
  simp only [List.length_cons, List.length_nil] at n1
  obtain ⟨c0, c1, c2, c3, c4, c5, c6, c7, cf⟩ := L1.cells
  go_wp2_with fail
  refine (radd_any uhh w _ _ l1 [⟨#[47, 47]⟩, uh] (L1.alloc _) ⟨w1.heap.size, 0, none⟩ 2 2 rfl (by omega) (by decide) (cell_twU _ _ _ _ _ rfl)).mono ?_
  rintro e w2 ⟨rfl, L2⟩
  clear L1 c0 c1 c2 c3 c4 c5 c6 c7 cf
  have n2 := len_if uhh l1 [⟨#[47, 47]⟩, uh]
  generalize (if uhh = true then l1 ++ [⟨#[47, 47]⟩, uh] else l1) = l2 at *
  simp only [List.length_cons, List.length_nil] at n2
  obtain ⟨c0, c1, c2, c3, c4, c5, c6, c7, cf⟩ := L2.cells
  go_wp2_with fail
  refine (radd_any true w _ _ l2 [up] (L2.alloc _) ⟨w2.heap.size, 0, none⟩ 1 1 rfl (by omega) (by decide) (cell_loU _ _ _ _ rfl)).mono ?_
  rintro e w3 ⟨rfl, L3⟩
  rw [if_pos rfl] at L3
  clear L2 c0 c1 c2 c3 c4 c5 c6 c7 cf
  have n3 : (l2 ++ [up]).length = l2.length + 1 := by simp
  generalize l2 ++ [up] = l3 at *
  obtain ⟨c0, c1, c2, c3, c4, c5, c6, c7, cf⟩ := L3.cells
  go_wp2_with fail
  refine (radd_any uhq w _ _ l3 [⟨#[63]⟩, uq] (L3.alloc _) ⟨w3.heap.size, 0, none⟩ 2 2 rfl (by omega) (by decide) (cell_twU _ _ _ _ _ rfl)).mono ?_
  rintro e w4 ⟨rfl, L4⟩
  clear L3 c0 c1 c2 c3 c4 c5 c6 c7 cf
  have n4 := len_if uhq l3 [⟨#[63]⟩, uq]
  have g4 : 1 ≤ (if uhq = true then l3 ++ [⟨#[63]⟩, uq] else l3).length := by cases uhq <;> simp <;> omega
  generalize (if uhq = true then l3 ++ [⟨#[63]⟩, uq] else l3) = l4 at *
  simp only [List.length_cons, List.length_nil] at n4
  obtain ⟨c0, c1, c2, c3, c4, c5, c6, c7, cf⟩ := L4.cells
  go_wp2_with fail
  refine (radd_any uhf w _ _ l4 [⟨#[35]⟩, uf] (L4.alloc _) ⟨w4.heap.size, 0, none⟩ 2 2 rfl (by omega) (by decide) (cell_twU _ _ _ _ _ rfl)).mono ?_
  rintro e w5 ⟨rfl, L5⟩
  clear L4 c0 c1 c2 c3 c4 c5 c6 c7 cf
  have n5 := len_if uhf l4 [⟨#[35]⟩, uf]
  have g5 : 1 ≤ (if uhf = true then l4 ++ [⟨#[35]⟩, uf] else l4).length := by cases uhf <;> simp <;> omega
  generalize (if uhf = true then l4 ++ [⟨#[35]⟩, uf] else l4) = l5 at *
  simp only [List.length_cons, List.length_nil] at n5
  obtain ⟨hb5, _, _, _, q, n, c, hcl, hn, hown⟩ := L5
  obtain ⟨n', rfl⟩ : ∃ n', n = n' + 1 := ⟨n - 1, by omega⟩
  obtain ⟨g, rfl, hg1, hg2⟩ := owned_some hown
  have hjr : Lib.join (l5.map (·.data.toList)) (ByteArray.mk #[]).data.toList = T.data.toList := by
    rw [hT.out]; exact join_flat _
  have CJ : Hid (Calls Tryd.prog 53 #[.slice (some ⟨g, 0, none⟩) (n' + 1) c, .string ⟨#[]⟩] w5 fun e w' => e = .returned (.string T) ∧ Below w5.heap.size w5 w') := by
    have := Tryd.strings_Join g 0 c l5 ⟨#[]⟩ w5 (fun j y hy => by
      have hj : j < l5.length := (List.getElem?_eq_some_iff.1 hy).1
      rw [Nat.zero_add, hown.cellAt j (by omega)]
      simp [strv, hy]) hg1 (by omega) (by omega) (by rw [hjr, ← Lib.size_eq]; omega)
    have eT : (⟨T.data.toList.toArray⟩ : ByteArray) = T := rfl
    rw [← hn, hjr, eT] at this
    exact this
  clear hown hjr hT hn
  go_wp2_with fail
  refine CJ.out.mono ?_
  rintro e w6 ⟨rfl, hb6⟩
  have hfin : Below w.heap.size w w6 := hb5.trans (hb6.mono hb5.size)
  clear CJ hb6 hb5 hcl hg1 hg2 n5 g5 n4 g4 n3 n2 n1 hTs
  go_wp2_with fail
  go_ret
  exact ⟨rfl, hfin⟩
/-- The reference's URLText. -/
theorem rtext_any (u : UV) (hs : u.short 120) (T : ByteArray) (hT : T.data.toList = textU u.l) (w : World) :
    Calls Tryd.prog 16 #[u.v] w fun e w' => e = .returned (.string T) ∧ Below w.heap.size w w' := by
  have hl := text_short u hs
  obtain ⟨us, uhh, uh, up, uhq, uq, uhf, uf⟩ := u
  refine rtext_walk us uh up uq uf T uhh uhq uhf w ?_ (by rw [Lib.size_eq, hT]; exact hl)
  unfold Hid
  rw [hT, flat_if, flat_if]
  rw [show ∀ a b : List ByteArray, (lst (a ++ b)).flatten = (lst a).flatten ++ (lst b).flatten from fun a b => by simp [lst], flat_if, flat_if]
  rw [ByteArray.toList_eq]
  unfold textU UV.l
  simp [lst, List.append_assoc]
end Go.Proofs.YtnfidloiediflabDoor
