/- bundle's find: what the plain function says; nothing that was there is changed. -/
import Derived.Test.YtgnlebbifcmpjaaGreatDoorXbundlegoals35
import Derived.Test.YtgnlebbifcmpjaaGreatDoorXbundlegoals13
import Derived.Test.YtgnlebbifcmpjaaGreatDoorXbundlegoals37
namespace Go.Proofs.YtgnlebbifcmpjaaGreatDoor
open Go.RowKit

theorem cutcid_no (Y : List UInt8) (h : Lib.hasPrefix Y cidS = false) (w : World) : Calls Tryz.prog 73 #[.string (tx8 Y), .string ⟨#[99, 105, 100, 58]⟩] w fun e w' => e = .returned (.tuple #[.string (tx8 Y), .bool false]) ∧ w' = w := by
  refine (Tryz.strings_CutPrefix (tx8 Y) ⟨#[99, 105, 100, 58]⟩ w).mono ?_
  rintro e w' ⟨rfl, rfl⟩
  refine ⟨?_, rfl⟩
  have e1 : Lib.hasPrefix (tx8 Y).data.toList (ByteArray.mk #[99, 105, 100, 58]).data.toList = false := h
  rw [show Lib.trimPrefix (tx8 Y).data.toList (ByteArray.mk #[99, 105, 100, 58]).data.toList = Y from by unfold Lib.trimPrefix; rw [e1]; rfl, e1]
  rfl
theorem cutcid_yes (Y : List UInt8) (h : Lib.hasPrefix Y cidS = true) (w : World) : Calls Tryz.prog 73 #[.string (tx8 Y), .string ⟨#[99, 105, 100, 58]⟩] w fun e w' => e = .returned (.tuple #[.string (tx8 (Y.drop 4)), .bool true]) ∧ w' = w := by
  refine (Tryz.strings_CutPrefix (tx8 Y) ⟨#[99, 105, 100, 58]⟩ w).mono ?_
  rintro e w' ⟨rfl, rfl⟩
  refine ⟨?_, rfl⟩
  have e1 : Lib.hasPrefix (tx8 Y).data.toList (ByteArray.mk #[99, 105, 100, 58]).data.toList = true := h
  rw [show Lib.trimPrefix (tx8 Y).data.toList (ByteArray.mk #[99, 105, 100, 58]).data.toList = Y.drop 4 from by unfold Lib.trimPrefix; rw [e1]; rfl, e1]
  rfl
set_option maxHeartbeats 4000000 in
set_option maxRecDepth 100000 in
/-- bundle's find. -/
theorem bfind_any (tg : List UInt8) (htg : tg.length ≤ 120) (w : World) (g : Nat) (q : Option Addr) (c : Nat) (L : List PT) (wh : List (List UInt8)) (h : SAt w g q c L wh) :
    Calls Tryz.prog 47 #[.pointer (some ⟨g, 0, none⟩), .string (tx8 tg)] w fun e w' => e = .returned (.int .i64 (findW L wh tg)) ∧ Below w.heap.size w w' := by
  have HE := tx8_empty tg
  by_cases he : tg = []
  · have HX : Hid (findW L wh tg = -1) := by unfold Hid findW; rw [if_pos he]
    have hE : (tx8 tg).toList.isEmpty = true := by rw [HE, he]; rfl
    clear HE he
    go_enter Tryz.func47, Tryz.ntmps47
    go_wp2_with fail
    go_ret
    exact ⟨by rw [HX.out]; rfl, ((Below.refl _ _).alloc (Nat.le_refl _) _).alloc (by simp) _⟩
  · have hE : (tx8 tg).toList.isEmpty = false := by rw [HE]; simpa using he
    have HX : Hid (findW L wh tg = if Lib.hasPrefix (noFr tg) cidS = true then firstP (okID ((noFr tg).drop 4)) 0 L else firstP (okLoc wh (noFr tg)) 0 L) := by unfold Hid findW; rw [if_neg he]
    have CF : Hid (∀ W, Calls Tryz.prog 92 #[.string (tx8 tg)] W fun e w' => e = .returned (.string (tx8 (noFr tg))) ∧ Below W.heap.size W w') := fun W => bfrag_any _ (by rw [tx8_size]; unfold maxLen; omega) W
    have HS : Hid (SAt w g q c L wh) := h
    clear HE he h
    generalize findW L wh tg = R at *
    generalize noFr tg = T at *
    obtain ⟨W1, hW1⟩ : ∃ W, W = (w.alloc (.cells #[.pointer (some ⟨g, 0, none⟩)] 79)).alloc (.cells #[.string (tx8 tg)] 9) := ⟨_, rfl⟩
    have hb1 : Below w.heap.size w W1 := by rw [hW1]; exact ((Below.refl _ _).alloc (Nat.le_refl _) _).alloc (by simp) _
    have hz1 : W1.heap.size = w.heap.size + 2 := by rw [hW1]; simp
    have k0 : W1.heap[w.heap.size]? = some (.cells #[.pointer (some ⟨g, 0, none⟩)] 79) := by rw [hW1]; exact blk_on (blk_new w _) ((Below.refl _ _).alloc (Nat.le_refl _) _)
    have k1 : W1.heap[w.heap.size + 1]? = some (.cells #[.string (tx8 tg)] 9) := by rw [hW1]; have := blk_new (w.alloc (.cells #[.pointer (some ⟨g, 0, none⟩)] 79)) (.cells #[.string (tx8 tg)] 9); rw [World.size_alloc] at this; exact this
    go_enter Tryz.func47, Tryz.ntmps47
    go_wp2_with fail
    rw [← hW1]
    clear hW1
    refine (CF.out _).mono ?_
    rintro e W2 ⟨rfl, hb2⟩
    clear CF
    have k2 := blk_on k0 hb2
    have k3 := blk_on k1 hb2
    have hbe2 : Below w.heap.size w W2 := hb1.trans (hb2.mono hb1.size)
    have hz2 := hb2.size
    rw [hz1] at hz2
    clear hb2 k0 k1 hb1 hz1
    have f3 := blk_f k3
    have c3 : W2.cell? ⟨w.heap.size + 1, 0, none⟩ = some (.string (tx8 tg)) := (blk_c k3 0).trans rfl
    obtain ⟨W3, hW3⟩ : ∃ W, W = W2.setCell ⟨w.heap.size + 1, 0, none⟩ (.string (tx8 T)) := ⟨_, rfl⟩
    have hbe3 : Below w.heap.size w W3 := by rw [hW3]; exact hbe2.setCell (p := ⟨w.heap.size + 1, 0, none⟩) (by simp) _
    have k4 : W3.heap[w.heap.size]? = some (.cells #[.pointer (some ⟨g, 0, none⟩)] 79) := by rw [hW3, Below.heap_setCell _ _ _ _ (by simp)]; exact k2
    have k5 : W3.heap[w.heap.size + 1]? = some (.cells #[.string (tx8 T)] 9) := by rw [hW3]; exact set_same k3 _
    have hz3 : w.heap.size + 2 ≤ W3.heap.size := by rw [hW3]; simp [World.setCell]; omega
    clear hz2
    cases hp : Lib.hasPrefix T cidS with
    | true =>
      have CC : Hid (∀ W, Calls Tryz.prog 73 #[.string (tx8 T), .string ⟨#[99, 105, 100, 58]⟩] W fun e w' => e = .returned (.tuple #[.string (tx8 (T.drop 4)), .bool true]) ∧ w' = W) := fun W => cutcid_yes T hp W
      have HX2 : Hid (R = firstP (okID (T.drop 4)) 0 L) := by unfold Hid; rw [HX.out, hp, if_pos rfl]
      have HF : Hid (∀ (W : World) (i0 : Nat), Below w.heap.size w W → W.cell? ⟨w.heap.size, 0, none⟩ = some (.pointer (some ⟨g, 0, none⟩)) → W.cell? ⟨i0, 0, none⟩ = some (.string (tx8 (T.drop 4))) → Calls Tryz.prog 93 #[.pointer (some ⟨g, 0, none⟩), .func (Fn.func 94) #[] #[.pointer (some ⟨w.heap.size, 0, none⟩), .pointer (some ⟨i0, 0, none⟩)]] W fun e w' => e = .returned (.int .i64 (firstP (okID (T.drop 4)) 0 L)) ∧ Below W.heap.size W w') := fun W i0 hW h1 h2 =>
        first_any _ _ _ W g q c L wh (HS.out.below hW) (fun args W => by kernel_rfl) (fun k W' hk hb => (ok1_any k W' g q c L wh hk ((HS.out.below hW).below hb) w.heap.size i0 _ ((hb.cell (p := ⟨w.heap.size, 0, none⟩) (World.block_lt_of_cell? W _ h1)).trans h1) ((hb.cell (p := ⟨i0, 0, none⟩) (World.block_lt_of_cell? W _ h2)).trans h2)).mono (by rintro e w' ⟨rfl, m, rfl⟩; exact ⟨rfl, below_drewN' (Below.refl _ _) m⟩))
      clear HX HS
      go_wp2_with fail
      rw [← hW3]
      clear hW3 k2 k3 c3 f3 hbe2
      have c5 : W3.cell? ⟨w.heap.size + 1, 0, none⟩ = some (.string (tx8 T)) := (blk_c k5 0).trans rfl
      have c4 : W3.cell? ⟨w.heap.size, 0, none⟩ = some (.pointer (some ⟨g, 0, none⟩)) := (blk_c k4 0).trans rfl
      refine (CC.out _).mono ?_
      rintro e w1 ⟨rfl, rfl⟩
      clear CC
      have hn4 : w.heap.size < w1.heap.size := by omega
      go_upto_region 5 with fail
      obtain ⟨W4, hW4⟩ : ∃ W, W = w1.alloc (.cells #[.string (tx8 (T.drop 4))] 9) := ⟨_, rfl⟩
      rw [← hW4]
      have c6 : W4.cell? ⟨w.heap.size, 0, none⟩ = some (.pointer (some ⟨g, 0, none⟩)) := by rw [hW4]; exact (((Below.refl _ w1).alloc (Nat.le_refl _) _).cell (p := ⟨w.heap.size, 0, none⟩) hn4).trans c4
      have c7 : W4.cell? ⟨w1.heap.size, 0, none⟩ = some (.string (tx8 (T.drop 4))) := by rw [hW4]; simp
      have hbe4 : Below w.heap.size w W4 := by rw [hW4]; exact hbe3.alloc hbe3.size _
      clear hW4 hbe3 c4 c5 k4 k5
      go_wp2_with fail
      refine (HF.out _ w1.heap.size hbe4 c6 c7).mono ?_
      rintro e w9 ⟨rfl, hb9⟩
      have hbe9 : Below w.heap.size w w9 := hbe4.trans (hb9.mono hbe4.size)
      clear HF hb9
      go_wp2_with fail
      go_ret
      exact ⟨by rw [HX2.out]; rfl, hbe9⟩
    | false =>
      have CC : Hid (∀ W, Calls Tryz.prog 73 #[.string (tx8 T), .string ⟨#[99, 105, 100, 58]⟩] W fun e w' => e = .returned (.tuple #[.string (tx8 T), .bool false]) ∧ w' = W) := fun W => cutcid_no T hp W
      have HX2 : Hid (R = firstP (okLoc wh T) 0 L) := by unfold Hid; rw [HX.out, hp, if_neg (by decide)]
      have HF : Hid (∀ (W : World), Below w.heap.size w W → W.cell? ⟨w.heap.size, 0, none⟩ = some (.pointer (some ⟨g, 0, none⟩)) → W.cell? ⟨w.heap.size + 1, 0, none⟩ = some (.string (tx8 T)) → Calls Tryz.prog 93 #[.pointer (some ⟨g, 0, none⟩), .func (Fn.func 95) #[] #[.pointer (some ⟨w.heap.size, 0, none⟩), .pointer (some ⟨w.heap.size + 1, 0, none⟩)]] W fun e w' => e = .returned (.int .i64 (firstP (okLoc wh T) 0 L)) ∧ Below W.heap.size W w') := fun W hW h1 h2 =>
        first_any _ _ _ W g q c L wh (HS.out.below hW) (fun args W => by kernel_rfl) (fun k W' hk hb => ok2_any k W' g q c L wh hk ((HS.out.below hW).below hb) w.heap.size (w.heap.size + 1) _ ((hb.cell (p := ⟨w.heap.size, 0, none⟩) (World.block_lt_of_cell? W _ h1)).trans h1) ((hb.cell (p := ⟨w.heap.size + 1, 0, none⟩) (World.block_lt_of_cell? W _ h2)).trans h2))
      clear HX HS
      go_wp2_with fail
      rw [← hW3]
      clear hW3 k2 k3 c3 f3 hbe2
      have c5 : W3.cell? ⟨w.heap.size + 1, 0, none⟩ = some (.string (tx8 T)) := (blk_c k5 0).trans rfl
      have c4 : W3.cell? ⟨w.heap.size, 0, none⟩ = some (.pointer (some ⟨g, 0, none⟩)) := (blk_c k4 0).trans rfl
      refine (CC.out _).mono ?_
      rintro e w1 ⟨rfl, rfl⟩
      clear CC
      have hn4 : w.heap.size < w1.heap.size := by omega
      have hn6 : w.heap.size + 1 < w1.heap.size := by omega
      go_upto_region 5 with fail
      obtain ⟨W4, hW4⟩ : ∃ W, W = w1.alloc (.cells #[.string (tx8 T)] 9) := ⟨_, rfl⟩
      rw [← hW4]
      have c6 : W4.cell? ⟨w.heap.size, 0, none⟩ = some (.pointer (some ⟨g, 0, none⟩)) := by rw [hW4]; exact (((Below.refl _ w1).alloc (Nat.le_refl _) _).cell (p := ⟨w.heap.size, 0, none⟩) hn4).trans c4
      have c7 : W4.cell? ⟨w.heap.size + 1, 0, none⟩ = some (.string (tx8 T)) := by rw [hW4]; exact (((Below.refl _ w1).alloc (Nat.le_refl _) _).cell (p := ⟨w.heap.size + 1, 0, none⟩) hn6).trans c5
      have hbe4 : Below w.heap.size w W4 := by rw [hW4]; exact hbe3.alloc hbe3.size _
      clear hW4 hbe3 c4 c5 k4 k5
      go_wp2_with fail
      refine (HF.out _ hbe4 c6 c7).mono ?_
      rintro e w9 ⟨rfl, hb9⟩
      have hbe9 : Below w.heap.size w w9 := hbe4.trans (hb9.mono hbe4.size)
      clear HF hb9
      go_wp2_with fail
      go_ret
      exact ⟨by rw [HX2.out]; rfl, hbe9⟩
end Go.Proofs.YtgnlebbifcmpjaaGreatDoor

/- Goals as they lie in memory; texts of links are short. No function of the program. -/
namespace Go.Proofs.YtgnlebbifcmpjaaGreatDoor
open Go.RowKit

theorem replaceK_le (old new : List UInt8) (hl : new.length ≤ old.length) : ∀ (k : Nat) (s : List UInt8), (Lib.replaceK old new k s).length ≤ s.length
  | 0, s => by rw [Lib.replaceK]; exact Nat.le_refl _
  | k + 1, s => by
    rcases Lib.index_spec s old with ⟨hi, _⟩ | ⟨i, hi, _, _, _⟩
    · rw [Lib.replaceK, hi]
      simp
    · rw [Lib.replaceK_hit old new k s i hi]
      have h1 := replaceK_le old new hl k (s.drop (i + old.length))
      have h2 := Lib.index_room s old (by rw [hi]; omega)
      rw [hi] at h2
      rw [List.length_drop] at h1
      rw [List.length_append, List.length_append, List.length_take]
      omega
theorem unamp_le (s : List UInt8) : (unamp s).length ≤ s.length := by
  unfold unamp Lib.replaceAll
  exact replaceK_le ampL [38] (by decide) _ s
theorem ord_each {N : Nat} : ∀ {l : List LK} {d : Nat}, Ord N d l → ∀ x ∈ l, x.2.length ≤ N
  | [], _, _, x, hx => by simp at hx
  | y :: l, d, h, x, hx => by
    unfold Ord at h
    rcases List.mem_cons.1 hx with rfl | hx
    · omega
    · exact ord_each h.2.2.2 x hx
theorem find_short {b : List UInt8} {l : List LK} (h : findP lowT b = some l) : ∀ x ∈ l, (unamp x.2).length ≤ 4000 := fun x hx => by
  obtain ⟨h1, h2, h3⟩ := find_ord lowT b l h
  have h4 := ord_each h1 x hx
  have h5 := unamp_le x.2
  omega
def g1v (x : GL) : List Value := [.int .i64 x.part, .int .i64 x.fr, .int .i64 x.tt, .string (tx8 x.text), .string (tx8 x.led), .int .i64 x.find]
def glv (l : List GL) : List Value := l.flatMap g1v
theorem glv_snoc (l : List GL) (x : GL) : glv (l ++ [x]) = glv l ++ g1v x := by simp [glv]
theorem info_goal : (Tryz.prog.info? 42).map (fun i => (i.zero, i.size, i.bytes)) = some (some (.agg #[.int .i64 0, .int .i64 0, .int .i64 0, .string ⟨#[]⟩, .string ⟨#[]⟩, .int .i64 0]), 6, 64) := by kernel_rfl
def GoalsPost (w : World) (r : Nat × List (PT × Int)) (e : Ending) (w' : World) : Prop :=
  Below w.heap.size w w' ∧ (r.1 ≠ 0 → e = .returned (.tuple #[.slice none 0 0, .int .i64 (r.1 : Int)])) ∧
  (r.1 = 0 → match goalsGo lowT (r.2.map fun x => x.1.alone) (whereP r.2) 0 (r.2.map fun x => x.1.alone) [] with
    | none => e = .returned (.tuple #[.slice none 0 0, .int .i64 2])
    | some l => ∃ v, e = .returned (.tuple #[v, .int .i64 0]) ∧ w'.ownsRow w.heap.size 42 6 v l.length (glv l))
theorem goalsGo_skip (low : List UInt8 → List UInt8) (l : List PT) (wh : List (List UInt8)) (L : List PT) (k : Nat) (acc : List GL) (hk : k < L.length) (h : (L.getD k pt0).ty.data.toList ≠ htmlS) : goalsGo low l wh k (L.drop k) acc = goalsGo low l wh (k + 1) (L.drop (k + 1)) acc := by
  have e : L.getD k pt0 = L[k] := by rw [List.getD_eq_getElem?_getD, List.getElem?_eq_getElem hk]; rfl
  rw [e] at h
  rw [List.drop_eq_getElem_cons hk, goalsGo, if_neg h]
theorem goalsGo_page (low : List UInt8 → List UInt8) (l : List PT) (wh : List (List UInt8)) (L : List PT) (k : Nat) (acc : List GL) (hk : k < L.length) (h : (L.getD k pt0).ty.data.toList = htmlS) : goalsGo low l wh k (L.drop k) acc = (findP low (L.getD k pt0).body).bind fun ls => goalsGo low l wh (k + 1) (L.drop (k + 1)) (acc ++ ls.map (goalOf l wh k (L.getD k pt0).body.length)) := by
  have e : L.getD k pt0 = L[k] := by rw [List.getD_eq_getElem?_getD, List.getElem?_eq_getElem hk]; rfl
  rw [e] at h ⊢
  rw [List.drop_eq_getElem_cons hk, goalsGo, if_pos h]
  cases findP low L[k].body <;> rfl
end Go.Proofs.YtgnlebbifcmpjaaGreatDoor
