/- slices.Equal of links, slices.Contains of a byte: what the plain functions say; all is as it was but for draws. -/
import Derived.Test.YtdlnlepecdcmjaaDoorXlinksaysupto1
import Derived.Test.YtdlnlepecdcmjaaDoorXlinksaysupto43
import Derived.Lib.SlBytesConst
namespace Go.Proofs.YtdlnlepecdcmjaaDoor
open Go.RowKit

/-- Links as numbers and texts. -/
abbrev L3 := Int × Int × ByteArray
def z3 : L3 := (0, 0, ⟨#[]⟩)
/-- They lie there. -/
def T3Row (w : World) (p : Option Addr) (n : Nat) (l : List L3) : Prop := l.length = n ∧ (n ≠ 0 → ∃ b o, p = some ⟨b, o, none⟩ ∧ ∀ i, i < n → w.cell? ⟨b, o + i * 3, none⟩ = some (.int .i64 (l.getD i z3).1) ∧ w.cell? ⟨b, o + i * 3 + 1, none⟩ = some (.int .i64 (l.getD i z3).2.1) ∧ w.cell? ⟨b, o + i * 3 + 2, none⟩ = some (.string (l.getD i z3).2.2))
theorem eq_of_get3 {xs ys : List L3} {n : Nat} (hx : xs.length = n) (hy : ys.length = n) (h : ∀ j, j < n → xs.getD j z3 = ys.getD j z3) : xs = ys := by
  apply List.ext_getElem (by omega)
  intro i h1 h2
  have := h i (by omega)
  simpa [List.getD_eq_getElem?_getD, List.getElem?_eq_getElem h1, List.getElem?_eq_getElem h2] using this
set_option maxHeartbeats 2000000 in
set_option maxRecDepth 100000 in
theorem equalLinks (p1 p2 : Option Addr) (n m c d : Nat) (xs ys : List L3) (w : World) (hn : n ≤ 100000) (hm : m ≤ 100000) (h1 : T3Row w p1 n xs) (h2 : T3Row w p2 m ys) :
    Calls Tryd.prog 9 #[.slice p1 n c, .slice p2 m d] w fun e w' => e = .returned (.bool (decide (xs = ys))) ∧ ∃ q, w' = w.drewN q := by
  obtain ⟨hx, r1⟩ := h1
  obtain ⟨hy, r2⟩ := h2
  by_cases hnm : n = m
  · subst hnm
    by_cases h0 : n = 0
    · subst h0
      have exy : xs = ys := by rw [List.eq_nil_of_length_eq_zero hx, List.eq_nil_of_length_eq_zero hy]
      have hfin : decide (xs = ys) = true := by simp [exy]
      rw [hfin]
      clear r1 r2 exy hfin hx hy
      go_enter Tryd.func9, Tryd.ntmps9
      go_wp2
      refine wp_loop_rounds 1 ?_
      rw [rounds_succ]
      go_wp2
      go_ret
      exact ⟨rfl, 0, rfl⟩
    · obtain ⟨b1, o1, rfl, k1⟩ := r1 h0
      obtain ⟨b2, o2, rfl, k2⟩ := r2 h0
      have HX : Hid (xs.length = n ∧ ys.length = n) := ⟨hx, hy⟩
      clear r1 r2 hx hy
      go_enter Tryd.func9, Tryd.ntmps9
      go_wp2
      go_loopg [13] n (fun g s13 wr => ∃ k q : Nat, k ≤ n ∧ n - k ≤ g ∧ s13 = .int .i64 k ∧ wr = w.drewN q ∧ Hid (∀ j, j < k → xs.getD j z3 = ys.getD j z3))
      case atStart => exact ⟨0, 0, Nat.zero_le _, by omega, rfl, rfl, fun j hj => absurd hj (Nat.not_lt_zero _)⟩
      case round =>
        obtain ⟨k, q, hk, hg, rfl, rfl, A⟩ := hrel
        by_cases hlt : k < n
        · obtain ⟨g1, g2, g3⟩ := k1 k hlt
          obtain ⟨g4, g5, g6⟩ := k2 k hlt
          clear k1 k2
          generalize hxk : xs.getD k z3 = x at g1 g2 g3
          generalize hyk : ys.getD k z3 = y at g4 g5 g6
          have B : Hid (xs.getD k z3 = x ∧ ys.getD k z3 = y) := ⟨hxk, hyk⟩
          clear hxk hyk
          obtain ⟨xf, xt, xs'⟩ := x
          obtain ⟨yf, yt, ys'⟩ := y
          simp only at g1 g2 g3 g4 g5 g6
          by_cases hxy : xf = yf ∧ xt = yt ∧ xs' = ys'
          · obtain ⟨rfl, rfl, rfl⟩ := hxy
            go_wp2_with fail
            go_quiet (fail)
            go_wp2
            go_roundg (n - (k + 1))
            case measure => omega
            case rel =>
              refine ⟨k + 1, q + nq, by omega, by omega, by go_num, rfl, fun j hj => ?_⟩
              by_cases e : j = k
              · subst e
                rw [B.out.1, B.out.2]
              · exact A.out j (by omega)
          · have HXY : Hid (¬ xs = ys) := fun e => hxy (by
              have h1 := B.out.1
              rw [e, B.out.2] at h1
              cases h1
              exact ⟨rfl, rfl, rfl⟩)
            by_cases h1 : xf = yf
            · subst h1
              by_cases h2 : xt = yt
              · subst h2
                have h3 : ¬ xs' = ys' := fun e => hxy ⟨rfl, rfl, e⟩
                have h3'' : (xs'.toList == ys'.toList) = false := by
                  rw [beq_eq_false_iff_ne, ByteArray.toList_eq, ByteArray.toList_eq]
                  exact fun e => h3 (ByteArray.ext (Array.toList_inj.1 e))
                clear hxy A
                go_wp2_with fail
                go_quiet (fail)
                go_wp2
                go_ret
                refine ⟨ret_bool ?_, q + nq, World.drewN_drewN _ _ _⟩
                symm
                rw [decide_eq_false_iff_not]
                exact HXY.out
              · clear hxy A
                go_wp2_with fail
                go_quiet (fail)
                go_wp2
                go_ret
                refine ⟨ret_bool ?_, q + nq, World.drewN_drewN _ _ _⟩
                symm
                rw [decide_eq_false_iff_not]
                exact HXY.out
            · clear hxy A
              go_wp2_with fail
              go_quiet (fail)
              go_wp2
              go_ret
              refine ⟨ret_bool ?_, q + nq, World.drewN_drewN _ _ _⟩
              symm
              rw [decide_eq_false_iff_not]
              exact HXY.out
        · have : k = n := by omega
          subst this
          have hfin : Hid (decide (xs = ys) = true) := by simp [Hid, eq_of_get3 HX.out.1 HX.out.2 A.out]
          clear k1 k2 A
          go_wp2
          go_ret
          exact ⟨ret_bool hfin.out.symm, q, rfl⟩
  · have hnm' : ¬ (n : Int) = (m : Int) := by omega
    have hfin : decide (xs = ys) = false := by
      rw [decide_eq_false_iff_not]
      intro e
      apply hnm
      rw [← hx, ← hy, e]
    rw [hfin]
    clear r1 r2 hfin
    go_enter Tryd.func9, Tryd.ntmps9
    go_wp2
    go_ret
    exact ⟨rfl, 0, rfl⟩
end Go.Proofs.YtdlnlepecdcmjaaDoor

/- The law's closed fact on links holds. -/
namespace Go.Proofs.YtdlnlepecdcmjaaDoor
open Go.RowKit

def lkB : List UInt8 := [60, 97, 32, 120, 32, 104, 114, 101, 102, 61, 39, 98, 39, 62, 60, 33, 45, 45, 32, 60, 97, 32, 104, 114, 101, 102, 61, 99, 62, 32, 45, 45, 62, 60, 73, 77, 71, 32, 83, 82, 67, 61, 100, 38, 97, 109, 112, 59, 101, 62]
def lkD : List UInt8 := [60, 97, 32, 120, 32, 104, 114, 101, 102, 61, 39, 113, 39, 62, 60, 33, 45, 45, 32, 60, 97, 32, 104, 114, 101, 102, 61, 99, 62, 32, 45, 45, 62, 60, 73, 77, 71, 32, 83, 82, 67, 61, 100, 38, 97, 109, 112, 59, 101, 62]
def lkX : List LK := [(39, [98]), (8, [100, 38, 97, 109, 112, 59, 101])]
theorem lk_find : findP lowT lkB = some lkX := by kernel_rfl
theorem lk_put : putP lowT lkB [[113], []] = (lkD, 0) := by kernel_rfl
theorem lk_amp : lv 50 lkX = [.int .i64 11, .int .i64 12, .string ⟨#[98]⟩, .int .i64 42, .int .i64 49, .string ⟨#[100, 38, 101]⟩] := by kernel_rfl
theorem lbrow_const (w : World) (L : List UInt8) (C : Array Value) (hC : C = (bv L).toArray) (t : TypeId) (fr : Nat × Nat) : BRow (w.alloc (.cells C t fr)) (some ⟨w.heap.size, 0, none⟩) L := by
  subst hC
  intro _
  refine ⟨w.heap.size, 0, rfl, fun i hi => ?_⟩
  rw [Nat.zero_add, World.cell?_alloc_mark w _ t fr i]
  simp [bv, List.getD_eq_getElem?_getD, List.getElem?_eq_getElem hi]
/-- Links of a page, as numbers and texts. -/
def t3 (N : Nat) (x : LK) : L3 := (((N - x.1 : Nat) : Int), ((N - x.1 + x.2.length : Nat) : Int), lba (unamp x.2))
theorem KRow.t3 {w : World} {p : Option Addr} {N : Nat} {l : List LK} (h : KRow w p N l) : T3Row w p l.length (l.map (t3 N)) := by
  refine ⟨by simp, fun hne => ?_⟩
  obtain ⟨b, rfl, hc⟩ := h (fun e => by rw [e] at hne; simp at hne)
  refine ⟨b, 0, rfl, fun i hi => ?_⟩
  obtain ⟨c0, c1, c2⟩ := hc i hi
  have e : (l.map (Go.Proofs.YtdlnlepecdcmjaaDoor.t3 N)).getD i z3 = Go.Proofs.YtdlnlepecdcmjaaDoor.t3 N (l.getD i (0, [])) := by
    simp [List.getD_eq_getElem?_getD, List.getElem?_eq_getElem hi]
  rw [e, Nat.zero_add]
  exact ⟨c0, c1, c2⟩
theorem T3Row.below {w w' : World} {p : Option Addr} {n : Nat} {l : List L3} (h : T3Row w p n l) (hb : Below w.heap.size w w') : T3Row w' p n l := by
  refine ⟨h.1, fun hne => ?_⟩
  obtain ⟨b, o, rfl, hc⟩ := h.2 hne
  refine ⟨b, o, rfl, fun i hi => ?_⟩
  obtain ⟨c0, c1, c2⟩ := hc i hi
  have hlt := World.block_lt_of_cell? w _ c0
  exact ⟨(hb.cell (p := ⟨b, o + i * 3, none⟩) hlt).trans c0, (hb.cell (p := ⟨b, o + i * 3 + 1, none⟩) hlt).trans c1, (hb.cell (p := ⟨b, o + i * 3 + 2, none⟩) hlt).trans c2⟩
theorem lk_t3 : lkX.map (t3 50) = [(11, 12, ⟨#[98]⟩), (42, 49, ⟨#[100, 38, 101]⟩)] := by kernel_rfl
set_option maxHeartbeats 4000000 in
set_option maxRecDepth 100000 in
theorem linked_any (w0 : World) (HE : LEnv w0) (w : World) (hb : Below w0.heap.size w0 w) :
    Calls Tryd.prog 6 #[] w fun e w' => e = .returned (.bool true) ∧ Below w.heap.size w w' := by
  have kc := fun (w : World) (C : Array Value) (n c : Nat) => Lib.run_convert_bytes_const (P := Tryd.prog) w 22 5 C n c Tryd.underlying22 Tryd.underlying5
  have HEV : Hid (LEnv w0) := HE
  have HB : Hid (Below w0.heap.size w0 w) := hb
  clear HE hb
  go_enter Tryd.func6, Tryd.ntmps6
  go_wp2_with fail
  have hW : ∃ W1, W1 = w.alloc (.cells (bv lkB).toArray 5 (50, 51)) := ⟨_, rfl⟩
  obtain ⟨W1, hW1⟩ := hW
  have hb1 : Below w.heap.size w W1 := by rw [hW1]; exact (Below.refl _ _).alloc (Nat.le_refl _) _
  have HR1 : Hid (BRow W1 (some ⟨w.heap.size, 0, none⟩) lkB) := by unfold Hid; rw [hW1]; exact lbrow_const w lkB _ rfl _ _
  have HB1 : Hid (Below w0.heap.size w0 W1) := HB.out.trans (hb1.mono HB.out.size)
  show Calls _ _ _ (w.alloc (.cells (bv lkB).toArray 5 (50, 51))) _
  rw [← hW1]
  clear hW1 kc
  have CF := find_any w0 HEV.out (some ⟨w.heap.size, 0, none⟩) 50 50 lkB rfl W1 HB1.out HR1.out (fun h => by cases h)
  rw [lk_find] at CF
  refine CF.mono ?_
  rintro e w2 ⟨hb2, v2, rfl, own2⟩
  obtain ⟨a2, c2, rfl, h2a, h2b, h2n, hk2⟩ := owned_links own2
  have HK2 : Hid (T3Row w2 a2 2 [(11, 12, ⟨#[98]⟩), (42, 49, ⟨#[100, 38, 101]⟩)]) := by
    have h1 := hk2.t3
    rw [show lkB.length = 50 from rfl, lk_t3] at h1
    exact h1
  have HR2 : Hid (BRow w2 (some ⟨w.heap.size, 0, none⟩) lkB) := HR1.out.below hb2
  have HB2 : Hid (Below w0.heap.size w0 w2) := HB1.out.trans (hb2.mono HB1.out.size)
  have hbw2 : Below w.heap.size w w2 := hb1.trans (hb2.mono hb1.size)
  rw [show lkX.length = 2 from rfl]
  clear CF own2 hk2 hb2 hb1 HR1 HB1
  have CP : Hid (∀ (x y : ByteArray), x = lba [113] → y = lba [] → Calls Tryd.prog 5 #[.slice (some ⟨w.heap.size, 0, none⟩) 50 50, .slice (some ⟨w2.heap.size, 0, none⟩) 2 2] (w2.alloc (.cells #[.string x, .string y] 9)) fun e w' => Below w2.heap.size w2 w' ∧ ∃ v, e = .returned (.tuple #[v, .int .i64 0]) ∧ w'.ownsRow w2.heap.size 5 1 v lkD.length (bv lkD)) := fun x y ex ey => by
    subst ex ey
    have hba : Below w2.heap.size w2 (w2.alloc (.cells #[.string (lba [113]), .string (lba [])] 9)) := (Below.refl _ _).alloc (Nat.le_refl _) _
    have h := put_any w0 HEV.out (some ⟨w.heap.size, 0, none⟩) 50 50 lkB rfl (Nat.le_refl _) (by decide) (some ⟨w2.heap.size, 0, none⟩) 2 2 [lba [113], lba []] rfl (by decide) (by intro t ht; simp at ht; rcases ht with rfl | rfl <;> decide) (w2.alloc (.cells #[.string (lba [113]), .string (lba [])] 9)) (HB2.out.trans (hba.mono HB2.out.size)) (HR2.out.below hba) (fun h => by cases h) (fun _ => ⟨w2.heap.size, 0, rfl, fun i hi => by
      match i, hi with
      | 0, _ => simp
      | 1, _ => simp⟩)
    rw [show tls [lba [113], lba []] = [[113], []] from rfl, lk_put] at h
    refine h.mono ?_
    rintro e w' ⟨h1, h2⟩
    rcases h2 with ⟨h3, _⟩ | ⟨_, v, rfl, h4⟩
    · exact absurd rfl h3
    · exact ⟨hba.trans (h1.mono hba.size), v, rfl, ownsRow_base h4 hba.size⟩
  go_wp2_with fail
  refine (CP.out _ _ rfl rfl).mono ?_
  rintro e w3 ⟨hb3, v3, rfl, own3⟩
  obtain ⟨p3, c3, rfl, h3a, h3b, h3n, hr3⟩ := owned_row own3
  rw [show lkD.length = 50 from rfl] at h3a h3n ⊢
  have HR3 : Hid (BRow w3 p3 lkD) := hr3
  have HK3 : Hid (T3Row w3 a2 2 [(11, 12, ⟨#[98]⟩), (42, 49, ⟨#[100, 38, 101]⟩)]) := HK2.out.below hb3
  have hbw3 : Below w.heap.size w w3 := hbw2.trans (hb3.mono hbw2.size)
  clear CP own3 hb3 hr3 HK2 hbw2
  have CE : Hid (Calls Tryd.prog 9 #[.slice a2 2 c2, .slice (some ⟨w3.heap.size, 0, none⟩) 2 2] (w3.alloc (.cells #[.int .i64 11, .int .i64 12, .string ⟨#[98]⟩, .int .i64 42, .int .i64 49, .string ⟨#[100, 38, 101]⟩] 33)) fun e w' => e = .returned (.bool true) ∧ Below w3.heap.size w3 w') := by
    have hba : Below w3.heap.size w3 (w3.alloc (.cells #[.int .i64 11, .int .i64 12, .string ⟨#[98]⟩, .int .i64 42, .int .i64 49, .string ⟨#[100, 38, 101]⟩] 33)) := (Below.refl _ _).alloc (Nat.le_refl _) _
    have h := equalLinks a2 (some ⟨w3.heap.size, 0, none⟩) 2 2 c2 2 [(11, 12, ⟨#[98]⟩), (42, 49, ⟨#[100, 38, 101]⟩)] [(11, 12, ⟨#[98]⟩), (42, 49, ⟨#[100, 38, 101]⟩)] (w3.alloc (.cells #[.int .i64 11, .int .i64 12, .string ⟨#[98]⟩, .int .i64 42, .int .i64 49, .string ⟨#[100, 38, 101]⟩] 33)) (by decide) (by decide) (HK3.out.below hba) ⟨rfl, fun _ => ⟨w3.heap.size, 0, rfl, fun i hi => by
      match i, hi with
      | 0, _ => simp
      | 1, _ => simp⟩⟩
    refine h.mono ?_
    rintro e w' ⟨rfl, q, rfl⟩
    exact ⟨by simp, below_many hba _⟩
  have HCV : Hid (∀ w', Below w3.heap.size w3 w' → (convert 22 9 (.slice p3 50 c3)).run Tryd.prog w' = .ok (.string (lba lkD)) w') := fun w' h => conv_bytes w' p3 50 c3 lkD rfl (HR3.out.below h) h3n
  go_wp2_with fail
  refine CE.out.mono ?_
  rintro e w4 ⟨rfl, hb4⟩
  have hcv := HCV.out w4 hb4
  have hbw4 : Below w.heap.size w w4 := hbw3.trans (hb4.mono hbw3.size)
  clear CE HCV hb4 hbw3 HK3 HR3
  have hst : (lba lkD).toList = [60, 97, 32, 120, 32, 104, 114, 101, 102, 61, 39, 113, 39, 62, 60, 33, 45, 45, 32, 60, 97, 32, 104, 114, 101, 102, 61, 99, 62, 32, 45, 45, 62, 60, 73, 77, 71, 32, 83, 82, 67, 61, 100, 38, 97, 109, 112, 59, 101, 62] := by rw [ByteArray.toList_eq]; rfl
  generalize lba lkD = X at *
  go_wp2_with fail
  go_ret
  exact ⟨rfl, hbw4⟩
end Go.Proofs.YtdlnlepecdcmjaaDoor

/- Two lists of numbers that agree everywhere are one. No program. -/
namespace Go.Proofs.YtdlnlepecdcmjaaDoor
open Go.RowKit

theorem eq_of_getD {xs ys : List Int} {n : Nat} (hx : xs.length = n) (hy : ys.length = n) (h : ∀ j, j < n → xs.getD j 0 = ys.getD j 0) : xs = ys := by
  apply List.ext_getElem (by omega)
  intro i h1 h2
  have := h i (by omega)
  simpa [List.getD_eq_getElem?_getD, List.getElem?_eq_getElem h1, List.getElem?_eq_getElem h2] using this
end Go.Proofs.YtdlnlepecdcmjaaDoor

/- slices.Equal at []byte answers whether the two lists of numbers are one; the world is as it was but for draws. Conditions: the cells of both lie there. -/
namespace Go.Proofs.YtdlnlepecdcmjaaDoor
open Go.RowKit

set_option maxHeartbeats 1000000 in
theorem equalBytes (p1 p2 : Option Addr) (n m c d : Nat) (xs ys : List Int) (w : World) (hn : n ≤ maxLen) (hm : m ≤ maxLen) (h1 : Row .u8 w p1 n xs) (h2 : Row .u8 w p2 m ys) :
    Calls Tryd.prog 10 #[.slice p1 n c, .slice p2 m d] w fun e w' => e = .returned (.bool (decide (xs = ys))) ∧ ∃ q, w' = w.drewN q := by
  unfold maxLen at hn hm
  obtain ⟨hx, r1⟩ := h1
  obtain ⟨hy, r2⟩ := h2
  by_cases hnm : n = m
  · subst hnm
    by_cases h0 : n = 0
    · subst h0
      have exy : xs = ys := by rw [List.eq_nil_of_length_eq_zero hx, List.eq_nil_of_length_eq_zero hy]
      have hfin : decide (xs = ys) = true := by simp [exy]
      rw [hfin]
      clear r1 r2 exy hfin hx hy
      go_enter Tryd.func10, Tryd.ntmps10
      go_wp2
      refine wp_loop_rounds 1 ?_
      rw [rounds_succ]
      go_wp2
      go_ret
      exact ⟨rfl, 0, rfl⟩
    · obtain ⟨b1, o1, rfl, k1⟩ := r1 h0
      obtain ⟨b2, o2, rfl, k2⟩ := r2 h0
      clear r1 r2
      go_enter Tryd.func10, Tryd.ntmps10
      go_wp2
      go_loopg [13] n (fun g s13 wr => ∃ k q : Nat, k ≤ n ∧ n - k ≤ g ∧ s13 = .int .i64 k ∧ wr = w.drewN q ∧ ∀ j, j < k → xs.getD j 0 = ys.getD j 0)
      case atStart => exact ⟨0, 0, Nat.zero_le _, by omega, rfl, rfl, fun j hj => absurd hj (Nat.not_lt_zero _)⟩
      case round =>
        obtain ⟨k, q, hk, hg, rfl, rfl, heq⟩ := hrel
        by_cases hlt : k < n
        · have g1 : w.cell? ⟨b1, o1 + k, none⟩ = some (.int .u8 (xs.getD k 0)) := k1 k hlt
          have g2 : w.cell? ⟨b2, o2 + k, none⟩ = some (.int .u8 (ys.getD k 0)) := k2 k hlt
          have A : Hid (∀ j, j < k → xs.getD j 0 = ys.getD j 0) := heq
          clear heq k1 k2
          generalize hxk : xs.getD k 0 = x at g1
          generalize hyk : ys.getD k 0 = y at g2
          have B : Hid (xs.getD k 0 = x ∧ ys.getD k 0 = y) := ⟨hxk, hyk⟩
          clear hxk hyk
          by_cases hxy : x = y
          · subst hxy
            go_wp2_with fail
            go_quiet (fail)
            go_wp2
            go_roundg (n - (k + 1))
            case measure => omega
            case rel =>
              refine ⟨k + 1, q + nq, by omega, by omega, by go_num, rfl, fun j hj => ?_⟩
              by_cases e : j = k
              · subst e
                rw [B.out.1, B.out.2]
              · exact A.out j (by omega)
          · go_wp2_with fail
            go_quiet (fail)
            go_wp2
            go_ret
            refine ⟨ret_bool ?_, q + nq, World.drewN_drewN _ _ _⟩
            symm
            rw [decide_eq_false_iff_not]
            intro e
            apply hxy
            rw [← B.out.1, ← B.out.2, e]
        · have : k = n := by omega
          subst this
          have hfin : Hid (decide (xs = ys) = true) := by simp [Hid, eq_of_getD hx hy heq]
          clear k1 k2 heq
          go_wp2
          go_ret
          exact ⟨ret_bool hfin.out.symm, q, rfl⟩
  · have hnm' : ¬ (n : Int) = (m : Int) := by omega
    have hfin : decide (xs = ys) = false := by
      rw [decide_eq_false_iff_not]
      intro e
      apply hnm
      rw [← hx, ← hy, e]
    rw [hfin]
    clear r1 r2 hfin
    go_enter Tryd.func10, Tryd.ntmps10
    go_wp2
    go_ret
    exact ⟨rfl, 0, rfl⟩
end Go.Proofs.YtdlnlepecdcmjaaDoor
