/- The walk of the law MimeBorders: it answers true, and nothing that was there is changed. Conditions: the bytes lie there; the tables lie there. -/
import Derived.Test.YtpgnkhaanoalhaaGreatDoorXmimeborders51
import Derived.Test.YtpgnkhaanoalhaaGreatDoorXmimeborders24
import Derived.Lib.LaidCase
import Derived.Lib.LaidU8T
import Derived.Lib.LaidTab
import Derived.Deep.SlicePairs
import Derived.LaidByTextLater
namespace Go.Proofs.YtpgnkhaanoalhaaGreatDoor
open Go.RowKit

def tyX : ByteArray := ⟨#[116, 101, 120, 116, 47, 120]⟩
def tyM : ByteArray := ⟨#[109, 117, 108, 116, 105, 112, 97, 114, 116, 47, 120]⟩
def tyN : ByteArray := ⟨#[109, 117, 108, 116, 105, 112, 97, 114, 116, 47, 121]⟩
def leafX (l : List UInt8) : PT := ⟨tyX, ⟨#[]⟩, ⟨#[]⟩, ⟨#[]⟩, 0, l, []⟩
def bundX (a b : List UInt8) : PT := ⟨tyM, ⟨#[]⟩, ⟨#[]⟩, ⟨#[]⟩, 0, [], [leafX a, leafX b]⟩
def bundY (a b : List UInt8) : PT := ⟨tyN, ⟨#[]⟩, ⟨#[]⟩, ⟨#[]⟩, 0, [], [leafX a, bundX a b, leafX b]⟩
theorem z0 : (⟨#[]⟩ : ByteArray).size ≤ maxLen := by decide
theorem z1 : (-9223372036854775808 : Int) ≤ 0 := by decide
theorem z2 : (0 : Int) ≤ 9223372036854775807 := by decide
theorem z3 : 0 ≤ maxLen := Nat.zero_le _
theorem leaf_held {w : World} {a : Option Addr} {c : Nat} {L : List UInt8} (h1 : L.length ≤ c) (h2 : c ≤ maxLen) (h3 : a = none → c = 0) (hr : BRow w a L) (F : Nat) : PHeld w F (leafX L) a c none 0 :=
  ⟨⟨by show tyX.size ≤ maxLen; decide, z0, z0, z0, z1, z2, Nat.le_trans h1 h2, z3⟩, ⟨h1, h2, h3⟩, hr, ⟨Nat.le_refl _, z3, fun _ => rfl⟩, KAt.nil _ _ _⟩
theorem many_held {w : World} {ty : ByteArray} (hty : ty.size ≤ 1000) {g m F : Nat} {ks : List PT} (hm : ks.length = m) (hm2 : m ≤ 12) (hk : KAt w F (some ⟨g, 0, none⟩) ks) : PHeld w F ⟨ty, ⟨#[]⟩, ⟨#[]⟩, ⟨#[]⟩, 0, [], ks⟩ none 0 (some ⟨g, 0, none⟩) m :=
  ⟨⟨by show ty.size ≤ maxLen; unfold maxLen; omega, z0, z0, z0, z1, z2, z3, by show ks.length ≤ maxLen; unfold maxLen; omega⟩, ⟨Nat.le_refl _, z3, fun _ => rfl⟩, fun h => absurd rfl h, ⟨by show ks.length ≤ m; omega, by unfold maxLen; omega, fun h => by cases h⟩, hk⟩
set_option maxRecDepth 100000 in
theorem two_at {W : World} {g : Nat} {a0 a1 : Option Addr} {c0 c1 : Nat} {L0 L1 : List UInt8} (h : W.heap[g]? = some (.cells #[.string tyX, .string ⟨#[]⟩, .string ⟨#[]⟩, .string ⟨#[]⟩, .int .i64 0, .slice a0 L0.length c0, .slice none 0 0, .string tyX, .string ⟨#[]⟩, .string ⟨#[]⟩, .string ⟨#[]⟩, .int .i64 0, .slice a1 L1.length c1, .slice none 0 0] 25)) (hx : PHeld W 0 (leafX L0) a0 c0 none 0) (hy : PHeld W 0 (leafX L1) a1 c1 none 0) : KAt W 1 (some ⟨g, 0, none⟩) [leafX L0, leafX L1] := by
  refine KAt.mk fun i hi => ?_
  match i, hi with
  | 0, _ => exact ⟨a0, c0, none, 0, ⟨(blkM_c h _).trans rfl, (blkM_c h _).trans rfl, (blkM_c h _).trans rfl, (blkM_c h _).trans rfl, (blkM_c h _).trans rfl, (blkM_c h _).trans rfl, (blkM_c h _).trans rfl⟩, hx⟩
  | 1, _ => exact ⟨a1, c1, none, 0, ⟨(blkM_c h _).trans rfl, (blkM_c h _).trans rfl, (blkM_c h _).trans rfl, (blkM_c h _).trans rfl, (blkM_c h _).trans rfl, (blkM_c h _).trans rfl, (blkM_c h _).trans rfl⟩, hy⟩
set_option maxRecDepth 100000 in
theorem three_at {W : World} {g k : Nat} {a0 a1 : Option Addr} {c0 c1 : Nat} {L0 L1 : List UInt8} (h : W.heap[g]? = some (.cells #[.string tyX, .string ⟨#[]⟩, .string ⟨#[]⟩, .string ⟨#[]⟩, .int .i64 0, .slice a0 L0.length c0, .slice none 0 0, .string tyM, .string ⟨#[]⟩, .string ⟨#[]⟩, .string ⟨#[]⟩, .int .i64 0, .slice none 0 0, .slice (some ⟨k, 0, none⟩) 2 2, .string tyX, .string ⟨#[]⟩, .string ⟨#[]⟩, .string ⟨#[]⟩, .int .i64 0, .slice a1 L1.length c1, .slice none 0 0] 25)) (hx : PHeld W 1 (leafX L0) a0 c0 none 0) (hm : PHeld W 1 (bundX L0 L1) none 0 (some ⟨k, 0, none⟩) 2) (hy : PHeld W 1 (leafX L1) a1 c1 none 0) : KAt W 2 (some ⟨g, 0, none⟩) [leafX L0, bundX L0 L1, leafX L1] := by
  refine KAt.mk fun i hi => ?_
  match i, hi with
  | 0, _ => exact ⟨a0, c0, none, 0, ⟨(blkM_c h _).trans rfl, (blkM_c h _).trans rfl, (blkM_c h _).trans rfl, (blkM_c h _).trans rfl, (blkM_c h _).trans rfl, (blkM_c h _).trans rfl, (blkM_c h _).trans rfl⟩, hx⟩
  | 1, _ => exact ⟨none, 0, some ⟨k, 0, none⟩, 2, ⟨(blkM_c h _).trans rfl, (blkM_c h _).trans rfl, (blkM_c h _).trans rfl, (blkM_c h _).trans rfl, (blkM_c h _).trans rfl, (blkM_c h _).trans rfl, (blkM_c h _).trans rfl⟩, hm⟩
  | 2, _ => exact ⟨a1, c1, none, 0, ⟨(blkM_c h _).trans rfl, (blkM_c h _).trans rfl, (blkM_c h _).trans rfl, (blkM_c h _).trans rfl, (blkM_c h _).trans rfl, (blkM_c h _).trans rfl, (blkM_c h _).trans rfl⟩, hy⟩
theorem new_at (W : World) (o : Obj) (k : Nat) (h : W.heap.size = k) : (W.alloc o).heap[k]? = some o := by subst h; exact blkM_new W o
set_option maxHeartbeats 8000000 in
set_option maxRecDepth 100000 in
/-- MimeBorders. -/
theorem mbord_any (a0 : Option Addr) (n0 c0 : Nat) (L0 : List UInt8) (en0 : n0 = L0.length) (a1 : Option Addr) (n1 c1 : Nat) (L1 : List UInt8) (en1 : n1 = L1.length) (deep : Bool) (w : World) (hE : MEnv w)
    (h01 : n0 ≤ c0) (h02 : c0 ≤ maxLen) (h03 : a0 = none → n0 = 0 ∧ c0 = 0) (hr0 : BRow w a0 L0) (h11 : n1 ≤ c1) (h12 : c1 ≤ maxLen) (h13 : a1 = none → n1 = 0 ∧ c1 = 0) (hr1 : BRow w a1 L1) :
    Calls Tryz.prog 7 #[.slice a0 n0 c0, .slice a1 n1 c1, .bool deep] w fun e w' => e = .returned (.bool true) ∧ Below w.heap.size w w' := by
  subst en0 en1
  have HE : Hid (MEnv w) := hE
  have HX : Hid (∀ W F, Below w.heap.size w W → PHeld W F (leafX L0) a0 c0 none 0) := fun W F hb => leaf_held h01 h02 (fun e => (h03 e).2) (hr0.under hb) F
  have HY : Hid (∀ W F, Below w.heap.size w W → PHeld W F (leafX L1) a1 c1 none 0) := fun W F hb => leaf_held h11 h12 (fun e => (h13 e).2) (hr1.under hb) F
  clear hE h01 h02 h03 hr0 h11 h12 h13 hr1
  cases deep with
  | false =>
    obtain ⟨W, hW⟩ : ∃ W, W = (((w.alloc (.cells #[.string tyX, .string ⟨#[]⟩, .string ⟨#[]⟩, .string ⟨#[]⟩, .int .i64 0, .slice a0 L0.length c0, .slice none 0 0] 25)).alloc (.cells #[.string tyX, .string ⟨#[]⟩, .string ⟨#[]⟩, .string ⟨#[]⟩, .int .i64 0, .slice a1 L1.length c1, .slice none 0 0] 25)).alloc (.cells #[.string tyX, .string ⟨#[]⟩, .string ⟨#[]⟩, .string ⟨#[]⟩, .int .i64 0, .slice a0 L0.length c0, .slice none 0 0, .string tyX, .string ⟨#[]⟩, .string ⟨#[]⟩, .string ⟨#[]⟩, .int .i64 0, .slice a1 L1.length c1, .slice none 0 0] 25)).alloc (.cells #[.string tyM, .string ⟨#[]⟩, .string ⟨#[]⟩, .string ⟨#[]⟩, .int .i64 0, .slice none 0 0, .slice (some ⟨w.heap.size + 1 + 1, 0, none⟩) 2 2] 25) := ⟨_, rfl⟩
    have hb : Below w.heap.size w W := by rw [hW]; exact ((((Below.refl _ _).alloc (Nat.le_refl _) _).alloc (by simp) _).alloc (by simp; omega) _).alloc (by simp; omega) _
    have hk : W.heap[w.heap.size + 1 + 1]? = some (.cells #[.string tyX, .string ⟨#[]⟩, .string ⟨#[]⟩, .string ⟨#[]⟩, .int .i64 0, .slice a0 L0.length c0, .slice none 0 0, .string tyX, .string ⟨#[]⟩, .string ⟨#[]⟩, .string ⟨#[]⟩, .int .i64 0, .slice a1 L1.length c1, .slice none 0 0] 25) := by rw [hW]; exact blkM_on (new_at _ _ _ (by simp)) ((Below.refl _ _).alloc (Nat.le_refl _) _)
    have hkp : W.heap[w.heap.size + 1 + 1 + 1]? = some (.cells (pvl (bundX L0 L1) none 0 (some ⟨w.heap.size + 1 + 1, 0, none⟩) 2) 25) := by rw [hW]; exact new_at _ _ _ (by simp)
    have HH : Hid (PHeld W 1 (bundX L0 L1) none 0 (some ⟨w.heap.size + 1 + 1, 0, none⟩) 2) := many_held (by decide) rfl (by decide) (two_at hk (HX.out W 0 hb) (HY.out W 0 hb))
    clear hk HX HY
    go_enter Tryz.func7, Tryz.ntmps7
    go_wp2_with fail
    show Calls _ _ _ ((((w.alloc (.cells #[.string tyX, .string ⟨#[]⟩, .string ⟨#[]⟩, .string ⟨#[]⟩, .int .i64 0, .slice a0 L0.length c0, .slice none 0 0] 25)).alloc (.cells #[.string tyX, .string ⟨#[]⟩, .string ⟨#[]⟩, .string ⟨#[]⟩, .int .i64 0, .slice a1 L1.length c1, .slice none 0 0] 25)).alloc (.cells #[.string tyX, .string ⟨#[]⟩, .string ⟨#[]⟩, .string ⟨#[]⟩, .int .i64 0, .slice a0 L0.length c0, .slice none 0 0, .string tyX, .string ⟨#[]⟩, .string ⟨#[]⟩, .string ⟨#[]⟩, .int .i64 0, .slice a1 L1.length c1, .slice none 0 0] 25)).alloc (.cells #[.string tyM, .string ⟨#[]⟩, .string ⟨#[]⟩, .string ⟨#[]⟩, .int .i64 0, .slice none 0 0, .slice (some ⟨w.heap.size + 1 + 1, 0, none⟩) 2 2] 25)) _
    rw [← hW]
    clear hW
    show Calls _ _ #[.agg (pvl (bundX L0 L1) none 0 (some ⟨w.heap.size + 1 + 1, 0, none⟩) 2)] _ _
    refine (write_mime (bundX L0 L1) none 0 (some ⟨w.heap.size + 1 + 1, 0, none⟩) 2 1 W (HE.out.below hb).2 HH.out).mono ?_
    rintro e w2 ⟨hb2, q2, c2, rfl, b1, b2, b3, hr2⟩
    have hk2 := blkM_on hkp hb2
    have hbe2 : Below w.heap.size w w2 := hb.trans (hb2.mono hb.size)
    have HW : Hid ((writeM (bundX L0 L1)).1 = 0 → (placesP (bundX L0 L1)).1 = 0 ∧ ∀ W', Below w2.heap.size w2 W' → Calls Tryz.prog 10 #[.slice q2 (writeM (bundX L0 L1)).2.length c2] W' fun e w' => Below W'.heap.size W' w' ∧ ∃ pb cb pk ck, e = .returned (.tuple #[.agg (pvl (bundX L0 L1) pb cb pk ck), .int .i64 0]) ∧ PHeld w' 3 (bundX L0 L1) pb cb pk ck) := fun h0 => ⟨(writeM_ok h0).1, fun W' hW' => read_ok (read_write h0) rfl ((HE.out.below hbe2).below hW') b1 b2 (fun e => by have := b3 e; omega) (hr2.under hW')⟩
    have HP2 : Hid (PHeld w2 1 (bundX L0 L1) none 0 (some ⟨w.heap.size + 1 + 1, 0, none⟩) 2) := HH.out.below hb2
    clear hkp hb hb2 b1 b2 b3 hr2 HH
    generalize (writeM (bundX L0 L1)).2.length = nT at *
    generalize (writeM (bundX L0 L1)).1 = eT at *
    by_cases h0 : eT = 0
    · obtain ⟨hpl, CR0⟩ := HW.out h0
      subst h0
      clear HW
      have CR : Hid (∀ W', Below w2.heap.size w2 W' → Calls Tryz.prog 10 #[.slice q2 nT c2] W' fun e w' => Below W'.heap.size W' w' ∧ ∃ pb cb pk ck, e = .returned (.tuple #[.agg (pvl (bundX L0 L1) pb cb pk ck), .int .i64 0]) ∧ PHeld w' 3 (bundX L0 L1) pb cb pk ck) := CR0
      clear CR0
      go_wp2_with fail
      refine (bundled_any _ (HE.out.below hbe2)).mono ?_
      rintro e w3 ⟨rfl, hb3⟩
      go_wp2_with fail
      refine (CR.out _ hb3).mono ?_
      rintro e w4 ⟨hb4, pb4, cb4, pk4, ck4, rfl, hH4⟩
      have hb24 : Below w2.heap.size w2 w4 := hb3.trans (hb4.mono hb3.size)
      have hk4 := blkM_on hk2 hb24
      have hbe4 : Below w.heap.size w w4 := hbe2.trans (hb24.mono hbe2.size)
      have HS : Hid (∀ W', Below w4.heap.size w4 W' → Calls Tryz.prog 20 #[.agg (pvl (bundX L0 L1) none 0 (some ⟨w.heap.size + 1 + 1, 0, none⟩) 2), .agg (pvl (bundX L0 L1) pb4 cb4 pk4 ck4)] W' fun e w' => e = .returned (.bool true) ∧ Below W'.heap.size W' w') := fun W' hW' => same_self hpl ((HP2.out.below hb24).below hW') (hH4.below hW')
      clear CR hb3 hb4 hH4 hk2 hbe2 hb24 hpl
      obtain ⟨d0, d1, d2, d3, d4, d5, d6, -⟩ := m_cells hk4
      have hlt4 : w.heap.size + 1 + 1 + 1 < w4.heap.size := (Array.getElem?_eq_some_iff.1 hk4).1
      have hne4 : ¬ w.heap.size + 1 + 1 + 1 = w4.heap.size := by omega
      go_wp2_with fail
      refine (HS.out _ ((Below.refl _ _).alloc (Nat.le_refl _) _)).mono ?_
      rintro e w5 ⟨rfl, hb5⟩
      have hbe5 : Below w.heap.size w w5 := (hbe4.alloc hbe4.size _).trans (hb5.mono (by have := hbe4.size; simp; omega))
      clear HS hb5 hbe4 hk4 d0 d1 d2 d3 d4 d5 d6
      go_wp2_with fail
      go_ret
      exact ⟨rfl, hbe5⟩
    · have hz : ((eT : Int) == 0) = false := by rw [beq_eq_false_iff_ne]; omega
      clear HW HP2
      go_wp2_with fail
      refine (bundled_any _ (HE.out.below hbe2)).mono ?_
      rintro e w3 ⟨rfl, hb3⟩
      have hbe3 : Below w.heap.size w w3 := hbe2.trans (hb3.mono hbe2.size)
      clear hb3
      go_wp2_with fail
      refine (bundled_any _ (HE.out.below hbe3)).mono ?_
      rintro e w4 ⟨rfl, hb4⟩
      have hbe4 : Below w.heap.size w w4 := hbe3.trans (hb4.mono hbe3.size)
      clear hb4 hbe3
      go_wp2_with fail
      go_ret
      exact ⟨rfl, hbe4⟩
  | true =>
    obtain ⟨W, hW⟩ : ∃ W, W = ((((w.alloc (.cells #[.string tyX, .string ⟨#[]⟩, .string ⟨#[]⟩, .string ⟨#[]⟩, .int .i64 0, .slice a0 L0.length c0, .slice none 0 0] 25)).alloc (.cells #[.string tyX, .string ⟨#[]⟩, .string ⟨#[]⟩, .string ⟨#[]⟩, .int .i64 0, .slice a1 L1.length c1, .slice none 0 0] 25)).alloc (.cells #[.string tyX, .string ⟨#[]⟩, .string ⟨#[]⟩, .string ⟨#[]⟩, .int .i64 0, .slice a0 L0.length c0, .slice none 0 0, .string tyX, .string ⟨#[]⟩, .string ⟨#[]⟩, .string ⟨#[]⟩, .int .i64 0, .slice a1 L1.length c1, .slice none 0 0] 25)).alloc (.cells #[.string tyN, .string ⟨#[]⟩, .string ⟨#[]⟩, .string ⟨#[]⟩, .int .i64 0, .slice none 0 0, .slice (some ⟨w.heap.size + 1 + 1 + 1 + 1, 0, none⟩) 3 3] 25)).alloc (.cells #[.string tyX, .string ⟨#[]⟩, .string ⟨#[]⟩, .string ⟨#[]⟩, .int .i64 0, .slice a0 L0.length c0, .slice none 0 0, .string tyM, .string ⟨#[]⟩, .string ⟨#[]⟩, .string ⟨#[]⟩, .int .i64 0, .slice none 0 0, .slice (some ⟨w.heap.size + 1 + 1, 0, none⟩) 2 2, .string tyX, .string ⟨#[]⟩, .string ⟨#[]⟩, .string ⟨#[]⟩, .int .i64 0, .slice a1 L1.length c1, .slice none 0 0] 25) := ⟨_, rfl⟩
    have hb : Below w.heap.size w W := by rw [hW]; exact (((((Below.refl _ _).alloc (Nat.le_refl _) _).alloc (by simp) _).alloc (by simp; omega) _).alloc (by simp; omega) _).alloc (by simp; omega) _
    have hk : W.heap[w.heap.size + 1 + 1]? = some (.cells #[.string tyX, .string ⟨#[]⟩, .string ⟨#[]⟩, .string ⟨#[]⟩, .int .i64 0, .slice a0 L0.length c0, .slice none 0 0, .string tyX, .string ⟨#[]⟩, .string ⟨#[]⟩, .string ⟨#[]⟩, .int .i64 0, .slice a1 L1.length c1, .slice none 0 0] 25) := by rw [hW]; exact blkM_on (blkM_on (new_at _ _ _ (by simp)) ((Below.refl _ _).alloc (Nat.le_refl _) _)) ((Below.refl _ _).alloc (Nat.le_refl _) _)
    have hkp : W.heap[w.heap.size + 1 + 1 + 1]? = some (.cells (pvl (bundY L0 L1) none 0 (some ⟨w.heap.size + 1 + 1 + 1 + 1, 0, none⟩) 3) 25) := by rw [hW]; exact blkM_on (new_at _ _ _ (by simp)) ((Below.refl _ _).alloc (Nat.le_refl _) _)
    have hk4 : W.heap[w.heap.size + 1 + 1 + 1 + 1]? = some (.cells #[.string tyX, .string ⟨#[]⟩, .string ⟨#[]⟩, .string ⟨#[]⟩, .int .i64 0, .slice a0 L0.length c0, .slice none 0 0, .string tyM, .string ⟨#[]⟩, .string ⟨#[]⟩, .string ⟨#[]⟩, .int .i64 0, .slice none 0 0, .slice (some ⟨w.heap.size + 1 + 1, 0, none⟩) 2 2, .string tyX, .string ⟨#[]⟩, .string ⟨#[]⟩, .string ⟨#[]⟩, .int .i64 0, .slice a1 L1.length c1, .slice none 0 0] 25) := by rw [hW]; exact new_at _ _ _ (by simp)
    have HH : Hid (PHeld W 2 (bundY L0 L1) none 0 (some ⟨w.heap.size + 1 + 1 + 1 + 1, 0, none⟩) 3) := many_held (by decide) rfl (by decide) (three_at hk4 (HX.out W 1 hb) (many_held (by decide) rfl (by decide) (two_at hk (HX.out W 0 hb) (HY.out W 0 hb))) (HY.out W 1 hb))
    clear hk hk4 HX HY
    go_enter Tryz.func7, Tryz.ntmps7
    go_wp2_with fail
    show Calls _ _ _ (((((w.alloc (.cells #[.string tyX, .string ⟨#[]⟩, .string ⟨#[]⟩, .string ⟨#[]⟩, .int .i64 0, .slice a0 L0.length c0, .slice none 0 0] 25)).alloc (.cells #[.string tyX, .string ⟨#[]⟩, .string ⟨#[]⟩, .string ⟨#[]⟩, .int .i64 0, .slice a1 L1.length c1, .slice none 0 0] 25)).alloc (.cells #[.string tyX, .string ⟨#[]⟩, .string ⟨#[]⟩, .string ⟨#[]⟩, .int .i64 0, .slice a0 L0.length c0, .slice none 0 0, .string tyX, .string ⟨#[]⟩, .string ⟨#[]⟩, .string ⟨#[]⟩, .int .i64 0, .slice a1 L1.length c1, .slice none 0 0] 25)).alloc (.cells #[.string tyN, .string ⟨#[]⟩, .string ⟨#[]⟩, .string ⟨#[]⟩, .int .i64 0, .slice none 0 0, .slice (some ⟨w.heap.size + 1 + 1 + 1 + 1, 0, none⟩) 3 3] 25)).alloc (.cells #[.string tyX, .string ⟨#[]⟩, .string ⟨#[]⟩, .string ⟨#[]⟩, .int .i64 0, .slice a0 L0.length c0, .slice none 0 0, .string tyM, .string ⟨#[]⟩, .string ⟨#[]⟩, .string ⟨#[]⟩, .int .i64 0, .slice none 0 0, .slice (some ⟨w.heap.size + 1 + 1, 0, none⟩) 2 2, .string tyX, .string ⟨#[]⟩, .string ⟨#[]⟩, .string ⟨#[]⟩, .int .i64 0, .slice a1 L1.length c1, .slice none 0 0] 25)) _
    rw [← hW]
    clear hW
    show Calls _ _ #[.agg (pvl (bundY L0 L1) none 0 (some ⟨w.heap.size + 1 + 1 + 1 + 1, 0, none⟩) 3)] _ _
    refine (write_mime (bundY L0 L1) none 0 (some ⟨w.heap.size + 1 + 1 + 1 + 1, 0, none⟩) 3 2 W (HE.out.below hb).2 HH.out).mono ?_
    rintro e w2 ⟨hb2, q2, c2, rfl, b1, b2, b3, hr2⟩
    have hk2 := blkM_on hkp hb2
    have hbe2 : Below w.heap.size w w2 := hb.trans (hb2.mono hb.size)
    have HW : Hid ((writeM (bundY L0 L1)).1 = 0 → (placesP (bundY L0 L1)).1 = 0 ∧ ∀ W', Below w2.heap.size w2 W' → Calls Tryz.prog 10 #[.slice q2 (writeM (bundY L0 L1)).2.length c2] W' fun e w' => Below W'.heap.size W' w' ∧ ∃ pb cb pk ck, e = .returned (.tuple #[.agg (pvl (bundY L0 L1) pb cb pk ck), .int .i64 0]) ∧ PHeld w' 3 (bundY L0 L1) pb cb pk ck) := fun h0 => ⟨(writeM_ok h0).1, fun W' hW' => read_ok (read_write h0) rfl ((HE.out.below hbe2).below hW') b1 b2 (fun e => by have := b3 e; omega) (hr2.under hW')⟩
    have HP2 : Hid (PHeld w2 2 (bundY L0 L1) none 0 (some ⟨w.heap.size + 1 + 1 + 1 + 1, 0, none⟩) 3) := HH.out.below hb2
    clear hkp hb hb2 b1 b2 b3 hr2 HH
    generalize (writeM (bundY L0 L1)).2.length = nT at *
    generalize (writeM (bundY L0 L1)).1 = eT at *
    by_cases h0 : eT = 0
    · obtain ⟨hpl, CR0⟩ := HW.out h0
      subst h0
      clear HW
      have CR : Hid (∀ W', Below w2.heap.size w2 W' → Calls Tryz.prog 10 #[.slice q2 nT c2] W' fun e w' => Below W'.heap.size W' w' ∧ ∃ pb cb pk ck, e = .returned (.tuple #[.agg (pvl (bundY L0 L1) pb cb pk ck), .int .i64 0]) ∧ PHeld w' 3 (bundY L0 L1) pb cb pk ck) := CR0
      clear CR0
      go_wp2_with fail
      refine (bundled_any _ (HE.out.below hbe2)).mono ?_
      rintro e w3 ⟨rfl, hb3⟩
      go_wp2_with fail
      refine (CR.out _ hb3).mono ?_
      rintro e w4 ⟨hb4, pb4, cb4, pk4, ck4, rfl, hH4⟩
      have hb24 : Below w2.heap.size w2 w4 := hb3.trans (hb4.mono hb3.size)
      have hk4 := blkM_on hk2 hb24
      have hbe4 : Below w.heap.size w w4 := hbe2.trans (hb24.mono hbe2.size)
      have HS : Hid (∀ W', Below w4.heap.size w4 W' → Calls Tryz.prog 20 #[.agg (pvl (bundY L0 L1) none 0 (some ⟨w.heap.size + 1 + 1 + 1 + 1, 0, none⟩) 3), .agg (pvl (bundY L0 L1) pb4 cb4 pk4 ck4)] W' fun e w' => e = .returned (.bool true) ∧ Below W'.heap.size W' w') := fun W' hW' => same_self hpl ((HP2.out.below hb24).below hW') (hH4.below hW')
      clear CR hb3 hb4 hH4 hk2 hbe2 hb24 hpl
      obtain ⟨d0, d1, d2, d3, d4, d5, d6, -⟩ := m_cells hk4
      have hlt4 : w.heap.size + 1 + 1 + 1 < w4.heap.size := (Array.getElem?_eq_some_iff.1 hk4).1
      have hne4 : ¬ w.heap.size + 1 + 1 + 1 = w4.heap.size := by omega
      go_wp2_with fail
      refine (HS.out _ ((Below.refl _ _).alloc (Nat.le_refl _) _)).mono ?_
      rintro e w5 ⟨rfl, hb5⟩
      have hbe5 : Below w.heap.size w w5 := (hbe4.alloc hbe4.size _).trans (hb5.mono (by have := hbe4.size; simp; omega))
      clear HS hb5 hbe4 hk4 d0 d1 d2 d3 d4 d5 d6
      go_wp2_with fail
      go_ret
      exact ⟨rfl, hbe5⟩
    · have hz : ((eT : Int) == 0) = false := by rw [beq_eq_false_iff_ne]; omega
      clear HW HP2
      go_wp2_with fail
      refine (bundled_any _ (HE.out.below hbe2)).mono ?_
      rintro e w3 ⟨rfl, hb3⟩
      have hbe3 : Below w.heap.size w w3 := hbe2.trans (hb3.mono hbe2.size)
      clear hb3
      go_wp2_with fail
      refine (bundled_any _ (HE.out.below hbe3)).mono ?_
      rintro e w4 ⟨rfl, hb4⟩
      have hbe4 : Below w.heap.size w w4 := hbe3.trans (hb4.mono hbe3.size)
      clear hb4 hbe3
      go_wp2_with fail
      go_ret
      exact ⟨rfl, hbe4⟩
end Go.Proofs.YtpgnkhaanoalhaaGreatDoor

/- The listed tables of unicode and unicode/utf8, read off the row's list: they lie in memory as the plain functions have them. No function of the program. -/
namespace Go.Proofs.YtpgnkhaanoalhaaGreatDoor
open Go.RowKit Go.Lib Go.Shelf

theorem utf8_laid {w : World} (h3 : VarReads Tryz.prog w "unicode/utf8.first" firstData) (h4 : VarReads Tryz.prog w "unicode/utf8.acceptRanges" acceptData) : Lib.Utf8Tabs 6 7 w :=
  utf8Tabs_of_readsT (ρ := Tryz.lays159_ren) { Tryz.lays159 with } ⟨by kernel_rfl, by kernel_rfl, by kernel_rfl, by kernel_rfl, by kernel_rfl, by kernel_rfl, by kernel_rfl⟩ h3 h4
theorem case_laid {w : World} (h : VarReads Tryz.prog w "unicode.CaseRanges" caseData) : CaseVar 4 caseA w :=
  caseVar_of_reads (ρ := Tryz.lays159_ren) { Tryz.lays159 with } Tryz.lays159.t206 ⟨by kernel_rfl, by kernel_rfl, by kernel_rfl, by kernel_rfl, by kernel_rfl, by kernel_rfl⟩ h

def ascData : DataW Unit := tabData .u16 (asc.map fun (n : Nat) => (n : Int))
def orbData : DataW Unit := .slice (orb.map fun x => .agg [.lit (.int .u16 (x.1 : Int)), .lit (.int .u16 (x.2 : Int))]) []
theorem asc_same : Rows.laid_unicode_asciiFold = ascData := by kernel_rfl
theorem orb_same : Rows.laid_unicode_caseOrbit = orbData := by kernel_rfl

theorem asc_laid {w : World} (h : VarReads Tryz.prog w "unicode.asciiFold" ascData) : AscTab w := by
  obtain ⟨g, t, cs, fuel, p, hg, hty, hvar, hd⟩ := h
  obtain rfl := Option.some.inj ((show Tryz.prog.globalNamed "unicode.asciiFold" = some 2 by kernel_rfl).symm.trans hg)
  obtain rfl := Option.some.inj ((show (Tryz.prog.globals[(2 : Nat)]?).map (·.type) = some 198 by kernel_rfl).symm.trans hty)
  intro i hi
  have hcs := cells_of_tab Tryz.underlying198 Tryz.underlying197 (by kernel_rfl) (by kernel_rfl) hd
  rw [World.var?_cell hg hvar i, ← Array.getElem?_toList, hcs, List.getElem?_map, List.getElem?_map]
  have hl := asc_length
  rw [List.getD_eq_getElem?_getD, List.getElem?_eq_getElem (by omega)]
  rfl

theorem orb_laid {w : World} (h : VarReads Tryz.prog w "unicode.caseOrbit" orbData) : OrbTab w := by
  obtain ⟨g, t, cs, fuel, p, hg, hty, hvar, hd⟩ := h
  obtain rfl := Option.some.inj ((show Tryz.prog.globalNamed "unicode.caseOrbit" = some 3 by kernel_rfl).symm.trans hg)
  obtain rfl := Option.some.inj ((show (Tryz.prog.globals[(3 : Nat)]?).map (·.type) = some 199 by kernel_rfl).symm.trans hty)
  have hl := orb_length
  obtain ⟨f0, f1, hu, o0, o1, t0, t1⟩ : ∃ f0 f1 : Field, Tryz.prog.underlying 201 = some (.struct #[f0, f1]) ∧ f0.offset = 0 ∧ f1.offset = 1 ∧ f0.type = 197 ∧ f1.type = 197 := ⟨_, _, Tryz.underlying201, rfl, rfl, rfl, rfl⟩
  rcases Go.Deep.open_slice_pairs Tryz.underlying199 hu (by kernel_rfl) o0 o1 (by rw [t0]; kernel_rfl) (by rw [t1]; kernel_rfl) hd with ⟨_, hx⟩ | ⟨a, len, cap, m, n, V0, V1, D0, D1, P0, P1, hcs, _, hlc, _, hmm, hx, each⟩
  · cases hx
  · have hE := congrArg Prod.fst hx
    simp only [orbData, DataW.slice.injEq] at hE
    have hlen : len = 94 := by
      have := congrArg List.length hE.1
      rw [List.length_map, List.length_map, List.length_range, hl] at this
      exact this.symm
    subst hlen
    have hm94 : 94 ≤ m := by rw [hmm]; split <;> omega
    have row : ∀ i, i < 94 → w.cell? (a.add (i * 2)) = some (.int .u16 (((orb.getD i (0, 0)).1 : Nat) : Int)) ∧ w.cell? (a.add (i * 2 + 1)) = some (.int .u16 (((orb.getD i (0, 0)).2 : Nat) : Int)) := fun i hi => by
      obtain ⟨h1, h2, h3, h4⟩ := each i (by omega)
      rw [t0] at h3
      rw [t1] at h4
      obtain ⟨z0, e0, x0, _⟩ := DataW.trod_int Tryz.underlying197 h3
      obtain ⟨z1, e1, x1, _⟩ := DataW.trod_int Tryz.underlying197 h4
      have hi2 : i < orb.length := by omega
      have hd := congrArg (·[i]?) hE.1
      simp only [List.getElem?_map, List.getElem?_range hi, List.getElem?_eq_getElem hi2, Option.map_some, Option.some.injEq, DataW.agg.injEq, List.cons.injEq] at hd
      have y0 := congrArg Prod.fst x0
      have y1 := congrArg Prod.fst x1
      simp only at y0 y1
      rw [y0, y1] at hd
      have q0 := hd.1
      have q1 := hd.2.1
      simp only [DataW.lit.injEq, Lit.int.injEq, true_and] at q0 q1
      have ed : orb.getD i (0, 0) = orb[i] := by rw [List.getD_eq_getElem?_getD, List.getElem?_eq_getElem hi2]; rfl
      rw [ed, h1, h2, (List.cons.inj e0).1, (List.cons.inj e1).1, ← q0, ← q1]
      exact ⟨rfl, rfl⟩
    obtain ⟨R, oR, sR⟩ := a
    obtain rfl : sR = none := by simpa [Addr.add] using World.cell?_spot (row 0 (by omega)).1
    refine ⟨R, oR, cap, ?_, fun i hi => ?_⟩
    · rw [World.var?_cell hg hvar 0, ← Array.getElem?_toList, hcs]; rfl
    · have h1 := row i hi
      rw [Addr.add_lit, Addr.add_lit] at h1
      exact ⟨h1.1, by rw [Nat.add_assoc]; exact h1.2⟩

end Go.Proofs.YtpgnkhaanoalhaaGreatDoor
