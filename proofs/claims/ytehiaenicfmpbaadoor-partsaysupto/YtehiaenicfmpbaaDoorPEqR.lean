/- slices.EqualFunc by the reference's SamePart of two lists of the same parts answers true; nothing that was there is changed. Conditions: the parts lie there. -/
import Derived.Test.YtehiaenicfmpbaaDoorRSame
import Derived.Test.YtehiaenicfmpbaaDoorPCells
namespace Go.Proofs.YtehiaenicfmpbaaDoor
open Go.RowKit

def aggOf (z : PZ) : Value := .agg #[.string z.1.ty, .string z.1.cs, .string z.1.id, .string z.1.loc, .int .i64 z.1.how, .slice z.2.1.1 z.1.body.length z.2.1.2, .slice z.2.2.1 z.1.kids.length z.2.2.2]

set_option maxHeartbeats 2000000 in
theorem eqSameR_some (b o b2 o2 n c d : Nat) (Y Z : List PZ) (eY : n = Y.length) (eZ : n = Z.length) (w : World) (h0 : 1 ≤ n) (hn : n ≤ 100000)
    (hY : ∀ j u, (pzv Y)[j]? = some u → w.cell? ⟨b, o + j, none⟩ = some u) (hZ : ∀ j u, (pzv Z)[j]? = some u → w.cell? ⟨b2, o2 + j, none⟩ = some u)
    (hF : ∀ (i : Nat) y z, Y[i]? = some y → Z[i]? = some z → ∀ w', Below w.heap.size w w' → Calls Tryd.prog 59 #[aggOf y, aggOf z] w' fun e w'' => e = .returned (.bool true) ∧ Below w'.heap.size w' w'') :
    Calls Tryd.prog 67 #[.slice (some ⟨b, o, none⟩) n c, .slice (some ⟨b2, o2, none⟩) n d, .func (Fn.func 59) #[] #[]] w fun e w' => e = .returned (.bool true) ∧ Below w.heap.size w w' := by
  have HE : Hid (n = Y.length ∧ n = Z.length) := ⟨eY, eZ⟩
  have HF : Hid (∀ (i : Nat) y z, Y[i]? = some y → Z[i]? = some z → ∀ w', Below w.heap.size w w' → Calls Tryd.prog 59 #[aggOf y, aggOf z] w' fun e w'' => e = .returned (.bool true) ∧ Below w'.heap.size w' w'') := hF
  have HY : Hid (∀ j u, (pzv Y)[j]? = some u → w.cell? ⟨b, o + j, none⟩ = some u) := hY
  have HZ : Hid (∀ j u, (pzv Z)[j]? = some u → w.cell? ⟨b2, o2 + j, none⟩ = some u) := hZ
  clear eY eZ hF hY hZ
  go_enter Tryd.func67, Tryd.ntmps67
  go_wp2_with fail
  go_loopw [17] (fun iv wr => ∃ k : Nat, k ≤ n ∧ iv = .int .i64 k ∧ Below w.heap.size w wr) (fun iv _ => n - (intOf iv).toNat)
  case atStart => exact ⟨0, Nat.zero_le _, rfl, Below.refl _ _⟩
  case round =>
    obtain ⟨k, hk, rfl, hbr⟩ := hrel
    have hsr := hbr.size
    by_cases hlt : k < n
    · have hlz : (k : Int) < (n : Int) := by omega
      have hkY : k < Y.length := by rw [← HE.out.1]; exact hlt
      have hkZ : k < Z.length := by rw [← HE.out.2]; exact hlt
      obtain ⟨y, hy⟩ : ∃ y, Y[k]? = some y := ⟨_, List.getElem?_eq_getElem hkY⟩
      obtain ⟨z, hz⟩ : ∃ z, Z[k]? = some z := ⟨_, List.getElem?_eq_getElem hkZ⟩
      have cy : ∀ j u, (pzc y)[j]? = some u → wr.cell? ⟨b, o + k * 7 + j, none⟩ = some u := fun j u hj => by
        have := HY.out (k * 7 + j) u (pz_at Y k y hy j u hj)
        rw [← Nat.add_assoc] at this
        exact (hbr.cell (World.block_lt_of_cell? w _ this)).trans this
      have cz : ∀ j u, (pzc z)[j]? = some u → wr.cell? ⟨b2, o2 + k * 7 + j, none⟩ = some u := fun j u hj => by
        have := HZ.out (k * 7 + j) u (pz_at Z k z hz j u hj)
        rw [← Nat.add_assoc] at this
        exact (hbr.cell (World.block_lt_of_cell? w _ this)).trans this
      have CF : Hid (∀ w', Below w.heap.size w w' → Calls Tryd.prog 59 #[aggOf y, aggOf z] w' fun e w'' => e = .returned (.bool true) ∧ Below w'.heap.size w' w'') := HF.out k y z hy hz
      clear hy hz
      obtain ⟨⟨yt, yc, yi, yl, yh, yb, yk⟩, ⟨yp, yq⟩, ⟨yr, ys⟩⟩ := y
      obtain ⟨⟨zt, zc, zi, zl, zh, zb, zk⟩, ⟨zp, zq⟩, ⟨zr, zs⟩⟩ := z
      have a0 := cy 0 _ rfl
      have a1 := cy 1 _ rfl
      have a2 := cy 2 _ rfl
      have a3 := cy 3 _ rfl
      have a4 := cy 4 _ rfl
      have a5 := cy 5 _ rfl
      have a6 := cy 6 _ rfl
      have d0 := cz 0 _ rfl
      have d1 := cz 1 _ rfl
      have d2 := cz 2 _ rfl
      have d3 := cz 3 _ rfl
      have d4 := cz 4 _ rfl
      have d5 := cz 5 _ rfl
      have d6 := cz 6 _ rfl
      have hbB : b < wr.heap.size := World.block_lt_of_cell? wr _ a0
      have hbB2 : b2 < wr.heap.size := World.block_lt_of_cell? wr _ d0
      simp only [aggOf, Nat.add_zero] at CF a0 a1 a2 a3 a4 a5 a6 d0 d1 d2 d3 d4 d5 d6
      clear cy cz
      obtain ⟨n1, hn1⟩ : ∃ n1, yb.length = n1 := ⟨_, rfl⟩
      obtain ⟨n2, hn2⟩ : ∃ n2, yk.length = n2 := ⟨_, rfl⟩
      obtain ⟨n3, hn3⟩ : ∃ n3, zb.length = n3 := ⟨_, rfl⟩
      obtain ⟨n4, hn4⟩ : ∃ n4, zk.length = n4 := ⟨_, rfl⟩
      rw [hn1] at a5 CF
      rw [hn2] at a6 CF
      rw [hn3] at d5 CF
      rw [hn4] at d6 CF
      clear hn1 hn2 hn3 hn4
      have hba := (hbr.alloc hsr (.cells #[.string yt, .string yc, .string yi, .string yl, .int .i64 yh, .slice yp n1 yq, .slice yr n2 ys] 65)).alloc (by simp; omega) (.cells #[.string zt, .string zc, .string zi, .string zl, .int .i64 zh, .slice zp n3 zq, .slice zr n4 zs] 65)
      go_wp2_with fail
      refine (CF.out _ hba).mono ?_
      rintro e w2 ⟨rfl, hb2⟩
      have hb3 := hba.trans (hb2.mono (by simp; omega))
      clear CF
      go_wp2_with fail
      go_roundw
      case rel => exact ⟨k + 1, by omega, by go_num, hb3⟩
      case measure => simp [intOf]; omega
    · have hlz : ¬ ((k : Int) < (n : Int)) := by omega
      clear HF HY HZ
      go_wp2_with fail
      go_ret
      exact ⟨rfl, hbr⟩
theorem eqSameR_nil (p q : Option Addr) (c d : Nat) (w : World) :
    Calls Tryd.prog 67 #[.slice p 0 c, .slice q 0 d, .func (Fn.func 59) #[] #[]] w fun e w' => e = .returned (.bool true) ∧ Below w.heap.size w w' := by
  go_enter Tryd.func67, Tryd.ntmps67
  go_wp2_with fail
  refine wp_loop_rounds 1 ?_
  rw [rounds_succ]
  go_wp2_with fail
  go_ret
  exact ⟨rfl, Below.refl _ _⟩
/-- slices.EqualFunc. -/
theorem eqSameR_any (p q : Option Addr) (n c d : Nat) (Y Z : List PZ) (eY : n = Y.length) (eZ : n = Z.length) (w : World) (hn : n ≤ 100000) (hY : Cells w p (pzv Y)) (hZ : Cells w q (pzv Z))
    (hF : ∀ (i : Nat) y z, Y[i]? = some y → Z[i]? = some z → ∀ w', Below w.heap.size w w' → Calls Tryd.prog 59 #[aggOf y, aggOf z] w' fun e w'' => e = .returned (.bool true) ∧ Below w'.heap.size w' w'') :
    Calls Tryd.prog 67 #[.slice p n c, .slice q n d, .func (Fn.func 59) #[] #[]] w fun e w' => e = .returned (.bool true) ∧ Below w.heap.size w w' := by
  rcases Nat.eq_zero_or_pos n with h | h
  · subst h
    exact eqSameR_nil p q c d w
  · have lY := pzv_length Y
    have lZ := pzv_length Z
    obtain ⟨b, o, rfl, h1⟩ := hY (fun e => by rw [e] at lY; simp at lY; omega)
    obtain ⟨b2, o2, rfl, h2⟩ := hZ (fun e => by rw [e] at lZ; simp at lZ; omega)
    exact eqSameR_some b o b2 o2 n c d Y Z eY eZ w h hn h1 h2 hF
end Go.Proofs.YtehiaenicfmpbaaDoor
