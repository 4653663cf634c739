
import Derived.Test.YtbbfcbodhmeanaaGreatDoorXbundlemore28
namespace Go.Proofs.YtbbfcbodhmeanaaGreatDoor
open Go.RowKit
theorem own_other {w : World} {B e s n Qb : Nat} {v : Value} {xs : List Value} (h : w.ownsRow B e s v n xs) (hne : v.ownBlock ≠ some Qb) (k : Nat) (u : Value) : (w.setCell ⟨Qb, k, none⟩ u).ownsRow B e s v n xs := by
 refine ⟨h.1, ?_⟩
 rcases h.2 with h | ⟨g, cap, cur, e1, e2, e3, r⟩
 ·exact .inl h
 ·exact .inr ⟨g, cap, cur, e1, e2, by rw [Below.heap_setCell _ _ _ _ (fun e => hne (by rw [e1]; exact congrArg some e))]; exact e3, r⟩
set_option maxRecDepth 1000000 in
set_option maxHeartbeats 4000000 in
theorem lbR5 (W : World) (Qb B nk ck : Nat) (pk : Option Addr) (v0 v1 v2 v3 v4 v5 : Value) (xs : List Value) (hQ : W.heap[Qb]? = some (.cells #[v0, v1, v2, v3, v4, v5, .slice pk nk ck] 25)) (hO : W.ownsRow B 25 7 (.slice pk nk ck) nk xs) (hB : B ≤ W.heap.size) (hnk : nk ≤ 100) (hne : (Value.slice pk nk ck).ownBlock ≠ some Qb) (c0 c1 c2 c3 c4 c5 c6 c8 c9 c10 c11 c12 c13 c14 c15 c16 c17 c18 c19 c20 c21 c22 c23 c24 c25 c26 c27 c28 c29 c30 c31 c32 c33 c34 c35 c36 c37 c38 c39 c40 c41 c42 c43 c44 c45 c46 c47 c48 c49 c50 c51 c52 c53 c54 c55 c56 c57 c58 c59 c60 c61 c62 c63 c64 c65 c66 c67 c68 c69 c70 c71 c72 : Value) (Q : Exit → Act → World → Prop)
  (hexit : ∀ u31 u32 u33 u34 u35 u36 : Value, ∀ (g cc : Nat) (w6 : World), w6.ownsRow B 25 7 (.slice (some ⟨g, 0, none⟩) (nk + 1) cc) (nk + 1) (xs ++ [.string ⟨#[116, 101, 120, 116, 47, 99, 115, 115]⟩, .string ⟨#[]⟩, .string ⟨#[]⟩, .string ⟨#[]⟩, .int .i64 0, .slice none 0 0, .slice none 0 0]) → (W.alloc (.cells #[.string ⟨#[116, 101, 120, 116, 47, 99, 115, 115]⟩, .string ⟨#[]⟩, .string ⟨#[]⟩, .string ⟨#[]⟩, .int .i64 0, .slice none 0 0, .slice none 0 0] 25)).grownBy w6 (Value.slice pk nk ck).ownBlock → ((Value.slice pk nk ck).ownBlock = some g ∨ g = W.heap.size + 1) → g < w6.heap.size → Q .normal ⟨(c0 :: c1 :: c2 :: c3 :: c4 :: c5 :: c6 :: .pointer (some ⟨Qb, 0, none⟩) :: c8 :: c9 :: c10 :: c11 :: c12 :: c13 :: c14 :: c15 :: c16 :: c17 :: c18 :: c19 :: c20 :: c21 :: c22 :: c23 :: c24 :: c25 :: c26 :: c27 :: c28 :: c29 :: c30 :: u31 :: u32 :: u33 :: u34 :: u35 :: u36 :: c37 :: c38 :: c39 :: c40 :: c41 :: c42 :: c43 :: c44 :: c45 :: c46 :: c47 :: c48 :: c49 :: c50 :: c51 :: c52 :: c53 :: c54 :: c55 :: c56 :: c57 :: c58 :: c59 :: c60 :: c61 :: c62 :: c63 :: c64 :: c65 :: c66 :: c67 :: c68 :: c69 :: c70 :: c71 :: c72 :: []).toArray, []⟩ (w6.setCell ⟨Qb, 6, none⟩ (.slice (some ⟨g, 0, none⟩) (nk + 1) cc))) :
  Code.wp Tryz.prog (regAt Tryz.f4 5) Q ⟨(c0 :: c1 :: c2 :: c3 :: c4 :: c5 :: c6 :: .pointer (some ⟨Qb, 0, none⟩) :: c8 :: c9 :: c10 :: c11 :: c12 :: c13 :: c14 :: c15 :: c16 :: c17 :: c18 :: c19 :: c20 :: c21 :: c22 :: c23 :: c24 :: c25 :: c26 :: c27 :: c28 :: c29 :: c30 :: c31 :: c32 :: c33 :: c34 :: c35 :: c36 :: c37 :: c38 :: c39 :: c40 :: c41 :: c42 :: c43 :: c44 :: c45 :: c46 :: c47 :: c48 :: c49 :: c50 :: c51 :: c52 :: c53 :: c54 :: c55 :: c56 :: c57 :: c58 :: c59 :: c60 :: c61 :: c62 :: c63 :: c64 :: c65 :: c66 :: c67 :: c68 :: c69 :: c70 :: c71 :: c72 :: []).toArray, []⟩ W := by
 have HX : Hid (∀ u31 u32 u33 u34 u35 u36 : Value, ∀ (g cc : Nat) (w6 : World), w6.ownsRow B 25 7 (.slice (some ⟨g, 0, none⟩) (nk + 1) cc) (nk + 1) (xs ++ [.string ⟨#[116, 101, 120, 116, 47, 99, 115, 115]⟩, .string ⟨#[]⟩, .string ⟨#[]⟩, .string ⟨#[]⟩, .int .i64 0, .slice none 0 0, .slice none 0 0]) → (W.alloc (.cells #[.string ⟨#[116, 101, 120, 116, 47, 99, 115, 115]⟩, .string ⟨#[]⟩, .string ⟨#[]⟩, .string ⟨#[]⟩, .int .i64 0, .slice none 0 0, .slice none 0 0] 25)).grownBy w6 (Value.slice pk nk ck).ownBlock → ((Value.slice pk nk ck).ownBlock = some g ∨ g = W.heap.size + 1) → g < w6.heap.size → Q .normal ⟨(c0 :: c1 :: c2 :: c3 :: c4 :: c5 :: c6 :: .pointer (some ⟨Qb, 0, none⟩) :: c8 :: c9 :: c10 :: c11 :: c12 :: c13 :: c14 :: c15 :: c16 :: c17 :: c18 :: c19 :: c20 :: c21 :: c22 :: c23 :: c24 :: c25 :: c26 :: c27 :: c28 :: c29 :: c30 :: u31 :: u32 :: u33 :: u34 :: u35 :: u36 :: c37 :: c38 :: c39 :: c40 :: c41 :: c42 :: c43 :: c44 :: c45 :: c46 :: c47 :: c48 :: c49 :: c50 :: c51 :: c52 :: c53 :: c54 :: c55 :: c56 :: c57 :: c58 :: c59 :: c60 :: c61 :: c62 :: c63 :: c64 :: c65 :: c66 :: c67 :: c68 :: c69 :: c70 :: c71 :: c72 :: []).toArray, []⟩ (w6.setCell ⟨Qb, 6, none⟩ (.slice (some ⟨g, 0, none⟩) (nk + 1) cc))) := hexit
 have HQ : Hid (W.heap[Qb]? = some (.cells #[v0, v1, v2, v3, v4, v5, .slice pk nk ck] 25)) := hQ
 have HO : Hid (W.ownsRow B 25 7 (.slice pk nk ck) nk xs) := hO
 have HNE : Hid ((Value.slice pk nk ck).ownBlock ≠ some Qb) := hne
 clear hexit
 conv => arg 2; whnf
 have z6 : W.cell? ⟨Qb, 6, none⟩ = some (.slice pk nk ck) := (blk_c hQ 6).trans rfl
 have hQl : Qb < W.heap.size := (Array.getElem?_eq_some_iff.1 hQ).1
 clear hQ hO hne
 go_wp2_with (at_builtin; obtain ⟨i0, hi, hz0, hz1, hz2⟩ := info_parts info_part; refine wpList_append_lies _ rfl (.tmp 32) (.tmp 34) 23 rfl B 25 i0 (.agg #[.string ⟨#[]⟩, .string ⟨#[]⟩, .string ⟨#[]⟩, .string ⟨#[]⟩, .int .i64 0, .slice none 0 0, .slice none 0 0]) 7 120 Tryz.underlying23 hi hz0 hz1 hz2 rfl (by decide) _ _ _ rfl (HO.out.alloc _) ⟨W.heap.size, 0, none⟩ 1 1 [.string ⟨#[116, 101, 120, 116, 47, 99, 115, 115]⟩, .string ⟨#[]⟩, .string ⟨#[]⟩, .string ⟨#[]⟩, .int .i64 0, .slice none 0 0, .slice none 0 0] rfl rfl ?c1 ?c2 (by decide) ?c3 ?c4 ?c5 (W.heap.size + 1) ?c6 ?_)
 case c1 => exact cell_seven _ [_, _, _, _, _, _, _] _ _ (by simp)
 case c2 => intro u hu; simp at hu; rcases hu with rfl | rfl | rfl | rfl | rfl | rfl | rfl <;> rfl
 case c3 => unfold maxLen; omega
 case c4 => omega
 case c5 => simp; omega
 case c6 => simp
 intro g cc w6 hown6 hg6 hlies hlt6
 have k6 : w6.heap[Qb]? = some (.cells #[v0, v1, v2, v3, v4, v5, .slice pk nk ck] 25) := by
  rw [hg6.block Qb (by simp; omega) (fun e => HNE.out e.symm), Below.heap_alloc _ _ _ hQl]
  exact HQ.out
 have y6 : w6.cell? ⟨Qb, 6, none⟩ = some (.slice pk nk ck) := (blk_c k6 6).trans rfl
 have yf : w6.frozen? ⟨Qb, 6, none⟩ = false := blk_f k6 6
 have HOW : Hid (w6.ownsRow B 25 7 (.slice (some ⟨g, 0, none⟩) (nk + 1) cc) (nk + 1) (xs ++ [.string ⟨#[116, 101, 120, 116, 47, 99, 115, 115]⟩, .string ⟨#[]⟩, .string ⟨#[]⟩, .string ⟨#[]⟩, .int .i64 0, .slice none 0 0, .slice none 0 0])) := hown6
 have HG6 : Hid _ := hg6
 have HLI : Hid _ := hlies
 have HLT : Hid (g < w6.heap.size) := hlt6
 clear k6 hown6 hg6 hlies hlt6 z6 HO HNE HQ
 go_wp2_with fail
 exact HX.out _ _ _ _ _ _ g cc w6 HOW.out HG6.out HLI.out HLT.out
end Go.Proofs.YtbbfcbodhmeanaaGreatDoor



namespace Go.Proofs.YtbbfcbodhmeanaaGreatDoor
open Go.RowKit
theorem first_eq {a b c d : Nat} (e : (⟨a, c, none⟩ : Addr) = ⟨b, d, none⟩) : a = b := by injection e
set_option maxRecDepth 1000000 in
set_option maxHeartbeats 4000000 in
theorem lbR10 (W : World) (Qb g k n1 cc : Nat) (how h x : Int) (CA : ∀ W, Calls Tryz.prog 20 #[.int .i64 how, .int .i64 3] W fun e w' => e = .returned (.int .i64 h) ∧ w' = W) (z6 : W.cell? ⟨Qb, 6, none⟩ = some (.slice (some ⟨g, 0, none⟩) n1 cc)) (y4 : W.cell? ⟨g, k * 7 + 4, none⟩ = some (.int .i64 x)) (yf : W.frozen? ⟨g, k * 7 + 4, none⟩ = false) (hk : k < n1) (hne : Qb ≠ g) (c0 c2 c3 c4 c5 c6 c9 c10 c11 c12 c13 c14 c15 c16 c17 c18 c19 c20 c21 c22 c23 c24 c25 c26 c27 c28 c29 c30 c31 c32 c33 c34 c35 c36 c37 c38 c39 c40 c41 c42 c43 c44 c45 c46 c47 c48 c49 c50 c51 c52 c53 c54 c55 c56 c57 c58 c59 c60 c61 c62 c63 c64 c65 c66 c67 c68 c69 c70 c71 c72 : Value) (Q : Exit → Act → World → Prop)
  (hexit : ∀ u49 u50 u51 u52 u53 u54 u55 : Value, Q .normal ⟨(c0 :: .int .i64 how :: c2 :: c3 :: c4 :: c5 :: c6 :: .pointer (some ⟨Qb, 0, none⟩) :: .int .i64 (k : Int) :: c9 :: c10 :: c11 :: c12 :: c13 :: c14 :: c15 :: c16 :: c17 :: c18 :: c19 :: c20 :: c21 :: c22 :: c23 :: c24 :: c25 :: c26 :: c27 :: c28 :: c29 :: c30 :: c31 :: c32 :: c33 :: c34 :: c35 :: c36 :: c37 :: c38 :: c39 :: c40 :: c41 :: c42 :: c43 :: c44 :: c45 :: c46 :: c47 :: c48 :: u49 :: u50 :: u51 :: u52 :: u53 :: u54 :: u55 :: c56 :: c57 :: c58 :: c59 :: c60 :: c61 :: c62 :: c63 :: c64 :: c65 :: c66 :: c67 :: c68 :: c69 :: c70 :: c71 :: c72 :: []).toArray, []⟩ (W.drew.setCell ⟨g, k * 7 + 4, none⟩ (.int .i64 h))) :
  Code.wp Tryz.prog (regAt Tryz.f4 10) Q ⟨(c0 :: .int .i64 how :: c2 :: c3 :: c4 :: c5 :: c6 :: .pointer (some ⟨Qb, 0, none⟩) :: .int .i64 (k : Int) :: c9 :: c10 :: c11 :: c12 :: c13 :: c14 :: c15 :: c16 :: c17 :: c18 :: c19 :: c20 :: c21 :: c22 :: c23 :: c24 :: c25 :: c26 :: c27 :: c28 :: c29 :: c30 :: c31 :: c32 :: c33 :: c34 :: c35 :: c36 :: c37 :: c38 :: c39 :: c40 :: c41 :: c42 :: c43 :: c44 :: c45 :: c46 :: c47 :: c48 :: c49 :: c50 :: c51 :: c52 :: c53 :: c54 :: c55 :: c56 :: c57 :: c58 :: c59 :: c60 :: c61 :: c62 :: c63 :: c64 :: c65 :: c66 :: c67 :: c68 :: c69 :: c70 :: c71 :: c72 :: []).toArray, []⟩ W := by
 have HX : Hid (∀ u49 u50 u51 u52 u53 u54 u55 : Value, Q .normal ⟨(c0 :: .int .i64 how :: c2 :: c3 :: c4 :: c5 :: c6 :: .pointer (some ⟨Qb, 0, none⟩) :: .int .i64 (k : Int) :: c9 :: c10 :: c11 :: c12 :: c13 :: c14 :: c15 :: c16 :: c17 :: c18 :: c19 :: c20 :: c21 :: c22 :: c23 :: c24 :: c25 :: c26 :: c27 :: c28 :: c29 :: c30 :: c31 :: c32 :: c33 :: c34 :: c35 :: c36 :: c37 :: c38 :: c39 :: c40 :: c41 :: c42 :: c43 :: c44 :: c45 :: c46 :: c47 :: c48 :: u49 :: u50 :: u51 :: u52 :: u53 :: u54 :: u55 :: c56 :: c57 :: c58 :: c59 :: c60 :: c61 :: c62 :: c63 :: c64 :: c65 :: c66 :: c67 :: c68 :: c69 :: c70 :: c71 :: c72 :: []).toArray, []⟩ (W.drew.setCell ⟨g, k * 7 + 4, none⟩ (.int .i64 h))) := hexit
 have HCA : Hid (∀ W, Calls Tryz.prog 20 #[.int .i64 how, .int .i64 3] W fun e w' => e = .returned (.int .i64 h) ∧ w' = W) := CA
 clear hexit CA
 conv => arg 2; whnf
 have hki : (k : Int) < (n1 : Int) := by omega
 have hk0 : (0 : Int) ≤ (k : Int) := by omega
 have hS0 : W.drew.cell? ⟨Qb, 6, none⟩ = some (.slice (some ⟨g, 0, none⟩) n1 cc) := z6
 have hS1 : (W.drew.setCell ⟨g, k * 7 + 4, none⟩ (.int .i64 h)).cell? ⟨Qb, 6, none⟩ = some (.slice (some ⟨g, 0, none⟩) n1 cc) := by
  rw [World.cell?_setCell_other _ _ _ _ (fun e => hne (first_eq e).symm)]
  exact z6
 go_region_held3 (fun V => V.cell? ⟨Qb, 6, none⟩ = some (.slice (some ⟨g, 0, none⟩) n1 cc)) (first | assumption | exact hS0 | exact hS1) (first
  | (go_at_call 20; refine (HCA.out _).mono ?_; rintro e w' ⟨rfl, rfl⟩))
 exact HX.out _ _ _ _ _ _ _
structure MoreAt (w3 : World) (Qb g n1 cc : Nat) (cells : Array Value) (pb : Option Addr) (body : List UInt8) (h : Int) (Z : List PZ) (k : Nat) (W : World) : Prop where
 bel : Below w3.heap.size w3 W
 own : W.ownsRow w3.heap.size 25 7 (.slice (some ⟨g, 0, none⟩) n1 cc) n1 (pzv (hows h k Z))
 far : ∀ z ∈ Z, PFar W (fun b => w3.heap.size ≤ b ∧ b ≠ g ∧ b < W.heap.size) 4 z.1 z.2.1.1 z.2.1.2 z.2.2.1 z.2.2.2
 kq : W.heap[Qb]? = some (.cells cells 25)
 row : BRow W pb body
 inb : ∀ a, pb = some a → a.block ≠ g ∧ a.block < W.heap.size
theorem MoreAt.below {w3 : World} {Qb g n1 cc : Nat} {cells : Array Value} {pb : Option Addr} {body : List UInt8} {h : Int} {Z : List PZ} {k : Nat} {W W' : World} (m : MoreAt w3 Qb g n1 cc cells pb body h Z k W) (hb : Below W.heap.size W W') : MoreAt w3 Qb g n1 cc cells pb body h Z k W' :=
 ⟨m.bel.trans (hb.mono m.bel.size), ownsRow_below m.own hb, fun z hz => ((m.far z hz).below hb).kind fun _ h => ⟨h.1, h.2.1, Nat.lt_of_lt_of_le h.2.2 hb.size⟩, blk_on m.kq hb, m.row.under hb, fun a ha => ⟨(m.inb a ha).1, Nat.lt_of_lt_of_le (m.inb a ha).2 hb.size⟩⟩
theorem MoreAt.pass {w3 : World} {Qb g n1 cc : Nat} {cells : Array Value} {pb : Option Addr} {body : List UInt8} {h : Int} {Z : List PZ} {k : Nat} {W : World} (m : MoreAt w3 Qb g n1 cc cells pb body h Z k W) (hk : k < Z.length) (hm : manyS Z[k].1.ty.data.toList = true) : MoreAt w3 Qb g n1 cc cells pb body h Z (k + 1) W :=
 ⟨m.bel, by rw [hows_many h k Z hk hm]; exact m.own, m.far, m.kq, m.row, m.inb⟩
theorem MoreAt.store {w3 : World} {Qb g n1 cc : Nat} {cells : Array Value} {pb : Option Addr} {body : List UInt8} {h : Int} {Z : List PZ} {k : Nat} {W : World} (m : MoreAt w3 Qb g n1 cc cells pb body h Z k W) (hne : Qb ≠ g) (hk : k < Z.length) (hm : manyS Z[k].1.ty.data.toList = false) : MoreAt w3 Qb g n1 cc cells pb body h Z (k + 1) (W.setCell ⟨g, k * 7 + 4, none⟩ (.int .i64 h)) := by
 have hs : (W.setCell ⟨g, k * 7 + 4, none⟩ (.int .i64 h)).heap.size = W.heap.size := by simp [World.setCell]
 have hbl : ∀ b, b ≠ g → (W.setCell ⟨g, k * 7 + 4, none⟩ (.int .i64 h)).heap[b]? = W.heap[b]? := fun b hb => Below.heap_setCell _ _ _ _ hb
 refine ⟨m.bel.setCell (m.own.lt g rfl).1 _, ?_, fun z hz => ((m.far z hz).move (fun b hb _ => hbl b hb.2.1)).kind fun _ h => ⟨h.1, h.2.1, by rw [hs]; exact h.2.2⟩, by rw [hbl Qb hne]; exact m.kq, BRow.move (Q := fun b => b ≠ g) (fun b hb _ => hbl b hb) m.row (fun a ha => (m.inb a ha).1), fun a ha => by rw [hs]; exact m.inb a ha⟩
 have := (m.own.stored (k * 7 + 4) (.int .i64 h)).1
 rw [hows_set h k Z hk hm] at this
 exact this
theorem MoreAt.cells7 {w3 : World} {Qb g n1 cc : Nat} {cells : Array Value} {pb : Option Addr} {body : List UInt8} {h : Int} {Z : List PZ} {k : Nat} {W : World} (m : MoreAt w3 Qb g n1 cc cells pb body h Z k W) (hn : n1 = Z.length) (hk : k < Z.length) :
  W.cell? ⟨g, k * 7, none⟩ = some (.string Z[k].1.ty) ∧ W.cell? ⟨g, k * 7 + 1, none⟩ = some (.string Z[k].1.cs) ∧ W.cell? ⟨g, k * 7 + 2, none⟩ = some (.string Z[k].1.id) ∧ W.cell? ⟨g, k * 7 + 3, none⟩ = some (.string Z[k].1.loc) ∧ W.cell? ⟨g, k * 7 + 4, none⟩ = some (.int .i64 Z[k].1.how) ∧ W.cell? ⟨g, k * 7 + 5, none⟩ = some (.slice Z[k].2.1.1 Z[k].1.body.length Z[k].2.1.2) ∧ W.cell? ⟨g, k * 7 + 6, none⟩ = some (.slice Z[k].2.2.1 Z[k].1.kids.length Z[k].2.2.2) ∧ W.frozen? ⟨g, k * 7 + 4, none⟩ = false := by
 have e : ∀ j u, (pzc Z[k])[j]? = some u → j < 7 → W.cell? ⟨g, k * 7 + j, none⟩ = some u := fun j u hj h7 => by
  rw [m.own.cellAt (k * 7 + j) (by omega)]
  exact pz_at (hows h k Z) k Z[k] (hows_get h k Z hk) j u hj
 exact ⟨e 0 _ rfl (by decide), e 1 _ rfl (by decide), e 2 _ rfl (by decide), e 3 _ rfl (by decide), e 4 _ rfl (by decide), e 5 _ rfl (by decide), e 6 _ rfl (by decide), m.own.frozenAt (k * 7 + 4)⟩
set_option maxRecDepth 1000000 in
set_option maxHeartbeats 8000000 in
theorem lb1 (w3 : World) (Qb g n1 cc : Nat) (c0' c1' c2' c3' c4' c5' : Value) (cells : Array Value) (ecl : cells = #[c0', c1', c2', c3', c4', c5', .slice (some ⟨g, 0, none⟩) n1 cc]) (pb : Option Addr) (body : List UInt8) (how h : Int) (Z : List PZ) (hn : n1 = Z.length) (h100 : n1 ≤ 100) (hne : Qb ≠ g) (CA : ∀ W, Calls Tryz.prog 20 #[.int .i64 how, .int .i64 3] W fun e w' => e = .returned (.int .i64 h) ∧ w' = W) (w : World) (hM : MoreAt w3 Qb g n1 cc cells pb body h Z 0 w) (c0 c2 c3 c4 c5 c6 c8 c9 c10 c11 c12 c13 c14 c15 c16 c17 c18 c19 c20 c21 c22 c23 c24 c25 c26 c27 c28 c29 c30 c31 c32 c33 c34 c35 c36 c37 c41 c42 c43 c44 c45 c46 c47 c48 c49 c50 c51 c52 c53 c54 c55 c56 c57 c58 c59 c60 c61 c62 c63 c64 c65 c66 c67 c68 c69 c70 c71 c72 : Value) (Q : Exit → Act → World → Prop)
  (hexit : ∀ u8 u9 u40 u41 u42 u43 u44 u45 u46 u47 u48 u49 u50 u51 u52 u53 u54 u55 u56 : Value, ∀ w' : World, MoreAt w3 Qb g n1 cc cells pb body h Z n1 w' → Q (.exit 0) ⟨(c0 :: .int .i64 how :: c2 :: c3 :: c4 :: c5 :: c6 :: .pointer (some ⟨Qb, 0, none⟩) :: u8 :: u9 :: c10 :: c11 :: c12 :: c13 :: c14 :: c15 :: c16 :: c17 :: c18 :: c19 :: c20 :: c21 :: c22 :: c23 :: c24 :: c25 :: c26 :: c27 :: c28 :: c29 :: c30 :: c31 :: c32 :: c33 :: c34 :: c35 :: c36 :: c37 :: .slice (some ⟨g, 0, none⟩) n1 cc :: .int .i64 (n1 : Int) :: u40 :: u41 :: u42 :: u43 :: u44 :: u45 :: u46 :: u47 :: u48 :: u49 :: u50 :: u51 :: u52 :: u53 :: u54 :: u55 :: u56 :: c57 :: c58 :: c59 :: c60 :: c61 :: c62 :: c63 :: c64 :: c65 :: c66 :: c67 :: c68 :: c69 :: c70 :: c71 :: c72 :: []).toArray, []⟩ w') :
  Code.wp Tryz.prog (Code.loop (loopAt Tryz.f4 0)) Q ⟨(c0 :: .int .i64 how :: c2 :: c3 :: c4 :: c5 :: c6 :: .pointer (some ⟨Qb, 0, none⟩) :: c8 :: c9 :: c10 :: c11 :: c12 :: c13 :: c14 :: c15 :: c16 :: c17 :: c18 :: c19 :: c20 :: c21 :: c22 :: c23 :: c24 :: c25 :: c26 :: c27 :: c28 :: c29 :: c30 :: c31 :: c32 :: c33 :: c34 :: c35 :: c36 :: c37 :: .slice (some ⟨g, 0, none⟩) n1 cc :: .int .i64 (n1 : Int) :: .int .i64 0 :: c41 :: c42 :: c43 :: c44 :: c45 :: c46 :: c47 :: c48 :: c49 :: c50 :: c51 :: c52 :: c53 :: c54 :: c55 :: c56 :: c57 :: c58 :: c59 :: c60 :: c61 :: c62 :: c63 :: c64 :: c65 :: c66 :: c67 :: c68 :: c69 :: c70 :: c71 :: c72 :: []).toArray, []⟩ w := by
 have HX : Hid (∀ u8 u9 u40 u41 u42 u43 u44 u45 u46 u47 u48 u49 u50 u51 u52 u53 u54 u55 u56 : Value, ∀ w' : World, MoreAt w3 Qb g n1 cc cells pb body h Z n1 w' → Q (.exit 0) ⟨(c0 :: .int .i64 how :: c2 :: c3 :: c4 :: c5 :: c6 :: .pointer (some ⟨Qb, 0, none⟩) :: u8 :: u9 :: c10 :: c11 :: c12 :: c13 :: c14 :: c15 :: c16 :: c17 :: c18 :: c19 :: c20 :: c21 :: c22 :: c23 :: c24 :: c25 :: c26 :: c27 :: c28 :: c29 :: c30 :: c31 :: c32 :: c33 :: c34 :: c35 :: c36 :: c37 :: .slice (some ⟨g, 0, none⟩) n1 cc :: .int .i64 (n1 : Int) :: u40 :: u41 :: u42 :: u43 :: u44 :: u45 :: u46 :: u47 :: u48 :: u49 :: u50 :: u51 :: u52 :: u53 :: u54 :: u55 :: u56 :: c57 :: c58 :: c59 :: c60 :: c61 :: c62 :: c63 :: c64 :: c65 :: c66 :: c67 :: c68 :: c69 :: c70 :: c71 :: c72 :: []).toArray, []⟩ w') := hexit
 have HCA : Hid (∀ W, Calls Tryz.prog 20 #[.int .i64 how, .int .i64 3] W fun e w' => e = .returned (.int .i64 h) ∧ w' = W) := CA
 have CM2 : Hid (∀ (s : ByteArray) W, Calls Tryz.prog 18 #[.string s] W fun e w' => e = .returned (.bool (manyS s.data.toList)) ∧ w' = W) := fun s W => pmany_any s W
 have HN : Hid (n1 = Z.length) := hn
 have HNE : Hid (Qb ≠ g) := hne
 clear hexit CA hn hne
 subst ecl
 conv => arg 2; arg 1; whnf
 go_loopw [40] (fun iv wr => ∃ k : Nat, k ≤ n1 ∧ iv = .int .i64 k ∧ Hid (MoreAt w3 Qb g n1 cc #[c0', c1', c2', c3', c4', c5', .slice (some ⟨g, 0, none⟩) n1 cc] pb body h Z k wr)) (fun iv _ => n1 - (intOf iv).toNat)
 case atStart => exact ⟨0, Nat.zero_le _, rfl, hM⟩
 case round =>
  obtain ⟨k, hk, rfl, HM⟩ := hrel
  clear hM
  by_cases hlt : k < n1
  ·have hlz : (k : Int) < (n1 : Int) := by omega
   have hkZ : k < Z.length := by rw [← HN.out]; exact hlt
   obtain ⟨d0, d1, d2, d3, d4, d5, d6, df⟩ := HM.out.cells7 HN.out hkZ
   have HPASS : Hid (∀ W, MoreAt w3 Qb g n1 cc #[c0', c1', c2', c3', c4', c5', .slice (some ⟨g, 0, none⟩) n1 cc] pb body h Z k W → manyS Z[k].1.ty.data.toList = true → MoreAt w3 Qb g n1 cc #[c0', c1', c2', c3', c4', c5', .slice (some ⟨g, 0, none⟩) n1 cc] pb body h Z (k + 1) W) := fun W m hm => m.pass hkZ hm
   have HSTO : Hid (∀ W, MoreAt w3 Qb g n1 cc #[c0', c1', c2', c3', c4', c5', .slice (some ⟨g, 0, none⟩) n1 cc] pb body h Z k W → manyS Z[k].1.ty.data.toList = false → MoreAt w3 Qb g n1 cc #[c0', c1', c2', c3', c4', c5', .slice (some ⟨g, 0, none⟩) n1 cc] pb body h Z (k + 1) (W.setCell ⟨g, k * 7 + 4, none⟩ (.int .i64 h))) := fun W m hm => m.store HNE.out hkZ hm
   have HC7 : Hid (∀ W, MoreAt w3 Qb g n1 cc #[c0', c1', c2', c3', c4', c5', .slice (some ⟨g, 0, none⟩) n1 cc] pb body h Z k W → W.cell? ⟨g, k * 7 + 4, none⟩ = some (.int .i64 Z[k].1.how) ∧ W.frozen? ⟨g, k * 7 + 4, none⟩ = false) := fun W m => by
    obtain ⟨_, _, _, _, x4, _, _, xf⟩ := m.cells7 HN.out hkZ
    exact ⟨x4, xf⟩
   generalize Z[k] = z at *
   obtain ⟨⟨ty, cs, id, loc, hw, bd, kd⟩, ⟨zb, zcb⟩, ⟨zk, zck⟩⟩ := z
   simp only at d0 d1 d2 d3 d4 d5 d6 HPASS HSTO HC7
   generalize bd.length = nbd at *
   generalize kd.length = nkd at *
   obtain ⟨Wk, hWk⟩ : ∃ W, W = wr.alloc (.cells #[.string ty, .string cs, .string id, .string loc, .int .i64 hw, .slice zb nbd zcb, .slice zk nkd zck] 25) := ⟨_, rfl⟩
   have HMk : Hid (MoreAt w3 Qb g n1 cc #[c0', c1', c2', c3', c4', c5', .slice (some ⟨g, 0, none⟩) n1 cc] pb body h Z k Wk) := HM.out.below (by rw [hWk]; exact (Below.refl _ _).alloc (Nat.le_refl _) _)
   have HWk : Hid (Wk = wr.alloc (.cells #[.string ty, .string cs, .string id, .string loc, .int .i64 hw, .slice zb nbd zcb, .slice zk nkd zck] 25)) := hWk
   clear hWk HM hkZ df
   cases hm : manyS ty.data.toList with
   | true =>
    have HM9 : Hid (MoreAt w3 Qb g n1 cc #[c0', c1', c2', c3', c4', c5', .slice (some ⟨g, 0, none⟩) n1 cc] pb body h Z (k + 1) Wk) := HPASS.out Wk HMk.out hm
    have CM : Hid (∀ W, Calls Tryz.prog 18 #[.string ty] W fun e w' => e = .returned (.bool true) ∧ w' = W) := fun W => by have := CM2.out ty W; rw [hm] at this; exact this
    clear HPASS HSTO HC7 HMk hm CM2
    go_wp2_with fail
    rw [← HWk.out]
    refine (CM.out _).mono ?_
    rintro e w' ⟨rfl, hw'⟩
    have hw'' := hw'.symm
    subst hw''
    clear d0 d1 d2 d3 d4 d5 d6 HWk
    go_wp2_with fail
    go_roundw
    case rel => exact ⟨k + 1, by omega, by go_num, HM9⟩
    case measure => simp [intOf]; omega
   | false =>
    have HM9 : Hid (MoreAt w3 Qb g n1 cc #[c0', c1', c2', c3', c4', c5', .slice (some ⟨g, 0, none⟩) n1 cc] pb body h Z (k + 1) (Wk.drew.setCell ⟨g, k * 7 + 4, none⟩ (.int .i64 h))) := HSTO.out Wk.drew (HMk.out.below ((Below.refl _ _).drew)) hm
    have CM : Hid (∀ W, Calls Tryz.prog 18 #[.string ty] W fun e w' => e = .returned (.bool false) ∧ w' = W) := fun W => by have := CM2.out ty W; rw [hm] at this; exact this
    obtain ⟨x4, xf⟩ := HC7.out Wk HMk.out
    have HX4 : Hid (Wk.cell? ⟨g, k * 7 + 4, none⟩ = some (.int .i64 hw)) := x4
    have HXF : Hid (Wk.frozen? ⟨g, k * 7 + 4, none⟩ = false) := xf
    have HX6 : Hid (Wk.cell? ⟨Qb, 6, none⟩ = some (.slice (some ⟨g, 0, none⟩) n1 cc)) := (blk_c HMk.out.kq 6).trans rfl
    clear HPASS HSTO HC7 HMk hm CM2 x4 xf
    go_wp2_with fail
    rw [← HWk.out]
    refine (CM.out _).mono ?_
    rintro e w' ⟨rfl, hw'⟩
    have hw'' := hw'.symm
    subst hw''
    clear d0 d1 d2 d3 d4 d5 d6 HWk
    go_upto_region 10 with fail
    refine lbR10 _ Qb g k n1 cc how h hw HCA.out HX6.out HX4.out HXF.out hlt HNE.out _ _ _ _ _ _ _ _ _ _ _ _ _ _ _ _ _ _ _ _ _ _ _ _ _ _ _ _ _ _ _ _ _ _ _ _ _ _ _ _ _ _ _ _ _ _ _ _ _ _ _ _ _ _ _ _ _ _ _ _ _ _ _ _ _ _ _ _ _ _ _ ?_
    intro q49 q50 q51 q52 q53 q54 q55
    go_wp2_with fail
    go_roundw
    case rel => exact ⟨k + 1, by omega, by go_num, HM9⟩
    case measure => simp [intOf]; omega
  ·obtain rfl : k = n1 := by omega
   have hlz : ¬ (k : Int) < (k : Int) := by omega
   go_wp2_with fail
   exact HX.out _ _ _ _ _ _ _ _ _ _ _ _ _ _ _ _ _ _ _ _ HM.out
end Go.Proofs.YtbbfcbodhmeanaaGreatDoor



namespace Go.Proofs.YtbbfcbodhmeanaaGreatDoor
def hab : List UInt8 := [104, 116, 116, 112, 58, 47, 47, 104, 47, 97, 47, 98]
def hac : List UInt8 := [104, 116, 116, 112, 58, 47, 47, 104, 47, 97, 47, 99]
def habd : List UInt8 := [104, 116, 116, 112, 58, 47, 47, 104, 47, 97, 47, 98, 35, 100]
theorem small_pl : placesP smallT = (0, [(smallT, -1), (partA, 0), (partB, 0)]) := by kernel_rfl
theorem small_wh : whereP [(smallT, -1), (partA, 0), (partB, 0)] = [hab, hab, hac] := by kernel_rfl
def smallG : List GL := [⟨1, 9, 10, [99], hac, 2⟩, ⟨1, 21, 26, [99, 105, 100, 58, 120], [99, 105, 100, 58, 120], 2⟩, ⟨1, 35, 37, [35, 100], habd, -1⟩]
theorem small_go : goalsGo lowT [smallT.alone, partA.alone, partB.alone] [hab, hab, hac] 0 [smallT.alone, partA.alone, partB.alone] [] = some smallG := by kernel_rfl
end Go.Proofs.YtbbfcbodhmeanaaGreatDoor



namespace Go.Proofs.YtbbfcbodhmeanaaGreatDoor
open Go.RowKit
def T8 (w : World) (p : Option Addr) (n : Nat) (xs : List (List UInt8)) : Prop := xs.length = n ∧ (n ≠ 0 → ∃ b o, p = some ⟨b, o, none⟩ ∧ ∀ i, i < n → w.cell? ⟨b, o + i, none⟩ = some (.string (tx8 (xs.getD i []))))
theorem T8.below {w w' : World} {p : Option Addr} {n : Nat} {xs : List (List UInt8)} (h : T8 w p n xs) (hb : Below w.heap.size w w') : T8 w' p n xs := by
 refine ⟨h.1, fun hn => ?_⟩
 obtain ⟨b, o, e, hc⟩ := h.2 hn
 exact ⟨b, o, e, fun i hi => (hb.cell (p := ⟨b, o + i, none⟩) (World.block_lt_of_cell? w _ (hc i hi))).trans (hc i hi)⟩
theorem texts_same {xs ys : List (List UInt8)} {n : Nat} (hx : xs.length = n) (hy : ys.length = n) (h : ∀ j, j < n → xs.getD j [] = ys.getD j []) : xs = ys := by
 apply List.ext_getElem?
 intro i
 by_cases hi : i < n
 ·have := h i hi
  rw [List.getD_eq_getElem?_getD, List.getD_eq_getElem?_getD, List.getElem?_eq_getElem (by omega), List.getElem?_eq_getElem (by omega)] at this
  rw [List.getElem?_eq_getElem (by omega), List.getElem?_eq_getElem (by omega)]
  simpa using this
 ·rw [List.getElem?_eq_none (by omega), List.getElem?_eq_none (by omega)]
set_option maxHeartbeats 2000000 in
theorem eqs_any (p1 p2 : Option Addr) (n m c d : Nat) (xs ys : List (List UInt8)) (w : World) (hn : n ≤ maxLen) (hm : m ≤ maxLen) (h1 : T8 w p1 n xs) (h2 : T8 w p2 m ys) :
  Calls Tryz.prog 15 #[.slice p1 n c, .slice p2 m d] w fun e w' => e = .returned (.bool (decide (xs = ys))) ∧ ∃ q, w' = w.drewN q := by
 unfold maxLen at hn hm
 obtain ⟨hx, r1⟩ := h1
 obtain ⟨hy, r2⟩ := h2
 by_cases hnm : n = m
 ·subst hnm
  by_cases h0 : n = 0
  ·subst h0
   have exy : xs = ys := by rw [List.eq_nil_of_length_eq_zero hx, List.eq_nil_of_length_eq_zero hy]
   have hfin : decide (xs = ys) = true := by simp [exy]
   rw [hfin]
   clear r1 r2 exy hfin hx hy
   go_enter Tryz.func15, Tryz.ntmps15
   go_wp2
   refine wp_loop_rounds 1 ?_
   rw [rounds_succ]
   go_wp2
   go_ret
   exact ⟨rfl, 0, rfl⟩
  ·obtain ⟨b1, o1, rfl, k1⟩ := r1 h0
   obtain ⟨b2, o2, rfl, k2⟩ := r2 h0
   clear r1 r2
   go_enter Tryz.func15, Tryz.ntmps15
   go_wp2
   go_loopg [13] n (fun g s13 wr => ∃ k q : Nat, k ≤ n ∧ n - k ≤ g ∧ s13 = .int .i64 k ∧ wr = w.drewN q ∧ ∀ j, j < k → xs.getD j [] = ys.getD j [])
   case atStart => exact ⟨0, 0, Nat.zero_le _, by omega, rfl, rfl, fun j hj => absurd hj (Nat.not_lt_zero _)⟩
   case round =>
    obtain ⟨k, q, hk, hg, rfl, rfl, heq⟩ := hrel
    by_cases hlt : k < n
    ·have g1 : w.cell? ⟨b1, o1 + k, none⟩ = some (.string (tx8 (xs.getD k []))) := k1 k hlt
     have g2 : w.cell? ⟨b2, o2 + k, none⟩ = some (.string (tx8 (ys.getD k []))) := k2 k hlt
     have A : Hid (∀ j, j < k → xs.getD j [] = ys.getD j []) := heq
     clear heq k1 k2
     generalize hxk : xs.getD k [] = x at g1
     generalize hyk : ys.getD k [] = y at g2
     have B : Hid (xs.getD k [] = x ∧ ys.getD k [] = y) := ⟨hxk, hyk⟩
     clear hxk hyk
     by_cases hxy : x = y
     ·subst hxy
      go_wp2_with fail
      go_quiet (fail)
      go_wp2
      go_roundg (n - (k + 1))
      case measure => omega
      case rel =>
       refine ⟨k + 1, q + nq, by omega, by omega, by go_num, rfl, fun j hj => ?_⟩
       by_cases e : j = k
       ·subst e
        rw [B.out.1, B.out.2]
       ·exact A.out j (by omega)
     ·have hxb : ((tx8 x).toList == (tx8 y).toList) = false := by rw [list_eq, tx8_data, tx8_data, beq_eq_false_iff_ne]; exact hxy
      go_wp2_with fail
      go_quiet (fail)
      go_wp2
      go_ret
      refine ⟨ret_bool ?_, q + nq, World.drewN_drewN _ _ _⟩
      symm
      rw [decide_eq_false_iff_not]
      intro e
      apply hxy
      rw [← B.out.1, ← B.out.2, e]
    ·have : k = n := by omega
     subst this
     have hfin : Hid (decide (xs = ys) = true) := by simp [Hid, texts_same hx hy heq]
     clear k1 k2 heq
     go_wp2
     go_ret
     exact ⟨ret_bool hfin.out.symm, q, rfl⟩
 ·have hnm' : ¬ (n : Int) = (m : Int) := by omega
  have hfin : decide (xs = ys) = false := by
   rw [decide_eq_false_iff_not]
   intro e
   apply hnm
   rw [← hx, ← hy, e]
  rw [hfin]
  clear r1 r2 hfin
  go_enter Tryz.func15, Tryz.ntmps15
  go_wp2
  go_ret
  exact ⟨rfl, 0, rfl⟩
end Go.Proofs.YtbbfcbodhmeanaaGreatDoor



namespace Go.Proofs.YtbbfcbodhmeanaaGreatDoor
open Go.RowKit
theorem small_goals {w w' : World} {e : Ending} (h : GoalsPost w (placesP smallT) e w') : Below w.heap.size w w' ∧ ∃ v, e = .returned (.tuple #[v, .int .i64 0]) ∧ w'.ownsRow w.heap.size 42 6 v 3 (glv smallG) := by
 obtain ⟨hb, -, hok⟩ := h
 refine ⟨hb, ?_⟩
 rw [small_pl] at hok
 have h2 := hok rfl
 have e1 : goalsGo lowT (([(smallT, -1), (partA, 0), (partB, 0)] : List (PT × Int)).map fun x => x.1.alone) (whereP [(smallT, -1), (partA, 0), (partB, 0)]) 0 (([(smallT, -1), (partA, 0), (partB, 0)] : List (PT × Int)).map fun x => x.1.alone) [] = some smallG := by rw [small_wh]; exact small_go
 simp only [e1] at h2
 exact h2
theorem small_where {w w' : World} {e : Ending} (h : WherePost w (placesP smallT) e w') : Below w.heap.size w w' ∧ ∃ v, e = .returned (.tuple #[v, .int .i64 0]) ∧ w'.ownsRow w.heap.size 9 1 v 3 (wtv [hab, hab, hac]) := by
 obtain ⟨hb, -, hok⟩ := h
 refine ⟨hb, ?_⟩
 rw [small_pl] at hok
 have h2 := hok rfl
 simp only [small_wh] at h2
 exact h2
theorem owned_t8 {w : World} {B n : Nat} {v : Value} {ts : List (List UInt8)} (hn : ts.length = n) (h : w.ownsRow B 9 1 v n (wtv ts)) : ∃ p c, v = .slice p n c ∧ n ≤ c ∧ c ≤ maxLen ∧ T8 w p n ts := by
 have h' := h
 rcases h.2 with ⟨rfl, h0⟩ | ⟨g, cap, cur, rfl, hg, hh, hnc, hcp, hcs, htake⟩
 ·subst h0
  exact ⟨none, 0, rfl, Nat.le_refl _, by decide, hn, fun h => absurd rfl h⟩
 ·refine ⟨some ⟨g, 0, none⟩, cap, rfl, hnc, hcp, hn, fun _ => ⟨g, 0, rfl, fun i hi => ?_⟩⟩
  rw [Nat.zero_add, h'.cellAt i (by omega)]
  unfold wtv
  rw [List.getElem?_map, List.getElem?_eq_getElem (by omega), List.getD_eq_getElem?_getD, List.getElem?_eq_getElem (by omega)]
  rfl
theorem three_goals {w : World} {B : Nat} {v : Value} (h : w.ownsRow B 42 6 v 3 (glv smallG)) : ∃ g c, v = .slice (some ⟨g, 0, none⟩) 3 c ∧ 3 ≤ c ∧ c ≤ maxLen ∧ g < w.heap.size ∧ ∀ i u, (glv smallG)[i]? = some u → i < 18 → w.cell? ⟨g, i, none⟩ = some u := by
 have h' := h
 rcases h.2 with ⟨rfl, h0⟩ | ⟨g, cap, cur, rfl, hg, hh, hnc, hcp, hcs, htake⟩
 ·cases h0
 ·exact ⟨g, cap, rfl, hnc, hcp, (Array.getElem?_eq_some_iff.1 hh).1, fun i u hu hi => by rw [h'.cellAt i (by omega)]; exact hu⟩
set_option maxHeartbeats 8000000 in
set_option maxRecDepth 100000 in
theorem ledc_any (w : World) (hE : LEnv w) : Calls Tryz.prog 11 #[] w fun e w' => e = .returned (.bool true) ∧ Below w.heap.size w w' := by
 have HE : Hid (LEnv w) := hE
 clear hE
 go_enter Tryz.func11, Tryz.ntmps11
 go_wp2_with fail
 refine (psmall_any _).mono ?_
 rintro e w1 ⟨g1, rfl, hH1, hb1⟩
 have CG := bgoals_any smallT none 0 (some ⟨g1, 0, none⟩) 2 1 w1 (HE.out.below hb1) hH1
 have CG' : Hid (Calls Tryz.prog 9 #[.agg #[.string smallT.ty, .string smallT.cs, .string smallT.id, .string smallT.loc, .int .i64 smallT.how, .slice none smallT.body.length 0, .slice (some ⟨g1, 0, none⟩) smallT.kids.length 2]] w1 fun e w' => GoalsPost w1 (placesP smallT) e w') := CG
 clear CG hH1
 go_wp2_with fail
 refine CG'.out.mono ?_
 intro e w2 h2
 obtain ⟨hb2, v2, rfl, own2⟩ := small_goals h2
 obtain ⟨gg, gc, rfl, hgc1, hgc2, hgl, hcell⟩ := three_goals own2
 have hbe2 : Below w.heap.size w w2 := hb1.trans (hb2.mono hb1.size)
 clear CG' h2 own2 hb1 hb2
 go_wp2_with fail
 refine (psmall_any _).mono ?_
 rintro e w3 ⟨g3, rfl, hH3, hb3⟩
 have hbe3 : Below w.heap.size w w3 := hbe2.trans (hb3.mono hbe2.size)
 have CW := bwhere_any smallT none 0 (some ⟨g3, 0, none⟩) 2 1 w3 (HE.out.max hbe3) hH3
 have CW' : Hid (Calls Tryz.prog 8 #[.agg #[.string smallT.ty, .string smallT.cs, .string smallT.id, .string smallT.loc, .int .i64 smallT.how, .slice none smallT.body.length 0, .slice (some ⟨g3, 0, none⟩) smallT.kids.length 2]] w3 fun e w' => WherePost w3 (placesP smallT) e w') := CW
 clear CW hH3
 go_wp2_with fail
 refine CW'.out.mono ?_
 intro e w4 h4
 obtain ⟨hb4, v4, rfl, own4⟩ := small_where h4
 obtain ⟨q4, c4, rfl, hc41, hc42, hT4⟩ := owned_t8 rfl own4
 have hb24 : Below w2.heap.size w2 w4 := hb3.trans (hb4.mono hb3.size)
 have hbe4 : Below w.heap.size w w4 := hbe2.trans (hb24.mono hbe2.size)
 clear CW' h4 own4 hb3 hb4 hbe3
 obtain ⟨W5, hW5⟩ : ∃ W, W = w4.alloc (.cells #[.string (tx8 hab), .string (tx8 hab), .string (tx8 hac)] 9) := ⟨_, rfl⟩
 have hb45 : Below w4.heap.size w4 W5 := by rw [hW5]; exact (Below.refl _ _).alloc (Nat.le_refl _) _
 have hk5 : W5.heap[w4.heap.size]? = some (.cells #[.string (tx8 hab), .string (tx8 hab), .string (tx8 hac)] 9) := by rw [hW5]; exact blk_new _ _
 have hT5 : T8 W5 (some ⟨w4.heap.size, 0, none⟩) 3 [hab, hab, hac] := ⟨rfl, fun _ => ⟨w4.heap.size, 0, rfl, fun i hi => by
  match i, hi with
  | 0, _ => exact (blk_c hk5 _).trans rfl
  | 1, _ => exact (blk_c hk5 _).trans rfl
  | 2, _ => exact (blk_c hk5 _).trans rfl⟩⟩
 have CE : Hid (Calls Tryz.prog 15 #[.slice q4 3 c4, .slice (some ⟨w4.heap.size, 0, none⟩) 3 3] W5 fun e w' => e = .returned (.bool true) ∧ Below W5.heap.size W5 w') := by
  refine (eqs_any q4 (some ⟨w4.heap.size, 0, none⟩) 3 3 c4 3 [hab, hab, hac] [hab, hab, hac] W5 (by decide) (by decide) (hT4.below hb45) hT5).mono ?_
  rintro e w' ⟨rfl, m, rfl⟩
  exact ⟨by rw [decide_eq_true rfl], below_drewN' (Below.refl _ _) m⟩
 go_wp2_with fail
 have hW5' : w4.alloc (.cells #[.string (tx8 hab), .string (tx8 hab), .string (tx8 hac)] 9) = W5 := hW5.symm
 show Calls _ _ _ (w4.alloc (.cells #[.string (tx8 hab), .string (tx8 hab), .string (tx8 hac)] 9)) _
 rw [hW5']
 clear hW5 hW5' hk5 hT5 hT4
 refine CE.out.mono ?_
 rintro e w6 ⟨rfl, hb6⟩
 have hb26 : Below w2.heap.size w2 w6 := hb24.trans ((hb45.trans (hb6.mono hb45.size)).mono hb24.size)
 have hbe6 : Below w.heap.size w w6 := hbe2.trans (hb26.mono hbe2.size)
 have a0 : w6.cell? ⟨gg, 4, none⟩ = some (.string (tx8 hac)) := (hb26.cell (p := ⟨gg, 4, none⟩) hgl).trans (hcell 4 _ rfl (by decide))
 have a1 : w6.cell? ⟨gg, 5, none⟩ = some (.int .i64 2) := (hb26.cell (p := ⟨gg, 5, none⟩) hgl).trans (hcell 5 _ rfl (by decide))
 have a2 : w6.cell? ⟨gg, 10, none⟩ = some (.string (tx8 [99, 105, 100, 58, 120])) := (hb26.cell (p := ⟨gg, 10, none⟩) hgl).trans (hcell 10 _ rfl (by decide))
 have a3 : w6.cell? ⟨gg, 11, none⟩ = some (.int .i64 2) := (hb26.cell (p := ⟨gg, 11, none⟩) hgl).trans (hcell 11 _ rfl (by decide))
 have a4 : w6.cell? ⟨gg, 16, none⟩ = some (.string (tx8 habd)) := (hb26.cell (p := ⟨gg, 16, none⟩) hgl).trans (hcell 16 _ rfl (by decide))
 have a5 : w6.cell? ⟨gg, 17, none⟩ = some (.int .i64 (-1)) := (hb26.cell (p := ⟨gg, 17, none⟩) hgl).trans (hcell 17 _ rfl (by decide))
 have t0 : (tx8 hac).toList = [104, 116, 116, 112, 58, 47, 47, 104, 47, 97, 47, 99] := by rw [ByteArray.toList_eq]; rfl
 have t1 : (tx8 [99, 105, 100, 58, 120]).toList = [99, 105, 100, 58, 120] := by rw [ByteArray.toList_eq]; rfl
 have t2 : (tx8 habd).toList = [104, 116, 116, 112, 58, 47, 47, 104, 47, 97, 47, 98, 35, 100] := by rw [ByteArray.toList_eq]; rfl
 clear CE hcell hb6 hb24 hb26 hb45 hbe4 hbe2
 go_wp2_with fail
 go_ret
 exact ⟨rfl, hbe6⟩
end Go.Proofs.YtbbfcbodhmeanaaGreatDoor

