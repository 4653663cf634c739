/- mime.leastNumber of texts that lie there: as the plain function says; nothing that was there is changed. Conditions: at most twelve texts of at most 400000 bytes; internal/bytealg.MaxLen holds a number. -/
import Derived.Test.YtpgnkhaanoalhaaGreatDoorXmimeborders30
import Derived.Test.YtpgnkhaanoalhaaGreatDoorXmimeborders2
import Derived.Test.YtpgnkhaanoalhaaGreatDoorXmimeborders3
import Derived.Test.YtpgnkhaanoalhaaGreatDoorXmimeborders20
import Derived.Test.YtpgnkhaanoalhaaGreatDoorXmimeborders4
import Derived.Test.YtpgnkhaanoalhaaGreatDoorXmimeborders16
import Derived.Laws.ResultCell
namespace Go.Proofs.YtpgnkhaanoalhaaGreatDoor
open Go.RowKit

/-- Texts lie behind the address. -/
def TRow (w : World) (p : Option Addr) (l : List ByteArray) : Prop := l ≠ [] → ∃ b o, p = some ⟨b, o, none⟩ ∧ ∀ i, i < l.length → w.cell? ⟨b, o + i, none⟩ = some (.string (l.getD i ⟨#[]⟩))
theorem nzv_map (l : List Nat) : nzv l = (l.map fun (n : Nat) => (n : Int)).map (Value.int .i64) := by simp [nzv]

set_option maxHeartbeats 4000000 in
set_option maxRecDepth 100000 in
/-- mime.leastNumber. -/
theorem least_any (p : Option Addr) (m c : Nat) (ts : List ByteArray) (em : m = ts.length) (w : World) (hm : m ≤ 12) (hsz : ∀ t ∈ ts, t.size ≤ 400000) (hr : TRow w p ts) (M : Int) (hM : w.cell? ⟨1, 0, none⟩ = some (.int .i64 M)) :
    Calls Tryz.prog 66 #[.slice p m c] w fun e w' => e = .returned (.int .i64 (leastP (ts.map fun t => t.data.toList))) ∧ Below w.heap.size w w' := by
  have HM : Hid (∀ w', Below w.heap.size w w' → w'.cell? ⟨1, 0, none⟩ = some (.int .i64 M)) := fun w' hb => (hb.cell (World.block_lt_of_cell? w _ hM)).trans hM
  have HE : Hid (m = ts.length) := em
  have HT : Hid (∀ i w', i < m → Below w.heap.size w w' → ∃ b o, p = some ⟨b, o, none⟩ ∧ w'.cell? ⟨b, o + i, none⟩ = some (.string (ts.getD i ⟨#[]⟩)) ∧ (ts.getD i ⟨#[]⟩).size ≤ 400000) := fun i w' hi hb => by
    have hil : i < ts.length := by rw [← em]; exact hi
    obtain ⟨b, o, e, hc⟩ := hr (fun e => by rw [e] at hil; simp at hil)
    refine ⟨b, o, e, (hb.cell (World.block_lt_of_cell? w _ (hc i hil))).trans (hc i hil), ?_⟩
    rw [List.getD_eq_getElem?_getD, List.getElem?_eq_getElem hil]
    exact hsz _ (List.getElem_mem hil)
  obtain ⟨RES, hRES⟩ : ∃ RES, leastP (ts.map fun t => t.data.toList) = RES := ⟨_, rfl⟩
  have HRES : Hid (leastP (ts.map fun t => t.data.toList) = RES) := hRES
  rw [hRES]
  clear hRES hr hM em hsz
  go_enter Tryz.func66, Tryz.ntmps66
  go_wp2_with fail
  go_loopw [3, 11] (fun ov iv wr => ∃ (i : Nat) (acc : List Nat) (q : Option Addr) (n cc : Nat), i ≤ m ∧ iv = .int .i64 i ∧ ov = .slice q n cc ∧ Hid (n = acc.length) ∧ n ≤ i * 160000000000 ∧ Below w.heap.size w wr ∧ Hid (wr.ownsRow w.heap.size 3 1 (.slice q n cc) n (nzv acc)) ∧ Hid (acc = ((ts.take i).map fun t => t.data.toList).flatMap takenOf)) (fun _ iv _ => m - (intOf iv).toNat)
  case atStart => exact ⟨0, [], none, 0, 0, Nat.zero_le _, rfl, rfl, rfl, Nat.le_refl _, Below.refl _ _, World.ownsRow_nil _ _ _ _, rfl⟩
  case round =>
    obtain ⟨i, acc, q, n, cc, hi, rfl, rfl, HN, hn, hbr, HO, HA⟩ := hrel
    by_cases hlt : i < m
    · have hlz : (i : Int) < (m : Int) := by omega
      obtain ⟨b, o, rfl, hcb, hts⟩ := HT.out i wr hlt hbr
      have HA2 : Hid (acc ++ takenOf (ts.getD i ⟨#[]⟩).data.toList = ((ts.take (i + 1)).map fun t => t.data.toList).flatMap takenOf) := by
        have hil : i < ts.length := by rw [← HE.out]; exact hlt
        unfold Hid
        rw [HA.out, List.take_add_one, List.getElem?_eq_getElem hil, List.map_append, List.flatMap_append, List.getD_eq_getElem?_getD, List.getElem?_eq_getElem hil]
        simp
      have hlen : (takenOf (ts.getD i ⟨#[]⟩).data.toList).length ≤ 160000000000 := by
        have h1 := taken_len ((ts.getD i ⟨#[]⟩).data.toList.length + 1) (ts.getD i ⟨#[]⟩).data.toList
        rw [← Lib.size_eq] at h1
        have h2 : (ts.getD i ⟨#[]⟩).size * (ts.getD i ⟨#[]⟩).size ≤ 400000 * 400000 := Nat.mul_le_mul hts hts
        unfold takenOf
        rw [← Lib.size_eq]
        omega
      have hsq : n + (ts.getD i ⟨#[]⟩).size * (ts.getD i ⟨#[]⟩).size ≤ 2000000000000 := by
        have h2 : (ts.getD i ⟨#[]⟩).size * (ts.getD i ⟨#[]⟩).size ≤ 400000 * 400000 := Nat.mul_le_mul hts hts
        omega
      have CT : Hid (Calls Tryz.prog 113 #[.slice q n cc, .string (ts.getD i ⟨#[]⟩)] wr fun e w' => ∃ v, e = .returned v ∧ w'.ownsRow w.heap.size 3 1 v (acc ++ takenOf (ts.getD i ⟨#[]⟩).data.toList).length (nzv (acc ++ takenOf (ts.getD i ⟨#[]⟩).data.toList)) ∧ Below w.heap.size w w') :=
        taken_any w M HM.out (.slice q n cc) acc (ts.getD i ⟨#[]⟩) wr hbr (by omega) (by rw [← HN.out]; exact hsq) (by rw [← HN.out]; exact HO.out)
      generalize ts.getD i ⟨#[]⟩ = t at *
      generalize hacc : acc ++ takenOf t.data.toList = acc2 at *
      have hl2 : acc2.length ≤ (i + 1) * 160000000000 := by rw [← hacc, List.length_append, ← HN.out]; omega
      clear HO HA hacc hlen hsq
      go_wp2_with fail
      refine CT.out.mono ?_
      rintro e w2 ⟨v2, rfl, own2, hb2⟩
      obtain ⟨q2, c2, rfl⟩ := owned_slice own2
      have HO2 : Hid (w2.ownsRow w.heap.size 3 1 (.slice q2 acc2.length c2) acc2.length (nzv acc2)) := own2
      clear CT own2
      go_wp2_with fail
      go_roundw
      case rel => exact ⟨i + 1, acc2, q2, acc2.length, c2, by omega, by go_num, rfl, rfl, hl2, hb2, HO2, HA2⟩
      case measure => simp [intOf]; omega
    · have hlz : ¬ (i : Int) < (m : Int) := by omega
      have hA : acc = (ts.map fun t => t.data.toList).flatMap takenOf := by
        rw [HA.out, List.take_of_length_le (by rw [← HE.out]; omega)]
      have hRZ : leastScan (sortZ (acc.map fun (n : Nat) => (n : Int))) = RES := by rw [hA]; exact HRES.out
      have CS := sort_own w.heap.size (acc.map fun (n : Nat) => (n : Int)) (.slice q n cc) wr (by rw [List.length_map, ← HN.out, ← nzv_map]; exact HO.out) (by rw [List.length_map, ← HN.out]; omega)
      rw [List.length_map, ← HN.out] at CS
      obtain ⟨Z, hZ⟩ : ∃ Z, sortZ (acc.map fun (n : Nat) => (n : Int)) = Z := ⟨_, rfl⟩
      have HZ : Hid (leastScan Z = RES ∧ Z.length = n) := ⟨by rw [← hZ]; exact hRZ, by rw [← hZ, HN.out]; simp [sortZ]⟩
      have hZ' : ((acc.map fun (n : Nat) => (n : Int)).mergeSort fun x y => decide (x ≤ y)) = Z := hZ
      rw [hZ'] at CS
      have CS' : Hid (Calls Tryz.prog 114 #[.slice q n cc] wr fun e w' => e = .returned (.tuple #[]) ∧ w'.ownsRow w.heap.size 3 1 (.slice q n cc) n (Z.map (Value.int .i64)) ∧ wr.grownBy w' (Value.slice q n cc).ownBlock) := CS
      have HLT : Hid (∀ j, (Value.slice q n cc).ownBlock = some j → w.heap.size ≤ j) := fun j hj => (HO.out.lt j hj).1
      have hn2 : n ≤ 2000000000000 := by omega
      clear CS hZ hZ' hRZ hA HA HO HRES
      go_wp2_with fail
      refine CS'.out.mono ?_
      rintro e w2 ⟨rfl, own2, hg2⟩
      have hb2 : Below w.heap.size w w2 := hbr.grown hg2 hbr.size HLT.out
      clear CS' hg2
      have HC : Hid (∀ j, j < n → ∃ g, q = some ⟨g, 0, none⟩ ∧ w2.cell? ⟨g, j, none⟩ = some (.int .i64 (Z.getD j 0))) := fun j hj => by
        have hjZ : j < Z.length := by rw [HZ.out.2]; exact hj
        rcases own2.2 with ⟨_, h0⟩ | ⟨g, cap, cur, hv, _⟩
        · omega
        · cases hv
          refine ⟨g, rfl, ?_⟩
          rw [own2.cellAt j (by omega), List.getElem?_map, List.getElem?_eq_getElem hjZ, List.getD_eq_getElem?_getD, List.getElem?_eq_getElem hjZ]
          rfl
      clear own2
      go_wp2_with fail
      go_loopw [6, 23] (fun lv iv wy => ∃ (j : Nat), j ≤ n ∧ iv = .int .i64 j ∧ lv = .int .i64 (leastScan (Z.take j)) ∧ wy = w2) (fun _ iv _ => n - (intOf iv).toNat)
      case atStart => exact ⟨0, Nat.zero_le _, rfl, rfl, rfl⟩
      case round =>
        obtain ⟨j, hj, rfl, rfl, rfl⟩ := hrel
        have hle := leastScan_le (Z.take j)
        have hln : ((Z.take j).length : Int) ≤ 2000000000000 := by rw [List.length_take]; omega
        by_cases hjn : j < n
        · have hjz : (j : Int) < (n : Int) := by omega
          obtain ⟨g, rfl, hcg⟩ := HC.out j hjn
          have HS : Hid (leastScan (Z.take (j + 1)) = stepL (leastScan (Z.take j)) (Z.getD j 0)) := by
            have hjZ : j < Z.length := by rw [HZ.out.2]; exact hjn
            unfold Hid
            rw [List.take_add_one, List.getElem?_eq_getElem hjZ, List.getD_eq_getElem?_getD, List.getElem?_eq_getElem hjZ]
            exact leastScan_snoc _ _
          generalize Z.getD j 0 = z at *
          generalize hLS : leastScan (Z.take j) = LS at *
          clear hLS
          by_cases hz : z = LS
          · have HS2 : Hid (leastScan (Z.take (j + 1)) = LS + 1) := by unfold Hid; rw [HS.out]; unfold stepL; rw [if_pos hz]
            have hzb : (z == LS) = true := by rw [hz]; simp
            subst hz
            clear HS
            go_wp2_with fail
            go_roundw
            case rel => exact ⟨j + 1, by omega, by go_num, by rw [HS2.out], trivial⟩
            case measure => simp [intOf]; omega
          · have HS2 : Hid (leastScan (Z.take (j + 1)) = LS) := by unfold Hid; rw [HS.out]; unfold stepL; rw [if_neg hz]
            have hzb : (z == LS) = false := by rw [beq_eq_false_iff_ne]; exact hz
            clear HS
            go_wp2_with fail
            go_roundw
            case rel => exact ⟨j + 1, by omega, by go_num, by rw [HS2.out], trivial⟩
            case measure => simp [intOf]; omega
        · have hjz : ¬ (j : Int) < (n : Int) := by omega
          have HF : Hid (leastScan (Z.take j) = RES) := by unfold Hid; rw [List.take_of_length_le (by rw [HZ.out.2]; omega)]; exact HZ.out.1
          clear HC
          go_wp2_with fail
          go_ret
          exact ⟨by rw [← HF.out]; rfl, hb2⟩
end Go.Proofs.YtpgnkhaanoalhaaGreatDoor

/- A body as it is written. No program. -/
namespace Go.Proofs.YtpgnkhaanoalhaaGreatDoor

/-- A body as it is written. -/
def encP (p : PT) : List UInt8 := if p.how = 1 then encode p.body else if p.how = 2 then encQ p.body else p.body
end Go.Proofs.YtpgnkhaanoalhaaGreatDoor

/- quote.written answers how a byte is written; nothing that was there is changed. -/
namespace Go.Proofs.YtpgnkhaanoalhaaGreatDoor
open Go.RowKit

def hexUp : ByteArray := ⟨#[48, 49, 50, 51, 52, 53, 54, 55, 56, 57, 65, 66, 67, 68, 69, 70]⟩
theorem hexUp_at : ∀ S : Fin 16, ((hexUp[S.val]'(by have := S.isLt; exact this)).toNat : Int) = ((upHex S.val).toNat : Int) := by decide

theorem u8_and_15 (n : Nat) (h : n < 256) : bits BinOp.and IntKind.u8 (n : Int) 15 = ((n % 16 : Nat) : Int) := by
  have : ∀ n : Fin 256, bits BinOp.and IntKind.u8 (n.val : Int) 15 = ((n.val % 16 : Nat) : Int) := by decide +kernel
  exact this ⟨n, h⟩

set_option maxHeartbeats 1000000 in
theorem written_plain (d : UInt8) (dd : Int) (e : dd = (d.toNat : Int)) (w : World) (hp : plainQ d = true) :
    Calls Tryz.prog 162 #[.int .u8 dd] w fun e w' => e = .returned (.tuple #[.agg #[.int .u8 (d.toNat : Int), .int .u8 0, .int .u8 0], .int .i64 1]) ∧ Below w.heap.size w w' := by
  subst e
  have hpp : 33 ≤ d.toNat ∧ d.toNat ≤ 126 ∧ d.toNat ≠ 61 := by simpa [plainQ] using hp
  have e1 : (33 : Int) ≤ (d.toNat : Int) := by omega
  have e2 : (d.toNat : Int) ≤ 126 := by omega
  have e3 : ((d.toNat : Int) == 61) = false := by rw [beq_eq_false_iff_ne]; omega
  clear hp hpp
  go_enter Tryz.func162, Tryz.ntmps162
  go_wp2
  (try simp only [Exit.inBlock, Exit.then])
  refine bodyPost_ret (v := .tuple #[.agg #[.int .u8 (d.toNat : Int), .int .u8 0, .int .u8 0], .int .i64 1]) ?_ rfl ⟨rfl, (Below.refl _ _).alloc (Nat.le_refl _) _⟩
  rw [results_cell_tmp rfl]
  go_simp

set_option maxHeartbeats 1000000 in
theorem written_hex (d : UInt8) (dd : Int) (e : dd = (d.toNat : Int)) (w : World) (hp : plainQ d = false) :
    Calls Tryz.prog 162 #[.int .u8 dd] w fun e w' => e = .returned (.tuple #[.agg #[.int .u8 61, .int .u8 ((upHex (d.toNat / 16)).toNat : Int), .int .u8 ((upHex (d.toNat % 16)).toNat : Int)], .int .i64 3]) ∧ Below w.heap.size w w' := by
  subst e
  have hd := d.toNat_lt
  have hpp : d.toNat < 33 ∨ 126 < d.toNat ∨ d.toNat = 61 := by
    have : ¬ (33 ≤ d.toNat ∧ d.toNat ≤ 126 ∧ d.toNat ≠ 61) := by simpa [plainQ] using hp
    omega
  have hand := u8_and_15 d.toNat hd
  obtain ⟨U, hU⟩ : ∃ U, U = d.toNat / 16 := ⟨_, rfl⟩
  obtain ⟨V, hV⟩ : ∃ V, V = d.toNat % 16 := ⟨_, rfl⟩
  rw [← hV] at hand ⊢
  rw [← hU]
  have hU16 : U < 16 := by omega
  have hV16 : V < 16 := by omega
  have hsh : (d.toNat : Int) / 16 = (U : Int) := by omega
  have hUi : (U : Int) < 16 := by omega
  have hVi : (V : Int) < 16 := by omega
  clear hU hV hp
  by_cases h1 : 33 ≤ d.toNat
  · have e1 : (33 : Int) ≤ (d.toNat : Int) := by omega
    by_cases h2 : d.toNat ≤ 126
    · have e2 : (d.toNat : Int) ≤ 126 := by omega
      have e3 : ((d.toNat : Int) == 61) = true := by rw [beq_iff_eq]; omega
      clear hpp
      go_enter Tryz.func162, Tryz.ntmps162
      go_wp2
      go_region
      go_wp2
      (try simp only [Exit.inBlock, Exit.then])
      refine bodyPost_ret (v := .tuple #[.agg #[.int .u8 61, .int .u8 ((upHex U).toNat : Int), .int .u8 ((upHex V).toNat : Int)], .int .i64 3]) ?_ rfl ⟨rfl, ((Below.refl _ _).alloc (Nat.le_refl _) _).drew⟩
      rw [results_cell_tmp rfl, ← hexUp_at ⟨U, hU16⟩, ← hexUp_at ⟨V, hV16⟩]
      go_simp
      exact ⟨rfl, rfl⟩
    · have e2 : decide ((d.toNat : Int) ≤ 126) = false := by simp; omega
      clear hpp
      go_enter Tryz.func162, Tryz.ntmps162
      go_wp2
      go_region
      go_wp2
      (try simp only [Exit.inBlock, Exit.then])
      refine bodyPost_ret (v := .tuple #[.agg #[.int .u8 61, .int .u8 ((upHex U).toNat : Int), .int .u8 ((upHex V).toNat : Int)], .int .i64 3]) ?_ rfl ⟨rfl, ((Below.refl _ _).alloc (Nat.le_refl _) _).drew⟩
      rw [results_cell_tmp rfl, ← hexUp_at ⟨U, hU16⟩, ← hexUp_at ⟨V, hV16⟩]
      go_simp
      exact ⟨rfl, rfl⟩
  · have e1 : decide ((33 : Int) ≤ (d.toNat : Int)) = false := by simp; omega
    clear hpp
    go_enter Tryz.func162, Tryz.ntmps162
    go_wp2
    go_region
    go_wp2
    (try simp only [Exit.inBlock, Exit.then])
    refine bodyPost_ret (v := .tuple #[.agg #[.int .u8 61, .int .u8 ((upHex U).toNat : Int), .int .u8 ((upHex V).toNat : Int)], .int .i64 3]) ?_ rfl ⟨rfl, ((Below.refl _ _).alloc (Nat.le_refl _) _).drew⟩
    rw [results_cell_tmp rfl, ← hexUp_at ⟨U, hU16⟩, ← hexUp_at ⟨V, hV16⟩]
    go_simp
    exact ⟨rfl, rfl⟩
end Go.Proofs.YtpgnkhaanoalhaaGreatDoor
