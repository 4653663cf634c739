
import Derived.Test.YtbbfcbodhmeanaaGreatDoorXrewritenone20
import Derived.Lib.Case
import Derived.Lib.Fold
namespace Go.Proofs.YtbbfcbodhmeanaaGreatDoor
open Go.RowKit
def tlB (b0 b1 b2 b3 b4:Bool):Nat→Bool
 | 0=>b0 && (b1 && (b2 && (b3 && b4)))
 | 1=>b1 && (b2 && (b3 && b4))
 | 2=>b2 && (b3 && b4)
 | 3=>b3 && b4
 | _=>b4
def wrtB (u:UL):Bool:=tlB (allU (inB 33 126 hostN) u.hst) (allU (inB 33 126 pathN) u.pth) (allU (inB 33 126 fragN) u.qry) (allU (inB 33 126 fragN) u.frg) (allU lowOnly u.hst) 0
theorem wrtU_eq (u:UL):wrtU u = ((u.sch.isEmpty || schemeS u.sch) && wrtB u):=by
 unfold wrtU wrtB tlB allU betw lowOnly
 simp only [Bool.and_assoc]
set_option maxHeartbeats 4000000 in
set_option maxRecDepth 100000 in
theorem writ_e (hst pth qry frg:ByteArray) (hh hq hf:Bool) (b0 b1 b2 b3 b4:Bool) (w:World)
  (C0:Hid (∀ (g:Nat) (W:World),W.cell? ⟨g,0,none⟩ = some (.string hst)→W.cell? ⟨g,1,none⟩ = some (.string ⟨#[34,60,62,92,94,96,123,124,125,47,63,35]⟩)→Calls Tryz.prog 142 #[.string hst,.func (Fn.func 186) #[] #[.pointer (some ⟨g,0,none⟩)]] W fun e w'=>e = .returned (.bool b0)∧w' = W))
  (C1:Hid (∀ (g:Nat) (W:World),W.cell? ⟨g,0,none⟩ = some (.string pth)→W.cell? ⟨g,1,none⟩ = some (.string ⟨#[34,60,62,92,94,96,123,124,125,63,35]⟩)→Calls Tryz.prog 142 #[.string pth,.func (Fn.func 186) #[] #[.pointer (some ⟨g,0,none⟩)]] W fun e w'=>e = .returned (.bool b1)∧w' = W))
  (C2:Hid (∀ (g:Nat) (W:World),W.cell? ⟨g,0,none⟩ = some (.string qry)→W.cell? ⟨g,1,none⟩ = some (.string ⟨#[34,60,62,92,94,96,123,124,125,35]⟩)→Calls Tryz.prog 142 #[.string qry,.func (Fn.func 186) #[] #[.pointer (some ⟨g,0,none⟩)]] W fun e w'=>e = .returned (.bool b2)∧w' = W))
  (C3:Hid (∀ (g:Nat) (W:World),W.cell? ⟨g,0,none⟩ = some (.string frg)→W.cell? ⟨g,1,none⟩ = some (.string ⟨#[34,60,62,92,94,96,123,124,125,35]⟩)→Calls Tryz.prog 142 #[.string frg,.func (Fn.func 186) #[] #[.pointer (some ⟨g,0,none⟩)]] W fun e w'=>e = .returned (.bool b3)∧w' = W))
  (C4:Hid (∀ W:World,Calls Tryz.prog 142 #[.string hst,.func (Fn.func 187) #[] #[]] W fun e w'=>e = .returned (.bool b4)∧w' = W)) :
  Calls Tryz.prog 145 #[.agg #[.string ⟨#[]⟩,.bool hh,.string hst,.string pth,.bool hq,.string qry,.bool hf,.string frg]] w fun e w'=>e = .returned (.bool (tlB b0 b1 b2 b3 b4 0))∧Below w.heap.size w w':=by
 obtain ⟨R,hR⟩:∃ R,tlB b0 b1 b2 b3 b4 0 = R:=⟨_,rfl⟩
 rw [hR]
 have HR:Hid (tlB b0 b1 b2 b3 b4 0 = R):=hR
 clear hR
 go_enter Tryz.func145,Tryz.ntmps145
 go_wp2
 obtain ⟨w9,hw9⟩:∃ W,W = w.alloc (.cells #[.string ⟨#[]⟩,.bool hh,.string hst,.string pth,.bool hq,.string qry,.bool hf,.string frg] 85):=⟨_,rfl⟩
 have hb9:Below w.heap.size w w9:=by rw [hw9];exact (Below.refl _ _).alloc (Nat.le_refl _) _
 have hs9:w9.heap.size = w.heap.size + 1:=by rw [hw9];simp
 have hc9:w9.cell? ⟨w.heap.size,2,none⟩ = some (.string hst):=by rw [hw9];simp
 go_loopw [27] (fun iv wr=>∃ k:Nat,k≤4∧iv = .int .i64 k∧Below w9.heap.size w9 wr∧Hid (tlB b0 b1 b2 b3 b4 k = R)) (fun iv _=>4 - (intOf iv).toNat)
 case atStart=>exact ⟨0,Nat.zero_le _,rfl,by rw [hw9];exact Below.refl _ _,HR⟩
 case round =>
  obtain ⟨k,hk,rfl,hbel,HK⟩:=hrel
  have hsz:=hbel.size
  rcases (show k = 0 ∨ k = 1 ∨ k = 2 ∨ k = 3 ∨ k = 4 by omega) with rfl | rfl | rfl | rfl | rfl
  ·cases b0 with
   | false =>
    have HN:Hid (R = false):=by unfold Hid;rw [← HK.out];rfl
    clear HK HR
    have hix:∀ W:World,(Instr.index 197 (.agg #[.string hst,.string ⟨#[34,60,62,92,94,96,123,124,125,47,63,35]⟩,.string pth,.string ⟨#[34,60,62,92,94,96,123,124,125,63,35]⟩,.string qry,.string ⟨#[34,60,62,92,94,96,123,124,125,35]⟩,.string frg,.string ⟨#[34,60,62,92,94,96,123,124,125,35]⟩]) (.int .i64 0)).run Tryz.prog W = .ok (.agg #[.string hst,.string ⟨#[34,60,62,92,94,96,123,124,125,47,63,35]⟩]) W:=fun W=>by kernel_rfl
    go_wp2_with fail
    refine (C0.out wr.heap.size _ ?_ ?_).mono ?_
    ·simp
    ·simp
    rintro e w' ⟨rfl,hw'⟩
    have hw'':=hw'.symm
    subst hw''
    go_wp2
    go_ret
    exact ⟨by rw [HN.out];rfl,hb9.trans ((hbel.alloc hsz _).mono hb9.size)⟩
   | true =>
    have HN:Hid (tlB true b1 b2 b3 b4 1 = R):=by unfold Hid;rw [← HK.out];rfl
    clear HK HR
    have hix:∀ W:World,(Instr.index 197 (.agg #[.string hst,.string ⟨#[34,60,62,92,94,96,123,124,125,47,63,35]⟩,.string pth,.string ⟨#[34,60,62,92,94,96,123,124,125,63,35]⟩,.string qry,.string ⟨#[34,60,62,92,94,96,123,124,125,35]⟩,.string frg,.string ⟨#[34,60,62,92,94,96,123,124,125,35]⟩]) (.int .i64 0)).run Tryz.prog W = .ok (.agg #[.string hst,.string ⟨#[34,60,62,92,94,96,123,124,125,47,63,35]⟩]) W:=fun W=>by kernel_rfl
    go_wp2_with fail
    refine (C0.out wr.heap.size _ ?_ ?_).mono ?_
    ·simp
    ·simp
    rintro e w' ⟨rfl,hw'⟩
    have hw'':=hw'.symm
    subst hw''
    go_wp2
    go_roundw
    case rel=>exact ⟨1,by omega,by go_num,hbel.alloc hsz _,HN⟩
    case measure=>simp [intOf]
  ·cases b1 with
   | false =>
    have HN:Hid (R = false):=by unfold Hid;rw [← HK.out];rfl
    clear HK HR
    have hix:∀ W:World,(Instr.index 197 (.agg #[.string hst,.string ⟨#[34,60,62,92,94,96,123,124,125,47,63,35]⟩,.string pth,.string ⟨#[34,60,62,92,94,96,123,124,125,63,35]⟩,.string qry,.string ⟨#[34,60,62,92,94,96,123,124,125,35]⟩,.string frg,.string ⟨#[34,60,62,92,94,96,123,124,125,35]⟩]) (.int .i64 1)).run Tryz.prog W = .ok (.agg #[.string pth,.string ⟨#[34,60,62,92,94,96,123,124,125,63,35]⟩]) W:=fun W=>by kernel_rfl
    go_wp2_with fail
    refine (C1.out wr.heap.size _ ?_ ?_).mono ?_
    ·simp
    ·simp
    rintro e w' ⟨rfl,hw'⟩
    have hw'':=hw'.symm
    subst hw''
    go_wp2
    go_ret
    exact ⟨by rw [HN.out];rfl,hb9.trans ((hbel.alloc hsz _).mono hb9.size)⟩
   | true =>
    have HN:Hid (tlB b0 true b2 b3 b4 2 = R):=by unfold Hid;rw [← HK.out];rfl
    clear HK HR
    have hix:∀ W:World,(Instr.index 197 (.agg #[.string hst,.string ⟨#[34,60,62,92,94,96,123,124,125,47,63,35]⟩,.string pth,.string ⟨#[34,60,62,92,94,96,123,124,125,63,35]⟩,.string qry,.string ⟨#[34,60,62,92,94,96,123,124,125,35]⟩,.string frg,.string ⟨#[34,60,62,92,94,96,123,124,125,35]⟩]) (.int .i64 1)).run Tryz.prog W = .ok (.agg #[.string pth,.string ⟨#[34,60,62,92,94,96,123,124,125,63,35]⟩]) W:=fun W=>by kernel_rfl
    go_wp2_with fail
    refine (C1.out wr.heap.size _ ?_ ?_).mono ?_
    ·simp
    ·simp
    rintro e w' ⟨rfl,hw'⟩
    have hw'':=hw'.symm
    subst hw''
    go_wp2
    go_roundw
    case rel=>exact ⟨2,by omega,by go_num,hbel.alloc hsz _,HN⟩
    case measure=>simp [intOf]
  ·cases b2 with
   | false =>
    have HN:Hid (R = false):=by unfold Hid;rw [← HK.out];rfl
    clear HK HR
    have hix:∀ W:World,(Instr.index 197 (.agg #[.string hst,.string ⟨#[34,60,62,92,94,96,123,124,125,47,63,35]⟩,.string pth,.string ⟨#[34,60,62,92,94,96,123,124,125,63,35]⟩,.string qry,.string ⟨#[34,60,62,92,94,96,123,124,125,35]⟩,.string frg,.string ⟨#[34,60,62,92,94,96,123,124,125,35]⟩]) (.int .i64 2)).run Tryz.prog W = .ok (.agg #[.string qry,.string ⟨#[34,60,62,92,94,96,123,124,125,35]⟩]) W:=fun W=>by kernel_rfl
    go_wp2_with fail
    refine (C2.out wr.heap.size _ ?_ ?_).mono ?_
    ·simp
    ·simp
    rintro e w' ⟨rfl,hw'⟩
    have hw'':=hw'.symm
    subst hw''
    go_wp2
    go_ret
    exact ⟨by rw [HN.out];rfl,hb9.trans ((hbel.alloc hsz _).mono hb9.size)⟩
   | true =>
    have HN:Hid (tlB b0 b1 true b3 b4 3 = R):=by unfold Hid;rw [← HK.out];rfl
    clear HK HR
    have hix:∀ W:World,(Instr.index 197 (.agg #[.string hst,.string ⟨#[34,60,62,92,94,96,123,124,125,47,63,35]⟩,.string pth,.string ⟨#[34,60,62,92,94,96,123,124,125,63,35]⟩,.string qry,.string ⟨#[34,60,62,92,94,96,123,124,125,35]⟩,.string frg,.string ⟨#[34,60,62,92,94,96,123,124,125,35]⟩]) (.int .i64 2)).run Tryz.prog W = .ok (.agg #[.string qry,.string ⟨#[34,60,62,92,94,96,123,124,125,35]⟩]) W:=fun W=>by kernel_rfl
    go_wp2_with fail
    refine (C2.out wr.heap.size _ ?_ ?_).mono ?_
    ·simp
    ·simp
    rintro e w' ⟨rfl,hw'⟩
    have hw'':=hw'.symm
    subst hw''
    go_wp2
    go_roundw
    case rel=>exact ⟨3,by omega,by go_num,hbel.alloc hsz _,HN⟩
    case measure=>simp [intOf]
  ·cases b3 with
   | false =>
    have HN:Hid (R = false):=by unfold Hid;rw [← HK.out];rfl
    clear HK HR
    have hix:∀ W:World,(Instr.index 197 (.agg #[.string hst,.string ⟨#[34,60,62,92,94,96,123,124,125,47,63,35]⟩,.string pth,.string ⟨#[34,60,62,92,94,96,123,124,125,63,35]⟩,.string qry,.string ⟨#[34,60,62,92,94,96,123,124,125,35]⟩,.string frg,.string ⟨#[34,60,62,92,94,96,123,124,125,35]⟩]) (.int .i64 3)).run Tryz.prog W = .ok (.agg #[.string frg,.string ⟨#[34,60,62,92,94,96,123,124,125,35]⟩]) W:=fun W=>by kernel_rfl
    go_wp2_with fail
    refine (C3.out wr.heap.size _ ?_ ?_).mono ?_
    ·simp
    ·simp
    rintro e w' ⟨rfl,hw'⟩
    have hw'':=hw'.symm
    subst hw''
    go_wp2
    go_ret
    exact ⟨by rw [HN.out];rfl,hb9.trans ((hbel.alloc hsz _).mono hb9.size)⟩
   | true =>
    have HN:Hid (tlB b0 b1 b2 true b4 4 = R):=by unfold Hid;rw [← HK.out];rfl
    clear HK HR
    have hix:∀ W:World,(Instr.index 197 (.agg #[.string hst,.string ⟨#[34,60,62,92,94,96,123,124,125,47,63,35]⟩,.string pth,.string ⟨#[34,60,62,92,94,96,123,124,125,63,35]⟩,.string qry,.string ⟨#[34,60,62,92,94,96,123,124,125,35]⟩,.string frg,.string ⟨#[34,60,62,92,94,96,123,124,125,35]⟩]) (.int .i64 3)).run Tryz.prog W = .ok (.agg #[.string frg,.string ⟨#[34,60,62,92,94,96,123,124,125,35]⟩]) W:=fun W=>by kernel_rfl
    go_wp2_with fail
    refine (C3.out wr.heap.size _ ?_ ?_).mono ?_
    ·simp
    ·simp
    rintro e w' ⟨rfl,hw'⟩
    have hw'':=hw'.symm
    subst hw''
    go_wp2
    go_roundw
    case rel=>exact ⟨4,by omega,by go_num,hbel.alloc hsz _,HN⟩
    case measure=>simp [intOf]
  ·have HN:Hid (R = b4):=by unfold Hid;rw [← HK.out];rfl
   have hc8:wr.cell? ⟨w.heap.size,2,none⟩ = some (.string hst):=(hbel.cell (p:=⟨w.heap.size,2,none⟩) (by simp;omega)).trans hc9
   clear HK HR hc9
   go_wp2_with fail
   refine (C4.out _).mono ?_
   rintro e w' ⟨rfl,hw'⟩
   have hw'':=hw'.symm
   subst hw''
   go_wp2
   go_ret
   exact ⟨by rw [HN.out];rfl,hb9.trans (hbel.mono hb9.size)⟩
set_option maxHeartbeats 4000000 in
set_option maxRecDepth 100000 in
theorem writ_s (sch hst pth qry frg:ByteArray) (hh hq hf:Bool) (hne:sch.data.toList ≠ []) (CS:Hid (∀ W:World,Calls Tryz.prog 92 #[.string sch] W fun e w'=>e = .returned (.bool true)∧w' = W)) (b0 b1 b2 b3 b4:Bool) (w:World)
  (C0:Hid (∀ (g:Nat) (W:World),W.cell? ⟨g,0,none⟩ = some (.string hst)→W.cell? ⟨g,1,none⟩ = some (.string ⟨#[34,60,62,92,94,96,123,124,125,47,63,35]⟩)→Calls Tryz.prog 142 #[.string hst,.func (Fn.func 186) #[] #[.pointer (some ⟨g,0,none⟩)]] W fun e w'=>e = .returned (.bool b0)∧w' = W))
  (C1:Hid (∀ (g:Nat) (W:World),W.cell? ⟨g,0,none⟩ = some (.string pth)→W.cell? ⟨g,1,none⟩ = some (.string ⟨#[34,60,62,92,94,96,123,124,125,63,35]⟩)→Calls Tryz.prog 142 #[.string pth,.func (Fn.func 186) #[] #[.pointer (some ⟨g,0,none⟩)]] W fun e w'=>e = .returned (.bool b1)∧w' = W))
  (C2:Hid (∀ (g:Nat) (W:World),W.cell? ⟨g,0,none⟩ = some (.string qry)→W.cell? ⟨g,1,none⟩ = some (.string ⟨#[34,60,62,92,94,96,123,124,125,35]⟩)→Calls Tryz.prog 142 #[.string qry,.func (Fn.func 186) #[] #[.pointer (some ⟨g,0,none⟩)]] W fun e w'=>e = .returned (.bool b2)∧w' = W))
  (C3:Hid (∀ (g:Nat) (W:World),W.cell? ⟨g,0,none⟩ = some (.string frg)→W.cell? ⟨g,1,none⟩ = some (.string ⟨#[34,60,62,92,94,96,123,124,125,35]⟩)→Calls Tryz.prog 142 #[.string frg,.func (Fn.func 186) #[] #[.pointer (some ⟨g,0,none⟩)]] W fun e w'=>e = .returned (.bool b3)∧w' = W))
  (C4:Hid (∀ W:World,Calls Tryz.prog 142 #[.string hst,.func (Fn.func 187) #[] #[]] W fun e w'=>e = .returned (.bool b4)∧w' = W)) :
  Calls Tryz.prog 145 #[.agg #[.string sch,.bool hh,.string hst,.string pth,.bool hq,.string qry,.bool hf,.string frg]] w fun e w'=>e = .returned (.bool (tlB b0 b1 b2 b3 b4 0))∧Below w.heap.size w w':=by
 obtain ⟨R,hR⟩:∃ R,tlB b0 b1 b2 b3 b4 0 = R:=⟨_,rfl⟩
 rw [hR]
 have HR:Hid (tlB b0 b1 b2 b3 b4 0 = R):=hR
 clear hR
 have he:=bempty_no sch hne
 clear hne
 go_enter Tryz.func145,Tryz.ntmps145
 go_wp2_with fail
 refine (CS.out _).mono ?_
 rintro e w' ⟨rfl,hw'⟩
 have hw'':=hw'.symm
 subst hw''
 clear CS
 go_wp2
 obtain ⟨w9,hw9⟩:∃ W,W = w.alloc (.cells #[.string sch,.bool hh,.string hst,.string pth,.bool hq,.string qry,.bool hf,.string frg] 85):=⟨_,rfl⟩
 have hb9:Below w.heap.size w w9:=by rw [hw9];exact (Below.refl _ _).alloc (Nat.le_refl _) _
 have hs9:w9.heap.size = w.heap.size + 1:=by rw [hw9];simp
 have hc9:w9.cell? ⟨w.heap.size,2,none⟩ = some (.string hst):=by rw [hw9];simp
 go_loopw [27] (fun iv wr=>∃ k:Nat,k≤4∧iv = .int .i64 k∧Below w9.heap.size w9 wr∧Hid (tlB b0 b1 b2 b3 b4 k = R)) (fun iv _=>4 - (intOf iv).toNat)
 case atStart=>exact ⟨0,Nat.zero_le _,rfl,by rw [hw9];exact Below.refl _ _,HR⟩
 case round =>
  obtain ⟨k,hk,rfl,hbel,HK⟩:=hrel
  have hsz:=hbel.size
  rcases (show k = 0 ∨ k = 1 ∨ k = 2 ∨ k = 3 ∨ k = 4 by omega) with rfl | rfl | rfl | rfl | rfl
  ·cases b0 with
   | false =>
    have HN:Hid (R = false):=by unfold Hid;rw [← HK.out];rfl
    clear HK HR
    have hix:∀ W:World,(Instr.index 197 (.agg #[.string hst,.string ⟨#[34,60,62,92,94,96,123,124,125,47,63,35]⟩,.string pth,.string ⟨#[34,60,62,92,94,96,123,124,125,63,35]⟩,.string qry,.string ⟨#[34,60,62,92,94,96,123,124,125,35]⟩,.string frg,.string ⟨#[34,60,62,92,94,96,123,124,125,35]⟩]) (.int .i64 0)).run Tryz.prog W = .ok (.agg #[.string hst,.string ⟨#[34,60,62,92,94,96,123,124,125,47,63,35]⟩]) W:=fun W=>by kernel_rfl
    go_wp2_with fail
    refine (C0.out wr.heap.size _ ?_ ?_).mono ?_
    ·simp
    ·simp
    rintro e w' ⟨rfl,hw'⟩
    have hw'':=hw'.symm
    subst hw''
    go_wp2
    go_ret
    exact ⟨by rw [HN.out];rfl,hb9.trans ((hbel.alloc hsz _).mono hb9.size)⟩
   | true =>
    have HN:Hid (tlB true b1 b2 b3 b4 1 = R):=by unfold Hid;rw [← HK.out];rfl
    clear HK HR
    have hix:∀ W:World,(Instr.index 197 (.agg #[.string hst,.string ⟨#[34,60,62,92,94,96,123,124,125,47,63,35]⟩,.string pth,.string ⟨#[34,60,62,92,94,96,123,124,125,63,35]⟩,.string qry,.string ⟨#[34,60,62,92,94,96,123,124,125,35]⟩,.string frg,.string ⟨#[34,60,62,92,94,96,123,124,125,35]⟩]) (.int .i64 0)).run Tryz.prog W = .ok (.agg #[.string hst,.string ⟨#[34,60,62,92,94,96,123,124,125,47,63,35]⟩]) W:=fun W=>by kernel_rfl
    go_wp2_with fail
    refine (C0.out wr.heap.size _ ?_ ?_).mono ?_
    ·simp
    ·simp
    rintro e w' ⟨rfl,hw'⟩
    have hw'':=hw'.symm
    subst hw''
    go_wp2
    go_roundw
    case rel=>exact ⟨1,by omega,by go_num,hbel.alloc hsz _,HN⟩
    case measure=>simp [intOf]
  ·cases b1 with
   | false =>
    have HN:Hid (R = false):=by unfold Hid;rw [← HK.out];rfl
    clear HK HR
    have hix:∀ W:World,(Instr.index 197 (.agg #[.string hst,.string ⟨#[34,60,62,92,94,96,123,124,125,47,63,35]⟩,.string pth,.string ⟨#[34,60,62,92,94,96,123,124,125,63,35]⟩,.string qry,.string ⟨#[34,60,62,92,94,96,123,124,125,35]⟩,.string frg,.string ⟨#[34,60,62,92,94,96,123,124,125,35]⟩]) (.int .i64 1)).run Tryz.prog W = .ok (.agg #[.string pth,.string ⟨#[34,60,62,92,94,96,123,124,125,63,35]⟩]) W:=fun W=>by kernel_rfl
    go_wp2_with fail
    refine (C1.out wr.heap.size _ ?_ ?_).mono ?_
    ·simp
    ·simp
    rintro e w' ⟨rfl,hw'⟩
    have hw'':=hw'.symm
    subst hw''
    go_wp2
    go_ret
    exact ⟨by rw [HN.out];rfl,hb9.trans ((hbel.alloc hsz _).mono hb9.size)⟩
   | true =>
    have HN:Hid (tlB b0 true b2 b3 b4 2 = R):=by unfold Hid;rw [← HK.out];rfl
    clear HK HR
    have hix:∀ W:World,(Instr.index 197 (.agg #[.string hst,.string ⟨#[34,60,62,92,94,96,123,124,125,47,63,35]⟩,.string pth,.string ⟨#[34,60,62,92,94,96,123,124,125,63,35]⟩,.string qry,.string ⟨#[34,60,62,92,94,96,123,124,125,35]⟩,.string frg,.string ⟨#[34,60,62,92,94,96,123,124,125,35]⟩]) (.int .i64 1)).run Tryz.prog W = .ok (.agg #[.string pth,.string ⟨#[34,60,62,92,94,96,123,124,125,63,35]⟩]) W:=fun W=>by kernel_rfl
    go_wp2_with fail
    refine (C1.out wr.heap.size _ ?_ ?_).mono ?_
    ·simp
    ·simp
    rintro e w' ⟨rfl,hw'⟩
    have hw'':=hw'.symm
    subst hw''
    go_wp2
    go_roundw
    case rel=>exact ⟨2,by omega,by go_num,hbel.alloc hsz _,HN⟩
    case measure=>simp [intOf]
  ·cases b2 with
   | false =>
    have HN:Hid (R = false):=by unfold Hid;rw [← HK.out];rfl
    clear HK HR
    have hix:∀ W:World,(Instr.index 197 (.agg #[.string hst,.string ⟨#[34,60,62,92,94,96,123,124,125,47,63,35]⟩,.string pth,.string ⟨#[34,60,62,92,94,96,123,124,125,63,35]⟩,.string qry,.string ⟨#[34,60,62,92,94,96,123,124,125,35]⟩,.string frg,.string ⟨#[34,60,62,92,94,96,123,124,125,35]⟩]) (.int .i64 2)).run Tryz.prog W = .ok (.agg #[.string qry,.string ⟨#[34,60,62,92,94,96,123,124,125,35]⟩]) W:=fun W=>by kernel_rfl
    go_wp2_with fail
    refine (C2.out wr.heap.size _ ?_ ?_).mono ?_
    ·simp
    ·simp
    rintro e w' ⟨rfl,hw'⟩
    have hw'':=hw'.symm
    subst hw''
    go_wp2
    go_ret
    exact ⟨by rw [HN.out];rfl,hb9.trans ((hbel.alloc hsz _).mono hb9.size)⟩
   | true =>
    have HN:Hid (tlB b0 b1 true b3 b4 3 = R):=by unfold Hid;rw [← HK.out];rfl
    clear HK HR
    have hix:∀ W:World,(Instr.index 197 (.agg #[.string hst,.string ⟨#[34,60,62,92,94,96,123,124,125,47,63,35]⟩,.string pth,.string ⟨#[34,60,62,92,94,96,123,124,125,63,35]⟩,.string qry,.string ⟨#[34,60,62,92,94,96,123,124,125,35]⟩,.string frg,.string ⟨#[34,60,62,92,94,96,123,124,125,35]⟩]) (.int .i64 2)).run Tryz.prog W = .ok (.agg #[.string qry,.string ⟨#[34,60,62,92,94,96,123,124,125,35]⟩]) W:=fun W=>by kernel_rfl
    go_wp2_with fail
    refine (C2.out wr.heap.size _ ?_ ?_).mono ?_
    ·simp
    ·simp
    rintro e w' ⟨rfl,hw'⟩
    have hw'':=hw'.symm
    subst hw''
    go_wp2
    go_roundw
    case rel=>exact ⟨3,by omega,by go_num,hbel.alloc hsz _,HN⟩
    case measure=>simp [intOf]
  ·cases b3 with
   | false =>
    have HN:Hid (R = false):=by unfold Hid;rw [← HK.out];rfl
    clear HK HR
    have hix:∀ W:World,(Instr.index 197 (.agg #[.string hst,.string ⟨#[34,60,62,92,94,96,123,124,125,47,63,35]⟩,.string pth,.string ⟨#[34,60,62,92,94,96,123,124,125,63,35]⟩,.string qry,.string ⟨#[34,60,62,92,94,96,123,124,125,35]⟩,.string frg,.string ⟨#[34,60,62,92,94,96,123,124,125,35]⟩]) (.int .i64 3)).run Tryz.prog W = .ok (.agg #[.string frg,.string ⟨#[34,60,62,92,94,96,123,124,125,35]⟩]) W:=fun W=>by kernel_rfl
    go_wp2_with fail
    refine (C3.out wr.heap.size _ ?_ ?_).mono ?_
    ·simp
    ·simp
    rintro e w' ⟨rfl,hw'⟩
    have hw'':=hw'.symm
    subst hw''
    go_wp2
    go_ret
    exact ⟨by rw [HN.out];rfl,hb9.trans ((hbel.alloc hsz _).mono hb9.size)⟩
   | true =>
    have HN:Hid (tlB b0 b1 b2 true b4 4 = R):=by unfold Hid;rw [← HK.out];rfl
    clear HK HR
    have hix:∀ W:World,(Instr.index 197 (.agg #[.string hst,.string ⟨#[34,60,62,92,94,96,123,124,125,47,63,35]⟩,.string pth,.string ⟨#[34,60,62,92,94,96,123,124,125,63,35]⟩,.string qry,.string ⟨#[34,60,62,92,94,96,123,124,125,35]⟩,.string frg,.string ⟨#[34,60,62,92,94,96,123,124,125,35]⟩]) (.int .i64 3)).run Tryz.prog W = .ok (.agg #[.string frg,.string ⟨#[34,60,62,92,94,96,123,124,125,35]⟩]) W:=fun W=>by kernel_rfl
    go_wp2_with fail
    refine (C3.out wr.heap.size _ ?_ ?_).mono ?_
    ·simp
    ·simp
    rintro e w' ⟨rfl,hw'⟩
    have hw'':=hw'.symm
    subst hw''
    go_wp2
    go_roundw
    case rel=>exact ⟨4,by omega,by go_num,hbel.alloc hsz _,HN⟩
    case measure=>simp [intOf]
  ·have HN:Hid (R = b4):=by unfold Hid;rw [← HK.out];rfl
   have hc8:wr.cell? ⟨w.heap.size,2,none⟩ = some (.string hst):=(hbel.cell (p:=⟨w.heap.size,2,none⟩) (by simp;omega)).trans hc9
   clear HK HR hc9
   go_wp2_with fail
   refine (C4.out _).mono ?_
   rintro e w' ⟨rfl,hw'⟩
   have hw'':=hw'.symm
   subst hw''
   go_wp2
   go_ret
   exact ⟨by rw [HN.out];rfl,hb9.trans (hbel.mono hb9.size)⟩
theorem writ_n (sch hst pth qry frg:ByteArray) (hh hq hf:Bool) (hne:sch.data.toList ≠ []) (CS:Hid (∀ W:World,Calls Tryz.prog 92 #[.string sch] W fun e w'=>e = .returned (.bool false)∧w' = W)) (w:World) :
  Calls Tryz.prog 145 #[.agg #[.string sch,.bool hh,.string hst,.string pth,.bool hq,.string qry,.bool hf,.string frg]] w fun e w'=>e = .returned (.bool false)∧Below w.heap.size w w':=by
 have he:=bempty_no sch hne
 clear hne
 go_enter Tryz.func145,Tryz.ntmps145
 go_wp2_with fail
 refine (CS.out _).mono ?_
 rintro e w' ⟨rfl,hw'⟩
 have hw'':=hw'.symm
 subst hw''
 clear CS
 go_wp2
 go_ret
 exact ⟨rfl,(Below.refl _ _).alloc (Nat.le_refl _) _⟩
theorem uwritten_any (u:UV) (hs:u.short 1000000) (w:World) :
  Calls Tryz.prog 145 #[u.v] w fun e w'=>e = .returned (.bool (wrtU u.l))∧Below w.heap.size w w':=by
 rw [wrtU_eq]
 obtain ⟨sch,hh,hst,pth,hq,qry,hf,frg⟩:=u
 obtain ⟨h1,h2,h3,h4,h5⟩:=hs
 simp only at h1 h2 h3 h4 h5
 show Calls _ _ #[.agg #[.string sch,.bool hh,.string hst,.string pth,.bool hq,.string qry,.bool hf,.string frg]] w fun e w'=>e = .returned (.bool ((sch.data.toList.isEmpty || schemeS sch.data.toList) && wrtB (UV.l ⟨sch,hh,hst,pth,hq,qry,hf,frg⟩)))∧Below w.heap.size w w'
 by_cases hne:sch.data.toList = []
 ·obtain rfl:=bempty_yes sch hne
  refine writ_e hst pth qry frg hh hq hf _ _ _ _ _ w ?_ ?_ ?_ ?_ ?_
  ·exact fun g W e0 e1=>every_cap g _ _ hostN rfl hst W h2 e0 e1
  ·exact fun g W e0 e1=>every_cap g _ _ pathN rfl pth W h3 e0 e1
  ·exact fun g W e0 e1=>every_cap g _ _ fragN rfl qry W h4 e0 e1
  ·exact fun g W e0 e1=>every_cap g _ _ fragN rfl frg W h5 e0 e1
  ·exact fun W=>every_low hst W h2
 ·rw [isE_no sch hne,Bool.false_or]
  have CS:=fun W=>uscheme_any sch W h1
  cases hsc:schemeS sch.data.toList with
  | false =>
   rw [hsc] at CS
   exact writ_n sch hst pth qry frg hh hq hf hne CS w
  | true =>
   rw [hsc] at CS
   rw [Bool.true_and]
   refine writ_s sch hst pth qry frg hh hq hf hne CS _ _ _ _ _ w ?_ ?_ ?_ ?_ ?_
   ·exact fun g W e0 e1=>every_cap g _ _ hostN rfl hst W h2 e0 e1
   ·exact fun g W e0 e1=>every_cap g _ _ pathN rfl pth W h3 e0 e1
   ·exact fun g W e0 e1=>every_cap g _ _ fragN rfl qry W h4 e0 e1
   ·exact fun g W e0 e1=>every_cap g _ _ fragN rfl frg W h5 e0 e1
   ·exact fun W=>every_low hst W h2
end Go.Proofs.YtbbfcbodhmeanaaGreatDoor



namespace Go.Proofs.YtbbfcbodhmeanaaGreatDoor
end Go.Proofs.YtbbfcbodhmeanaaGreatDoor



namespace Go.Proofs.YtbbfcbodhmeanaaGreatDoor
end Go.Proofs.YtbbfcbodhmeanaaGreatDoor



namespace Go.Proofs.YtbbfcbodhmeanaaGreatDoor
theorem checkU_zero {u:UL} (h:checkU u = 0):longU u = false∧wrtU u = true∧frmU u = true∧(textU u).length≤120:=by
 unfold checkU at h
 split at h
 ·cases h
 ·split at h
  ·cases h
  ·split at h
   ·cases h
   ·split at h
    ·cases h
    ·rename_i h1 h2 h3 h4
     exact ⟨by simpa using h1,by simpa using h2,by simpa using h3,by omega⟩
theorem longU_false {u:UL} (h:longU u = false):u.sch.length≤120∧u.hst.length≤120∧u.pth.length≤120∧u.qry.length≤120∧u.frg.length≤120:=by
 unfold longU at h
 simp at h
 obtain ⟨⟨⟨⟨h1,h2⟩,h3⟩,h4⟩,h5⟩:=h
 exact ⟨h1,h2,h3,h4,h5⟩
theorem dirP_append (l:List UInt8):∃ m,l = dirP l ++ m:=by
 refine ⟨(l.reverse.takeWhile (fun c=>!(c == 47))).reverse,?_⟩
 unfold dirP
 rw [← List.reverse_append,List.takeWhile_append_dropWhile,List.reverse_reverse]
end Go.Proofs.YtbbfcbodhmeanaaGreatDoor

