import Derived.Test.YtbbfcbodhmeanaaGreatDoorXrewritesays15
import Derived.Lib.Case
import Derived.Lib.Fold
set_option maxHeartbeats 8000000
set_option maxRecDepth 1000000
namespace Go.Proofs.YtbbfcbodhmeanaaGreatDoor
open Go.Proofs.Tryz
open Go.RowKit
def tlB(b0 b1 b2 b3 b4:Bool):Nat->Bool
 |0=>b0&&(b1&&(b2&&(b3&&b4)))
 |1=>b1&&(b2&&(b3&&b4))
 |2=>b2&&(b3&&b4)
 |3=>b3&&b4
 |_=>b4
def aVl(u:UL):Bool:=tlB (aBQ (inB 33 126 aId) u.hst) (aBQ (inB 33 126 aMQ) u.pth) (aBQ (inB 33 126 aHh) u.qry) (aBQ (inB 33 126 aHh) u.frg) (aBQ aKF u.hst) 0
theorem aVn(u:UL):aVm u=((u.sch.isEmpty||aPU u.sch)&&aVl u):=by
 unfold aVm aVl tlB aBQ aC3 aKF
 simp only[Bool.and_assoc]
theorem aVi(hst pth qry d:jA)(hh hq D:Bool)(b0 r s t o:Bool)(w:World)
  (z:Hid (∀(g:Nat) (W:World),W.cell? (jx g 0)=some (.string hst)->W.cell? (jx g 1)=some (.string ⟨#[34,60,62,92,94,96,123,124,125,47,63,35]⟩)->Calls prog 142 #[.string hst,.func (Fn.func 186) #[] #[.pointer (some (jx g 0))]] W λe w'=>e=.returned (.bool b0)/\w'=W))
  (A:Hid (∀(g:Nat) (W:World),W.cell? (jx g 0)=some (.string pth)->W.cell? (jx g 1)=some (.string ⟨#[34,60,62,92,94,96,123,124,125,63,35]⟩)->Calls prog 142 #[.string pth,.func (Fn.func 186) #[] #[.pointer (some (jx g 0))]] W λe w'=>e=.returned (.bool r)/\w'=W))
  (B:Hid (∀(g:Nat) (W:World),W.cell? (jx g 0)=some (.string qry)->W.cell? (jx g 1)=some (.string ⟨#[34,60,62,92,94,96,123,124,125,35]⟩)->Calls prog 142 #[.string qry,.func (Fn.func 186) #[] #[.pointer (some (jx g 0))]] W λe w'=>e=.returned (.bool s)/\w'=W))
  (C:Hid (∀(g:Nat) (W:World),W.cell? (jx g 0)=some (.string d)->W.cell? (jx g 1)=some (.string ⟨#[34,60,62,92,94,96,123,124,125,35]⟩)->Calls prog 142 #[.string d,.func (Fn.func 186) #[] #[.pointer (some (jx g 0))]] W λe w'=>e=.returned (.bool t)/\w'=W))
  (E:Hid (∀W:World,Calls prog 142 #[.string hst,.func (Fn.func 187) #[] #[]] W λe w'=>e=.returned (.bool o)/\w'=W)):
  Calls prog 145 #[.agg (jU jz hh hst pth hq qry D d)] w (jG (.bool (tlB b0 r s t o 0)) w):=by
 obtain⟨R,y⟩:∃R,tlB b0 r s t o 0=R:=⟨_,rfl⟩
 rw[y]
 have n:Hid _:=y
 clear y
 go_enter func145,ntmps145
 go_wp2
 obtain⟨x,q⟩:∃W,W=w.alloc (.cells (jU jz hh hst pth hq qry D d) 85):=⟨_,rfl⟩
 have f:jb w x:=by rw[q];exact ja _ _
 have G:x.heap.size=w.heap.size+1:=by rw[q];simp
 have v:x.cell? (jx w.heap.size 2)=some (.string hst):=by rw[q];simp
 go_loopw[27] (λiv wr=>∃k:Nat,k<=4/\iv=.int .i64 k/\jb x wr/\Hid (tlB b0 r s t o k=R)) (λiv _=>4-(intOf iv).toNat)
 case atStart=>exact⟨0,jy _,rfl,by rw[q];exact jr _ _,n⟩
 case round=>
  obtain⟨k,H,rfl,b,i⟩:=hrel
  have l:=b.size
  rcases (show k=0\/k=1\/k=2\/k=3\/k=4 by omega)with rfl|rfl|rfl|rfl|rfl
  ·cases b0 with
   |false=>
    have j:Hid (R=false):=by unfold Hid;rw[<-i.out];rfl
    clear i n
    have m:∀W:World,(Instr.index 197 (.agg #[.string hst,.string ⟨#[34,60,62,92,94,96,123,124,125,47,63,35]⟩,.string pth,.string ⟨#[34,60,62,92,94,96,123,124,125,63,35]⟩,.string qry,.string ⟨#[34,60,62,92,94,96,123,124,125,35]⟩,.string d,.string ⟨#[34,60,62,92,94,96,123,124,125,35]⟩]) (.int .i64 0)).run prog W=.ok (.agg #[.string hst,.string ⟨#[34,60,62,92,94,96,123,124,125,47,63,35]⟩]) W:=λW=>by kernel_rfl
    go_wp2_with fail
    refine(z.out wr.heap.size _ ?_ ?_).mono ?_
    ·simp
    ·simp
    rintro e w' ⟨rfl,c⟩
    have a:=c.symm
    subst a
    go_wp2
    go_ret
    exact⟨by rw[j.out];rfl,f.trans ((b.alloc l _).mono f.size)⟩
   |true=>
    have j:Hid (tlB true r s t o 1=R):=by unfold Hid;rw[<-i.out];rfl
    clear i n
    have m:∀W:World,(Instr.index 197 (.agg #[.string hst,.string ⟨#[34,60,62,92,94,96,123,124,125,47,63,35]⟩,.string pth,.string ⟨#[34,60,62,92,94,96,123,124,125,63,35]⟩,.string qry,.string ⟨#[34,60,62,92,94,96,123,124,125,35]⟩,.string d,.string ⟨#[34,60,62,92,94,96,123,124,125,35]⟩]) (.int .i64 0)).run prog W=.ok (.agg #[.string hst,.string ⟨#[34,60,62,92,94,96,123,124,125,47,63,35]⟩]) W:=λW=>by kernel_rfl
    go_wp2_with fail
    refine(z.out wr.heap.size _ ?_ ?_).mono ?_
    ·simp
    ·simp
    rintro e w' ⟨rfl,c⟩
    have a:=c.symm
    subst a
    go_wp2
    go_roundw
    case rel=>exact⟨1,by omega,by go_num,b.alloc l _,j⟩
    case measure=>simp[intOf]
  ·cases r with
   |false=>
    have j:Hid (R=false):=by unfold Hid;rw[<-i.out];rfl
    clear i n
    have m:∀W:World,(Instr.index 197 (.agg #[.string hst,.string ⟨#[34,60,62,92,94,96,123,124,125,47,63,35]⟩,.string pth,.string ⟨#[34,60,62,92,94,96,123,124,125,63,35]⟩,.string qry,.string ⟨#[34,60,62,92,94,96,123,124,125,35]⟩,.string d,.string ⟨#[34,60,62,92,94,96,123,124,125,35]⟩]) (.int .i64 1)).run prog W=.ok (.agg #[.string pth,.string ⟨#[34,60,62,92,94,96,123,124,125,63,35]⟩]) W:=λW=>by kernel_rfl
    go_wp2_with fail
    refine(A.out wr.heap.size _ ?_ ?_).mono ?_
    ·simp
    ·simp
    rintro e w' ⟨rfl,c⟩
    have a:=c.symm
    subst a
    go_wp2
    go_ret
    exact⟨by rw[j.out];rfl,f.trans ((b.alloc l _).mono f.size)⟩
   |true=>
    have j:Hid (tlB b0 true s t o 2=R):=by unfold Hid;rw[<-i.out];rfl
    clear i n
    have m:∀W:World,(Instr.index 197 (.agg #[.string hst,.string ⟨#[34,60,62,92,94,96,123,124,125,47,63,35]⟩,.string pth,.string ⟨#[34,60,62,92,94,96,123,124,125,63,35]⟩,.string qry,.string ⟨#[34,60,62,92,94,96,123,124,125,35]⟩,.string d,.string ⟨#[34,60,62,92,94,96,123,124,125,35]⟩]) (.int .i64 1)).run prog W=.ok (.agg #[.string pth,.string ⟨#[34,60,62,92,94,96,123,124,125,63,35]⟩]) W:=λW=>by kernel_rfl
    go_wp2_with fail
    refine(A.out wr.heap.size _ ?_ ?_).mono ?_
    ·simp
    ·simp
    rintro e w' ⟨rfl,c⟩
    have a:=c.symm
    subst a
    go_wp2
    go_roundw
    case rel=>exact⟨2,by omega,by go_num,b.alloc l _,j⟩
    case measure=>simp[intOf]
  ·cases s with
   |false=>
    have j:Hid (R=false):=by unfold Hid;rw[<-i.out];rfl
    clear i n
    have m:∀W:World,(Instr.index 197 (.agg #[.string hst,.string ⟨#[34,60,62,92,94,96,123,124,125,47,63,35]⟩,.string pth,.string ⟨#[34,60,62,92,94,96,123,124,125,63,35]⟩,.string qry,.string ⟨#[34,60,62,92,94,96,123,124,125,35]⟩,.string d,.string ⟨#[34,60,62,92,94,96,123,124,125,35]⟩]) (.int .i64 2)).run prog W=.ok (.agg #[.string qry,.string ⟨#[34,60,62,92,94,96,123,124,125,35]⟩]) W:=λW=>by kernel_rfl
    go_wp2_with fail
    refine(B.out wr.heap.size _ ?_ ?_).mono ?_
    ·simp
    ·simp
    rintro e w' ⟨rfl,c⟩
    have a:=c.symm
    subst a
    go_wp2
    go_ret
    exact⟨by rw[j.out];rfl,f.trans ((b.alloc l _).mono f.size)⟩
   |true=>
    have j:Hid (tlB b0 r true t o 3=R):=by unfold Hid;rw[<-i.out];rfl
    clear i n
    have m:∀W:World,(Instr.index 197 (.agg #[.string hst,.string ⟨#[34,60,62,92,94,96,123,124,125,47,63,35]⟩,.string pth,.string ⟨#[34,60,62,92,94,96,123,124,125,63,35]⟩,.string qry,.string ⟨#[34,60,62,92,94,96,123,124,125,35]⟩,.string d,.string ⟨#[34,60,62,92,94,96,123,124,125,35]⟩]) (.int .i64 2)).run prog W=.ok (.agg #[.string qry,.string ⟨#[34,60,62,92,94,96,123,124,125,35]⟩]) W:=λW=>by kernel_rfl
    go_wp2_with fail
    refine(B.out wr.heap.size _ ?_ ?_).mono ?_
    ·simp
    ·simp
    rintro e w' ⟨rfl,c⟩
    have a:=c.symm
    subst a
    go_wp2
    go_roundw
    case rel=>exact⟨3,by omega,by go_num,b.alloc l _,j⟩
    case measure=>simp[intOf]
  ·cases t with
   |false=>
    have j:Hid (R=false):=by unfold Hid;rw[<-i.out];rfl
    clear i n
    have m:∀W:World,(Instr.index 197 (.agg #[.string hst,.string ⟨#[34,60,62,92,94,96,123,124,125,47,63,35]⟩,.string pth,.string ⟨#[34,60,62,92,94,96,123,124,125,63,35]⟩,.string qry,.string ⟨#[34,60,62,92,94,96,123,124,125,35]⟩,.string d,.string ⟨#[34,60,62,92,94,96,123,124,125,35]⟩]) (.int .i64 3)).run prog W=.ok (.agg #[.string d,.string ⟨#[34,60,62,92,94,96,123,124,125,35]⟩]) W:=λW=>by kernel_rfl
    go_wp2_with fail
    refine(C.out wr.heap.size _ ?_ ?_).mono ?_
    ·simp
    ·simp
    rintro e w' ⟨rfl,c⟩
    have a:=c.symm
    subst a
    go_wp2
    go_ret
    exact⟨by rw[j.out];rfl,f.trans ((b.alloc l _).mono f.size)⟩
   |true=>
    have j:Hid (tlB b0 r s true o 4=R):=by unfold Hid;rw[<-i.out];rfl
    clear i n
    have m:∀W:World,(Instr.index 197 (.agg #[.string hst,.string ⟨#[34,60,62,92,94,96,123,124,125,47,63,35]⟩,.string pth,.string ⟨#[34,60,62,92,94,96,123,124,125,63,35]⟩,.string qry,.string ⟨#[34,60,62,92,94,96,123,124,125,35]⟩,.string d,.string ⟨#[34,60,62,92,94,96,123,124,125,35]⟩]) (.int .i64 3)).run prog W=.ok (.agg #[.string d,.string ⟨#[34,60,62,92,94,96,123,124,125,35]⟩]) W:=λW=>by kernel_rfl
    go_wp2_with fail
    refine(C.out wr.heap.size _ ?_ ?_).mono ?_
    ·simp
    ·simp
    rintro e w' ⟨rfl,c⟩
    have a:=c.symm
    subst a
    go_wp2
    go_roundw
    case rel=>exact⟨4,by omega,by go_num,b.alloc l _,j⟩
    case measure=>simp[intOf]
  ·have j:Hid (R=o):=by unfold Hid;rw[<-i.out];rfl
   have F:wr.cell? (jx w.heap.size 2)=some (.string hst):=(b.cell (p:=jx w.heap.size 2) (by simp;omega)).trans v
   clear i n v
   go_wp2_with fail
   refine(E.out _).mono ?_
   rintro e w' ⟨rfl,c⟩
   have a:=c.symm
   subst a
   go_wp2
   go_ret
   exact⟨by rw[j.out];rfl,f.trans (b.mono f.size)⟩
theorem aVk(n hst pth qry d:jA)(hh hq G:Bool)(y:n.data.toList≠[])(F:Hid (∀W:World,Calls prog 92 #[.string n] W λe w'=>e=.returned (.bool true)/\w'=W))(b0 s t v q:Bool)(w:World)
  (B:Hid (∀(g:Nat) (W:World),W.cell? (jx g 0)=some (.string hst)->W.cell? (jx g 1)=some (.string ⟨#[34,60,62,92,94,96,123,124,125,47,63,35]⟩)->Calls prog 142 #[.string hst,.func (Fn.func 186) #[] #[.pointer (some (jx g 0))]] W λe w'=>e=.returned (.bool b0)/\w'=W))
  (C:Hid (∀(g:Nat) (W:World),W.cell? (jx g 0)=some (.string pth)->W.cell? (jx g 1)=some (.string ⟨#[34,60,62,92,94,96,123,124,125,63,35]⟩)->Calls prog 142 #[.string pth,.func (Fn.func 186) #[] #[.pointer (some (jx g 0))]] W λe w'=>e=.returned (.bool s)/\w'=W))
  (D:Hid (∀(g:Nat) (W:World),W.cell? (jx g 0)=some (.string qry)->W.cell? (jx g 1)=some (.string ⟨#[34,60,62,92,94,96,123,124,125,35]⟩)->Calls prog 142 #[.string qry,.func (Fn.func 186) #[] #[.pointer (some (jx g 0))]] W λe w'=>e=.returned (.bool t)/\w'=W))
  (E:Hid (∀(g:Nat) (W:World),W.cell? (jx g 0)=some (.string d)->W.cell? (jx g 1)=some (.string ⟨#[34,60,62,92,94,96,123,124,125,35]⟩)->Calls prog 142 #[.string d,.func (Fn.func 186) #[] #[.pointer (some (jx g 0))]] W λe w'=>e=.returned (.bool v)/\w'=W))
  (H:Hid (∀W:World,Calls prog 142 #[.string hst,.func (Fn.func 187) #[] #[]] W λe w'=>e=.returned (.bool q)/\w'=W)):
  Calls prog 145 #[.agg (jU n hh hst pth hq qry G d)] w (jG (.bool (tlB b0 s t v q 0)) w):=by
 obtain⟨R,A⟩:∃R,tlB b0 s t v q 0=R:=⟨_,rfl⟩
 rw[A]
 have o:Hid _:=A
 clear A
 have L:=aC0 n y
 clear y
 go_enter func145,ntmps145
 go_wp2_with fail
 refine(F.out _).mono ?_
 rintro e w' ⟨rfl,b⟩
 have a:=b.symm
 subst a
 clear F
 go_wp2
 obtain⟨z,r⟩:∃W,W=w.alloc (.cells (jU n hh hst pth hq qry G d) 85):=⟨_,rfl⟩
 have f:jb w z:=by rw[r];exact ja _ _
 have J:z.heap.size=w.heap.size+1:=by rw[r];simp
 have x:z.cell? (jx w.heap.size 2)=some (.string hst):=by rw[r];simp
 go_loopw[27] (λiv wr=>∃k:Nat,k<=4/\iv=.int .i64 k/\jb z wr/\Hid (tlB b0 s t v q k=R)) (λiv _=>4-(intOf iv).toNat)
 case atStart=>exact⟨0,jy _,rfl,by rw[r];exact jr _ _,o⟩
 case round=>
  obtain⟨k,M,rfl,c,i⟩:=hrel
  have l:=c.size
  rcases (show k=0\/k=1\/k=2\/k=3\/k=4 by omega)with rfl|rfl|rfl|rfl|rfl
  ·cases b0 with
   |false=>
    have j:Hid (R=false):=by unfold Hid;rw[<-i.out];rfl
    clear i o
    have m:∀W:World,(Instr.index 197 (.agg #[.string hst,.string ⟨#[34,60,62,92,94,96,123,124,125,47,63,35]⟩,.string pth,.string ⟨#[34,60,62,92,94,96,123,124,125,63,35]⟩,.string qry,.string ⟨#[34,60,62,92,94,96,123,124,125,35]⟩,.string d,.string ⟨#[34,60,62,92,94,96,123,124,125,35]⟩]) (.int .i64 0)).run prog W=.ok (.agg #[.string hst,.string ⟨#[34,60,62,92,94,96,123,124,125,47,63,35]⟩]) W:=λW=>by kernel_rfl
    go_wp2_with fail
    refine(B.out wr.heap.size _ ?_ ?_).mono ?_
    ·simp
    ·simp
    rintro e w' ⟨rfl,b⟩
    have a:=b.symm
    subst a
    go_wp2
    go_ret
    exact⟨by rw[j.out];rfl,f.trans ((c.alloc l _).mono f.size)⟩
   |true=>
    have j:Hid (tlB true s t v q 1=R):=by unfold Hid;rw[<-i.out];rfl
    clear i o
    have m:∀W:World,(Instr.index 197 (.agg #[.string hst,.string ⟨#[34,60,62,92,94,96,123,124,125,47,63,35]⟩,.string pth,.string ⟨#[34,60,62,92,94,96,123,124,125,63,35]⟩,.string qry,.string ⟨#[34,60,62,92,94,96,123,124,125,35]⟩,.string d,.string ⟨#[34,60,62,92,94,96,123,124,125,35]⟩]) (.int .i64 0)).run prog W=.ok (.agg #[.string hst,.string ⟨#[34,60,62,92,94,96,123,124,125,47,63,35]⟩]) W:=λW=>by kernel_rfl
    go_wp2_with fail
    refine(B.out wr.heap.size _ ?_ ?_).mono ?_
    ·simp
    ·simp
    rintro e w' ⟨rfl,b⟩
    have a:=b.symm
    subst a
    go_wp2
    go_roundw
    case rel=>exact⟨1,by omega,by go_num,c.alloc l _,j⟩
    case measure=>simp[intOf]
  ·cases s with
   |false=>
    have j:Hid (R=false):=by unfold Hid;rw[<-i.out];rfl
    clear i o
    have m:∀W:World,(Instr.index 197 (.agg #[.string hst,.string ⟨#[34,60,62,92,94,96,123,124,125,47,63,35]⟩,.string pth,.string ⟨#[34,60,62,92,94,96,123,124,125,63,35]⟩,.string qry,.string ⟨#[34,60,62,92,94,96,123,124,125,35]⟩,.string d,.string ⟨#[34,60,62,92,94,96,123,124,125,35]⟩]) (.int .i64 1)).run prog W=.ok (.agg #[.string pth,.string ⟨#[34,60,62,92,94,96,123,124,125,63,35]⟩]) W:=λW=>by kernel_rfl
    go_wp2_with fail
    refine(C.out wr.heap.size _ ?_ ?_).mono ?_
    ·simp
    ·simp
    rintro e w' ⟨rfl,b⟩
    have a:=b.symm
    subst a
    go_wp2
    go_ret
    exact⟨by rw[j.out];rfl,f.trans ((c.alloc l _).mono f.size)⟩
   |true=>
    have j:Hid (tlB b0 true t v q 2=R):=by unfold Hid;rw[<-i.out];rfl
    clear i o
    have m:∀W:World,(Instr.index 197 (.agg #[.string hst,.string ⟨#[34,60,62,92,94,96,123,124,125,47,63,35]⟩,.string pth,.string ⟨#[34,60,62,92,94,96,123,124,125,63,35]⟩,.string qry,.string ⟨#[34,60,62,92,94,96,123,124,125,35]⟩,.string d,.string ⟨#[34,60,62,92,94,96,123,124,125,35]⟩]) (.int .i64 1)).run prog W=.ok (.agg #[.string pth,.string ⟨#[34,60,62,92,94,96,123,124,125,63,35]⟩]) W:=λW=>by kernel_rfl
    go_wp2_with fail
    refine(C.out wr.heap.size _ ?_ ?_).mono ?_
    ·simp
    ·simp
    rintro e w' ⟨rfl,b⟩
    have a:=b.symm
    subst a
    go_wp2
    go_roundw
    case rel=>exact⟨2,by omega,by go_num,c.alloc l _,j⟩
    case measure=>simp[intOf]
  ·cases t with
   |false=>
    have j:Hid (R=false):=by unfold Hid;rw[<-i.out];rfl
    clear i o
    have m:∀W:World,(Instr.index 197 (.agg #[.string hst,.string ⟨#[34,60,62,92,94,96,123,124,125,47,63,35]⟩,.string pth,.string ⟨#[34,60,62,92,94,96,123,124,125,63,35]⟩,.string qry,.string ⟨#[34,60,62,92,94,96,123,124,125,35]⟩,.string d,.string ⟨#[34,60,62,92,94,96,123,124,125,35]⟩]) (.int .i64 2)).run prog W=.ok (.agg #[.string qry,.string ⟨#[34,60,62,92,94,96,123,124,125,35]⟩]) W:=λW=>by kernel_rfl
    go_wp2_with fail
    refine(D.out wr.heap.size _ ?_ ?_).mono ?_
    ·simp
    ·simp
    rintro e w' ⟨rfl,b⟩
    have a:=b.symm
    subst a
    go_wp2
    go_ret
    exact⟨by rw[j.out];rfl,f.trans ((c.alloc l _).mono f.size)⟩
   |true=>
    have j:Hid (tlB b0 s true v q 3=R):=by unfold Hid;rw[<-i.out];rfl
    clear i o
    have m:∀W:World,(Instr.index 197 (.agg #[.string hst,.string ⟨#[34,60,62,92,94,96,123,124,125,47,63,35]⟩,.string pth,.string ⟨#[34,60,62,92,94,96,123,124,125,63,35]⟩,.string qry,.string ⟨#[34,60,62,92,94,96,123,124,125,35]⟩,.string d,.string ⟨#[34,60,62,92,94,96,123,124,125,35]⟩]) (.int .i64 2)).run prog W=.ok (.agg #[.string qry,.string ⟨#[34,60,62,92,94,96,123,124,125,35]⟩]) W:=λW=>by kernel_rfl
    go_wp2_with fail
    refine(D.out wr.heap.size _ ?_ ?_).mono ?_
    ·simp
    ·simp
    rintro e w' ⟨rfl,b⟩
    have a:=b.symm
    subst a
    go_wp2
    go_roundw
    case rel=>exact⟨3,by omega,by go_num,c.alloc l _,j⟩
    case measure=>simp[intOf]
  ·cases v with
   |false=>
    have j:Hid (R=false):=by unfold Hid;rw[<-i.out];rfl
    clear i o
    have m:∀W:World,(Instr.index 197 (.agg #[.string hst,.string ⟨#[34,60,62,92,94,96,123,124,125,47,63,35]⟩,.string pth,.string ⟨#[34,60,62,92,94,96,123,124,125,63,35]⟩,.string qry,.string ⟨#[34,60,62,92,94,96,123,124,125,35]⟩,.string d,.string ⟨#[34,60,62,92,94,96,123,124,125,35]⟩]) (.int .i64 3)).run prog W=.ok (.agg #[.string d,.string ⟨#[34,60,62,92,94,96,123,124,125,35]⟩]) W:=λW=>by kernel_rfl
    go_wp2_with fail
    refine(E.out wr.heap.size _ ?_ ?_).mono ?_
    ·simp
    ·simp
    rintro e w' ⟨rfl,b⟩
    have a:=b.symm
    subst a
    go_wp2
    go_ret
    exact⟨by rw[j.out];rfl,f.trans ((c.alloc l _).mono f.size)⟩
   |true=>
    have j:Hid (tlB b0 s t true q 4=R):=by unfold Hid;rw[<-i.out];rfl
    clear i o
    have m:∀W:World,(Instr.index 197 (.agg #[.string hst,.string ⟨#[34,60,62,92,94,96,123,124,125,47,63,35]⟩,.string pth,.string ⟨#[34,60,62,92,94,96,123,124,125,63,35]⟩,.string qry,.string ⟨#[34,60,62,92,94,96,123,124,125,35]⟩,.string d,.string ⟨#[34,60,62,92,94,96,123,124,125,35]⟩]) (.int .i64 3)).run prog W=.ok (.agg #[.string d,.string ⟨#[34,60,62,92,94,96,123,124,125,35]⟩]) W:=λW=>by kernel_rfl
    go_wp2_with fail
    refine(E.out wr.heap.size _ ?_ ?_).mono ?_
    ·simp
    ·simp
    rintro e w' ⟨rfl,b⟩
    have a:=b.symm
    subst a
    go_wp2
    go_roundw
    case rel=>exact⟨4,by omega,by go_num,c.alloc l _,j⟩
    case measure=>simp[intOf]
  ·have j:Hid (R=q):=by unfold Hid;rw[<-i.out];rfl
   have I:wr.cell? (jx w.heap.size 2)=some (.string hst):=(c.cell (p:=jx w.heap.size 2) (by simp;omega)).trans x
   clear i o x
   go_wp2_with fail
   refine(H.out _).mono ?_
   rintro e w' ⟨rfl,b⟩
   have a:=b.symm
   subst a
   go_wp2
   go_ret
   exact⟨by rw[j.out];rfl,f.trans (c.mono f.size)⟩
theorem aVj(a hst pth qry d:jA)(hh hq i:Bool)(b:a.data.toList≠[])(g:Hid (∀W:World,Calls prog 92 #[.string a] W λe w'=>e=.returned (.bool false)/\w'=W))(w:World):
  Calls prog 145 #[.agg (jU a hh hst pth hq qry i d)] w (jG (.bool false) w):=by
 have j:=aC0 a b
 clear b
 go_enter func145,ntmps145
 go_wp2_with fail
 refine(g.out _).mono ?_
 rintro e w' ⟨rfl,f⟩
 have c:=f.symm
 subst c
 clear g
 go_wp2
 go_ret
 exact⟨rfl,ja _ _⟩
theorem aUo(u:UV)(o:u.short 1000000)(w:World):
  Calls prog 145 #[u.v] w (jG (.bool (aVm u.l)) w):=by
 rw[aVn]
 obtain⟨a,hh,hst,pth,hq,qry,f,b⟩:=u
 obtain⟨n,d,k,l,m⟩:=o
 simp only at n d k l m
 show Calls _ _ #[.agg (jU a hh hst pth hq qry f b)] w λe w'=>e=.returned (.bool ((a.data.toList.isEmpty||aPU a.data.toList)&&aVl (UV.l ⟨a,hh,hst,pth,hq,qry,f,b⟩)))/\jb w w'
 by_cases c:a.data.toList=[]
 ·obtain rfl:=aC2 a c
  refine aVi hst pth qry b hh hq f _ _ _ _ _ w ?_ ?_ ?_ ?_ ?_
  ·exact λg W e0 e1=>aF0 g _ _ aId rfl hst W d e0 e1
  ·exact λg W e0 e1=>aF0 g _ _ aMQ rfl pth W k e0 e1
  ·exact λg W e0 e1=>aF0 g _ _ aHh rfl qry W l e0 e1
  ·exact λg W e0 e1=>aF0 g _ _ aHh rfl b W m e0 e1
  ·exact λW=>aF1 hst W d
 ·rw[aI0 a c,jcg]
  have j:=λW=>aUi a W n
  cases i:aPU a.data.toList with
  |false=>
   rw[i]at j
   exact aVj a hst pth qry b hh hq f c j w
  |true=>
   rw[i]at j
   rw[jcw]
   refine aVk a hst pth qry b hh hq f c j _ _ _ _ _ w ?_ ?_ ?_ ?_ ?_
   ·exact λg W e0 e1=>aF0 g _ _ aId rfl hst W d e0 e1
   ·exact λg W e0 e1=>aF0 g _ _ aMQ rfl pth W k e0 e1
   ·exact λg W e0 e1=>aF0 g _ _ aHh rfl qry W l e0 e1
   ·exact λg W e0 e1=>aF0 g _ _ aHh rfl b W m e0 e1
   ·exact λW=>aF1 hst W d
def aQE(l:jB):jB:=Lib.toLowerA l
theorem aKQ(c:UInt8):(Lib.lowerB c).toNat=if 65<=c.toNat/\c.toNat<=90 then c.toNat+32 else c.toNat:=by
 have:∀n:Fin 256,(Lib.lowerB (UInt8.ofNat n.val)).toNat=if 65<=n.val/\n.val<=90 then n.val+32 else n.val:=by decide+kernel
 have h:=this ⟨c.toNat,c.toNat_lt⟩
 rwa [show UInt8.ofNat c.toNat=c from jce]at h
theorem aB7(c:UInt8)(h:c.toNat<128):(Lib.lowerB c).toNat<128:=by
 rw[aKQ];split<;>omega
theorem aDY{u:UL}(h:aDW u=0):aKy u=false/\aVm u=true/\aHj u=true/\(aR7 u).length<=120:=by
 unfold aDW at h
 split at h
 ·cases h
 ·split at h
  ·cases h
  ·split at h
   ·cases h
   ·split at h
    ·cases h
    ·rename_i a b c d
     exact⟨by simpa using a,by simpa using b,by simpa using c,by omega⟩
theorem aKz{u:UL}(h:aKy u=false):u.sch.length<=120/\u.hst.length<=120/\u.pth.length<=120/\u.qry.length<=120/\u.frg.length<=120:=by
 unfold aKy at h
 simp at h
 obtain⟨⟨⟨⟨a,b⟩,c⟩,d⟩,f⟩:=h
 exact⟨a,b,c,d,f⟩
theorem aHl{u:UL}(h:aHj u=true):(u.hh=false->u.hst=[])/\(u.hq=false->u.qry=[])/\(u.hf=false->u.frg=[])/\(u.hh=true->u.pth=[]\/aNE u.pth=true)/\(u.hh=false->aNF u.pth=false/\(u.sch=[]->aEP u.pth=none)):=by
 unfold aHj at h
 split at h
 ·cases h
 ·rename_i b
  simp only[jed,j7,jde,List.isEmpty_eq_false_iff,not_or,not_and,Decidable.not_not]at b
  obtain⟨⟨c,d⟩,f⟩:=b
  refine⟨λe=>c e,λe=>d e,λe=>f e,λe=>?_,λe=>?_⟩
  ·rw[jo e]at h
   simpa using h
  ·rw[jh (by rw[e];simp)]at h
   split at h
   ·cases h
   ·rename_i a
    unfold aKe at a
    rw[e]at a
    refine⟨by simpa using a,λg=>?_⟩
    rw[g]at h
    simpa using h
theorem aJR{b u:UL}(h:(aJG b u).2=0):aDW b=0/\aDW u=0/\b.sch.isEmpty=false/\aKe (aT1 (aHr b u))=false/\aDW (aT1 (aHr b u))=0/\aJG b u=(aT1 (aHr b u),0):=by
 unfold aJG at h⊢
 split at h
 ·exact absurd h (by assumption)
 ·split at h
  ·exact absurd h (by assumption)
  ·split at h
   ·cases h
   ·unfold aFU at h⊢
    split at h
    ·cases h
    ·unfold aD3 at h⊢
     split at h
     ·rename_i j k f g i
      have a:aDW b=0:=by omega
      have c:aDW u=0:=by omega
      have d:aKe (aT1 (aHr b u))=false:=by simpa using g
      refine⟨a,c,by simpa using f,d,i,?_⟩
      rw[jh j,jh k,jh f,jh g,jo i]
     ·exact absurd h (by assumption)
theorem aEx(b u:UL):(aEo b u).sch=b.sch/\(aEo b u).hf=u.hf/\(aEo b u).frg=u.frg:=by
 unfold aEo
 repeat' split
 all_goals exact⟨rfl,rfl,rfl⟩
theorem aT2(u:UL):(aT1 u).sch=u.sch/\(aT1 u).hf=u.hf/\(aT1 u).frg=u.frg/\(aT1 u).hh=u.hh/\(aT1 u).hst=u.hst/\(aT1 u).hq=u.hq/\(aT1 u).qry=u.qry:=by
 unfold aT1
 split
 all_goals exact⟨rfl,rfl,rfl,rfl,rfl,rfl,rfl⟩
theorem aHs(b u:UL)(f:b.sch.isEmpty=false):(aHr b u).sch.isEmpty=false/\(aHr b u).hf=u.hf/\(aHr b u).frg=u.frg:=by
 unfold aHr
 split
 ·obtain⟨a,d,c⟩:=aEx b u
  rw[a,d,c]
  exact⟨f,rfl,rfl⟩
 ·rename_i h;exact⟨by simpa using h,rfl,rfl⟩
theorem aFh(l:jB):∃m,l=aFg l++m:=by
 refine⟨(l.reverse.takeWhile (λc=>!(c==47))).reverse,?_⟩
 unfold aFg
 rw[<-jby,jak,List.reverse_reverse]
theorem aNL(l:jB):aNE l=true↔∃r,l=47::r:=by
 cases l with
 |nil=>simp[aNE]
 |cons a l=>simp[aNE]
theorem aFi(l:jB)(h:aNE l=true):aNE (aFg l)=true:=by
 obtain⟨r,rfl⟩:=(aNL l).1 h
 unfold aFg
 rw[List.reverse_cons,List.dropWhile_append]
 split
 ·rfl
 ·rw[jby];rfl
theorem aNJ(a b:jB)(h:aNE a=true):aNE (a++b)=true:=by
 obtain⟨r,rfl⟩:=(aNL a).1 h
 rfl
theorem aHt(b u:UL)(i:aDW b=0)(j:aDW u=0)(h:(aHr b u).hh=true\/aNE (aHr b u).pth=true):(aHr b u).pth=[]\/aNE (aHr b u).pth=true:=by
 obtain⟨_,_,f,_⟩:=aDY i
 obtain⟨_,_,g,_⟩:=aDY j
 obtain⟨_,_,_,a,k⟩:=aHl f
 obtain⟨_,_,_,d,o⟩:=aHl g
 refine h.elim ?_ .inr
 clear h
 unfold aHr
 split
 ·unfold aEo
  split
  ·intro h;exact d (by assumption)
  ·split
   ·split
    ·intro h;exact a h
    ·intro h;exact a h
   ·split
    ·intro h;right;assumption
    ·split
     ·intro h;right;rfl
     ·rename_i l m n c
      intro h
      right
      have hh:b.hh=true:=h
      rw[hh]at c
      rcases a hh with e|e
      ·rw[e]at c;exact absurd rfl c
      ·exact aNJ _ _ (aFi _ e)
 ·intro h;exact d h
theorem aJQ{b u:UL}(h:(aJG b u).2=0):aDW (aJG b u).1=0/\(aJG b u).1.sch.isEmpty=false/\(aJG b u).1.hf=u.hf/\(aJG b u).1.frg=u.frg:=by
 obtain⟨i,j,d,k,f,g⟩:=aJR h
 have c:=aT2 (aHr b u)
 have a:=aHs b u d
 rw[g]
 simp only
 refine⟨f,?_,?_,?_⟩
 ·rw[c.1];exact a.1
 ·rw[c.2.1];exact a.2.1
 ·rw[c.2.2.1];exact a.2.2
end Go.Proofs.YtbbfcbodhmeanaaGreatDoor
