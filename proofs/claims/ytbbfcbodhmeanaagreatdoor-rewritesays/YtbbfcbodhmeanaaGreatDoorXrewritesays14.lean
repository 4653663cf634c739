import Derived.Test.YtbbfcbodhmeanaaGreatDoorXrewritesays10
import Derived.Deep.WholeRow
set_option maxHeartbeats 8000000
set_option maxRecDepth 1000000
namespace Go.Proofs.YtbbfcbodhmeanaaGreatDoor
open Go.Proofs.Tryz
open Go.RowKit
def aBQ(p:UInt8->Bool)(l:jB):Bool:=l.all p
theorem aBS(p:UInt8->Bool)(s:jA)(k:Nat)(h:k<s.size):aBQ p (s.data.toList.drop k)=(p s[k]&&aBQ p (s.data.toList.drop (k+1))):=by
 unfold aBQ
 rw[aFs s k h,jcv]
theorem aBT(p:UInt8->Bool)(s:jA):aBQ p (s.data.toList.drop s.size)=true:=by
 rw[jC (by rw[<-Lib.size_eq];exact jf _)];rfl
theorem aUk(c:UInt8)(w:World):Calls prog 141 #[.int .u8 (c.toNat:Int)] w λe w'=>e=.returned (.bool (aI1 c))/\w'=w:=by
 by_cases f:97<=c.toNat
 ·have b:(97:Int)<=(c.toNat:Int):=by omega
  by_cases g:c.toNat<=122
  ·have d:(c.toNat:Int)<=122:=by omega
   have a:Hid (aI1 c=true):=by unfold Hid aI1;simp only[f,g];simp
   go_enter func141,ntmps141
   go_wp2
   go_ret
   exact⟨by rw[a.out];rfl,rfl⟩
  ·have d:decide ((c.toNat:Int)<=122)=false:=by simp;omega
   have a:Hid (aI1 c=false):=by unfold Hid aI1;simp only[g];simp
   go_enter func141,ntmps141
   go_wp2
   go_ret
   exact⟨by rw[a.out];rfl,rfl⟩
 ·have b:decide ((97:Int)<=(c.toNat:Int))=false:=by simp;omega
  have a:Hid (aI1 c=false):=by unfold Hid aI1;simp only[f];simp
  go_enter func141,ntmps141
  go_wp2
  go_ret
  exact⟨by rw[a.out];rfl,rfl⟩
theorem aTT(c:UInt8)(w:World):Calls prog 140 #[.int .u8 (c.toNat:Int)] w λe w'=>e=.returned (.bool (aI4 c))/\w'=w:=by
 by_cases f:65<=c.toNat
 ·have b:(65:Int)<=(c.toNat:Int):=by omega
  by_cases g:c.toNat<=90
  ·have d:(c.toNat:Int)<=90:=by omega
   have a:Hid (aI4 c=true):=by unfold Hid aI4;simp only[f,g];simp
   go_enter func140,ntmps140
   go_wp2
   go_ret
   exact⟨by rw[a.out];rfl,rfl⟩
  ·have d:decide ((c.toNat:Int)<=90)=false:=by simp;omega
   have a:Hid (aI4 c=false):=by unfold Hid aI4;simp only[g];simp
   go_enter func140,ntmps140
   go_wp2
   go_ret
   exact⟨by rw[a.out];rfl,rfl⟩
 ·have b:decide ((65:Int)<=(c.toNat:Int))=false:=by simp;omega
  have a:Hid (aI4 c=false):=by unfold Hid aI4;simp only[f];simp
  go_enter func140,ntmps140
  go_wp2
  go_ret
  exact⟨by rw[a.out];rfl,rfl⟩
theorem aT6(c:UInt8)(w:World):Calls prog 187 #[.int .u8 (c.toNat:Int)] w λe w'=>e=.returned (.bool (!aI4 c))/\w'=w:=by
 have C:=aTT c w
 generalize aI4 c=V at*
 have d:Hid (Calls prog 140 #[.int .u8 (c.toNat:Int)] w λe w'=>e=.returned (.bool V)/\w'=w):=C
 clear C
 go_enter func187,ntmps187
 go_wp2_with fail
 refine d.out.mono ?_
 rintro e w' ⟨rfl,b⟩
 have a:=b.symm
 subst a
 clear d
 go_wp2
 go_ret
 exact⟨rfl,rfl⟩
def aFc(c:UInt8):Bool:=decide (48<=c.toNat)&&decide (c.toNat<=57)
theorem aPR(c:UInt8):aPQ c=(aI1 c||aFc c||decide ((c.toNat:Int)=43)||decide ((c.toNat:Int)=45)||decide ((c.toNat:Int)=46)):=by
 have e1:∀d:UInt8,decide (c=d)=decide ((c.toNat:Int)=(d.toNat:Int)):=λd=>by
  rw[jar,<-jM];omega
 unfold aPQ aFc
 rw[e1 43,e1 45,e1 46]
 rfl
theorem aUh(c:UInt8)(w:World):Calls prog 143 #[.int .u8 (c.toNat:Int)] w λe w'=>e=.returned (.bool (aPQ c))/\w'=w:=by
 have C:=aUk c w
 have f:Hid (aPQ c=(aI1 c||aFc c||decide ((c.toNat:Int)=43)||decide ((c.toNat:Int)=45)||decide ((c.toNat:Int)=46))):=aPR c
 have g:Hid (aFc c=(decide ((48:Int)<=(c.toNat:Int))&&decide ((c.toNat:Int)<=57))):=by
  unfold Hid aFc
  rw[show decide ((48:Int)<=(c.toNat:Int))=decide (48<=c.toNat)from jar.2 (by omega),show decide ((c.toNat:Int)<=57)=decide (c.toNat<=57)from jar.2 (by omega)]
 generalize aI1 c=V at*
 have d:Hid (Calls prog 141 #[.int .u8 (c.toNat:Int)] w λe w'=>e=.returned (.bool V)/\w'=w):=C
 clear C
 cases V with
 |true=>
  go_enter func143,ntmps143
  go_wp2_with fail
  refine d.out.mono ?_
  rintro e w' ⟨rfl,b⟩
  have a:=b.symm
  subst a
  clear d
  go_wp2
  go_ret
  exact⟨by rw[f.out];rfl,rfl⟩
 |false=>
  go_enter func143,ntmps143
  go_wp2_with fail
  refine d.out.mono ?_
  rintro e w' ⟨rfl,b⟩
  have a:=b.symm
  subst a
  clear d
  go_wp2
  all_goals (
   go_ret
   refine⟨aO8 ?_,rfl⟩
   rw[f.out,g.out,jW]
   simp
   try omega)
theorem aTF(g:Nat)(S d:jA)(a:jB)(f:d.data.toList=a)(c:UInt8)(w:World)(_h0:w.cell? (jx g 0)=some (.string S))(m:w.cell? (jx g 1)=some (.string d)):
  Calls prog 186 #[.int .u8 (c.toNat:Int),.pointer (some (jx g 0))] w λe w'=>e=.returned (.bool (inB 33 126 a c))/\w'=w:=by
 by_cases m:33<=c.toNat
 ·have n:(33:Int)<=(c.toNat:Int):=by omega
  by_cases q:c.toNat<=126
  ·have o:(c.toNat:Int)<=126:=by omega
   have b:Hid (inB 33 126 a c=!a.contains c):=by unfold Hid inB;simp only[m,q];simp
   have j:∀i:Int,decide (0<=i)=a.contains c->decide (i<0)=!a.contains c:=by
    intro i h;rw[<-h];by_cases l:0<=i<;>simp[l]<;>omega
   go_enter func186,ntmps186
   go_wp2_with fail
   refine(aI5 _ a f c _ rfl _).mono ?_
   rintro e w' ⟨i,rfl,l,p⟩
   have k:=p.symm
   subst k
   have r:=j i l
   clear l j
   go_wp2
   go_ret
   exact⟨by rw[b.out];simp,rfl⟩
  ·have o:decide ((c.toNat:Int)<=126)=false:=by simp;omega
   have b:Hid (inB 33 126 a c=false):=by unfold Hid inB;simp only[q];simp
   go_enter func186,ntmps186
   go_wp2
   go_ret
   exact⟨by rw[b.out];rfl,rfl⟩
 ·have n:decide ((33:Int)<=(c.toNat:Int))=false:=by simp;omega
  have b:Hid (inB 33 126 a c=false):=by unfold Hid inB;simp only[m];simp
  go_enter func186,ntmps186
  go_wp2
  go_ret
  exact⟨by rw[b.out];rfl,rfl⟩
def aKF(c:UInt8):Bool:=!aI4 c
theorem aF2(s:jA)(w:World)(l:s.size<=1000000):
  Calls prog 142 #[.string s,.func (Fn.func 143) #[] #[]] w λe w'=>e=.returned (.bool (aBQ aPQ s.data.toList))/\w'=w:=by
 go_enter func142,ntmps142
 go_wp2
 go_loop [8] (λiv=>∃k:Nat,k<=s.size/\iv=.int .i64 k/\Hid (aBQ aPQ (s.data.toList.drop k)=aBQ aPQ s.data.toList)) (λiv=>s.size-(intOf iv).toNat)
 case atStart=>exact⟨0,jy _,rfl,rfl⟩
 case round=>
  obtain⟨k,j,rfl,d⟩:=hrel
  by_cases i:k<s.size
  ·have b:Hid (aBQ aPQ (s.data.toList.drop k)=(aPQ s[k]&&aBQ aPQ (s.data.toList.drop (k+1)))):=aBS _ s k i
   cases f:aPQ s[k]
   ·have g:Hid (aBQ aPQ s.data.toList=false):=by unfold Hid;rw[<-d.out,b.out,f];rfl
    have C:Hid (Calls prog 143 #[.int .u8 (s[k].toNat:Int)] w λe w'=>e=.returned (.bool false)/\w'=w):=by unfold Hid;rw[<-f];exact aUh _ w
    clear b d f
    go_wp2_with fail
    refine C.out.mono ?_
    rintro e w' ⟨rfl,c⟩
    have a:=c.symm
    subst a
    go_wp2
    go_ret
    exact⟨by rw[g.out];rfl,rfl⟩
   ·have g:Hid (aBQ aPQ (s.data.toList.drop (k+1))=aBQ aPQ s.data.toList):=by unfold Hid;rw[<-d.out,b.out,f];rfl
    have C:Hid (Calls prog 143 #[.int .u8 (s[k].toNat:Int)] w λe w'=>e=.returned (.bool true)/\w'=w):=by unfold Hid;rw[<-f];exact aUh _ w
    clear b d f
    go_wp2_with fail
    refine C.out.mono ?_
    rintro e w' ⟨rfl,c⟩
    have a:=c.symm
    subst a
    go_wp2
    go_round
    case rel=>exact⟨k+1,by omega,by go_num,g⟩
    case measure=>simp[intOf];omega
  ·obtain rfl:k=s.size:=by omega
   have g:Hid (aBQ aPQ s.data.toList=true):=by unfold Hid;rw[<-d.out];exact aBT _ s
   clear d
   go_wp2
   go_ret
   exact⟨by rw[g.out];rfl,rfl⟩
theorem aF1(s:jA)(w:World)(l:s.size<=1000000):
  Calls prog 142 #[.string s,.func (Fn.func 187) #[] #[]] w λe w'=>e=.returned (.bool (aBQ aKF s.data.toList))/\w'=w:=by
 go_enter func142,ntmps142
 go_wp2
 go_loop [8] (λiv=>∃k:Nat,k<=s.size/\iv=.int .i64 k/\Hid (aBQ aKF (s.data.toList.drop k)=aBQ aKF s.data.toList)) (λiv=>s.size-(intOf iv).toNat)
 case atStart=>exact⟨0,jy _,rfl,rfl⟩
 case round=>
  obtain⟨k,j,rfl,d⟩:=hrel
  by_cases i:k<s.size
  ·have b:Hid (aBQ aKF (s.data.toList.drop k)=(aKF s[k]&&aBQ aKF (s.data.toList.drop (k+1)))):=aBS _ s k i
   cases f:aKF s[k]
   ·have g:Hid (aBQ aKF s.data.toList=false):=by unfold Hid;rw[<-d.out,b.out,f];rfl
    have C:Hid (Calls prog 187 #[.int .u8 (s[k].toNat:Int)] w λe w'=>e=.returned (.bool false)/\w'=w):=by unfold Hid;rw[<-f];exact aT6 _ w
    clear b d f
    go_wp2_with fail
    refine C.out.mono ?_
    rintro e w' ⟨rfl,c⟩
    have a:=c.symm
    subst a
    go_wp2
    go_ret
    exact⟨by rw[g.out];rfl,rfl⟩
   ·have g:Hid (aBQ aKF (s.data.toList.drop (k+1))=aBQ aKF s.data.toList):=by unfold Hid;rw[<-d.out,b.out,f];rfl
    have C:Hid (Calls prog 187 #[.int .u8 (s[k].toNat:Int)] w λe w'=>e=.returned (.bool true)/\w'=w):=by unfold Hid;rw[<-f];exact aT6 _ w
    clear b d f
    go_wp2_with fail
    refine C.out.mono ?_
    rintro e w' ⟨rfl,c⟩
    have a:=c.symm
    subst a
    go_wp2
    go_round
    case rel=>exact⟨k+1,by omega,by go_num,g⟩
    case measure=>simp[intOf];omega
  ·obtain rfl:k=s.size:=by omega
   have g:Hid (aBQ aKF s.data.toList=true):=by unfold Hid;rw[<-d.out];exact aBT _ s
   clear d
   go_wp2
   go_ret
   exact⟨by rw[g.out];rfl,rfl⟩
theorem aF0(g:Nat)(S c:jA)(a:jB)(f:c.data.toList=a)(s:jA)(w:World)(r:s.size<=1000000)(o:w.cell? (jx g 0)=some (.string S))(p:w.cell? (jx g 1)=some (.string c)):
  Calls prog 142 #[.string s,.func (Fn.func 186) #[] #[.pointer (some (jx g 0))]] w λe w'=>e=.returned (.bool (aBQ (inB 33 126 a) s.data.toList))/\w'=w:=by
 go_enter func142,ntmps142
 go_wp2
 go_loop [8] (λiv=>∃k:Nat,k<=s.size/\iv=.int .i64 k/\Hid (aBQ (inB 33 126 a) (s.data.toList.drop k)=aBQ (inB 33 126 a) s.data.toList)) (λiv=>s.size-(intOf iv).toNat)
 case atStart=>exact⟨0,jy _,rfl,rfl⟩
 case round=>
  obtain⟨k,q,rfl,j⟩:=hrel
  by_cases n:k<s.size
  ·have d:Hid (aBQ (inB 33 126 a) (s.data.toList.drop k)=((inB 33 126 a) s[k]&&aBQ (inB 33 126 a) (s.data.toList.drop (k+1)))):=aBS _ s k n
   cases l:(inB 33 126 a) s[k]
   ·have m:Hid (aBQ (inB 33 126 a) s.data.toList=false):=by unfold Hid;rw[<-j.out,d.out,l];rfl
    have C:Hid (Calls prog 186 #[.int .u8 (s[k].toNat:Int),.pointer (some (jx g 0))] w λe w'=>e=.returned (.bool false)/\w'=w):=by unfold Hid;rw[<-l];exact aTF g S c a f _ w o p
    clear d j l
    go_wp2_with fail
    refine C.out.mono ?_
    rintro e w' ⟨rfl,i⟩
    have b:=i.symm
    subst b
    go_wp2
    go_ret
    exact⟨by rw[m.out];rfl,rfl⟩
   ·have m:Hid (aBQ (inB 33 126 a) (s.data.toList.drop (k+1))=aBQ (inB 33 126 a) s.data.toList):=by unfold Hid;rw[<-j.out,d.out,l];rfl
    have C:Hid (Calls prog 186 #[.int .u8 (s[k].toNat:Int),.pointer (some (jx g 0))] w λe w'=>e=.returned (.bool true)/\w'=w):=by unfold Hid;rw[<-l];exact aTF g S c a f _ w o p
    clear d j l
    go_wp2_with fail
    refine C.out.mono ?_
    rintro e w' ⟨rfl,i⟩
    have b:=i.symm
    subst b
    go_wp2
    go_round
    case rel=>exact⟨k+1,by omega,by go_num,m⟩
    case measure=>simp[intOf];omega
  ·obtain rfl:k=s.size:=by omega
   have m:Hid (aBQ (inB 33 126 a) s.data.toList=true):=by unfold Hid;rw[<-j.out];exact aBT _ s
   clear j
   go_wp2
   go_ret
   exact⟨by rw[m.out];rfl,rfl⟩
theorem aUi(s:jA)(w:World)(t:s.size<=1000000):
  Calls prog 92 #[.string s] w λe w'=>e=.returned (.bool (aPU s.data.toList))/\w'=w:=by
 have d:=Lib.size_eq s
 by_cases p:1<=s.size
 ·have q:s.toList.isEmpty=false:=by
   rw[jj]
   cases h:s.data.toList with
   |nil=>rw[h,jag]at d;omega
   |cons a b=>rfl
  have n:0<s.size:=by omega
  have r:(0:Int)<(s.size:Int):=by omega
  have k:Hid (aPU s.data.toList=(aI1 s[0]&&aBQ aPQ s.data.toList)):=by
   unfold Hid aPU
   have e:=aFs s 0 n
   rw[jbc]at e
   cases o:s.data.toList with
   |nil=>rw[o]at e;cases e
   |cons a l=>rw[o]at e;cases e;rfl
  have g:=aUk s[0] w
  cases i:aI1 s[0]
  ·have m:Hid (aPU s.data.toList=false):=by unfold Hid;rw[k.out,i];rfl
   rw[i]at g
   have j:Hid (Calls prog 141 #[.int .u8 (s[0].toNat:Int)] w λe w'=>e=.returned (.bool false)/\w'=w):=g
   clear g k i d
   go_enter func92,ntmps92
   go_wp2_with fail
   refine j.out.mono ?_
   rintro e w' ⟨rfl,f⟩
   have c:=f.symm
   subst c
   clear j
   go_wp2
   go_ret
   exact⟨by rw[m.out];rfl,rfl⟩
  ·have m:Hid (aPU s.data.toList=aBQ aPQ s.data.toList):=by unfold Hid;rw[k.out,i];rfl
   rw[i]at g
   have j:Hid (Calls prog 141 #[.int .u8 (s[0].toNat:Int)] w λe w'=>e=.returned (.bool true)/\w'=w):=g
   clear g k i d
   go_enter func92,ntmps92
   go_wp2_with fail
   refine j.out.mono ?_
   rintro e w' ⟨rfl,f⟩
   have c:=f.symm
   subst c
   clear j
   go_wp2_with fail
   refine(aF2 s _ (by omega)).mono ?_
   rintro e w' ⟨rfl,f⟩
   have c:=f.symm
   subst c
   go_wp2
   go_ret
   exact⟨by rw[m.out];rfl,rfl⟩
 ·obtain rfl:s=jz:=by
   apply jbv;apply jbj.1;exact js.1 (by rw[<-d];omega)
  clear d p t
  go_enter func92,ntmps92
  go_wp2
  go_ret
  exact⟨rfl,rfl⟩
structure UV where
 sch:jA
 hh:Bool
 hst:jA
 pth:jA
 hq:Bool
 qry:jA
 hf:Bool
 frg:jA
def UV.l(u:UV):UL:=⟨u.sch.data.toList,u.hh,u.hst.data.toList,u.pth.data.toList,u.hq,u.qry.data.toList,u.hf,u.frg.data.toList⟩
def UV.v(u:UV):Value:=.agg (jU u.sch u.hh u.hst u.pth u.hq u.qry u.hf u.frg)
def ofL(l:UL):UV:=⟨⟨l.sch.toArray⟩,l.hh,⟨l.hst.toArray⟩,⟨l.pth.toArray⟩,l.hq,⟨l.qry.toArray⟩,l.hf,⟨l.frg.toArray⟩⟩
theorem aLP(l:UL):(ofL l).l=l:=rfl
def UV.short(n:Nat)(u:UV):Prop:=u.sch.size<=n/\u.hst.size<=n/\u.pth.size<=n/\u.qry.size<=n/\u.frg.size<=n
theorem aE7(a b:jA):(a++b).data.toList=a.data.toList++b.data.toList:=by simp
theorem aRi{a b:jA}(h:a.data.toList=b.data.toList):Ending.returned (.string a)=.returned (.string b):=by rw[aCx h]
theorem aC0(s:jA)(h:s.data.toList≠[]):s.toList.isEmpty=false:=by
 rw[jj]
 cases b:s.data.toList with
 |nil=>exact absurd b h
 |cons a l=>rfl
theorem aC2(s:jA)(h:s.data.toList=[]):s=jz:=by
 apply jbv;apply jbj.1;exact h
theorem aR9(hst pth qry a:jA):aR7 (UV.l ⟨jz,false,hst,pth,false,qry,false,a⟩)=(pth.data.toList++([]++[])):=by
 rfl
theorem aR8(hst pth qry a T:jA)(_h2:hst.size<=1000)(_h3:pth.size<=1000)(_h4:qry.size<=1000)(_h5:a.size<=1000)(b:T.data.toList=aR7 (UV.l ⟨jz,false,hst,pth,false,qry,false,a⟩))(w:World):
  Calls prog 98 #[.agg (jU jz false hst pth false qry false a)] w (jG (.string T) w):=by
 have c:Hid _:=b
 clear b
 go_enter func98,ntmps98
 go_wp2
 go_ret
 refine⟨aRi ?_,ja _ _⟩
 rw[c.out,aR9 hst pth qry a]
 simp only[aE7]
 simp
theorem aSb(hst pth qry a:jA):aR7 (UV.l ⟨jz,false,hst,pth,false,qry,true,a⟩)=pth.data.toList++((35::a.data.toList)):=by
 rfl
theorem aSa(hst pth qry a T:jA)(_h2:hst.size<=1000)(_h3:pth.size<=1000)(_h4:qry.size<=1000)(_h5:a.size<=1000)(b:T.data.toList=aR7 (UV.l ⟨jz,false,hst,pth,false,qry,true,a⟩))(w:World):
  Calls prog 98 #[.agg (jU jz false hst pth false qry true a)] w (jG (.string T) w):=by
 have c:Hid _:=b
 clear b
 go_enter func98,ntmps98
 go_wp2
 go_ret
 refine⟨aRi ?_,ja _ _⟩
 rw[c.out,aSb hst pth qry a]
 simp only[aE7]
 simp
theorem aSd(hst pth qry a:jA):aR7 (UV.l ⟨jz,false,hst,pth,true,qry,false,a⟩)=pth.data.toList++((63::(qry.data.toList++[]))):=by
 rfl
theorem aSc(hst pth qry a T:jA)(_h2:hst.size<=1000)(_h3:pth.size<=1000)(_h4:qry.size<=1000)(_h5:a.size<=1000)(b:T.data.toList=aR7 (UV.l ⟨jz,false,hst,pth,true,qry,false,a⟩))(w:World):
  Calls prog 98 #[.agg (jU jz false hst pth true qry false a)] w (jG (.string T) w):=by
 have c:Hid _:=b
 clear b
 go_enter func98,ntmps98
 go_wp2
 go_ret
 refine⟨aRi ?_,ja _ _⟩
 rw[c.out,aSd hst pth qry a]
 simp only[aE7]
 simp
theorem aSf(hst pth qry a:jA):aR7 (UV.l ⟨jz,false,hst,pth,true,qry,true,a⟩)=pth.data.toList++((63::qry.data.toList)++((35::a.data.toList))):=by
 rfl
theorem aSe(hst pth qry a T:jA)(_h2:hst.size<=1000)(_h3:pth.size<=1000)(_h4:qry.size<=1000)(_h5:a.size<=1000)(b:T.data.toList=aR7 (UV.l ⟨jz,false,hst,pth,true,qry,true,a⟩))(w:World):
  Calls prog 98 #[.agg (jU jz false hst pth true qry true a)] w (jG (.string T) w):=by
 have c:Hid _:=b
 clear b
 go_enter func98,ntmps98
 go_wp2
 go_ret
 refine⟨aRi ?_,ja _ _⟩
 rw[c.out,aSf hst pth qry a]
 simp only[aE7]
 simp
theorem aSh(hst pth qry a:jA):aR7 (UV.l ⟨jz,true,hst,pth,false,qry,false,a⟩)=([47,47]++hst.data.toList)++((pth.data.toList++([]++[]))):=by
 rfl
theorem aSg(hst pth qry a T:jA)(_h2:hst.size<=1000)(_h3:pth.size<=1000)(_h4:qry.size<=1000)(_h5:a.size<=1000)(b:T.data.toList=aR7 (UV.l ⟨jz,true,hst,pth,false,qry,false,a⟩))(w:World):
  Calls prog 98 #[.agg (jU jz true hst pth false qry false a)] w (jG (.string T) w):=by
 have c:Hid _:=b
 clear b
 go_enter func98,ntmps98
 go_wp2
 go_ret
 refine⟨aRi ?_,ja _ _⟩
 rw[c.out,aSh hst pth qry a]
 simp only[aE7]
 simp
theorem aSj(hst pth qry a:jA):aR7 (UV.l ⟨jz,true,hst,pth,false,qry,true,a⟩)=([47,47]++hst.data.toList)++(pth.data.toList++((35::a.data.toList))):=by
 rfl
theorem aSi(hst pth qry a T:jA)(_h2:hst.size<=1000)(_h3:pth.size<=1000)(_h4:qry.size<=1000)(_h5:a.size<=1000)(b:T.data.toList=aR7 (UV.l ⟨jz,true,hst,pth,false,qry,true,a⟩))(w:World):
  Calls prog 98 #[.agg (jU jz true hst pth false qry true a)] w (jG (.string T) w):=by
 have c:Hid _:=b
 clear b
 go_enter func98,ntmps98
 go_wp2
 go_ret
 refine⟨aRi ?_,ja _ _⟩
 rw[c.out,aSj hst pth qry a]
 simp only[aE7]
 simp
theorem aSl(hst pth qry a:jA):aR7 (UV.l ⟨jz,true,hst,pth,true,qry,false,a⟩)=([47,47]++hst.data.toList)++(pth.data.toList++((63::(qry.data.toList++[])))):=by
 rfl
theorem aSk(hst pth qry a T:jA)(_h2:hst.size<=1000)(_h3:pth.size<=1000)(_h4:qry.size<=1000)(_h5:a.size<=1000)(b:T.data.toList=aR7 (UV.l ⟨jz,true,hst,pth,true,qry,false,a⟩))(w:World):
  Calls prog 98 #[.agg (jU jz true hst pth true qry false a)] w (jG (.string T) w):=by
 have c:Hid _:=b
 clear b
 go_enter func98,ntmps98
 go_wp2
 go_ret
 refine⟨aRi ?_,ja _ _⟩
 rw[c.out,aSl hst pth qry a]
 simp only[aE7]
 simp
theorem aSn(hst pth qry a:jA):aR7 (UV.l ⟨jz,true,hst,pth,true,qry,true,a⟩)=([47,47]++hst.data.toList)++(pth.data.toList++((63::qry.data.toList)++((35::a.data.toList)))):=by
 rfl
theorem aSm(hst pth qry a T:jA)(_h2:hst.size<=1000)(_h3:pth.size<=1000)(_h4:qry.size<=1000)(_h5:a.size<=1000)(b:T.data.toList=aR7 (UV.l ⟨jz,true,hst,pth,true,qry,true,a⟩))(w:World):
  Calls prog 98 #[.agg (jU jz true hst pth true qry true a)] w (jG (.string T) w):=by
 have c:Hid _:=b
 clear b
 go_enter func98,ntmps98
 go_wp2
 go_ret
 refine⟨aRi ?_,ja _ _⟩
 rw[c.out,aSn hst pth qry a]
 simp only[aE7]
 simp
theorem aSp(c hst pth qry d:jA)(g:c.data.toList≠[]):aR7 (UV.l ⟨c,false,hst,pth,false,qry,false,d⟩)=(c.data.toList++[58])++((pth.data.toList++([]++[]))):=by
 have f:c.data.toList.isEmpty=false:=by
  cases i:c.data.toList with
  |nil=>exact absurd i g
  |cons a b=>rfl
 unfold aR7 UV.l
 simp only
 rw[f]
 rfl
theorem aSo(a hst pth qry b T:jA)(c:a.data.toList≠[])(_h1:a.size<=1000)(_h2:hst.size<=1000)(_h3:pth.size<=1000)(_h4:qry.size<=1000)(_h5:b.size<=1000)(d:T.data.toList=aR7 (UV.l ⟨a,false,hst,pth,false,qry,false,b⟩))(w:World):
  Calls prog 98 #[.agg (jU a false hst pth false qry false b)] w (jG (.string T) w):=by
 have f:Hid _:=d
 have g:=aC0 a c
 clear d
 go_enter func98,ntmps98
 go_wp2
 go_ret
 refine⟨aRi ?_,ja _ _⟩
 rw[f.out,aSp a hst pth qry b c]
 simp only[aE7]
 simp
theorem aSr(c hst pth qry d:jA)(g:c.data.toList≠[]):aR7 (UV.l ⟨c,false,hst,pth,false,qry,true,d⟩)=(c.data.toList++[58])++(pth.data.toList++((35::d.data.toList))):=by
 have f:c.data.toList.isEmpty=false:=by
  cases i:c.data.toList with
  |nil=>exact absurd i g
  |cons a b=>rfl
 unfold aR7 UV.l
 simp only
 rw[f]
 rfl
theorem aSq(a hst pth qry b T:jA)(c:a.data.toList≠[])(_h1:a.size<=1000)(_h2:hst.size<=1000)(_h3:pth.size<=1000)(_h4:qry.size<=1000)(_h5:b.size<=1000)(d:T.data.toList=aR7 (UV.l ⟨a,false,hst,pth,false,qry,true,b⟩))(w:World):
  Calls prog 98 #[.agg (jU a false hst pth false qry true b)] w (jG (.string T) w):=by
 have f:Hid _:=d
 have g:=aC0 a c
 clear d
 go_enter func98,ntmps98
 go_wp2
 go_ret
 refine⟨aRi ?_,ja _ _⟩
 rw[f.out,aSr a hst pth qry b c]
 simp only[aE7]
 simp
theorem aSt(c hst pth qry d:jA)(g:c.data.toList≠[]):aR7 (UV.l ⟨c,false,hst,pth,true,qry,false,d⟩)=(c.data.toList++[58])++(pth.data.toList++((63::(qry.data.toList++[])))):=by
 have f:c.data.toList.isEmpty=false:=by
  cases i:c.data.toList with
  |nil=>exact absurd i g
  |cons a b=>rfl
 unfold aR7 UV.l
 simp only
 rw[f]
 rfl
theorem aSs(a hst pth qry b T:jA)(c:a.data.toList≠[])(_h1:a.size<=1000)(_h2:hst.size<=1000)(_h3:pth.size<=1000)(_h4:qry.size<=1000)(_h5:b.size<=1000)(d:T.data.toList=aR7 (UV.l ⟨a,false,hst,pth,true,qry,false,b⟩))(w:World):
  Calls prog 98 #[.agg (jU a false hst pth true qry false b)] w (jG (.string T) w):=by
 have f:Hid _:=d
 have g:=aC0 a c
 clear d
 go_enter func98,ntmps98
 go_wp2
 go_ret
 refine⟨aRi ?_,ja _ _⟩
 rw[f.out,aSt a hst pth qry b c]
 simp only[aE7]
 simp
theorem aSw(c hst pth qry d:jA)(g:c.data.toList≠[]):aR7 (UV.l ⟨c,false,hst,pth,true,qry,true,d⟩)=(c.data.toList++[58])++(pth.data.toList++((63::qry.data.toList)++((35::d.data.toList)))):=by
 have f:c.data.toList.isEmpty=false:=by
  cases i:c.data.toList with
  |nil=>exact absurd i g
  |cons a b=>rfl
 unfold aR7 UV.l
 simp only
 rw[f]
 rfl
theorem aSv(a hst pth qry b T:jA)(c:a.data.toList≠[])(_h1:a.size<=1000)(_h2:hst.size<=1000)(_h3:pth.size<=1000)(_h4:qry.size<=1000)(_h5:b.size<=1000)(d:T.data.toList=aR7 (UV.l ⟨a,false,hst,pth,true,qry,true,b⟩))(w:World):
  Calls prog 98 #[.agg (jU a false hst pth true qry true b)] w (jG (.string T) w):=by
 have f:Hid _:=d
 have g:=aC0 a c
 clear d
 go_enter func98,ntmps98
 go_wp2
 go_ret
 refine⟨aRi ?_,ja _ _⟩
 rw[f.out,aSw a hst pth qry b c]
 simp only[aE7]
 simp
theorem aSy(c hst pth qry d:jA)(g:c.data.toList≠[]):aR7 (UV.l ⟨c,true,hst,pth,false,qry,false,d⟩)=(c.data.toList++[58])++(([47,47]++hst.data.toList)++((pth.data.toList++([]++[])))):=by
 have f:c.data.toList.isEmpty=false:=by
  cases i:c.data.toList with
  |nil=>exact absurd i g
  |cons a b=>rfl
 unfold aR7 UV.l
 simp only
 rw[f]
 rfl
theorem aSx(a hst pth qry b T:jA)(c:a.data.toList≠[])(_h1:a.size<=1000)(_h2:hst.size<=1000)(_h3:pth.size<=1000)(_h4:qry.size<=1000)(_h5:b.size<=1000)(d:T.data.toList=aR7 (UV.l ⟨a,true,hst,pth,false,qry,false,b⟩))(w:World):
  Calls prog 98 #[.agg (jU a true hst pth false qry false b)] w (jG (.string T) w):=by
 have f:Hid _:=d
 have g:=aC0 a c
 clear d
 go_enter func98,ntmps98
 go_wp2
 go_ret
 refine⟨aRi ?_,ja _ _⟩
 rw[f.out,aSy a hst pth qry b c]
 simp only[aE7]
 simp
theorem aSA(c hst pth qry d:jA)(g:c.data.toList≠[]):aR7 (UV.l ⟨c,true,hst,pth,false,qry,true,d⟩)=(c.data.toList++[58])++(([47,47]++hst.data.toList)++(pth.data.toList++((35::d.data.toList)))):=by
 have f:c.data.toList.isEmpty=false:=by
  cases i:c.data.toList with
  |nil=>exact absurd i g
  |cons a b=>rfl
 unfold aR7 UV.l
 simp only
 rw[f]
 rfl
theorem aSz(a hst pth qry b T:jA)(c:a.data.toList≠[])(_h1:a.size<=1000)(_h2:hst.size<=1000)(_h3:pth.size<=1000)(_h4:qry.size<=1000)(_h5:b.size<=1000)(d:T.data.toList=aR7 (UV.l ⟨a,true,hst,pth,false,qry,true,b⟩))(w:World):
  Calls prog 98 #[.agg (jU a true hst pth false qry true b)] w (jG (.string T) w):=by
 have f:Hid _:=d
 have g:=aC0 a c
 clear d
 go_enter func98,ntmps98
 go_wp2
 go_ret
 refine⟨aRi ?_,ja _ _⟩
 rw[f.out,aSA a hst pth qry b c]
 simp only[aE7]
 simp
theorem aSC(c hst pth qry d:jA)(g:c.data.toList≠[]):aR7 (UV.l ⟨c,true,hst,pth,true,qry,false,d⟩)=(c.data.toList++[58])++(([47,47]++hst.data.toList)++(pth.data.toList++((63::(qry.data.toList++[]))))):=by
 have f:c.data.toList.isEmpty=false:=by
  cases i:c.data.toList with
  |nil=>exact absurd i g
  |cons a b=>rfl
 unfold aR7 UV.l
 simp only
 rw[f]
 rfl
theorem aSB(a hst pth qry b T:jA)(c:a.data.toList≠[])(_h1:a.size<=1000)(_h2:hst.size<=1000)(_h3:pth.size<=1000)(_h4:qry.size<=1000)(_h5:b.size<=1000)(d:T.data.toList=aR7 (UV.l ⟨a,true,hst,pth,true,qry,false,b⟩))(w:World):
  Calls prog 98 #[.agg (jU a true hst pth true qry false b)] w (jG (.string T) w):=by
 have f:Hid _:=d
 have g:=aC0 a c
 clear d
 go_enter func98,ntmps98
 go_wp2
 go_ret
 refine⟨aRi ?_,ja _ _⟩
 rw[f.out,aSC a hst pth qry b c]
 simp only[aE7]
 simp
theorem aSE(c hst pth qry d:jA)(g:c.data.toList≠[]):aR7 (UV.l ⟨c,true,hst,pth,true,qry,true,d⟩)=(c.data.toList++[58])++(([47,47]++hst.data.toList)++(pth.data.toList++((63::qry.data.toList)++((35::d.data.toList))))):=by
 have f:c.data.toList.isEmpty=false:=by
  cases i:c.data.toList with
  |nil=>exact absurd i g
  |cons a b=>rfl
 unfold aR7 UV.l
 simp only
 rw[f]
 rfl
theorem aSD(a hst pth qry b T:jA)(c:a.data.toList≠[])(_h1:a.size<=1000)(_h2:hst.size<=1000)(_h3:pth.size<=1000)(_h4:qry.size<=1000)(_h5:b.size<=1000)(d:T.data.toList=aR7 (UV.l ⟨a,true,hst,pth,true,qry,true,b⟩))(w:World):
  Calls prog 98 #[.agg (jU a true hst pth true qry true b)] w (jG (.string T) w):=by
 have f:Hid _:=d
 have g:=aC0 a c
 clear d
 go_enter func98,ntmps98
 go_wp2
 go_ret
 refine⟨aRi ?_,ja _ _⟩
 rw[f.out,aSE a hst pth qry b c]
 simp only[aE7]
 simp
theorem aUm(u:UV)(m:u.short 1000)(T:jA)(j:T.data.toList=aR7 u.l)(w:World):
  Calls prog 98 #[u.v] w (jG (.string T) w):=by
 obtain⟨b,hh,hst,pth,hq,qry,l,a⟩:=u
 obtain⟨k,d,f,g,i⟩:=m
 simp only at k d f g i
 by_cases c:b.data.toList=[]
 ·obtain rfl:=aC2 b c
  cases hh<;>cases hq<;>cases l
  ·exact aR8 hst pth qry a T d f g i j w
  ·exact aSa hst pth qry a T d f g i j w
  ·exact aSc hst pth qry a T d f g i j w
  ·exact aSe hst pth qry a T d f g i j w
  ·exact aSg hst pth qry a T d f g i j w
  ·exact aSi hst pth qry a T d f g i j w
  ·exact aSk hst pth qry a T d f g i j w
  ·exact aSm hst pth qry a T d f g i j w
 ·cases hh<;>cases hq<;>cases l
  ·exact aSo b hst pth qry a T c k d f g i j w
  ·exact aSq b hst pth qry a T c k d f g i j w
  ·exact aSs b hst pth qry a T c k d f g i j w
  ·exact aSv b hst pth qry a T c k d f g i j w
  ·exact aSx b hst pth qry a T c k d f g i j w
  ·exact aSz b hst pth qry a T c k d f g i j w
  ·exact aSB b hst pth qry a T c k d f g i j w
  ·exact aSD b hst pth qry a T c k d f g i j w
theorem aNQ(l:jB):Lib.hasPrefix l [47,47]=aNF l:=by
 match l with
 |[]=>rfl
 |[a]=>simp[Lib.hasPrefix,List.isPrefixOf,aNF]
 |a::b::r=>simp[Lib.hasPrefix,List.isPrefixOf,aNF,Bool.beq_comm]
theorem aTV(d hst pth qry b:jA)(hh hq g:Bool)(w:World):
  Calls prog 97 #[.agg (jU d hh hst pth hq qry g b)] w (jG (.bool (!hh&&aNF pth.data.toList)) w):=by
 cases hh with
 |true=>
  go_enter func97,ntmps97
  go_wp2
  go_ret
  exact⟨rfl,ja _ _⟩
 |false=>
  have C:=λw=>strings_HasPrefix pth ⟨#[47,47]⟩ w
  simp only[aNQ]at C
  have f:Hid (∀w,Calls prog 59 #[.string pth,.string ⟨#[47,47]⟩] w λe w'=>e=.returned (.bool (aNF pth.data.toList))/\w'=w):=C
  clear C
  generalize aNF pth.data.toList=V at*
  go_enter func97,ntmps97
  go_wp2_with fail
  refine(f.out _).mono ?_
  rintro e w' ⟨rfl,c⟩
  have a:=c.symm
  subst a
  clear f
  go_wp2
  go_ret
  exact⟨by simp,ja _ _⟩
theorem aRk{s:jA}{l:jB}(h:s.data.toList=l):Value.string s=.string ⟨l.toArray⟩:=by
 subst h
 rfl
theorem aCz(t:jA)(n:Nat)(h:t.size=n+1):∃(c:UInt8) (t8:jA),t[n]=c/\t.extract 0 n=t8/\t8.size=n/\t.data.toList=t8.data.toList++[c]:=by
 have a:t.data.toList.length=n+1:=by rw[jbs];exact h
 refine⟨_,_,rfl,rfl,?_,?_⟩
 ·rw[Lib.size_eq,Lib.extract_data,jF];simp;omega
 ·rw[Lib.extract_data,jbc,Nat.sub_zero]
  conv=>lhs;rw[<-jaq n t.data.toList]
  rw[jE (by omega),jC (by omega)]
  rfl
theorem aCw(t:jA)(n:Nat)(h:t.size=n+1):∃(c:UInt8) (t8:jA),t[0]=c/\t.extract 1 (n+1)=t8/\t8.size=n/\t.data.toList=c::t8.data.toList:=by
 have a:t.data.toList.length=n+1:=by rw[jbs];exact h
 refine⟨_,_,rfl,rfl,?_,?_⟩
 ·rw[Lib.size_eq,Lib.extract_data,jF];simp;omega
 ·rw[Lib.extract_data,jK (by rw[jH];omega)]
  conv=>lhs;rw[<-jbc (l:=t.data.toList),jE (by omega)]
  rfl
theorem aVr(w:World):(zeroValue 152).run prog w=.ok (.agg (Array.replicate 256 (.bool false))) w:=by kernel_rfl
theorem aIx(g:Nat)(c:UInt8)(a:Int)(e:a=(c.toNat:Int))(v:Bool)(w:World)(b:w.cell? (jx g c.toNat)=some (.bool v)):
  Calls prog 161 #[.pointer (some (jx g 0)),.int .u8 a] w λe w'=>e=.returned (.bool v)/\w'=w:=by
 subst e
 have:=c.toNat_lt
 go_enter func161,ntmps161
 go_wp2
 go_ret
 exact⟨rfl,rfl⟩
end Go.Proofs.YtbbfcbodhmeanaaGreatDoor
