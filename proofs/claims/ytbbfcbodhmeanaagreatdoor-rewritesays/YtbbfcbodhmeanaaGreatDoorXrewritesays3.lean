import Derived.Test.YtbbfcbodhmeanaaGreatDoorXrewritesays2
import Derived.Laws.RangeString
import Derived.Lib.TrimU
set_option maxHeartbeats 8000000
set_option maxRecDepth 1000000
namespace Go.Proofs.YtbbfcbodhmeanaaGreatDoor
open Go.Proofs.Tryz
open Go.RowKit
theorem aS3(c:UInt8)(w:World):Calls prog 199 #[.int .u8 (c.toNat:Int)] w λe w'=>e=.returned (.bool (inB 33 126 aQ0 c))/\w'=w:=by
 by_cases l:33<=c.toNat
 ·have g:(33:Int)<=(c.toNat:Int):=by omega
  by_cases m:c.toNat<=126
  ·have j:(c.toNat:Int)<=126:=by omega
   have a:Hid (inB 33 126 aQ0 c=!aQ0.contains c):=by unfold Hid inB;simp only[l,m];simp
   have b:∀i:Int,decide (0<=i)=aQ0.contains c->decide (i<0)=!aQ0.contains c:=by
    intro i h;rw[<-h];by_cases f:0<=i<;>simp[f]<;>omega
   go_enter func199,ntmps199
   go_wp2_with fail
   refine(aI5 _ aQ0 rfl c _ rfl _).mono ?_
   rintro e w' ⟨i,rfl,f,k⟩
   have d:=k.symm
   subst d
   have n:=b i f
   clear f b
   go_wp2
   go_ret
   exact⟨by rw[a.out];simp,rfl⟩
  ·have j:decide ((c.toNat:Int)<=126)=false:=by simp;omega
   have a:Hid (inB 33 126 aQ0 c=false):=by unfold Hid inB;simp only[m];simp
   go_enter func199,ntmps199
   go_wp2
   go_ret
   exact⟨by rw[a.out];rfl,rfl⟩
 ·have g:decide ((33:Int)<=(c.toNat:Int))=false:=by simp;omega
  have a:Hid (inB 33 126 aQ0 c=false):=by unfold Hid inB;simp only[l];simp
  go_enter func199,ntmps199
  go_wp2
  go_ret
  exact⟨by rw[a.out];rfl,rfl⟩
def aBO(p:UInt8->Bool)(l:jB):Bool:=l.all p
theorem aBP(p:UInt8->Bool)(c:UInt8)(l:jB):aBO p (c::l)=(p c&&aBO p l):=rfl
def aS1:UInt8->Bool:=inB 33 126 aQ0
theorem aF3(s:jA)(w:World)(l:s.size<=1000000):
  Calls prog 198 #[.string s,.func (Fn.func 199) #[] #[]] w λe w'=>e=.returned (.bool (aBO aS1 s.data.toList))/\w'=w:=by
 go_enter func198,ntmps198
 go_wp2
 go_loop [8] (λiv=>∃k:Nat,k<=s.size/\iv=.int .i64 k/\Hid (aBO aS1 (s.data.toList.drop k)=aBO aS1 s.data.toList)) (λiv=>s.size-(intOf iv).toNat)
 case atStart=>exact⟨0,jy _,rfl,rfl⟩
 case round=>
  obtain⟨k,j,rfl,d⟩:=hrel
  by_cases i:k<s.size
  ·have b:Hid (aBO aS1 (s.data.toList.drop k)=(aS1 s[k]&&aBO aS1 (s.data.toList.drop (k+1)))):=by unfold Hid;rw[aFs s k i,aBP]
   cases f:aS1 s[k]
   ·have g:Hid (aBO aS1 s.data.toList=false):=by unfold Hid;rw[<-d.out,b.out,f];rfl
    have C:Hid (∀w,Calls prog 199 #[.int .u8 (s[k].toNat:Int)] w λe w'=>e=.returned (.bool false)/\w'=w):=by intro w;rw[<-f];exact aS3 _ w
    clear b d f
    go_wp2_with fail
    refine(C.out _).mono ?_
    rintro e w' ⟨rfl,c⟩
    have a:=c.symm
    subst a
    go_wp2
    go_ret
    exact⟨by rw[g.out];rfl,rfl⟩
   ·have g:Hid (aBO aS1 (s.data.toList.drop (k+1))=aBO aS1 s.data.toList):=by unfold Hid;rw[<-d.out,b.out,f];rfl
    have C:Hid (∀w,Calls prog 199 #[.int .u8 (s[k].toNat:Int)] w λe w'=>e=.returned (.bool true)/\w'=w):=by intro w;rw[<-f];exact aS3 _ w
    clear b d f
    go_wp2_with fail
    refine(C.out _).mono ?_
    rintro e w' ⟨rfl,c⟩
    have a:=c.symm
    subst a
    go_wp2
    go_round
    case rel=>exact⟨k+1,by omega,by go_num,g⟩
    case measure=>simp[intOf];omega
  ·obtain rfl:k=s.size:=by omega
   have g:Hid (aBO aS1 s.data.toList=true):=by
    unfold Hid
    rw[<-d.out,jC (by rw[<-Lib.size_eq];exact jf _)];rfl
   clear d
   go_wp2
   go_ret
   exact⟨by rw[g.out];rfl,rfl⟩
theorem aIi(s:jA)(w:World)(k:s.size<=maxLen):
  Calls prog 166 #[.string s] w λe w'=>e=.returned (.bool (aS4 s.data.toList))/\w'=w:=by
 unfold maxLen at k
 have c:=Lib.size_eq s
 by_cases j:1<=s.size
 ·have m:s.toList.isEmpty=false:=by
   rw[jj]
   cases h:s.data.toList with
   |nil=>rw[h,jag]at c;omega
   |cons a b=>rfl
  by_cases l:s.size<=30
  ·have g:(s.size:Int)<=30:=by omega
   have f:Hid (aS4 s.data.toList=aBO aS1 s.data.toList):=by unfold Hid aS4 aC3 aBO aS1;rw[<-c];simp[j,l]
   clear c
   go_enter func166,ntmps166
   go_wp2_with fail
   refine(aF3 s _ (by omega)).mono ?_
   rintro e w' ⟨rfl,i⟩
   have d:=i.symm
   subst d
   go_wp2
   go_ret
   exact⟨by rw[f.out];rfl,rfl⟩
  ·have g:decide ((s.size:Int)<=30)=false:=by simp;omega
   have f:Hid (aS4 s.data.toList=false):=by unfold Hid aS4;rw[<-c];simp;omega
   clear c
   go_enter func166,ntmps166
   go_wp2
   go_ret
   exact⟨by rw[f.out];rfl,rfl⟩
 ·obtain rfl:s=jz:=by
   apply jbv;apply jbj.1;exact js.1 (by rw[<-c];omega)
  clear c j k
  go_enter func166,ntmps166
  go_wp2
  go_ret
  exact⟨rfl,rfl⟩
def aUV(d:UInt8)(l:jB):Int:=match aEM d l with|none=>-1|some x=>(x.1.length:Int)
theorem aUW{d:UInt8}{l:jB}(h:aEM d l=none):aUV d l=-1:=by rw[aUV,h]
theorem aUX{d:UInt8}{l:jB}{x:jB×jB}(h:aEM d l=some x):aUV d l=(x.1.length:Int):=by rw[aUV,h]
theorem aIz(d:UInt8):∀l:jB,Lib.indexByte l d=aUV d l
 |[]=>rfl
 |b::l=>by
  rw[Lib.indexByte,aIz d l]
  by_cases h:b=d
  ·subst h;simp[aUV,aEM]
  ·rw[jh (by simpa using h)]
   cases a:aEM d l with
   |none=>simp[aUV,aEM,h,a]
   |some x=>
    have c:¬((x.1.length:Int)==-1)=true:=by rw[jbp];omega
    simp only[aUV,aEM,a,h,jei,jcz,jm]
    rw[jh c]
    omega
theorem aCs(d:UInt8)(X:jA)(n v:jB)(h:X.data.toList=n++d::v):∃NM a:jA,X.extract 0 n.length=NM/\X.extract (n.length+1) X.size=a/\NM.data.toList=n/\a.data.toList=v/\X.size=n.length+1+v.length:=by
 have b:X.size=n.length+1+v.length:=by rw[Lib.size_eq,h];simp;omega
 have e1:(X.extract 0 n.length).data.toList=n:=by rw[Lib.extract_data,h];simp
 have c:(X.extract (n.length+1) X.size).data.toList=v:=by
  rw[Lib.extract_data,h,b,show n.length+1+v.length-(n.length+1)=v.length from by omega,<-jay]
  simp
 exact⟨_,_,rfl,rfl,e1,c,b⟩
theorem aCx{a b:jA}(h:a.data.toList=b.data.toList):a=b:=jbv (jbj.1 h)
theorem aKk(d:UInt8)(s:jA)(w:World)(h:aEM d s.data.toList=none):
  Calls prog 138 #[.string s,.string ⟨#[d]⟩] w λe w'=>e=.returned (.tuple #[.string s,.string jz,.bool false])/\w'=w:=by
 have C:=stringslite_Index_one s d w
 rw[aIz,aUW h]at C
 clear h
 have c:Hid (Calls prog 135 #[.string s,.string ⟨#[d]⟩] w λe w'=>e=.returned (.int .i64 (-1))/\w'=w):=C
 clear C
 go_enter func138,ntmps138
 go_wp2_with fail
 refine c.out.mono ?_
 rintro e w' ⟨rfl,b⟩
 have a:=b.symm
 subst a
 clear c
 go_wp2
 go_ret3
 exact⟨rfl,rfl⟩
theorem aKl(d:UInt8)(s a r:jA)(w:World)(t:s.size<=9223372036854775807)(h:aEM d s.data.toList=some (a.data.toList,r.data.toList)):
  Calls prog 138 #[.string s,.string ⟨#[d]⟩] w (jG (.tuple #[.string a,.string r,.bool true]) w):=by
 have C:=stringslite_Index_one s d w
 rw[aIz,aUX h]at C
 simp only at C
 obtain⟨A,R,l,m,g,i,j⟩:=aCs d s _ _ (aEO d _ _ _ h).1
 have n:=aCx g
 have q:=aCx i
 subst n q
 obtain⟨I,k⟩:∃I,I=A.data.toList.length:=⟨_,rfl⟩
 rw[<-k]at C l m j
 have o:(I:Int)<(s.size:Int):=by omega
 have p:(I:Int)+1<=(s.size:Int):=by omega
 have f:Hid (Calls prog 135 #[.string s,.string ⟨#[d]⟩] w λe w'=>e=.returned (.int .i64 (I:Int))/\w'=w):=C
 clear C h g i j k
 go_enter func138,ntmps138
 go_wp2_with fail
 refine f.out.mono ?_
 rintro e w' ⟨rfl,c⟩
 have b:=c.symm
 subst b
 clear f
 go_wp2
 go_region
 go_wp2
 go_ret3
 exact⟨rfl,(jr _ _).drew⟩
theorem aEZ(d:UInt8)(s:jA)(w:World)(h:aEM d s.data.toList=none):
  Calls prog 89 #[.string s,.string ⟨#[d]⟩] w (jG (.tuple #[.string s,.string jz,.bool false]) w):=by
 have c:Hid (Calls prog 138 #[.string s,.string ⟨#[d]⟩] w λe w'=>e=.returned (.tuple #[.string s,.string jz,.bool false])/\w'=w):=aKk d s w h
 clear h
 go_enter func89,ntmps89
 go_wp2_with fail
 refine c.out.mono ?_
 rintro e w' ⟨rfl,b⟩
 have a:=b.symm
 subst a
 clear c
 go_wp2
 go_ret3
 exact⟨rfl,jr _ _⟩
theorem aE2(d:UInt8)(s a r:jA)(w:World)(f:s.size<=9223372036854775807)(h:aEM d s.data.toList=some (a.data.toList,r.data.toList)):
  Calls prog 89 #[.string s,.string ⟨#[d]⟩] w (jG (.tuple #[.string a,.string r,.bool true]) w):=by
 have b:Hid (Calls prog 138 #[.string s,.string ⟨#[d]⟩] w (jG (.tuple #[.string a,.string r,.bool true]) w)):=aKl d s a r w f h
 clear h
 go_enter func89,ntmps89
 go_wp2_with fail
 refine b.out.mono ?_
 rintro e w' ⟨rfl,c⟩
 clear b
 go_wp2
 go_ret3
 exact⟨rfl,c⟩
theorem aE1(d:UInt8)(s a r:jA)(w:World)(b:s.size<=1000000000)(h:aEM d s.data.toList=some (a.data.toList,r.data.toList)):
  Calls prog 89 #[.string s,.string ⟨#[d]⟩] w (jG (.tuple #[.string a,.string r,.bool true]) w):=
 aE2 d s a r w (by omega) h
theorem aE0{d:UInt8}{s:jA}{x:jB×jB}(h:aEM d s.data.toList=some x):∃a r:jA,x=(a.data.toList,r.data.toList)/\s.size=a.size+1+r.size:=by
 refine⟨⟨x.1.toArray⟩,⟨x.2.toArray⟩,rfl,?_⟩
 have e:=(aEO d s.data.toList x.1 x.2 h).1
 rw[Lib.size_eq,e,Lib.size_eq,Lib.size_eq]
 simp only[je,jm]
 omega
def upR(x:Nat):Bool:=decide (65<=x)&&decide (x<=90)
def aCE(x:Nat):Bool:=decide (x<33)||decide (126<x)||decide (x=34)||decide (x=60)||decide (x=62)
theorem aT8(x:Nat)(f:x<=1114111)(w:World):
  Calls prog 197 #[.int .i32 (x:Int)] w λe w'=>e=.returned (.bool (upR x))/\∃q,w'=w.drewN q:=by
 by_cases c:65<=x
 ·have e1:(65:Int)<=(x:Int):=by omega
  by_cases d:x<=90
  ·have b:(x:Int)<=90:=by omega
   have a:Hid (upR x=true):=by unfold Hid upR;simp[c,d]
   go_enter func197,ntmps197
   go_wp2
   go_ret
   exact⟨by rw[a.out];rfl,0,rfl⟩
  ·have b:decide ((x:Int)<=90)=false:=by simp;omega
   have a:Hid (upR x=false):=by unfold Hid upR;simp;omega
   go_enter func197,ntmps197
   go_wp2
   go_ret
   exact⟨by rw[a.out];rfl,0,rfl⟩
 ·have e1:decide ((65:Int)<=(x:Int))=false:=by simp;omega
  have a:Hid (upR x=false):=by unfold Hid upR;simp;omega
  go_enter func197,ntmps197
  go_wp2
  go_ret
  exact⟨by rw[a.out];rfl,0,rfl⟩
theorem aCF(x:Nat)(i:x<=1114111)(w:World):
  Calls prog 200 #[.int .i32 (x:Int)] w λe w'=>e=.returned (.bool (aCE x))/\∃q,w'=w.drewN q:=by
 have a:Hid (aCE x=(decide ((x:Int)<33)||decide (126<(x:Int))||decide ((x:Int)=34)||decide ((x:Int)=60)||decide ((x:Int)=62))):=by
  unfold Hid aCE
  have b:decide ((x:Int)<33)=decide (x<33):=jar.2 (by omega)
  have c:decide (126<(x:Int))=decide (126<x):=jar.2 (by omega)
  have d:decide ((x:Int)=34)=decide (x=34):=jar.2 (by omega)
  have f:decide ((x:Int)=60)=decide (x=60):=jar.2 (by omega)
  have g:decide ((x:Int)=62)=decide (x=62):=jar.2 (by omega)
  rw[b,c,d,f,g]
 go_enter func200,ntmps200
 go_wp2
 all_goals (
  go_ret
  refine⟨aO8 ?_,0,rfl⟩
  rw[a.out,jW]
  simp
  try omega)
theorem aE9(s:jA)(pos:Nat)(h:128<=(s.get! pos).toNat):128<=(Utf8.decode s pos).1:=by
 rw[Lib.decode_at]
 have a:=jem (s.get! pos)
 generalize (s.get! pos).toNat=b0 at*
 unfold Lib.decodeN
 repeat' split
 all_goals (simp only;omega)
theorem aIp(p:Nat->Bool)(s:jA)(b:(∀x,128<=x->p x=true)\/∀c∈s.data.toList,c.toNat<128):∀(f pos:Nat),s.size<=pos+f->decide (0<=Lib.idxFuncFrom p true s f pos)=(s.data.toList.drop pos).any (λc=>p c.toNat)
 |0,pos,h=>by
  rw[List.drop_eq_nil_of_le (by rw[<-Lib.size_eq];omega)];rfl
 |f+1,pos,h=>by
  rw[Lib.idxFuncFrom]
  by_cases a:pos<s.size
  ·rw[jo a]
   have g:pos<s.data.toList.length:=by rw[<-Lib.size_eq];exact a
   rw[jE g,List.any_cons]
   have e:s.data.toList[pos]=s[pos]'a:=rfl
   have i:s.get! pos=s[pos]'a:=by simp[ByteArray.get!,getElem!_pos,a];rfl
   rw[e]
   by_cases d:(s[pos]'a).toNat<128
   ·rw[decode_ascii s pos a d]
    cases hq:p (s[pos]'a).toNat with
    |true=>simp
    |false=>
     simp only[jdw,jei,jcg]
     exact aIp p s b f (pos+1) (by omega)
   ·rcases b with b|b
    ·rw[jo (b _ (aE9 s pos (by rw[i];omega))),b _ (by omega)]
     simp
    ·exact absurd (b _ (e▸jQ g)) d
  ·rw[jh a,List.drop_eq_nil_of_le (by rw[<-Lib.size_eq];omega)];rfl
theorem aUb(s:jA)(a:∀c∈s.data.toList,c.toNat<128)(w:World):
  Calls prog 118 #[.string s,.func (Fn.func 197) #[] #[]] w (jG (.bool (s.data.toList.any λc=>upR c.toNat)) w):=by
 refine(strings_ContainsFunc_runes 197 #[] (enters_of func197 (by kernel_rfl) rfl) upR s w (λW x d _=>aT8 x d W)).mono ?_
 rintro e w' ⟨rfl,b⟩
 refine⟨?_,b⟩
 rw[show Lib.idxFunc upR true s=Lib.idxFuncFrom upR true s s.size 0 from rfl,aIp upR s (.inr a) s.size 0 (by omega)]
 rfl
theorem aCH(s:jA)(w:World):
  Calls prog 118 #[.string s,.func (Fn.func 200) #[] #[]] w (jG (.bool (s.data.toList.any λc=>aCE c.toNat)) w):=by
 refine(strings_ContainsFunc_runes 200 #[] (enters_of func200 (by kernel_rfl) rfl) aCE s w (λW x a _=>aCF x a W)).mono ?_
 rintro e w' ⟨rfl,b⟩
 refine⟨?_,b⟩
 rw[show Lib.idxFunc aCE true s=Lib.idxFuncFrom aCE true s s.size 0 from rfl,aIp aCE s (.inl λx a=>by unfold aCE;simp;omega) s.size 0 (by omega)]
 rfl
theorem aB1(l:jB):(!(l.any λc=>aCE c.toNat))=l.all aVd:=by
 rw[List.not_any_eq_all_not]
 congr 1
 funext c
 have a:(c==34)=decide (c.toNat=34):=by rw[jW];simp[<-UInt8.toNat_inj]
 have b:(c==60)=decide (c.toNat=60):=by rw[jW];simp[<-UInt8.toNat_inj]
 have d:(c==62)=decide (c.toNat=62):=by rw[jW];simp[<-UInt8.toNat_inj]
 unfold aCE aVd inB
 simp only[jbt,List.contains_nil,Bool.or_false,a,b,d]
 rw[jW]
 simp
 omega
theorem aNx(s:jA)(w:World):
  Calls prog 18 #[.string s] w λe w'=>e=.returned (.bool (aK5 s.data.toList))/\w'=w:=by
 have C:Hid (∀w,Calls prog 59 #[.string s,.string ⟨#[109,117,108,116,105,112,97,114,116,47]⟩] w λe w'=>e=.returned (.bool (aK5 s.data.toList))/\w'=w):=λw=>by
  refine(strings_HasPrefix s ⟨#[109,117,108,116,105,112,97,114,116,47]⟩ w).mono ?_
  rintro e w' ⟨rfl,rfl⟩
  exact⟨rfl,rfl⟩
 generalize aK5 s.data.toList=V at*
 go_enter func18,ntmps18
 go_wp2_with fail
 refine(C.out _).mono ?_
 rintro e w' ⟨rfl,b⟩
 have a:=b.symm
 subst a
 go_wp2
 go_ret
 exact⟨rfl,rfl⟩
theorem aOq(s:jA)(w:World)(i:s.size<=maxLen):
  Calls prog 167 #[.string s] w (jG (.bool (aVe s.data.toList)) w):=by
 unfold maxLen at i
 have a:=Lib.size_eq s
 by_cases f:s.size<=120
 ·have d:(s.size:Int)<=120:=by omega
  have b:Hid (aVe s.data.toList=!(s.data.toList.any λc=>aCE c.toNat)):=by unfold Hid aVe;rw[aB1,<-a];simp[f]
  have C:Hid (∀w,Calls prog 118 #[.string s,.func (Fn.func 200) #[] #[]] w (jG (.bool (s.data.toList.any λc=>aCE c.toNat)) w)):=λw=>aCH s w
  generalize (s.data.toList.any λc=>aCE c.toNat)=V at*
  clear a
  go_enter func167,ntmps167
  go_wp2_with fail
  refine(C.out _).mono ?_
  rintro e w' ⟨rfl,g⟩
  go_wp2
  go_ret
  exact⟨by rw[b.out];cases V<;>rfl,g⟩
 ·have d:decide ((s.size:Int)<=120)=false:=by simp;omega
  have b:Hid (aVe s.data.toList=false):=by unfold Hid aVe;rw[<-a];simp;omega
  clear a
  go_enter func167,ntmps167
  go_wp2
  go_ret
  exact⟨by rw[b.out];rfl,jr _ _⟩
theorem aS2(l:jB)(h:aS4 l=true):∀c∈l,c.toNat<128:=by
 intro c a
 unfold aS4 aC3 at h
 simp only[j7,jR]at h
 have:=h.2 c a
 unfold inB at this
 simp at this
 omega
theorem aNY(s:jA)(w:World)(E:s.size<=maxLen):
  Calls prog 165 #[.string s] w (jG (.bool (aTE s.data.toList)) w):=by
 unfold maxLen at E
 cases i:aEM 47 s.data.toList with
 |none=>
  have j:Hid (aTE s.data.toList=false):=by unfold Hid aTE;rw[i]
  have C:Hid (∀w,Calls prog 89 #[.string s,.string ⟨#[47]⟩] w (jG (.tuple #[.string s,.string jz,.bool false]) w)):=λw=>aEZ 47 s w i
  clear i
  go_enter func165,ntmps165
  go_wp2_with fail
  refine(C.out _).mono ?_
  rintro e w' ⟨rfl,g⟩
  go_wp2
  go_ret
  exact⟨by rw[j.out];rfl,g⟩
 |some x=>
  obtain⟨a,r,F,v⟩:=aE0 i
  subst F
  have C:Hid (∀w,Calls prog 89 #[.string s,.string ⟨#[47]⟩] w (jG (.tuple #[.string a,.string r,.bool true]) w)):=λw=>aE2 47 s a r w (by omega) i
  have o:Hid (aTE s.data.toList=(aS4 a.data.toList&&aS4 r.data.toList&&!s.data.toList.any (λc=>decide (65<=c.toNat)&&decide (c.toNat<=90)))):=by unfold Hid aTE;rw[i]
  have n:Hid (∀w,Calls prog 166 #[.string a] w λe w'=>e=.returned (.bool (aS4 a.data.toList))/\w'=w):=λw=>aIi a w (by unfold maxLen;omega)
  have p:Hid (∀w,Calls prog 166 #[.string r] w λe w'=>e=.returned (.bool (aS4 r.data.toList))/\w'=w):=λw=>aIi r w (by unfold maxLen;omega)
  have q:Hid (aS4 a.data.toList=true->aS4 r.data.toList=true->∀c∈s.data.toList,c.toNat<128):=λB D c y=>by
   rw[(aEO 47 _ _ _ i).1]at y
   rcases jY.1 y with h|h
   ·exact aS2 _ B c h
   ·rcases jad.1 h with h|h
    ·subst h;decide
    ·exact aS2 _ D c h
  clear i v
  cases f:aS4 a.data.toList
  ·have j:Hid (aTE s.data.toList=false):=by unfold Hid;rw[o.out,f];rfl
   rw[f]at n
   clear o q p f
   go_enter func165,ntmps165
   go_wp2_with fail
   refine(C.out _).mono ?_
   rintro e w' ⟨rfl,g⟩
   go_wp2_with fail
   refine(n.out _).mono ?_
   rintro e z ⟨rfl,d⟩
   have b:=d.symm
   subst b
   go_wp2
   go_ret
   exact⟨by rw[j.out];rfl,g⟩
  ·cases k:aS4 r.data.toList
   ·have j:Hid (aTE s.data.toList=false):=by unfold Hid;rw[o.out,f,k];rfl
    rw[f]at n
    rw[k]at p
    clear o q f k
    go_enter func165,ntmps165
    go_wp2_with fail
    refine(C.out _).mono ?_
    rintro e w' ⟨rfl,g⟩
    go_wp2_with fail
    refine(n.out _).mono ?_
    rintro e z ⟨rfl,d⟩
    have b:=d.symm
    subst b
    go_wp2_with fail
    refine(p.out _).mono ?_
    rintro e G ⟨rfl,l⟩
    have m:=l.symm
    subst m
    go_wp2
    go_ret
    exact⟨by rw[j.out];rfl,g⟩
   ·have j:Hid (aTE s.data.toList=!(s.data.toList.any λc=>upR c.toNat)):=by unfold Hid;rw[o.out,f,k];rfl
    have A:Hid (∀w,Calls prog 118 #[.string s,.func (Fn.func 197) #[] #[]] w (jG (.bool (s.data.toList.any λc=>upR c.toNat)) w)):=λw=>aUb s (q.out f k) w
    rw[f]at n
    rw[k]at p
    clear o q f k
    generalize (s.data.toList.any λc=>upR c.toNat)=V at*
    go_enter func165,ntmps165
    go_wp2_with fail
    refine(C.out _).mono ?_
    rintro e w' ⟨rfl,g⟩
    go_wp2_with fail
    refine(n.out _).mono ?_
    rintro e z ⟨rfl,d⟩
    have b:=d.symm
    subst b
    go_wp2_with fail
    refine(p.out _).mono ?_
    rintro e G ⟨rfl,l⟩
    have m:=l.symm
    subst m
    go_wp2_with fail
    refine(A.out _).mono ?_
    rintro e H ⟨rfl,t⟩
    go_wp2
    go_ret
    exact⟨by rw[j.out];cases V<;>rfl,g.trans (t.mono g.size)⟩
theorem aFM(s:jA)(h:s.data.toList≠[]):s.toList.isEmpty=false:=by
 rw[jj]
 cases b:s.data.toList with
 |nil=>exact absurd b h
 |cons a l=>rfl
theorem aFQ(s:jA)(h:s.data.toList=[]):s=jz:=by
 apply jbv;apply jbj.1;exact h
theorem aHg(b o:Nat)(p:PT)(T:jO)(D:Nat)(U:jO)(E:Nat)(w:World)(L:aA1 w b o p T D U E)(S:aA5 p):
  Calls prog 168 #[.pointer (some (jx b o))] w λe w'=>e=.returned (.bool (aHf p))/\w'=w:=by
 obtain⟨H,I,_,_,J,B,y⟩:=L
 obtain⟨_,_,_,_,F,G,z,A⟩:=S
 unfold maxLen at z A
 have C:Hid (∀w,Calls prog 18 #[.string p.ty] w λe w'=>e=.returned (.bool (aK5 p.ty.data.toList))/\w'=w):=λw=>aNx p.ty w
 obtain⟨r,cs,id,k,g,a,kids⟩:=p
 simp only at H I J B y F G z A C
 have i:a.length=0↔a=[]:=js
 have f:kids.length=0↔kids=[]:=js
 have l:Hid (aHf ⟨r,cs,id,k,g,a,kids⟩=if aK5 r.data.toList then !kids.isEmpty&&a.isEmpty&&decide (g=0)&&cs.data.toList.isEmpty else kids.isEmpty):=rfl
 cases s:aK5 r.data.toList
 ·rw[s]at C l
  by_cases q:kids.length=0
  ·have m:Hid (aHf ⟨r,cs,id,k,g,a,kids⟩=true):=by unfold Hid;rw[l.out,f.1 q];rfl
   rw[q]at y
   clear l i f s q
   go_enter func168,ntmps168
   go_wp2_with fail
   refine(C.out _).mono ?_
   rintro e w' ⟨rfl,d⟩
   have c:=d.symm
   subst c
   go_wp2
   go_ret
   exact⟨by rw[m.out];rfl,rfl⟩
  ·have m:Hid (aHf ⟨r,cs,id,k,g,a,kids⟩=false):=by unfold Hid;rw[l.out];cases kids<;>simp_all
   have P:((kids.length:Int)==0)=false:=by rw[jg];omega
   clear l i f s
   generalize kids.length=x at*
   go_enter func168,ntmps168
   go_wp2_with fail
   refine(C.out _).mono ?_
   rintro e w' ⟨rfl,d⟩
   have c:=d.symm
   subst c
   go_wp2
   go_ret
   exact⟨by rw[m.out];rfl,rfl⟩
 ·rw[s]at C l
  by_cases q:kids.length=0
  ·have m:Hid (aHf ⟨r,cs,id,k,g,a,kids⟩=false):=by unfold Hid;rw[l.out,f.1 q];rfl
   rw[q]at y
   clear l i f s q
   go_enter func168,ntmps168
   go_wp2_with fail
   refine(C.out _).mono ?_
   rintro e w' ⟨rfl,d⟩
   have c:=d.symm
   subst c
   go_wp2
   go_ret
   exact⟨by rw[m.out];rfl,rfl⟩
  ·have R:(0:Int)<(kids.length:Int):=by omega
   have j:kids.isEmpty=false:=by cases kids<;>simp_all
   by_cases t:a.length=0
   ·have n:a.isEmpty=true:=by rw[i.1 t];rfl
    rw[t]at B
    by_cases hh:g=0
    ·subst hh
     by_cases v:cs.data.toList=[]
     ·have m:Hid (aHf ⟨r,cs,id,k,0,a,kids⟩=true):=by unfold Hid;rw[l.out,j,n,v];rfl
      have:=aFQ cs v
      subst this
      clear l i f s q j n t v
      generalize kids.length=x at*
      go_enter func168,ntmps168
      go_wp2_with fail
      refine(C.out _).mono ?_
      rintro e w' ⟨rfl,d⟩
      have c:=d.symm
      subst c
      go_wp2
      go_ret
      exact⟨by rw[m.out];rfl,rfl⟩
     ·have m:Hid (aHf ⟨r,cs,id,k,0,a,kids⟩=false):=by unfold Hid;rw[l.out,j,n];cases hq:cs.data.toList<;>simp_all
      have N:=aFM cs v
      clear l i f s q j n t v
      generalize kids.length=x at*
      go_enter func168,ntmps168
      go_wp2_with fail
      refine(C.out _).mono ?_
      rintro e w' ⟨rfl,d⟩
      have c:=d.symm
      subst c
      go_wp2
      go_ret
      exact⟨by rw[m.out];rfl,rfl⟩
    ·have m:Hid (aHf ⟨r,cs,id,k,g,a,kids⟩=false):=by unfold Hid;rw[l.out,j,n];simp[hh]
     have O:(g==0)=false:=by rw[jg];exact hh
     clear l i f s q j n t hh
     generalize kids.length=x at*
     go_enter func168,ntmps168
     go_wp2_with fail
     refine(C.out _).mono ?_
     rintro e w' ⟨rfl,d⟩
     have c:=d.symm
     subst c
     go_wp2
     go_ret
     exact⟨by rw[m.out];rfl,rfl⟩
   ·have m:Hid (aHf ⟨r,cs,id,k,g,a,kids⟩=false):=by unfold Hid;rw[l.out,j];cases a<;>simp_all
    have M:((a.length:Int)==0)=false:=by rw[jg];omega
    clear l i f s q j
    generalize kids.length=x at*
    generalize a.length=V at*
    go_enter func168,ntmps168
    go_wp2_with fail
    refine(C.out _).mono ?_
    rintro e w' ⟨rfl,d⟩
    have c:=d.symm
    subst c
    go_wp2
    go_ret
    exact⟨by rw[m.out];rfl,rfl⟩
theorem aD7(p:PT)(h:aSK p=false):aEb p=1:=by rw[aEb,jo h]
theorem aD9(p:PT)(h:aSK p=true)(a:p.how<0\/2<p.how):aEb p=3:=by rw[aEb,jh (by rw[h];decide),jo a]
theorem aD8(p:PT)(h:aSK p=true)(a:¬(p.how<0\/2<p.how))(b:4000<p.body.length):aEb p=2:=by rw[aEb,jh (by rw[h];decide),jh a,jo b]
theorem aEa(p:PT)(h:aSK p=true)(a:¬(p.how<0\/2<p.how))(b:¬4000<p.body.length)(c:aHf p=false):aEb p=4:=by rw[aEb,jh (by rw[h];decide),jh a,jh b,jo c]
theorem aD6(p:PT)(h:aSK p=true)(a:¬(p.how<0\/2<p.how))(b:¬4000<p.body.length)(c:aHf p=true):aEb p=0:=by rw[aEb,jh (by rw[h];decide),jh a,jh b,jh (by rw[c];decide)]
theorem aBU(b o:Nat)(p:PT)(W:jO)(P:Nat)(X:jO)(R:Nat)(w:World)(S:aA1 w b o p W P X R)(L:aA5 p):
  Calls prog 129 #[.pointer (some (jx b o))] w (jG (.int .i64 (aEb p:Nat)) w):=by
 have y:Hid (∀w',jb w w'->aA1 w' b o p W P X R):=λw' T=>S.below T
 have F:Hid (∀w',jb w w'->Calls prog 168 #[.pointer (some (jx b o))] w' λe Y=>e=.returned (.bool (aHf p))/\Y=w'):=λw' T=>aHg b o p W P X R w' (S.below T) L
 have CT:Hid (∀w,Calls prog 165 #[.string p.ty] w (jG (.bool (aTE p.ty.data.toList)) w)):=λw=>aNY p.ty w L.1
 have CC:Hid (∀w,Calls prog 166 #[.string p.cs] w λe w'=>e=.returned (.bool (aS4 p.cs.data.toList))/\w'=w):=λw=>aIi p.cs w L.2.1
 have CI:Hid (∀w,Calls prog 167 #[.string p.id] w (jG (.bool (aVe p.id.data.toList)) w)):=λw=>aOq p.id w L.2.2.1
 have CL:Hid (∀w,Calls prog 167 #[.string p.loc] w (jG (.bool (aVe p.loc.data.toList)) w)):=λw=>aOq p.loc w L.2.2.2.1
 obtain⟨_,_,_,_,g1,g2,g3,_⟩:=L
 unfold maxLen at g3
 have C:Hid (aSK p=(aTE p.ty.data.toList&&(p.cs.data.toList.isEmpty||aS4 p.cs.data.toList)&&aVe p.id.data.toList&&aVe p.loc.data.toList)):=rfl
 have v:Hid (aSK p=false->aEb p=1):=aD7 p
 have i:Hid (aSK p=true->(p.how<0\/2<p.how)->aEb p=3):=aD9 p
 have m:Hid (aSK p=true->¬(p.how<0\/2<p.how)->4000<p.body.length->aEb p=2):=aD8 p
 have n:Hid (aSK p=true->¬(p.how<0\/2<p.how)->¬4000<p.body.length->aHf p=false->aEb p=4):=aEa p
 have l:Hid (aSK p=true->¬(p.how<0\/2<p.how)->¬4000<p.body.length->aHf p=true->aEb p=0):=aD6 p
 obtain⟨c0,c1,c2,c3,c4,c5,c6⟩:=S
 have z:Hid (p.cs.data.toList=[]->p.cs=jz):=aFQ p.cs
 have B:Hid (p.cs.data.toList≠[]->p.cs.toList.isEmpty=false):=aFM p.cs
 have A:Hid (p.cs.data.toList≠[]->p.cs.data.toList.isEmpty=false):=λh=>by cases hq:p.cs.data.toList<;>simp_all
 generalize aSK p=O at*
 generalize aHf p=fm at*
 generalize (aEb p:Nat)=d at*
 clear c1 c2 c3 c4 c5 c6
 go_enter func129,ntmps129
 go_wp2_with fail
 refine(CT.out _).mono ?_
 rintro e w1 ⟨rfl,q⟩
 obtain⟨c0,c1,c2,c3,c4,c5,c6⟩:=y.out w1 q
 cases N:aTE p.ty.data.toList
 ·have f:Hid (d=1):=v.out (by rw[C.out,N];rfl)
  clear C v m i n l N
  go_wp2
  go_ret
  exact⟨by rw[f.out];rfl,q⟩
 ·rw[N]at C
  clear N
  by_cases x:p.cs.data.toList=[]
  ·have D:=z.out x
   rw[D]at c1
   have g:Hid (O=(aVe p.id.data.toList&&aVe p.loc.data.toList)):=by unfold Hid;rw[C.out,x];simp
   clear C x D z B A
   go_wp2_with fail
   refine(CI.out _).mono ?_
   rintro e Z ⟨rfl,G⟩
   have j:=q.trans (G.mono q.size)
   clear c0 c1 c2 c3 c4 c5 c6
   obtain⟨c0,c1,c2,c3,c4,c5,c6⟩:=y.out Z j
   cases k:aVe p.id.data.toList
   ·have f:Hid (d=1):=v.out (by rw[g.out,k];rfl)
    clear g v m i n l k
    go_wp2
    go_ret
    exact⟨by rw[f.out];rfl,j⟩
   ·rw[k]at g
    clear k
    go_wp2_with fail
    refine(CL.out _).mono ?_
    rintro e w3 ⟨rfl,H⟩
    have c:=j.trans (H.mono j.size)
    clear c0 c1 c2 c3 c4 c5 c6
    obtain⟨c0,c1,c2,c3,c4,c5,c6⟩:=y.out w3 c
    cases k:aVe p.loc.data.toList
    ·have f:Hid (d=1):=v.out (by rw[g.out,k];rfl)
     clear g v m i n l k
     go_wp2
     go_ret
     exact⟨by rw[f.out];rfl,c⟩
    ·have a:Hid (O=true):=by unfold Hid;rw[g.out,k];rfl
     clear k g v
     by_cases hh:p.how<0
     ·have f:Hid (d=3):=i.out a.out (.inl hh)
      clear m i n l a
      go_wp2
      go_ret
      exact⟨by rw[f.out];rfl,c⟩
     ·by_cases J:2<p.how
      ·have f:Hid (d=3):=i.out a.out (.inr J)
       clear m i n l a
       go_wp2
       go_ret
       exact⟨by rw[f.out];rfl,c⟩
      ·by_cases r:4000<p.body.length
       ·have f:Hid (d=2):=m.out a.out (by omega) r
        have I:(4000:Int)<(p.body.length:Int):=by omega
        clear m i n l a
        go_wp2
        go_ret
        exact⟨by rw[f.out];rfl,c⟩
       ·have I:¬((4000:Int)<(p.body.length:Int)):=by omega
        cases E:fm
        ·have f:Hid (d=4):=n.out a.out (by omega) r E
         rw[E]at F
         clear m i n l a
         go_wp2_with fail
         refine(F.out _ c).mono ?_
         rintro e w4 ⟨rfl,s⟩
         have t:=s.symm
         subst t
         go_wp2
         go_ret
         exact⟨by rw[f.out];rfl,c⟩
        ·have f:Hid (d=0):=l.out a.out (by omega) r E
         rw[E]at F
         clear m i n l a
         go_wp2_with fail
         refine(F.out _ c).mono ?_
         rintro e w4 ⟨rfl,s⟩
         have t:=s.symm
         subst t
         go_wp2
         go_ret
         exact⟨by rw[f.out];rfl,c⟩
  ·have D:=B.out x
   go_wp2_with fail
   refine(CC.out _).mono ?_
   rintro e aa ⟨rfl,U⟩
   have V:=U.symm
   subst V
   cases M:aS4 p.cs.data.toList
   ·have f:Hid (d=1):=v.out (by rw[C.out,M,A.out x];rfl)
    clear C v m i n l M
    go_wp2
    go_ret
    exact⟨by rw[f.out];rfl,q⟩
   ·have g:Hid (O=(aVe p.id.data.toList&&aVe p.loc.data.toList)):=by unfold Hid;rw[C.out,M];simp
    clear C M x D z B A
    go_wp2_with fail
    refine(CI.out _).mono ?_
    rintro e Z ⟨rfl,G⟩
    have j:=q.trans (G.mono q.size)
    clear c0 c1 c2 c3 c4 c5 c6
    obtain⟨c0,c1,c2,c3,c4,c5,c6⟩:=y.out Z j
    cases k:aVe p.id.data.toList
    ·have f:Hid (d=1):=v.out (by rw[g.out,k];rfl)
     clear g v m i n l k
     go_wp2
     go_ret
     exact⟨by rw[f.out];rfl,j⟩
    ·rw[k]at g
     clear k
     go_wp2_with fail
     refine(CL.out _).mono ?_
     rintro e w3 ⟨rfl,H⟩
     have c:=j.trans (H.mono j.size)
     clear c0 c1 c2 c3 c4 c5 c6
     obtain⟨c0,c1,c2,c3,c4,c5,c6⟩:=y.out w3 c
     cases k:aVe p.loc.data.toList
     ·have f:Hid (d=1):=v.out (by rw[g.out,k];rfl)
      clear g v m i n l k
      go_wp2
      go_ret
      exact⟨by rw[f.out];rfl,c⟩
     ·have a:Hid (O=true):=by unfold Hid;rw[g.out,k];rfl
      clear k g v
      by_cases hh:p.how<0
      ·have f:Hid (d=3):=i.out a.out (.inl hh)
       clear m i n l a
       go_wp2
       go_ret
       exact⟨by rw[f.out];rfl,c⟩
      ·by_cases J:2<p.how
       ·have f:Hid (d=3):=i.out a.out (.inr J)
        clear m i n l a
        go_wp2
        go_ret
        exact⟨by rw[f.out];rfl,c⟩
       ·by_cases r:4000<p.body.length
        ·have f:Hid (d=2):=m.out a.out (by omega) r
         have I:(4000:Int)<(p.body.length:Int):=by omega
         clear m i n l a
         go_wp2
         go_ret
         exact⟨by rw[f.out];rfl,c⟩
        ·have I:¬((4000:Int)<(p.body.length:Int)):=by omega
         cases E:fm
         ·have f:Hid (d=4):=n.out a.out (by omega) r E
          rw[E]at F
          clear m i n l a
          go_wp2_with fail
          refine(F.out _ c).mono ?_
          rintro e w4 ⟨rfl,s⟩
          have t:=s.symm
          subst t
          go_wp2
          go_ret
          exact⟨by rw[f.out];rfl,c⟩
         ·have f:Hid (d=0):=l.out a.out (by omega) r E
          rw[E]at F
          clear m i n l a
          go_wp2_with fail
          refine(F.out _ c).mono ?_
          rintro e w4 ⟨rfl,s⟩
          have t:=s.symm
          subst t
          go_wp2
          go_ret
          exact⟨by rw[f.out];rfl,c⟩
end Go.Proofs.YtbbfcbodhmeanaaGreatDoor
