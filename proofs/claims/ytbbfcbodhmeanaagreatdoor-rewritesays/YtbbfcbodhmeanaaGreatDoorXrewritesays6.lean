import Derived.Test.YtbbfcbodhmeanaaGreatDoorXrewritesays5
set_option maxHeartbeats 8000000
set_option maxRecDepth 1000000
namespace Go.Proofs.YtbbfcbodhmeanaaGreatDoor
open Go.Proofs.Tryz
open Go.RowKit
theorem aLw{c:UInt8}{n:Nat}(a:n<256)(h:¬c=UInt8.ofNat n):¬(c.toNat:Int)=(n:Int):=λe=>h (jM.1 (by rw[UInt8.toNat_ofNat_of_lt' a];omega))
theorem aQZ(c:UInt8)(g:Int)(e:g=(c.toNat:Int))(w:World):
  Calls prog 172 #[.int .u8 g] w λe w'=>e=.returned (.bool (spB c))/\w'=w:=by
 subst e
 go_enter func172,ntmps172
 go_wp2_with (go_at_call 93;refine(aI5 ⟨#[32,9,13,10,12]⟩ [32,9,13,10,12] rfl c _ rfl _).mono ?_;rintro e w' ⟨i,rfl,a,f⟩;have d:Hid (decide (0<=i)=spB c):=a;clear a;have b:=f.symm;subst b)
 go_ret
 exact⟨aO8 d.out,rfl⟩
theorem aJ6(c:UInt8)(j:Int)(e:j=(c.toNat:Int))(w:World):
  Calls prog 169 #[.int .u8 j] w λe w'=>e=.returned (.bool (aJ3 c))/\w'=w:=by
 subst e
 obtain⟨n,i⟩:∃n,n=c.toNat:=⟨_,rfl⟩
 have a:Hid (aJ3 c=((decide (97<=n)&&decide (n<=122))||(decide (65<=n)&&decide (n<=90)))):=by unfold Hid;rw[i];rfl
 rw[<-i]
 clear i
 by_cases k:97<=n
 ·have f:(97:Int)<=(n:Int):=by omega
  by_cases l:n<=122
  ·have g:(n:Int)<=122:=by omega
   go_enter func169,ntmps169
   go_wp2
   go_ret
   exact⟨aO8 (by rw[a.out];simp[k,l]),rfl⟩
  ·have g:¬(n:Int)<=122:=by omega
   have b:(65:Int)<=(n:Int):=by omega
   have d:¬(n:Int)<=90:=by omega
   go_enter func169,ntmps169
   go_wp2
   go_ret
   exact⟨aO8 (by rw[a.out];simp;omega),rfl⟩
 ·have f:¬(97:Int)<=(n:Int):=by omega
  by_cases m:65<=n
  ·have b:(65:Int)<=(n:Int):=by omega
   by_cases o:n<=90
   ·have d:(n:Int)<=90:=by omega
    go_enter func169,ntmps169
    go_wp2
    go_ret
    exact⟨aO8 (by rw[a.out];simp;omega),rfl⟩
   ·have d:¬(n:Int)<=90:=by omega
    go_enter func169,ntmps169
    go_wp2
    go_ret
    exact⟨aO8 (by rw[a.out];simp;omega),rfl⟩
  ·have b:¬(65:Int)<=(n:Int):=by omega
   go_enter func169,ntmps169
   go_wp2
   go_ret
   exact⟨aO8 (by rw[a.out];simp;omega),rfl⟩
theorem aRt(c:UInt8)(w:World):Calls prog 171 #[.int .u8 (c.toNat:Int)] w λe w'=>e=.returned (.bool (aIv c))/\w'=w:=by
 have g:Hid (∀W,Calls prog 172 #[.int .u8 (c.toNat:Int)] W λe w'=>e=.returned (.bool (spB c))/\w'=W):=λW=>aQZ c _ rfl W
 by_cases d:c=47
 ·subst d
  have i:spB 47=false:=rfl
  rw[i]at g
  go_enter func171,ntmps171
  go_wp2_with (go_at_call 172;refine(g.out _).mono ?_;rintro e w' ⟨rfl,b⟩;have a:=b.symm;subst a)
  go_ret
  exact⟨aO8 (by decide),rfl⟩
 by_cases f:c=62
 ·subst f
  have i:spB 62=false:=rfl
  rw[i]at g
  go_enter func171,ntmps171
  go_wp2_with (go_at_call 172;refine(g.out _).mono ?_;rintro e w' ⟨rfl,b⟩;have a:=b.symm;subst a)
  go_ret
  exact⟨aO8 (by decide),rfl⟩
 have o:¬(c.toNat:Int)=47:=aLw (n:=47) (by decide) d
 have p:¬(c.toNat:Int)=62:=aLw (n:=62) (by decide) f
 have m:Hid (spB c=true->aIv c=false):=λh=>by simp[aIv,h]
 have k:Hid (spB c=false->aIv c=true):=λh=>by simp[aIv,h,d,f]
 clear d f
 cases j:spB c with
 |true=>
  rw[j]at g
  have l:Hid (_=_):=m.out j
  clear m k j
  go_enter func171,ntmps171
  go_wp2_with (go_at_call 172;refine(g.out _).mono ?_;rintro e w' ⟨rfl,b⟩;have a:=b.symm;subst a)
  go_ret
  exact⟨aO8 (by rw[l.out]),rfl⟩
 |false=>
  rw[j]at g
  have l:Hid (_=_):=k.out j
  clear m k j
  go_enter func171,ntmps171
  go_wp2_with (go_at_call 172;refine(g.out _).mono ?_;rintro e w' ⟨rfl,b⟩;have a:=b.symm;subst a)
  go_ret
  exact⟨aO8 (by rw[l.out];simp[o,p]),rfl⟩
theorem aRv(c:UInt8)(w:World):Calls prog 173 #[.int .u8 (c.toNat:Int)] w λe w'=>e=.returned (.bool (aIt c))/\w'=w:=by
 have f:Hid (∀W,Calls prog 172 #[.int .u8 (c.toNat:Int)] W λe w'=>e=.returned (.bool (spB c))/\w'=W):=λW=>aQZ c _ rfl W
 by_cases d:c=47
 ·subst d
  have l:spB 47=false:=rfl
  rw[l]at f
  go_enter func173,ntmps173
  go_wp2_with (go_at_call 172;refine(f.out _).mono ?_;rintro e w' ⟨rfl,b⟩;have a:=b.symm;subst a)
  go_ret
  exact⟨aO8 (by decide),rfl⟩
 have m:¬(c.toNat:Int)=47:=aLw (n:=47) (by decide) d
 have k:Hid (spB c=true->aIt c=true):=λh=>by simp[aIt,h]
 have i:Hid (spB c=false->aIt c=false):=λh=>by simp[aIt,h,d]
 clear d
 cases g:spB c with
 |true=>
  rw[g]at f
  have j:Hid (_=_):=k.out g
  clear k i g
  go_enter func173,ntmps173
  go_wp2_with (go_at_call 172;refine(f.out _).mono ?_;rintro e w' ⟨rfl,b⟩;have a:=b.symm;subst a)
  go_ret
  exact⟨aO8 (by rw[j.out]),rfl⟩
 |false=>
  rw[g]at f
  have j:Hid (_=_):=i.out g
  clear k i g
  go_enter func173,ntmps173
  go_wp2_with (go_at_call 172;refine(f.out _).mono ?_;rintro e w' ⟨rfl,b⟩;have a:=b.symm;subst a)
  go_ret
  exact⟨aO8 (by rw[j.out];simp[m]),rfl⟩
theorem aCf(c:UInt8)(w:World):Calls prog 201 #[.int .u8 (c.toNat:Int)] w λe w'=>e=.returned (.bool (aIr c))/\w'=w:=by
 have f:Hid (∀W,Calls prog 172 #[.int .u8 (c.toNat:Int)] W λe w'=>e=.returned (.bool (spB c))/\w'=W):=λW=>aQZ c _ rfl W
 by_cases g:c=47
 ·subst g
  have d:spB 47=false:=rfl
  rw[d]at f
  go_enter func201,ntmps201
  go_wp2_with (go_at_call 172;refine(f.out _).mono ?_;rintro e w' ⟨rfl,b⟩;have a:=b.symm;subst a)
  go_ret
  exact⟨aO8 (by decide),rfl⟩
 by_cases j:c=62
 ·subst j
  have d:spB 62=false:=rfl
  rw[d]at f
  go_enter func201,ntmps201
  go_wp2_with (go_at_call 172;refine(f.out _).mono ?_;rintro e w' ⟨rfl,b⟩;have a:=b.symm;subst a)
  go_ret
  exact⟨aO8 (by decide),rfl⟩
 by_cases i:c=61
 ·subst i
  have d:spB 61=false:=rfl
  rw[d]at f
  go_enter func201,ntmps201
  go_wp2_with (go_at_call 172;refine(f.out _).mono ?_;rintro e w' ⟨rfl,b⟩;have a:=b.symm;subst a)
  go_ret
  exact⟨aO8 (by decide),rfl⟩
 have p:¬(c.toNat:Int)=47:=aLw (n:=47) (by decide) g
 have r:¬(c.toNat:Int)=62:=aLw (n:=62) (by decide) j
 have q:¬(c.toNat:Int)=61:=aLw (n:=61) (by decide) i
 have o:Hid (spB c=true->aIr c=false):=λh=>by simp[aIr,h]
 have l:Hid (spB c=false->aIr c=true):=λh=>by simp[aIr,h,g,j,i]
 clear g j i
 cases k:spB c with
 |true=>
  rw[k]at f
  have m:Hid (_=_):=o.out k
  clear o l k
  go_enter func201,ntmps201
  go_wp2_with (go_at_call 172;refine(f.out _).mono ?_;rintro e w' ⟨rfl,b⟩;have a:=b.symm;subst a)
  go_ret
  exact⟨aO8 (by rw[m.out]),rfl⟩
 |false=>
  rw[k]at f
  have m:Hid (_=_):=l.out k
  clear o l k
  go_enter func201,ntmps201
  go_wp2_with (go_at_call 172;refine(f.out _).mono ?_;rintro e w' ⟨rfl,b⟩;have a:=b.symm;subst a)
  go_ret
  exact⟨aO8 (by rw[m.out];simp[p,r,q]),rfl⟩
theorem aUp(c:UInt8)(w:World):Calls prog 212 #[.int .u8 (c.toNat:Int)] w λe w'=>e=.returned (.bool (aIs c))/\w'=w:=by
 have f:Hid (∀W,Calls prog 172 #[.int .u8 (c.toNat:Int)] W λe w'=>e=.returned (.bool (spB c))/\w'=W):=λW=>aQZ c _ rfl W
 by_cases d:c=62
 ·subst d
  have l:spB 62=false:=rfl
  rw[l]at f
  go_enter func212,ntmps212
  go_wp2_with (go_at_call 172;refine(f.out _).mono ?_;rintro e w' ⟨rfl,b⟩;have a:=b.symm;subst a)
  go_ret
  exact⟨aO8 (by decide),rfl⟩
 have m:¬(c.toNat:Int)=62:=aLw (n:=62) (by decide) d
 have k:Hid (spB c=true->aIs c=false):=λh=>by simp[aIs,h]
 have i:Hid (spB c=false->aIs c=true):=λh=>by simp[aIs,h,d]
 clear d
 cases g:spB c with
 |true=>
  rw[g]at f
  have j:Hid (_=_):=k.out g
  clear k i g
  go_enter func212,ntmps212
  go_wp2_with (go_at_call 172;refine(f.out _).mono ?_;rintro e w' ⟨rfl,b⟩;have a:=b.symm;subst a)
  go_ret
  exact⟨aO8 (by rw[j.out]),rfl⟩
 |false=>
  rw[g]at f
  have j:Hid (_=_):=i.out g
  clear k i g
  go_enter func212,ntmps212
  go_wp2_with (go_at_call 172;refine(f.out _).mono ?_;rintro e w' ⟨rfl,b⟩;have a:=b.symm;subst a)
  go_ret
  exact⟨aO8 (by rw[j.out];simp[m]),rfl⟩
theorem aUq(q c:UInt8)(g:Nat)(w:World)(b:w.cell? (jx g 0)=some (.int .u8 (q.toNat:Int))):Calls prog 213 #[.int .u8 (c.toNat:Int),.pointer (some (jx g 0))] w λe w'=>e=.returned (.bool (aLF q c))/\w'=w:=by
 have a:Hid (aLF q c=!((c.toNat:Int)==(q.toNat:Int))):=by
  unfold Hid aLF
  rw[bne]
  congr 1
  rw[jW]
  simp only[jbp]
  exact⟨λh=>by rw[h],λh=>jM.1 (by omega)⟩
 go_enter func213,ntmps213
 go_wp2
 go_ret
 exact⟨aO8 (by rw[a.out];rfl),rfl⟩
abbrev SG:=Bool×jB
def aG5:List SG->jB
 |[]=>[]
 |x::ss=>x.2++aG5 ss
def aJW:List SG->Nat->List LK
 |[],_=>[]
 |x::ss,k=>if x.1=true then((x.2++aG5 ss).length+k,x.2)::aJW ss k else aJW ss k
def okR(r r':jB):Prop:=r'=r\/(r'≠[]/\aNs r'=true)
def Rep:List SG->List SG->Prop
 |[],[]=>True
 |x::ss,y::ts=>x.1=y.1/\(x.1=true->okR x.2 y.2)/\(x.1=false->y.2=x.2)/\Rep ss ts
 |_,_=>False
theorem Rep.refl:∀(a:List SG),Rep a a
 |[]=>trivial
 |_::a=>⟨rfl,λ_=>.inl rfl,λ_=>rfl,Rep.refl a⟩
theorem Rep.lit{t:jB}{g f:List SG}(h:Rep ((false,t)::g) f):∃a,f=(false,t)::a/\Rep g a:=by
 cases f with
 |nil=>exact h.elim
 |cons y a=>
  obtain⟨i,_,j,k⟩:=h
  obtain⟨b,u⟩:=y
  have c:false=b:=i
  have d:u=t:=j rfl
  subst c;subst d
  exact⟨a,rfl,k⟩
theorem Rep.val{t:jB}{g f:List SG}(h:Rep ((true,t)::g) f):∃u a,f=(true,u)::a/\okR t u/\Rep g a:=by
 cases f with
 |nil=>exact h.elim
 |cons y a=>
  obtain⟨i,j,_,k⟩:=h
  obtain⟨b,u⟩:=y
  have c:true=b:=i
  have d:okR t u:=j rfl
  subst c
  exact⟨u,a,rfl,d,k⟩
theorem Rep.nil{a:List SG}(h:Rep [] a):a=[]:=by
 cases a with
 |nil=>rfl
 |cons y b=>exact h.elim
theorem Rep.app:∀{a b cs:List SG},Rep (a++b) cs->∃c d,cs=c++d/\Rep a c/\Rep b d
 |[],b,cs,h=>⟨[],cs,rfl,trivial,h⟩
 |x::a,b,[],h=>h.elim
 |x::a,b,y::cs,h=>by
  obtain⟨f,g,i,j⟩:=h
  obtain⟨c,d,e,k,l⟩:=Rep.app j
  exact⟨y::c,d,by rw[e];rfl,⟨f,g,i,k⟩,l⟩
theorem aG7:∀(a b:List SG),aG5 (a++b)=aG5 a++aG5 b
 |[],b=>rfl
 |x::a,b=>by simp[aG5,aG7 a b]
theorem aJX:∀(a b:List SG) (k:Nat),aJW (a++b) k=aJW a ((aG5 b).length+k)++aJW b k
 |[],b,k=>rfl
 |x::a,b,k=>by
  rw[jL,aJW,aJW,aJX a b k]
  split
  ·rw[aG7];simp;omega
  ·rfl
def aBm(p:UInt8->Bool)(X:jB):Prop:=∀y,X.head?=some y->p y=false
theorem aTq(p:UInt8->Bool):∀(s:jB),∀c∈s.takeWhile p,p c=true
 |[],_,h=>by simp at h
 |x::s,c,h=>by
  rw[List.takeWhile_cons]at h
  split at h
  ·rcases jad.1 h with rfl|h
   ·assumption
   ·exact aTq p s c h
  ·simp at h
theorem aTs(p:UInt8->Bool)(s:jB):s.takeWhile p++s.dropWhile p=s:=jak
theorem aFB(p:UInt8->Bool):∀(s:jB),aBm p (s.dropWhile p)
 |[],y,h=>by simp at h
 |x::s,y,h=>by
  rw[jat]at h
  split at h
  ·exact aFB p s y h
  ·rename_i a;simp at h;subst h;simpa using a
theorem aTr(p:UInt8->Bool):∀(a X:jB),(∀c∈a,p c=true)->aBm p X->(a++X).takeWhile p=a/\(a++X).dropWhile p=X
 |[],[],_,_=>⟨rfl,rfl⟩
 |[],y::X,_,h=>by
  have:=h y rfl
  simp[this]
 |x::a,X,ha,h=>by
  have b:=ha x (by simp)
  obtain⟨d,f⟩:=aTr p a X (λc g=>ha c (by simp[g])) h
  simp[b,d,f]
theorem aRe{p:UInt8->Bool}{X Y:jB}(h:aBm p X)(e:Y.head?=X.head?):aBm p Y:=λy a=>h y (e▸a)
theorem aQY{c:UInt8}(h:spB c=true):aIr c=false/\aIv c=false/\aIs c=false/\aIt c=true:=by
 simp[aIr,aIv,aIs,aIt,h]
theorem aLW{c:UInt8}(h:okT c=true):aIs c=true/\spB c=false/\qB c=false/\c≠38:=by
 have o:∀x:UInt8,c=x->okT x=true:=λx e=>e▸h
 have n:∀x:UInt8,okT x=false->c≠x:=λx p e=>by have:=o x e;rw[p]at this;cases this
 have b:=n 32 (by decide);have d:=n 9 (by decide);have f:=n 13 (by decide);have g:=n 10 (by decide);have i:=n 12 (by decide)
 have j:=n 62 (by decide);have k:=n 34 (by decide);have l:=n 39 (by decide);have m:=n 38 (by decide)
 have a:spB c=false:=by simp[spB,b,d,f,g,i]
 exact⟨by simp[aIs,a,j],a,by simp[qB,k,l],m⟩
theorem aLX{c q:UInt8}(h:okT c=true)(hq:qB q=true):aLF q c=true:=by
 have a:=(aLW h).2.2.1
 simp only[aLF,jbb]
 rintro rfl
 rw[hq]at a
 cases a
def aAW(s r:jB):Prop:=∃c pre,s=(c::pre)++r/\∀X:jB,X.head?=r.head?->aLm ((c::pre)++X)=aLm s/\aCg ((c::pre)++X)=(none,X)
def aAC(s r:jB)(v:LK):Prop:=∃c pre raw post,s=(c::pre)++(raw++(post++r))/\v=((raw++(post++r)).length,raw)/\
 ∀raw' X:jB,okR raw raw'->X.head?=r.head?->aLm ((c::pre)++(raw'++(post++X)))=aLm s/\aCg ((c::pre)++(raw'++(post++X)))=(some ((raw'++(post++X)).length,raw'),X)
theorem aLn(c:UInt8)(t:jB):aLm (c::t)=c::t.takeWhile aIr:=rfl
theorem aCj(c:UInt8)(t:jB):aCg (c::t)=aCN ((t.dropWhile aIr).dropWhile spB):=rfl
theorem aCi(c:UInt8)(a b X:jB)(l:∀x∈a,aIr x=true)(d:∀x∈b,spB x=true)(j:aBm aIr X)(k:aBm spB X):
  aLm ((c::(a++b))++X)=c::a/\aCg ((c::(a++b))++X)=aCN X:=by
 have hst:aBm aIr (b++X):=by
  cases b with
  |nil=>exact j
  |cons x b=>intro y f;simp at f;subst f;exact(aQY (d x (by simp))).1
 obtain⟨e1,g⟩:=aTr aIr a (b++X) l hst
 obtain⟨m,i⟩:=aTr spB b X d k
 rw[jL,aLn,aCj,jJ,e1,g,i]
 exact⟨rfl,rfl⟩
theorem aCS(a Y:jB)(b:∀x∈a,spB x=true)(h:aBm spB Y):aCN (61::(a++Y))=(some ((aUs Y).1.length,(aUs Y).2.1),(aUs Y).2.2):=by
 obtain⟨_,e⟩:=aTr spB a Y b h
 simp only[aCN,e]
 rfl
theorem aCp(c:UInt8)(t:jB)(v:Option LK)(r:jB)(h:aCg (c::t)=(v,r))(hr:r≠[]):
  (v=none/\aAW (c::t) r)\/∃x,v=some x/\aAC (c::t) r x:=by
 have es:=aTs aIr t
 have ha:=aTq aIr t
 have hst:=aFB aIr t
 rw[aCj]at h
 generalize t.takeWhile aIr=a at es ha
 generalize t.dropWhile aIr=I at es hst h
 have n:=aTs spB I
 have B:=aTq spB I
 have E:=aFB spB I
 have H:I.takeWhile spB=[]->aBm aIr (I.dropWhile spB):=by
  intro e;rw[e,jaf]at n;rw[n];exact hst
 generalize I.takeWhile spB=l at n B H
 generalize I.dropWhile spB=T at n E h H
 subst n;subst es
 have A:∀X:jB,X.head?=T.head?->aLm ((c::(a++l))++X)=c::a/\aCg ((c::(a++l))++X)=aCN X:=by
  intro X o
  have m:aBm spB X:=aRe E o
  cases l with
  |nil=>exact aCi c a [] X ha B (aRe (H rfl) o) m
  |cons x l=>
   have O:aBm aIr ((x::l)++X):=by intro y V;simp at V;subst V;exact(aQY (B x (by simp))).1
   obtain⟨e1,e2⟩:=aTr aIr a ((x::l)++X) ha O
   obtain⟨e3,e4⟩:=aTr spB (x::l) X B m
   rw[jL,aLn,aCj,jJ,e1,e2,e4]
   exact⟨rfl,rfl⟩
 have hs:c::(a++(l++T))=(c::(a++l))++T:=by simp
 have U:=(A T rfl).1
 rw[<-hs]at U
 cases T with
 |nil=>simp only[aCN,jcu]at h;exact absurd h.2.symm hr
 |cons d u=>
  by_cases hd:d=61
  ·subst hd
   right
   have F:=aTs spB u
   have q:=aTq spB u
   have s:=aFB spB u
   have hb:aCN (61::u)=(some ((aUs (u.dropWhile spB)).1.length,(aUs (u.dropWhile spB)).2.1),(aUs (u.dropWhile spB)).2.2):=rfl
   rw[hb]at h
   generalize u.takeWhile spB=i at F q
   generalize u.dropWhile spB=u2 at F s h
   subst F
   simp only[jcu]at h
   obtain⟨D,m⟩:=h
   cases u2 with
   |nil=>exact absurd m.symm hr
   |cons x j=>
    by_cases hq:qB x=true
    ·have hv:aUs (x::j)=(j,j.takeWhile (aLF x),(j.dropWhile (aLF x)).drop 1):=by simp only[aUs];rw[jo hq]
     rw[hv]at D m
     simp only at D m
     have f:=aTs (aLF x) j
     have N:=aTq (aLF x) j
     have k:=aFB (aLF x) j
     generalize j.takeWhile (aLF x)=C at f N D
     generalize j.dropWhile (aLF x)=r3 at f k m
     cases r3 with
     |nil=>exact absurd m.symm hr
     |cons y r4=>
      have V:y=x:=by have:=k y rfl;simpa [aLF] using this
      subst V
      simp only[List.drop_one,List.tail_cons]at m
      subst m
      subst f
      refine⟨_,D.symm,c,(a++l)++(61::(i++[y])),C,[y],by simp,by simp,λb X hk o=>?_⟩
      have p:∀z∈b,aLF y z=true:=by
       rcases hk with rfl|⟨_,M⟩
       ·exact N
       ·intro z g;exact aLX (jR.1 M z g) hq
      have e0:(c::((a++l)++(61::(i++[y]))))++(b++([y]++X))=(c::(a++l))++(61::(i++(y::(b++(y::X))))):=by simp
      rw[e0]
      obtain⟨R,S⟩:=A (61::(i++(y::(b++(y::X))))) rfl
      rw[R,S,U]
      refine⟨rfl,?_⟩
      rw[aCS i (y::(b++(y::X))) q (λz g=>by simp at g;subst g;exact s _ rfl)]
      have P:aBm (aLF y) (y::X):=λz g=>by simp at g;subst g;simp[aLF]
      obtain⟨W,Y⟩:=aTr (aLF y) b (y::X) p P
      simp only[aUs]
      rw[jo hq,W,Y]
      simp
    ·have hv:aUs (x::j)=(x::j,(x::j).takeWhile aIs,(x::j).dropWhile aIs):=by simp only[aUs];rw[jh hq]
     rw[hv]at D m
     simp only at D m
     have ab:=s x rfl
     have f:=aTs aIs (x::j)
     have J:=aTq aIs (x::j)
     have k:=aFB aIs (x::j)
     generalize ac:(x::j).takeWhile aIs=C at f J D
     generalize (x::j).dropWhile aIs=r3 at f k m
     subst m
     refine⟨_,D.symm,c,(a++l)++(61::i),C,[],by simp[f],by simp[f],λb X hk o=>?_⟩
     have p:(∀z∈b,aIs z=true)/\aBm qB (b++X)/\aBm spB (b++X):=by
      have G:b=C->aBm qB (b++X)/\aBm spB (b++X):=by
       rintro rfl
       have hh:(b++X).head?=some x:=by
        cases b with
        |nil=>rw[jaf,o];rw[jaf]at f;rw[f];rfl
        |cons z b=>rw[jL]at f;simp only[jL,List.head?_cons];rw[jcn]at f;rw[f.1]
       exact⟨λz g=>by rw[hh]at g;cases g;simpa using hq,λz g=>by rw[hh]at g;cases g;exact ab⟩
      rcases hk with rfl|⟨L,M⟩
      ·exact⟨J,G rfl⟩
      ·refine⟨λz g=>(aLW (jR.1 M z g)).1,?_,?_⟩
       ·intro z g
        cases b with
        |nil=>exact absurd rfl L
        |cons z' b=>simp at g;subst g;exact(aLW (jR.1 M _ (by simp))).2.2.1
       ·intro z g
        cases b with
        |nil=>exact absurd rfl L
        |cons z' b=>simp at g;subst g;exact(aLW (jR.1 M _ (by simp))).2.1
     obtain⟨g1,g2,g3⟩:=p
     have e0:(c::((a++l)++(61::i)))++(b++([]++X))=(c::(a++l))++(61::(i++(b++X))):=by simp
     rw[e0]
     obtain⟨R,S⟩:=A (61::(i++(b++X))) rfl
     rw[R,S,U]
     refine⟨rfl,?_⟩
     rw[aCS i (b++X) q g3]
     obtain⟨W,Y⟩:=aTr aIs b X g1 (aRe k o)
     have aa:aUs (b++X)=(b++X,b,X):=by
      cases hY:b++X with
      |nil=>
       have:b=[]/\X=[]:=by simpa using hY
       rw[this.1,this.2];rfl
      |cons z Z=>
       rw[hY]at W Y g2
       simp only[aUs]
       rw[jh (by rw[g2 z rfl];decide),W,Y]
     rw[aa]
     simp
  ·left
   simp only[aCN]at h
   rw[jh hd]at h
   simp only[jcu]at h
   obtain⟨rfl,rfl⟩:=h
   refine⟨rfl,c,a++l,hs,λX o=>?_⟩
   obtain⟨R,S⟩:=A X o
   rw[R,S,U]
   refine⟨rfl,?_⟩
   cases X with
   |nil=>cases o
   |cons z Z=>
    simp at o
    subst o
    simp only[aCN]
    rw[jh hd]
theorem aBf.drewN{w:World}{g:Nat}{p:jA}{k:Int}(h:aBf w g p k)(n:Nat):aBf (w.drewN n) g p k:=by
 unfold aBf at h⊢
 exact h
theorem aCY{n:Nat}{w w':World}(h:Below n w w')(m:Nat):Below n w (w'.drewN m):=by
 induction m with
 |zero=>exact h
 |succ m a=>exact a.drew
theorem aFk(g:Nat)(p:jA)(k:Int)(w:World)(a:aBf w g p k):
  Calls prog 75 #[.pointer (some (jx g 0))] w λe w'=>e=.returned (.bool (decide ((p.size:Int)<=k)))/\∃m,w'=w.drewN m:=by
 have b:=a.page
 have c:=a.at_
 clear a
 go_enter func75,ntmps75
 go_wp2
 go_region
 all_goals (
  go_wp2
  go_ret
  exact⟨rfl,1,rfl⟩)
def aBd(F:Nat)(args:Array Value)(v:Value)(w:World):Prop:=∀n,Calls prog F args (w.drewN n) λe w''=>e=.returned v/\∃m,w''=w.drewN m
theorem aFl(g:Nat)(p:jA)(k:Int)(b:Bool)(a:decide ((p.size:Int)<=k)=b)(w:World)(c:aBf w g p k):aBd 75 #[.pointer (some (jx g 0))] (.bool b) w:=λn=>by
 subst a
 exact Calls.quiet_of (aFk g p k _ (c.drewN n))
theorem aPW(g:Nat)(p:jA)(k:Nat)(c:UInt8)(f:Int)(i:f=(c.toNat:Int))(w:World)(a:aBf w g p k):
  Calls prog 174 #[.pointer (some (jx g 0)),.int .u8 f] w λe w'=>e=.returned (.bool ((p.data.toList.drop k).head?==some c))/\∃m,w'=w.drewN m:=by
 subst i
 have l:=a.page
 have n:=a.at_
 by_cases j:k<p.size
 ·have b:Hid (aBd 75 #[.pointer (some (jx g 0))] (.bool false) w):=aFl g p k false (by simp;omega) w a
  have d:Hid (((p.data.toList.drop k).head?==some c)=((p[k].toNat:Int)==(c.toNat:Int))):=by
   unfold Hid
   rw[aFs p k j,List.head?_cons,jW]
   simp only[jbp,jac]
   exact⟨λh=>by rw[h],λh=>jM.1 (by omega)⟩
  clear a
  go_enter func174,ntmps174
  go_wp2_with fail
  go_quiet (first|(go_at_call 75;exact b.out _)|fail)
  go_wp2_with fail
  go_ret
  exact⟨aO8 d.out.symm,_,rfl⟩
 ·have b:Hid (aBd 75 #[.pointer (some (jx g 0))] (.bool true) w):=aFl g p k true (by simp;omega) w a
  have d:Hid (((p.data.toList.drop k).head?==some c)=false):=by
   unfold Hid
   rw[jC (by rw[<-Lib.size_eq];omega)]
   rfl
  clear a
  go_enter func174,ntmps174
  go_wp2_with fail
  go_quiet (first|(go_at_call 75;exact b.out _)|fail)
  go_wp2_with fail
  go_ret
  exact⟨aO8 d.out.symm,_,rfl⟩
structure aAd(F:Nat)(caps:Array Value)(q:UInt8->Bool)(g:Nat)(OK:World->Prop):Prop where
 call:∀(args:Array Value) (W:World),Sem.run prog (callFunc F args) W=.ok (.enter F args) W
 ask:∀(c:UInt8) (W:World),OK W->Calls prog F (#[.int .u8 (c.toNat:Int)]++caps) W λe w'=>e=.returned (.bool (q c))/\w'=W
 drew:∀(W:World) (n:Nat),OK W->OK (W.drewN n)
 set:∀(W:World) (v:Value),OK W->OK (W.setCell (jx g 1) v)
theorem aAd.quiet{F:Nat}{a:Array Value}{q:UInt8->Bool}{g:Nat}{d:World->Prop}(h:aAd F a q g d)(c:UInt8)(b:Bool)(f:q c=b)(w:World)(i:d w):aBd F (#[.int .u8 (c.toNat:Int)]++a) (.bool b) w:=λn=>by
 subst f
 exact Calls.quiet_of_same (h.ask c _ (h.drew w n i))
theorem aTv(q:UInt8->Bool)(p:jA)(k:Nat)(a:k<p.size)(hq:q p[k]=true):(p.data.toList.drop k).takeWhile q=p[k]::(p.data.toList.drop (k+1)).takeWhile q:=by
 rw[aFs p k a,List.takeWhile_cons,jo hq]
theorem aTw(q:UInt8->Bool)(p:jA)(k:Nat)(a:k<p.size)(hq:q p[k]=false):(p.data.toList.drop k).takeWhile q=[]:=by
 rw[aFs p k a,List.takeWhile_cons,jh (by rw[hq];decide)]
theorem aTt(q:UInt8->Bool)(p:jA)(k:Nat)(a:¬k<p.size):(p.data.toList.drop k).takeWhile q=[]:=by
 rw[jC (by rw[<-Lib.size_eq];omega)]
 rfl
theorem aMO(F:Nat)(a:Array Value)(q:UInt8->Bool)(r:World->Prop)(g:Nat)(p:jA)(k m:Nat)(T:jA)(w:World)(n:aBf w g p k)(s:r w)(A:aAd F a q g r)(hp:p.size<=4000)
  (L:m=k+((p.data.toList.drop k).takeWhile q).length)(J:p.extract k m=T)(Y:m<=p.size):
  Calls prog 170 #[.pointer (some (jx g 0)),.func (Fn.func F) #[] a] w λe w'=>e=.returned (.string T)/\aAQ w g m w':=by
 have x:Hid (aAd F a q g r):=A
 have B:=A.call
 have O:=n.page
 have R:=n.at_
 have C:=n.frozen 1
 have G:k<=m:=by omega
 have M:Hid _:=L
 have I:Hid _:=J
 clear A L J
 go_enter func170,ntmps170
 go_wp2_with fail
 go_loopg [] (p.size+1-k) (λgk wr=>∃j:Nat,j+gk=p.size+1/\k<=j/\j<=m/\aBf wr g p j/\aAQ w g j wr/\r wr/\Hid (m=j+((p.data.toList.drop j).takeWhile q).length))
 case atStart=>exact⟨k,by omega,jf _,G,n,aAQ.still n,s,M⟩
 case round=>
  obtain⟨j,V,W,X,c,t,v,o⟩:=hrel
  have P:=c.page
  have S:=c.at_
  have U:=c.frozen 1
  have N:Hid (aBf w g p k):=n
  have i:Hid (aBf wr g p j):=c
  have d:Hid (aAQ w g j wr):=t
  have f:Hid (r wr):=v
  clear O R C n c t s v
  by_cases l:j<p.size
  ·have y:Hid (aBd 75 #[.pointer (some (jx g 0))] (.bool false) wr):=aFl g p j false (by simp;omega) wr i.out
   by_cases hq:q p[j]=true
   ·have z:Hid (aBd F (#[.int .u8 (p[j].toNat:Int)]++a) (.bool true) wr):=x.out.quiet p[j] true hq wr f.out
    have H:Hid (m=(j+1)+((p.data.toList.drop (j+1)).takeWhile q).length):=by
     unfold Hid
     have:=o.out
     rw[aTv q p j l hq,jm]at this
     omega
    have Z:IntKind.i64.wrap ((j:Int)+1)=((j+1:Nat):Int):=by rw[ju];omega
    have b:j+1<=m:=by have:=H.out;omega
    clear hq o
    go_wp2_with fail
    go_quiet (first|(go_at_call 75;exact y.out _)|exact z.out _)
    go_wp2_with fail
    go_roundg (gk-1)
    case measure=>omega
    case rel=>
     exact⟨j+1,by omega,by omega,b,(i.out.drewN _).set _,(d.out.then (aCY (jr _ _) _)).trans aAQ.of_set N.out,x.out.set _ _ (x.out.drew _ _ f.out),H⟩
   ·have z:Hid (aBd F (#[.int .u8 (p[j].toNat:Int)]++a) (.bool false) wr):=x.out.quiet p[j] false (by simpa using hq) wr f.out
    have b:m=j:=by
     have:=o.out
     rw[aTw q p j l (by simpa using hq),jag]at this
     omega
    subst b
    clear hq o
    go_wp2_with fail
    go_quiet (first|(go_at_call 75;exact y.out _)|exact z.out _)
    have D:(k:Int)<=(m:Int):=by omega
    have E:(m:Int)<=(p.size:Int):=by omega
    go_wp2_with fail
    go_region
    all_goals (
     go_wp2_with fail
     go_ret
     exact⟨by rw[<-I.out];rfl,d.out.then (aCY (jr _ _) _)⟩)
  ·have y:Hid (aBd 75 #[.pointer (some (jx g 0))] (.bool true) wr):=aFl g p j true (by simp;omega) wr i.out
   have b:m=j:=by
    have:=o.out
    rw[aTt q p j l,jag]at this
    omega
   subst b
   clear o
   go_wp2_with fail
   go_quiet (first|(go_at_call 75;exact y.out _)|fail)
   have D:(k:Int)<=(m:Int):=by omega
   have E:(m:Int)<=(p.size:Int):=by omega
   go_wp2_with fail
   go_region
   all_goals (
    go_wp2_with fail
    go_ret
    exact⟨by rw[<-I.out];rfl,d.out.then (aCY (jr _ _) _)⟩)
theorem aB9(g:Nat):aAd 172 #[] spB g (λ_=>True):=⟨λargs W=>by kernel_rfl,λc W _=>aQZ c _ rfl W,λ_ _ _=>trivial,λ_ _ _=>trivial⟩
theorem aCa(g:Nat):aAd 171 #[] aIv g (λ_=>True):=⟨λargs W=>by kernel_rfl,λc W _=>aRt c W,λ_ _ _=>trivial,λ_ _ _=>trivial⟩
theorem aCb(g:Nat):aAd 173 #[] aIt g (λ_=>True):=⟨λargs W=>by kernel_rfl,λc W _=>aRv c W,λ_ _ _=>trivial,λ_ _ _=>trivial⟩
theorem aB8(g:Nat):aAd 201 #[] aIr g (λ_=>True):=⟨λargs W=>by kernel_rfl,λc W _=>aCf c W,λ_ _ _=>trivial,λ_ _ _=>trivial⟩
theorem aCc(g:Nat):aAd 212 #[] aIs g (λ_=>True):=⟨λargs W=>by kernel_rfl,λc W _=>aUp c W,λ_ _ _=>trivial,λ_ _ _=>trivial⟩
theorem aCd(g h:Nat)(q:UInt8)(b:h≠g):aAd 213 #[.pointer (some (jx h 0))] (aLF q) g (λW=>W.cell? (jx h 0)=some (.int .u8 (q.toNat:Int))):=
 ⟨λargs W=>by kernel_rfl,λc W a=>aUq q c h W a,λ_ _ h=>h,λW v a=>by rw[jae _ _ _ _ (λe=>b (by cases e))];exact a⟩
theorem aRV(a:jB->jB):∀(n:Nat) (seen:List jB) (s:jB),(aRz a n seen s).1=none->(aRz a n seen s).2=[]
 |0,_,_,_=>rfl
 |n+1,seen,s,h=>by
  unfold aRz at h⊢
  cases d:s.dropWhile aIt with
  |nil=>rfl
  |cons c t=>
   rw[d]at h
   simp only at h⊢
   split at h
   ·cases h
   ·rename_i b
    rw[jh b]
    simp only[Option.map_eq_none_iff]at h
    exact aRV a n _ _ h
theorem aRC(a:jB->jB)(n:Nat)(seen:List jB):aRz a n seen []=(none,[]):=by
 cases n<;>simp[aRz]
theorem aRB(a:jB->jB)(n:Nat)(seen:List jB)(g:jB)(c:UInt8)(t:jB)(f:∀x∈g,aIt x=true)(d:aIt c=false):
  aRz a (n+1) seen (g++c::t)=if c=62 then(some [],t)else((aRz a n (a (aLm (c::t))::seen) (aCg (c::t)).2).1.map (aLf seen (a (aLm (c::t))) (aCg (c::t)).1++·),(aRz a n (a (aLm (c::t))::seen) (aCg (c::t)).2).2):=by
 obtain⟨_,e⟩:=aTr aIt g (c::t) f (λy b=>by simp at b;subst b;exact d)
 rw[aRz,e]
theorem aJY(t:jB)(a:List SG)(k:Nat):aJW ((false,t)::a) k=aJW a k:=rfl
theorem aJZ(t:jB)(a:List SG)(k:Nat):aJW ((true,t)::a) k=((t++aG5 a).length+k,t)::aJW a k:=rfl
theorem aG8(b:Bool)(t:jB)(a:List SG):aG5 ((b,t)::a)=t++aG5 a:=rfl
theorem aRW(f:jB->jB):∀(n:Nat) (seen:List jB) (s:jB) (l:List LK) (rest:jB),aRz f n seen s=(some l,rest)->
  ∃c b ss,s=aG5 ((false,c::b)::ss)++rest/\l=aJW ((false,c::b)::ss) rest.length/\
   ∀(j:List SG) (a:jB) (A:Nat),Rep ss j->(aG5 ((false,c::b)::j)++a).length<A->aRz f A seen (aG5 ((false,c::b)::j)++a)=(some (aJW ((false,c::b)::j) a.length),a)
 |0,_,_,_,_,h=>by simp[aRz]at h
 |n+1,seen,s,l,rest,h=>by
  have Y:=aTs aIt s
  have O:=aTq aIt s
  have hst:=aFB aIt s
  cases hd:s.dropWhile aIt with
  |nil=>rw[aRz,hd]at h;simp at h
  |cons c t=>
   rw[hd]at Y hst
   have T:=hst c rfl
   generalize s.takeWhile aIt=g at Y O
   subst Y
   rw[aRB f n seen g c t O T]at h
   by_cases B:c=62
   ·rw[jo B]at h
    subst B
    simp only[jcu,jac]at h
    obtain⟨rfl,rfl⟩:=h
    have p:∃c0 b,g++[62]=c0::b:=by cases g<;>simp
    obtain⟨c0,b,i⟩:=p
    refine⟨c0,b,[],by rw[aG8,<-i];simp[aG5],rfl,λj a A J C=>?_⟩
    rw[J.nil]at C⊢
    rw[aG8,<-i]at C⊢
    simp only[aG5,j6,jJ,jL,jaf]at C⊢
    obtain⟨m,rfl⟩:∃m,A=m+1:=⟨A-1,by omega⟩
    rw[aRB f m seen g 62 a O T,jo rfl]
    rfl
   ·rw[jh B]at h
    simp only[jcu,jdf]at h
    obtain⟨⟨l1,h1,S⟩,h3⟩:=h
    have E:aRz f n (f (aLm (c::t))::seen) (aCg (c::t)).2=(some l1,rest):=jej h1 h3
    have U:(aCg (c::t)).2≠[]:=λe=>by rw[e,aRC]at E;simp at E
    obtain⟨c1,d,N,P,k2,W⟩:=aRW f n _ _ _ _ E
    have z:=aCp c t (aCg (c::t)).1 (aCg (c::t)).2 rfl U
    generalize (aCg (c::t)).2=r at P z U
    generalize (aCg (c::t)).1=v at S z
    generalize M:aLm (c::t)=nm at S W z
    have q:∀(j:List SG) (a:jB),(aG5 ((false,c1::d)::j)++a).head?=r.head?:=by
     intro j a;rw[P];rfl
    rcases z with⟨rfl,c2,y,e1,X⟩|⟨x,rfl,c2,y,G,k,e1,X,e3⟩
    ·have L:c2=c:=by rw[jL]at e1;exact(j4 e1).1.symm
     subst L
     have p:∃c0 b,g++(c2::y)=c0::b:=by cases g<;>simp
     obtain⟨c0,b,i⟩:=p
     refine⟨c0,b,(false,c1::d)::N,?_,?_,λj a A J C=>?_⟩
     ·rw[aG8,<-i,e1,P];simp
     ·rw[<-S,k2];rfl
     ·obtain⟨o,rfl,D⟩:=J.lit
      have R:aG5 ((false,c0::b)::(false,c1::d)::o)++a=g++c2::(y++(aG5 ((false,c1::d)::o)++a)):=by
       rw[aG8,<-i];simp
      rw[R]at C⊢
      obtain⟨m,rfl⟩:∃m,A=m+1:=⟨A-1,by omega⟩
      obtain⟨H,I⟩:=X (aG5 ((false,c1::d)::o)++a) (q o a)
      rw[jL]at H I
      rw[aRB f m seen g c2 _ O T,jh B,H,I,M]
      rw[W o a m D (by simp only[je,jm]at C⊢;omega)]
      rfl
    ·have L:c2=c:=by rw[jL]at e1;exact(j4 e1).1.symm
     subst L
     by_cases V:seen.contains (f nm)=false/\(f nm=aIg\/f nm=aQ8)
     ·have p:∃c0 b,g++(c2::y)=c0::b:=by cases g<;>simp
      obtain⟨c0,b,i⟩:=p
      refine⟨c0,b,(true,G)::(false,k)::(false,c1::d)::N,?_,?_,λj a A J C=>?_⟩
      ·rw[aG8,<-i,e1,P];simp[aG5]
      ·rw[<-S,k2,X,P]
       simp only[aLf,aJY,aJZ]
       rw[jo V]
       simp[aG5];omega
      ·obtain⟨F,ac,rfl,ab,D⟩:=J.val
       obtain⟨ad,rfl,Z⟩:=D.lit
       obtain⟨o,rfl,aa⟩:=Z.lit
       have R:aG5 ((false,c0::b)::(true,F)::(false,k)::(false,c1::d)::o)++a=g++c2::(y++(F++(k++(aG5 ((false,c1::d)::o)++a)))):=by
        rw[aG8,<-i];simp[aG5]
       rw[R]at C⊢
       obtain⟨m,rfl⟩:∃m,A=m+1:=⟨A-1,by omega⟩
       obtain⟨H,I⟩:=e3 F (aG5 ((false,c1::d)::o)++a) ab (q o a)
       rw[jL]at H I
       rw[aRB f m seen g c2 _ O T,jh B,H,I,M]
       rw[W o a m aa (by simp only[je,jm]at C⊢;omega)]
       simp only[aLf,aJY,aJZ]
       rw[jo V]
       simp[aG5];omega
     ·have p:∃c0 b,g++((c2::y)++(G++k))=c0::b:=by cases g<;>simp
      obtain⟨c0,b,i⟩:=p
      refine⟨c0,b,(false,c1::d)::N,?_,?_,λj a A J C=>?_⟩
      ·rw[aG8,<-i,e1,P];simp
      ·rw[<-S,k2]
       simp only[aLf,aJY]
       rw[jh V]
       rfl
      ·obtain⟨o,rfl,D⟩:=J.lit
       have R:aG5 ((false,c0::b)::(false,c1::d)::o)++a=g++c2::(y++(G++(k++(aG5 ((false,c1::d)::o)++a)))):=by
        rw[aG8,<-i];simp
       rw[R]at C⊢
       obtain⟨m,rfl⟩:∃m,A=m+1:=⟨A-1,by omega⟩
       obtain⟨H,I⟩:=e3 G (aG5 ((false,c1::d)::o)++a) (.inl rfl) (q o a)
       rw[jL]at H I
       rw[aRB f m seen g c2 _ O T,jh B,H,I,M]
       rw[W o a m D (by simp only[je,jm]at C⊢;omega)]
       simp only[aLf,aJY]
       rw[jh V]
       rfl
theorem aCW(m s:jB)(A:m≠[]):(Lib.index s m<0/\aCT m s=[])\/∃x,s=x++(m++aCT m s)/\∀r,aCT m (x++(m++r))=r:=by
 have o:0<m.length:=jbr.2 A
 rcases Lib.index_spec s m with⟨h,_⟩|⟨i,h,C,n,g⟩
 ·left
  have:Lib.index s m<0:=by omega
  exact⟨this,by unfold aCT;rw[jo this]⟩
 ·right
  have B:m<+:s.drop i:=by unfold Lib.occAt at n;exact jap.1 n
  obtain⟨l,f⟩:=B
  have y:aCT m s=s.drop (i+m.length):=by unfold aCT;rw[jh (by omega),h];rfl
  have b:s.drop (i+m.length)=l:=by rw[<-jay,<-f];simp
  have k:s=s.take i++(m++l):=by rw[f,jaq]
  have a:(s.take i).length=i:=by simp;omega
  refine⟨s.take i,by rw[y,b];exact k,λr=>?_⟩
  generalize s.take i=x at k a
  have d:Lib.index (x++(m++r)) m=(i:Int):=by
   refine Lib.index_hit (λj z=>?_) (by simp;omega) ?_
   ·have c:=g j z
    unfold Lib.occAt at c⊢
    rw[k]at c
    have e:∀q:jB,(x++(m++q)).drop j=(x.drop j++m)++q:=λq=>by rw[List.drop_append_of_le_length (by omega),jJ]
    rw[e]at c⊢
    cases hh:m.isPrefixOf ((x.drop j++m)++r)with
    |false=>rfl
    |true=>
     have p:=jap.1 hh
     have t:m<+:x.drop j++m:=List.prefix_of_prefix_length_le p (jdv _ _) (by simp)
     have v:m<+:(x.drop j++m)++l:=t.trans (jdv _ _)
     rw[jap.2 v]at c
     cases c
   ·unfold Lib.occAt
    rw[<-a,jbd]
    exact jap.2 (jdv _ _)
  unfold aCT
  rw[jh (by omega),d]
  rw[jco,<-jay,<-a,jbd,jbd]
end Go.Proofs.YtbbfcbodhmeanaaGreatDoor
