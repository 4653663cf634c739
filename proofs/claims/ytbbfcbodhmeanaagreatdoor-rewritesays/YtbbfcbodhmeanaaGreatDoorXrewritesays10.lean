import Derived.Test.YtbbfcbodhmeanaaGreatDoorXrewritesays9
import Derived.Lib.AppendStr
set_option maxHeartbeats 8000000
set_option maxRecDepth 1000000
namespace Go.Proofs.YtbbfcbodhmeanaaGreatDoor
open Go.Proofs.Tryz
open Go.RowKit
theorem aED(w:World)(p:jO)(n c:Nat)(L:jB)(f:n=L.length)(l:aAe w p L)(k:p=none->n=0/\c=0):(convert 22 9 (.slice p n c)).run prog w=.ok (.string ⟨L.toArray⟩) w:=by
 cases p with
 |none=>
  obtain⟨g,rfl⟩:=k rfl
  subst g
  obtain rfl:L=[]:=js.1 f.symm
  exact aEE w
 |some a=>
  subst f
  refine run_convert_bytes_back (P:=prog) w 22 9 5 a c L underlying22 underlying5 underlying9 (λj d=>?_)
  obtain⟨b,o,e,i⟩:=l (λe=>by rw[e]at d;exact absurd d (by simp))
  obtain rfl:=jI e
  rw[jaa,i j d]
  simp[List.getD_eq_getElem?_getD,List.getElem?_eq_getElem d]
theorem aK1(n:Nat)(l:List LK):∀u∈lv n l,u.oneCell'=true:=by
 intro u a
 simp only[lv,jct,lkv]at a
 obtain⟨x,_,b⟩:=a
 simp at b
 rcases b with rfl|rfl|rfl<;>rfl
theorem aB5{w:World}{f:Array Oper}{rest:List Oper}{o:Oper}{a:Act}{Q:Exit->Act->World->Prop}(d:o.guard=none)(s x:Operand)
  (y:o.op=.call {callee:=.builtin .append,args:=#[s,x],argTypes:=#[65,65]})
  (base:Nat)(v:Value)(n:Nat)(j:List Value)(A:a.eval s=v)(b:w.ownsRow base 40 3 v n j)
  (E:Nat)(D:Value)(N:Nat)(l:List LK)(B:a.eval x=D)(z:w.ownsRow E 40 3 D l.length (lv N l))
  (J:n+l.length<=100000000)(c:base<=w.heap.size)
  (h:∀i w',w'.ownsRow base 40 3 i (n+l.length) (j++lv N l)->w.grownBy w' v.ownBlock->wpList prog f Q rest (a.put o.dst i) w'):wpList prog f Q (o::rest) a w:=by
 obtain⟨C,t,p,q,r⟩:=jao aII
 have k:=λg L=>z.cells (g:=g) L
 rcases z.2 with⟨m,G⟩|⟨g,cap,F,m,_⟩
 ·subst m
  have M:l=[]:=js.1 G
  subst M
  refine wpList_append_own_none d s x 65 y base 40 C 3 underlying65 t v n j A b B ?_
  refine h v w (by simpa [lv] using b) (World.grownBy.refl _ _)
 ·subst m
  refine jX _ d s x 65 y base 40 C (.agg #[.int .i64 0,.int .i64 0,.string jz]) 3 32 underlying65 t p q r rfl (by decide) v n j A b (jx g 0) l.length cap (lv N l) B (aK0 N l) (k g rfl) (aK1 N l) (by unfold maxLen;omega) (by omega) c (λi w' H I _=>h i w' H I)
def aAv(w:World)(N:Nat)(r:Option (List LK))(e:Ending)(w':World):Prop:=jb w w'/\match r with
 |none=>e=.returned (.tuple #[.slice none 0 0,.int .i64 2])
 |some l=>∃v,e=.returned (.tuple #[v,.int .i64 0])/\w'.ownsRow w.heap.size 40 3 v l.length (lv N l)
structure aAt(w:World)(G:Nat)(p:jA)(b:jB)(gk:Nat)(v:Value)(wr:World)(sj:jB)(acc:List LK):Prop where
 few:sj.length<gk
 la:acc.length<=60
 suf:Suf p sj
 rd:aBf wr G p (pos p sj)
 bel:jb w wr
 own:wr.ownsRow (w.heap.size+1) 40 3 v acc.length (lv p.size acc)
 eq:aGz aKG b=aGw aKG sj.length acc sj
theorem aRQ(a:jB->jB):∀(n:Nat) (seen:List jB) (s:jB) (l:List LK),(aRz a n seen s).1=some l->l.length<=s.length
 |0,_,_,_,h=>by cases h
 |n+1,seen,s,l,h=>by
  unfold aRz at h
  cases b:s.dropWhile aIt with
  |nil=>rw[b]at h;cases h
  |cons c t=>
   rw[b]at h
   simp only at h
   have g:=aFx b
   have i:=aCl c t
   split at h
   ·cases h;exact jy _
   ·simp only[jdf]at h
    obtain⟨f,d,rfl⟩:=h
    have j:=aRQ a n _ _ f d
    have k:(aLf seen (a (aLm (c::t))) (aCg (c::t)).1).length<=1:=by
     unfold aLf
     split
     ·exact jy _
     ·split<;>simp
    rw[je]
    omega
theorem aM0(a:jB->jB)(s:jB):(aMT a s).1.length<=s.length:=by
 unfold aMT
 split
 ·exact jy _
 ·split
  ·exact jy _
  ·split
   ·simp only[aRD]
    cases h:(aRz a ((List.dropWhile aIv (List.drop 1 s)).length+1) [] (List.dropWhile aIv (List.drop 1 s))).1 with
    |none=>exact jy _
    |some l=>
     have c:=aRQ a _ _ _ l h
     have b:=aFz aIv (List.drop 1 s)
     rw[jH]at b
     simp only[Option.getD_some]
     omega
   ·split<;>exact jy _
theorem aGF(Z:World)(HE:aAI Z)(q:jO)(n c:Nat)(b:jB)(en:n=b.length)(w:World)(hb:jb Z w)(hr:aAe w q b)(hq:q=none->n=0/\c=0):
  Calls prog 35 #[.slice q n c] w λe w'=>aAv w b.length (aGz aKG b) e w':=by
 by_cases h4:4000<n
 ·have ac:(4000:Int)<(n:Int):=by omega
  have N:Hid (aGz aKG b=none):=by unfold Hid aGz;rw[jo (by omega)]
  clear en
  go_enter func35,ntmps35
  go_wp2_with fail
  go_ret2
  show aAv _ _ _ _ _
  rw[N.out]
  exact⟨jr _ _,rfl⟩
 ·have ac:¬(4000:Int)<(n:Int):=by omega
  have U:=aED w q n c b en hr hq
  obtain⟨p,hp⟩:∃p,p=lba b:=⟨_,rfl⟩
  have H:p.size=b.length:=by rw[hp,aJC]
  have X:p.data.toList=b:=by rw[hp];rfl
  have V:(convert 22 9 (.slice q n c)).run prog w=.ok (.string p) w:=by rw[hp];exact U
  have ad:p.size<=4000:=by omega
  have HG:Hid _:=hb.size
  have aa:Hid (aAI Z):=HE
  have HB:Hid _:=hb
  have T:jb w (w.alloc (.cells #[.string p,.int .i64 0] 121)):=ja _ _
  have Y:aBf (w.alloc (.cells #[.string p,.int .i64 0] 121)) w.heap.size p (pos p b):=by
   have:=aOM w p 0
   have e:((pos p b:Nat):Int)=0:=by unfold pos;omega
   rw[e]
   exact this
  have M:Hid (aAt w w.heap.size p b (b.length+1) (.slice none 0 0) (w.alloc (.cells #[.string p,.int .i64 0] 121)) b []):=⟨jdk _,by simp,by unfold Suf;rw[X];exact List.suffix_refl _,Y,T,jT _ _ _ _,by unfold aGz;rw[jh (by omega)]⟩
  have aj:Hid _:=H
  have P:Hid (∀e w',aAv w p.size (aGz aKG b) e w'->aAv w b.length (aGz aKG b) e w'):=λe w' h=>H▸h
  clear U hp X en hr hq HE hb T Y H
  go_enter func35,ntmps35
  go_wp2_with fail
  go_loopg [5] (b.length+1) (λgk v wr=>∃(d:jB) (a:List LK),Hid (aAt w w.heap.size p b gk v wr d a))
  case atStart=>exact⟨b,[],M⟩
  case round=>
   obtain⟨d,a,i⟩:=hrel
   clear M V
   obtain⟨a3,c3,rfl,hac,ak,am⟩:=aQC i.out.own
   have al:=i.out.la
   have l:=i.out.suf
   have CD:Hid (∀W,aBf W w.heap.size p (pos p d)->Calls prog 75 #[.pointer (some (jx w.heap.size 0))] W λe w'=>e=.returned (.bool (decide (d=[])))/\∃m,w'=W.drewN m):=λW hW=>aFm _ p _ l _ rfl W hW
   go_wp2_with fail
   refine(CD.out _ i.out.rd).mono ?_
   rintro e w2 ⟨rfl,L,rfl⟩
   clear CD
   by_cases z:d=[]
   ·rw[j3 z]
    have N:Hid (aGz aKG b=some a):=by unfold Hid;rw[i.out.eq,z];rfl
    have HF:Hid (jb w (wr.drewN L)):=aCY i.out.bel _
    have HO:Hid ((wr.drewN L).ownsRow w.heap.size 40 3 (.slice a3 a.length c3) a.length (lv p.size a)):=aMl i.out.own (by omega)
    clear i z l
    go_wp2_with fail
    go_ret2
    refine P.out _ _ ?_
    show aAv _ _ _ _ _
    rw[N.out]
    exact⟨HF.out,_,rfl,HO.out⟩
   ·rw[jV z]
    have D:=i.out.rd.drewN L
    have A:jb w (wr.drewN L):=aCY i.out.bel _
    have O:(wr.drewN L).ownsRow (w.heap.size+1) 40 3 (.slice a3 a.length c3) a.length (lv p.size a):=i.out.own
    generalize wr.drewN L=w2 at*
    have CP:Hid (Calls prog 76 #[.pointer (some (jx w.heap.size 0))] w2 λe w'=>aBo w2 w.heap.size p (some (aMT aKG d).1,(aMT aKG d).2) e w'):=aMU Z aa.out w.heap.size HG.out p d z l w2 D (HB.out.trans (A.mono HG.out)) ad
    have s:Hid (aGz aKG b=if 60<(a++(aMT aKG d).1).length then none else aGw aKG (aMT aKG d).2.length (a++(aMT aKG d).1) (aMT aKG d).2):=by
     unfold Hid
     rw[i.out.eq]
     cases d with
     |nil=>exact absurd rfl z
     |cons c t=>
      have hl:=aM3 aKG c t
      rw[jm,aGw,jh (by simp)]
      rw[aGx aKG t.length (aMT aKG (c::t)).2.length _ _ (by simp only[jm]at hl;omega) (jf _)]
    have ae:(aMT aKG d).2.length<gk-1:=by
     have h1:=i.out.few
     cases d with
     |nil=>exact absurd rfl z
     |cons c t=>have:=aM3 aKG c t;omega
    have an:(aMT aKG d).1.length<=4000:=by have:=aM0 aKG d;have:=l.len;omega
    have E:Hid (Suf p (aMT aKG d).2):=(aNb aKG d).trans l
    have ah:=i.out.few
    clear i z l
    generalize (aMT aKG d).1=o at*
    generalize (aMT aKG d).2=R2 at*
    go_wp2_with fail
    refine CP.out.mono ?_
    rintro e w3 ⟨v3,rfl,f,y⟩
    simp only[Option.getD_some]at f
    have I:=y.rd D
    have F:jb w w3:=y.base A (jf _)
    have j:=y.owns O (by omega)
    have ai:=I.lt
    have C:Hid (∀k,(Value.slice a3 a.length c3).ownBlock=some k->w.heap.size+1<=k/\k<w3.heap.size):=j.lt
    obtain⟨a4,c4,rfl,_,_,_⟩:=aQC f
    clear CP D A O y
    go_wp2_with (at_builtin;refine aB5 rfl (.tmp 16) (.tmp 18) rfl (w.heap.size+1) _ a.length (lv p.size a) rfl j _ _ p.size o rfl f (by omega) (by omega) ?_)
    intro v5 w5 r G
    have J:aBf w5 w.heap.size p (pos p R2):=I.grown G (by intro e;have:=C.out _ e.symm;omega)
    have x:jb w w5:=F.grown G F.size (λk hk=>by have:=C.out k hk;omega)
    have g:w5.ownsRow (w.heap.size+1) 40 3 v5 (a++o).length (lv p.size (a++o)):=by rw[aKY,je];exact r
    clear r G I F j f C
    obtain⟨a5,c5,rfl,af,ag,_⟩:=aQC g
    have e5:(a++o).length=a.length+o.length:=je
    have B:Hid _:=g
    clear g
    by_cases R:60<(a++o).length
    ·have S:(60:Int)<(((a++o).length:Nat):Int):=by omega
     have N:Hid (aGz aKG b=none):=by unfold Hid;rw[s.out,jo R]
     have HF:Hid _:=x
     clear s J x B E e5
     generalize (a++o).length=nn at*
     go_wp2_with fail
     go_ret2
     refine P.out _ _ ?_
     show aAv _ _ _ _ _
     rw[N.out]
     exact⟨HF.out,rfl⟩
    ·have S:¬(60:Int)<(((a++o).length:Nat):Int):=by omega
     have ab:Hid (aAt w w.heap.size p b (gk-1) (.slice a5 (a++o).length c5) w5 R2 (a++o)):=⟨ae,by omega,E.out,J,x,B.out,by rw[s.out,jh R]⟩
     clear s J x B E e5
     generalize (a++o).length=nn at*
     go_wp2_with fail
     go_roundg (gk-1)
     case measure=>omega
     case rel=>exact⟨R2,a++o,ab⟩
def aO2:List SG->List jB->List SG
 |[],_=>[]
 |(false,x)::ss,ts=>(false,x)::aO2 ss ts
 |(true,r)::ss,t::ts=>(true,if t=[]then r else t)::aO2 ss ts
 |(true,r)::ss,[]=>(true,r)::aO2 ss []
theorem aGq:∀(b:List SG) (c:List jB) (a:jB),c.length=(aJW b 0).length->aGe (aJW b 0) c (a++aG5 b)=a++aG5 (aO2 b c)
 |[],c,a,h=>by
  obtain rfl:c=[]:=js.1 h
  rfl
 |(false,x)::b,c,a,h=>by
  rw[aJY]at h⊢
  have:=aGq b c (a++x) h
  rw[aG8,<-jJ,this,aO2,aG8,jJ]
 |(true,r)::b,[],a,h=>by rw[aJZ]at h;cases h
 |(true,r)::b,t::c,a,h=>by
  rw[aJZ]at h⊢
  have d:c.length=(aJW b 0).length:=by simpa using h
  rw[aGe,aO2]
  split
  ·have:=aGq b c (a++r) d
   rw[aG8,<-jJ,this,aG8,jJ]
  ·have:=aGq b c [] d
   rw[jaf,jaf]at this
   have e1:(a++aG5 ((true,r)::b)).length-((r++aG5 b).length+0)=a.length:=by rw[aG8];simp only[je];omega
   simp only
   rw[e1,aG8,jci,<-jay,jbd,jbd,this,aG8,jJ]
theorem aO0:∀(a:List SG) (b:List jB),b.all aNs=true->Rep a (aO2 a b)
 |[],_,_=>trivial
 |(false,x)::a,b,h=>⟨rfl,(λe=>by cases e),λ_=>rfl,aO0 a b h⟩
 |(true,r)::a,[],h=>⟨rfl,λ_=>.inl rfl,(λe=>by cases e),aO0 a [] h⟩
 |(true,r)::a,t::b,h=>by
  simp only[jcv,j7]at h
  refine⟨rfl,λ_=>?_,(λe=>by cases e),aO0 a b h.2⟩
  show okR r (if t=[]then r else t)
  split
  ·exact .inl rfl
  ·rename_i c
   exact .inr ⟨c,h.1⟩
theorem aOo(f:jB->jB)(b:jB)(l:List LK)(a:List jB)(i:aGz f b=some l)(n:a.length=l.length)(o:a.all aNs=true)(m:(aGe l a b).length<=4000):
  ∃d,b=aG5 d/\l=aJW d 0/\aGe l a b=aG5 (aO2 d a)/\aGz f (aGe l a b)=some (aJW (aO2 d a) 0):=by
 unfold aGz at i
 split at i
 ·cases i
 ·obtain⟨d,j,g,k⟩:=aGL f b.length [] b l (jf _) i
  rw[jaf]at g
  have c:aGe l a b=aG5 (aO2 d a):=by
   have:=aGq d a [] (by rw[<-g];exact n)
   rw[jaf,jaf,<-j,<-g]at this
   exact this
  refine⟨d,j,g,c,?_⟩
  rw[c]at m⊢
  unfold aGz
  rw[jh (by omega)]
  have:=(k (aO2 d a) [] (aG5 (aO2 d a)).length (aO0 d a o) rfl (jf _)).1
  rw[this,jaf]
theorem aO3:∀(a:List SG) (b:List jB) (k m:Nat),(aJW (aO2 a b) k).length=(aJW a m).length
 |[],_,_,_=>rfl
 |(false,x)::a,b,k,m=>by rw[aO2,aJY,aJY];exact aO3 a b k m
 |(true,r)::a,[],k,m=>by rw[aO2,aJZ,aJZ];simp[aO3 a [] k m]
 |(true,r)::a,t::b,k,m=>by rw[aO2,aJZ,aJZ];simp[aO3 a b k m]
theorem aLx:∀(d:List SG) (g:List jB) (x:LK) (i:List LK) (t:jB) (b:List jB),aJW d 0=x::i->g=t::b->
  ∃c a,aG5 d=c++(x.2++aG5 a)/\x.1=(x.2++aG5 a).length/\i=aJW a 0/\
   ∃f,f=(if t=[]then x.2 else t)/\aG5 (aO2 d g)=c++(f++aG5 (aO2 a b))/\aJW (aO2 d g) 0=((f++aG5 (aO2 a b)).length,f)::aJW (aO2 a b) 0
 |[],_,_,_,_,_,h,_=>by cases h
 |(false,y)::d,g,x,i,t,b,h,e=>by
  rw[aJY]at h
  obtain⟨c,a,j,k,l,f,m,n,o⟩:=aLx d g x i t b h e
  refine⟨y++c,a,by rw[aG8,j,jJ],k,l,f,m,?_,?_⟩
  ·rw[aO2,aG8,n,jJ]
  ·rw[aO2,aJY,o]
 |(true,r)::d,g,x,i,t,b,h,e=>by
  subst e
  rw[aJZ]at h
  obtain⟨rfl,rfl⟩:=j4 h
  refine⟨[],d,by rw[aG8];rfl,rfl,rfl,_,rfl,?_,?_⟩
  ·rw[aO2,aG8];rfl
  ·rw[aO2,aJZ];rfl
theorem aIC(d:UInt8)(s a:jB)(h:∀c∈a,c≠d):Lib.index a (d::s)=-1:=by
 induction a with
 |nil=>rfl
 |cons c a g=>
  have b:(d==c)=false:=by simp;exact λe=>h c (by simp) e.symm
  have:=g (λe f=>h e (by simp[f]))
  simp[Lib.index,List.isPrefixOf,b,this]
theorem aTZ(t:jB)(h:∀c∈t,c≠38):aTW t=t:=by
 have a:Lib.index t aBY=-1:=aIC 38 [97,109,112,59] t h
 unfold aTW Lib.replaceAll Lib.replace
 rw[jh (by decide)]
 have:Lib.count t aBY=0:=Lib.count_miss a
 unfold Lib.replaceNum
 rw[jo (.inl (by decide)),this]
 rfl
theorem aT0(t:jB)(h:aNs t=true):aTW t=t:=aTZ t λc a=>(aLW (jR.1 h c a)).2.2.2
def aAH(w:World)(p:jO)(N:Nat)(l:List LK):Prop:=l≠[]->∃b,p=some (jx b 0)/\∀i,i<l.length->w.cell? ⟨b,i*3,none⟩=some (.int .i64 ((N-(l.getD i (0,[])).1:Nat):Int))/\w.cell? ⟨b,i*3+1,none⟩=some (.int .i64 ((N-(l.getD i (0,[])).1+(l.getD i (0,[])).2.length:Nat):Int))/\w.cell? ⟨b,i*3+2,none⟩=some (.string (lba (aTW (l.getD i (0,[])).2)))
theorem aAH.below{w w':World}{p:jO}{N:Nat}{l:List LK}(h:aAH w p N l)(c:jb w w'):aAH w' p N l:=by
 intro d
 obtain⟨b,rfl,f⟩:=h d
 refine⟨b,rfl,λi g=>?_⟩
 obtain⟨c0,c1,c2⟩:=f i g
 have a:=ji w _ c0
 exact⟨(c.cell (p:=⟨b,i*3,none⟩) a).trans c0,(c.cell (p:=⟨b,i*3+1,none⟩) a).trans c1,(c.cell (p:=⟨b,i*3+2,none⟩) a).trans c2⟩
theorem aKZ(N:Nat):∀(l:List LK) (i:Nat),i<l.length->(lv N l)[i*3]?=some (.int .i64 ((N-(l.getD i (0,[])).1:Nat):Int))/\(lv N l)[i*3+1]?=some (.int .i64 ((N-(l.getD i (0,[])).1+(l.getD i (0,[])).2.length:Nat):Int))/\(lv N l)[i*3+2]?=some (.string (lba (aTW (l.getD i (0,[])).2)))
 |[],i,h=>by simp at h
 |x::l,0,_=>by simp[lv,lkv]
 |x::l,i+1,h=>by
  have e:lv N (x::l)=(lkv N x).toList++lv N l:=by simp[lv]
  have a:(lkv N x).toList.length=3:=by simp[lkv]
  have:=aKZ N l i (by simpa using h)
  have e1:∀j,((lkv N x).toList++lv N l)[(i+1)*3+j]?=(lv N l)[i*3+j]?:=λj=>by
   rw[jS (by rw[a];omega),a,show(i+1)*3+j-3=i*3+j from by omega]
  have e0:=e1 0
  simp only[jcd]at e0
  rw[e,e0,e1 1,e1 2]
  simpa using this
theorem aMe{w:World}{B N:Nat}{v:Value}{l:List LK}(h:w.ownsRow B 40 3 v l.length (lv N l)):∃p c,v=.slice p l.length c/\l.length<=c/\c<=maxLen/\(p=none->l.length=0/\c=0)/\aAH w p N l:=by
 have a:=λg n=>h.cells (g:=g) n
 rcases h.2 with⟨rfl,d⟩|⟨g,cap,m,rfl,_,_,r,q,_,_⟩
 ·exact⟨none,0,by rw[d],by omega,by decide,λ_=>⟨d,rfl⟩,λb=>absurd (js.1 d) b⟩
 ·refine⟨some (jx g 0),cap,rfl,r,q,(λh=>by cases h),λb=>⟨g,rfl,λi o=>?_⟩⟩
  obtain⟨c0,c1,c2⟩:=aKZ N l i o
  have f:=a g rfl (i*3) _ c0
  have j:=a g rfl (i*3+1) _ c1
  have k:=a g rfl (i*3+2) _ c2
  rw[jaa,j0]at f j k
  exact⟨f,j,k⟩
def Ord(N:Nat):Nat->List LK->Prop
 |_,[]=>True
 |d,x::ls=>x.1<=N/\d<=N-x.1/\x.2.length<=x.1/\Ord N (N-x.1+x.2.length) ls
theorem Ord.mono{N:Nat}:∀{l:List LK} {d a:Nat},Ord N d l->a<=d->Ord N a l
 |[],_,_,_,_=>trivial
 |_::_,_,_,h,hd=>⟨h.1,j1 hd h.2.1,h.2.2.1,h.2.2.2⟩
theorem aL4:∀(a:List SG) (N d:Nat),d+(aG5 a).length=N->Ord N d (aJW a 0)
 |[],_,_,_=>trivial
 |(false,t)::a,N,d,h=>by
  rw[aJY]
  rw[aG8,je]at h
  exact(aL4 a N (d+t.length) (by omega)).mono (by omega)
 |(true,t)::a,N,d,h=>by
  rw[aJZ]
  rw[aG8,je]at h
  have e:N-((t++aG5 a).length+0)=d:=by rw[je];omega
  refine⟨by simp only[je];omega,by simp only[e];omega,by simp only[je];omega,?_⟩
  simp only[e]
  exact aL4 a N (d+t.length) (by omega)
theorem aGK(c:jB->jB)(b:jB)(l:List LK)(h:aGz c b=some l):Ord b.length 0 l/\l.length<=60/\b.length<=4000:=by
 unfold aGz at h
 split at h
 ·cases h
 ·rename_i m
  obtain⟨k,g,f,_⟩:=aGL c b.length [] b l (jf _) h
  rw[jaf]at f
  refine⟨by rw[f];exact aL4 k b.length 0 (by rw[<-g];simp),?_,by omega⟩
  have:∀(n:Nat) (a:List LK) (s:jB) (L:List LK),aGw c n a s=some L->a.length<=60->L.length<=60:=by
   intro n
   induction n with
   |zero=>intro a s L h d;simp only[aGw,jac]at h;rw[<-h];exact d
   |succ n j=>
    intro a s L h d
    rw[aGw]at h
    split at h
    ·simp only[jac]at h;rw[<-h];exact d
    ·split at h
     ·cases h
     ·rename_i i
      exact j _ _ _ h (by omega)
  exact this _ _ _ _ h (by simp)
theorem aNv(c:UInt8)(t:jB):aNs (c::t)=(okT c&&aNs t):=rfl
theorem aNt(s:jA)(w:World)(p:s.size<=maxLen):
  Calls prog 77 #[.string s] w λe w'=>e=.returned (.bool (aNs s.data.toList))/\w'=w:=by
 unfold maxLen at p
 go_enter func77,ntmps77
 go_wp2
 go_loop [6] (λiv=>∃k:Nat,k<=s.size/\iv=.int .i64 k/\Hid (aNs (s.data.toList.drop k)=aNs s.data.toList)) (λiv=>s.size-(intOf iv).toNat)
 case atStart=>exact⟨0,jy _,rfl,rfl⟩
 case round=>
  obtain⟨k,t,rfl,c⟩:=hrel
  by_cases o:k<s.size
  ·have a:Hid (aNs (s.data.toList.drop k)=(okT s[k]&&aNs (s.data.toList.drop (k+1)))):=by unfold Hid;rw[aFs s k o,aNv]
   by_cases q:s[k].toNat<33
   ·have d:Hid (aNs s.data.toList=false):=by
     unfold Hid
     rw[<-c.out,a.out,show okT s[k]=false from by simp[okT];omega];rfl
    have m:(s[k].toNat:Int)<33:=by omega
    clear a c
    go_wp2
    go_ret
    exact⟨by rw[d.out];rfl,rfl⟩
   ·have m:decide ((s[k].toNat:Int)<33)=false:=by simp;omega
    by_cases r:126<s[k].toNat
    ·have d:Hid (aNs s.data.toList=false):=by
      unfold Hid
      rw[<-c.out,a.out,show okT s[k]=false from by simp[okT];omega];rfl
     have n:(126:Int)<(s[k].toNat:Int):=by omega
     clear a c
     go_wp2
     go_ret
     exact⟨by rw[d.out];rfl,rfl⟩
    ·have n:decide ((126:Int)<(s[k].toNat:Int))=false:=by simp;omega
     cases j:([34,39,60,62,38,61]:jB).contains s[k]
     ·have d:Hid (aNs (s.data.toList.drop (k+1))=aNs s.data.toList):=by
       unfold Hid
       rw[<-c.out,a.out,show okT s[k]=true from by simp only[okT,j];simp;omega];rfl
      have l:Hid _:=j
      clear a c j
      go_wp2_with (go_at_call 93;refine(aI5 ⟨#[34,39,60,62,38,61]⟩ [34,39,60,62,38,61] rfl s[k] _ rfl _).mono ?_;rintro e w' ⟨i,rfl,f,g⟩;rw[l.out]at f;have b:=g.symm;subst b)
      go_round
      case rel=>exact⟨k+1,by omega,by go_num,d⟩
      case measure=>simp[intOf];omega
     ·have d:Hid (aNs s.data.toList=false):=by
       unfold Hid
       rw[<-c.out,a.out,show okT s[k]=false from by simp only[okT,j];simp];rfl
      have l:Hid _:=j
      clear a c j
      go_wp2_with (go_at_call 93;refine(aI5 ⟨#[34,39,60,62,38,61]⟩ [34,39,60,62,38,61] rfl s[k] _ rfl _).mono ?_;rintro e w' ⟨i,rfl,f,g⟩;rw[l.out]at f;have b:=g.symm;subst b)
      go_ret
      exact⟨by rw[d.out];rfl,rfl⟩
  ·obtain rfl:k=s.size:=by omega
   have d:Hid (aNs s.data.toList=true):=by
    unfold Hid
    rw[<-c.out,jC (by rw[<-Lib.size_eq];exact jf _)];rfl
   clear c
   go_wp2
   go_ret
   exact⟨by rw[d.out];rfl,rfl⟩
def aBA(w:World)(p:jO)(ts:List jA):Prop:=ts≠[]->∃b o,p=some (jx b o)/\∀i,i<ts.length->w.cell? (jx b (o+i))=some (.string (ts.getD i jz))
theorem aBA.below{w w':World}{p:jO}{c:List jA}(h:aBA w p c)(d:jb w w'):aBA w' p c:=by
 intro a
 obtain⟨b,o,rfl,f⟩:=h a
 refine⟨b,o,rfl,λi g=>?_⟩
 have:=f i g
 rw[d.cell (p:=jx b (o+i)) (ji w _ this)]
 exact this
def tls(ts:List jA):List jB:=ts.map λt=>t.data.toList
theorem aUw(s:jB)(h:(aUs s).2.2≠[]):1<=(aUs s).1.length:=by
 have a:0<(aUs s).2.2.length:=jbr.2 h
 have b:(aUs s).2.2.length<=(aUs s).1.length:=by
  cases s with
  |nil=>exact jf _
  |cons c t=>
   simp only[aUs]
   split
   ·have:=aFz (aLF c) t;simp only[jH];omega
   ·exact aFz aIs (c::t)
 omega
theorem aCn(s:jB)(x:LK)(h:(aCg s).1=some x)(a:(aCg s).2≠[]):1<=x.1:=by
 unfold aCg at h a
 cases d:(((s.drop 1).dropWhile aIr).dropWhile spB)with
 |nil=>rw[d]at h;cases h
 |cons c t=>
  rw[d]at h a
  simp only[aCN]at h a
  split at h
  ·rename_i b
   rw[jo b]at a
   cases h
   exact aUw _ a
  ·cases h
theorem aRR(b:jB->jB):∀(n:Nat) (seen:List jB) (s:jB) (l:List LK),(aRz b n seen s).1=some l->∀x∈l,1<=x.1
 |0,_,_,_,h=>by cases h
 |n+1,seen,s,l,h=>by
  unfold aRz at h
  cases f:s.dropWhile aIt with
  |nil=>rw[f]at h;cases h
  |cons c t=>
   rw[f]at h
   simp only at h
   split at h
   ·cases h;intro x a;cases a
   ·simp only[jdf]at h
    obtain⟨j,d,rfl⟩:=h
    have g:(aCg (c::t)).2≠[]:=λe=>by rw[e,aRC]at d;cases d
    intro x a
    rcases jY.1 a with a|a
    ·unfold aLf at a
     split at a
     ·cases a
     ·rename_i y i
      split at a
      ·simp at a
       subst a
       exact aCn _ _ i g
      ·cases a
    ·exact aRR b n _ _ j d x a
theorem aM1(b:jB->jB)(s:jB):∀x∈(aMT b s).1,1<=x.1:=by
 unfold aMT
 split
 ·intro x a;cases a
 ·split
  ·intro x a;cases a
  ·split
   ·simp only[aRD]
    cases h:(aRz b ((List.dropWhile aIv (List.drop 1 s)).length+1) [] (List.dropWhile aIv (List.drop 1 s))).1 with
    |none=>intro x a;cases a
    |some l=>exact aRR b _ _ _ l h
   ·split<;>(intro x a;cases a)
theorem aGH(b:jB->jB):∀(n:Nat) (a:List LK) (s:jB) (L:List LK),aGw b n a s=some L->(∀x∈a,1<=x.1)->∀x∈L,1<=x.1
 |0,a,s,L,h,ha=>by simp only[aGw,jac]at h;rw[<-h];exact ha
 |n+1,a,s,L,h,ha=>by
  rw[aGw]at h
  split at h
  ·simp only[jac]at h;rw[<-h];exact ha
  ·split at h
   ·cases h
   ·refine aGH b n _ _ L h (λx c=>?_)
    rcases jY.1 c with c|c
    ·exact ha x c
    ·exact aM1 b s x c
theorem aGA(a:jB->jB)(b:jB)(l:List LK)(h:aGz a b=some l):∀x∈l,1<=x.1:=by
 unfold aGz at h
 split at h
 ·cases h
 ·exact aGH a _ _ _ l h (λx c=>by cases c)
theorem aB4{w:World}{k:Array Oper}{rest:List Oper}{o:Oper}{a:Act}{Q:Exit->Act->World->Prop}(i:o.guard=none)(s x:Operand)
  (B:o.op=.call {callee:=.builtin .append,args:=#[s,x],argTypes:=#[22,22]})
  (base:Nat)(v:Value)(O:jB)(C:a.eval s=v)(f:w.ownsRow base 5 1 v O.length (bv O))
  (q:jO)(m c:Nat)(l:jB)(H:m=l.length)(E:a.eval x=.slice q m c)(R:aAe w q l)(hq:q=none->m=0/\c=0)
  (M:O.length+m<=100000000)(g:base<=w.heap.size)
  (h:∀n w' p,Hid (p=O++l)->w'.ownsRow base 5 1 n p.length (bv p)->w.grownBy w' v.ownBlock->wpList prog k Q rest (a.put o.dst n) w'):wpList prog k Q (o::rest) a w:=by
 obtain⟨F,A,t,y,z⟩:=jao aIP
 subst H
 cases q with
 |none=>
  obtain⟨I,rfl⟩:=hq rfl
  have P:l=[]:=js.1 I
  subst P
  refine wpList_append_own_none i s x 22 B base 5 F 1 underlying22 A v O.length (bv O) C f E ?_
  refine h v w O (by unfold Hid;simp) f (World.grownBy.refl _ _)
 |some G=>
  refine jX _ i s x 22 B base 5 F (.int .u8 0) 1 1 underlying22 A t y z rfl (by decide) v O.length (bv O) C f G l.length c (bv l) E (by rw[aDq];omega) ?_ ?_ (by unfold maxLen;omega) (by omega) g (λn w' J L _=>h n w' (O++l) rfl (by rw[aDo,je];exact J) L)
  ·intro j u r
   have d:j<l.length:=by
    have:=(jN.1 r).1
    rwa [aDq]at this
   obtain⟨b,S,e,N⟩:=R (λe=>by rw[e]at d;simp at d)
   obtain rfl:=jI e
   rw[jaa,N j d]
   simp only[bv,jas,jc d,jcz,jac]at r
   rw[<-r]
   simp[List.getD_eq_getElem?_getD,List.getElem?_eq_getElem d]
  ·intro u D
   simp only[bv,jbi]at D
   obtain⟨c,_,rfl⟩:=D
   rfl
theorem aAe.part{w:World}{q:jO}{l:jB}(h:aAe w q l)(c f:Nat)(hq:q=some (jx c f))(d m:Nat):aAe w (some (jx c (f+d))) ((l.drop d).take m):=by
 intro k
 refine⟨c,f+d,rfl,λi j=>?_⟩
 have a:i<m/\d+i<l.length:=by
  rw[jF,jH]at j
  omega
 obtain⟨b,o,e,g⟩:=h (λe=>by rw[e]at a;simp at a)
 rw[hq]at e
 obtain⟨rfl,rfl⟩:c=b/\f=o:=by injection e with e;injection e with h1 h2;exact⟨h1,h2⟩
 have:=g (d+i) a.2
 rw[jcf,this]
 congr 3
 rw[jd,jd,jcx a.1,jax]
theorem aKV(s:jA):Lib.strCells s=bv s.data.toList:=by simp[bv,Lib.strCells]
def aAr(w:World)(out:jB)(e:Ending)(w':World):Prop:=jb w w'/\
 ((4000<out.length/\e=.returned (.tuple #[.slice none 0 0,.int .i64 2]))\/(out.length<=4000/\∃v,e=.returned (.tuple #[v,.int .i64 0])/\w'.ownsRow w.heap.size 5 1 v out.length (bv out)))
structure aAs(w:World)(N:Nat)(b:jB)(l:List LK)(ts:List jB)(gk:Nat)(wr:World)(v:Value)(i d:Nat)(O:jB):Prop where
 few:l.length<i+gk
 il:i<=l.length
 dn:d<=N
 dc:i<l.length->d<N
 ol:O.length<=4000
 ord:Ord N d (l.drop i)
 bel:jb w wr
 own:wr.ownsRow w.heap.size 5 1 v O.length (bv O)
 eq:aGe l ts b=O++aGe (l.drop i) (ts.drop i) (b.drop d)
theorem aFy{α:Type}(l:List α)(i:Nat)(d:α)(h:i<l.length):l.drop i=l.getD i d::l.drop (i+1):=by
 rw[jE h]
 simp[List.getD_eq_getElem?_getD,List.getElem?_eq_getElem h]
theorem aIE(d:UInt8)(s a:jB)(h:∀c∈a,c≠d):Lib.index a (d::s)=-1:=by
 induction a with
 |nil=>rfl
 |cons c a g=>
  have b:(d==c)=false:=by simp;exact λe=>h c (by simp) e.symm
  have:=g (λe f=>h e (by simp[f]))
  simp[Lib.index,List.isPrefixOf,b,this]
theorem aNS(s r:jB):s.isPrefixOf (s++r)=true:=by
 rw[jap];exact jdv s r
theorem aID(d:UInt8)(s a r:jB)(h:∀c∈a,c≠d):Lib.index (a++((d::s)++r)) (d::s)=(a.length:Int):=by
 induction a with
 |nil=>
  have:=aNS (d::s) r
  rw[jL]at this
  rw[jaf,jL,Lib.index,jo this]
  rfl
 |cons c a j=>
  have b:(d==c)=false:=by simp;exact λe=>h c (by simp) e.symm
  have g:=j (λe f=>h e (by simp[f]))
  rw[jL,Lib.index]
  have i:(d::s).isPrefixOf (c::(a++((d::s)++r)))=false:=by simp[List.isPrefixOf,b]
  rw[i,g]
  simp only[jdw,jei]
  rw[jh (by simp)]
  simp
theorem aFA(s a r:jB):(a++(s++r)).drop (a.length+s.length)=r:=by
 rw[show a.length+s.length=(a++s).length from by simp,<-jJ,jbd]
theorem aEI(d:UInt8)(s a r:jB)(h:∀c∈a,c≠d):Lib.count (a++((d::s)++r)) (d::s)=Lib.count r (d::s)+1:=by
 rw[Lib.count_hit (by simp) (aID d s a r h),aFA,Nat.add_comm]
def aI7(s:jB):jB->List jB->jB
 |a,[]=>a
 |a,b::t=>a++(s++aI7 s b t)
theorem aQ6(d:UInt8)(s:jB):∀(t:List jB) (a:jB),(∀x∈a::t,∀c∈x,c≠d)->
  Lib.splitK (d::s) 0 (Lib.count (aI7 (d::s) a t) (d::s)) (aI7 (d::s) a t)=a::t:=by
 intro t
 induction t with
 |nil=>intro a h;rw[aI7,Lib.count_miss (aIE d s a (h a (by simp)))];rfl
 |cons b t i=>
  intro a h
  have f:=h a (by simp)
  rw[aI7,aEI d s a _ f,Lib.splitK,aID d s a _ f,jh (by simp),jco,aFA,i b (λx g=>h x (by simp at g⊢;right;exact g)),jcd,jci]
structure UL where
 sch:jB
 hh:Bool
 hst:jB
 pth:jB
 hq:Bool
 qry:jB
 hf:Bool
 frg:jB
def aLD:UL:=⟨[],false,[],[],false,[],false,[]⟩
theorem UL.ext'{a b:UL}(c:a.sch=b.sch)(d:a.hh=b.hh)(f:a.hst=b.hst)(g:a.pth=b.pth)(i:a.hq=b.hq)(j:a.qry=b.qry)(k:a.hf=b.hf)(l:a.frg=b.frg):a=b:=by
 cases a;cases b;simp at*;exact⟨c,d,f,g,i,j,k,l⟩
def aHe:jB:=[34,60,62,92,94,96,123,124,125]
def aId:jB:=aHe++[47,63,35]
def aMQ:jB:=aHe++[63,35]
def aHh:jB:=aHe++[35]
def aI4(c:UInt8):Bool:=decide (65<=c.toNat)&&decide (c.toNat<=90)
def aI1(c:UInt8):Bool:=decide (97<=c.toNat)&&decide (c.toNat<=122)
def aPQ(c:UInt8):Bool:=aI1 c||(decide (48<=c.toNat)&&decide (c.toNat<=57))||decide (c=43)||decide (c=45)||decide (c=46)
def aKI(c:UInt8):UInt8:=if aI4 c=true then c+32 else c
def aQJ(l:jB):jB:=l.map aKI
def aPU(l:jB):Bool:=(match l with|[]=>false|c::_=>aI1 c)&&l.all aPQ
def aEP:jB->Option (jB×jB)
 |[]=>none
 |c::r=>if c=58 then some ([],r)else if c=47 then none else(aEP r).map λx=>(c::x.1,x.2)
def aNE(l:jB):Bool:=l.head?==some 47
def aNF:jB->Bool
 |a::b::_=>(a==47)&&(b==47)
 |_=>false
def aVm(u:UL):Bool:=
 (u.sch.isEmpty||aPU u.sch)&&aC3 33 126 aId u.hst&&aC3 33 126 aMQ u.pth&&aC3 33 126 aHh u.qry&&aC3 33 126 aHh u.frg&&u.hst.all λc=>!aI4 c
def aKe(u:UL):Bool:=!u.hh&&aNF u.pth
def aHj(u:UL):Bool:=
 if(!u.hh&&!u.hst.isEmpty)||(!u.hq&&!u.qry.isEmpty)||(!u.hf&&!u.frg.isEmpty)then false
 else if u.hh then u.pth.isEmpty||aNE u.pth
 else if aKe u then false else !u.sch.isEmpty||(aEP u.pth).isNone
def opt(b:Bool)(l:jB):jB:=if b then l else []
def aR7(u:UL):jB:=opt (!u.sch.isEmpty) (u.sch++[58])++(opt u.hh ([47,47]++u.hst)++(u.pth++(opt u.hq (63::u.qry)++opt u.hf (35::u.frg))))
def aKy(u:UL):Bool:=decide (120<u.sch.length)||decide (120<u.hst.length)||decide (120<u.pth.length)||decide (120<u.qry.length)||decide (120<u.frg.length)
def aDW(u:UL):Nat:=if aKy u then 2 else if aVm u=false then 1 else if aHj u=false then 4 else if 120<(aR7 u).length then 2 else 0
def aEW(d:UInt8)(l:jB):jB×jB×Bool:=match aEM d l with|none=>(l,[],false)|some x=>(x.1,x.2,true)
def aES(l:jB):jB×jB:=match aEM 47 l with|none=>(l,[])|some x=>(x.1,47::x.2)
def aIe(sch l:jB)(hq:Bool)(q:jB)(hf:Bool)(f:jB):UL:=
 if aNF l then⟨sch,true,aQJ (aES (l.drop 2)).1,(aES (l.drop 2)).2,hq,q,hf,f⟩else⟨sch,false,[],l,hq,q,hf,f⟩
def aD3(u:UL):UL×Nat:=if aDW u=0 then(u,0)else(aLD,aDW u)
def aMv(l:jB)(hq:Bool)(q:jB)(hf:Bool)(f:jB):UL×Nat:=
 match aEP l with
 |none=>aD3 (aIe [] l hq q hf f)
 |some x=>if aPU (aQJ x.1)=false then(aLD,1)else aD3 (aIe (aQJ x.1) x.2 hq q hf f)
def aMw(s:jB):UL×Nat:=
 if 120<s.length then(aLD,2)
 else aMv (aEW 63 (aEW 35 s).1).1 (aEW 63 (aEW 35 s).1).2.2 (aEW 63 (aEW 35 s).1).2.1 (aEW 35 s).2.2 (aEW 35 s).2.1
def aNT(u:UL):jB×Nat:=if aDW u=0 then(aR7 u,0)else([],aDW u)
def aQ3:jB->jB×List jB
 |[]=>([],[])
 |c::r=>if c=47 then([],(aQ3 r).1::(aQ3 r).2)else(c::(aQ3 r).1,(aQ3 r).2)
def aML(l:jB):List jB:=(aQ3 l).1::(aQ3 l).2
def aI9:List jB->jB
 |[]=>[]
 |a::t=>aI7 [47] a t
def aIZ(s:jB):Bool:=(s==[46])||(s==[46,46])
def aCA(s:jB)(left:List jB):List jB:=if(s==[46,46])&&decide (1<left.length)then left.dropLast else left
def aFn:List jB->List jB->List jB
 |[],left=>left
 |s::r,left=>if aIZ s then aFn r (if r.isEmpty then aCA s left++[[]]else aCA s left)else aFn r (left++[s])
def aT3(p:jB):jB:=aI9 (aFn (aML p) [])
def aFg(l:jB):jB:=(l.reverse.dropWhile (λc=>!(c==47))).reverse
def aEo(b u:UL):UL:=
 if u.hh then{u with sch:=b.sch}
 else if u.pth.isEmpty then(if u.hq then{u with sch:=b.sch,hh:=b.hh,hst:=b.hst,pth:=b.pth}else{u with sch:=b.sch,hh:=b.hh,hst:=b.hst,pth:=b.pth,hq:=b.hq,qry:=b.qry})
 else if aNE u.pth then{u with sch:=b.sch,hh:=b.hh,hst:=b.hst}
 else if b.hh&&b.pth.isEmpty then{u with sch:=b.sch,hh:=b.hh,hst:=b.hst,pth:=47::u.pth}
 else{u with sch:=b.sch,hh:=b.hh,hst:=b.hst,pth:=aFg b.pth++u.pth}
def aT1(u:UL):UL:=if u.hh||aNE u.pth then{u with pth:=aT3 u.pth}else u
def aHr(b u:UL):UL:=if u.sch.isEmpty then aEo b u else u
def aFU(u:UL):UL×Nat:=if aKe u then(aLD,4)else aD3 u
def aJG(b u:UL):UL×Nat:=
 if aDW b≠0 then(aLD,aDW b)else if aDW u≠0 then(aLD,aDW u)else if b.sch.isEmpty then(aLD,4)else aFU (aT1 (aHr b u))
theorem aQ4:∀l:jB,∀x∈aML l,∀c∈x,c≠47
 |[]=>by simp[aML,aQ3]
 |c::r=>by
  have f:=aQ4 r
  intro x a
  unfold aML aQ3 at a
  split at a
  ·simp only[jad]at a
   rcases a with rfl|a
   ·simp
   ·exact f x (by simp[aML];exact a)
  ·rename_i g
   simp only[jad]at a
   rcases a with rfl|a
   ·intro d b
    rcases jad.1 b with rfl|b
    ·exact g
    ·exact f _ (by simp[aML]) d b
   ·exact f x (by simp[aML];exact .inr a)
theorem aI8(s:jB)(c:UInt8)(a:jB)(t:List jB):aI7 s (c::a) t=c::aI7 s a t:=by cases t<;>simp[aI7]
theorem aJf:∀l:jB,aI7 [47] (aQ3 l).1 (aQ3 l).2=l
 |[]=>rfl
 |c::r=>by
  have a:=aJf r
  unfold aQ3
  split
  ·rename_i b;subst b;simp only[aI7];rw[a];rfl
  ·simp only;rw[aI8,a]
theorem aJb(l:jB):aI9 (aML l)=l:=aJf l
theorem aQ7(l:jB):Lib.splitK [47] 0 (Lib.count l [47]) l=aML l:=by
 have h:=aQ6 47 [] (aQ3 l).2 (aQ3 l).1 (aQ4 l)
 rw[aJf]at h
 exact h
end Go.Proofs.YtbbfcbodhmeanaaGreatDoor
