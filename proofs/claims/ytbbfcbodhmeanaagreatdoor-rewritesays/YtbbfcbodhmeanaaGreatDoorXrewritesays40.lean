import Derived.Test.YtbbfcbodhmeanaaGreatDoorXrewritesays39
import Derived.Lib.IndexAny
set_option maxHeartbeats 8000000
set_option maxRecDepth 1000000
namespace Go.Proofs.YtbbfcbodhmeanaaGreatDoor
open Go.Proofs.Tryz
open Go.RowKit
theorem aOL(q o g p m T P0:jA)(x y s:Bool)(b0 b1 b2 b3 b4 bn p1 p2 cc eh eq ef eu es:Bool)(n:Nat)(hm:q.size<=maxLen/\o.size<=maxLen/\g.size<=maxLen/\p.size<=maxLen/\m.size<=maxLen)(w:World)(R:Nat)
  (aa:(120<q.size\/120<o.size\/120<g.size\/120<p.size\/120<m.size)->R=2)
  (U:(q.size<=120/\o.size<=120/\g.size<=120/\p.size<=120/\m.size<=120)->(R=if(b0&&(b1&&(b2&&(b3&&b4))))=false then 1 else if bn=true then 4 else if(if x then !eu&&!p1 else p2||(es&&cc))=true then 4 else if 120<T.size then 2 else 0)/\T.size<=1000/\bn=((!eh&&!x)||(!eq&&!y)||(!ef&&!s))/\eh=o.data.toList.isEmpty/\eq=p.data.toList.isEmpty/\ef=m.data.toList.isEmpty/\eu=g.data.toList.isEmpty/\es=q.data.toList.isEmpty
   /\(∀W,Calls prog 101 #[.string q] W (jG (.bool b0) W))
   /\(∀W,Calls prog 88 #[.string o,.int .u8 33,.int .u8 126,.string ⟨#[34,60,62,92,94,96,123,124,125,47,63,35,65,66,67,68,69,70,71,72,73,74,75,76,77,78,79,80,81,82,83,84,85,86,87,88,89,90]⟩] W λe w'=>e=.returned (.bool b1)/\w'=W)
   /\(∀W,Calls prog 88 #[.string g,.int .u8 33,.int .u8 126,.string ⟨#[34,60,62,92,94,96,123,124,125,63,35]⟩] W λe w'=>e=.returned (.bool b2)/\w'=W)
   /\(∀W,Calls prog 88 #[.string p,.int .u8 33,.int .u8 126,.string ⟨#[34,60,62,92,94,96,123,124,125,35]⟩] W λe w'=>e=.returned (.bool b3)/\w'=W)
   /\(∀W,Calls prog 88 #[.string m,.int .u8 33,.int .u8 126,.string ⟨#[34,60,62,92,94,96,123,124,125,35]⟩] W λe w'=>e=.returned (.bool b4)/\w'=W)
   /\(∀W,Calls prog 59 #[.string g,.string ⟨#[47]⟩] W λe w'=>e=.returned (.bool p1)/\w'=W)
   /\(∀W,Calls prog 59 #[.string g,.string ⟨#[47,47]⟩] W λe w'=>e=.returned (.bool p2)/\w'=W)
   /\(∀W,jb w W->Calls prog 57 #[.string g,.string ⟨#[47]⟩] W λe w'=>e=.returned (.slice (some (jx W.heap.size 0)) (n+1) (n+1))/\jb W w'/\w'.cell? (jx W.heap.size 0)=some (.string P0)/\w'.frozen? (jx W.heap.size 0)=false)
   /\(∀W,Calls prog 111 #[.string P0,.string ⟨#[58]⟩] W λe w'=>e=.returned (.bool cc)/\w'=W)
   /\(∀W,Calls prog 55 #[.agg (jU q x o g y p s m)] W (jG (.string T) W))):
  Calls prog 102 #[.agg (jU q x o g y p s m)] w (jG (.int .i64 (R:Int)) w):=by
 unfold maxLen at hm
 obtain⟨m0,m1,m2,m3,m4⟩:=hm
 have F:Hid _:=aa
 have r:Hid ((q.size<=120/\o.size<=120/\g.size<=120/\p.size<=120/\m.size<=120)->_):=U
 clear aa U
 obtain⟨l,X⟩:∃W,W=(w.alloc (.cells (jU q x o g y p s m) 85)).alloc (.cells #[.string q,.string o,.string g,.string p,.string m] 9):=⟨_,rfl⟩
 have J:jb w l:=by rw[X];exact(ja _ _).alloc (by simp) _
 have am:l.heap.size=w.heap.size+1+1:=by rw[X];simp
 have t:l.heap[w.heap.size]?=some (.cells (jU q x o g y p s m) 85):=by rw[X];exact aJj (by show(w.heap.push _)[w.heap.size]?=_;simp)
 have I:l.heap[w.heap.size+1]?=some (.cells #[.string q,.string o,.string g,.string p,.string m] 9):=by
  rw[X]
  show((w.heap.push _).push _)[w.heap.size+1]?=_
  rw[j2,jo (by simp)]
 have t0:=aDf I 0
 have t1:=aDf I 1
 have t2:=aDf I 2
 have t3:=aDf I 3
 have t4:=aDf I 4
 have tf:∀i,l.frozen? (jx (w.heap.size+1) i)=false:=aDh I
 go_enter func102,ntmps102
 go_wp2
 rw[<-X]
 clear X
 go_loop [18] (λiv=>∃k:Nat,k<=5/\iv=.int .i64 k/\Hid ((1<=k->q.size<=120)/\(2<=k->o.size<=120)/\(3<=k->g.size<=120)/\(4<=k->p.size<=120)/\(5<=k->m.size<=120))) (λiv=>5-(intOf iv).toNat)
 case atStart=>exact⟨0,jy _,rfl,⟨λh=>absurd h (by omega),λh=>absurd h (by omega),λh=>absurd h (by omega),λh=>absurd h (by omega),λh=>absurd h (by omega)⟩⟩
 case round=>
  obtain⟨k,hk,rfl,D⟩:=hrel
  rcases (show k=0\/k=1\/k=2\/k=3\/k=4\/k=5 by omega)with rfl|rfl|rfl|rfl|rfl|rfl
  ·by_cases f:120<q.size
   ·have d:(120:Int)<(q.size:Int):=by omega
    have b:Hid (R=2):=F.out (by omega)
    clear D F r
    go_wp2
    go_ret
    exact⟨by rw[b.out];rfl,J⟩
   ·have d:¬(120:Int)<(q.size:Int):=by omega
    have C:Hid ((1<=1->q.size<=120)/\(2<=1->o.size<=120)/\(3<=1->g.size<=120)/\(4<=1->p.size<=120)/\(5<=1->m.size<=120)):=by
     have:=D.out
     unfold Hid
     refine⟨λ_=>?_,λ_=>?_,λ_=>?_,λ_=>?_,λ_=>?_⟩<;>omega
    clear D F r
    go_wp2
    go_round
    case rel=>exact⟨1,by omega,by go_num,C⟩
    case measure=>simp[intOf]
  ·by_cases f:120<o.size
   ·have d:(120:Int)<(o.size:Int):=by omega
    have b:Hid (R=2):=F.out (by omega)
    clear D F r
    go_wp2
    go_ret
    exact⟨by rw[b.out];rfl,J⟩
   ·have d:¬(120:Int)<(o.size:Int):=by omega
    have C:Hid ((1<=2->q.size<=120)/\(2<=2->o.size<=120)/\(3<=2->g.size<=120)/\(4<=2->p.size<=120)/\(5<=2->m.size<=120)):=by
     have:=D.out
     unfold Hid
     refine⟨λ_=>?_,λ_=>?_,λ_=>?_,λ_=>?_,λ_=>?_⟩<;>omega
    clear D F r
    go_wp2
    go_round
    case rel=>exact⟨2,by omega,by go_num,C⟩
    case measure=>simp[intOf]
  ·by_cases f:120<g.size
   ·have d:(120:Int)<(g.size:Int):=by omega
    have b:Hid (R=2):=F.out (by omega)
    clear D F r
    go_wp2
    go_ret
    exact⟨by rw[b.out];rfl,J⟩
   ·have d:¬(120:Int)<(g.size:Int):=by omega
    have C:Hid ((1<=3->q.size<=120)/\(2<=3->o.size<=120)/\(3<=3->g.size<=120)/\(4<=3->p.size<=120)/\(5<=3->m.size<=120)):=by
     have:=D.out
     unfold Hid
     refine⟨λ_=>?_,λ_=>?_,λ_=>?_,λ_=>?_,λ_=>?_⟩<;>omega
    clear D F r
    go_wp2
    go_round
    case rel=>exact⟨3,by omega,by go_num,C⟩
    case measure=>simp[intOf]
  ·by_cases f:120<p.size
   ·have d:(120:Int)<(p.size:Int):=by omega
    have b:Hid (R=2):=F.out (by omega)
    clear D F r
    go_wp2
    go_ret
    exact⟨by rw[b.out];rfl,J⟩
   ·have d:¬(120:Int)<(p.size:Int):=by omega
    have C:Hid ((1<=4->q.size<=120)/\(2<=4->o.size<=120)/\(3<=4->g.size<=120)/\(4<=4->p.size<=120)/\(5<=4->m.size<=120)):=by
     have:=D.out
     unfold Hid
     refine⟨λ_=>?_,λ_=>?_,λ_=>?_,λ_=>?_,λ_=>?_⟩<;>omega
    clear D F r
    go_wp2
    go_round
    case rel=>exact⟨4,by omega,by go_num,C⟩
    case measure=>simp[intOf]
  ·by_cases f:120<m.size
   ·have d:(120:Int)<(m.size:Int):=by omega
    have b:Hid (R=2):=F.out (by omega)
    clear D F r
    go_wp2
    go_ret
    exact⟨by rw[b.out];rfl,J⟩
   ·have d:¬(120:Int)<(m.size:Int):=by omega
    have C:Hid ((1<=5->q.size<=120)/\(2<=5->o.size<=120)/\(3<=5->g.size<=120)/\(4<=5->p.size<=120)/\(5<=5->m.size<=120)):=by
     have:=D.out
     unfold Hid
     refine⟨λ_=>?_,λ_=>?_,λ_=>?_,λ_=>?_,λ_=>?_⟩<;>omega
    clear D F r
    go_wp2
    go_round
    case rel=>exact⟨5,by omega,by go_num,C⟩
    case measure=>simp[intOf]
  ·obtain⟨k1,k2,k3,k4,k5⟩:=D.out
   obtain⟨hR,hT,L,N,O,M,S,P,C0,C1,C2,C3,C4,C5,C6,C7,C8,C9⟩:=r.out ⟨k1 (by omega),k2 (by omega),k3 (by omega),k4 (by omega),k5 (by omega)⟩
   have A:Hid _:=hR
   have V:Hid (bn=((!eh&&!x)||(!eq&&!y)||(!ef&&!s))/\eh=o.data.toList.isEmpty/\eq=p.data.toList.isEmpty/\ef=m.data.toList.isEmpty/\eu=g.data.toList.isEmpty/\es=q.data.toList.isEmpty):=⟨L,N,O,M,S,P⟩
   have H0:Hid (∀W,Calls prog 101 #[.string q] W (jG (.bool b0) W)):=C0
   have H1:Hid (∀W,Calls prog 88 #[.string o,.int .u8 33,.int .u8 126,.string ⟨#[34,60,62,92,94,96,123,124,125,47,63,35,65,66,67,68,69,70,71,72,73,74,75,76,77,78,79,80,81,82,83,84,85,86,87,88,89,90]⟩] W λe w'=>e=.returned (.bool b1)/\w'=W):=C1
   have H2:Hid (∀W,Calls prog 88 #[.string g,.int .u8 33,.int .u8 126,.string ⟨#[34,60,62,92,94,96,123,124,125,63,35]⟩] W λe w'=>e=.returned (.bool b2)/\w'=W):=C2
   have H3:Hid (∀W,Calls prog 88 #[.string p,.int .u8 33,.int .u8 126,.string ⟨#[34,60,62,92,94,96,123,124,125,35]⟩] W λe w'=>e=.returned (.bool b3)/\w'=W):=C3
   have H4:Hid (∀W,Calls prog 88 #[.string m,.int .u8 33,.int .u8 126,.string ⟨#[34,60,62,92,94,96,123,124,125,35]⟩] W λe w'=>e=.returned (.bool b4)/\w'=W):=C4
   have Y:Hid (∀W,Calls prog 59 #[.string g,.string ⟨#[47]⟩] W λe w'=>e=.returned (.bool p1)/\w'=W):=C5
   have Z:Hid (∀W,Calls prog 59 #[.string g,.string ⟨#[47,47]⟩] W λe w'=>e=.returned (.bool p2)/\w'=W):=C6
   have H7:Hid (∀W,jb w W->Calls prog 57 #[.string g,.string ⟨#[47]⟩] W λe w'=>e=.returned (.slice (some (jx W.heap.size 0)) (n+1) (n+1))/\jb W w'/\w'.cell? (jx W.heap.size 0)=some (.string P0)/\w'.frozen? (jx W.heap.size 0)=false):=C7
   have H8:Hid (∀W,Calls prog 111 #[.string P0,.string ⟨#[58]⟩] W λe w'=>e=.returned (.bool cc)/\w'=W):=C8
   have G:Hid (∀W,Calls prog 55 #[.agg (jU q x o g y p s m)] W (jG (.string T) W)):=C9
   have z0:∀W,jb l W->W.cell? (jx w.heap.size 0)=some (.string q):=λW E=>aDf (aJk t E) 0
   have z1:∀W,jb l W->W.cell? (jx w.heap.size 1)=some (.bool x):=λW E=>aDf (aJk t E) 1
   have z2:∀W,jb l W->W.cell? (jx w.heap.size 2)=some (.string o):=λW E=>aDf (aJk t E) 2
   have z3:∀W,jb l W->W.cell? (jx w.heap.size 3)=some (.string g):=λW E=>aDf (aJk t E) 3
   have z4:∀W,jb l W->W.cell? (jx w.heap.size 4)=some (.bool y):=λW E=>aDf (aJk t E) 4
   have z5:∀W,jb l W->W.cell? (jx w.heap.size 5)=some (.string p):=λW E=>aDf (aJk t E) 5
   have z6:∀W,jb l W->W.cell? (jx w.heap.size 6)=some (.bool s):=λW E=>aDf (aJk t E) 6
   have z7:∀W,jb l W->W.cell? (jx w.heap.size 7)=some (.string m):=λW E=>aDf (aJk t E) 7
   have kf:∀W,jb l W->∀i,W.frozen? (jx w.heap.size i)=false:=λW E=>aDh (aJk t E)
   clear k1 k2 k3 k4 k5 hR L N O M S P C0 C1 C2 C3 C4 C5 C6 C7 C8 C9 D F r m0 m1 m2 m3 m4 t0 t1 t2 t3 t4 tf I
   have af:jb l l:=jr _ _
   have HU:Hid _:=t
   clear t
   go_upto_region 7 with fail
   go_cut[5] (λc wx=>c=.bool (b0&&(b1&&(b2&&(b3&&b4))))/\jb l wx)
   case first=>
    clear A V Y Z H7 H8 G HU
    have y0:=z0 l af
    clear z0 z1 z4 z6
    cases b0 with
    |false=>
     go_wp2_with fail
     refine(H0.out _).mono ?_
     rintro e w1 ⟨rfl,a⟩
     go_wp2_with fail
     go_meet
     exact⟨rfl,a⟩
    |true=>
     go_wp2_with fail
     refine(H0.out _).mono ?_
     rintro e w1 ⟨rfl,a⟩
     have y2:=z2 w1 a
     have y3:=z3 w1 a
     have y5:=z5 w1 a
     have y7:=z7 w1 a
     clear H0 z2 z3 z5 z7 kf
     go_wp2_with fail
     refine(H1.out _).mono ?_
     rintro e w2 ⟨rfl,ab⟩
     subst ab
     cases b1 with
     |false=>
      go_wp2_with fail
      go_meet
      exact⟨rfl,a⟩
     |true=>
      go_wp2_with fail
      refine(H2.out _).mono ?_
      rintro e w3 ⟨rfl,ag⟩
      subst ag
      cases b2 with
      |false=>
       go_wp2_with fail
       go_meet
       exact⟨rfl,a⟩
      |true=>
       go_wp2_with fail
       refine(H3.out _).mono ?_
       rintro e w4 ⟨rfl,ac⟩
       subst ac
       cases b3 with
       |false=>
        go_wp2_with fail
        go_meet
        exact⟨rfl,a⟩
       |true=>
        go_wp2_with fail
        refine(H4.out _).mono ?_
        rintro e w5 ⟨rfl,ah⟩
        subst ah
        cases b4
        all_goals (
         go_wp2_with fail
         go_meet
         exact⟨rfl,a⟩)
   case rest=>
    obtain⟨rfl,a⟩:=hcut
    have z:jb w wc:=J.trans (a.mono J.size)
    clear H0 H1 H2 H3 H4
    by_cases v:(b0&&(b1&&(b2&&(b3&&b4))))=true
    ·rw[v]
     have y0:=z0 wc a
     have y1:=z1 wc a
     have y2:=z2 wc a
     have y3:=z3 wc a
     have y4:=z4 wc a
     have y5:=z5 wc a
     have y6:=z6 wc a
     have y7:=z7 wc a
     clear z0 z1 z2 z3 z4 z5 z6 z7 kf
     go_upto_region 10 with fail
     go_cut[78] (λc wx=>c=.bool bn/\wx=wc)
     case first=>
      clear Y Z H7 H8 G A HU
      obtain⟨L,N,O,M,S,P⟩:=V.out
      have e1:o.toList.isEmpty=eh:=by rw[jj,N]
      have e2:p.toList.isEmpty=eq:=by rw[jj,O]
      have e3:m.toList.isEmpty=ef:=by rw[jj,M]
      have H:Hid _:=L
      clear L N O M S P V y0 y3 z v hT
      cases eh with
      |true=>
       cases eq with
       |true=>
        cases ef with
        |true=>
         go_wp2_with fail
         go_meet
         exact⟨by rw[H.out];simp,rfl⟩
        |false=>
         cases s with
         |false=>
          go_wp2_with fail
          go_meet
          exact⟨by rw[H.out];simp,rfl⟩
         |true=>
          go_wp2_with fail
          go_meet
          exact⟨by rw[H.out];simp,rfl⟩
       |false=>
        cases y with
        |false=>
         go_wp2_with fail
         go_meet
         exact⟨by rw[H.out];simp,rfl⟩
        |true=>
         cases ef with
         |true=>
          go_wp2_with fail
          go_meet
          exact⟨by rw[H.out];simp,rfl⟩
         |false=>
          cases s with
          |false=>
           go_wp2_with fail
           go_meet
           exact⟨by rw[H.out];simp,rfl⟩
          |true=>
           go_wp2_with fail
           go_meet
           exact⟨by rw[H.out];simp,rfl⟩
      |false=>
       cases x with
       |false=>
        go_wp2_with fail
        go_meet
        exact⟨by rw[H.out];simp,rfl⟩
       |true=>
        cases eq with
        |true=>
         cases ef with
         |true=>
          go_wp2_with fail
          go_meet
          exact⟨by rw[H.out];simp,rfl⟩
         |false=>
          cases s with
          |false=>
           go_wp2_with fail
           go_meet
           exact⟨by rw[H.out];simp,rfl⟩
          |true=>
           go_wp2_with fail
           go_meet
           exact⟨by rw[H.out];simp,rfl⟩
        |false=>
         cases y with
         |false=>
          go_wp2_with fail
          go_meet
          exact⟨by rw[H.out];simp,rfl⟩
         |true=>
          cases ef with
          |true=>
           go_wp2_with fail
           go_meet
           exact⟨by rw[H.out];simp,rfl⟩
          |false=>
           cases s with
           |false=>
            go_wp2_with fail
            go_meet
            exact⟨by rw[H.out];simp,rfl⟩
           |true=>
            go_wp2_with fail
            go_meet
            exact⟨by rw[H.out];simp,rfl⟩
     case rest=>
      obtain⟨rfl,ai⟩:=hcut
      subst ai
      obtain⟨L,N,O,M,S,P⟩:=V.out
      have e4:g.toList.isEmpty=eu:=by rw[jj,S]
      have e5:q.toList.isEmpty=es:=by rw[jj,P]
      clear L N O M S P
      cases bn with
      |true=>
       have b:Hid (R=4):=by unfold Hid;rw[A.out,jh (by simp[v]),jo rfl]
       clear A V Y Z H7 H8 G HU
       go_wp2
       go_ret
       exact⟨by rw[b.out];rfl,z⟩
      |false=>
       cases x with
       |true=>
        cases eu with
        |true=>
         have B:Hid (R=if 120<T.size then 2 else 0):=by unfold Hid;rw[A.out,jh (by simp[v]),jh (by simp),jh (by simp)]
         clear A V Y Z H7 H8 HU
         by_cases f:120<T.size
         ·have d:(120:Int)<(T.size:Int):=by omega
          have b:Hid (R=2):=by unfold Hid;rw[B.out,jo f]
          clear B
          go_wp2_with fail
          refine(G.out _).mono ?_
          rintro e wt ⟨rfl,j⟩
          go_wp2
          go_ret
          exact⟨by rw[b.out];rfl,z.trans (j.mono z.size)⟩
         ·have d:¬(120:Int)<(T.size:Int):=by omega
          have b:Hid (R=0):=by unfold Hid;rw[B.out,jh f]
          clear B
          go_wp2_with fail
          refine(G.out _).mono ?_
          rintro e wt ⟨rfl,j⟩
          go_wp2
          go_ret
          exact⟨by rw[b.out];rfl,z.trans (j.mono z.size)⟩
        |false=>
         go_wp2_with fail
         refine(Y.out _).mono ?_
         rintro e w2 ⟨rfl,ab⟩
         subst ab
         cases p1 with
         |true=>
          have B:Hid (R=if 120<T.size then 2 else 0):=by unfold Hid;rw[A.out,jh (by simp[v]),jh (by simp),jh (by simp)]
          clear A V Y Z H7 H8 HU
          by_cases f:120<T.size
          ·have d:(120:Int)<(T.size:Int):=by omega
           have b:Hid (R=2):=by unfold Hid;rw[B.out,jo f]
           clear B
           go_wp2_with fail
           refine(G.out _).mono ?_
           rintro e wt ⟨rfl,j⟩
           go_wp2
           go_ret
           exact⟨by rw[b.out];rfl,z.trans (j.mono z.size)⟩
          ·have d:¬(120:Int)<(T.size:Int):=by omega
           have b:Hid (R=0):=by unfold Hid;rw[B.out,jh f]
           clear B
           go_wp2_with fail
           refine(G.out _).mono ?_
           rintro e wt ⟨rfl,j⟩
           go_wp2
           go_ret
           exact⟨by rw[b.out];rfl,z.trans (j.mono z.size)⟩
         |false=>
          have b:Hid (R=4):=by unfold Hid;rw[A.out,jh (by simp[v]),jh (by simp),jo (by simp)]
          clear A V Y Z H7 H8 G HU
          go_wp2
          go_ret
          exact⟨by rw[b.out];rfl,z⟩
       |false=>
        go_wp2_with fail
        refine(Z.out _).mono ?_
        rintro e w2 ⟨rfl,ab⟩
        subst ab
        cases p2 with
        |true=>
         have b:Hid (R=4):=by unfold Hid;rw[A.out,jh (by simp[v]),jh (by simp),jo (by simp)]
         clear A V Y Z H7 H8 G HU
         go_wp2
         go_ret
         exact⟨by rw[b.out];rfl,z⟩
        |false=>
         cases es with
         |false=>
          have B:Hid (R=if 120<T.size then 2 else 0):=by unfold Hid;rw[A.out,jh (by simp[v]),jh (by simp),jh (by simp)]
          clear A V Y Z H7 H8 HU
          by_cases f:120<T.size
          ·have d:(120:Int)<(T.size:Int):=by omega
           have b:Hid (R=2):=by unfold Hid;rw[B.out,jo f]
           clear B
           go_wp2_with fail
           refine(G.out _).mono ?_
           rintro e wt ⟨rfl,j⟩
           go_wp2
           go_ret
           exact⟨by rw[b.out];rfl,z.trans (j.mono z.size)⟩
          ·have d:¬(120:Int)<(T.size:Int):=by omega
           have b:Hid (R=0):=by unfold Hid;rw[B.out,jh f]
           clear B
           go_wp2_with fail
           refine(G.out _).mono ?_
           rintro e wt ⟨rfl,j⟩
           go_wp2
           go_ret
           exact⟨by rw[b.out];rfl,z.trans (j.mono z.size)⟩
         |true=>
          go_wp2_with fail
          refine(H7.out _ z).mono ?_
          rintro e w3 ⟨rfl,ad,ak,al⟩
          have aj:=aJk (aJk HU.out a) ad
          have B3:jb w w3:=z.trans (ad.mono z.size)
          clear y0 y1 y2 y3 y4 y5 y6 y7
          obtain⟨y0,y1,y2,y3,y4,y5,y6,y7,y8⟩:=aDS aj
          go_wp2_with fail
          refine(H8.out _).mono ?_
          rintro e w4 ⟨rfl,ac⟩
          subst ac
          cases cc with
          |true=>
           have b:Hid (R=4):=by unfold Hid;rw[A.out,jh (by simp[v]),jh (by simp),jo (by simp)]
           clear A V Y Z H7 H8 G HU
           go_wp2
           go_ret
           exact⟨by rw[b.out];rfl,B3⟩
          |false=>
           have B:Hid (R=if 120<T.size then 2 else 0):=by unfold Hid;rw[A.out,jh (by simp[v]),jh (by simp),jh (by simp)]
           clear A V Y Z H7 H8 HU
           by_cases f:120<T.size
           ·have d:(120:Int)<(T.size:Int):=by omega
            have b:Hid (R=2):=by unfold Hid;rw[B.out,jo f]
            clear B
            go_wp2_with fail
            refine(G.out _).mono ?_
            rintro e wt ⟨rfl,j⟩
            go_wp2
            go_ret
            exact⟨by rw[b.out];rfl,B3.trans (j.mono B3.size)⟩
           ·have d:¬(120:Int)<(T.size:Int):=by omega
            have b:Hid (R=0):=by unfold Hid;rw[B.out,jh f]
            clear B
            go_wp2_with fail
            refine(G.out _).mono ?_
            rintro e wt ⟨rfl,j⟩
            go_wp2
            go_ret
            exact⟨by rw[b.out];rfl,B3.trans (j.mono B3.size)⟩
    ·have ae:(b0&&(b1&&(b2&&(b3&&b4))))=false:=by simpa using v
     rw[ae]
     have b:Hid (R=1):=by unfold Hid;rw[A.out,jo ae]
     clear A V Y Z H7 H8 G HU z0 z1 z2 z3 z4 z5 z6 z7 kf
     go_wp2
     go_ret
     exact⟨by rw[b.out];rfl,z⟩
def upL:jB:=[65,66,67,68,69,70,71,72,73,74,75,76,77,78,79,80,81,82,83,84,85,86,87,88,89,90]
theorem aT7(c:UInt8):upL.contains c=aI4 c:=by
 have:∀n:Fin 256,upL.contains (UInt8.ofNat n.val)=aI4 (UInt8.ofNat n.val):=by decide+kernel
 have h:=this ⟨c.toNat,c.toNat_lt⟩
 simp only[jce]at h
 exact h
theorem aC6(l:jB):aC3 33 126 (aId++upL) l=(aC3 33 126 aId l&&l.all λc=>!aI4 c):=by
 induction l with
 |nil=>rfl
 |cons c l a=>
  rw[aC4,aC4,a,jcv]
  have:inB 33 126 (aId++upL) c=(inB 33 126 aId c&&!aI4 c):=by
   unfold inB
   rw[<-aT7]
   simp[Bool.and_assoc]
  rw[this]
  cases inB 33 126 aId c<;>cases aI4 c<;>cases aC3 33 126 aId l<;>simp
theorem aG2(l:jB):∃a r,aML l=a::r/\a.contains 58=!(aEP l).isNone:=by
 refine⟨(aQ3 l).1,(aQ3 l).2,rfl,?_⟩
 induction l with
 |nil=>rfl
 |cons c l g=>
  by_cases b:c=47
  ·subst b;rfl
  ·unfold aQ3 aEP
   rw[jh b]
   by_cases d:c=58
   ·subst d;simp
   ·have f:(58==c)=false:=by rw[jg];exact λh=>d h.symm
    rw[jh d,jh b]
    show(c::(aQ3 l).1).contains 58=_
    rw[jbt,f,jcg,g]
    cases aEP l<;>rfl
theorem aNH(l:jB):Lib.hasPrefix l [47,47]=aNF l:=by
 rcases l with _|⟨a,_|⟨b,l⟩⟩
 ·rfl
 ·simp[Lib.hasPrefix,List.isPrefixOf,aNF]
 ·simp[Lib.hasPrefix,List.isPrefixOf,aNF,Bool.beq_comm]
theorem aOK(u:UV)(M:u.short maxLen)(w:World)(I:aAP w):
  Calls prog 102 #[u.v] w (jG (.int .i64 (aDW u.l:Nat)) w):=by
 obtain⟨T,j⟩:=aLi u
 have E:∀s:jA,s.data.toList.length=s.size:=λs=>(Lib.size_eq s).symm
 obtain⟨a,r,k,l⟩:=aG2 u.pth.data.toList
 refine aOL u.sch u.hst u.pth u.qry u.frg T ⟨a.toArray⟩ u.hh u.hq u.hf (u.l.sch.isEmpty||aPU u.l.sch) (aC3 33 126 (aId++upL) u.l.hst) (aC3 33 126 aMQ u.l.pth) (aC3 33 126 aHh u.l.qry) (aC3 33 126 aHh u.l.frg)
  ((!u.l.hst.isEmpty&&!u.hh)||(!u.l.qry.isEmpty&&!u.hq)||(!u.l.frg.isEmpty&&!u.hf)) (aNE u.l.pth) (aNF u.l.pth) (a.contains 58) u.l.hst.isEmpty u.l.qry.isEmpty u.l.frg.isEmpty u.l.pth.isEmpty u.l.sch.isEmpty r.length M w _ ?_ ?_
 ·intro h
  refine aKB _ ?_
  show 120<u.sch.data.toList.length\/120<u.hst.data.toList.length\/120<u.pth.data.toList.length\/120<u.qry.data.toList.length\/120<u.frg.data.toList.length
  rw[E,E,E,E,E];exact h
 ·intro h
  have d:u.short 120:=h
  obtain⟨R,S,U,V,X⟩:=h
  refine⟨?_,?_,rfl,rfl,rfl,rfl,rfl,rfl,?_,?_,?_,?_,?_,?_,?_,?_,?_,?_⟩
  ·rw[aKA _ (by
    show u.sch.data.toList.length<=120/\u.hst.data.toList.length<=120/\u.pth.data.toList.length<=120/\u.qry.data.toList.length<=120/\u.frg.data.toList.length<=120
    rw[E,E,E,E,E];exact d),<-j,E,aHk,aC6,l]
   have N:aVm u.l=((u.l.sch.isEmpty||aPU u.l.sch)&&((aC3 33 126 aId u.l.hst&&u.l.hst.all λc=>!aI4 c)&&(aC3 33 126 aMQ u.l.pth&&(aC3 33 126 aHh u.l.qry&&aC3 33 126 aHh u.l.frg)))):=by
    unfold aVm
    generalize (u.l.sch.isEmpty||aPU u.l.sch)=t
    generalize aC3 33 126 aId u.l.hst=v
    generalize (u.l.hst.all λc=>!aI4 c)=x
    generalize aC3 33 126 aMQ u.l.pth=y
    generalize aC3 33 126 aHh u.l.qry=z
    generalize aC3 33 126 aHh u.l.frg=A
    cases t<;>cases v<;>cases x<;>cases y<;>cases z<;>cases A<;>rfl
   rw[N]
   congr 1
   show _=(if _ then 4 else if(if u.hh=true then _ else _)=true then 4 else _)
   unfold aHi
   show(if(if(!u.hh&&!u.l.hst.isEmpty||!u.hq&&!u.l.qry.isEmpty||!u.hf&&!u.l.frg.isEmpty)=true then false else if u.hh=true then u.l.pth.isEmpty||aNE u.l.pth else if(!u.hh&&aNF u.l.pth)=true then false else !u.l.sch.isEmpty||(aEP u.l.pth).isNone)=false then 4 else _)=_
   generalize u.l.hst.isEmpty=e1
   generalize u.l.qry.isEmpty=B
   generalize u.l.frg.isEmpty=C
   generalize u.l.pth.isEmpty=D
   generalize u.l.sch.isEmpty=o
   generalize aNE u.l.pth=F
   generalize aNF u.l.pth=p
   show(if _ then 4 else _)=(if _ then 4 else if(if u.hh=true then _ else p||(o&&!(aEP u.l.pth).isNone))=true then 4 else _)
   generalize (aEP u.l.pth).isNone=G
   cases u.hh<;>cases e1<;>cases u.hq<;>cases B<;>cases u.hf<;>cases C<;>cases D<;>cases o<;>cases F<;>cases p<;>cases G<;>rfl
  ·rw[Lib.size_eq,j];exact aSF u d
  ·exact λW=>aPC u.sch W (by omega)
  ·exact λW=>aC7 u.hst _ _ rfl 33 126 33 126 rfl rfl W (by omega)
  ·exact λW=>aC7 u.pth _ _ rfl 33 126 33 126 rfl rfl W (by omega)
  ·exact λW=>aC7 u.qry _ _ rfl 33 126 33 126 rfl rfl W (by omega)
  ·exact λW=>aC7 u.frg _ _ rfl 33 126 33 126 rfl rfl W (by omega)
  ·exact λW=>aNP u.pth W
  ·intro W
   refine(strings_HasPrefix u.pth ⟨#[47,47]⟩ W).mono ?_
   rintro e w' ⟨rfl,rfl⟩
   refine⟨?_,rfl⟩
   rw[show Lib.hasPrefix u.pth.data.toList (ByteArray.mk #[47,47]).data.toList=aNF u.l.pth from aNH _]
  ·intro W J
   obtain⟨q,f,_,_,H⟩:=aQ1 u.pth W (I.below J) (by omega)
   rw[k]at f
   obtain⟨n,i,rfl⟩:∃n i,q=n::i:=by
    cases q with
    |nil=>cases f
    |cons a b=>exact⟨a,b,rfl⟩
   simp only[lst,jdm,jcn]at f
   obtain⟨O,P⟩:=f
   have L:i.length=r.length:=by rw[<-P,jD]
   have m:n=⟨a.toArray⟩:=aCx O
   refine H.mono ?_
   rintro e w' ⟨rfl,rfl⟩
   rw[jm,L,m]
   have g:(W.alloc (.cells ((⟨a.toArray⟩::i:List jA).map Value.string).toArray 9)).heap[W.heap.size]?=some (.cells ((⟨a.toArray⟩::i:List jA).map Value.string).toArray 9):=by
    show(W.heap.push _)[W.heap.size]?=_
    simp
   refine⟨rfl,ja _ _,?_,?_⟩
   ·exact aDf g 0
   ·exact aDh g 0
  ·intro W
   refine(strings_Contains_one ⟨a.toArray⟩ 58 W).mono ?_
   rintro e w' ⟨rfl,rfl⟩
   exact⟨by rw[Lib.contains_iff_indexByte],rfl⟩
  ·exact λW=>aPJ u d T j W
end Go.Proofs.YtbbfcbodhmeanaaGreatDoor
