import Derived.Test.YtmlgonbhoknoiaaGreatDoorJAL
import Derived.Test.YtmlgonbhoknoiaaGreatDoorJAP
import Derived.Test.YtmlgonbhoknoiaaGreatDoorJAQ
set_option maxHeartbeats 8000000
set_option maxRecDepth 100000
set_option linter.all false
namespace Go.Proofs.YtmlgonbhoknoiaaGreatDoor
open Go.RowKit Go.Proofs.Tryz
section
attribute [local go_sem ↓] Go.wp_at_zero Go.wp_at_succ
def fK (d:D)(a:Array Value)(e b c:Nat)(f:b=d.heap.size):(d.alloc (.cells a e)).cell? ⟨b,c,none⟩=a[c]?:=by subst f;simp
def fp (b:D)(d:Array Value)(c a f:Nat)(e:a=b.heap.size):(b.alloc (.cells d c)).frozen? ⟨a,f,none⟩=false:=by subst e;simp
def fj (a:dI)(b:Nat):Value:=if a.fault=0 then .tuple #[.agg #[j a.Xd,j a.WO],.agg #[j a.Xr,j a.Xg],.agg #[j (-1),j 0]]else .tuple #[.agg #[j 0,j 0],.agg #[j 0,j 0],.agg #[j (a7 a.fault b),j a.XF]]
def w2 (b c:Nat)(a:(Nat×Nat)×P):dI×P:=if a.1.2=0 then(⟨a.1.1,b,0,0,0,0⟩,a.2)else(⟨0,0,0,0,a.1.2,c⟩,a.2)
def xJ (e b c d:Nat)(a:(Nat×Nat)×P):dI×P:=if a.1.2=0 then(⟨e,b,a.1.1,c-b,0,0⟩,a.2)else(⟨0,0,0,0,a.1.2,d⟩,a.2)
def xI (e:Q)(b d c f:Nat)(a:(Nat×Nat)×P):dI×P:=if a.1.2=0 then xJ a.1.1 b d ((c+b)%4294967296) (hn a.2 e ((c+b)%4294967296) (d-b) f)else(⟨0,0,0,0,a.1.2,c⟩,a.2)
def UM (d:P)(e:Q)(b a f:Nat)(m:a<=4096-b%4096):a2 d e b a f=w2 a b (hn d e b a f):=by
 have k:gD b a=a:=Aq;unfold a2 jZ w2 hn qp;rw[k];obtain⟨h,j⟩:=y (a3 d e b f);rw[<-j];obtain⟨⟨l,i⟩,g⟩:=h;dsimp only;by_cases c:i=0
 . subst c;rw[B rfl,B rfl];cases bF (l:Nat) (a:Nat) g.o.length
   . rfl
   . rw[B rfl,B rfl,z (by omega)];rfl
 . rw[z c,z c,z c]
def UN (i:P)(c:Q)(b e d a:Nat)(s:a=4096-b%4096)(o:a<e):a2 i c b e d=xI c a e b d (hn i c b a d):=by
 have p:gD b e=a:=Aq;unfold a2 jZ xI hn qp;rw[p];obtain⟨j,k⟩:=y (a3 i c b d);rw[<-k];obtain⟨⟨q,n⟩,l⟩:=j;dsimp only;by_cases f:n=0
 . subst f;rw[B rfl,B rfl];cases bF (q:Nat) (a:Nat) l.o.length
   . rfl
   . rw[B rfl,B rfl,B o,B rfl];dsimp only;unfold ms xJ;obtain⟨j,k⟩:=y (a3 l c ((b+a)%4294967296) d);rw[<-k];obtain⟨⟨r,g⟩,m⟩:=j;dsimp only;by_cases h:g=0
     . subst h;rw[B rfl,B rfl];cases bF (r:Nat) ((e-a:Nat):Int) m.o.length
       . rfl
       . rfl
     . rw[z h,z h,z h]
 . rw[z f,z f,z f]
def xp (a:(Nat×Nat)×P)(e b d:Nat)(c:a.1.2=0):j1 a e b d=.tuple #[.agg #[j a.1.1,j b],.agg #[j (-1),j 0]]:=by unfold j1;rw[B c]
def xo (a:(Nat×Nat)×P)(c e b:Nat)(d:¬a.1.2=0):j1 a c e b=.tuple #[.agg #[j 0,j 0],.agg #[j (a7 a.1.2 b),j c]]:=by unfold j1;rw[z d]
def xz (a c b:Nat)(d:¬a=0):fj ⟨0,0,0,0,a,c⟩ b=.tuple #[.agg #[j 0,j 0],.agg #[j 0,j 0],.agg #[j (a7 a b),j c]]:=by unfold fj;dsimp only;rw[z d]
def ahT (k n e)(r:af e)(f c a:Nat)(H:G f)(C:1<=c)(D:c<=4)(A:a=0\/a=1\/a=2)(s:c<=4096-f%4096)(d)(p:Hid (E d k n e)):
 an 268 #[I k,j f,j c,j a] (fj (a2 e.b (S e) f c a).1 a) [n] k n (e.V7 (a2 e.b (S e) f c a).2) d:=by
 have O:=p.out.lt;have P:=p.out.Ww;have v:Hid (E (((d.alloc (.cells #[j 0,j 0] 231)).alloc (.cells #[j 0,j 0] 231)).alloc (.cells #[j 0,j 0] 118)) k n e):=FW;have h:=l (fun W x=>x7 k n e r f c a H C D A W x);rw[UM e.b (S e) f c a s];obtain⟨w,q⟩:=y (hn e.b (S e) f c a);simp only[<-q]at h;rw[<-q];clear q;obtain⟨⟨m,o⟩,u⟩:=w;unfold w2;dsimp only at h|-;have Q:decide ((c:Int)<=4096- (f:Int)%4096)=true:=M;by_cases i:o=0
 . subst i;rw[B rfl];simp only[xp ((m,0),u) f c a rfl]at h;rw[show fj ⟨m,c,0,0,0,0⟩ a=.tuple #[.agg #[j m,j c],.agg #[j 0,j 0],.agg #[j (-1),j 0]]from rfl];clear r p s;go_enter func268,ntmps268;go_wp2_with fail;refine(h.out _ v).mono ?_;rintro J g ⟨rfl,t,b⟩;obtain⟨Z,aa,K,ai,aj,ab,ak,ae,al,ag,ao,ah⟩:av g d.heap.size 0 0:=rO;obtain⟨ap,aq,L,ay,az,ar,aA,au,aB,aw,aC,ax⟩:av g (d.heap.size+1) 0 0:=rP;obtain⟨aD,aE,N,aJ,aK,aF,aM,aG,aN,aH,aO,aI⟩:av g (d.heap.size+1+1) 0 0:=rQ;go_upto_region 4 with fail;go_region;all_goals
    go_wp2_with fail;refine ac (v:=.tuple #[.agg #[j m,j c],.agg #[j 0,j 0],.agg #[j (-1),j 0]]) yJ rfl ⟨rfl,t.more (G:=[d.heap.size,d.heap.size+1,d.heap.size+1+1]) ?_ ad ad,?_⟩
    . exact fI
    . exact im
 . rw[z i];simp only[xo ((m,o),u) f c a i]at h;rw[xz o f a i];clear r p s i;go_enter func268,ntmps268;go_wp2_with fail;refine(h.out _ v).mono ?_;rintro J g ⟨rfl,t,b⟩;obtain⟨Z,aa,K,ai,aj,ab,ak,ae,al,ag,ao,ah⟩:av g d.heap.size 0 0:=rO;obtain⟨ap,aq,L,ay,az,ar,aA,au,aB,aw,aC,ax⟩:av g (d.heap.size+1) 0 0:=rP;obtain⟨aD,aE,N,aJ,aK,aF,aM,aG,aN,aH,aO,aI⟩:av g (d.heap.size+1+1) 0 0:=rQ;go_upto_region 4 with fail;go_region;all_goals
    go_wp2_with fail;refine ac (v:=.tuple #[.agg #[j 0,j 0],.agg #[j 0,j 0],.agg #[j (a7 o a),j f]]) yJ rfl ⟨rfl,t.more (G:=[d.heap.size,d.heap.size+1,d.heap.size+1+1]) ?_ ad ad,?_⟩
    . exact fI
    . exact im
def ahU (u v e)(D:af e)(f k d:Nat)(bL:G f)(aX:1<=k)(aY:k<=4)(a3:d=0\/d=1\/d=2)(U:4096-f%4096<k)(c)(p:Hid (E c u v e)):
 an 268 #[I u,j f,j k,j d] (fj (a2 e.b (S e) f k d).1 d) [v] u v (e.V7 (a2 e.b (S e) f k d).2) c:=by
 have cj:=p.out.lt;have ck:=p.out.Ww;have aZ:Hid (E (((c.alloc (.cells #[j 0,j 0] 231)).alloc (.cells #[j 0,j 0] 231)).alloc (.cells #[j 0,j 0] 118)) u v e):=FW;obtain⟨a,T⟩:=y (4096-f%4096);rw[<-T]at U;have aQ:1<=a:=J;have s:=l (fun W aV=>x7 u v e D f a d bL aQ m a3 W aV);rw[UN e.b (S e) f k d a T U];have H:=U5 D.b (S e) f a d;obtain⟨aT,x⟩:=y (hn e.b (S e) f a d);simp only[<-x]at s;rw[<-x]at H|-;clear x;obtain⟨⟨t,C⟩,q⟩:=aT;have R:=N.okB D H;unfold xI;dsimp only at s H R|-;have cg:4096- (f:Int)%4096=(a:Int):=J;have cf:decide (k<=a)=false:=M;by_cases P:C=0
 . subst P;rw[B rfl];simp only[xp ((t,0),q) f a d rfl]at s;have r:=l (fun W aV=>x7 u v (e.V7 q) R ((f+a)%4294967296) (k-a) d m m m a3 W aV);have bH:S (e.V7 q)=S e:=rfl;have bI:(e.V7 q).b=q:=rfl;simp only[bH,bI]at r;have aU:Hid (∀W,O 136 #[j ((f:Int)+(a:Int))] (j ((f+a)%4294967296:Nat)) W):=l (fun W=>by have:=e0 ((f:Int)+(a:Int)) W;rw[show am ((f:Int)+(a:Int))=(f+a)%4294967296 by unfold am;omega]at this;exact this);have bJ:(k:Int)- (a:Int)=((k-a:Nat):Int):=J;obtain⟨X,a4⟩:=y ((f+a)%4294967296);obtain⟨w,hd⟩:=y (k-a);have ch:w<=4:=J;simp only[<-a4,<-hd]at r aU bJ|-;obtain⟨aT,x⟩:=y (hn q (S e) X w d);simp only[<-x]at r;rw[<-x];clear x a4;obtain⟨⟨Y,g⟩,aP⟩:=aT;have bK:(e.V7 q).V7 aP=e.V7 aP:=rfl;simp only[bK]at r;unfold xJ;dsimp only;rw[<-hd];by_cases Q:g=0
   . subst Q;rw[B rfl];simp only[xp ((Y,0),aP) X w d rfl]at r;rw[show fj ⟨t,a,Y,w,0,0⟩ d=.tuple #[.agg #[j t,j a],.agg #[j Y,j w],.agg #[j (-1),j 0]]from rfl];clear D p U R H T hd aX aY aQ;go_enter func268,ntmps268;go_wp2_with fail;refine(s.out _ aZ).mono ?_;rintro o h ⟨rfl,V,b⟩;obtain⟨Z,aa,a5,ai,aj,ab,ak,ae,al,ag,ao,ah⟩:av h c.heap.size 0 0:=rO;obtain⟨ap,aq,a6,ay,az,ar,aA,au,aB,aw,aC,ax⟩:av h (c.heap.size+1) 0 0:=rP;obtain⟨aD,aE,a8,aJ,aK,aF,aM,aG,aN,aH,aO,aI⟩:av h (c.heap.size+1+1) 0 0:=rQ;have a0:Hid (E (((h.alloc (.cells #[j t,j a] 231)).alloc (.cells #[j (-1),j 0] 118)).alloc (.cells #[j (-1),j 0] 118)) u v (e.V7 q)):=l (((V.alloc _).alloc _).alloc _);go_wp2_with(first|(go_at_call 83;refine(cd _ _ _).mono ?_;rintro o aS ⟨rfl,rfl⟩)|(go_at_call 136;refine(aU.out _).mono ?_;rintro o i ⟨rfl,rfl⟩));refine(r.out _ a0).mono ?_;rintro o i ⟨rfl,a1,n⟩;obtain⟨a9,ba,bY,bf,bg,bb,bh,bc,bi,bd,bj,be⟩:av i c.heap.size 0 0:=pm;obtain⟨bk,bl,bZ,bq,br,bm,bs,bn,bt,bo,bu,bp⟩:av i (c.heap.size+1) 0 0:=pm;obtain⟨bv,bw,b0,bC,bD,bx,bE,bz,bF,bA,bG,bB⟩:av i (c.heap.size+1+1) 0 0:=pm;obtain⟨b1,b2,b3,b8,b9,b4,ca,b5,cb,b6,cc,b7⟩:av i h.heap.size t a:=HJ;obtain⟨bM,bN,bO,bT,bU,bP,bV,bQ,bW,bR,bX,bS⟩:av i (h.heap.size+1) (-1) 0:=HK;go_upto_region 11 with(first|(go_at_call 83;refine(cd _ _ _).mono ?_;rintro o aS ⟨rfl,rfl⟩));go_region;all_goals
      go_wp2_with fail;refine ac (v:=.tuple #[.agg #[j t,j a],.agg #[j Y,j w],.agg #[j (-1),j 0]]) F0 rfl ⟨rfl,a1.more (G:=[c.heap.size,c.heap.size+1,c.heap.size+1+1,h.heap.size+1]) ?_ ad ad,?_⟩
      . exact fI
      . exact vr
   . rw[z Q];simp only[xo ((Y,g),aP) X w d Q]at r;rw[xz g X d Q];have aW:=jo g d;obtain⟨L,A⟩:=y (a7 g d);have K:a7 g d=L:=A.symm;try dsimp only at r
     simp only[K]at r;rw[<-A]at aW|-;clear D p U R H T hd aX aY aQ Q A K;go_enter func268,ntmps268;go_wp2_with fail;refine(s.out _ aZ).mono ?_;rintro o h ⟨rfl,V,b⟩;obtain⟨Z,aa,a5,ai,aj,ab,ak,ae,al,ag,ao,ah⟩:av h c.heap.size 0 0:=rO;obtain⟨ap,aq,a6,ay,az,ar,aA,au,aB,aw,aC,ax⟩:av h (c.heap.size+1) 0 0:=rP;obtain⟨aD,aE,a8,aJ,aK,aF,aM,aG,aN,aH,aO,aI⟩:av h (c.heap.size+1+1) 0 0:=rQ;have a0:Hid (E (((h.alloc (.cells #[j t,j a] 231)).alloc (.cells #[j (-1),j 0] 118)).alloc (.cells #[j (-1),j 0] 118)) u v (e.V7 q)):=l (((V.alloc _).alloc _).alloc _);go_wp2_with(first|(go_at_call 83;refine(cd _ _ _).mono ?_;rintro o aS ⟨rfl,rfl⟩)|(go_at_call 136;refine(aU.out _).mono ?_;rintro o i ⟨rfl,rfl⟩));refine(r.out _ a0).mono ?_;rintro o i ⟨rfl,a1,n⟩;obtain⟨a9,ba,bY,bf,bg,bb,bh,bc,bi,bd,bj,be⟩:av i c.heap.size 0 0:=pm;obtain⟨bk,bl,bZ,bq,br,bm,bs,bn,bt,bo,bu,bp⟩:av i (c.heap.size+1) 0 0:=pm;obtain⟨bv,bw,b0,bC,bD,bx,bE,bz,bF,bA,bG,bB⟩:av i (c.heap.size+1+1) 0 0:=pm;obtain⟨b1,b2,b3,b8,b9,b4,ca,b5,cb,b6,cc,b7⟩:av i h.heap.size t a:=HJ;obtain⟨bM,bN,bO,bT,bU,bP,bV,bQ,bW,bR,bX,bS⟩:av i (h.heap.size+1) (-1) 0:=HK;go_upto_region 10 with(first|(go_at_call 83;refine(cd _ _ _).mono ?_;rintro o aS ⟨rfl,rfl⟩));go_region;all_goals
      go_wp2_with fail;refine ac (v:=.tuple #[.agg #[j 0,j 0],.agg #[j 0,j 0],.agg #[j L,j X]]) F0 rfl ⟨rfl,a1.more (G:=[c.heap.size,c.heap.size+1,c.heap.size+1+1,h.heap.size+1]) ?_ ad ad,?_⟩
      . exact fI
      . exact vr
 . rw[z P];simp only[xo ((t,C),q) f a d P]at s;rw[xz C f d P];have aW:=jo C d;obtain⟨L,A⟩:=y (a7 C d);have K:a7 C d=L:=A.symm;try dsimp only at s
   simp only[K]at s;rw[<-A]at aW|-;clear D p U R H T aX aY aQ P A K;go_enter func268,ntmps268;go_wp2_with fail;refine(s.out _ aZ).mono ?_;rintro o h ⟨rfl,V,b⟩;obtain⟨Z,aa,a5,ai,aj,ab,ak,ae,al,ag,ao,ah⟩:av h c.heap.size 0 0:=rO;obtain⟨ap,aq,a6,ay,az,ar,aA,au,aB,aw,aC,ax⟩:av h (c.heap.size+1) 0 0:=rP;obtain⟨aD,aE,a8,aJ,aK,aF,aM,aG,aN,aH,aO,aI⟩:av h (c.heap.size+1+1) 0 0:=rQ;go_upto_region 7 with(first|(go_at_call 83;refine(cd _ _ _).mono ?_;rintro o aS ⟨rfl,rfl⟩));go_region;all_goals
    go_wp2_with fail;refine ac (v:=.tuple #[.agg #[j 0,j 0],.agg #[j 0,j 0],.agg #[j L,j f]]) yJ rfl ⟨rfl,V.more (G:=[c.heap.size,c.heap.size+1,c.heap.size+1+1]) ?_ ad ad,?_⟩
    . exact fI
    . exact im
def lj (e f a)(h:af a)(d c b:Nat)(n:G d)(k:1<=c)(l:c<=4)(i:b=0\/b=1\/b=2)(g)(o:Hid (E g e f a)):
 an 268 #[I e,j d,j c,j b] (fj (a2 a.b (S a) d c b).1 b) [f] e f (a.V7 (a2 a.b (S a) d c b).2) g:=by
 by_cases p:c<=4096-d%4096
 . exact ahT e f a h d c b n k l i p g o
 . exact ahU e f a h d c b n k l i m g o
def BD (a:D)(b:Nat)(p:Addr):(a.drewN b).cell? p=a.cell? p:=rfl
def BX (a:D)(b:Nat)(p:Addr):(a.drewN b).frozen? p=a.frozen? p:=rfl
def au (a:Int):Nat:=(ef a).toNat
def wZ (a:Int):((au a:Nat):Int)=ef a:=by
 unfold au ef;repeat' split
 all_goals omega
def ix (a:Int):1<=au a/\au a<=4:=by
 have:=wZ a;unfold ef at this;repeat' split at this
 all_goals omega
theorem k2 (b:P)(c:Q)(a e d:Nat)(g:(a2 b c a e d).1.fault=0):bF ((a2 b c a e d).1.Xd:Nat) ((a2 b c a e d).1.WO:Nat) b.o.length=true/\(0< (a2 b c a e d).1.Xg->bF ((a2 b c a e d).1.Xr:Nat) ((a2 b c a e d).1.Xg:Nat) b.o.length=true):=by
 have h:=tq b c a d;have f:=tq (a3 b c a d).2 c ((a+gD a e)%4294967296) d;revert g;unfold a2 jZ ms;obtain⟨m,l⟩:=y (gD a e);rw[<-l]at f|-;obtain⟨i,j⟩:=y (a3 b c a d);rw[<-j]at h f|-;obtain⟨n,k⟩:=y (a3 i.2 c ((a+m)%4294967296) d);rw[<-k]at f|-;rw[h]at f;repeat' split
 all_goals (intro g;dsimp only at g|-)
 all_goals first
  | (exfalso;omega)
  | (exact⟨by rw[<-h];assumption,fun _=>by rw[<-f];assumption⟩)
  | (exact⟨by rw[<-h];assumption,fun g=>by omega⟩)
def fs (a:Int)(b:Nat):Nat:=if a=11\/a=12 then am (ga b (ef a))else b
def aw (a:N)(i:ak):Nat:=am ((a.x.getD i.V1 0:Int)+i.V2)
def aS (a b:Int):Value:=.agg #[j a,j b]
def jd (b:N)(i:ak)(a:dI×P):(Int×Nat)×N:=
 if a.1.fault=0 then((-1,0),a6 (b.V7 (dU a.2 a.1).2) i.rd (fs i.op (dU a.2 a.1).1))else((a7 a.1.fault 1,a.1.XF),b.V7 a.2)
def bU (a:N)(i:ak):(Int×Nat)×N:=jd a i (a2 a.b (S a) (aw a i) (au i.op) 1)
def aha (e f a)(h:af a)(i:ak)(r:aU i)(k:(a2 a.b (S a) (aw a i) (au i.op) 1).1.fault≠0)(g)(c:Hid (E g e f a)):
 an 200 #[I e,ag i] (aS (bU a i).1.1 (bU a i).1.2) [e,f] e f ((bU a i).2) g:=by
 have aG:=c.out.lt;have aH:=c.out.Ww;have aI:=r.Xu;have aJ:=r.Xv;have T:=h.WE i.V1;have p:=l (fun W x=>bV e f a i.V1 r.V1 W x);have o:Hid (E ((g.alloc (az i)).alloc (.cells #[j 0,j 0] 118)) e f a):=cD;have A:G (aw a i):=lC;have n:=ix i.op;have d:=l (fun W x=>lj e f a h (aw a i) (au i.op) 1 A n.1 n.2 (.inr (.inl rfl)) W x);have C:Hid (∀W,O 269 #[j i.op] (j (au i.op)) W):=lD;have w:Hid (∀W,O 136 #[j ((a.x.getD i.V1 0:Int)+i.V2)] (j (aw a i)) W):=lE;have wr:IntKind.i64.wrap ((a.x.getD i.V1 0:Int)+i.V2)=(a.x.getD i.V1 0:Int)+i.V2:=dG;have t:=hl h.b (S a) (aw a i) (au i.op) 1;have u:=hm a.b (S a) (aw a i) (au i.op) 1 A n.1;have v:=k2 a.b (S a) (aw a i) (au i.op) 1;have s:=k1 a.b (S a) (aw a i) (au i.op) 1;unfold bU jd;obtain⟨Q,hS⟩:=y (a2 a.b (S a) (aw a i) (au i.op) 1);simp only[<-hS]at d t u v s k|-;obtain⟨ba,L⟩:=y (aw a i);obtain⟨a6,K⟩:=y (au i.op);obtain⟨aF,H⟩:=y (a.x.getD i.V1 0);simp only[<-L]at d w;simp only[<-K]at d C u n;simp only[<-H]at p w wr T;clear hS L H;obtain⟨⟨ad,Z,ae,aa,q,B⟩,aE⟩:=Q;have D:=N.okB h t;rw[<-s]at v;dsimp only at d t u v s k D|-;rw[z k];unfold az at o;unfold ag;obtain⟨ab,aj,ar,ax,X,Y⟩:=i;dsimp only at *;rw[show fj ⟨ad,Z,ae,aa,q,B⟩ 1=.tuple #[.agg #[j 0,j 0],.agg #[j 0,j 0],.agg #[j (a7 q 1),j B]]by unfold fj;dsimp only;rw[z k];rfl]at d;have U:=jo q 1;obtain⟨R,J⟩:=y (a7 q 1);simp only[<-J]at d U|-;unfold aS;clear c h r J k v u s t D K n A;go_enter func200,ntmps200;go_upto_region 1 with fail;go_quiet ((first|(go_at_call 40;first|exact br (p.out _ o)|exact br (p.out _ (l (o.out.drewN _)))|exact br (p.out _ (l o.out.drew)))|(go_at_call 136;exact br (w.out _))));go_wp2_with(go_at_call 269;refine(C.out _).mono ?_;rintro M bb ⟨rfl,rfl⟩);refine(d.out _ (l (o.out.drewN _))).mono ?_;rintro M P ⟨rfl,V,b⟩;obtain⟨aM,aN,aO,aP,aQ,aT,aV,a0,a1,aW,a3,aX,a4,aY,a5,aZ⟩:a8 P g.heap.size ab aj ar ax X Y:=m5;obtain⟨ah,ai,a9,ay,aA,al,aB,ao,aC,ap,aD,aq⟩:av P (g.heap.size+1) 0 0:=lQ;go_wp2_with(first|(go_at_call 83;refine(cd _ _ _).mono ?_;rintro M bc ⟨rfl,rfl⟩));refine ac (v:=.agg #[j R,j B]) (by simp[results,results200,go_sem,ah,ai,ay,aA,al,aB,ao,aC,ap,aD,aq,ej,fb]) rfl ⟨rfl,V.box (g.heap.size+1) ?_ m m,?_⟩
 . exact jG
 . exact ng
def fr (a:N):List Value:=[j a.c.V5,j a.c.WG,j a.c.V9,j a.c.Wd,j a.c.Wo,j a.c.Wz,j a.c.Wp,j a.c.W8,j a.c.WK,j a.c.Wm,j a.c.Wx,j a.c.WB,j a.c.WH,j a.c.WA,j a.c.WR,j a.c.Wu,j a.c.WD,j a.c.WI,j a.c.Wf,j a.c.Wy,j a.c.WN,j a.c.ret,j a.c.We]
def jN {g e f b}(c:E g e f b):g.rangeAt e 38 (fr b):=by
 intro a j d;have i:a<23:=by
  have:=(oF.1 d).1;simpa[fr]using this
 have h:(ct f b)[38+a]?=(fr b)[a]?:=by
  have c:a=0\/a=1\/a=2\/a=3\/a=4\/a=5\/a=6\/a=7\/a=8\/a=9\/a=10\/a=11\/a=12\/a=13\/a=14\/a=15\/a=16\/a=17\/a=18\/a=19\/a=20\/a=21\/a=22:=J;rcases c with rfl|rfl|rfl|rfl|rfl|rfl|rfl|rfl|rfl|rfl|rfl|rfl|rfl|rfl|rfl|rfl|rfl|rfl|rfl|rfl|rfl|rfl|rfl<;>rfl
 rw[c.cell (38+a) (by omega),h,d]
def wH :(prog.info? 71).map (·.size)=some 23:=by kernel_rfl
def Bf (b:D)(a:Array Value)(c:Nat):(b.alloc (.cells a c)).there b.heap.size 0 a.size:=by
 intro e d;constructor
 . simp[d]
 . simp
theorem Kept.setCells {d:List Nat}{e:D}(a:Nat)(h:a∈d\/e.heap.size<=a):∀(g:List Value) (b:Nat) (c:D),Kept d e c->Kept d e (c.setCells a b g)
 |[],b,c,f=>f
 |i::g,b,c,f=>Kept.setCells a h g (b+1) _ (f.setCell h i)
def sr (a:D)(d:Array Value)(e:Nat)(b:Array Value)(f:b.size=d.size):∃c,c=(a.alloc (.cells d e)).setCells a.heap.size 0 b.toList/\c.rangeAt a.heap.size 0 b.toList/\Kept [] a c:=by
 refine⟨_,rfl,j9 _ _ _ _ ?_,Kept.setCells _ (.inr (aB _)) _ _ _ ((Kept.refl _ _).alloc _)⟩;have:=Bf a d e;rw[<-f]at this;simpa using this
theorem DY (d:Nat):∀(c:List Value) (b:Nat) (a:D),(a.setCells d b c).heap.size=a.heap.size
 |[],b,a=>rfl
 |e::c,b,a=>by rw[World.setCells,DY d c];simp[World.setCell]
def aic (c q a)(k:af a)(b)(g:Hid (E b c q a)):
 aE 317 #[I c,j 256] (.tuple #[j (a.c.V5&&&786722:Nat),.bool true]) b:=by
 have s:=g.out.lt;have HR:=l (jN g.out);obtain⟨i,e⟩:=y (fr a);rw[<-e]at HR;have o:=l e;have h:i.toArray.size=23:=lL;clear e;have t:=k.V5;have u:bits .and .i64 (a.c.V5:Int) 786722=((a.c.V5&&&786722:Nat):Int):=bm a.c.V5 786722 m m;exact Ac
def aid (c q a)(k:af a)(b)(g:Hid (E b c q a)):
 aE 317 #[I c,j 260] (.tuple #[j (a.c.Wd&&&a.c.V9:Nat),.bool true]) b:=by
 have s:=g.out.lt;have HR:=l (jN g.out);obtain⟨i,e⟩:=y (fr a);rw[<-e]at HR;have o:=l e;have h:i.toArray.size=23:=lL;clear e;have t:=k.Wd;have hd:=k.V9;have u:=bm a.c.Wd a.c.V9 m m;exact Ac
def aie (c m a)(k:af a)(b)(g:Hid (E b c m a)):
 aE 317 #[I c,j 261] (.tuple #[j (a.c.WH:Nat),.bool true]) b:=nh
def aif (c m a)(k:af a)(b)(g:Hid (E b c m a)):
 aE 317 #[I c,j 262] (.tuple #[j (a.c.WA:Nat),.bool true]) b:=nh
def aih (c m a)(k:af a)(b)(g:Hid (E b c m a)):
 aE 317 #[I c,j 320] (.tuple #[j (a.c.WR:Nat),.bool true]) b:=nh
def aii (c m a)(k:af a)(b)(g:Hid (E b c m a)):
 aE 317 #[I c,j 321] (.tuple #[j (a.c.Wu:Nat),.bool true]) b:=nh
def aij (c m a)(k:af a)(b)(g:Hid (E b c m a)):
 aE 317 #[I c,j 322] (.tuple #[j (a.c.WD:Nat),.bool true]) b:=nh
def aik (c m a)(k:af a)(b)(g:Hid (E b c m a)):
 aE 317 #[I c,j 323] (.tuple #[j (a.c.WI:Nat),.bool true]) b:=nh
def aim (c m a)(k:af a)(b)(g:Hid (E b c m a)):
 aE 317 #[I c,j 384] (.tuple #[j (a.c.Wf:Nat),.bool true]) b:=nh
def ail (k z a)(i:af a)(b)(n:Hid (E b k z a)):
 aE 317 #[I k,j 324] (.tuple #[j (dV a&&&a.c.V9:Nat),.bool true]) b:=by
 have J:=n.out.lt;have HR:=l (jN n.out);obtain⟨g,e⟩:=y (fr a);rw[<-e]at HR;have o:=l e;have h:g.toArray.size=23:=lL;clear e;have hd:=i.V9;have D:=qj a i;have x:=bm (dV a) a.c.V9 m m;have s:=l (fun W C=>x6 k z a i W C);obtain⟨p,v⟩:=y (dV a);simp only[<-v]at s x|-;obtain⟨r,w⟩:=y (p&&&a.c.V9);rw[<-w]at x|-;clear i v w D hd;go_enter func317,ntmps317;go_upto_region 1 with fail;refine gj ?_;refine wpList_plain rfl (fun f c=>?_);go_simp;refine c _ _ ?_;clear c f;refine wpList_plain rfl (fun f c=>?_);go_simp;refine c _ _ ?_;clear c f;refine wpList_plain rfl (fun f c=>?_);go_simp;refine c _ _ ?_;clear c f;refine ra rfl _ _ rfl k 38 (by rfl) g _ HR.out rb rfl uy ?_;refine wpList_plain rfl (fun f c=>?_);go_simp;refine c _ _ ?_;clear c f;refine gl rfl _ _ _ rfl b.heap.size 0 g.toArray rfl rfl uz uA uB ?_;obtain⟨A,q,d,u⟩:=sr b (#[j 0,j 0,j 0,j 0,j 0,j 0,j 0,j 0,j 0,j 0,j 0,j 0,j 0,j 0,j 0,j 0,j 0,j 0,j 0,j 0,j 0,j 0,j 0]) 71 g.toArray h;rw[<-q];have H:b.heap.size<A.heap.size:=ajU;clear q;have d2:al A b.heap.size 2 (j a.c.V9):=Ha;clear d;refine gm ?_;have G:=n.out.kept u;go_upto_region 20 with fail;go_region_held3 (fun B=>B.cell? ⟨b.heap.size,2,none⟩=some (j a.c.V9)) (first|go_keep|exact(t.cell (p:=⟨b.heap.size,2,none⟩) H F).trans d2) (first|(go_at_call 127;refine(s.out _ (l G.drew)).mono ?_;rintro K L ⟨rfl,t⟩));all_goals
  go_wp2_with fail;go_ret2;exact⟨rfl,(u.trans (Kept.refl _ _).drew).trans t⟩
def ain (c m:Nat)(a:N)(g:Int)(s:(g==256)=false)(t:(g==260)=false)(u:(g==261)=false)(v:(g==262)=false)(w:(g==320)=false)(x:(g==321)=false)(z:(g==322)=false)(A:(g==323)=false)(B:(g==324)=false)(C:(g==384)=false)(b)(k:Hid (E b c m a)):
 aE 317 #[I c,j g] (.tuple #[j 0,.bool false]) b:=by
 have q:=k.out.lt;have HR:=l (jN k.out);obtain⟨i,e⟩:=y (fr a);rw[<-e]at HR;have o:=l e;have h:i.toArray.size=23:=lL;clear e;clear k;exact Kf
def bQ (a:N)(b:Int):Nat×Bool:=
 if b=256 then(a.c.V5&&&786722,true)else if b=260 then(a.c.Wd&&&a.c.V9,true)else if b=261 then(a.c.WH,true)else if b=262 then(a.c.WA,true)else if b=320 then(a.c.WR,true)else if b=321 then(a.c.Wu,true)else if b=322 then(a.c.WD,true)else if b=323 then(a.c.WI,true)else if b=324 then(dV a&&&a.c.V9,true)else if b=384 then(a.c.Wf,true)else(0,false)
def aib (c e a)(g:af a)(b:Int)(d)(f:Hid (E d c e a)):
 aE 317 #[I c,j b] (.tuple #[j ((bQ a b).1:Nat),.bool (bQ a b).2]) d:=by
 by_cases h:b=256
 . subst h;exact aic c e a g d f
 by_cases i:b=260
 . subst i;exact aid c e a g d f
 by_cases k:b=261
 . subst k;exact aie c e a g d f
 by_cases l:b=262
 . subst l;exact aif c e a g d f
 by_cases m:b=320
 . subst m;exact aih c e a g d f
 by_cases n:b=321
 . subst n;exact aii c e a g d f
 by_cases o:b=322
 . subst o;exact aij c e a g d f
 by_cases p:b=323
 . subst p;exact aik c e a g d f
 by_cases q:b=324
 . subst q;exact ail c e a g d f
 by_cases r:b=384
 . subst r;exact aim c e a g d f
 rw[show bQ a b=(0,false)by unfold bQ;simp[h,i,k,l,m,n,o,p,q,r]];exact ain c e a b (by simp[h]) (by simp[i]) (by simp[k]) (by simp[l]) (by simp[m]) (by simp[n]) (by simp[o]) (by simp[p]) (by simp[q]) (by simp[r]) d f
def ahX (c m a)(k:af a)(b)(g:Hid (E b c m a)):
 aE 318 #[I c,j 768] (.tuple #[j (a.c.V5:Nat),.bool true]) b:=io
def ahZ (c m a)(k:af a)(b)(g:Hid (E b c m a)):
 aE 318 #[I c,j 770] (.tuple #[j (a.c.WG:Nat),.bool true]) b:=io
def ah0 (c m a)(k:af a)(b)(g:Hid (E b c m a)):
 aE 318 #[I c,j 771] (.tuple #[j (a.c.V9:Nat),.bool true]) b:=io
def ah1 (c m a)(k:af a)(b)(g:Hid (E b c m a)):
 aE 318 #[I c,j 772] (.tuple #[j (a.c.Wd:Nat),.bool true]) b:=io
def ah2 (c m a)(k:af a)(b)(g:Hid (E b c m a)):
 aE 318 #[I c,j 773] (.tuple #[j (a.c.Wz:Nat),.bool true]) b:=io
def ah3 (c m a)(k:af a)(b)(g:Hid (E b c m a)):
 aE 318 #[I c,j 774] (.tuple #[j (a.c.Wp:Nat),.bool true]) b:=io
def ah4 (c m a)(k:af a)(b)(g:Hid (E b c m a)):
 aE 318 #[I c,j 800] (.tuple #[j (a.c.W8:Nat),.bool true]) b:=io
def ah5 (c m a)(k:af a)(b)(g:Hid (E b c m a)):
 aE 318 #[I c,j 832] (.tuple #[j (a.c.WK:Nat),.bool true]) b:=io
def ah6 (c m a)(k:af a)(b)(g:Hid (E b c m a)):
 aE 318 #[I c,j 833] (.tuple #[j (a.c.Wm:Nat),.bool true]) b:=io
def ah7 (c m a)(k:af a)(b)(g:Hid (E b c m a)):
 aE 318 #[I c,j 834] (.tuple #[j (a.c.Wx:Nat),.bool true]) b:=io
def ah8 (c m a)(k:af a)(b)(g:Hid (E b c m a)):
 aE 318 #[I c,j 835] (.tuple #[j (a.c.WB:Nat),.bool true]) b:=io
def ahY (c m a)(k:af a)(b)(g:Hid (E b c m a)):
 aE 318 #[I c,j 769] (.tuple #[j (1075056901:Nat),.bool true]) b:=io
def ah9 (g s d)(m:af d)(b)(i:Hid (E b g s d)):
 aE 318 #[I g,j 836] (.tuple #[j (dV d:Nat),.bool true]) b:=by
 have x:=i.out.lt;have HR:=l (jN i.out);obtain⟨f,e⟩:=y (fr d);rw[<-e]at HR;have o:=l e;have h:f.toArray.size=23:=lL;clear e;have k:=l (fun W t=>x6 g s d m W t);obtain⟨p,q⟩:=y (dV d);simp only[<-q]at k|-;clear m q;go_enter func318,ntmps318;go_upto_region 1 with fail;refine gj ?_;refine wpList_plain rfl (fun c a=>?_);go_simp;refine a _ _ ?_;clear a c;refine wpList_plain rfl (fun c a=>?_);go_simp;refine a _ _ ?_;clear a c;refine wpList_plain rfl (fun c a=>?_);go_simp;refine a _ _ ?_;clear a c;refine ra rfl _ _ rfl g 38 (by rfl) f _ HR.out rb rfl uy ?_;refine wpList_plain rfl (fun c a=>?_);go_simp;refine a _ _ ?_;clear a c;refine gl rfl _ _ _ rfl b.heap.size 0 f.toArray rfl rfl uz uA uB ?_;obtain⟨B,r,v,n⟩:=sr b (#[j 0,j 0,j 0,j 0,j 0,j 0,j 0,j 0,j 0,j 0,j 0,j 0,j 0,j 0,j 0,j 0,j 0,j 0,j 0,j 0,j 0,j 0,j 0]) 71 f.toArray h;rw[<-r];clear r;clear v;refine gm ?_;have w:=i.out.kept n;go_wp2_with(go_at_call 127;refine(k.out _ (l w)).mono ?_;rintro z A ⟨rfl,u⟩);go_ret2;exact⟨rfl,n.trans u⟩
def aia (q u:Nat)(r:N)(a:Int)(z:(a==768)=false)(A:(a==769)=false)(B:(a==770)=false)(C:(a==771)=false)(D:(a==772)=false)(F:(a==773)=false)(G:(a==774)=false)(H:(a==800)=false)(J:(a==832)=false)(K:(a==833)=false)(L:(a==834)=false)(O:(a==835)=false)(P:(a==836)=false)(b)(n:Hid (E b q u r)):
 aE 318 #[I q,j a] (.tuple #[j 0,.bool (decide (803<=a/\a<=831))]) b:=by
 have x:=n.out.lt;have HR:=l (jN n.out);obtain⟨k,e⟩:=y (fr r);rw[<-e]at HR;have o:=l e;have h:k.toArray.size=23:=lL;clear e;clear n;obtain⟨m,i⟩:=y (decide (803<=a/\a<=831));rw[<-i];by_cases d:803<=a
 . have s:decide (803<=a)=true:=iZ;by_cases c:a<=831
   . have t:decide (a<=831)=true:=eT;have p:Hid (m=true):=by rw[i];show _=_;simp[d,c]
     exact Ad
   . have t:decide (a<=831)=false:=M;have p:Hid (m=false):=by rw[i];show _=_;simp[c]
     exact Ad
 . have s:decide (803<=a)=false:=M;have p:Hid (m=false):=by rw[i];show _=_;simp[d]
   exact Ad
def bO (b:N)(a:Int):Nat×Bool:=
 if a=768 then(b.c.V5,true)else if a=769 then(1075056901,true)else if a=770 then(b.c.WG,true)else if a=771 then(b.c.V9,true)else if a=772 then(b.c.Wd,true)else if a=773 then(b.c.Wz,true)else if a=774 then(b.c.Wp,true)else if a=800 then(b.c.W8,true)else if a=832 then(b.c.WK,true)else if a=833 then(b.c.Wm,true)else if a=834 then(b.c.Wx,true)else if a=835 then(b.c.WB,true)else if a=836 then(dV b,true)else(0,decide (803<=a/\a<=831))
def ahW (c e b)(g:af b)(a:Int)(d)(f:Hid (E d c e b)):
 aE 318 #[I c,j a] (.tuple #[j ((bO b a).1:Nat),.bool (bO b a).2]) d:=by
 by_cases h:a=768
 . subst h;exact ahX c e b g d f
 by_cases i:a=769
 . subst i;exact ahY c e b g d f
 by_cases k:a=770
 . subst k;exact ahZ c e b g d f
 by_cases l:a=771
 . subst l;exact ah0 c e b g d f
 by_cases m:a=772
 . subst m;exact ah1 c e b g d f
 by_cases n:a=773
 . subst n;exact ah2 c e b g d f
 by_cases o:a=774
 . subst o;exact ah3 c e b g d f
 by_cases p:a=800
 . subst p;exact ah4 c e b g d f
 by_cases q:a=832
 . subst q;exact ah5 c e b g d f
 by_cases r:a=833
 . subst r;exact ah6 c e b g d f
 by_cases s:a=834
 . subst s;exact ah7 c e b g d f
 by_cases t:a=835
 . subst t;exact ah8 c e b g d f
 by_cases u:a=836
 . subst u;exact ah9 c e b g d f
 rw[show bO b a=(0,decide (803<=a/\a<=831))by unfold bO;simp[h,i,k,l,m,n,o,p,q,r,s,t,u]];exact aia c e b a (by simp[h]) (by simp[i]) (by simp[k]) (by simp[l]) (by simp[m]) (by simp[n]) (by simp[o]) (by simp[p]) (by simp[q]) (by simp[r]) (by simp[s]) (by simp[t]) (by simp[u]) d f
end
end Go.Proofs.YtmlgonbhoknoiaaGreatDoor
