import Derived.Test.YtmlgonbhoknoiaaGreatDoorJAU
import Derived.Test.YtmlgonbhoknoiaaGreatDoorJAW
import Derived.Test.YtmlgonbhoknoiaaGreatDoorJAX
set_option maxHeartbeats 8000000
set_option maxRecDepth 100000
set_option linter.all false
namespace Go.Proofs.YtmlgonbhoknoiaaGreatDoor
open Go.RowKit Go.Proofs.Tryz
section
attribute [local go_sem ↓] Go.wp_at_zero Go.wp_at_succ
def ahd (u z a)(L:af a)(i:ak)(ab:aU i)(ai:(a2 a.b (S a) (aw a i) (au i.op) 1).1.fault=0)(v:0< (a2 a.b (S a) (aw a i) (au i.op) 1).1.Xg)(t:i.op=11\/i.op=12)(g)(c:Hid (E g u z a)):
 an 200 #[I u,ag i] (aS (bU a i).1.1 (bU a i).1.2) [u,z] u z ((bU a i).2) g:=by
 have bl:=c.out.lt;have bm:=c.out.Ww;have bo:=ab.Xu;have bp:=ab.Xv;have bb:=L.WE i.V1;have aq:=l (fun W x=>bV u z a i.V1 ab.V1 W x);have ae:Hid (E ((g.alloc (az i)).alloc (.cells #[j 0,j 0] 118)) u z a):=cD;have aC:G (aw a i):=lC;have M:=ix i.op;have aa:=l (fun W x=>lj u z a L (aw a i) (au i.op) 1 aC M.1 M.2 (.inr (.inl rfl)) W x);have P:Hid (∀W,O 269 #[j i.op] (j (au i.op)) W):=lD;have aG:Hid (∀W,O 136 #[j ((a.x.getD i.V1 0:Int)+i.V2)] (j (aw a i)) W):=lE;have wr:IntKind.i64.wrap ((a.x.getD i.V1 0:Int)+i.V2)=(a.x.getD i.V1 0:Int)+i.V2:=dG;have H:=hl L.b (S a) (aw a i) (au i.op) 1;have C:=hm a.b (S a) (aw a i) (au i.op) 1 aC M.1;have p:=k2 a.b (S a) (aw a i) (au i.op) 1;have aj:=k1 a.b (S a) (aw a i) (au i.op) 1;unfold bU jd;obtain⟨a1,hS⟩:=y (a2 a.b (S a) (aw a i) (au i.op) 1);simp only[<-hS]at aa H C p aj ai v|-;obtain⟨bq,aT⟩:=y (aw a i);obtain⟨bc,aB⟩:=y (au i.op);obtain⟨bh,aO⟩:=y (a.x.getD i.V1 0);simp only[<-aT]at aa aG;simp only[<-aB]at aa P C M;simp only[<-aO]at aq aG wr bb;clear hS aT aO;obtain⟨⟨f,d,K,D,bk,bf⟩,k⟩:=a1;have aN:=N.okB L H;rw[<-aj]at p;dsimp only at aa H C p aj ai v aN|-;rw[B ai];subst ai;have p:=p rfl;have aV:=L.x;have aP:=ab.rd;have dX:=C.WO rfl;have aF:=C.sum rfl;have aY:=C.Xd;have aZ:=C.Xr;dsimp only at dX aF aY aZ;unfold az at ae;unfold ag;rw[show fj ⟨f,d,K,D,0,bf⟩ 1=.tuple #[.agg #[j f,j d],.agg #[j K,j D],.agg #[j (-1),j 0]]from rfl]at aa;have ar:=l (fun W x=>ot u z (a.V7 k) H f d aY dX m p.1 W x);have al:=ji H f d;have aE:=iC H f d dX;have aA:=Db k f d;have a6:(a.V7 k).b=k:=rfl;rw[a6]at ar;have ad:=l (fun W x=>ot u z (a.V7 (ba k f d).2) al K D aZ m m F5 W x);have ao:=iC al K D m;rw[show(a.V7 (ba k f d).2).b=(ba k f d).2 from rfl]at ad;unfold dU;dsimp only;rw[B v];obtain⟨a3,aJ⟩:=y (ba k f d);simp only[<-aJ]at ar al aE ad ao|-;clear aJ;obtain⟨w,ah⟩:=a3;have a7:(a.V7 k).V7 ah=a.V7 ah:=rfl;rw[a7]at ar;obtain⟨a4,aM⟩:=y (ba ah K D);simp only[<-aM]at ad ao|-;clear aM;obtain⟨q,ax⟩:=a4;have a9:(a.V7 ah).V7 ax=a.V7 ax:=rfl;rw[a9]at ad;obtain⟨ap,aQ⟩:=y (8*d);have bn:ap<=32:=J;have bi:(8:Int)* (d:Int)=(ap:Int):=J;have A:=CE w q d D bc aE ao aF M.2;have aI:(2:Int)^ap=((256^d:Nat):Int):=by
  have a5:(2:Nat)^(8*d)=256^d:=uV;rw[aQ,<-a5];simp
 obtain⟨Z,aD⟩:=y (q*256^d);have bs:wrap64 ((q:Int)*2^ap)=(Z:Int):=by
  rw[aD];rw[aI,<-ys];exact wrap_small _ F6 F7
 obtain⟨n,r⟩:=y ((w+q*256^d));have a0:G n:=uU;have o:=l (fun W x=>fZ u z (a.V7 ax) aV i.rd (fs i.op (w+q*256^d)) aP W x);have Q:Hid (∀W,O 271 #[j n,j (au i.op)] (j (ga n (ef i.op))) W):=G3;have R:=l (e0 (ga n (ef i.op)));have aH:fs i.op n=am (ga n (ef i.op)):=by unfold fs;rw[B t]
 rw[<-r]at o|-;rw[<-aB]at Q;rw[aH]at o|-;obtain⟨bg,aW⟩:=y (ga n (ef i.op));simp only[<-aW]at Q R o|-;obtain⟨bt,aX⟩:=y (am bg);simp only[<-aX]at R o|-;have bj:(w:Int)+(Z:Int)=(n:Int):=by rw[r,aD];simp
 obtain⟨s,V,X,Y,T,U⟩:=i;dsimp only at *;unfold aS;clear c L ab p C aj H aN aB M aC aQ r A aH al aE aA aI ao v aD aW aX aV aP aF;rcases t with t|t
 . have bd:(s==11)=true:=lJ;have be:(s==12)=false:=lJ;exact Kc
 . have bd:(s==11)=false:=lJ;have be:(s==12)=true:=lJ;exact Kc
def ag8 (b c a)(f:af a)(i:ak)(h:aU i)(d)(j:Hid (E d b c a)):
 an 200 #[I b,ag i] (aS (bU a i).1.1 (bU a i).1.2) [b,c] b c ((bU a i).2) d:=by
 by_cases g:(a2 a.b (S a) (aw a i) (au i.op) 1).1.fault=0
 . by_cases k:(a2 a.b (S a) (aw a i) (au i.op) 1).1.Xg=0
   . by_cases e:i.op=11\/i.op=12
     . exact ahb b c a f i h g k e d j
     exact ahc b c a f i h g k e d j
   . by_cases e:i.op=11\/i.op=12
     . exact ahd b c a f i h g (ue k) e d j
     exact ahe b c a f i h g (ue k) e d j
 . exact aha b c a f i h g d j
def agG (g q f)(k:af f)(i:ak)(o:aU i)(N:Nat)(s:11<=i.op/\i.op<=15)(e)(c:Hid (E e g q f)):
 an 134 #[I g,ag i,j N] (aS (bU f i).1.1 (bU f i).1.2) [g,q] g q ((bU f i).2) e:=by
 have R:=c.out.lt;have S:=c.out.Ww;have p:Hid (E ((e.alloc (az i)).alloc (.cells #[j 0,j 0] 118)) g q f):=cD;have HR:=l (fun W=>gL i.op W);have h:=l (fun W=>fD i.op W);simp only[show bv i.op=false by unfold bv;simp;omega,show decide (5<=i.op/\i.op<=10)=false by simp;omega]at HR h;unfold az at p;have d:=l (fun W L=>ag8 g q f k i o W L);unfold ag at d;obtain⟨⟨⟨t,z⟩,Q⟩,n⟩:∃r,r=bU f i:=⟨_,rfl⟩;simp only[<-n]at d|-;try dsimp only at d|-
 unfold aS at d;unfold ag aS;obtain⟨a,w,x,y,u,v⟩:=i;dsimp only at *;have T:decide (a>=11)=true:=M;have U:decide (a<=15)=true:=M;exact KA
def agM (g q f)(k:af f)(i:ak)(o:aU i)(N:Nat)(s:16<=i.op/\i.op<=18)(e)(c:Hid (E e g q f)):
 an 134 #[I g,ag i,j N] (aS (cB f i).1.1 (cB f i).1.2) [g,q] g q ((cB f i).2) e:=by
 have R:=c.out.lt;have S:=c.out.Ww;have p:Hid (E ((e.alloc (az i)).alloc (.cells #[j 0,j 0] 118)) g q f):=cD;have HR:=l (fun W=>gL i.op W);have h:=l (fun W=>fD i.op W);simp only[show bv i.op=false by unfold bv;simp;omega,show decide (5<=i.op/\i.op<=10)=false by simp;omega]at HR h;unfold az at p;have d:=l (fun W L=>aiR g q f k i o W L);unfold ag at d;obtain⟨⟨⟨t,z⟩,Q⟩,n⟩:∃r,r=cB f i:=⟨_,rfl⟩;simp only[<-n]at d|-;try dsimp only at d|-
 unfold aS at d;unfold ag aS;obtain⟨a,w,x,y,u,v⟩:=i;dsimp only at *;have T:decide (a>=11)=true:=M;have U:decide (a>=16)=true:=M;have V:decide (a<=15)=false:=M;exact KA
def agy (g q f)(k:af f)(i:ak)(o:aU i)(N:Nat)(s:50<=i.op/\i.op<=60)(e)(c:Hid (E e g q f)):
 an 134 #[I g,ag i,j N] (aS (bI f i).1.1 (bI f i).1.2) [g,q] g q ((bI f i).2) e:=by
 have R:=c.out.lt;have S:=c.out.Ww;have p:Hid (E ((e.alloc (az i)).alloc (.cells #[j 0,j 0] 118)) g q f):=cD;have HR:=l (fun W=>gL i.op W);have h:=l (fun W=>fD i.op W);simp only[show bv i.op=false by unfold bv;simp;omega,show decide (5<=i.op/\i.op<=10)=false by simp;omega]at HR h;unfold az at p;have d:=l (fun W L=>agq g q f k i o s W L);unfold ag at d;obtain⟨⟨⟨t,z⟩,Q⟩,n⟩:∃r,r=bI f i:=⟨_,rfl⟩;simp only[<-n]at d|-;try dsimp only at d|-
 unfold aS at d;unfold ag aS;obtain⟨a,w,x,y,u,v⟩:=i;dsimp only at *;have T:decide (a>=11)=true:=M;have U:decide (a>=16)=true:=M;have V:decide (a>=50)=true:=M;have X:decide (a<=15)=false:=M;have Y:decide (a<=18)=false:=M;exact KB
def agD (b d a)(g:af a)(i:ak)(k:aU i)(p:Nat)(m:i.op=40)(e)(c:Hid (E e b d a)):
 an 134 #[I b,ag i,j p] (aS ((8+a.mode:Nat):Int) 0) [b,d] b d a e:=by
 have s:=c.out.lt;have r:=c.out.Xl;have n:Hid (E ((e.alloc (az i)).alloc (.cells #[j 0,j 0] 118)) b d a):=cD;have HR:=l (fun W=>gL i.op W);have f:=l (fun W=>fD i.op W);simp only[show bv i.op=false by unfold bv;simp;omega,show decide (5<=i.op/\i.op<=10)=false by simp;omega]at HR f;unfold az at n;unfold ag aS;obtain⟨w,x,y,z,u,v⟩:=i;dsimp only at *;subst m;have t:=g.mode;have h:((8+a.mode:Nat):Int)=8+(a.mode:Int):=J;rw[h];clear g k;go_enter func134,ntmps134;go_wp2_with(first|(go_at_call 196;refine(HR.out _).mono ?_;rintro o q ⟨rfl,rfl⟩)|(go_at_call 193;refine(f.out _).mono ?_;rintro o q ⟨rfl,rfl⟩));refine ac (v:=.agg #[j (8+(a.mode:Int)),j 0]) uD rfl ⟨rfl,?_,?_⟩
 . exact vy
 . exact r2
def agC (b d a)(g:af a)(i:ak)(h:aU i)(o:Nat)(k:i.op=41)(e)(c:Hid (E e b d a)):
 an 134 #[I b,ag i,j o] (aS 3 a.V3) [b,d] b d a e:=by
 have r:=c.out.lt;have q:=c.out.Xk;have m:Hid (E ((e.alloc (az i)).alloc (.cells #[j 0,j 0] 118)) b d a):=cD;have HR:=l (fun W=>gL i.op W);have f:=l (fun W=>fD i.op W);simp only[show bv i.op=false by unfold bv;simp;omega,show decide (5<=i.op/\i.op<=10)=false by simp;omega]at HR f;unfold az at m;unfold ag aS;obtain⟨u,v,w,x,s,t⟩:=i;dsimp only at *;subst k;clear g h;go_enter func134,ntmps134;go_wp2_with(first|(go_at_call 196;refine(HR.out _).mono ?_;rintro n p ⟨rfl,rfl⟩)|(go_at_call 193;refine(f.out _).mono ?_;rintro n p ⟨rfl,rfl⟩));refine ac (v:=.agg #[j 3,j a.V3]) uD rfl ⟨rfl,?_,?_⟩
 . exact vy
 . exact r2
def agz (a d b)(g:af b)(i:ak)(h:aU i)(m:Nat)(o:5<=i.op/\i.op<=10)(e)(c:Hid (E e a d b)):
 an 134 #[I a,ag i,j m] (aS (-1) 0) [a,d] a d b e:=by
 have n:=c.out.lt;have k:Hid (E ((e.alloc (az i)).alloc (.cells #[j 0,j 0] 118)) a d b):=cD;have HR:=l (fun W=>gL i.op W);have f:=l (fun W=>fD i.op W);simp only[show bv i.op=false by unfold bv;simp;omega,show decide (5<=i.op/\i.op<=10)=true by simp;omega]at HR f;unfold az at k;unfold ag aS;obtain⟨r,s,t,u,p,q⟩:=i;dsimp only at *;exact KD
def agE (a d b)(g:af b)(i:ak)(h:aU i)(m:Nat)(k:i.op=38)(e)(c:Hid (E e a d b)):
 an 134 #[I a,ag i,j m] (aS (-1) 0) [a,d] a d b e:=KE
def agF (a d b)(g:af b)(i:ak)(h:aU i)(m:Nat)(k:i.op=39)(e)(c:Hid (E e a d b)):
 an 134 #[I a,ag i,j m] (aS (-1) 0) [a,d] a d b e:=KE
def agH (d f e)(k:af e)(i:ak)(m:aU i)(b:Nat)(p:i.op<=0)(h)(c:Hid (E h d f e)):
 an 134 #[I d,ag i,j b] (aS 2 b) [d,f] d f e h:=by
 have o:=c.out.lt;have n:Hid (E ((h.alloc (az i)).alloc (.cells #[j 0,j 0] 118)) d f e):=cD;have HR:=l (fun W=>gL i.op W);have g:=l (fun W=>fD i.op W);simp only[show bv i.op=false by unfold bv;simp;omega,show decide (5<=i.op/\i.op<=10)=false by simp;omega]at HR g;unfold az at n;unfold ag aS;obtain⟨a,x,y,z,q,r⟩:=i;dsimp only at *;have s:decide (a>=11)=false:=M;have t:decide (a>=16)=false:=M;have u:decide (a>=50)=false:=M;have v:decide (a>=61)=false:=M;have w:decide (a>=67)=false:=M;exact KF
def agI (d f e)(k:af e)(i:ak)(m:aU i)(b:Nat)(p:71<=i.op)(h)(c:Hid (E h d f e)):
 an 134 #[I d,ag i,j b] (aS 2 b) [d,f] d f e h:=by
 have o:=c.out.lt;have n:Hid (E ((h.alloc (az i)).alloc (.cells #[j 0,j 0] 118)) d f e):=cD;have HR:=l (fun W=>gL i.op W);have g:=l (fun W=>fD i.op W);simp only[show bv i.op=false by unfold bv;simp;omega,show decide (5<=i.op/\i.op<=10)=false by simp;omega]at HR g;unfold az at n;unfold ag aS;obtain⟨a,C,D,F,q,r⟩:=i;dsimp only at *;have s:decide (a>=11)=true:=M;have t:decide (a>=16)=true:=M;have u:decide (a>=50)=true:=M;have v:decide (a>=61)=true:=M;have w:decide (a>=67)=true:=M;have x:decide (a<=15)=false:=M;have y:decide (a<=18)=false:=M;have z:decide (a<=60)=false:=M;have A:decide (a<=66)=false:=M;have B:decide (a<=70)=false:=M;exact KF
end
structure aC where
 Xz:List L
 i:U
 Xa:List L
def bp (b:K)(i:U)(a:K):Value:=.agg #[.string b,j i.op,j i.rd,j i.V1,j i.V6,j i.V2,j i.V4,.string a]
def kT (a:aC):Value:=bp ⟨a.Xz.toArray⟩ a.i ⟨a.Xa.toArray⟩
def eL :aC:=⟨[],aF,[]⟩
def du (b a:K):Option U->Value
 |some i=>.tuple #[bp b i a,.bool true]
 |none=>.tuple #[bp ⟨#[]⟩ aF ⟨#[]⟩,.bool false]
namespace u
def fS (i:U)(a:Nat)(b:List L):Option U:=
 match cr b with
 |none=>none
 |some r=>some (if a=100 then{i with rd:=r}else if a=115 then{i with V1:=r}else{i with V6:=r})
def hg (i:U)(b:Nat)(a:List L):Option U:=
 if(number a).2=true then some (if b=117 then{i with V1:=(number a).1}else{i with V2:=(number a).1})else none
def fR (i:U)(t0 t1 t2 t3:List L):Option U:=
 if t1=[40]/\t3=[41]/\(number t0).2=true then
  match cr t2 with
  |none=>none
  |some r=>some {i with V2:=(number t0).1,V1:=r}
 else none
end u
theorem vW (c b:K)(i:U)(d:Nat)(k:d=100\/d=115\/d=116)(a:K)(m:D):
 aa 373 #[bp c i b,.int .u8 d,.string a] (du c b (u.fS i d a.data.toList)) m:=by
 unfold u.fS;obtain⟨j,h⟩:=y (u.cr a.data.toList);rw[<-h];have e:=l h;clear h;unfold bp;cases j with
 |none=>
  go_enter func373,ntmps373;go_wp2_with fail;refine(nm a _).mono ?_;rintro g f ⟨rfl,rfl⟩;rw[<-e.out];go_wp2;refine ac (v:=du c b none) uG rfl ⟨rfl,?_⟩;repeat(first|exact aq _ _|(with_reducible refine bf ?_ F _)|(with_reducible refine bl ?_ F _))
 |some r=>
  rcases k with rfl|rfl|rfl
  . go_enter func373,ntmps373;go_wp2_with fail;refine(nm a _).mono ?_;rintro g f ⟨rfl,rfl⟩;rw[<-e.out];go_wp2;refine ac (v:=du c b (some {i with rd:=r})) uG rfl ⟨rfl,?_⟩;exact vE
  . go_enter func373,ntmps373;go_wp2_with fail;refine(nm a _).mono ?_;rintro g f ⟨rfl,rfl⟩;rw[<-e.out];go_wp2;refine ac (v:=du c b (some {i with V1:=r})) uG rfl ⟨rfl,?_⟩;exact vE
  . go_enter func373,ntmps373;go_wp2_with fail;refine(nm a _).mono ?_;rintro g f ⟨rfl,rfl⟩;rw[<-e.out];go_wp2;refine ac (v:=du c b (some {i with V6:=r})) uG rfl ⟨rfl,?_⟩;exact vE
def ha (b:K)(a:List L):(b.toList==a)=decide (b.data.toList=a):=by
 rw[mR,dZ];simp
def bc.more {a w':D}{b d:Nat}{c:List (List L)}(e:Hid (bc a b d c))(g:b<a.heap.size)(f:Below a.heap.size a w'):Hid (bc w' b d c):=e.out.below f g
def ez (a:List (List L)):Prop:=∀b∈a,b.length<=5000
theorem ez.get {a:List (List L)}(d:Hid (ez a))(b:Nat):(a[b]?.getD []).length<=5000:=by
 cases c:a[b]? with
 |none=>simp
 |some e=>exact d.out e (List.mem_of_getElem? c)
theorem Oy (q p:K)(i:U)(n v E:Nat)(b:List (List L))(J:b.length<=5000)(a:Nat)(al:a<=9000)(f:D)(g:Hid (bc f n v b))(ah:n<f.heap.size)(ai:Hid (ez b)):
 aa 374 #[bp q i p,.slice (some ⟨n,v,none⟩) b.length E,j a] (du q p (u.fR i (b[a]?.getD []) (b[a+1]?.getD []) (b[a+2]?.getD []) (b[a+3]?.getD []))) f:=by
 unfold bp;have I:=fun f g=>np n v E b J a m f g;have c1:=fun f g=>np n v E b J (a+1) m f g;have c2:=fun f g=>np n v E b J (a+2) m f g;have c3:=fun f g=>np n v E b J (a+3) m f g;have C:=ez.get ai a;obtain⟨t0,S⟩:=y (b[a]?.getD []);obtain⟨t1,T⟩:=y (b[a+1]?.getD []);obtain⟨t2,V⟩:=y (b[a+2]?.getD []);obtain⟨t3,W⟩:=y (b[a+3]?.getD []);rw[<-S,<-T,<-V,<-W];rw[<-S]at I C;rw[<-T]at c1;rw[<-V]at c2;rw[<-W]at c3;clear S T V W;obtain⟨k,x⟩:=y (⟨t0.toArray⟩:K);obtain⟨s,P⟩:=y (⟨t1.toArray⟩:K);obtain⟨A,Q⟩:=y (⟨t2.toArray⟩:K);obtain⟨t,R⟩:=y (⟨t3.toArray⟩:K);rw[show u.aG t0=.string k by rw[x];rfl]at I;rw[show u.aG t1=.string s by rw[P];rfl]at c1;rw[show u.aG t2=.string A by rw[Q];rfl]at c2;rw[show u.aG t3=.string t by rw[R];rfl]at c3;have f0:k.data.toList=t0:=by rw[x]
 have f1:s.data.toList=t1:=by rw[P]
 have f2:A.data.toList=t2:=by rw[Q]
 have f3:t.data.toList=t3:=by rw[R]
 have M:k.size<=5000:=Hu;clear x P Q R C;subst f0 f1 f2 f3;have N:=l I;have w:=l c1;have ad:=l c2;have H:=l c3;clear I c1 c2 c3;have ab:Below f.heap.size f ((f.alloc (.cells #[Value.string q,j i.op,j i.rd,j i.V1,j i.V6,j i.V2,j i.V4,.string p] 185)).alloc (.cells #[Value.string ⟨#[]⟩,j 0,j 0,j 0,j 0,j 0,j 0,.string ⟨#[]⟩] 185)):=pk;have e:=bc.more g ah ab;clear ab;have ae:(s.toList==[40])=decide (s.data.toList=[40]):=ha s [40];have Z:(t.toList==[41])=decide (t.data.toList=[41]):=ha t [41];unfold u.fR;by_cases h:s.data.toList=[40]
 . rw[bd h]at ae;by_cases o:t.data.toList=[41]
   . rw[bd o]at Z;obtain⟨ag,Y⟩:=y (u.number k.data.toList);rw[<-Y];have O:=l Y;clear Y;obtain⟨aj,ak⟩:=ag;cases ak with
     |false=>
      rw[z (fun G=>by simp at G)];clear h o;go_enter func374,ntmps374;go_wp2_with fail;rw[show(a:Int)+1=((a+1:Nat):Int)by omega];refine(w.out _ e).mono ?_;rintro c d ⟨rfl,rfl⟩;go_wp2_with fail;rw[show(a:Int)+3=((a+3:Nat):Int)by omega];refine(H.out _ e).mono ?_;rintro c d ⟨rfl,rfl⟩;go_wp2_with fail;refine(N.out _ e).mono ?_;rintro c d ⟨rfl,rfl⟩;go_wp2_with fail;refine(jM k M _).mono ?_;rintro c d ⟨rfl,rfl⟩;rw[<-O.out];go_wp2;refine ac (v:=du q p none) uH rfl ⟨rfl,?_⟩;repeat(first|exact aq _ _|(with_reducible refine bf ?_ F _)|(with_reducible refine bl ?_ F _))
     |true=>
      rw[B ⟨h,o,rfl⟩];clear h o;obtain⟨af,X⟩:=y (u.cr A.data.toList);rw[<-X];have HR:=l X;clear X;cases af with
      |none=>
       go_enter func374,ntmps374;go_wp2_with fail;rw[show(a:Int)+1=((a+1:Nat):Int)by omega];refine(w.out _ e).mono ?_;rintro c d ⟨rfl,rfl⟩;go_wp2_with fail;rw[show(a:Int)+3=((a+3:Nat):Int)by omega];refine(H.out _ e).mono ?_;rintro c d ⟨rfl,rfl⟩;go_wp2_with fail;refine(N.out _ e).mono ?_;rintro c d ⟨rfl,rfl⟩;go_wp2_with fail;refine(jM k M _).mono ?_;rintro c d ⟨rfl,rfl⟩;rw[<-O.out];go_wp2_with fail;rw[show(a:Int)+2=((a+2:Nat):Int)by omega];refine(ad.out _ e).mono ?_;rintro c d ⟨rfl,rfl⟩;go_wp2_with fail;refine(nm A _).mono ?_;rintro c d ⟨rfl,rfl⟩;rw[<-HR.out];go_wp2;refine ac (v:=du q p none) uH rfl ⟨rfl,?_⟩;repeat(first|exact aq _ _|(with_reducible refine bf ?_ F _)|(with_reducible refine bl ?_ F _))
      |some r=>
       go_enter func374,ntmps374;go_wp2_with fail;rw[show(a:Int)+1=((a+1:Nat):Int)by omega];refine(w.out _ e).mono ?_;rintro c d ⟨rfl,rfl⟩;go_wp2_with fail;rw[show(a:Int)+3=((a+3:Nat):Int)by omega];refine(H.out _ e).mono ?_;rintro c d ⟨rfl,rfl⟩;go_wp2_with fail;refine(N.out _ e).mono ?_;rintro c d ⟨rfl,rfl⟩;go_wp2_with fail;refine(jM k M _).mono ?_;rintro c d ⟨rfl,rfl⟩;rw[<-O.out];go_wp2_with fail;rw[show(a:Int)+2=((a+2:Nat):Int)by omega];refine(ad.out _ e).mono ?_;rintro c d ⟨rfl,rfl⟩;go_wp2_with fail;refine(nm A _).mono ?_;rintro c d ⟨rfl,rfl⟩;rw[<-HR.out];go_wp2;refine ac (v:=du q p (some {i with V2:=aj,V1:=r})) uH rfl ⟨rfl,?_⟩;repeat(first|exact aq _ _|(with_reducible refine bf ?_ F _)|(with_reducible refine bl ?_ F _))
   . rw[aV o]at Z;rw[z (fun G=>o G.2.1)];clear h o;go_enter func374,ntmps374;go_wp2_with fail;rw[show(a:Int)+1=((a+1:Nat):Int)by omega];refine(w.out _ e).mono ?_;rintro c d ⟨rfl,rfl⟩;go_wp2_with fail;rw[show(a:Int)+3=((a+3:Nat):Int)by omega];refine(H.out _ e).mono ?_;exact Mm
 . rw[aV h]at ae;rw[z (fun G=>h G.1)];clear h Z;go_enter func374,ntmps374;go_wp2_with fail;rw[show(a:Int)+1=((a+1:Nat):Int)by omega];refine(w.out _ e).mono ?_;exact Mm
namespace u
def cb (i:U)(g:List L)(b:Nat)(a:List (List L)):Option (U×List L):=
 if b=100\/b=115\/b=116 then(fS i b (a[0]?.getD [])).map fun c=>(c,g)
 else if b=109 then(fR i (a[0]?.getD []) (a[1]?.getD []) (a[2]?.getD []) (a[3]?.getD [])).map fun c=>(c,g)
 else if b=106/\isName (a[0]?.getD [])=true then some (i,a[0]?.getD [])
 else(hg i b (a[0]?.getD [])).map fun c=>(c,g)
end u
def eq (a:K):Option (U×List L)->Value
 |some (i,g)=>.tuple #[bp a i ⟨g.toArray⟩,.bool true]
 |none=>.tuple #[bp ⟨#[]⟩ aF ⟨#[]⟩,.bool false]
def mm (b:K)(g:List L)(a:Option U):eq b (a.map fun c=>(c,g))=du b ⟨g.toArray⟩ a:=by cases a<;>rfl
def Oo (a:Nat)(c:D):
 O 330 #[.int .u8 a] (j (if a=109 then 4 else 1:Nat)) c:=by
 by_cases b:a=109
 . subst b;exact Mn
 . rw[z b];have d:((a:Int)==109)=false:=M;exact Mn
structure bC (b:D)(a:Nat)(d:K)(i:U)(c:K):Prop where
 V8:b.cell? ⟨a,0,none⟩=some (.string d)
 c1:b.cell? ⟨a,1,none⟩=some (j i.op)
 c2:b.cell? ⟨a,2,none⟩=some (j i.rd)
 c3:b.cell? ⟨a,3,none⟩=some (j i.V1)
 c4:b.cell? ⟨a,4,none⟩=some (j i.V6)
 c5:b.cell? ⟨a,5,none⟩=some (j i.V2)
 W4:b.cell? ⟨a,6,none⟩=some (j i.V4)
 W5:b.cell? ⟨a,7,none⟩=some (.string c)
 Wb:∀e,b.frozen? ⟨a,e,none⟩=false
 lt:a<b.heap.size
def bC.more {g w':D}{a n:Nat}{e G:K}{i:U}(b:bC g a e i G)(c:Below n g w')(d:a<n):bC w' a e i G:=
 ⟨(c.cell (p:=⟨a,0,none⟩) d).trans b.V8,(c.cell (p:=⟨a,1,none⟩) d).trans b.c1,(c.cell (p:=⟨a,2,none⟩) d).trans b.c2,(c.cell (p:=⟨a,3,none⟩) d).trans b.c3,(c.cell (p:=⟨a,4,none⟩) d).trans b.c4,(c.cell (p:=⟨a,5,none⟩) d).trans b.c5,(c.cell (p:=⟨a,6,none⟩) d).trans b.W4,(c.cell (p:=⟨a,7,none⟩) d).trans b.W5,fun f=>(c.frozen (p:=⟨a,f,none⟩) d).trans (b.Wb f),by have:=c.size;have:=b.lt;omega⟩
def bX (b:K)(i:U)(a:K):Obj:=.cells #[.string b,j i.op,j i.rd,j i.V1,j i.V6,j i.V2,j i.V4,.string a] 185
def bC.new (c:D)(b:K)(i:U)(a:K):bC (c.alloc (bX b i a)) c.heap.size b i a:=by
 unfold bX;refine⟨?_,?_,?_,?_,?_,?_,?_,?_,?_,?_⟩<;>simp
theorem bC.alloc {a:D}{c:Nat}{b G:K}{i:U}(d:bC a c b i G)(e:Obj):bC (a.alloc e) c b i G:=d.more ((aq a.heap.size a).alloc (aB _) e) d.lt
def nE (a:List (List L))(b c:Nat):(a.drop b)[c]?=a[b+c]?:=oE
theorem Ox (d:K)(g:List L)(i:U)(t:Nat)(aj:t=100\/t=115\/t=116\/t=109\/t=106\/t=117\/t=105)(w H T:Nat)(o:List (List L))(ad:o.length<=5000)(r:Nat)(ai:r<=9000)(f:D)(G:Hid (bc f w H o))(O:w<f.heap.size)(ag:Hid (ez o)):
 aa 329 #[bp d i ⟨g.toArray⟩,.int .u8 t,.slice (some ⟨w,H,none⟩) o.length T,j r] (eq d (u.cb i g t (o.drop r))) f:=by
 have N:=fun f G=>np w H T o ad r m f G;have C:=ez.get ag r;have V:=fun(f:D) (G:Hid (bc f w H o)) (O:w<f.heap.size)=>Oy d ⟨g.toArray⟩ i w H T o ad r ai f G O ag;unfold u.cb;rw[nE,nE,nE,nE,dl];obtain⟨t0,W⟩:=y (o[r]?.getD []);rw[<-W];rw[<-W]at N C V;clear W;obtain⟨a,x⟩:=y (⟨t0.toArray⟩:K);rw[show u.aG t0=.string a by rw[x];rfl]at N;have f0:a.data.toList=t0:=by rw[x]
 have s:a.size<=5000:=Hu;clear x C;subst f0;have p:=l N;have ab:=l V;clear N V;obtain⟨k,e⟩:=y (⟨g.toArray⟩:K);have M:Below f.heap.size f ((f.alloc (bX d i k)).alloc (bX ⟨#[]⟩ aF ⟨#[]⟩)):=pk;have n:=bc.more G O M;have af:w< ((f.alloc (bX d i k)).alloc (bX ⟨#[]⟩ aF ⟨#[]⟩)).heap.size:=aR O M.size;have ae:bC ((f.alloc (bX d i k)).alloc (bX ⟨#[]⟩ aF ⟨#[]⟩)) (f.heap.size+1) ⟨#[]⟩ aF ⟨#[]⟩:=by
  have ah:=bC.new (f.alloc (bX d i k)) ⟨#[]⟩ aF ⟨#[]⟩;simpa using ah
 have P:=l M;have Y:=l af;have Z:=l ae;unfold bX aF at n P Y Z;clear M af ae;rcases aj with rfl|rfl|rfl|rfl|rfl|rfl|rfl
 . rw[B (by decide),mm,<-e];clear e;obtain⟨S,h⟩:=y (u.fS i 100 a.data.toList);rw[<-h];have Q:=l h;clear h;unfold bp;go_enter func329,ntmps329;go_wp2_with fail;refine(p.out _ n).mono ?_;rintro b c ⟨rfl,rfl⟩;go_wp2_with fail;refine(vW d k i 100 R a _).mono ?_;exact vF
 . rw[B (by decide),mm,<-e];clear e;obtain⟨S,h⟩:=y (u.fS i 115 a.data.toList);rw[<-h];have Q:=l h;clear h;unfold bp;go_enter func329,ntmps329;go_wp2_with fail;refine(p.out _ n).mono ?_;rintro b c ⟨rfl,rfl⟩;go_wp2_with fail;refine(vW d k i 115 R a _).mono ?_;exact vF
 . rw[B (by decide),mm,<-e];clear e;obtain⟨S,h⟩:=y (u.fS i 116 a.data.toList);rw[<-h];have Q:=l h;clear h;unfold bp;go_enter func329,ntmps329;go_wp2_with fail;refine(p.out _ n).mono ?_;rintro b c ⟨rfl,rfl⟩;go_wp2_with fail;refine(vW d k i 116 R a _).mono ?_;exact vF
 . rw[z (by decide),B rfl,mm,<-e];rw[<-e]at ab;clear e;obtain⟨S,h⟩:=y (u.fR i a.data.toList (o[r+1]?.getD []) (o[r+2]?.getD []) (o[r+3]?.getD []));rw[<-h];have Q:=l h;clear h;unfold bp;go_enter func329,ntmps329;go_wp2_with fail;refine(p.out _ n).mono ?_;rintro b c ⟨rfl,rfl⟩;go_wp2_with fail;refine(ab.out _ n Y.out).mono ?_;exact vF
 . rw[z (by decide),z (by decide)];cases X:u.isName a.data.toList
   . rw[z (by simp),mm,<-e];clear e;obtain⟨E,q⟩:=y (u.number a.data.toList);have v:=l q;unfold u.hg;rw[<-q];clear q;obtain⟨I,J⟩:=E;cases J with
     |false=>
      rw[z (by simp)];unfold bp;go_enter func329,ntmps329;go_wp2_with fail;refine(p.out _ n).mono ?_;rintro b c ⟨rfl,rfl⟩;go_wp2_with fail;refine(nl a s _).mono ?_;rintro b c ⟨rfl,rfl⟩;rw[X];go_wp2_with fail;refine(jM a s _).mono ?_;rintro b c ⟨rfl,rfl⟩;rw[<-v.out];go_wp2;refine ac (v:=du d k none) m2 rfl ⟨by first|rfl|simp[eq,bp],?_⟩;repeat(first|with_reducible exact aq _ _|with_reducible exact A.out|(with_reducible refine bf ?_ F _)|(with_reducible refine bl ?_ F _))
     |true=>
      rw[B rfl];unfold bp;go_enter func329,ntmps329;go_wp2_with fail;refine(p.out _ n).mono ?_;rintro b c ⟨rfl,rfl⟩;go_wp2_with fail;refine(nl a s _).mono ?_;rintro b c ⟨rfl,rfl⟩;rw[X];go_wp2_with fail;refine(jM a s _).mono ?_;rintro b c ⟨rfl,rfl⟩;rw[<-v.out];go_wp2;refine ac (v:=du d k (some {i with V2:=I})) m2 rfl ⟨by first|rfl|simp[eq,bp],?_⟩;repeat(first|with_reducible exact aq _ _|with_reducible exact A.out|(with_reducible refine bf ?_ F _)|(with_reducible refine bl ?_ F _))
   . rw[B (by simp)];rw[<-e];clear e;unfold bp;go_enter func329,ntmps329;go_wp2_with fail;refine(p.out _ n).mono ?_;rintro b c ⟨rfl,rfl⟩;go_wp2_with fail;refine(nl a s _).mono ?_;rintro b c ⟨rfl,rfl⟩;rw[X];go_wp2;refine ac (v:=.tuple #[bp d i a,.bool true]) m2 rfl ⟨by first|rfl|simp[eq,bp],?_⟩;repeat(first|with_reducible exact aq _ _|with_reducible exact A.out|(with_reducible refine bf ?_ F _)|(with_reducible refine bl ?_ F _))
 . rw[z (by decide),z (by decide),z (by simp),mm,<-e];clear e;obtain⟨E,q⟩:=y (u.number a.data.toList);have v:=l q;unfold u.hg;rw[<-q];clear q;obtain⟨I,J⟩:=E;cases J with
   |false=>
    rw[z (by simp)];unfold bp;go_enter func329,ntmps329;go_wp2_with fail;refine(p.out _ n).mono ?_;rintro b c ⟨rfl,rfl⟩;go_wp2_with fail;refine(jM a s _).mono ?_;rintro b c ⟨rfl,rfl⟩;rw[<-v.out];go_wp2;refine ac (v:=du d k none) m2 rfl ⟨by first|rfl|simp[eq,bp],?_⟩;repeat(first|with_reducible exact aq _ _|with_reducible exact A.out|(with_reducible refine bf ?_ F _)|(with_reducible refine bl ?_ F _))
   |true=>
    rw[B rfl];unfold bp;go_enter func329,ntmps329;go_wp2_with fail;refine(p.out _ n).mono ?_;rintro b c ⟨rfl,rfl⟩;go_wp2_with fail;refine(jM a s _).mono ?_;rintro b c ⟨rfl,rfl⟩;rw[<-v.out];go_wp2;refine ac (v:=du d k (some {i with V1:=I})) m2 rfl ⟨by first|rfl|simp[eq,bp],?_⟩;repeat(first|with_reducible exact aq _ _|with_reducible exact A.out|(with_reducible refine bf ?_ F _)|(with_reducible refine bl ?_ F _))
 . rw[z (by decide),z (by decide),z (by simp),mm,<-e];clear e;obtain⟨E,q⟩:=y (u.number a.data.toList);have v:=l q;unfold u.hg;rw[<-q];clear q;obtain⟨I,J⟩:=E;cases J with
   |false=>
    rw[z (by simp)];unfold bp;go_enter func329,ntmps329;go_wp2_with fail;refine(p.out _ n).mono ?_;rintro b c ⟨rfl,rfl⟩;go_wp2_with fail;refine(jM a s _).mono ?_;rintro b c ⟨rfl,rfl⟩;rw[<-v.out];go_wp2;refine ac (v:=du d k none) m2 rfl ⟨by first|rfl|simp[eq,bp],?_⟩;repeat(first|with_reducible exact aq _ _|with_reducible exact A.out|(with_reducible refine bf ?_ F _)|(with_reducible refine bl ?_ F _))
   |true=>
    rw[B rfl];unfold bp;go_enter func329,ntmps329;go_wp2_with fail;refine(p.out _ n).mono ?_;rintro b c ⟨rfl,rfl⟩;go_wp2_with fail;refine(jM a s _).mono ?_;rintro b c ⟨rfl,rfl⟩;rw[<-v.out];go_wp2;refine ac (v:=du d k (some {i with V2:=I})) m2 rfl ⟨by first|rfl|simp[eq,bp],?_⟩;repeat(first|with_reducible exact aq _ _|with_reducible exact A.out|(with_reducible refine bf ?_ F _)|(with_reducible refine bl ?_ F _))
namespace u
def ao (a:Nat):Nat:=if a=109 then 4 else 1
def bJ :List Nat->Bool->U->List L->List (List L)->Option (U×List L)
 |[],_,i,g,a=>if a.length=0 then some (i,g)else none
 |c::f,b,i,g,a=>
  if b=true/\a[0]?.getD []≠ [44]then none
  else match cb i g c (a.drop (if b then 1 else 0))with
   |none=>none
   |some (e,d)=>bJ f true e d (a.drop ((if b then 1 else 0)+ao c))
def Dl :cr []=none:=by decide
def CJ :(number []).2=false:=by decide
def Cj :isName []=false:=by decide
def wz {a:List (List L)}{b:Nat}(c:a[b]?.getD []≠ []):b<a.length:=by
 refine Nat.lt_of_not_le fun d=>c ?_;rw[tZ d];rfl
def TN (i:U)(g:List L)(d:Nat)(b:List (List L))(j:U×List L)(a:cb i g d b=some j):ao d<=b.length:=by
 unfold cb at a;unfold ao;split at a
 . next e=>
   rw[z (by omega)];have:b[0]?.getD []≠ []:=by
    intro c;rw[c]at a;simp[fS,Dl]at a
   have:=wz this;omega
 . split at a
   . next e=>
     rw[B e];simp only[fR]at a;split at a
     . next h=>
       have:b[3]?.getD []≠ []:=by rw[h.2.1];simp
       have:=wz this;omega
     . simp at a
   . next k f=>
     rw[z f];have:b[0]?.getD []≠ []:=by
      intro c;rw[c]at a;simp[Cj,hg,CJ]at a
     have:=wz this;omega
end u
end Go.Proofs.YtmlgonbhoknoiaaGreatDoor
