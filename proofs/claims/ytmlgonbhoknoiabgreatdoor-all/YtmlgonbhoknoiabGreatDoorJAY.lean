import Derived.Test.YtmlgonbhoknoiabGreatDoorJAU
import Derived.Test.YtmlgonbhoknoiabGreatDoorJAW
import Derived.Test.YtmlgonbhoknoiabGreatDoorJAX
set_option maxHeartbeats 8000000
set_option maxRecDepth 100000
set_option linter.all false
namespace Go.Proofs.YtmlgonbhoknoiabGreatDoor
open Go.RowKit Go.Proofs.Tryz
section
attribute [local go_sem ↓] Go.wp_at_zero Go.wp_at_succ
def agz (u z a)(L:af a)(i:ak)(ac:aT i)(ai:(a1 a.b (S a) (aw a i) (au i.op) 1).1.fault=0)(v:0< (a1 a.b (S a) (aw a i) (au i.op) 1).1.Xg)(t:i.op=11\/i.op=12)(g)(c:Hid (E g u z a)):
 an 199 #[I u,ag i] (aR (bT a i).1.1 (bT a i).1.2) [u,z] u z ((bT a i).2) g:=by
 have bl:=c.out.lt;have bm:=c.out.Ww;have bo:=ac.Xu;have bp:=ac.Xv;have bb:=L.WE i.V1;have aq:=l (fun W x=>bU u z a i.V1 ac.V1 W x);have ae:Hid (E ((g.alloc (az i)).alloc (.cells #[j 0,j 0] 118)) u z a):=cB;have aC:G (aw a i):=lD;have M:=iy i.op;have aa:=l (fun W x=>li u z a L (aw a i) (au i.op) 1 aC M.1 M.2 (.inr (.inl rfl)) W x);have P:Hid (∀W,O 268 #[j i.op] (j (au i.op)) W):=lE;have aG:Hid (∀W,O 135 #[j ((a.x.getD i.V1 0:Int)+i.V2)] (j (aw a i)) W):=lF;have wr:IntKind.i64.wrap ((a.x.getD i.V1 0:Int)+i.V2)=(a.x.getD i.V1 0:Int)+i.V2:=dE;have H:=hk L.b (S a) (aw a i) (au i.op) 1;have C:=hl a.b (S a) (aw a i) (au i.op) 1 aC M.1;have p:=k2 a.b (S a) (aw a i) (au i.op) 1;have aj:=k1 a.b (S a) (aw a i) (au i.op) 1;unfold bT jg;obtain⟨a2,hS⟩:=y (a1 a.b (S a) (aw a i) (au i.op) 1);simp only[<-hS]at aa H C p aj ai v|-;obtain⟨br,aU⟩:=y (aw a i);obtain⟨bc,aB⟩:=y (au i.op);obtain⟨bh,aO⟩:=y (a.x.getD i.V1 0);simp only[<-aU]at aa aG;simp only[<-aB]at aa P C M;simp only[<-aO]at aq aG wr bb;clear hS aU aO;obtain⟨⟨f,d,K,D,bk,bf⟩,k⟩:=a2;have aN:=N.okB L H;rw[<-aj]at p;dsimp only at aa H C p aj ai v aN|-;rw[B ai];subst ai;have p:=p rfl;have aV:=L.x;have aP:=ac.rd;have dW:=C.WO rfl;have aF:=C.sum rfl;have aY:=C.Xd;have aZ:=C.Xr;dsimp only at dW aF aY aZ;unfold az at ae;unfold ag;rw[show fi ⟨f,d,K,D,0,bf⟩ 1=.tuple #[.agg #[j f,j d],.agg #[j K,j D],.agg #[j (-1),j 0]]from rfl]at aa;have ar:=l (fun W x=>ox u z (a.V7 k) H f d aY dW m p.1 W x);have al:=jl H f d;have aE:=iD H f d dW;have aA:=Dv k f d;have a6:(a.V7 k).b=k:=rfl;rw[a6]at ar;have ad:=l (fun W x=>ox u z (a.V7 (a9 k f d).2) al K D aZ m m Gq W x);have ao:=iD al K D m;rw[show(a.V7 (a9 k f d).2).b=(a9 k f d).2 from rfl]at ad;unfold dT;dsimp only;rw[B v];obtain⟨a3,aJ⟩:=y (a9 k f d);simp only[<-aJ]at ar al aE ad ao|-;clear aJ;obtain⟨w,ah⟩:=a3;have a8:(a.V7 k).V7 ah=a.V7 ah:=rfl;rw[a8]at ar;obtain⟨a4,aM⟩:=y (a9 ah K D);simp only[<-aM]at ad ao|-;clear aM;obtain⟨q,ax⟩:=a4;have ba:(a.V7 ah).V7 ax=a.V7 ax:=rfl;rw[ba]at ad;obtain⟨ap,aS⟩:=y (8*d);have bn:ap<=32:=J;have bi:(8:Int)* (d:Int)=(ap:Int):=J;have A:=CY w q d D bc aE ao aF M.2;have aI:(2:Int)^ap=((256^d:Nat):Int):=by
  have a5:(2:Nat)^(8*d)=256^d:=vj;rw[aS,<-a5];simp
 obtain⟨Z,aD⟩:=y (q*256^d);have bs:wrap64 ((q:Int)*2^ap)=(Z:Int):=by
  rw[aD];rw[aI,<-yO];exact wrap_small _ Gr Gs
 obtain⟨n,r⟩:=y ((w+q*256^d));have a0:G n:=vi;have o:=l (fun W x=>fY u z (a.V7 ax) aV i.rd (fr i.op (w+q*256^d)) aP W x);have Q:Hid (∀W,O 270 #[j n,j (au i.op)] (j (fZ n (ee i.op))) W):=Hn;have R:=l (e0 (fZ n (ee i.op)));have aH:fr i.op n=am (fZ n (ee i.op)):=by unfold fr;rw[B t]
 rw[<-r]at o|-;rw[<-aB]at Q;rw[aH]at o|-;obtain⟨bg,aW⟩:=y (fZ n (ee i.op));simp only[<-aW]at Q R o|-;obtain⟨bt,aX⟩:=y (am bg);simp only[<-aX]at R o|-;have bj:(w:Int)+(Z:Int)=(n:Int):=by rw[r,aD];simp
 obtain⟨s,V,X,Y,T,U⟩:=i;dsimp only at *;unfold aR;clear c L ac p C aj H aN aB M aC aS r A aH al aE aA aI ao v aD aW aX aV aP aF;rcases t with t|t
 . have bd:(s==11)=true:=lK;have be:(s==12)=false:=lK;exact Kw
 . have bd:(s==11)=false:=lK;have be:(s==12)=true:=lK;exact Kw
def agu (b c a)(f:af a)(i:ak)(h:aT i)(d)(j:Hid (E d b c a)):
 an 199 #[I b,ag i] (aR (bT a i).1.1 (bT a i).1.2) [b,c] b c ((bT a i).2) d:=by
 by_cases g:(a1 a.b (S a) (aw a i) (au i.op) 1).1.fault=0
 . by_cases k:(a1 a.b (S a) (aw a i) (au i.op) 1).1.Xg=0
   . by_cases e:i.op=11\/i.op=12
     . exact agx b c a f i h g k e d j
     exact agy b c a f i h g k e d j
   . by_cases e:i.op=11\/i.op=12
     . exact agz b c a f i h g (uA k) e d j
     exact agA b c a f i h g (uA k) e d j
 . exact agw b c a f i h g d j
def af1 (g q f)(k:af f)(i:ak)(o:aT i)(N:Nat)(s:11<=i.op/\i.op<=15)(e)(c:Hid (E e g q f)):
 an 133 #[I g,ag i,j N] (aR (bT f i).1.1 (bT f i).1.2) [g,q] g q ((bT f i).2) e:=by
 have R:=c.out.lt;have S:=c.out.Ww;have p:Hid (E ((e.alloc (az i)).alloc (.cells #[j 0,j 0] 118)) g q f):=cB;have HR:=l (fun W=>gK i.op W);have h:=l (fun W=>fC i.op W);simp only[show bu i.op=false by unfold bu;simp;omega,show decide (5<=i.op/\i.op<=10)=false by simp;omega]at HR h;unfold az at p;have d:=l (fun W L=>agu g q f k i o W L);unfold ag at d;obtain⟨⟨⟨t,z⟩,Q⟩,n⟩:∃r,r=bT f i:=⟨_,rfl⟩;simp only[<-n]at d|-;try dsimp only at d|-
 unfold aR at d;unfold ag aR;obtain⟨a,w,x,y,u,v⟩:=i;dsimp only at *;have T:decide (a>=11)=true:=M;have U:decide (a<=15)=true:=M;exact KU
def af7 (g q f)(k:af f)(i:ak)(o:aT i)(N:Nat)(s:16<=i.op/\i.op<=18)(e)(c:Hid (E e g q f)):
 an 133 #[I g,ag i,j N] (aR (cz f i).1.1 (cz f i).1.2) [g,q] g q ((cz f i).2) e:=by
 have R:=c.out.lt;have S:=c.out.Ww;have p:Hid (E ((e.alloc (az i)).alloc (.cells #[j 0,j 0] 118)) g q f):=cB;have HR:=l (fun W=>gK i.op W);have h:=l (fun W=>fC i.op W);simp only[show bu i.op=false by unfold bu;simp;omega,show decide (5<=i.op/\i.op<=10)=false by simp;omega]at HR h;unfold az at p;have d:=l (fun W L=>aic g q f k i o W L);unfold ag at d;obtain⟨⟨⟨t,z⟩,Q⟩,n⟩:∃r,r=cz f i:=⟨_,rfl⟩;simp only[<-n]at d|-;try dsimp only at d|-
 unfold aR at d;unfold ag aR;obtain⟨a,w,x,y,u,v⟩:=i;dsimp only at *;have T:decide (a>=11)=true:=M;have U:decide (a>=16)=true:=M;have V:decide (a<=15)=false:=M;exact KU
def afT (g q f)(k:af f)(i:ak)(o:aT i)(N:Nat)(s:50<=i.op/\i.op<=60)(e)(c:Hid (E e g q f)):
 an 133 #[I g,ag i,j N] (aR (bG f i).1.1 (bG f i).1.2) [g,q] g q ((bG f i).2) e:=by
 have R:=c.out.lt;have S:=c.out.Ww;have p:Hid (E ((e.alloc (az i)).alloc (.cells #[j 0,j 0] 118)) g q f):=cB;have HR:=l (fun W=>gK i.op W);have h:=l (fun W=>fC i.op W);simp only[show bu i.op=false by unfold bu;simp;omega,show decide (5<=i.op/\i.op<=10)=false by simp;omega]at HR h;unfold az at p;have d:=l (fun W L=>afL g q f k i o s W L);unfold ag at d;obtain⟨⟨⟨t,z⟩,Q⟩,n⟩:∃r,r=bG f i:=⟨_,rfl⟩;simp only[<-n]at d|-;try dsimp only at d|-
 unfold aR at d;unfold ag aR;obtain⟨a,w,x,y,u,v⟩:=i;dsimp only at *;have T:decide (a>=11)=true:=M;have U:decide (a>=16)=true:=M;have V:decide (a>=50)=true:=M;have X:decide (a<=15)=false:=M;have Y:decide (a<=18)=false:=M;exact KV
def afY (b d a)(g:af a)(i:ak)(k:aT i)(p:Nat)(m:i.op=40)(e)(c:Hid (E e b d a)):
 an 133 #[I b,ag i,j p] (aR ((8+a.mode:Nat):Int) 0) [b,d] b d a e:=by
 have s:=c.out.lt;have r:=c.out.Xl;have n:Hid (E ((e.alloc (az i)).alloc (.cells #[j 0,j 0] 118)) b d a):=cB;have HR:=l (fun W=>gK i.op W);have f:=l (fun W=>fC i.op W);simp only[show bu i.op=false by unfold bu;simp;omega,show decide (5<=i.op/\i.op<=10)=false by simp;omega]at HR f;unfold az at n;unfold ag aR;obtain⟨w,x,y,z,u,v⟩:=i;dsimp only at *;subst m;have t:=g.mode;have h:((8+a.mode:Nat):Int)=8+(a.mode:Int):=J;rw[h];clear g k;go_enter mW,mX;go_wp2_with(first|(go_at_call 195;refine(HR.out _).mono ?_;rintro o q ⟨rfl,rfl⟩)|(go_at_call 192;refine(f.out _).mono ?_;rintro o q ⟨rfl,rfl⟩));refine ab (v:=.agg #[j (8+(a.mode:Int)),j 0]) uZ rfl ⟨rfl,?_,?_⟩
 . exact vU
 . exact ss
def afX (b d a)(g:af a)(i:ak)(h:aT i)(o:Nat)(k:i.op=41)(e)(c:Hid (E e b d a)):
 an 133 #[I b,ag i,j o] (aR 3 a.V3) [b,d] b d a e:=by
 have r:=c.out.lt;have q:=c.out.Xk;have m:Hid (E ((e.alloc (az i)).alloc (.cells #[j 0,j 0] 118)) b d a):=cB;have HR:=l (fun W=>gK i.op W);have f:=l (fun W=>fC i.op W);simp only[show bu i.op=false by unfold bu;simp;omega,show decide (5<=i.op/\i.op<=10)=false by simp;omega]at HR f;unfold az at m;unfold ag aR;obtain⟨u,v,w,x,s,t⟩:=i;dsimp only at *;subst k;clear g h;go_enter mW,mX;go_wp2_with(first|(go_at_call 195;refine(HR.out _).mono ?_;rintro n p ⟨rfl,rfl⟩)|(go_at_call 192;refine(f.out _).mono ?_;rintro n p ⟨rfl,rfl⟩));refine ab (v:=.agg #[j 3,j a.V3]) uZ rfl ⟨rfl,?_,?_⟩
 . exact vU
 . exact ss
def afU (a d b)(g:af b)(i:ak)(h:aT i)(m:Nat)(o:5<=i.op/\i.op<=10)(e)(c:Hid (E e a d b)):
 an 133 #[I a,ag i,j m] (aR (-1) 0) [a,d] a d b e:=by
 have n:=c.out.lt;have k:Hid (E ((e.alloc (az i)).alloc (.cells #[j 0,j 0] 118)) a d b):=cB;have HR:=l (fun W=>gK i.op W);have f:=l (fun W=>fC i.op W);simp only[show bu i.op=false by unfold bu;simp;omega,show decide (5<=i.op/\i.op<=10)=true by simp;omega]at HR f;unfold az at k;unfold ag aR;obtain⟨r,s,t,u,p,q⟩:=i;dsimp only at *;exact KW
def afZ (a d b)(g:af b)(i:ak)(h:aT i)(m:Nat)(k:i.op=38)(e)(c:Hid (E e a d b)):
 an 133 #[I a,ag i,j m] (aR (-1) 0) [a,d] a d b e:=KY
def af0 (a d b)(g:af b)(i:ak)(h:aT i)(m:Nat)(k:i.op=39)(e)(c:Hid (E e a d b)):
 an 133 #[I a,ag i,j m] (aR (-1) 0) [a,d] a d b e:=KY
def af2 (d f e)(k:af e)(i:ak)(m:aT i)(b:Nat)(p:i.op<=0)(h)(c:Hid (E h d f e)):
 an 133 #[I d,ag i,j b] (aR 2 b) [d,f] d f e h:=by
 have o:=c.out.lt;have n:Hid (E ((h.alloc (az i)).alloc (.cells #[j 0,j 0] 118)) d f e):=cB;have HR:=l (fun W=>gK i.op W);have g:=l (fun W=>fC i.op W);simp only[show bu i.op=false by unfold bu;simp;omega,show decide (5<=i.op/\i.op<=10)=false by simp;omega]at HR g;unfold az at n;unfold ag aR;obtain⟨a,x,y,z,q,r⟩:=i;dsimp only at *;have s:decide (a>=11)=false:=M;have t:decide (a>=16)=false:=M;have u:decide (a>=50)=false:=M;have v:decide (a>=61)=false:=M;have w:decide (a>=67)=false:=M;exact KZ
def af3 (d f e)(k:af e)(i:ak)(m:aT i)(b:Nat)(p:71<=i.op)(h)(c:Hid (E h d f e)):
 an 133 #[I d,ag i,j b] (aR 2 b) [d,f] d f e h:=by
 have o:=c.out.lt;have n:Hid (E ((h.alloc (az i)).alloc (.cells #[j 0,j 0] 118)) d f e):=cB;have HR:=l (fun W=>gK i.op W);have g:=l (fun W=>fC i.op W);simp only[show bu i.op=false by unfold bu;simp;omega,show decide (5<=i.op/\i.op<=10)=false by simp;omega]at HR g;unfold az at n;unfold ag aR;obtain⟨a,C,D,F,q,r⟩:=i;dsimp only at *;have s:decide (a>=11)=true:=M;have t:decide (a>=16)=true:=M;have u:decide (a>=50)=true:=M;have v:decide (a>=61)=true:=M;have w:decide (a>=67)=true:=M;have x:decide (a<=15)=false:=M;have y:decide (a<=18)=false:=M;have z:decide (a<=60)=false:=M;have A:decide (a<=66)=false:=M;have B:decide (a<=70)=false:=M;exact KZ
end
structure aC where
 Xz:List L
 i:U
 Xa:List L
def bo (b:K)(i:U)(a:K):Value:=.agg #[.string b,j i.op,j i.rd,j i.V1,j i.V6,j i.V2,j i.V4,.string a]
def kU (a:aC):Value:=bo ⟨a.Xz.toArray⟩ a.i ⟨a.Xa.toArray⟩
def eL :aC:=⟨[],aF,[]⟩
def ds (b a:K):Option U->Value
 |some i=>.tuple #[bo b i a,.bool true]
 |none=>.tuple #[bo ⟨#[]⟩ aF ⟨#[]⟩,.bool false]
namespace u
def fR (i:U)(a:Nat)(b:List L):Option U:=
 match cq b with
 |none=>none
 |some r=>some (if a=100 then{i with rd:=r}else if a=115 then{i with V1:=r}else{i with V6:=r})
def hf (i:U)(b:Nat)(a:List L):Option U:=
 if(number a).2=true then some (if b=117 then{i with V1:=(number a).1}else{i with V2:=(number a).1})else none
def fQ (i:U)(t0 t1 t2 t3:List L):Option U:=
 if t1=[40]/\t3=[41]/\(number t0).2=true then
  match cq t2 with
  |none=>none
  |some r=>some {i with V2:=(number t0).1,V1:=r}
 else none
end u
theorem wo (c b:K)(i:U)(d:Nat)(k:d=100\/d=115\/d=116)(a:K)(m:D):
 ac 355 #[bo c i b,.int .u8 d,.string a] (ds c b (u.fR i d a.data.toList)) m:=by
 unfold u.fR;obtain⟨j,h⟩:=y (u.cq a.data.toList);rw[<-h];have e:=l h;clear h;unfold bo;cases j with
 |none=>
  go_enter func355,ntmps355;go_wp2_with fail;refine(nt a _).mono ?_;rintro g f ⟨rfl,rfl⟩;rw[<-e.out];go_wp2;refine ab (v:=ds c b none) u2 rfl ⟨rfl,?_⟩;repeat(first|exact aq _ _|(with_reducible refine bd ?_ F _)|(with_reducible refine bk ?_ F _))
 |some r=>
  rcases k with rfl|rfl|rfl
  . go_enter func355,ntmps355;go_wp2_with fail;refine(nt a _).mono ?_;rintro g f ⟨rfl,rfl⟩;rw[<-e.out];go_wp2;refine ab (v:=ds c b (some {i with rd:=r})) u2 rfl ⟨rfl,?_⟩;exact v0
  . go_enter func355,ntmps355;go_wp2_with fail;refine(nt a _).mono ?_;rintro g f ⟨rfl,rfl⟩;rw[<-e.out];go_wp2;refine ab (v:=ds c b (some {i with V1:=r})) u2 rfl ⟨rfl,?_⟩;exact v0
  . go_enter func355,ntmps355;go_wp2_with fail;refine(nt a _).mono ?_;rintro g f ⟨rfl,rfl⟩;rw[<-e.out];go_wp2;refine ab (v:=ds c b (some {i with V6:=r})) u2 rfl ⟨rfl,?_⟩;exact v0
def g9 (b:K)(a:List L):(b.toList==a)=decide (b.data.toList=a):=by
 rw[mP,dY];simp
def bb.more {a w':D}{b d:Nat}{c:List (List L)}(e:Hid (bb a b d c))(g:b<a.heap.size)(f:Below a.heap.size a w'):Hid (bb w' b d c):=e.out.below f g
def ez (a:List (List L)):Prop:=∀b∈a,b.length<=5000
theorem ez.get {a:List (List L)}(d:Hid (ez a))(b:Nat):(a[b]?.getD []).length<=5000:=by
 cases c:a[b]? with
 |none=>simp
 |some e=>exact d.out e (List.mem_of_getElem? c)
theorem OT (q p:K)(i:U)(n v E:Nat)(b:List (List L))(J:b.length<=5000)(a:Nat)(al:a<=9000)(f:D)(g:Hid (bb f n v b))(ah:n<f.heap.size)(ai:Hid (ez b)):
 ac 356 #[bo q i p,.slice (some ⟨n,v,none⟩) b.length E,j a] (ds q p (u.fQ i (b[a]?.getD []) (b[a+1]?.getD []) (b[a+2]?.getD []) (b[a+3]?.getD []))) f:=by
 unfold bo;have I:=fun f g=>nv n v E b J a m f g;have c1:=fun f g=>nv n v E b J (a+1) m f g;have c2:=fun f g=>nv n v E b J (a+2) m f g;have c3:=fun f g=>nv n v E b J (a+3) m f g;have C:=ez.get ai a;obtain⟨t0,S⟩:=y (b[a]?.getD []);obtain⟨t1,T⟩:=y (b[a+1]?.getD []);obtain⟨t2,V⟩:=y (b[a+2]?.getD []);obtain⟨t3,W⟩:=y (b[a+3]?.getD []);rw[<-S,<-T,<-V,<-W];rw[<-S]at I C;rw[<-T]at c1;rw[<-V]at c2;rw[<-W]at c3;clear S T V W;obtain⟨k,x⟩:=y (⟨t0.toArray⟩:K);obtain⟨s,P⟩:=y (⟨t1.toArray⟩:K);obtain⟨A,Q⟩:=y (⟨t2.toArray⟩:K);obtain⟨t,R⟩:=y (⟨t3.toArray⟩:K);rw[show u.aG t0=.string k by rw[x];rfl]at I;rw[show u.aG t1=.string s by rw[P];rfl]at c1;rw[show u.aG t2=.string A by rw[Q];rfl]at c2;rw[show u.aG t3=.string t by rw[R];rfl]at c3;have f0:k.data.toList=t0:=by rw[x]
 have f1:s.data.toList=t1:=by rw[P]
 have f2:A.data.toList=t2:=by rw[Q]
 have f3:t.data.toList=t3:=by rw[R]
 have M:k.size<=5000:=HO;clear x P Q R C;subst f0 f1 f2 f3;have N:=l I;have w:=l c1;have ad:=l c2;have H:=l c3;clear I c1 c2 c3;have aa:Below f.heap.size f ((f.alloc (.cells #[Value.string q,j i.op,j i.rd,j i.V1,j i.V6,j i.V2,j i.V4,.string p] 165)).alloc (.cells #[Value.string ⟨#[]⟩,j 0,j 0,j 0,j 0,j 0,j 0,.string ⟨#[]⟩] 165)):=pA;have e:=bb.more g ah aa;clear aa;have ae:(s.toList==[40])=decide (s.data.toList=[40]):=g9 s [40];have Z:(t.toList==[41])=decide (t.data.toList=[41]):=g9 t [41];unfold u.fQ;by_cases h:s.data.toList=[40]
 . rw[bc h]at ae;by_cases o:t.data.toList=[41]
   . rw[bc o]at Z;obtain⟨ag,Y⟩:=y (u.number k.data.toList);rw[<-Y];have O:=l Y;clear Y;obtain⟨aj,ak⟩:=ag;cases ak with
     |false=>
      rw[z (fun G=>by simp at G)];clear h o;go_enter func356,rD;go_wp2_with fail;rw[show(a:Int)+1=((a+1:Nat):Int)by omega];refine(w.out _ e).mono ?_;rintro c d ⟨rfl,rfl⟩;go_wp2_with fail;rw[show(a:Int)+3=((a+3:Nat):Int)by omega];refine(H.out _ e).mono ?_;rintro c d ⟨rfl,rfl⟩;go_wp2_with fail;refine(N.out _ e).mono ?_;rintro c d ⟨rfl,rfl⟩;go_wp2_with fail;refine(jQ k M _).mono ?_;rintro c d ⟨rfl,rfl⟩;rw[<-O.out];go_wp2;refine ab (v:=ds q p none) u4 rfl ⟨rfl,?_⟩;repeat(first|exact aq _ _|(with_reducible refine bd ?_ F _)|(with_reducible refine bk ?_ F _))
     |true=>
      rw[B ⟨h,o,rfl⟩];clear h o;obtain⟨af,X⟩:=y (u.cq A.data.toList);rw[<-X];have HR:=l X;clear X;cases af with
      |none=>
       go_enter func356,rD;go_wp2_with fail;rw[show(a:Int)+1=((a+1:Nat):Int)by omega];refine(w.out _ e).mono ?_;rintro c d ⟨rfl,rfl⟩;go_wp2_with fail;rw[show(a:Int)+3=((a+3:Nat):Int)by omega];refine(H.out _ e).mono ?_;rintro c d ⟨rfl,rfl⟩;go_wp2_with fail;refine(N.out _ e).mono ?_;rintro c d ⟨rfl,rfl⟩;go_wp2_with fail;refine(jQ k M _).mono ?_;rintro c d ⟨rfl,rfl⟩;rw[<-O.out];go_wp2_with fail;rw[show(a:Int)+2=((a+2:Nat):Int)by omega];refine(ad.out _ e).mono ?_;rintro c d ⟨rfl,rfl⟩;go_wp2_with fail;refine(nt A _).mono ?_;rintro c d ⟨rfl,rfl⟩;rw[<-HR.out];go_wp2;refine ab (v:=ds q p none) u4 rfl ⟨rfl,?_⟩;repeat(first|exact aq _ _|(with_reducible refine bd ?_ F _)|(with_reducible refine bk ?_ F _))
      |some r=>
       go_enter func356,rD;go_wp2_with fail;rw[show(a:Int)+1=((a+1:Nat):Int)by omega];refine(w.out _ e).mono ?_;rintro c d ⟨rfl,rfl⟩;go_wp2_with fail;rw[show(a:Int)+3=((a+3:Nat):Int)by omega];refine(H.out _ e).mono ?_;rintro c d ⟨rfl,rfl⟩;go_wp2_with fail;refine(N.out _ e).mono ?_;rintro c d ⟨rfl,rfl⟩;go_wp2_with fail;refine(jQ k M _).mono ?_;rintro c d ⟨rfl,rfl⟩;rw[<-O.out];go_wp2_with fail;rw[show(a:Int)+2=((a+2:Nat):Int)by omega];refine(ad.out _ e).mono ?_;rintro c d ⟨rfl,rfl⟩;go_wp2_with fail;refine(nt A _).mono ?_;rintro c d ⟨rfl,rfl⟩;rw[<-HR.out];go_wp2;refine ab (v:=ds q p (some {i with V2:=aj,V1:=r})) u4 rfl ⟨rfl,?_⟩;repeat(first|exact aq _ _|(with_reducible refine bd ?_ F _)|(with_reducible refine bk ?_ F _))
   . rw[aU o]at Z;rw[z (fun G=>o G.2.1)];clear h o;go_enter func356,rD;go_wp2_with fail;rw[show(a:Int)+1=((a+1:Nat):Int)by omega];refine(w.out _ e).mono ?_;rintro c d ⟨rfl,rfl⟩;go_wp2_with fail;rw[show(a:Int)+3=((a+3:Nat):Int)by omega];refine(H.out _ e).mono ?_;exact MG
 . rw[aU h]at ae;rw[z (fun G=>h G.1)];clear h Z;go_enter func356,rD;go_wp2_with fail;rw[show(a:Int)+1=((a+1:Nat):Int)by omega];refine(w.out _ e).mono ?_;exact MG
namespace u
def ca (i:U)(g:List L)(b:Nat)(a:List (List L)):Option (U×List L):=
 if b=100\/b=115\/b=116 then(fR i b (a[0]?.getD [])).map fun c=>(c,g)
 else if b=109 then(fQ i (a[0]?.getD []) (a[1]?.getD []) (a[2]?.getD []) (a[3]?.getD [])).map fun c=>(c,g)
 else if b=106/\isName (a[0]?.getD [])=true then some (i,a[0]?.getD [])
 else(hf i b (a[0]?.getD [])).map fun c=>(c,g)
end u
def eq (a:K):Option (U×List L)->Value
 |some (i,g)=>.tuple #[bo a i ⟨g.toArray⟩,.bool true]
 |none=>.tuple #[bo ⟨#[]⟩ aF ⟨#[]⟩,.bool false]
def mk (b:K)(g:List L)(a:Option U):eq b (a.map fun c=>(c,g))=ds b ⟨g.toArray⟩ a:=by cases a<;>rfl
def OM (a:Nat)(c:D):
 O 311 #[.int .u8 a] (j (if a=109 then 4 else 1:Nat)) c:=by
 by_cases b:a=109
 . subst b;exact MH
 . rw[z b];have d:((a:Int)==109)=false:=M;exact MH
structure bA (b:D)(a:Nat)(d:K)(i:U)(c:K):Prop where
 V8:b.cell? ⟨a,0,none⟩=some (.string d)
 c1:b.cell? ⟨a,1,none⟩=some (j i.op)
 c2:b.cell? ⟨a,2,none⟩=some (j i.rd)
 c3:b.cell? ⟨a,3,none⟩=some (j i.V1)
 c4:b.cell? ⟨a,4,none⟩=some (j i.V6)
 c5:b.cell? ⟨a,5,none⟩=some (j i.V2)
 W4:b.cell? ⟨a,6,none⟩=some (j i.V4)
 W5:b.cell? ⟨a,7,none⟩=some (.string c)
 Wb:∀e,b.frozen? ⟨a,e,none⟩=false
 lt:a<b.heap.size
def bA.more {g w':D}{a n:Nat}{e G:K}{i:U}(b:bA g a e i G)(c:Below n g w')(d:a<n):bA w' a e i G:=
 ⟨(c.cell (p:=⟨a,0,none⟩) d).trans b.V8,(c.cell (p:=⟨a,1,none⟩) d).trans b.c1,(c.cell (p:=⟨a,2,none⟩) d).trans b.c2,(c.cell (p:=⟨a,3,none⟩) d).trans b.c3,(c.cell (p:=⟨a,4,none⟩) d).trans b.c4,(c.cell (p:=⟨a,5,none⟩) d).trans b.c5,(c.cell (p:=⟨a,6,none⟩) d).trans b.W4,(c.cell (p:=⟨a,7,none⟩) d).trans b.W5,fun f=>(c.frozen (p:=⟨a,f,none⟩) d).trans (b.Wb f),by have:=c.size;have:=b.lt;omega⟩
def bW (b:K)(i:U)(a:K):Obj:=.cells #[.string b,j i.op,j i.rd,j i.V1,j i.V6,j i.V2,j i.V4,.string a] 165
def bA.new (c:D)(b:K)(i:U)(a:K):bA (c.alloc (bW b i a)) c.heap.size b i a:=by
 unfold bW;refine⟨?_,?_,?_,?_,?_,?_,?_,?_,?_,?_⟩<;>simp
theorem bA.alloc {a:D}{c:Nat}{b G:K}{i:U}(d:bA a c b i G)(e:Obj):bA (a.alloc e) c b i G:=d.more ((aq a.heap.size a).alloc (aB _) e) d.lt
def nI (a:List (List L))(b c:Nat):(a.drop b)[c]?=a[b+c]?:=oK
theorem OS (d:K)(g:List L)(i:U)(t:Nat)(aj:t=100\/t=115\/t=116\/t=109\/t=106\/t=117\/t=105)(w H T:Nat)(o:List (List L))(ad:o.length<=5000)(r:Nat)(ai:r<=9000)(f:D)(G:Hid (bb f w H o))(O:w<f.heap.size)(ag:Hid (ez o)):
 ac 310 #[bo d i ⟨g.toArray⟩,.int .u8 t,.slice (some ⟨w,H,none⟩) o.length T,j r] (eq d (u.ca i g t (o.drop r))) f:=by
 have N:=fun f G=>nv w H T o ad r m f G;have C:=ez.get ag r;have V:=fun(f:D) (G:Hid (bb f w H o)) (O:w<f.heap.size)=>OT d ⟨g.toArray⟩ i w H T o ad r ai f G O ag;unfold u.ca;rw[nI,nI,nI,nI,di];obtain⟨t0,W⟩:=y (o[r]?.getD []);rw[<-W];rw[<-W]at N C V;clear W;obtain⟨a,x⟩:=y (⟨t0.toArray⟩:K);rw[show u.aG t0=.string a by rw[x];rfl]at N;have f0:a.data.toList=t0:=by rw[x]
 have s:a.size<=5000:=HO;clear x C;subst f0;have p:=l N;have aa:=l V;clear N V;obtain⟨k,e⟩:=y (⟨g.toArray⟩:K);have M:Below f.heap.size f ((f.alloc (bW d i k)).alloc (bW ⟨#[]⟩ aF ⟨#[]⟩)):=pA;have n:=bb.more G O M;have af:w< ((f.alloc (bW d i k)).alloc (bW ⟨#[]⟩ aF ⟨#[]⟩)).heap.size:=aQ O M.size;have ae:bA ((f.alloc (bW d i k)).alloc (bW ⟨#[]⟩ aF ⟨#[]⟩)) (f.heap.size+1) ⟨#[]⟩ aF ⟨#[]⟩:=by
  have ah:=bA.new (f.alloc (bW d i k)) ⟨#[]⟩ aF ⟨#[]⟩;simpa using ah
 have P:=l M;have Y:=l af;have Z:=l ae;unfold bW aF at n P Y Z;clear M af ae;rcases aj with rfl|rfl|rfl|rfl|rfl|rfl|rfl
 . rw[B (by decide),mk,<-e];clear e;obtain⟨S,h⟩:=y (u.fR i 100 a.data.toList);rw[<-h];have Q:=l h;clear h;unfold bo;go_enter iV,iW;go_wp2_with fail;refine(p.out _ n).mono ?_;rintro b c ⟨rfl,rfl⟩;go_wp2_with fail;refine(wo d k i 100 R a _).mono ?_;exact v5
 . rw[B (by decide),mk,<-e];clear e;obtain⟨S,h⟩:=y (u.fR i 115 a.data.toList);rw[<-h];have Q:=l h;clear h;unfold bo;go_enter iV,iW;go_wp2_with fail;refine(p.out _ n).mono ?_;rintro b c ⟨rfl,rfl⟩;go_wp2_with fail;refine(wo d k i 115 R a _).mono ?_;exact v5
 . rw[B (by decide),mk,<-e];clear e;obtain⟨S,h⟩:=y (u.fR i 116 a.data.toList);rw[<-h];have Q:=l h;clear h;unfold bo;go_enter iV,iW;go_wp2_with fail;refine(p.out _ n).mono ?_;rintro b c ⟨rfl,rfl⟩;go_wp2_with fail;refine(wo d k i 116 R a _).mono ?_;exact v5
 . rw[z (by decide),B rfl,mk,<-e];rw[<-e]at aa;clear e;obtain⟨S,h⟩:=y (u.fQ i a.data.toList (o[r+1]?.getD []) (o[r+2]?.getD []) (o[r+3]?.getD []));rw[<-h];have Q:=l h;clear h;unfold bo;go_enter iV,iW;go_wp2_with fail;refine(p.out _ n).mono ?_;rintro b c ⟨rfl,rfl⟩;go_wp2_with fail;refine(aa.out _ n Y.out).mono ?_;exact v5
 . rw[z (by decide),z (by decide)];cases X:u.isName a.data.toList
   . rw[z (by simp),mk,<-e];clear e;obtain⟨E,q⟩:=y (u.number a.data.toList);have v:=l q;unfold u.hf;rw[<-q];clear q;obtain⟨I,J⟩:=E;cases J with
     |false=>
      rw[z (by simp)];unfold bo;go_enter iV,iW;go_wp2_with fail;refine(p.out _ n).mono ?_;rintro b c ⟨rfl,rfl⟩;go_wp2_with fail;refine(nr a s _).mono ?_;rintro b c ⟨rfl,rfl⟩;rw[X];go_wp2_with fail;refine(jQ a s _).mono ?_;rintro b c ⟨rfl,rfl⟩;rw[<-v.out];go_wp2;refine ab (v:=ds d k none) m6 rfl ⟨by first|rfl|simp[eq,bo],?_⟩;repeat(first|with_reducible exact aq _ _|with_reducible exact A.out|(with_reducible refine bd ?_ F _)|(with_reducible refine bk ?_ F _))
     |true=>
      rw[B rfl];unfold bo;go_enter iV,iW;go_wp2_with fail;refine(p.out _ n).mono ?_;rintro b c ⟨rfl,rfl⟩;go_wp2_with fail;refine(nr a s _).mono ?_;rintro b c ⟨rfl,rfl⟩;rw[X];go_wp2_with fail;refine(jQ a s _).mono ?_;rintro b c ⟨rfl,rfl⟩;rw[<-v.out];go_wp2;refine ab (v:=ds d k (some {i with V2:=I})) m6 rfl ⟨by first|rfl|simp[eq,bo],?_⟩;repeat(first|with_reducible exact aq _ _|with_reducible exact A.out|(with_reducible refine bd ?_ F _)|(with_reducible refine bk ?_ F _))
   . rw[B (by simp)];rw[<-e];clear e;unfold bo;go_enter iV,iW;go_wp2_with fail;refine(p.out _ n).mono ?_;rintro b c ⟨rfl,rfl⟩;go_wp2_with fail;refine(nr a s _).mono ?_;rintro b c ⟨rfl,rfl⟩;rw[X];go_wp2;refine ab (v:=.tuple #[bo d i a,.bool true]) m6 rfl ⟨by first|rfl|simp[eq,bo],?_⟩;repeat(first|with_reducible exact aq _ _|with_reducible exact A.out|(with_reducible refine bd ?_ F _)|(with_reducible refine bk ?_ F _))
 . rw[z (by decide),z (by decide),z (by simp),mk,<-e];clear e;obtain⟨E,q⟩:=y (u.number a.data.toList);have v:=l q;unfold u.hf;rw[<-q];clear q;obtain⟨I,J⟩:=E;cases J with
   |false=>
    rw[z (by simp)];unfold bo;go_enter iV,iW;go_wp2_with fail;refine(p.out _ n).mono ?_;rintro b c ⟨rfl,rfl⟩;go_wp2_with fail;refine(jQ a s _).mono ?_;rintro b c ⟨rfl,rfl⟩;rw[<-v.out];go_wp2;refine ab (v:=ds d k none) m6 rfl ⟨by first|rfl|simp[eq,bo],?_⟩;repeat(first|with_reducible exact aq _ _|with_reducible exact A.out|(with_reducible refine bd ?_ F _)|(with_reducible refine bk ?_ F _))
   |true=>
    rw[B rfl];unfold bo;go_enter iV,iW;go_wp2_with fail;refine(p.out _ n).mono ?_;rintro b c ⟨rfl,rfl⟩;go_wp2_with fail;refine(jQ a s _).mono ?_;rintro b c ⟨rfl,rfl⟩;rw[<-v.out];go_wp2;refine ab (v:=ds d k (some {i with V1:=I})) m6 rfl ⟨by first|rfl|simp[eq,bo],?_⟩;repeat(first|with_reducible exact aq _ _|with_reducible exact A.out|(with_reducible refine bd ?_ F _)|(with_reducible refine bk ?_ F _))
 . rw[z (by decide),z (by decide),z (by simp),mk,<-e];clear e;obtain⟨E,q⟩:=y (u.number a.data.toList);have v:=l q;unfold u.hf;rw[<-q];clear q;obtain⟨I,J⟩:=E;cases J with
   |false=>
    rw[z (by simp)];unfold bo;go_enter iV,iW;go_wp2_with fail;refine(p.out _ n).mono ?_;rintro b c ⟨rfl,rfl⟩;go_wp2_with fail;refine(jQ a s _).mono ?_;rintro b c ⟨rfl,rfl⟩;rw[<-v.out];go_wp2;refine ab (v:=ds d k none) m6 rfl ⟨by first|rfl|simp[eq,bo],?_⟩;repeat(first|with_reducible exact aq _ _|with_reducible exact A.out|(with_reducible refine bd ?_ F _)|(with_reducible refine bk ?_ F _))
   |true=>
    rw[B rfl];unfold bo;go_enter iV,iW;go_wp2_with fail;refine(p.out _ n).mono ?_;rintro b c ⟨rfl,rfl⟩;go_wp2_with fail;refine(jQ a s _).mono ?_;rintro b c ⟨rfl,rfl⟩;rw[<-v.out];go_wp2;refine ab (v:=ds d k (some {i with V2:=I})) m6 rfl ⟨by first|rfl|simp[eq,bo],?_⟩;repeat(first|with_reducible exact aq _ _|with_reducible exact A.out|(with_reducible refine bd ?_ F _)|(with_reducible refine bk ?_ F _))
namespace u
def ao (a:Nat):Nat:=if a=109 then 4 else 1
def bH :List Nat->Bool->U->List L->List (List L)->Option (U×List L)
 |[],_,i,g,a=>if a.length=0 then some (i,g)else none
 |c::f,b,i,g,a=>
  if b=true/\a[0]?.getD []≠ [44]then none
  else match ca i g c (a.drop (if b then 1 else 0))with
   |none=>none
   |some (e,d)=>bH f true e d (a.drop ((if b then 1 else 0)+ao c))
def DF :cq []=none:=by decide
def C3 :(number []).2=false:=by decide
def CE :isName []=false:=by decide
def wV {a:List (List L)}{b:Nat}(c:a[b]?.getD []≠ []):b<a.length:=by
 refine Nat.lt_of_not_le fun d=>c ?_;rw[uv d];rfl
def Tp (i:U)(g:List L)(d:Nat)(b:List (List L))(j:U×List L)(a:ca i g d b=some j):ao d<=b.length:=by
 unfold ca at a;unfold ao;split at a
 . next e=>
   rw[z (by omega)];have:b[0]?.getD []≠ []:=by
    intro c;rw[c]at a;simp[fR,DF]at a
   have:=wV this;omega
 . split at a
   . next e=>
     rw[B e];simp only[fQ]at a;split at a
     . next h=>
       have:b[3]?.getD []≠ []:=by rw[h.2.1];simp
       have:=wV this;omega
     . simp at a
   . next k f=>
     rw[z f];have:b[0]?.getD []≠ []:=by
      intro c;rw[c]at a;simp[CE,hf,C3]at a
     have:=wV this;omega
end u
end Go.Proofs.YtmlgonbhoknoiabGreatDoor
