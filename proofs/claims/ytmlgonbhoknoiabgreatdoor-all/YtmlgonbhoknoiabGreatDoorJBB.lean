import Derived.Test.YtmlgonbhoknoiabGreatDoorJAT
import Derived.Test.YtmlgonbhoknoiabGreatDoorJAV
import Derived.Test.YtmlgonbhoknoiabGreatDoorJAY
import Derived.Test.YtmlgonbhoknoiabGreatDoorJBA
set_option maxHeartbeats 8000000
set_option maxRecDepth 100000
set_option linter.all false
namespace Go.Proofs.YtmlgonbhoknoiabGreatDoor
open Go.RowKit Go.Proofs.Tryz
def bg (a:N)(i:ak)(b:Nat):(Int×Nat)×N:=
 if bu i.op=true then((-1,0),a5 a i.rd (dm a i))
 else if(5<=i.op/\i.op<=10)\/i.op=38\/i.op=39 then((-1,0),a)
 else if 11<=i.op/\i.op<=15 then bT a i
 else if 16<=i.op/\i.op<=18 then cz a i
 else if 50<=i.op/\i.op<=60 then bG a i
 else if i.op=40 then(((8+a.mode:Nat),0),a)
 else if i.op=41 then((3,a.V3),a)
 else if(61<=i.op/\i.op<=66)/\ff a i=true then((-1,0),dR a i)
 else if(67<=i.op/\i.op<=70)/\ix a i.op=true then((-1,0),fS a i.op)
 else((2,b),a)
def FA (b d a)(f:af a)(i:ak)(g:aT i)(c:Nat)(e)(h:Hid (E e b d a)):
 an 133 #[I b,ag i,j c] (aR (bg a i c).1.1 (bg a i c).1.2) [b,d] b d ((bg a i c).2) e:=by
 unfold bg;by_cases m:bu i.op=true
 . rw[B m];exact af6 b d a f i g c m e h
 rw[z m];by_cases p:(5<=i.op/\i.op<=10)\/i.op=38\/i.op=39
 . rw[B p];rcases p with k|k|k
   . exact afU b d a f i g c k e h
   . exact afZ b d a f i g c k e h
   . exact af0 b d a f i g c k e h
 rw[z p];by_cases q:11<=i.op/\i.op<=15
 . rw[B q];exact af1 b d a f i g c q e h
 rw[z q];by_cases r:16<=i.op/\i.op<=18
 . rw[B r];exact af7 b d a f i g c r e h
 rw[z r];by_cases s:50<=i.op/\i.op<=60
 . rw[B s];exact afT b d a f i g c s e h
 rw[z s];by_cases t:i.op=40
 . rw[B t];exact afY b d a f i g c t e h
 rw[z t];by_cases u:i.op=41
 . rw[B u];exact afX b d a f i g c u e h
 rw[z u];by_cases n:61<=i.op/\i.op<=66
 . cases l:ff a i
   . rw[z (by simp),z (by omega)];exact afV b d a f i g c n l e h
   . rw[B ⟨n,rfl⟩];exact afW b d a f i g c n l e h
 rw[z (fun k=>n k.1)];by_cases o:67<=i.op/\i.op<=70
 . cases l:ix a i.op
   . rw[z (by simp)];exact af4 b d a f i g c o l e h
   . rw[B ⟨o,rfl⟩];exact af5 b d a f i g c o l e h
 rw[z (fun k=>o k.1)];by_cases v:i.op<=0
 . exact af2 b d a f i g c v e h
 . refine af3 b d a f i g c ?_ e h;have w:¬((1<=i.op/\i.op<=4)\/(19<=i.op/\i.op<=37)\/(42<=i.op/\i.op<=49)):=fun k=>m (by unfold bu;exact bc k);omega
section
attribute [local go_sem ↓] Go.wp_at_zero Go.wp_at_succ
def E.Yq {d:D}{a c:Nat}{b:N}{p:Nat}(e:E d a c b):E (d.setCell ⟨a,33,none⟩ (j p)) a c {b with V3:=p}:=e.set 33 _ rfl rfl (by omega)
def E.other {e:D}{b c:Nat}{d:N}(a i:Nat)(j:Value)(f:E e b c d)(g:b≠a)(h:c≠a):E (e.setCell ⟨a,i,none⟩ j) b c d:=f.more (G:=[a]) ((Kept.refl _ _).setCell (.inl (by simp)) _) (by simp;exact g) (by simp;exact h)
def sU {c:P}(f:aS c)(a:Q)(b:Nat):aS (br c a b).2:=by
 have d:=nO f a b;have e:=nO d a ((b+2)%4294967296);unfold br;repeat' split
 all_goals first|exact e|exact d
def agr (g k a)(C:af a)(f:(br a.b (S a) a.V3).1.f=0)(hd:(aP (br a.b (S a) a.V3).1.w).2=0)(i:ak)(o:i=eY (aP (br a.b (S a) a.V3).1.w).1)(s:Int)(Y:Nat)(aa:N)(u:bg (a.V7 (br a.b (S a) a.V3).2) i (br a.b (S a) a.V3).1.w=((s,Y),aa))(ah:¬s=-1)(d)(c:Hid (E d g k a)):
 an 81 #[I g] (.tuple #[ag ⟨0,0,0,0,0,0⟩,aR s Y]) [g,k] g k aa d:=by
 have ax:=c.out.lt;have ay:=c.out.Ww;have aw:¬g=d.heap.size:=J;have ap:Hid (E ((d.alloc (.cells #[j 0,j 0,j 0,j 0,j 0,j 0] 60)).alloc (.cells #[j 0,j 0] 118)) g k a):=cB;have n:=l (fun W t=>uc g k a C W t);have D:=sU C.b (S a) a.V3;obtain⟨⟨r,K⟩,ad⟩:∃r,r=br a.b (S a) a.V3:=⟨_,rfl⟩;simp only[<-ad]at n f hd o u D|-;try dsimp only at n f hd o u D|-
 have ac:ha r=.tuple #[j r.w,.agg #[j (-1),j 0]]:=zu;simp only[ac]at n;obtain⟨Z,aj⟩:=y (r.w);simp only[<-aj]at n hd o u|-;have P:=nF (Z:Int) hd;have L:=l (fun W=>qf (Z:Int) W);simp only[hd,P.2,<-o]at L;have M:aT i:=by rw[o];exact P.1
 have O:=N.okB C D;have A:=l (fun W t=>FN g k (a.V7 K) O i M W t);have q:=l (fun W t=>FA g k (a.V7 K) O i M Z W t);simp only[u]at q;obtain⟨am,ae⟩:=y (a.V7 K);simp only[<-ae]at n A q|-;obtain⟨p,ai⟩:=y (dt am i);simp only[<-ai]at A|-;have bp:(s==-1)=false:=by simp[ah]
 unfold ag at L A q|-;unfold aR at q|-;clear C ad ac aj f hd P o M O D u ai ae;obtain⟨T,U,V,X,Q,R⟩:=i;dsimp only at *;clear ah;go_enter func81,ntmps81;go_wp2_with fail;refine(n.out _ ap).mono ?_;rintro v w ⟨rfl,aq,b⟩;obtain⟨aV,aW,aX,aY,aZ,a0,a1,a6,a8,a2,a9,a3,ba,a4,bb,a5⟩:a7 w d.heap.size 0 0 0 0 0 0:=jF;obtain⟨bq,bv,bA,bU,bV,bE,bW,bF,bX,bG,bY,bH⟩:av w (d.heap.size+1) 0 0:=ii;go_wp2_with(go_at_call 82;refine(cc _ _ _).mono ?_;rintro v au ⟨rfl,rfl⟩);refine(L.out _).mono ?_;rintro v x ⟨rfl,ao⟩;have e:=Below.kept ao [];obtain⟨_,_,_,_,_,_,_,_,_,_,_,_,_,_,_,_⟩:a7 x d.heap.size 0 0 0 0 0 0:=zJ;obtain⟨bs,bw,bB,bZ,b0,bI,b1,bJ,b2,bK,b3,bL⟩:av x (d.heap.size+1) 0 0:=vu;obtain⟨bc,bd,be,bk,bl,bf,bm,bh,bn,bi,bo,bj⟩:av x w.heap.size (-1) 0:=zH;have al:=l (((aq.alloc _).alloc _ |>.kept e).alloc (.cells #[j T,j U,j V,j X,j Q,j R] 60));go_wp2_with fail;refine(A.out _ al).mono ?_;rintro v w3 ⟨rfl,h⟩;obtain⟨_,_,_,_,_,_,_,_,_,_,_,_,_,_,_,_⟩:a7 w3 d.heap.size 0 0 0 0 0 0:=H9;obtain⟨bt,bx,bC,b4,b5,bM,b6,bN,b7,bO,b8,bP⟩:av w3 (d.heap.size+1) 0 0:=vv;obtain⟨_,_,_,_,_,_,_,_,_,_,_,_⟩:av w3 w.heap.size (-1) 0:=vv;obtain⟨az,aA,aB,aC,aD,aE,aF,aM,aN,aG,aO,aH,aS,aI,aU,aJ⟩:a7 w3 x.heap.size T U V X Q R:=Ia;have ar:=l (al.out.kept h);go_wp2_with fail;refine(q.out _ ar).mono ?_;rintro v H ⟨rfl,z,G⟩;obtain⟨_,_,_,_,_,_,_,_,_,_,_,_,_,_,_,_⟩:a7 H d.heap.size 0 0 0 0 0 0:=vw;obtain⟨bu,bz,bD,b9,ca,bQ,cb,bR,ce,bS,cf,bT⟩:av H (d.heap.size+1) 0 0:=sg;obtain⟨_,_,_,_,_,_,_,_,_,_,_,_⟩:av H w.heap.size (-1) 0:=sg;obtain⟨_,_,_,_,_,_,_,_,_,_,_,_,_,_,_,_⟩:a7 H x.heap.size T U V X Q R:=vw;go_upto_region 10 with(go_at_call 82;refine(cc _ _ _).mono ?_;rintro v au ⟨rfl,rfl⟩);go_region;all_goals
  go_wp2_with fail;refine ab (v:=.tuple #[.agg #[j 0,j 0,j 0,j 0,j 0,j 0],.agg #[j s,j Y]]) u0 rfl ⟨rfl,?_,?_⟩
  . exact K8
  . exact AD
def agt (i k a)(C:af a)(f:(br a.b (S a) a.V3).1.f=0)(hd:(aP (br a.b (S a) a.V3).1.w).2=0)(g:ak)(o:g=eY (aP (br a.b (S a) a.V3).1.w).1)(s:Int)(Y:Nat)(aa:N)(u:bg (a.V7 (br a.b (S a) a.V3).2) g (br a.b (S a) a.V3).1.w=((s,Y),aa))(ah:s=-1)(d)(c:Hid (E d i k a)):
 an 81 #[I i] (.tuple #[ag g,aR s Y]) [i,k] i k ({aa with V3:=dt (a.V7 (br a.b (S a) a.V3).2) g}) d:=by
 have aA:=c.out.lt;have aB:=c.out.Ww;have aw:¬i=d.heap.size:=J;have ap:Hid (E ((d.alloc (.cells #[j 0,j 0,j 0,j 0,j 0,j 0] 60)).alloc (.cells #[j 0,j 0] 118)) i k a):=cB;have n:=l (fun W t=>uc i k a C W t);have D:=sU C.b (S a) a.V3;obtain⟨⟨r,R⟩,ad⟩:∃r,r=br a.b (S a) a.V3:=⟨_,rfl⟩;simp only[<-ad]at n f hd o u D|-;try dsimp only at n f hd o u D|-
 have ac:ha r=.tuple #[j r.w,.agg #[j (-1),j 0]]:=zu;simp only[ac]at n;obtain⟨Z,aj⟩:=y (r.w);simp only[<-aj]at n hd o u|-;have X:=nF (Z:Int) hd;have T:=l (fun W=>qf (Z:Int) W);simp only[hd,X.2,<-o]at T;have U:aT g:=by rw[o];exact X.1
 have V:=N.okB C D;have A:=l (fun W t=>FN i k (a.V7 R) V g U W t);have q:=l (fun W t=>FA i k (a.V7 R) V g U Z W t);simp only[u]at q;obtain⟨am,ae⟩:=y (a.V7 R);simp only[<-ae]at n A q|-;obtain⟨p,ai⟩:=y (dt am g);simp only[<-ai]at A|-;have bt:(s==-1)=true:=by simp[ah]
 unfold ag at T A q|-;unfold aR at q|-;clear C ad ac aj f hd X o U V D u ai ae;obtain⟨L,M,O,P,H,K⟩:=g;dsimp only at *;clear ah;go_enter func81,ntmps81;go_wp2_with fail;refine(n.out _ ap).mono ?_;rintro v w ⟨rfl,aq,b⟩;obtain⟨aY,aZ,a0,a1,a2,a3,a4,ba,bb,a5,bc,a6,bd,a8,be,a9⟩:a7 w d.heap.size 0 0 0 0 0 0:=jF;obtain⟨bu,bz,bD,bX,bY,bH,bZ,bI,b0,bJ,b1,bK⟩:av w (d.heap.size+1) 0 0:=ii;go_wp2_with(go_at_call 82;refine(cc _ _ _).mono ?_;rintro v au ⟨rfl,rfl⟩);refine(T.out _).mono ?_;rintro v x ⟨rfl,ao⟩;have e:=Below.kept ao [];obtain⟨_,_,_,_,_,_,_,_,_,_,_,_,_,_,_,_⟩:a7 x d.heap.size 0 0 0 0 0 0:=zJ;obtain⟨bv,bA,bE,b2,b3,bL,b4,bM,b5,bN,b6,bO⟩:av x (d.heap.size+1) 0 0:=vu;obtain⟨bf,bh,bi,bn,bo,bj,bp,bk,bq,bl,bs,bm⟩:av x w.heap.size (-1) 0:=zH;have al:=l (((aq.alloc _).alloc _ |>.kept e).alloc (.cells #[j L,j M,j O,j P,j H,j K] 60));go_wp2_with fail;refine(A.out _ al).mono ?_;rintro v w3 ⟨rfl,h⟩;obtain⟨_,_,_,_,_,_,_,_,_,_,_,_,_,_,_,_⟩:a7 w3 d.heap.size 0 0 0 0 0 0:=H9;obtain⟨bw,bB,bF,b7,b8,bP,b9,bQ,ca,bR,cb,bS⟩:av w3 (d.heap.size+1) 0 0:=vv;obtain⟨_,_,_,_,_,_,_,_,_,_,_,_⟩:av w3 w.heap.size (-1) 0:=vv;obtain⟨aC,aD,aE,aF,aG,aH,aI,aS,aU,aJ,aV,aM,aW,aN,aX,aO⟩:a7 w3 x.heap.size L M O P H K:=Ia;have ar:=l (al.out.kept h);go_wp2_with fail;refine(q.out _ ar).mono ?_;rintro v Q ⟨rfl,z,G⟩;obtain⟨_,_,_,_,_,_,_,_,_,_,_,_,_,_,_,_⟩:a7 Q d.heap.size 0 0 0 0 0 0:=vw;obtain⟨bx,bC,bG,ce,cf,bT,cg,bU,ci,bV,cj,bW⟩:av Q (d.heap.size+1) 0 0:=sg;obtain⟨_,_,_,_,_,_,_,_,_,_,_,_⟩:av Q w.heap.size (-1) 0:=sg;obtain⟨_,_,_,_,_,_,_,_,_,_,_,_,_,_,_,_⟩:a7 Q x.heap.size L M O P H K:=vw;have ax:=z.Xk;have ay:=z.Wb;have az:=z.lt;go_upto_region 12 with(go_at_call 82;refine(cc _ _ _).mono ?_;rintro v au ⟨rfl,rfl⟩);go_region;all_goals
  go_wp2_with fail;refine ab (v:=.tuple #[.agg #[j L,j M,j O,j P,j H,j K],.agg #[j s,j Y]]) u0 rfl ⟨rfl,?_,?_⟩
  . exact K8
  . exact AD
end
def xo :ak:=⟨0,0,0,0,0,0⟩
def mh (b:N)(a:ak)(c:Nat):(ak× (Int×Nat))×N:=
 if(bg b a c).1.1=-1 then((a,(bg b a c).1),{(bg b a c).2 with V3:=dt b a})else((xo,(bg b a c).1),(bg b a c).2)
def a8 (a:N):(ak× (Int×Nat))×N:=
 if(br a.b (S a) a.V3).1.f=0 then
  (if(aP (br a.b (S a) a.V3).1.w).2=0 then mh (a.V7 (br a.b (S a) a.V3).2) (eY (aP (br a.b (S a) a.V3).1.w).1) (br a.b (S a) a.V3).1.w
   else((xo,(2,(br a.b (S a) a.V3).1.w)),a.V7 (br a.b (S a) a.V3).2))
 else((xo,(a6 (br a.b (S a) a.V3).1.f 0,(br a.b (S a) a.V3).1.Yn)),a.V7 (br a.b (S a) a.V3).2)
def ue (b c a)(f:af a)(e)(h:Hid (E e b c a)):
 an 81 #[I b] (.tuple #[ag (a8 a).1.1,aR (a8 a).1.2.1 (a8 a).1.2.2]) [b,c] b c ((a8 a).2) e:=by
 unfold a8;by_cases d:(br a.b (S a) a.V3).1.f=0
 . rw[B d];by_cases hd:(aP (br a.b (S a) a.V3).1.w).2=0
   . rw[B hd];unfold mh;by_cases g:(bg (a.V7 (br a.b (S a) a.V3).2) (eY (aP (br a.b (S a) a.V3).1.w).1) (br a.b (S a) a.V3).1.w).1.1=-1
     . rw[B g];exact agt b c a f d hd _ rfl _ _ _ rfl g e h
     . rw[z g];exact agr b c a f d hd _ rfl _ _ _ rfl g e h
   . rw[z hd];exact ags b c a f d hd e h
 . rw[z d];exact agq b c a f d e h
structure aj (a:N):Prop where
 ok:af a
 Zi:a.x.getD 0 0=0
 Wo:a.c.Wo&&&546=a.c.Wo
 Xx:a.c.V5&&&8264106=a.c.V5
 Wd:a.c.Wd&&&2730=a.c.Wd
 Zj:a.c.WG&&&46079=a.c.WG
 YW:a.c.V9&&&546=a.c.V9
 Zk:a.c.W8&&&5=a.c.W8
 X8:a.V3%2=0
 YG:a.c.Wm%2=0
 sep:a.c.Wu%2=0
 Zl:a.c.Wz.testBit 1=false
 Zm:a.c.WH.testBit 1=false
 XV:a.mode≠3->a.c.V5.testBit 17=false
theorem C.Zn :∀(b:List L) (e:Nat),b.contains 97=false->C.sum b e%2=0/\∀f,C.high b=f->f%2=0\/f=0
 |[],e,_=>⟨rfl,fun f a=>.inr a.symm⟩
 |c::b,e,a=>by
  rw[List.contains_cons,Bool.or_eq_false_iff]at a
  have k:=C.Zn b (e/2) a.2
  have o:c≠97:=by intro g;rw[g]at a;exact absurd a.1 (by decide)
  unfold C.sum C.high
  cases i:C.isLet c
  . exact⟨by rw[bh];omega,k.2⟩
  . have p:98<=c.toNat:=by
     unfold C.isLet at i;simp at i;have:c.toNat≠97:=fun g=>o (oC.1 g);omega
    obtain⟨d,n⟩:∃d,c.toNat-97=d+1:=⟨c.toNat-98,by omega⟩;rw[cu,cu,n,gc];obtain⟨q,m⟩:=y (e%2*2^d);refine⟨by rw[<-hz,<-m];omega,fun f j=>.inl ?_⟩;rcases Nat.le_total (2^d*2) (C.high b)with h|h
    . rw[ri h]at j;rcases k.2 _ rfl with l|l
      . omega
      . have:=lm d;omega
    . rw[rj h]at j;omega
def qD (a:Int×K×Int):Bool:=!(decide (a.1=3) ||(decide (5<=a.1)&&decide (a.1<=10))) ||!(C.ah a.2.1.data.toList a.2.1.size).contains 97
def SL :((List.range 71).all fun a=>a==0 ||qD (ae.longRow a))=true:=by decide+kernel
def U7 :((List.range 27).all fun a=>a==0 ||qD (ae.aY a))=true:=by decide+kernel
def wh (i:U):Prop:=i.op=3\/(5<=i.op/\i.op<=10)->i.V2%2=0
def UC (a:Int×K×Int)(b:qD a=true)(W:Nat):wh (bI a W):=by
 intro e;have f:a.1=3\/(5<=a.1/\a.1<=10):=e;unfold qD at b;have c:(C.ah a.2.1.data.toList a.2.1.size).contains 97=false:=by
  cases d:(C.ah a.2.1.data.toList a.2.1.size).contains 97
  . rfl
  . rw[d]at b;simp at b;omega
 have g:=C.Zn _ W c;show c7 a.2.1 (hasB a.2.2 1) W%2=0;exact ajD
def Qv (a:Int)(b:(aP a).2=0):wh (aP a).1:=wF wh qD SL U7 UC (fun _ _ _=>rfl) a b
def yl (b:Nat)(a:Nat)(c:a.testBit 0=true):aI b a%2=0:=by
 have:=et b a 0;rw[c,Nat.testBit_zero]at this;simp at this;omega
def qT :Nat.testBit 131072 17=true/\Nat.testBit 131328 17=true/\Nat.testBit 8 17=false/\Nat.testBit 128 17=false/\Nat.testBit 32 17=false/\Nat.testBit 256 17=false/\Nat.testBit 2 17=false/\Nat.testBit 786722 17=false/\Nat.testBit 2 1=true:=by decide
def Fo (a:Nat):(aI a 2).testBit 1=false:=by rw[et];simp[qT]
theorem aj.V7 {a:N}(b:aj a){B:P}(c:aS B):aj (a.V7 B):={b with ok:=N.okB b.ok c}
def aj.Xn {X:N}(a:aj X)(d c:Nat)(h:G c):aj (a5 X d c):=by
 have g:=N.Yp a.ok d c h;have f:(a5 X d c).x.getD 0 0=0:=by
  unfold a5;split
  . exact a.Zi
  . next hd=>
    have:=a.Zi;dsimp only;rw[rq,yP (by omega),<-rq];exact this
 have b:(a5 X d c).c=X.c:=lN;have e:(a5 X d c).V3=X.V3/\(a5 X d c).mode=X.mode:=by unfold a5;split<;>exact⟨rfl,rfl⟩
 exact⟨g,f,by rw[b];exact a.Wo,by rw[b];exact a.Xx,by rw[b];exact a.Wd,by rw[b];exact a.Zj,by rw[b];exact a.YW,by rw[b];exact a.Zk,by rw[e.1];exact a.X8,by rw[b];exact a.YG,by rw[b];exact a.sep,by rw[b];exact a.Zl,by rw[b];exact a.Zm,by rw[b,e.2];exact a.XV⟩
def aj.XW {X:N}(a:aj X):aj (hq X):={a with ok:={a.ok with WU:=by show 0<_;decide}}
theorem aj.o {a:N}(b:aj a){r:List L}(c:r.length=a.b.o.length):aj (bY a r):={b with ok:={b.ok with b:=tC b.ok.b c}}
def aj.Zo {a:N}(b:aj a){p:Nat}(d:G p)(c:p%2=0):aj {a with V3:=p}:={b with ok:={b.ok with V3:=d},X8:=c}
def aj.ite {p:Prop}[Decidable p]{a b:N}(c:aj a)(d:aj b):aj (if p then a else b):=by split<;>assumption
def VF {a b c:Nat}(d:a&&&b=a)(e:b&&&c=b):a&&&c=a:=by rw[<-d,yS,e]
def q7 (a c:Nat)(b:G a):aI a c<4294967296:=bJ (h0 _ _) b
def BF (a:Nat):a&&&7<8:=bJ iR (by decide)
def VI {b:N}(a:aj b)(i:Int)(c:Nat)(d:G c):aj (eZ b i c):=by
 have h:b.c.V9&&&2&&&546=b.c.V9&&&2:=j6 _ R;have hd:b.c.V9&&&2730=b.c.V9:=VF a.YW R;have e:=qM (k:=786722) c a.Xx R;have f:=qM (k:=b.c.V9) c a.Wd hd;have g:=qM (k:=b.c.V9&&&2) c a.Wo h;unfold eZ;refine aj.ite ?_ ?_
 . exact{a with ok:={a.ok with V5:=bJ (sub_le e) R,Wl:=S0 _ _ a.ok.Wl},Xx:=e,XV:=fun j=>by show(aI b.c.V5 786722 |||c&&&786722).testBit 17=false;rw[fE,et,da,a.XV j];simp[qT]}
 refine aj.ite ?_ ?_
 . exact{a with ok:={a.ok with Wd:=bJ (sub_le f) R},Wd:=f}
 refine aj.ite ?_ ?_
 . exact{a with ok:={a.ok with WH:=q7 _ _ d},Zm:=Fo _}
 refine aj.ite ?_ ?_
 . exact{a with ok:={a.ok with WA:=BF c}}
 refine aj.ite ?_ ?_
 . exact{a with ok:={a.ok with WR:=d}}
 refine aj.ite ?_ ?_
 . exact{a with ok:={a.ok with Wu:=q7 _ _ d},sep:=yl _ 1 R}
 refine aj.ite ?_ ?_
 . exact{a with ok:={a.ok with WD:=d}}
 refine aj.ite ?_ ?_
 . exact{a with ok:={a.ok with WI:=d}}
 refine aj.ite ?_ ?_
 . exact{a with ok:={a.ok with Wo:=sub_le g},Wo:=g}
 refine aj.ite ?_ ?_
 . exact{a with ok:={a.ok with Wf:=d}}
 exact a
def ww (c a:Nat)(b:G a):c&&&a<4294967296:=bJ iR b
def SR {d:N}(a:aj d)(f:d.mode=3)(g:Int)(c:Nat)(b:G c):aj (eu d g c):=by
 have e:=VE c a.Xx;unfold eu;refine aj.ite ?_ ?_
 . exact{a with ok:={a.ok with V5:=bJ (sub_le e) R,Wl:=VD _ _ a.ok.Wl},Xx:=e,XV:=fun h=>absurd f h}
 refine aj.ite ?_ ?_
 . exact{a with ok:={a.ok with WG:=ww _ _ R},Zj:=j6 _ R}
 refine aj.ite ?_ ?_
 . exact{a with ok:={a.ok with V9:=ww _ _ R},YW:=j6 _ R}
 refine aj.ite ?_ ?_
 . exact{a with ok:={a.ok with Wd:=ww _ _ R},Wd:=j6 _ R}
 refine aj.ite ?_ ?_
 . exact{a with ok:={a.ok with Wz:=q7 _ _ b},Zl:=Fo _}
 refine aj.ite ?_ ?_
 . exact{a with ok:={a.ok with Wp:=BF c}}
 refine aj.ite ?_ ?_
 . exact{a with ok:={a.ok with W8:=bJ (iR (n:=c) (m:=5)) R},Zk:=j6 _ R}
 refine aj.ite ?_ ?_
 . exact{a with ok:={a.ok with WK:=b}}
 refine aj.ite ?_ ?_
 . exact{a with ok:={a.ok with Wm:=q7 _ _ b},YG:=yl _ 1 R}
 refine aj.ite ?_ ?_
 . exact{a with ok:={a.ok with Wx:=b}}
 refine aj.ite ?_ ?_
 . exact{a with ok:={a.ok with WB:=b}}
 refine aj.ite ?_ ?_
 . exact{a with ok:={a.ok with Wo:=iR},Wo:=j6 _ R}
 exact a
def Qh {c:N}(a:aj c)(e:Int)(d:Nat)(b:G d):aj (hr c e d):=by
 unfold hr;refine aj.ite ?_ ?_
 . exact{a with ok:={a.ok with Wy:=b}}
 refine aj.ite ?_ ?_
 . exact{a with ok:={a.ok with WN:=b}}
 refine aj.ite ?_ ?_
 . exact{a with ok:={a.ok with ret:=b}}
 refine aj.ite ?_ ?_
 . exact{a with ok:={a.ok with We:=b}}
 exact a
def aeI {c:N}(d:aj c)(a:Int)(f:768<=a/\a<=1023->c.mode=3)(b:Nat)(e:G b):aj (bR c a b):=by
 unfold bR;refine aj.ite ?_ ?_
 . exact VI d a b e
 split
 . next g=>exact SR d (f g) a b e
 exact Qh d a b e
def SW {a:N}(d:aj a){i:ak}(b:ff a i=true)(f:768<=i.V2/\i.V2<=1023):a.mode=3:=by
 unfold ff ta at b;have hd:¬a.mode<i.V2.toNat/256%4:=by
  intro c;rw[bc c]at b;cases e:(aA a i.V2).2<;>rw[e]at b<;>simp at b
 have:=d.ok.mode;omega
def Qb {a:N}(b:aj a)(i:ak)(e:aT i)(g:ff a i=true):aj (dR a i):=by
 have d:=k0 a b.ok i.V2;have f:G (df a i):=by
  unfold df;split
  . exact b.ok.WE _
  . have:=e.V1;omega
 have c:=b.Xn i.rd _ d;have j:=b.ok.Wo;unfold dR;split
 . refine aeI c _ (fun h=>?_) _ (qd _ _ _ ?_ f)
   . have:=SW b g h;unfold a5;split<;>exact this
   split
   . omega
   . exact d
 . exact c
def S1 (a:Nat)(b:a&&&6144=6144):a/2048%4=3:=by rw[<-wu,b]
def S2 (a:Nat)(b:¬a&&&6144=6144):(h2 a).testBit 17=false:=by
 unfold h2 gL;rw[z b,fE,et];unfold e1;cases decide (aI a 131072&&&128=0)<;>simp[et,qT]
def Vh (a:Nat):(ht a).testBit 17=false:=by
 unfold ht;rw[fE,et];simp[qT]
def Vy (a b:Nat)(c:a.testBit 17=false):(h3 a b).testBit 17=false:=by
 unfold h3 e1;cases decide (a&&&2=0)<;>cases decide (b=1)<;>simp[et,c,qT]
def Cn (a b:Nat):ga a b%2=0:=by
 have:=yl a 3 R;unfold ga;split<;>omega
def TM {a:N}(b:aj a)(f:Int):aj (fS a f):=by
 have c:=S5 b.Xx;have d:=Vk b.Xx;have h:=b.ok.Wl;unfold fS;split
 . refine aj.XW (X:={a with mode:=a.c.V5/2048%4,c:={a.c with V5:=h2 a.c.V5}}) ?_;exact{b with ok:={b.ok with mode:=(by show a.c.V5/2048%4=0\/a.c.V5/2048%4=1\/a.c.V5/2048%4=3;omega),V5:=bJ (sub_le c) R,Wl:=S3 _},Xx:=c,XV:=fun g=>S2 _ (by intro e;exact g (by show a.c.V5/2048%4=3;exact S1 _ e))}
 split
 . refine aj.XW (X:={a with mode:=a.c.V5/256%2,c:={a.c with V5:=ht a.c.V5}}) ?_;exact{b with ok:={b.ok with mode:=(by show a.c.V5/256%2=0\/a.c.V5/256%2=1\/a.c.V5/256%2=3;omega),V5:=bJ (sub_le d) R,Wl:=Vi _ b.ok.Wl},Xx:=d,XV:=fun _=>Vh _}
 split
 . exact{b with ok:={b.ok with}}
 exact b
def Co (a b:Nat)(c:G a):ga a b<4294967296:=by
 unfold ga;split
 . exact AQ
 . exact q7 _ _ c
def EK {b:N}(a:aj b)(g:b.mode≠3)(c e:Nat)(f:G c)(h:G e):aj (iM b c e):=by
 have d:=VA b.mode a.Xx;exact{a with ok:={a.ok with mode:=.inr (.inl rfl),V3:=Co _ _ a.ok.WH,Wu:=a.ok.V3,WD:=f,WI:=h,V5:=bJ (sub_le d) R,Wl:=Vz _ _ a.ok.Wl},Xx:=d,X8:=Cn _ _,sep:=a.X8,XV:=fun _=>Vy _ _ (a.XV g)}
def EE {b:N}(a:aj b)(c e:Nat)(f:G c)(g:G e):aj (iL b c e):=by
 have d:=Ta b.mode a.Xx;exact{a with ok:={a.ok with mode:=.inr (.inr rfl),V3:=Co _ _ a.ok.Wz,Wm:=a.ok.V3,Wx:=f,WB:=g,V5:=bJ (sub_le d) R,Wl:=S9 _ _ a.ok.mode},Xx:=d,X8:=Cn _ _,YG:=a.X8,XV:=fun h=>absurd rfl h}
def B6 {b:N}{d c:Nat}(a:gu b d c=true):b.mode≠3:=by
 unfold gu at a;simp at a;exact a.1
def VX {a:N}(c:aj a)(b:Nat)(e:b<32):aj (iK a b):=by
 unfold iK;split
 . next d=>exact EK c (B6 d) _ _ m R
 . exact EE c _ _ m R
def VU {a:N}(c:aj a)(b e:Nat)(g:b<32)(d:G e):aj (iI a b e):=by
 unfold iI;split
 . next f=>exact EK c (B6 f) _ _ m d
 . exact EE c _ _ m d
def Qe {d:N}(a:aj d)(r:Bool)(h:Nat):aj (l7 d r h):=by
 have e (b c:Nat):eH b c<4294967296:=gb _ R;have f (b g c:Nat):eG b g c<4294967296:=gb _ R;unfold l7 fL;exact{a with ok:={a.ok with Wy:=(by dsimp only;split;exact e _ _;exact a.ok.Wy),WN:=(by dsimp only;split;exact f _ _ _;exact a.ok.WN),ret:=(by dsimp only;split;exact e _ _;exact a.ok.ret),We:=(by dsimp only;split;exact f _ _ _;exact a.ok.We)}}
def Ti {a:N}(b:aj a)(i:ak):dt a i<4294967296:=by
 unfold dt;split
 . exact word_lt _
 split
 . exact bJ (Nat.sub_le _ _) (word_lt _)
 split
 . exact b.ok.Wm
 split
 . exact b.ok.Wu
 exact AQ
def Th {b:N}(a:aj b)(i:ak)(d:aT i)(c:i.op=3\/(5<=i.op/\i.op<=10)->i.V2%2=0):dt b i%2=0:=by
 have e:=a.X8;have f:=d.V4;unfold dt;split
 . next g=>
   have:=c m;unfold am;omega
 split
 . omega
 split
 . exact a.YG
 split
 . exact a.sep
 unfold db;omega
def UJ {b:N}(a:aj b)(i:ak):dm b i<4294967296:=by
 unfold dm;split
 . exact word_lt _
 split
 . exact word_lt _
 split
 . exact AQ
 split
 . exact sK _ _ _ (a.ok.WE _) (word_lt _)
 . exact sK _ _ _ (a.ok.WE _) (a.ok.WE _)
def kN (a b:Int):0<=a6 a b/\a6 a b<16:=by
 unfold a6;repeat' split
 all_goals omega
def Su {a:N}(b:aj a)(i:ak):aj (bT a i).2/\(bT a i).1.2<4294967296/\ -1<=(bT a i).1.1/\(bT a i).1.1<16:=by
 have k:G (aw a i):=word_lt _;have h:=iy i.op;have c:=hk b.ok.b (S a) (aw a i) (au i.op) 1;have d:=hl a.b (S a) (aw a i) (au i.op) 1 k h.1;unfold bT;generalize a1 a.b (S a) (aw a i) (au i.op) 1=e at c d;unfold jg;split
 . next g=>
   refine⟨(b.V7 (SD c _)).Xn _ _ ?_,cn,cn,cn⟩;have f:=xk c e.1 (d.WO g);rw[d.sum g]at f;have j:256^au i.op<=256^4:=cV R h.2;unfold fr;split
   . exact word_lt _
   . exact aQ f j
 . have:=kN e.1.fault 1;exact LJ
def Vn {a:N}(b:aj a)(i:ak):aj (cz a i).2/\(cz a i).1.2<4294967296/\ -1<=(cz a i).1.1/\(cz a i).1.1<16:=by
 have g:G (aw a i):=word_lt _;have f:=iy i.op;have c:=hk b.ok.b (S a) (aw a i) (au i.op) 2;have d:=hl a.b (S a) (aw a i) (au i.op) 2 g f.1;unfold cz;generalize a1 a.b (S a) (aw a i) (au i.op) 2=e at c d;unfold la;split
 . next h=>exact⟨b.V7 (Vs c _ _ (b.ok.WE _)),cn,cn,cn⟩
 . have:=kN e.1.fault 2;exact LJ
def PP {a:N}(b:aj a)(i:ak)(c:Nat)(h:c<17184063488):aj (g6 a i c):=by
 have e:=Ds a.b (c-2147483648);unfold g6;split
 . have d:=b.Xn i.rd _ e;exact{d with ok:={d.ok with WU:=h}}
 split
 . unfold hU;refine aj.XW (aj.Xn ?_ _ _ ?_)
   . cases hT a c
     . exact b.o (mz _ _ _ _)
     . exact b
   . have g:∀f:Bool,f.toNat<4294967296:=cK;exact g _
 . exact(b.o (mz _ _ _ _)).Xn _ _ e
def PQ {a:N}(b:aj a)(i:ak):aj (bG a i).2/\(bG a i).1.2<4294967296/\ -1<=(bG a i).1.1/\(bG a i).1.1<16:=by
 have d:=b.ok.WE i.V1;have c:=yj b.ok.b (S a) (a.x.getD i.V1 0) (aJ i.op);have e:=Fh a.b (S a) (a.x.getD i.V1 0) (aJ i.op) d;unfold bG;generalize cS a.b (S a) (a.x.getD i.V1 0) (aJ i.op)=f at c e;split
 . unfold jb;split
   . exact⟨PP (b.V7 c) i _ e.1,cn,cn,cn⟩
   . have:=kN f.1.2 (aJ i.op);exact⟨b.V7 c,d,by dsimp only;omega,by dsimp only;omega⟩
 . exact⟨b,d,by dsimp only;unfold h1;split<;>decide,by dsimp only;unfold h1;split<;>decide⟩
def Qj {b:N}(a:aj b)(i:ak)(d:aT i)(c:Nat)(e:G c):aj (bg b i c).2/\(bg b i c).1.2<4294967296/\ -1<=(bg b i c).1.1/\(bg b i c).1.1<16:=by
 unfold bg;split
 . exact⟨a.Xn _ _ (UJ a i),cn,cn,cn⟩
 split
 . exact⟨a,cn,cn,cn⟩
 split
 . exact Su a i
 split
 . exact Vn a i
 split
 . exact PQ a i
 split
 . have:=a.ok.mode;exact⟨a,cn,by dsimp only;omega,by dsimp only;omega⟩
 split
 . exact⟨a,a.ok.V3,cn,cn⟩
 split
 . next f=>exact⟨Qb a i d f.2,cn,cn,cn⟩
 split
 . exact⟨TM a _,cn,cn,cn⟩
 exact⟨a,e,cn,cn⟩
def mi {a:N}(b:aj a):aj (a8 a).2/\(a8 a).1.2.2<4294967296/\ -1<=(a8 a).1.2.1/\(a8 a).1.2.1<16:=by
 have c:=sU b.ok.b (S a) a.V3;have d:=QK a.b (S a) a.V3 b.ok.V3;unfold a8;generalize br a.b (S a) a.V3=e at c d;split
 . split
   . next hd=>
     have g:=(nF (e.1.w:Int) hd).1;have f:=Qj (b.V7 c) _ g e.1.w d.1;unfold mh;split
     . exact⟨f.1.Zo (Ti (b.V7 c) _) (Th (b.V7 c) _ g (Qv _ hd)),f.2⟩
     . exact f
   . exact⟨b.V7 c,d.1,cn,cn⟩
 . have:=kN e.1.f 0;exact⟨b.V7 c,d.2.1,by dsimp only;omega,by dsimp only;omega⟩
def tp (W:Nat)(k:W<=9223372036854775807)(b:Int)(n:0<=b)(q:b<=255)(h:D):
 Calls prog 228 #[j W,j b] h fun m l=>(∃d:Nat,m=.returned (j d)/\d<=1/\Hid (d=W/2^b.toNat%2))/\l=h:=by
 obtain⟨a,rfl⟩:=h7 n;rw[dp];go_enter func228,ntmps228;go_wp2;go_loop [0,1] (fun o f=>∃g e:Nat,e<=a/\g<=9223372036854775807/\o=j g/\f=j e/\Hid (g/2^e=W/2^a)) (fun _ f=>(intOf f).toNat);case atStart=>exact Lh
 case round=>
  exact Lf
def wB {W a:Nat}{b:Nat}(c:Hid (a=W/2^b%2)):((W:Int)/2^b)%2=(a:Int):=by
 rw[c.out];push_cast;rfl
def wW (b:Int)(a:Nat):b/2^a/2=b/2^(a+1):=by
 rw[Int.pow_succ];exact yH (Int.pow_nonneg R)
def RI (b:Int)(g:-1099511627776<=b)(a c:Nat)(h:a<=39)(f:Hid (c=(b+1099511627776).toNat/2^a%2)):b/2^a%2=(c:Int):=by
 have d:(((b+1099511627776).toNat/2^a%2:Nat):Int)=(b+1099511627776)/2^a%2:=by
  rw[Int.natCast_emod,Int.natCast_ediv,oN (by omega)];push_cast;rfl
 rw[f.out,d];have e:(1099511627776:Int)=2^a* (2*2^(39-a)):=by
  have:(2:Int)^a* (2*2^(39-a))=2^(a+1+(39-a)):=by rw[Int.pow_add,Int.pow_succ,mL]
  rw[this,show a+1+(39-a)=40 by omega];decide
 rw[e,Int.add_mul_ediv_left _ _ (by have:(0:Int)<2^a:=Int.pow_pos (by decide);omega)];omega
theorem TZ (a:K)(aa:a.size<=32)(ag:∀ay∈a.data.toList,ay.toNat<=122)(av au:Int)(o q r:Nat)(aF:o<=9223372036854775807)(az:q<=9223372036854775807)(aA:r<=9223372036854775807)(d:Int)(ar:-1099511627776<=d)(aK:d<=1099511627776)(Z:D):
 Calls prog 159 #[.string a,.agg #[j av,j o,j q,j r,j d,j au]] Z fun t A=>
  t=.returned (j (C.draw (C.ah a.data.toList a.size) o q r d))/\Below Z.heap.size Z A:=by
 have al:=cE ag;clear ag;obtain⟨x,V⟩:=y (C.draw (C.ah a.data.toList a.size) o q r d);have aC:G x:=by
  have ap:=C.kL (C.ah a.data.toList a.size) o q r d;rw[C.jn _ _ (by simp),<-V]at ap;have aG:2^a.size<=2^32:=vf;have ab:(2:Nat)^32=4294967296:=cK;omega
 rw[<-V];have am:Hid (x=C.draw (C.ah a.data.toList a.size) o q r d):=V;clear V;go_enter func159,ntmps159;go_wp2;go_loop [5,6,7,8,9] (fun ao ab aw ax Y=>∃(B b h f g:Nat),B<=a.size/\Y=j ((B:Int)-1)/\ao=j b/\ab=j h/\aw=j f/\ax=j g/\h+B<=a.size/\f+B<=a.size/\g+B<=a.size/\
  Hid (b+2^(a.size-B)*C.draw (C.ah a.data.toList B) ((o:Int)/2^h) ((q:Int)/2^f) ((r:Int)/2^g) d=x)) (fun _ _ _ _ Y=>(intOf Y+1).toNat)
 case atStart=>exact⟨a.size,0,0,0,0,aB _,rfl,rfl,rfl,rfl,rfl,by omega,by omega,by omega,(by rw[ul];simp only[Int.pow_zero,Int.ediv_one];rw[<-am.out];omega:0+2^(a.size-a.size)*C.draw (C.ah a.data.toList a.size) ((o:Int)/2^0) ((q:Int)/2^0) ((r:Int)/2^0) d=x)⟩
 case round=>
  obtain⟨B,b,h,f,g,aI,rfl,rfl,rfl,rfl,rfl,aL,aM,aN,n⟩:=hrel;have aE:G b:=by have:=n.out;omega
  cases B with
  |zero=>
   have ai:=n.out;simp only[C.qH,C.draw,rk,di]at ai;subst ai;go_wp2;go_ret;exact⟨rfl,(aq _ _).alloc (aB _) _⟩
  |succ i=>
   have t:((i+1:Nat):Int)-1=(i:Int):=J;rw[t];clear t;have af:i<a.size:=J;rw[iF a i af]at n;have aJ:a[i].toNat<=122:=al.out a[i] (by
    have:a[i]=a.data.toList[i]'(by simpa using af):=rfl;rw[this];exact gd _)
   have I:2^(a.size- (i+1))*2=2^(a.size-i):=by rw[<-gc];congr 1;omega
   have aj:=cE I;clear I;by_cases u:(a[i].toNat:Int)=49
   . skip;have e:=B9 u n;have N:((a[i].toNat:Int)==49)=true:=r3;have P:((a[i].toNat:Int)==68)=false:=r3;have O:((a[i].toNat:Int)==66)=false:=r3;have Q:((a[i].toNat:Int)==83)=false:=r3;have S:((a[i].toNat:Int)==84)=false:=r3;have U:=cE u;clear u n;have ah:decide ((97:Int)<=(a[i].toNat:Int))=false:=vo;go_wp2_with fail;refine(mp _ m m _).mono ?_;rintro t A ⟨⟨p,rfl,W,I,c⟩,rfl⟩;have k:((a.size:Int)-1- (i:Int)).toNat=a.size- (i+1):=J;rw[k]at c;clear k;rw[<-c.out]at e;have L:b+p<4294967296:=r4;have l:Hid (b+p+2^(a.size-i)*C.draw (C.ah a.data.toList i) ((o:Int)/2^h) ((q:Int)/2^f) ((r:Int)/2^g) d=x):=r5;clear e c;exact MB
   by_cases w:(a[i].toNat:Int)=68
   . skip;clear u;have E:=(hy w:(a[i].toNat:Int)=68\/(a[i].toNat:Int)=66);have N:((a[i].toNat:Int)==49)=false:=r6;have P:((a[i].toNat:Int)==68)=true:=r6;have O:((a[i].toNat:Int)==66)=false:=r6;have Q:((a[i].toNat:Int)==83)=false:=r6;have S:((a[i].toNat:Int)==84)=false:=r6;have U:=cE w;clear w;exact MC
   by_cases z:(a[i].toNat:Int)=66
   . skip;clear u w;have E:=(ch z:(a[i].toNat:Int)=68\/(a[i].toNat:Int)=66);have N:((a[i].toNat:Int)==49)=false:=r7;have P:((a[i].toNat:Int)==68)=false:=r7;have O:((a[i].toNat:Int)==66)=true:=r7;have Q:((a[i].toNat:Int)==83)=false:=r7;have S:((a[i].toNat:Int)==84)=false:=r7;have U:=cE z;clear z;exact MC
   by_cases F:(a[i].toNat:Int)=83
   . skip;clear u w z;have E:=F;have N:((a[i].toNat:Int)==49)=false:=r8;have P:((a[i].toNat:Int)==68)=false:=r8;have O:((a[i].toNat:Int)==66)=false:=r8;have Q:((a[i].toNat:Int)==83)=true:=r8;have S:((a[i].toNat:Int)==84)=false:=r8;have U:=cE F;clear F;have ah:decide ((97:Int)<=(a[i].toNat:Int))=false:=vo;go_wp2_with fail;refine(tp q m _ m m _).mono ?_;rintro t A ⟨⟨s,rfl,ae,v⟩,rfl⟩;rw[dp]at v;have e:=wK E (wB v) n;clear n v;go_wp2_with fail;refine(mp _ m m _).mono ?_;rintro t A ⟨⟨p,rfl,W,I,c⟩,rfl⟩;have k:((a.size:Int)-1- (i:Int)).toNat=a.size- (i+1):=J;rw[k]at c;clear k;rw[<-c.out,wW]at e;have L:b+s*p<4294967296:=r4;have l:Hid (b+s*p+2^(a.size-i)*C.draw (C.ah a.data.toList i) ((o:Int)/2^h) ((q:Int)/2^(f+1)) ((r:Int)/2^g) d=x):=r5;clear e c E;rcases(show s=0\/s=1 by omega)with rfl|rfl
     . rw[o6,di]at l;go_wp2;go_round;case rel=>exact⟨i,b,h,f+1,g,by omega,by go_num,by go_num,by go_num,by go_num,by go_num,by omega,by omega,by omega,l⟩
       case measure=>exact dD
     . rw[o1]at l L;go_wp2;go_round;case rel=>exact⟨i,b+p,h,f+1,g,by omega,by go_num,by go_num,by go_num,by go_num,by go_num,by omega,by omega,by omega,l⟩
       case measure=>exact dD
   by_cases H:(a[i].toNat:Int)=84
   . skip;clear u w z F;have E:=H;have N:((a[i].toNat:Int)==49)=false:=r9;have P:((a[i].toNat:Int)==68)=false:=r9;have O:((a[i].toNat:Int)==66)=false:=r9;have Q:((a[i].toNat:Int)==83)=false:=r9;have S:((a[i].toNat:Int)==84)=true:=r9;have U:=cE H;clear H;have ah:decide ((97:Int)<=(a[i].toNat:Int))=false:=vo;go_wp2_with fail;refine(tp r m _ m m _).mono ?_;rintro t A ⟨⟨s,rfl,ae,v⟩,rfl⟩;rw[dp]at v;have e:=wL E (wB v) n;clear n v;go_wp2_with fail;refine(mp _ m m _).mono ?_;rintro t A ⟨⟨p,rfl,W,I,c⟩,rfl⟩;have k:((a.size:Int)-1- (i:Int)).toNat=a.size- (i+1):=J;rw[k]at c;clear k;rw[<-c.out,wW]at e;have L:b+s*p<4294967296:=r4;have l:Hid (b+s*p+2^(a.size-i)*C.draw (C.ah a.data.toList i) ((o:Int)/2^h) ((q:Int)/2^f) ((r:Int)/2^(g+1)) d=x):=r5;clear e c E;rcases(show s=0\/s=1 by omega)with rfl|rfl
     . rw[o6,di]at l;go_wp2;go_round;case rel=>exact⟨i,b,h,f,g+1,by omega,by go_num,by go_num,by go_num,by go_num,by go_num,by omega,by omega,by omega,l⟩
       case measure=>exact dD
     . rw[o1]at l L;go_wp2;go_round;case rel=>exact⟨i,b+p,h,f,g+1,by omega,by go_num,by go_num,by go_num,by go_num,by go_num,by omega,by omega,by omega,l⟩
       case measure=>exact dD
   have N:((a[i].toNat:Int)==49)=false:=by rw[b4];exact u
   have P:((a[i].toNat:Int)==68)=false:=by rw[b4];exact w
   have O:((a[i].toNat:Int)==66)=false:=by rw[b4];exact z
   have Q:((a[i].toNat:Int)==83)=false:=by rw[b4];exact F
   have S:((a[i].toNat:Int)==84)=false:=by rw[b4];exact H
   by_cases aH:97<=a[i].toNat
   . skip;have X:C.isLet a[i]=true:=by simp[C.isLet];omega
     have ak:(97:Int)<=(a[i].toNat:Int):=J;clear u w z F H;go_wp2_with fail;obtain⟨T,ac⟩:∃T:Nat,(T:Int)=d+1099511627776:=⟨(d+1099511627776).toNat,by omega⟩;rw[<-ac];have aD:T<=2199023255552:=J;have ad:T=(d+1099511627776).toNat:=J;have an:=cE ad;clear ac ad;refine(tp T m _ m m _).mono ?_;rintro t A ⟨⟨s,rfl,ae,v⟩,rfl⟩;have k:((a[i].toNat:Int)-97).toNat=a[i].toNat-97:=J;rw[k,an.out]at v;clear k;have e:=wI X (RI d ar _ _ m v) n;clear n v;go_wp2_with fail;refine(mp _ m m _).mono ?_;rintro t A ⟨⟨p,rfl,W,I,c⟩,rfl⟩;have k:((a.size:Int)-1- (i:Int)).toNat=a.size- (i+1):=J;rw[k]at c;clear k;rw[<-c.out]at e;have L:b+s*p<4294967296:=r4;have l:Hid (b+s*p+2^(a.size-i)*C.draw (C.ah a.data.toList i) ((o:Int)/2^h) ((q:Int)/2^f) ((r:Int)/2^g) d=x):=r5;clear e c;rcases(show s=0\/s=1 by omega)with rfl|rfl
     . rw[o6,di]at l;go_wp2;go_round;case rel=>exact MD
       case measure=>exact dD
     . rw[o1]at l L;exact MB
   have X:C.isLet a[i]=false:=by simp[C.isLet];omega
   have e:=B8 u w z F H X n;have ak:decide ((97:Int)<=(a[i].toNat:Int))=false:=M;clear u w z F H n;go_wp2_with fail;refine(mp _ m m _).mono ?_;rintro t A ⟨⟨p,rfl,W,I,c⟩,rfl⟩;have k:((a.size:Int)-1- (i:Int)).toNat=a.size- (i+1):=J;rw[k]at c;clear k;have l:Hid (b+2^(a.size-i)*C.draw (C.ah a.data.toList i) ((o:Int)/2^h) ((q:Int)/2^f) ((r:Int)/2^g) d=x):=by rw[<-aj.out];exact e
   clear e c;go_wp2;go_round;case rel=>exact MD
   case measure=>exact dD
end Go.Proofs.YtmlgonbhoknoiabGreatDoor
