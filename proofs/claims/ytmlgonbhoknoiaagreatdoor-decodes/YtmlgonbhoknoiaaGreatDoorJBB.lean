import Derived.Test.YtmlgonbhoknoiaaGreatDoorJAT
import Derived.Test.YtmlgonbhoknoiaaGreatDoorJAV
import Derived.Test.YtmlgonbhoknoiaaGreatDoorJAY
import Derived.Test.YtmlgonbhoknoiaaGreatDoorJBA
set_option maxHeartbeats 8000000
set_option maxRecDepth 100000
set_option linter.all false
namespace Go.Proofs.YtmlgonbhoknoiaaGreatDoor
open Go.RowKit Go.Proofs.Tryz
def bh (a:N)(i:ak)(b:Nat):(Int×Nat)×N:=
 if bv i.op=true then((-1,0),a6 a i.rd (dp a i))
 else if(5<=i.op/\i.op<=10)\/i.op=38\/i.op=39 then((-1,0),a)
 else if 11<=i.op/\i.op<=15 then bU a i
 else if 16<=i.op/\i.op<=18 then cB a i
 else if 50<=i.op/\i.op<=60 then bI a i
 else if i.op=40 then(((8+a.mode:Nat),0),a)
 else if i.op=41 then((3,a.V3),a)
 else if(61<=i.op/\i.op<=66)/\fg a i=true then((-1,0),dS a i)
 else if(67<=i.op/\i.op<=70)/\iw a i.op=true then((-1,0),fT a i.op)
 else((2,b),a)
def Ff (b d a)(f:af a)(i:ak)(g:aU i)(c:Nat)(e)(h:Hid (E e b d a)):
 an 134 #[I b,ag i,j c] (aS (bh a i c).1.1 (bh a i c).1.2) [b,d] b d ((bh a i c).2) e:=by
 unfold bh;by_cases m:bv i.op=true
 . rw[B m];exact agL b d a f i g c m e h
 rw[z m];by_cases p:(5<=i.op/\i.op<=10)\/i.op=38\/i.op=39
 . rw[B p];rcases p with k|k|k
   . exact agz b d a f i g c k e h
   . exact agE b d a f i g c k e h
   . exact agF b d a f i g c k e h
 rw[z p];by_cases q:11<=i.op/\i.op<=15
 . rw[B q];exact agG b d a f i g c q e h
 rw[z q];by_cases r:16<=i.op/\i.op<=18
 . rw[B r];exact agM b d a f i g c r e h
 rw[z r];by_cases s:50<=i.op/\i.op<=60
 . rw[B s];exact agy b d a f i g c s e h
 rw[z s];by_cases t:i.op=40
 . rw[B t];exact agD b d a f i g c t e h
 rw[z t];by_cases u:i.op=41
 . rw[B u];exact agC b d a f i g c u e h
 rw[z u];by_cases n:61<=i.op/\i.op<=66
 . cases l:fg a i
   . rw[z (by simp),z (by omega)];exact agA b d a f i g c n l e h
   . rw[B ⟨n,rfl⟩];exact agB b d a f i g c n l e h
 rw[z (fun k=>n k.1)];by_cases o:67<=i.op/\i.op<=70
 . cases l:iw a i.op
   . rw[z (by simp)];exact agJ b d a f i g c o l e h
   . rw[B ⟨o,rfl⟩];exact agK b d a f i g c o l e h
 rw[z (fun k=>o k.1)];by_cases v:i.op<=0
 . exact agH b d a f i g c v e h
 . refine agI b d a f i g c ?_ e h;have w:¬((1<=i.op/\i.op<=4)\/(19<=i.op/\i.op<=37)\/(42<=i.op/\i.op<=49)):=fun k=>m (by unfold bv;exact bd k);omega
section
attribute [local go_sem ↓] Go.wp_at_zero Go.wp_at_succ
def E.Yq {d:D}{a c:Nat}{b:N}{p:Nat}(e:E d a c b):E (d.setCell ⟨a,33,none⟩ (j p)) a c {b with V3:=p}:=e.set 33 _ rfl rfl (by omega)
def E.other {e:D}{b c:Nat}{d:N}(a i:Nat)(j:Value)(f:E e b c d)(g:b≠a)(h:c≠a):E (e.setCell ⟨a,i,none⟩ j) b c d:=f.more (G:=[a]) ((Kept.refl _ _).setCell (.inl (by simp)) _) (by simp;exact g) (by simp;exact h)
def sw {c:P}(f:aT c)(a:Q)(b:Nat):aT (bs c a b).2:=by
 have d:=nK f a b;have e:=nK d a ((b+2)%4294967296);unfold bs;repeat' split
 all_goals first|exact e|exact d
def ag5 (g k a)(C:af a)(f:(bs a.b (S a) a.V3).1.f=0)(hd:(aP (bs a.b (S a) a.V3).1.w).2=0)(i:ak)(o:i=eY (aP (bs a.b (S a) a.V3).1.w).1)(s:Int)(Y:Nat)(aa:N)(u:bh (a.V7 (bs a.b (S a) a.V3).2) i (bs a.b (S a) a.V3).1.w=((s,Y),aa))(ah:¬s=-1)(d)(c:Hid (E d g k a)):
 an 82 #[I g] (.tuple #[ag ⟨0,0,0,0,0,0⟩,aS s Y]) [g,k] g k aa d:=by
 have ax:=c.out.lt;have ay:=c.out.Ww;have aw:¬g=d.heap.size:=J;have ap:Hid (E ((d.alloc (.cells #[j 0,j 0,j 0,j 0,j 0,j 0] 53)).alloc (.cells #[j 0,j 0] 118)) g k a):=cD;have n:=l (fun W t=>tG g k a C W t);have D:=sw C.b (S a) a.V3;obtain⟨⟨r,K⟩,ad⟩:∃r,r=bs a.b (S a) a.V3:=⟨_,rfl⟩;simp only[<-ad]at n f hd o u D|-;try dsimp only at n f hd o u D|-
 have ab:hb r=.tuple #[j r.w,.agg #[j (-1),j 0]]:=y8;simp only[ab]at n;obtain⟨Z,aj⟩:=y (r.w);simp only[<-aj]at n hd o u|-;have P:=nB (Z:Int) hd;have L:=l (fun W=>pZ (Z:Int) W);simp only[hd,P.2,<-o]at L;have M:aU i:=by rw[o];exact P.1
 have O:=N.okB C D;have A:=l (fun W t=>Ft g k (a.V7 K) O i M W t);have q:=l (fun W t=>Ff g k (a.V7 K) O i M Z W t);simp only[u]at q;obtain⟨am,ae⟩:=y (a.V7 K);simp only[<-ae]at n A q|-;obtain⟨p,ai⟩:=y (dv am i);simp only[<-ai]at A|-;have bp:(s==-1)=false:=by simp[ah]
 unfold ag at L A q|-;unfold aS at q|-;clear C ad ab aj f hd P o M O D u ai ae;obtain⟨T,U,V,X,Q,R⟩:=i;dsimp only at *;clear ah;go_enter func82,ntmps82;go_wp2_with fail;refine(n.out _ ap).mono ?_;rintro v w ⟨rfl,aq,b⟩;obtain⟨aV,aW,aX,aY,aZ,a0,a1,a6,a7,a2,a9,a3,ba,a4,bb,a5⟩:a8 w d.heap.size 0 0 0 0 0 0:=jC;obtain⟨bq,bv,bA,bU,bV,bE,bW,bF,bX,bG,bY,bH⟩:av w (d.heap.size+1) 0 0:=ih;go_wp2_with(go_at_call 83;refine(cd _ _ _).mono ?_;rintro v au ⟨rfl,rfl⟩);refine(L.out _).mono ?_;rintro v x ⟨rfl,ao⟩;have e:=Below.kept ao [];obtain⟨_,_,_,_,_,_,_,_,_,_,_,_,_,_,_,_⟩:a8 x d.heap.size 0 0 0 0 0 0:=zn;obtain⟨br,bw,bB,bZ,b0,bI,b1,bJ,b2,bK,b3,bL⟩:av x (d.heap.size+1) 0 0:=u8;obtain⟨bc,bd,be,bk,bl,bf,bm,bg,bn,bi,bo,bj⟩:av x w.heap.size (-1) 0:=zl;have al:=l (((aq.alloc _).alloc _ |>.kept e).alloc (.cells #[j T,j U,j V,j X,j Q,j R] 53));go_wp2_with fail;refine(A.out _ al).mono ?_;rintro v w3 ⟨rfl,h⟩;obtain⟨_,_,_,_,_,_,_,_,_,_,_,_,_,_,_,_⟩:a8 w3 d.heap.size 0 0 0 0 0 0:=HO;obtain⟨bt,bx,bC,b4,b5,bM,b6,bN,b7,bO,b8,bP⟩:av w3 (d.heap.size+1) 0 0:=u9;obtain⟨_,_,_,_,_,_,_,_,_,_,_,_⟩:av w3 w.heap.size (-1) 0:=u9;obtain⟨az,aA,aB,aC,aD,aE,aF,aM,aN,aG,aO,aH,aQ,aI,aT,aJ⟩:a8 w3 x.heap.size T U V X Q R:=HP;have ar:=l (al.out.kept h);go_wp2_with fail;refine(q.out _ ar).mono ?_;rintro v H ⟨rfl,z,G⟩;obtain⟨_,_,_,_,_,_,_,_,_,_,_,_,_,_,_,_⟩:a8 H d.heap.size 0 0 0 0 0 0:=va;obtain⟨bu,bz,bD,b9,ca,bQ,cb,bR,cc,bS,cf,bT⟩:av H (d.heap.size+1) 0 0:=rS;obtain⟨_,_,_,_,_,_,_,_,_,_,_,_⟩:av H w.heap.size (-1) 0:=rS;obtain⟨_,_,_,_,_,_,_,_,_,_,_,_,_,_,_,_⟩:a8 H x.heap.size T U V X Q R:=va;go_upto_region 10 with(go_at_call 83;refine(cd _ _ _).mono ?_;rintro v au ⟨rfl,rfl⟩);go_region;all_goals
  go_wp2_with fail;refine ac (v:=.tuple #[.agg #[j 0,j 0,j 0,j 0,j 0,j 0],.agg #[j s,j Y]]) uE rfl ⟨rfl,?_,?_⟩
  . exact KO
  . exact Ah
def ag7 (i k a)(C:af a)(f:(bs a.b (S a) a.V3).1.f=0)(hd:(aP (bs a.b (S a) a.V3).1.w).2=0)(g:ak)(o:g=eY (aP (bs a.b (S a) a.V3).1.w).1)(s:Int)(Y:Nat)(aa:N)(u:bh (a.V7 (bs a.b (S a) a.V3).2) g (bs a.b (S a) a.V3).1.w=((s,Y),aa))(ah:s=-1)(d)(c:Hid (E d i k a)):
 an 82 #[I i] (.tuple #[ag g,aS s Y]) [i,k] i k ({aa with V3:=dv (a.V7 (bs a.b (S a) a.V3).2) g}) d:=by
 have aA:=c.out.lt;have aB:=c.out.Ww;have aw:¬i=d.heap.size:=J;have ap:Hid (E ((d.alloc (.cells #[j 0,j 0,j 0,j 0,j 0,j 0] 53)).alloc (.cells #[j 0,j 0] 118)) i k a):=cD;have n:=l (fun W t=>tG i k a C W t);have D:=sw C.b (S a) a.V3;obtain⟨⟨r,R⟩,ad⟩:∃r,r=bs a.b (S a) a.V3:=⟨_,rfl⟩;simp only[<-ad]at n f hd o u D|-;try dsimp only at n f hd o u D|-
 have ab:hb r=.tuple #[j r.w,.agg #[j (-1),j 0]]:=y8;simp only[ab]at n;obtain⟨Z,aj⟩:=y (r.w);simp only[<-aj]at n hd o u|-;have X:=nB (Z:Int) hd;have T:=l (fun W=>pZ (Z:Int) W);simp only[hd,X.2,<-o]at T;have U:aU g:=by rw[o];exact X.1
 have V:=N.okB C D;have A:=l (fun W t=>Ft i k (a.V7 R) V g U W t);have q:=l (fun W t=>Ff i k (a.V7 R) V g U Z W t);simp only[u]at q;obtain⟨am,ae⟩:=y (a.V7 R);simp only[<-ae]at n A q|-;obtain⟨p,ai⟩:=y (dv am g);simp only[<-ai]at A|-;have bt:(s==-1)=true:=by simp[ah]
 unfold ag at T A q|-;unfold aS at q|-;clear C ad ab aj f hd X o U V D u ai ae;obtain⟨L,M,O,P,H,K⟩:=g;dsimp only at *;clear ah;go_enter func82,ntmps82;go_wp2_with fail;refine(n.out _ ap).mono ?_;rintro v w ⟨rfl,aq,b⟩;obtain⟨aY,aZ,a0,a1,a2,a3,a4,ba,bb,a5,bc,a6,bd,a7,be,a9⟩:a8 w d.heap.size 0 0 0 0 0 0:=jC;obtain⟨bu,bz,bD,bX,bY,bH,bZ,bI,b0,bJ,b1,bK⟩:av w (d.heap.size+1) 0 0:=ih;go_wp2_with(go_at_call 83;refine(cd _ _ _).mono ?_;rintro v au ⟨rfl,rfl⟩);refine(T.out _).mono ?_;rintro v x ⟨rfl,ao⟩;have e:=Below.kept ao [];obtain⟨_,_,_,_,_,_,_,_,_,_,_,_,_,_,_,_⟩:a8 x d.heap.size 0 0 0 0 0 0:=zn;obtain⟨bv,bA,bE,b2,b3,bL,b4,bM,b5,bN,b6,bO⟩:av x (d.heap.size+1) 0 0:=u8;obtain⟨bf,bg,bi,bn,bo,bj,bp,bk,bq,bl,br,bm⟩:av x w.heap.size (-1) 0:=zl;have al:=l (((aq.alloc _).alloc _ |>.kept e).alloc (.cells #[j L,j M,j O,j P,j H,j K] 53));go_wp2_with fail;refine(A.out _ al).mono ?_;rintro v w3 ⟨rfl,h⟩;obtain⟨_,_,_,_,_,_,_,_,_,_,_,_,_,_,_,_⟩:a8 w3 d.heap.size 0 0 0 0 0 0:=HO;obtain⟨bw,bB,bF,b7,b8,bP,b9,bQ,ca,bR,cb,bS⟩:av w3 (d.heap.size+1) 0 0:=u9;obtain⟨_,_,_,_,_,_,_,_,_,_,_,_⟩:av w3 w.heap.size (-1) 0:=u9;obtain⟨aC,aD,aE,aF,aG,aH,aI,aQ,aT,aJ,aV,aM,aW,aN,aX,aO⟩:a8 w3 x.heap.size L M O P H K:=HP;have ar:=l (al.out.kept h);go_wp2_with fail;refine(q.out _ ar).mono ?_;rintro v Q ⟨rfl,z,G⟩;obtain⟨_,_,_,_,_,_,_,_,_,_,_,_,_,_,_,_⟩:a8 Q d.heap.size 0 0 0 0 0 0:=va;obtain⟨bx,bC,bG,cc,cf,bT,cg,bU,ch,bV,cj,bW⟩:av Q (d.heap.size+1) 0 0:=rS;obtain⟨_,_,_,_,_,_,_,_,_,_,_,_⟩:av Q w.heap.size (-1) 0:=rS;obtain⟨_,_,_,_,_,_,_,_,_,_,_,_,_,_,_,_⟩:a8 Q x.heap.size L M O P H K:=va;have ax:=z.Xk;have ay:=z.Wb;have az:=z.lt;go_upto_region 12 with(go_at_call 83;refine(cd _ _ _).mono ?_;rintro v au ⟨rfl,rfl⟩);go_region;all_goals
  go_wp2_with fail;refine ac (v:=.tuple #[.agg #[j L,j M,j O,j P,j H,j K],.agg #[j s,j Y]]) uE rfl ⟨rfl,?_,?_⟩
  . exact KO
  . exact Ah
end
def w1 :ak:=⟨0,0,0,0,0,0⟩
def mj (b:N)(a:ak)(c:Nat):(ak× (Int×Nat))×N:=
 if(bh b a c).1.1=-1 then((a,(bh b a c).1),{(bh b a c).2 with V3:=dv b a})else((w1,(bh b a c).1),(bh b a c).2)
def a9 (a:N):(ak× (Int×Nat))×N:=
 if(bs a.b (S a) a.V3).1.f=0 then
  (if(aP (bs a.b (S a) a.V3).1.w).2=0 then mj (a.V7 (bs a.b (S a) a.V3).2) (eY (aP (bs a.b (S a) a.V3).1.w).1) (bs a.b (S a) a.V3).1.w
   else((w1,(2,(bs a.b (S a) a.V3).1.w)),a.V7 (bs a.b (S a) a.V3).2))
 else((w1,(a7 (bs a.b (S a) a.V3).1.f 0,(bs a.b (S a) a.V3).1.Yn)),a.V7 (bs a.b (S a) a.V3).2)
def tI (b c a)(f:af a)(e)(h:Hid (E e b c a)):
 an 82 #[I b] (.tuple #[ag (a9 a).1.1,aS (a9 a).1.2.1 (a9 a).1.2.2]) [b,c] b c ((a9 a).2) e:=by
 unfold a9;by_cases d:(bs a.b (S a) a.V3).1.f=0
 . rw[B d];by_cases hd:(aP (bs a.b (S a) a.V3).1.w).2=0
   . rw[B hd];unfold mj;by_cases g:(bh (a.V7 (bs a.b (S a) a.V3).2) (eY (aP (bs a.b (S a) a.V3).1.w).1) (bs a.b (S a) a.V3).1.w).1.1=-1
     . rw[B g];exact ag7 b c a f d hd _ rfl _ _ _ rfl g e h
     . rw[z g];exact ag5 b c a f d hd _ rfl _ _ _ rfl g e h
   . rw[z hd];exact ag6 b c a f d hd e h
 . rw[z d];exact ag4 b c a f d e h
structure aj (a:N):Prop where
 ok:af a
 Zi:a.x.getD 0 0=0
 Wo:a.c.Wo&&&546=a.c.Wo
 Xx:a.c.V5&&&8264106=a.c.V5
 Wd:a.c.Wd&&&2730=a.c.Wd
 Zj:a.c.WG&&&46079=a.c.WG
 YW:a.c.V9&&&546=a.c.V9
 Zk:a.c.W8&&&5=a.c.W8
 X8:a.V3%2=0
 YG:a.c.Wm%2=0
 sep:a.c.Wu%2=0
 Zl:a.c.Wz.testBit 1=false
 Zm:a.c.WH.testBit 1=false
 XV:a.mode≠3->a.c.V5.testBit 17=false
theorem C.Zn :∀(b:List L) (e:Nat),b.contains 97=false->C.sum b e%2=0/\∀f,C.high b=f->f%2=0\/f=0
 |[],e,_=>⟨rfl,fun f a=>.inr a.symm⟩
 |c::b,e,a=>by
  rw[List.contains_cons,Bool.or_eq_false_iff]at a
  have k:=C.Zn b (e/2) a.2
  have o:c≠97:=by intro g;rw[g]at a;exact absurd a.1 (by decide)
  unfold C.sum C.high
  cases i:C.isLet c
  . exact⟨by rw[bi];omega,k.2⟩
  . have p:98<=c.toNat:=by
     unfold C.isLet at i;simp at i;have:c.toNat≠97:=fun g=>o (oy.1 g);omega
    obtain⟨d,n⟩:∃d,c.toNat-97=d+1:=⟨c.toNat-98,by omega⟩;rw[cv,cv,n,gd];obtain⟨q,m⟩:=y (e%2*2^d);refine⟨by rw[<-hA,<-m];omega,fun f j=>.inl ?_⟩;rcases Nat.le_total (2^d*2) (C.high b)with h|h
    . rw[q0 h]at j;rcases k.2 _ rfl with l|l
      . omega
      . have:=lp d;omega
    . rw[q1 h]at j;omega
def qm (a:Int×K×Int):Bool:=!(decide (a.1=3) ||(decide (5<=a.1)&&decide (a.1<=10))) ||!(C.ah a.2.1.data.toList a.2.1.size).contains 97
def SR :((List.range 71).all fun a=>a==0 ||qm (ae.longRow a))=true:=by decide+kernel
def Vu :((List.range 27).all fun a=>a==0 ||qm (ae.aZ a))=true:=by decide+kernel
def vQ (i:U):Prop:=i.op=3\/(5<=i.op/\i.op<=10)->i.V2%2=0
def UZ (a:Int×K×Int)(b:qm a=true)(W:Nat):vQ (bK a W):=by
 intro e;have f:a.1=3\/(5<=a.1/\a.1<=10):=e;unfold qm at b;have c:(C.ah a.2.1.data.toList a.2.1.size).contains 97=false:=by
  cases d:(C.ah a.2.1.data.toList a.2.1.size).contains 97
  . rfl
  . rw[d]at b;simp at b;omega
 have g:=C.Zn _ W c;show da a.2.1 (hasB a.2.2 1) W%2=0;exact akk
def PZ (a:Int)(b:(aP a).2=0):vQ (aP a).1:=wh vQ qm SR Vu UZ (fun _ _ _=>rfl) a b
def xZ (b:Nat)(a:Nat)(c:a.testBit 0=true):aI b a%2=0:=by
 have:=et b a 0;rw[c,Nat.testBit_zero]at this;simp at this;omega
def qC :Nat.testBit 131072 17=true/\Nat.testBit 131328 17=true/\Nat.testBit 8 17=false/\Nat.testBit 128 17=false/\Nat.testBit 32 17=false/\Nat.testBit 256 17=false/\Nat.testBit 2 17=false/\Nat.testBit 786722 17=false/\Nat.testBit 2 1=true:=by decide
def E2 (a:Nat):(aI a 2).testBit 1=false:=by rw[et];simp[qC]
theorem aj.V7 {a:N}(b:aj a){B:P}(c:aT B):aj (a.V7 B):={b with ok:=N.okB b.ok c}
def aj.Xn {X:N}(a:aj X)(d c:Nat)(h:G c):aj (a6 X d c):=by
 have g:=N.Yp a.ok d c h;have f:(a6 X d c).x.getD 0 0=0:=by
  unfold a6;split
  . exact a.Zi
  . next hd=>
    have:=a.Zi;dsimp only;rw[q7,yt (by omega),<-q7];exact this
 have b:(a6 X d c).c=X.c:=lM;have e:(a6 X d c).V3=X.V3/\(a6 X d c).mode=X.mode:=by unfold a6;split<;>exact⟨rfl,rfl⟩
 exact⟨g,f,by rw[b];exact a.Wo,by rw[b];exact a.Xx,by rw[b];exact a.Wd,by rw[b];exact a.Zj,by rw[b];exact a.YW,by rw[b];exact a.Zk,by rw[e.1];exact a.X8,by rw[b];exact a.YG,by rw[b];exact a.sep,by rw[b];exact a.Zl,by rw[b];exact a.Zm,by rw[b,e.2];exact a.XV⟩
def aj.XW {X:N}(a:aj X):aj (hr X):={a with ok:={a.ok with WU:=by show 0<_;decide}}
theorem aj.o {a:N}(b:aj a){r:List L}(c:r.length=a.b.o.length):aj (bZ a r):={b with ok:={b.ok with b:=tf b.ok.b c}}
def aj.Zo {a:N}(b:aj a){p:Nat}(d:G p)(c:p%2=0):aj {a with V3:=p}:={b with ok:={b.ok with V3:=d},X8:=c}
def aj.ite {p:Prop}[Decidable p]{a b:N}(c:aj a)(d:aj b):aj (if p then a else b):=by split<;>assumption
def aak {a b c:Nat}(d:a&&&b=a)(e:b&&&c=b):a&&&c=a:=by rw[<-d,yw,e]
def qQ (a c:Nat)(b:G a):aI a c<4294967296:=bL (h0 _ _) b
def Bk (a:Nat):a&&&7<8:=bL iQ (by decide)
def aan {b:N}(a:aj b)(i:Int)(c:Nat)(d:G c):aj (eZ b i c):=by
 have h:b.c.V9&&&2&&&546=b.c.V9&&&2:=j3 _ R;have hd:b.c.V9&&&2730=b.c.V9:=aak a.YW R;have e:=qv (k:=786722) c a.Xx R;have f:=qv (k:=b.c.V9) c a.Wd hd;have g:=qv (k:=b.c.V9&&&2) c a.Wo h;unfold eZ;refine aj.ite ?_ ?_
 . exact{a with ok:={a.ok with V5:=bL (sub_le e) R,Wl:=Tf _ _ a.ok.Wl},Xx:=e,XV:=fun j=>by show(aI b.c.V5 786722 |||c&&&786722).testBit 17=false;rw[fF,et,dd,a.XV j];simp[qC]}
 refine aj.ite ?_ ?_
 . exact{a with ok:={a.ok with Wd:=bL (sub_le f) R},Wd:=f}
 refine aj.ite ?_ ?_
 . exact{a with ok:={a.ok with WH:=qQ _ _ d},Zm:=E2 _}
 refine aj.ite ?_ ?_
 . exact{a with ok:={a.ok with WA:=Bk c}}
 refine aj.ite ?_ ?_
 . exact{a with ok:={a.ok with WR:=d}}
 refine aj.ite ?_ ?_
 . exact{a with ok:={a.ok with Wu:=qQ _ _ d},sep:=xZ _ 1 R}
 refine aj.ite ?_ ?_
 . exact{a with ok:={a.ok with WD:=d}}
 refine aj.ite ?_ ?_
 . exact{a with ok:={a.ok with WI:=d}}
 refine aj.ite ?_ ?_
 . exact{a with ok:={a.ok with Wo:=sub_le g},Wo:=g}
 refine aj.ite ?_ ?_
 . exact{a with ok:={a.ok with Wf:=d}}
 exact a
def v7 (c a:Nat)(b:G a):c&&&a<4294967296:=bL iQ b
def S7 {d:N}(a:aj d)(f:d.mode=3)(g:Int)(c:Nat)(b:G c):aj (eu d g c):=by
 have e:=aaj c a.Xx;unfold eu;refine aj.ite ?_ ?_
 . exact{a with ok:={a.ok with V5:=bL (sub_le e) R,Wl:=aai _ _ a.ok.Wl},Xx:=e,XV:=fun h=>absurd f h}
 refine aj.ite ?_ ?_
 . exact{a with ok:={a.ok with WG:=v7 _ _ R},Zj:=j3 _ R}
 refine aj.ite ?_ ?_
 . exact{a with ok:={a.ok with V9:=v7 _ _ R},YW:=j3 _ R}
 refine aj.ite ?_ ?_
 . exact{a with ok:={a.ok with Wd:=v7 _ _ R},Wd:=j3 _ R}
 refine aj.ite ?_ ?_
 . exact{a with ok:={a.ok with Wz:=qQ _ _ b},Zl:=E2 _}
 refine aj.ite ?_ ?_
 . exact{a with ok:={a.ok with Wp:=Bk c}}
 refine aj.ite ?_ ?_
 . exact{a with ok:={a.ok with W8:=bL (iQ (n:=c) (m:=5)) R},Zk:=j3 _ R}
 refine aj.ite ?_ ?_
 . exact{a with ok:={a.ok with WK:=b}}
 refine aj.ite ?_ ?_
 . exact{a with ok:={a.ok with Wm:=qQ _ _ b},YG:=xZ _ 1 R}
 refine aj.ite ?_ ?_
 . exact{a with ok:={a.ok with Wx:=b}}
 refine aj.ite ?_ ?_
 . exact{a with ok:={a.ok with WB:=b}}
 refine aj.ite ?_ ?_
 . exact{a with ok:={a.ok with Wo:=iQ},Wo:=j3 _ R}
 exact a
def PL {c:N}(a:aj c)(e:Int)(d:Nat)(b:G d):aj (hs c e d):=by
 unfold hs;refine aj.ite ?_ ?_
 . exact{a with ok:={a.ok with Wy:=b}}
 refine aj.ite ?_ ?_
 . exact{a with ok:={a.ok with WN:=b}}
 refine aj.ite ?_ ?_
 . exact{a with ok:={a.ok with ret:=b}}
 refine aj.ite ?_ ?_
 . exact{a with ok:={a.ok with We:=b}}
 exact a
def afm {c:N}(d:aj c)(a:Int)(f:768<=a/\a<=1023->c.mode=3)(b:Nat)(e:G b):aj (bT c a b):=by
 unfold bT;refine aj.ite ?_ ?_
 . exact aan d a b e
 split
 . next g=>exact S7 d (f g) a b e
 exact PL d a b e
def Tb {a:N}(d:aj a){i:ak}(b:fg a i=true)(f:768<=i.V2/\i.V2<=1023):a.mode=3:=by
 unfold fg sN at b;have hd:¬a.mode<i.V2.toNat/256%4:=by
  intro c;rw[bd c]at b;cases e:(aA a i.V2).2<;>rw[e]at b<;>simp at b
 have:=d.ok.mode;omega
def PF {a:N}(b:aj a)(i:ak)(e:aU i)(g:fg a i=true):aj (dS a i):=by
 have d:=k0 a b.ok i.V2;have f:G (di a i):=by
  unfold di;split
  . exact b.ok.WE _
  . have:=e.V1;omega
 have c:=b.Xn i.rd _ d;have j:=b.ok.Wo;unfold dS;split
 . refine afm c _ (fun h=>?_) _ (pX _ _ _ ?_ f)
   . have:=Tb b g h;unfold a6;split<;>exact this
   split
   . omega
   . exact d
 . exact c
def Tg (a:Nat)(b:a&&&6144=6144):a/2048%4=3:=by rw[<-v5,b]
def Th (a:Nat)(b:¬a&&&6144=6144):(h2 a).testBit 17=false:=by
 unfold h2 gM;rw[z b,fF,et];unfold e1;cases decide (aI a 131072&&&128=0)<;>simp[et,qC]
def VE (a:Nat):(hv a).testBit 17=false:=by
 unfold hv;rw[fF,et];simp[qC]
def aad (a b:Nat)(c:a.testBit 17=false):(h3 a b).testBit 17=false:=by
 unfold h3 e1;cases decide (a&&&2=0)<;>cases decide (b=1)<;>simp[et,c,qC]
def B2 (a b:Nat):gb a b%2=0:=by
 have:=xZ a 3 R;unfold gb;split<;>omega
def T9 {a:N}(b:aj a)(f:Int):aj (fT a f):=by
 have c:=Tk b.Xx;have d:=VH b.Xx;have h:=b.ok.Wl;unfold fT;split
 . refine aj.XW (X:={a with mode:=a.c.V5/2048%4,c:={a.c with V5:=h2 a.c.V5}}) ?_;exact{b with ok:={b.ok with mode:=(by show a.c.V5/2048%4=0\/a.c.V5/2048%4=1\/a.c.V5/2048%4=3;omega),V5:=bL (sub_le c) R,Wl:=Ti _},Xx:=c,XV:=fun g=>Th _ (by intro e;exact g (by show a.c.V5/2048%4=3;exact Tg _ e))}
 split
 . refine aj.XW (X:={a with mode:=a.c.V5/256%2,c:={a.c with V5:=hv a.c.V5}}) ?_;exact{b with ok:={b.ok with mode:=(by show a.c.V5/256%2=0\/a.c.V5/256%2=1\/a.c.V5/256%2=3;omega),V5:=bL (sub_le d) R,Wl:=VF _ b.ok.Wl},Xx:=d,XV:=fun _=>VE _}
 split
 . exact{b with ok:={b.ok with}}
 exact b
def B3 (a b:Nat)(c:G a):gb a b<4294967296:=by
 unfold gb;split
 . exact Au
 . exact qQ _ _ c
def Ep {b:N}(a:aj b)(g:b.mode≠3)(c e:Nat)(f:G c)(h:G e):aj (iL b c e):=by
 have d:=aaf b.mode a.Xx;exact{a with ok:={a.ok with mode:=.inr (.inl rfl),V3:=B3 _ _ a.ok.WH,Wu:=a.ok.V3,WD:=f,WI:=h,V5:=bL (sub_le d) R,Wl:=aae _ _ a.ok.Wl},Xx:=d,X8:=B2 _ _,sep:=a.X8,XV:=fun _=>aad _ _ (a.XV g)}
def Ej {b:N}(a:aj b)(c e:Nat)(f:G c)(g:G e):aj (iK b c e):=by
 have d:=Tp b.mode a.Xx;exact{a with ok:={a.ok with mode:=.inr (.inr rfl),V3:=B3 _ _ a.ok.Wz,Wm:=a.ok.V3,Wx:=f,WB:=g,V5:=bL (sub_le d) R,Wl:=To _ _ a.ok.mode},Xx:=d,X8:=B2 _ _,YG:=a.X8,XV:=fun h=>absurd rfl h}
def BL {b:N}{d c:Nat}(a:gv b d c=true):b.mode≠3:=by
 unfold gv at a;simp at a;exact a.1
def aaK {a:N}(c:aj a)(b:Nat)(e:b<32):aj (iJ a b):=by
 unfold iJ;split
 . next d=>exact Ep c (BL d) _ _ m R
 . exact Ej c _ _ m R
def aay {a:N}(c:aj a)(b e:Nat)(g:b<32)(d:G e):aj (iH a b e):=by
 unfold iH;split
 . next f=>exact Ep c (BL f) _ _ m d
 . exact Ej c _ _ m d
def PI {d:N}(a:aj d)(r:Bool)(h:Nat):aj (l9 d r h):=by
 have e (b c:Nat):eH b c<4294967296:=gc _ R;have f (b g c:Nat):eG b g c<4294967296:=gc _ R;unfold l9 fM;exact{a with ok:={a.ok with Wy:=(by dsimp only;split;exact e _ _;exact a.ok.Wy),WN:=(by dsimp only;split;exact f _ _ _;exact a.ok.WN),ret:=(by dsimp only;split;exact e _ _;exact a.ok.ret),We:=(by dsimp only;split;exact f _ _ _;exact a.ok.We)}}
def TG {a:N}(b:aj a)(i:ak):dv a i<4294967296:=by
 unfold dv;split
 . exact word_lt _
 split
 . exact bL (Nat.sub_le _ _) (word_lt _)
 split
 . exact b.ok.Wm
 split
 . exact b.ok.Wu
 exact Au
def TF {b:N}(a:aj b)(i:ak)(d:aU i)(c:i.op=3\/(5<=i.op/\i.op<=10)->i.V2%2=0):dv b i%2=0:=by
 have e:=a.X8;have f:=d.V4;unfold dv;split
 . next g=>
   have:=c m;unfold am;omega
 split
 . omega
 split
 . exact a.YG
 split
 . exact a.sep
 unfold de;omega
def U6 {b:N}(a:aj b)(i:ak):dp b i<4294967296:=by
 unfold dp;split
 . exact word_lt _
 split
 . exact word_lt _
 split
 . exact Au
 split
 . exact sj _ _ _ (a.ok.WE _) (word_lt _)
 . exact sj _ _ _ (a.ok.WE _) (a.ok.WE _)
def kL (a b:Int):0<=a7 a b/\a7 a b<16:=by
 unfold a7;repeat' split
 all_goals omega
def SA {a:N}(b:aj a)(i:ak):aj (bU a i).2/\(bU a i).1.2<4294967296/\ -1<=(bU a i).1.1/\(bU a i).1.1<16:=by
 have k:G (aw a i):=word_lt _;have h:=ix i.op;have c:=hl b.ok.b (S a) (aw a i) (au i.op) 1;have d:=hm a.b (S a) (aw a i) (au i.op) 1 k h.1;unfold bU;generalize a2 a.b (S a) (aw a i) (au i.op) 1=e at c d;unfold jd;split
 . next g=>
   refine⟨(b.V7 (SJ c _)).Xn _ _ ?_,co,co,co⟩;have f:=wX c e.1 (d.WO g);rw[d.sum g]at f;have j:256^au i.op<=256^4:=cY R h.2;unfold fs;split
   . exact word_lt _
   . exact aR f j
 . have:=kL e.1.fault 1;exact Lo
def VK {a:N}(b:aj a)(i:ak):aj (cB a i).2/\(cB a i).1.2<4294967296/\ -1<=(cB a i).1.1/\(cB a i).1.1<16:=by
 have g:G (aw a i):=word_lt _;have f:=ix i.op;have c:=hl b.ok.b (S a) (aw a i) (au i.op) 2;have d:=hm a.b (S a) (aw a i) (au i.op) 2 g f.1;unfold cB;generalize a2 a.b (S a) (aw a i) (au i.op) 2=e at c d;unfold la;split
 . next h=>exact⟨b.V7 (VY c _ _ (b.ok.WE _)),co,co,co⟩
 . have:=kL e.1.fault 2;exact Lo
def Pl {a:N}(b:aj a)(i:ak)(c:Nat)(h:c<17184063488):aj (g7 a i c):=by
 have e:=C8 a.b (c-2147483648);unfold g7;split
 . have d:=b.Xn i.rd _ e;exact{d with ok:={d.ok with WU:=h}}
 split
 . unfold hU;refine aj.XW (aj.Xn ?_ _ _ ?_)
   . cases hT a c
     . exact b.o (mB _ _ _ _)
     . exact b
   . have g:∀f:Bool,f.toNat<4294967296:=cM;exact g _
 . exact(b.o (mB _ _ _ _)).Xn _ _ e
def Pm {a:N}(b:aj a)(i:ak):aj (bI a i).2/\(bI a i).1.2<4294967296/\ -1<=(bI a i).1.1/\(bI a i).1.1<16:=by
 have d:=b.ok.WE i.V1;have c:=xX b.ok.b (S a) (a.x.getD i.V1 0) (aJ i.op);have e:=EW a.b (S a) (a.x.getD i.V1 0) (aJ i.op) d;unfold bI;generalize cV a.b (S a) (a.x.getD i.V1 0) (aJ i.op)=f at c e;split
 . unfold i8;split
   . exact⟨Pl (b.V7 c) i _ e.1,co,co,co⟩
   . have:=kL f.1.2 (aJ i.op);exact⟨b.V7 c,d,by dsimp only;omega,by dsimp only;omega⟩
 . exact⟨b,d,by dsimp only;unfold h1;split<;>decide,by dsimp only;unfold h1;split<;>decide⟩
def PN {b:N}(a:aj b)(i:ak)(d:aU i)(c:Nat)(e:G c):aj (bh b i c).2/\(bh b i c).1.2<4294967296/\ -1<=(bh b i c).1.1/\(bh b i c).1.1<16:=by
 unfold bh;split
 . exact⟨a.Xn _ _ (U6 a i),co,co,co⟩
 split
 . exact⟨a,co,co,co⟩
 split
 . exact SA a i
 split
 . exact VK a i
 split
 . exact Pm a i
 split
 . have:=a.ok.mode;exact⟨a,co,by dsimp only;omega,by dsimp only;omega⟩
 split
 . exact⟨a,a.ok.V3,co,co⟩
 split
 . next f=>exact⟨PF a i d f.2,co,co,co⟩
 split
 . exact⟨T9 a _,co,co,co⟩
 exact⟨a,e,co,co⟩
def mk {a:N}(b:aj a):aj (a9 a).2/\(a9 a).1.2.2<4294967296/\ -1<=(a9 a).1.2.1/\(a9 a).1.2.1<16:=by
 have c:=sw b.ok.b (S a) a.V3;have d:=QE a.b (S a) a.V3 b.ok.V3;unfold a9;generalize bs a.b (S a) a.V3=e at c d;split
 . split
   . next hd=>
     have g:=(nB (e.1.w:Int) hd).1;have f:=PN (b.V7 c) _ g e.1.w d.1;unfold mj;split
     . exact⟨f.1.Zo (TG (b.V7 c) _) (TF (b.V7 c) _ g (PZ _ hd)),f.2⟩
     . exact f
   . exact⟨b.V7 c,d.1,co,co⟩
 . have:=kL e.1.f 0;exact⟨b.V7 c,d.2.1,by dsimp only;omega,by dsimp only;omega⟩
def s2 (W:Nat)(k:W<=9223372036854775807)(b:Int)(n:0<=b)(q:b<=255)(h:D):
 Calls prog 217 #[j W,j b] h fun m l=>(∃d:Nat,m=.returned (j d)/\d<=1/\Hid (d=W/2^b.toNat%2))/\l=h:=by
 obtain⟨a,rfl⟩:=h6 n;rw[ds];go_enter func217,ntmps217;go_wp2;go_loop [0,1] (fun o f=>∃g e:Nat,e<=a/\g<=9223372036854775807/\o=j g/\f=j e/\Hid (g/2^e=W/2^a)) (fun _ f=>(intOf f).toNat);case atStart=>exact KX
 case round=>
  exact KW
def wd {W a:Nat}{b:Nat}(c:Hid (a=W/2^b%2)):((W:Int)/2^b)%2=(a:Int):=by
 rw[c.out];push_cast;rfl
def wA (b:Int)(a:Nat):b/2^a/2=b/2^(a+1):=by
 rw[Int.pow_succ];exact yl (Int.pow_nonneg R)
def RL (b:Int)(g:-1099511627776<=b)(a c:Nat)(h:a<=39)(f:Hid (c=(b+1099511627776).toNat/2^a%2)):b/2^a%2=(c:Int):=by
 have d:(((b+1099511627776).toNat/2^a%2:Nat):Int)=(b+1099511627776)/2^a%2:=by
  rw[Int.natCast_emod,Int.natCast_ediv,oG (by omega)];push_cast;rfl
 rw[f.out,d];have e:(1099511627776:Int)=2^a* (2*2^(39-a)):=by
  have:(2:Int)^a* (2*2^(39-a))=2^(a+1+(39-a)):=by rw[Int.pow_add,Int.pow_succ,mN]
  rw[this,show a+1+(39-a)=40 by omega];decide
 rw[e,Int.add_mul_ediv_left _ _ (by have:(0:Int)<2^a:=Int.pow_pos (by decide);omega)];omega
theorem Um (a:K)(aa:a.size<=32)(ag:∀ay∈a.data.toList,ay.toNat<=122)(av au:Int)(o q r:Nat)(aF:o<=9223372036854775807)(az:q<=9223372036854775807)(aA:r<=9223372036854775807)(d:Int)(ar:-1099511627776<=d)(aK:d<=1099511627776)(Z:D):
 Calls prog 146 #[.string a,.agg #[j av,j o,j q,j r,j d,j au]] Z fun t A=>
  t=.returned (j (C.draw (C.ah a.data.toList a.size) o q r d))/\Below Z.heap.size Z A:=by
 have al:=cG ag;clear ag;obtain⟨x,V⟩:=y (C.draw (C.ah a.data.toList a.size) o q r d);have aC:G x:=by
  have ap:=C.kJ (C.ah a.data.toList a.size) o q r d;rw[C.jk _ _ (by simp),<-V]at ap;have aG:2^a.size<=2^32:=uR;have ab:(2:Nat)^32=4294967296:=cM;omega
 rw[<-V];have am:Hid (x=C.draw (C.ah a.data.toList a.size) o q r d):=V;clear V;go_enter func146,ntmps146;go_wp2;go_loop [5,6,7,8,9] (fun ao ab aw ax Y=>∃(B b h f g:Nat),B<=a.size/\Y=j ((B:Int)-1)/\ao=j b/\ab=j h/\aw=j f/\ax=j g/\h+B<=a.size/\f+B<=a.size/\g+B<=a.size/\
  Hid (b+2^(a.size-B)*C.draw (C.ah a.data.toList B) ((o:Int)/2^h) ((q:Int)/2^f) ((r:Int)/2^g) d=x)) (fun _ _ _ _ Y=>(intOf Y+1).toNat)
 case atStart=>exact⟨a.size,0,0,0,0,aB _,rfl,rfl,rfl,rfl,rfl,by omega,by omega,by omega,(by rw[tP];simp only[Int.pow_zero,Int.ediv_one];rw[<-am.out];omega:0+2^(a.size-a.size)*C.draw (C.ah a.data.toList a.size) ((o:Int)/2^0) ((q:Int)/2^0) ((r:Int)/2^0) d=x)⟩
 case round=>
  obtain⟨B,b,h,f,g,aI,rfl,rfl,rfl,rfl,rfl,aL,aM,aN,n⟩:=hrel;have aE:G b:=by have:=n.out;omega
  cases B with
  |zero=>
   have ai:=n.out;simp only[C.qq,C.draw,q2,dl]at ai;subst ai;go_wp2;go_ret;exact⟨rfl,(aq _ _).alloc (aB _) _⟩
  |succ i=>
   have t:((i+1:Nat):Int)-1=(i:Int):=J;rw[t];clear t;have af:i<a.size:=J;rw[iE a i af]at n;have aJ:a[i].toNat<=122:=al.out a[i] (by
    have:a[i]=a.data.toList[i]'(by simpa using af):=rfl;rw[this];exact gf _)
   have I:2^(a.size- (i+1))*2=2^(a.size-i):=by rw[<-gd];congr 1;omega
   have aj:=cG I;clear I;by_cases u:(a[i].toNat:Int)=49
   . skip;have e:=BO u n;have N:((a[i].toNat:Int)==49)=true:=rF;have P:((a[i].toNat:Int)==68)=false:=rF;have O:((a[i].toNat:Int)==66)=false:=rF;have Q:((a[i].toNat:Int)==83)=false:=rF;have S:((a[i].toNat:Int)==84)=false:=rF;have U:=cG u;clear u n;have ah:decide ((97:Int)<=(a[i].toNat:Int))=false:=u0;go_wp2_with fail;refine(mr _ m m _).mono ?_;rintro t A ⟨⟨p,rfl,W,I,c⟩,rfl⟩;have k:((a.size:Int)-1- (i:Int)).toNat=a.size- (i+1):=J;rw[k]at c;clear k;rw[<-c.out]at e;have L:b+p<4294967296:=rG;have l:Hid (b+p+2^(a.size-i)*C.draw (C.ah a.data.toList i) ((o:Int)/2^h) ((q:Int)/2^f) ((r:Int)/2^g) d=x):=rH;clear e c;exact Mh
   by_cases w:(a[i].toNat:Int)=68
   . skip;clear u;have E:=(hz w:(a[i].toNat:Int)=68\/(a[i].toNat:Int)=66);have N:((a[i].toNat:Int)==49)=false:=rI;have P:((a[i].toNat:Int)==68)=true:=rI;have O:((a[i].toNat:Int)==66)=false:=rI;have Q:((a[i].toNat:Int)==83)=false:=rI;have S:((a[i].toNat:Int)==84)=false:=rI;have U:=cG w;clear w;exact Mi
   by_cases z:(a[i].toNat:Int)=66
   . skip;clear u w;have E:=(ci z:(a[i].toNat:Int)=68\/(a[i].toNat:Int)=66);have N:((a[i].toNat:Int)==49)=false:=rJ;have P:((a[i].toNat:Int)==68)=false:=rJ;have O:((a[i].toNat:Int)==66)=true:=rJ;have Q:((a[i].toNat:Int)==83)=false:=rJ;have S:((a[i].toNat:Int)==84)=false:=rJ;have U:=cG z;clear z;exact Mi
   by_cases F:(a[i].toNat:Int)=83
   . skip;clear u w z;have E:=F;have N:((a[i].toNat:Int)==49)=false:=rK;have P:((a[i].toNat:Int)==68)=false:=rK;have O:((a[i].toNat:Int)==66)=false:=rK;have Q:((a[i].toNat:Int)==83)=true:=rK;have S:((a[i].toNat:Int)==84)=false:=rK;have U:=cG F;clear F;have ah:decide ((97:Int)<=(a[i].toNat:Int))=false:=u0;go_wp2_with fail;refine(s2 q m _ m m _).mono ?_;rintro t A ⟨⟨s,rfl,ae,v⟩,rfl⟩;rw[ds]at v;have e:=wn E (wd v) n;clear n v;go_wp2_with fail;refine(mr _ m m _).mono ?_;rintro t A ⟨⟨p,rfl,W,I,c⟩,rfl⟩;have k:((a.size:Int)-1- (i:Int)).toNat=a.size- (i+1):=J;rw[k]at c;clear k;rw[<-c.out,wA]at e;have L:b+s*p<4294967296:=rG;have l:Hid (b+s*p+2^(a.size-i)*C.draw (C.ah a.data.toList i) ((o:Int)/2^h) ((q:Int)/2^(f+1)) ((r:Int)/2^g) d=x):=rH;clear e c E;rcases(show s=0\/s=1 by omega)with rfl|rfl
     . rw[oS,dl]at l;go_wp2;go_round;case rel=>exact⟨i,b,h,f+1,g,by omega,by go_num,by go_num,by go_num,by go_num,by go_num,by omega,by omega,by omega,l⟩
       case measure=>exact dF
     . rw[oN]at l L;go_wp2;go_round;case rel=>exact⟨i,b+p,h,f+1,g,by omega,by go_num,by go_num,by go_num,by go_num,by go_num,by omega,by omega,by omega,l⟩
       case measure=>exact dF
   by_cases H:(a[i].toNat:Int)=84
   . skip;clear u w z F;have E:=H;have N:((a[i].toNat:Int)==49)=false:=rL;have P:((a[i].toNat:Int)==68)=false:=rL;have O:((a[i].toNat:Int)==66)=false:=rL;have Q:((a[i].toNat:Int)==83)=false:=rL;have S:((a[i].toNat:Int)==84)=true:=rL;have U:=cG H;clear H;have ah:decide ((97:Int)<=(a[i].toNat:Int))=false:=u0;go_wp2_with fail;refine(s2 r m _ m m _).mono ?_;rintro t A ⟨⟨s,rfl,ae,v⟩,rfl⟩;rw[ds]at v;have e:=wo E (wd v) n;clear n v;go_wp2_with fail;refine(mr _ m m _).mono ?_;rintro t A ⟨⟨p,rfl,W,I,c⟩,rfl⟩;have k:((a.size:Int)-1- (i:Int)).toNat=a.size- (i+1):=J;rw[k]at c;clear k;rw[<-c.out,wA]at e;have L:b+s*p<4294967296:=rG;have l:Hid (b+s*p+2^(a.size-i)*C.draw (C.ah a.data.toList i) ((o:Int)/2^h) ((q:Int)/2^f) ((r:Int)/2^(g+1)) d=x):=rH;clear e c E;rcases(show s=0\/s=1 by omega)with rfl|rfl
     . rw[oS,dl]at l;go_wp2;go_round;case rel=>exact⟨i,b,h,f,g+1,by omega,by go_num,by go_num,by go_num,by go_num,by go_num,by omega,by omega,by omega,l⟩
       case measure=>exact dF
     . rw[oN]at l L;go_wp2;go_round;case rel=>exact⟨i,b+p,h,f,g+1,by omega,by go_num,by go_num,by go_num,by go_num,by go_num,by omega,by omega,by omega,l⟩
       case measure=>exact dF
   have N:((a[i].toNat:Int)==49)=false:=by rw[b5];exact u
   have P:((a[i].toNat:Int)==68)=false:=by rw[b5];exact w
   have O:((a[i].toNat:Int)==66)=false:=by rw[b5];exact z
   have Q:((a[i].toNat:Int)==83)=false:=by rw[b5];exact F
   have S:((a[i].toNat:Int)==84)=false:=by rw[b5];exact H
   by_cases aH:97<=a[i].toNat
   . skip;have X:C.isLet a[i]=true:=by simp[C.isLet];omega
     have ak:(97:Int)<=(a[i].toNat:Int):=J;clear u w z F H;go_wp2_with fail;obtain⟨T,ac⟩:∃T:Nat,(T:Int)=d+1099511627776:=⟨(d+1099511627776).toNat,by omega⟩;rw[<-ac];have aD:T<=2199023255552:=J;have ad:T=(d+1099511627776).toNat:=J;have an:=cG ad;clear ac ad;refine(s2 T m _ m m _).mono ?_;rintro t A ⟨⟨s,rfl,ae,v⟩,rfl⟩;have k:((a[i].toNat:Int)-97).toNat=a[i].toNat-97:=J;rw[k,an.out]at v;clear k;have e:=wl X (RL d ar _ _ m v) n;clear n v;go_wp2_with fail;refine(mr _ m m _).mono ?_;rintro t A ⟨⟨p,rfl,W,I,c⟩,rfl⟩;have k:((a.size:Int)-1- (i:Int)).toNat=a.size- (i+1):=J;rw[k]at c;clear k;rw[<-c.out]at e;have L:b+s*p<4294967296:=rG;have l:Hid (b+s*p+2^(a.size-i)*C.draw (C.ah a.data.toList i) ((o:Int)/2^h) ((q:Int)/2^f) ((r:Int)/2^g) d=x):=rH;clear e c;rcases(show s=0\/s=1 by omega)with rfl|rfl
     . rw[oS,dl]at l;go_wp2;go_round;case rel=>exact Mj
       case measure=>exact dF
     . rw[oN]at l L;exact Mh
   have X:C.isLet a[i]=false:=by simp[C.isLet];omega
   have e:=BN u w z F H X n;have ak:decide ((97:Int)<=(a[i].toNat:Int))=false:=M;clear u w z F H n;go_wp2_with fail;refine(mr _ m m _).mono ?_;rintro t A ⟨⟨p,rfl,W,I,c⟩,rfl⟩;have k:((a.size:Int)-1- (i:Int)).toNat=a.size- (i+1):=J;rw[k]at c;clear k;have l:Hid (b+2^(a.size-i)*C.draw (C.ah a.data.toList i) ((o:Int)/2^h) ((q:Int)/2^f) ((r:Int)/2^g) d=x):=by rw[<-aj.out];exact e
   clear e c;go_wp2;go_round;case rel=>exact Mj
   case measure=>exact dF
end Go.Proofs.YtmlgonbhoknoiaaGreatDoor
