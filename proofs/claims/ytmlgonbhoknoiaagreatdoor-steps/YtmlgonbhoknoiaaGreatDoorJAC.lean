import Derived.Test.YtmlgonbhoknoiaaGreatDoorJAA
import Derived.Test.YtmlgonbhoknoiaaGreatDoorJAB
set_option maxHeartbeats 8000000
set_option maxRecDepth 100000
set_option linter.all false
namespace Go.Proofs.YtmlgonbhoknoiaaGreatDoor
open Go.RowKit Go.Proofs.Tryz
def aaQ (a:Int):∃r,a.tmod 4294967296=r/\((0<=r/\r=a%4294967296)\/(r<0/\r+4294967296=a%4294967296)):=by
 refine⟨_,rfl,?_⟩;by_cases c:0<=a
 . rw[iP c];left;omega
 . have b:a.tmod 4294967296=-((-a)%4294967296):=by
    have d:a.tmod 4294967296=-((-a).tmod 4294967296):=by rw[Int.neg_tmod];omega
    rw[d,iP (by omega)]
   rw[b];omega
def xS (a:Int)(f:D):
 O 366 #[j a] (j (a%4294967296)) f:=by
 obtain⟨r,i,c⟩:=aaQ a;obtain⟨g,d⟩:=y (a%4294967296);rw[<-d]at c|-;rcases c with⟨e,b⟩|⟨e,b⟩
 . have hd:decide (r<0)=false:=M;exact Ik
 . have hd:decide (r<0)=true:=M;have h:-4294967296<=r:=J;exact Ik
def aY (a:Int):Int:=if 2147483648<=a then a-4294967296 else a
def bz (a:Int)(d:0<=a)(e:G a)(c:D):
 O 418 #[j a] (j (aY a)) c:=by
 unfold aY;by_cases b:2147483648<=a
 . rw[B b];exact Il
 . rw[z b];exact Il
theorem tx (a:Nat)(i:a<=32)(q:D):
 O 368 #[j a] (j ((2^a:Nat):Int)) q:=by
 obtain⟨d,g⟩:=y (2^a:Nat);rw[<-g];have c:=l g;clear g;go_enter func368,ntmps368;go_wp2;go_loop [0,3] (fun f k=>∃b p:Nat,b<=a/\p<=4294967296/\f=j b/\k=j p/\Hid (p*2^b=d)) (fun f _=>(intOf f).toNat);case atStart=>exact Im
 case round=>
  obtain⟨b,p,s,t,rfl,rfl,e⟩:=hrel;cases b with
  |zero=>
   have o:Hid (p=d):=by have:=e.out;show p=d;omega
   clear e c;go_wp2;go_ret;exact⟨by rw[<-o.out]<;>rfl,rfl⟩
  |succ b=>
   have h:Hid (2*p*2^b=d):=by
    show _=_;rw[<-e.out,gd,fl 2 p,hA,fl 2]
   have n:2*p<=4294967296:=by
    have m:2*p*1<=2*p*2^b:=yf _ (Nat.one_le_two_pow);have r:d<=2^32:=Hm;rw[h.out]at m;omega
   clear e c;go_wp2;go_round;case rel=>exact⟨b,2*p,by omega,n,by go_num,by go_num,h⟩
   case measure=>exact dF
def aax (a b:Int)(c:0<b):∃e r,a.tdiv b=e/\a.tmod b=r/\((0<=r/\e=a/b)\/(r<0/\e-1=a/b)):=by
 refine⟨_,_,rfl,rfl,?_⟩;by_cases f:0<=a
 . left;rw[hB f,iP f];exact⟨oA _ m,rfl⟩
 . have g:a.tmod b=-((-a)%b):=by
    have d:a.tmod b=-((-a).tmod b):=by rw[Int.neg_tmod];omega
    rw[d,iP (by omega)]
   have h:a.tdiv b=-((-a)/b):=by
    have d:a.tdiv b=-((-a).tdiv b):=za;rw[d,hB (by omega)]
   have i:=tR (-a) b;have j:=oA (-a) (show b≠0 by omega);have k:=tU (-a) c;rw[g,h];by_cases l:(-a)%b=0
   . left;refine⟨by omega,?_⟩;have:=(Int.ediv_emod_unique (a:=a) (q:=-((-a)/b)) (r:=0) c).2 ⟨by rw[Int.mul_neg];omega,by omega,c⟩;exact this.1.symm
   . right;refine⟨by omega,?_⟩;have:=(Int.ediv_emod_unique (a:=a) (q:=-((-a)/b)-1) (r:=b- (-a)%b) c).2 ⟨by rw[mO,Int.mul_neg];omega,by omega,by omega⟩;exact this.1.symm
def tu (a b:Int)(q:-4611686018427387904<=a)(s:a<=4611686018427387904)(f:0<b)(t:b<=4611686018427387904)(o:D):
 O 424 #[j a,j b] (j (a/b)) o:=by
 obtain⟨k,r,h,w,i⟩:=aax a b f;have u:-4611686018427387904<=k:=by
  rw[<-h];by_cases c:0<=a
  . rw[hB c];have:=Int.ediv_nonneg c (Int.le_of_lt f);omega
  . have d:a.tdiv b=-((-a)/b):=by
     have e:a.tdiv b=-((-a).tdiv b):=za;rw[e,hB (by omega)]
    rw[d];have:=Int.ediv_le_self b (show 0<=-a by omega);omega
 have v:k<=4611686018427387904:=by
  rw[<-h];by_cases c:0<=a
  . rw[hB c];have:=Int.ediv_le_self b c;omega
  . have d:a.tdiv b=-((-a)/b):=by
     have e:a.tdiv b=-((-a).tdiv b):=za;rw[e,hB (by omega)]
    rw[d];have:=Int.ediv_nonneg (show 0<=-a by omega) (Int.le_of_lt f);omega
 obtain⟨p,m⟩:=y (a/b);rw[<-m]at i|-;rcases i with⟨n,g⟩|⟨n,g⟩
 . have hd:decide (r<0)=false:=M;exact In
 . have hd:decide (r<0)=true:=M;exact In
def nW (a p:Nat):(a:Int).tdiv (p:Int)=((a/p:Nat):Int):=by rw[hB (by omega)];simp
def jY (a:Nat):((a:Nat):Int).tmod 2=((a%2:Nat):Int):=by rw[iP (by omega)];simp
def fB (a b:Nat)(S:G a)(T:G b)(Y:D):
 O 323 #[j a,j b] (j ((a&&&b:Nat):Int)) Y:=by
 obtain⟨w,q⟩:=y (a&&&b:Nat);rw[<-q];have v:=l q;clear q;go_enter func323,ntmps323;go_wp2;go_loop [5,6] (fun N n=>∃i r:Nat,i<=32/\r<=4294967296/\N=j r/\n=j i/\Hid (r=(a%2^i&&&b%2^i))) (fun _ n=>32- (intOf n).toNat);case atStart=>exact⟨0,0,by omega,by omega,rfl,rfl,l (by simp[q3])⟩
 case round=>
  obtain⟨i,r,ad,Z,rfl,rfl,f⟩:=hrel;by_cases ae:i<32
  . have e:=Pb a b i;have s:=tx i m;obtain⟨p,h⟩:=y (2^i:Nat);have af:0<p:=by rw[h];exact lp i
    have ag:p<=2147483648:=by
     have:=cY (n:=2) R (show i<=31 by omega);rw[h];exact this
    have g:(a%2^(i+1)&&&b%2^(i+1))<2^(i+1):=bL gO (gc _ (lp _));have ac:2^(i+1)<=4294967296:=cY (n:=2) R (show i+1<=32 by omega);rw[<-f.out]at e;rw[e]at g;rw[<-h]at e s g;have c:=l e;have H:=l s;have d:=l g;clear e s g h f;have P:=nW a p;have Q:=nW b p;have E:=jY (a/p);have F:=jY (b/p);have K:a/p<=a:=kf;have L:b/p<=b:=kf;obtain⟨I,x⟩:=y (a/p);obtain⟨J,A⟩:=y (b/p);rw[<-x]at P E K c d;rw[<-A]at Q F L c d;clear x A;obtain⟨t,hu⟩:=y (I%2);obtain⟨u,C⟩:=y (J%2);rw[<-hu]at E c d;rw[<-C]at F c d;clear hu C;by_cases c1:t=1
    . have W:((t:Int)==1)=true:=M;by_cases c2:u=1
      . have X:((u:Int)==1)=true:=M;have k:Hid (r+p=(a%2^(i+1)&&&b%2^(i+1))):=by
         show _=_;rw[c.out,B ⟨c1,c2⟩];omega
        have V:r+p<=4294967296:=by
         have:=d.out;rw[B ⟨c1,c2⟩]at this;omega
        clear c d c1 c2;go_wp2_with(go_at_call 368;refine(H.out _).mono ?_;rintro ab aa ⟨rfl,rfl⟩);go_round;case rel=>exact⟨i+1,r+p,by omega,V,by go_num,by go_num,k⟩
        case measure=>exact a5
      . have X:((u:Int)==1)=false:=M;have k:Hid (r=(a%2^(i+1)&&&b%2^(i+1))):=by
         show _=_;rw[c.out,z (fun o=>c2 o.2)];omega
        clear c d c1 c2;exact Io
    . have W:((t:Int)==1)=false:=M;have k:Hid (r=(a%2^(i+1)&&&b%2^(i+1))):=by
       show _=_;rw[c.out,z (fun o=>c1 o.1)];omega
      clear c d c1;exact Io
  . obtain rfl:i=32:=by omega
    have U:Hid (r=w):=by
     show r=w;rw[f.out,v.out,yg (show a<2^32 from S),yg (show b<2^32 from T)]
    clear f v;go_wp2;go_ret;exact⟨by rw[<-U.out]<;>rfl,rfl⟩
def v6 (b a:Nat)(c:G a):(b&&&a)<4294967296:=bL iQ c
def xP (a b:Nat)(p:G a)(h:G b)(k:D):
 O 372 #[j a,j b] (j ((a |||b:Nat):Int)) k:=by
 have c:=n0 a a b (aB _);have o:=v6 a b h;have d:=fB a b p h k;obtain⟨n,i⟩:=y (a&&&b);obtain⟨m,g⟩:=y (a |||b:Nat);rw[<-i]at c o d;rw[<-g]at c|-;have f:Hid ((a:Int)+b-n=m):=ie;have e:=l d;clear c d g i;go_enter func372,ntmps372;exact zv
def acU (a b:Nat)(p:G a)(h:G b)(k:D):
 O 423 #[j a,j b] (j ((a^^^b:Nat):Int)) k:=by
 have c:=FD a a b (aB _);have o:=v6 a b h;have d:=fB a b p h k;obtain⟨n,i⟩:=y (a&&&b);obtain⟨m,g⟩:=y (a^^^b:Nat);rw[<-i]at c o d;rw[<-g]at c|-;have f:Hid ((a:Int)+b-2*n=m):=ie;have e:=l d;clear c d g i;go_enter func423,ntmps423;exact zv
def aI (a b:Nat):Nat:=a- (a&&&b)
def tv (a b:Nat)(n:G a)(o:G b)(i:D):
 O 360 #[j a,j b] (j ((aI a b:Nat):Int)) i:=by
 unfold aI;have m:(a&&&b)<=a:=gO;have c:=fB a b n o i;obtain⟨d,h⟩:=y (a&&&b);rw[<-h]at m c|-;obtain⟨k,g⟩:=y (a-d:Nat);rw[<-g];have f:Hid ((a:Int)-d=k):=ie;have e:=l c;clear c g h;go_enter func360,ntmps360;exact zv
def ff :List L->Nat
 |[]=>0
 |a::b=>a.toNat+256*ff b
theorem p7 :∀a:List L,ff a<256^a.length
 |[]=>by simp[ff]
 |b::a=>by
  have:=p7 a
  have c:=gJ b
  simp only[ff,c9,gd];omega
def cc (a:P)(p b:Nat):Nat:=ff ((a.o.drop p).take b)
def xR (h s:Nat)(d:P)(z:aT d)(f:Int)(p b:Nat)(Z:f-2147483648=p)(X:1<=b)(Y:b<=4)(C:p+b<=d.o.length)(g:D)(r:Hid (ap g h s d)):
 O 392 #[I h,j f,j b] (j (cc d p b)) g:=by
 have E:=z.o;have x:=r.out.V8;have q:=iM h s f b m m m m d.o.length E g x;have F:a1 f b d.o.length=true:=vj;rw[F]at q;have u:=l q;clear q F;unfold cc;obtain⟨c,hS⟩:=y ((d.o.drop p).take b);have W:c.length=b:=IS;have B:∀a,(M:a<b)->g.cell? ⟨s,p+a,none⟩=some (.int .u8 ((c[a]'m).toNat:Int)):=by
  intro a M;have L:=r.out.o (p+a) m;have K:c[a]'m=d.o[p+a]'m:=by simp[hS]
  rw[L,K]
 rw[<-hS];have t:=l B;clear hS B;obtain⟨v,o⟩:=y (ff c);rw[<-o];have i:=l o;have N:p+b<=d.o.length:=C;obtain⟨V,A⟩:=y (d.o.length);rw[<-A]at x E N;clear o r C A z;go_enter func392,ntmps392;exact IL
def bu :List L->Nat->Nat->Nat->List L
 |r,_,0,_=>r
 |r,p,b+1,a=>bu (r.set p (UInt8.ofNat a)) (p+1) b (a/256)
theorem mB :∀(a:Nat) (r:List L) (p b:Nat),(bu r p a b).length=r.length
 |0,r,p,b=>rfl
 |a+1,r,p,b=>by simp only[bu];rw[mB a];simp
def ap.Xn {i:D}{h g:Nat}{e:P}(b:ap i h g e)(a:Nat)(z:a<e.o.length)(j:L):ap (i.setCell ⟨g,a,none⟩ (.int .u8 (j.toNat:Int))) h g {e with o:=e.o.set a j}:=by
 have d:=b.ne;have m:¬g=h:=vk;obtain⟨n,o,q,r,s,t,u,v,w,x,p,y,B,-,C,E,-⟩:=id b;have F:=b.o a z;refine⟨?_,?_,?_,?_,?_,?_,?_,?_,?_,?_,?_,?_,?_,fun c A=>?_,?_,?_,d⟩;case refine_14=>
  have k:c<e.o.length:=by simpa using A
  exact IR
 all_goals simp[go_sem,n,o,q,r,s,t,u,v,w,x,p,y,B,C,E,d,m,yh]
def iy (a b:Nat):((a:Nat):Int).tmod (b:Int)=((a%b:Nat):Int):=by rw[iP (by omega)];simp
def sQ (a b:Nat):((a:Nat):Int).tdiv (b:Int)=((a/b:Nat):Int):=by rw[hB (by omega)];simp
def EE (h e:Nat)(d:P)(aa:aT d)(u:Int)(p b:Nat)(ao:u-2147483648=p)(am:1<=b)(an:b<=4)(ak:p+b<=d.o.length)(q:Nat)(ae:G q)(v:D)(W:Hid (ap v h e d)):
 Calls prog 428 #[I h,j u,j b,j q] v fun T E=>T=.returned (.tuple #[])/\ap E h e {d with o:=bu d.o p b q}/\Kept [e] v E:=by
 have ad:=aa.o;have t:=W.out.V8;have C:=iM h e u b m m m m d.o.length ad v t;have V:a1 u b d.o.length=true:=vj;rw[V]at C;have N:=l C;clear C V;obtain⟨g,B⟩:=y (bu d.o p b q);rw[<-B];have S:=l B;clear B t;go_enter oB,oC;go_wp2_with fail;refine N.out.mono ?_;rintro T X ⟨rfl,rfl⟩;clear N;go_wp2_with fail;go_loopw [3,9] (fun Z A wr=>∃(i a:Nat) (c:List L),i<=b/\a<4294967296/\Z=j a/\A=j i/\c.length=d.o.length/\Hid (ap wr h e {d with o:=c})/\Hid (Kept [e] X wr)/\Hid (g=bu c (p+i) (b-i) a)) (fun _ A _=>b- (intOf A).toNat);case atStart=>exact⟨0,q,d.o,by omega,ae,rfl,rfl,rfl,W,l (Kept.refl _ _),S⟩
 case round=>
  obtain⟨i,a,c,aj,hu,rfl,rfl,H,o,f,n⟩:=hrel;clear S;by_cases al:i<b
  . have Y:decide ((i:Int)< (b:Int))=true:=M;have U:p+i<c.length:=J;have t:=o.out.V8;simp only at t;have aq:=o.out.XA (p+i);have ah:=o.out.o (p+i) U;simp only at ah;have k:=o.out.Xn (p+i) U (UInt8.ofNat a);have w:(UInt8.ofNat a).toNat=a%256:=bN;rw[w]at k;have ag:(a:Int).tmod 256=((a%256:Nat):Int):=iy a 256;have d1:(a:Int).tdiv 256=((a/256:Nat):Int):=sQ a 256;have r:Hid (g=bu (c.set (p+i) (UInt8.ofNat a)) (p+(i+1)) (b- (i+1)) (a/256)):=by
     show g=_;rw[n.out,show b-i=(b- (i+1))+1 by omega];rfl
    have s:a/256<4294967296:=J;have af:a%256<256:=J;obtain⟨ai,x⟩:=y (a%256);obtain⟨R,z⟩:=y (a/256);rw[<-x]at k ag af;rw[<-z]at d1 r s;have K:=l k;have O:Hid (Kept [e] X (wr.setCell ⟨e,p+i,none⟩ (.int .u8 (ai:Int)))):=zK;have Q:(c.set (p+i) (UInt8.ofNat a)).length=d.o.length:=zP;exact IT
  . have Y:decide ((i:Int)< (b:Int))=false:=M;have ab:Hid (g=c):=Ji;clear n;go_wp2_with fail;refine ac (v:=.tuple #[]) FR rfl ⟨rfl,by rw[ab.out];exact o.out,f.out⟩
def ar (b:Int)(a:Nat):K:=strOfNums (b4 b a)
def bt (b:Int)(a:Nat):(ar b a).size=a:=by unfold ar;rw[oa,kR]
def og (a:Int)(b:D):aa 99 #[j a,j 1] (.string (ar a 1)) b:=qG a 1 (by omega) b
def mE (a:Int)(b:D):aa 99 #[j a,j 4] (.string (ar a 4)) b:=qG a 4 (by omega) b
def acv (a:Int)(b:D):aa 99 #[j a,j 5] (.string (ar a 5)) b:=qG a 5 (by omega) b
def bj (a b:K)(e:a.size+b.size<=100000):∃d:K,d=a++b/\d.size=a.size+b.size/\∀c,(Op.stringOp .add a b).run prog c=.ok (.string d) c:=
 ⟨_,rfl,by rw[fm],fun c=>vY rfl e c⟩
def k6 (a:P):K:=
 (((((((((ar a.Wj 1++ar a.time 4)++ar a.Wh 4)++ar a.cmp 4)++ar a.Wv 4)++ar a.enable 1)++ar a.Wr 1)++(if a.lost=true then⟨#[33]⟩else⟨#[46]⟩))++ar a.rx.size 1)++a.rx)++ar a.Wc.size 1++a.Wc
def ac4 (aC aY:Nat)(a:P)(O:aT a)(d:D)(e:Hid (ap d aC aY a)):
 aa 244 #[I aC] (.string (k6 a)) d:=by
 have aW:=O.rx;have aX:=O.Wc;clear O;have c1:=e.out.c1;obtain⟨aU,hS⟩:=y (k6 a);rw[<-hS];have ae:=l hS;clear hS;go_enter func244,ntmps244;go_wp2_with fail;refine(og a.Wj _).mono ?_;rintro f a3 ⟨rfl,b⟩;have A:Hid (Below d.heap.size d a3):=l b;have aP:=bt a.Wj 1;obtain⟨aO,R⟩:=y (ar a.Wj 1);rw[<-R]at aP|-;have av:=l R;have c:=e.out.more (Below.kept A.out []) F F;obtain⟨t0,Q,bx⟩:∃aN,aN=aO/\aN.size=1:=⟨aO,rfl,aP⟩;rw[<-Q];have aj:=l Q;have d2:=c.c2;clear b R Q c;go_wp2_with fail;refine(mE a.time _).mono ?_;rintro f a4 ⟨rfl,b⟩;have B:Hid (Below d.heap.size d a4):=l (A.out.trans (b.mono A.out.size));have bb:=bt a.time 4;obtain⟨aZ,S⟩:=y (ar a.time 4);rw[<-S]at bb|-;have aw:=l S;have c:=e.out.more (Below.kept B.out []) F F;obtain⟨t1,aE,bz,bp⟩:=bj t0 aZ m;have ak:=l aE;have d3:=c.c3;clear b S aE c;go_wp2_with fail;refine(mE a.Wh _).mono ?_;rintro f a5 ⟨rfl,b⟩;have C:Hid (Below d.heap.size d a5):=l (B.out.trans (b.mono B.out.size));have bc:=bt a.Wh 4;obtain⟨a0,T⟩:=y (ar a.Wh 4);rw[<-T]at bc|-;have ax:=l T;have c:=e.out.more (Below.kept C.out []) F F;obtain⟨t2,aF,bA,bq⟩:=bj t1 a0 m;have al:=l aF;have d4:=c.c4;clear b T aF c;go_wp2_with fail;refine(mE a.cmp _).mono ?_;rintro f w3 ⟨rfl,b⟩;have E:Hid (Below d.heap.size d w3):=l (C.out.trans (b.mono C.out.size));have bd:=bt a.cmp 4;obtain⟨u3,U⟩:=y (ar a.cmp 4);rw[<-U]at bd|-;have ay:=l U;have c:=e.out.more (Below.kept E.out []) F F;obtain⟨t3,aG,bB,br⟩:=bj t2 u3 m;have am:=l aG;have d5:=c.c5;clear b U aG c;go_wp2_with fail;refine(mE a.Wv _).mono ?_;rintro f a6 ⟨rfl,b⟩;have G:Hid (Below d.heap.size d a6):=l (E.out.trans (b.mono E.out.size));have be:=bt a.Wv 4;obtain⟨a1,V⟩:=y (ar a.Wv 4);rw[<-V]at be|-;have az:=l V;have c:=e.out.more (Below.kept G.out []) F F;obtain⟨t4,aH,bC,bs⟩:=bj t3 a1 m;have an:=l aH;have d6:=c.W4;clear b V aH c;go_wp2_with fail;refine(og a.enable _).mono ?_;rintro f a7 ⟨rfl,b⟩;have H:Hid (Below d.heap.size d a7):=l (G.out.trans (b.mono G.out.size));have bf:=bt a.enable 1;obtain⟨u5,W⟩:=y (ar a.enable 1);rw[<-W]at bf|-;have aA:=l W;have c:=e.out.more (Below.kept H.out []) F F;obtain⟨t5,aI,bD,bu⟩:=bj t4 u5 m;have ao:=l aI;have d7:=c.W5;clear b W aI c;go_wp2_with fail;refine(og a.Wr _).mono ?_;rintro f a8 ⟨rfl,b⟩;have s:Hid (Below d.heap.size d a8):=l (H.out.trans (b.mono H.out.size));have bg:=bt a.Wr 1;obtain⟨a2,X⟩:=y (ar a.Wr 1);rw[<-X]at bg|-;have aB:=l X;have c:=e.out.more (Below.kept s.out []) F F;obtain⟨t6,aJ,bE,bv⟩:=bj t5 a2 m;have aq:=l aJ;have d8:=c.Xj;clear b X aJ c;have aS:∃(n:K),Hid (n=if a.lost=true then⟨#[33]⟩else⟨#[46]⟩)/\n.size=1/\((a.lost=true/\n=⟨#[33]⟩)\/(a.lost=false/\n=⟨#[46]⟩)):=by
  cases a.lost
  . exact⟨⟨#[46]⟩,l rfl,rfl,.inr ⟨rfl,rfl⟩⟩
  . exact⟨⟨#[33]⟩,l rfl,rfl,.inl ⟨rfl,rfl⟩⟩
 obtain⟨n,ag,bG,aM⟩:=aS;have Y:=e.out.more (Below.kept s.out []) F F;have d9:=Y.Xi;have d10:=Y.Xt;clear Y;obtain⟨t7,aK,bF,bw⟩:=bj t6 n m;have au:=l aK;have bk:t7.size=20:=J;clear aK;obtain⟨bH,aD⟩:=y (a.lost);rw[<-aD]at d8 aM;clear aD;have ah:=l (og (a.rx.size:Int));have ai:=l (og (a.Wc.size:Int));have N:Hid (∀g h i j k q:K,g=ar a.rx.size 1->h=t7++g->i=h++a.rx->j=ar a.Wc.size 1->k=i++j->q=k++a.Wc->q=aU):=by
  refine l (fun g h i j k q o t u p v w=>?_);rw[ae.out,w,v,p,u,t,o,au.out,ag.out,aq.out,aB.out,ao.out,aA.out,an.out,az.out,am.out,ay.out,al.out,ax.out,ak.out,aw.out,aj.out,av.out];rfl
 obtain⟨ab,x⟩:∃r,r=a.rx:=⟨_,rfl⟩;obtain⟨ac,z⟩:∃r,r=a.Wc:=⟨_,rfl⟩;rw[<-x]at aW d9 ah N;rw[<-z]at aX d10 ai N;have aR:=l x;have af:=l z;clear x z;clear ae ag aj ak al am an ao aq au av aw ax ay az aA aB;rcases aM with⟨rfl,rfl⟩|⟨rfl,rfl⟩;all_goals
  go_wp2_with fail;refine(ah.out _).mono ?_;rintro f a9 ⟨rfl,b⟩;have L:Hid (Below d.heap.size d a9):=l (s.out.trans (b.mono s.out.size));have bh:=bt ab.size 1;obtain⟨g,o⟩:=y (ar ab.size 1);rw[<-o]at bh|-;obtain⟨h,t,bI,bl⟩:=bj t7 g m;obtain⟨i,u,bJ,bm⟩:=bj h ab m;have Z:=e.out.more (Below.kept L.out []) F F;have f9:=Z.Xi;have f10:=Z.Xt;rw[<-aR.out]at f9;rw[<-af.out]at f10;have M:=l (cZ o (cZ t u));clear o t u b Z;go_wp2_with fail;refine(ai.out _).mono ?_;rintro f ba ⟨rfl,b⟩;have ad:Hid (Below d.heap.size d ba):=l (L.out.trans (b.mono L.out.size));have bi:=bt ac.size 1;obtain⟨j,p⟩:=y (ar ac.size 1);rw[<-p]at bi|-;obtain⟨k,v,bK,bn⟩:=bj i j m;obtain⟨q,w,bL,bo⟩:=bj k ac m;have aL:=e.out.more (Below.kept ad.out []) F F;have aV:=aL.Xt;rw[<-af.out]at aV;have aQ:=l (N.out g h i j k q M.out.1 M.out.2.1 M.out.2.2 p v w);clear p v w b aL;go_wp2_with fail;go_ret;exact⟨by rw[<-aQ.out]<;>rfl,ad.out⟩
def kH :Q:={mode:=3,Ws:=0,Wd:=0,WC:=0,Wq:=0,WM:=0,Wl:=0,WJ:=0,sum:=0,WT:=0,WL:=0,WS:=0,WX:=0,Wz:=0,WK:=0,Wm:=0,Wx:=0,WB:=0,Wp:=0,WH:=0,WR:=0,Wu:=0,WD:=0,WI:=0,WA:=0,WG:=0,V9:=0,enable:=0,soft:=0,Xf:=0,Wf:=0,Wa:=0,Wg:=0,ret:=0,We:=0,held:=0,W6:=false,W7:=false}
def EJ (d g:Nat)(b:Q)(e:D)(a:Hid (T e d g b)):
 Calls prog 242 #[I d] e fun ab f=>ab=.returned (.tuple #[])/\T f d g kH/\Kept [d] e f:=by
 have aL:=a.out.Wb;have c1:=a.out.c1;have c2:=a.out.c2;have c3:=a.out.c3;have c4:=a.out.c4;have c5:=a.out.c5;have aH:=a.out.W4;have aI:=a.out.W5;have aJ:=a.out.Xj;have aK:=a.out.Xi;have ac:=a.out.Xt;have ad:=a.out.XO;have ae:=a.out.X1;have af:=a.out.X2;have ag:=a.out.Yd;have ah:=a.out.Ys;have ai:=a.out.X3;have aj:=a.out.Ye;have ak:=a.out.Yf;have al:=a.out.Yg;have am:=a.out.Yh;have an:=a.out.Yt;have ao:=a.out.X4;have ap:=a.out.Yi;have aq:=a.out.Yj;have ar:=a.out.Yk;have au:=a.out.Yl;have av:=a.out.XB;have aw:=a.out.XI;have ax:=a.out.X5;have ay:=a.out.Ym;have az:=a.out.X6;have aA:=a.out.Ya;have aB:=a.out.Xk;have aC:=a.out.Xl;have aD:=a.out.Xq;have aE:=a.out.XJ;have aF:=a.out.XC;have aG:=a.out.Xm;have h:=a.out.set (C':={b with mode:=3}) 1 (j 3) rfl m;have v:=h.set (C':={b with mode:=3,Ws:=0}) 2 (j 0) rfl m;have J:=v.set (C':={b with mode:=3,Ws:=0,Wd:=0}) 3 (j 0) rfl m;have V:=J.set (C':={b with mode:=3,Ws:=0,Wd:=0,WC:=0}) 4 (j 0) rfl m;have W:=V.set (C':={b with mode:=3,Ws:=0,Wd:=0,WC:=0,Wq:=0}) 5 (j 0) rfl m;have X:=W.set (C':={b with mode:=3,Ws:=0,Wd:=0,WC:=0,Wq:=0,WM:=0}) 6 (j 0) rfl m;have Y:=X.set (C':={b with mode:=3,Ws:=0,Wd:=0,WC:=0,Wq:=0,WM:=0,Wl:=0}) 7 (j 0) rfl m;have Z:=Y.set (C':={b with mode:=3,Ws:=0,Wd:=0,WC:=0,Wq:=0,WM:=0,Wl:=0,WJ:=0}) 8 (j 0) rfl m;have aa:=Z.set (C':={b with mode:=3,Ws:=0,Wd:=0,WC:=0,Wq:=0,WM:=0,Wl:=0,WJ:=0,sum:=0}) 9 (j 0) rfl m;have i:=aa.set (C':={b with mode:=3,Ws:=0,Wd:=0,WC:=0,Wq:=0,WM:=0,Wl:=0,WJ:=0,sum:=0,WT:=0}) 10 (j 0) rfl m;have k:=i.set (C':={b with mode:=3,Ws:=0,Wd:=0,WC:=0,Wq:=0,WM:=0,Wl:=0,WJ:=0,sum:=0,WT:=0,WL:=0}) 11 (j 0) rfl m;have n:=k.set (C':={b with mode:=3,Ws:=0,Wd:=0,WC:=0,Wq:=0,WM:=0,Wl:=0,WJ:=0,sum:=0,WT:=0,WL:=0,WS:=0}) 12 (j 0) rfl m;have o:=n.set (C':={b with mode:=3,Ws:=0,Wd:=0,WC:=0,Wq:=0,WM:=0,Wl:=0,WJ:=0,sum:=0,WT:=0,WL:=0,WS:=0,WX:=0}) 13 (j 0) rfl m;have p:=o.set (C':={b with mode:=3,Ws:=0,Wd:=0,WC:=0,Wq:=0,WM:=0,Wl:=0,WJ:=0,sum:=0,WT:=0,WL:=0,WS:=0,WX:=0,Wz:=0}) 14 (j 0) rfl m;have q:=p.set (C':={b with mode:=3,Ws:=0,Wd:=0,WC:=0,Wq:=0,WM:=0,Wl:=0,WJ:=0,sum:=0,WT:=0,WL:=0,WS:=0,WX:=0,Wz:=0,WK:=0}) 15 (j 0) rfl m;have r:=q.set (C':={b with mode:=3,Ws:=0,Wd:=0,WC:=0,Wq:=0,WM:=0,Wl:=0,WJ:=0,sum:=0,WT:=0,WL:=0,WS:=0,WX:=0,Wz:=0,WK:=0,Wm:=0}) 16 (j 0) rfl m;have s:=r.set (C':={b with mode:=3,Ws:=0,Wd:=0,WC:=0,Wq:=0,WM:=0,Wl:=0,WJ:=0,sum:=0,WT:=0,WL:=0,WS:=0,WX:=0,Wz:=0,WK:=0,Wm:=0,Wx:=0}) 17 (j 0) rfl m;have t:=s.set (C':={b with mode:=3,Ws:=0,Wd:=0,WC:=0,Wq:=0,WM:=0,Wl:=0,WJ:=0,sum:=0,WT:=0,WL:=0,WS:=0,WX:=0,Wz:=0,WK:=0,Wm:=0,Wx:=0,WB:=0}) 18 (j 0) rfl m;have u:=t.set (C':={b with mode:=3,Ws:=0,Wd:=0,WC:=0,Wq:=0,WM:=0,Wl:=0,WJ:=0,sum:=0,WT:=0,WL:=0,WS:=0,WX:=0,Wz:=0,WK:=0,Wm:=0,Wx:=0,WB:=0,Wp:=0}) 19 (j 0) rfl m;have w:=u.set (C':={b with mode:=3,Ws:=0,Wd:=0,WC:=0,Wq:=0,WM:=0,Wl:=0,WJ:=0,sum:=0,WT:=0,WL:=0,WS:=0,WX:=0,Wz:=0,WK:=0,Wm:=0,Wx:=0,WB:=0,Wp:=0,WH:=0}) 20 (j 0) rfl m;have x:=w.set (C':={b with mode:=3,Ws:=0,Wd:=0,WC:=0,Wq:=0,WM:=0,Wl:=0,WJ:=0,sum:=0,WT:=0,WL:=0,WS:=0,WX:=0,Wz:=0,WK:=0,Wm:=0,Wx:=0,WB:=0,Wp:=0,WH:=0,WR:=0}) 21 (j 0) rfl m;have y:=x.set (C':={b with mode:=3,Ws:=0,Wd:=0,WC:=0,Wq:=0,WM:=0,Wl:=0,WJ:=0,sum:=0,WT:=0,WL:=0,WS:=0,WX:=0,Wz:=0,WK:=0,Wm:=0,Wx:=0,WB:=0,Wp:=0,WH:=0,WR:=0,Wu:=0}) 22 (j 0) rfl m;have z:=y.set (C':={b with mode:=3,Ws:=0,Wd:=0,WC:=0,Wq:=0,WM:=0,Wl:=0,WJ:=0,sum:=0,WT:=0,WL:=0,WS:=0,WX:=0,Wz:=0,WK:=0,Wm:=0,Wx:=0,WB:=0,Wp:=0,WH:=0,WR:=0,Wu:=0,WD:=0}) 23 (j 0) rfl m;have A:=z.set (C':={b with mode:=3,Ws:=0,Wd:=0,WC:=0,Wq:=0,WM:=0,Wl:=0,WJ:=0,sum:=0,WT:=0,WL:=0,WS:=0,WX:=0,Wz:=0,WK:=0,Wm:=0,Wx:=0,WB:=0,Wp:=0,WH:=0,WR:=0,Wu:=0,WD:=0,WI:=0}) 24 (j 0) rfl m;have B:=A.set (C':={b with mode:=3,Ws:=0,Wd:=0,WC:=0,Wq:=0,WM:=0,Wl:=0,WJ:=0,sum:=0,WT:=0,WL:=0,WS:=0,WX:=0,Wz:=0,WK:=0,Wm:=0,Wx:=0,WB:=0,Wp:=0,WH:=0,WR:=0,Wu:=0,WD:=0,WI:=0,WA:=0}) 25 (j 0) rfl m;have C:=B.set (C':={b with mode:=3,Ws:=0,Wd:=0,WC:=0,Wq:=0,WM:=0,Wl:=0,WJ:=0,sum:=0,WT:=0,WL:=0,WS:=0,WX:=0,Wz:=0,WK:=0,Wm:=0,Wx:=0,WB:=0,Wp:=0,WH:=0,WR:=0,Wu:=0,WD:=0,WI:=0,WA:=0,WG:=0}) 26 (j 0) rfl m;have E:=C.set (C':={b with mode:=3,Ws:=0,Wd:=0,WC:=0,Wq:=0,WM:=0,Wl:=0,WJ:=0,sum:=0,WT:=0,WL:=0,WS:=0,WX:=0,Wz:=0,WK:=0,Wm:=0,Wx:=0,WB:=0,Wp:=0,WH:=0,WR:=0,Wu:=0,WD:=0,WI:=0,WA:=0,WG:=0,V9:=0}) 27 (j 0) rfl m;have G:=E.set (C':={b with mode:=3,Ws:=0,Wd:=0,WC:=0,Wq:=0,WM:=0,Wl:=0,WJ:=0,sum:=0,WT:=0,WL:=0,WS:=0,WX:=0,Wz:=0,WK:=0,Wm:=0,Wx:=0,WB:=0,Wp:=0,WH:=0,WR:=0,Wu:=0,WD:=0,WI:=0,WA:=0,WG:=0,V9:=0,enable:=0}) 28 (j 0) rfl m;have H:=G.set (C':={b with mode:=3,Ws:=0,Wd:=0,WC:=0,Wq:=0,WM:=0,Wl:=0,WJ:=0,sum:=0,WT:=0,WL:=0,WS:=0,WX:=0,Wz:=0,WK:=0,Wm:=0,Wx:=0,WB:=0,Wp:=0,WH:=0,WR:=0,Wu:=0,WD:=0,WI:=0,WA:=0,WG:=0,V9:=0,enable:=0,soft:=0}) 29 (j 0) rfl m;have K:=H.set (C':={b with mode:=3,Ws:=0,Wd:=0,WC:=0,Wq:=0,WM:=0,Wl:=0,WJ:=0,sum:=0,WT:=0,WL:=0,WS:=0,WX:=0,Wz:=0,WK:=0,Wm:=0,Wx:=0,WB:=0,Wp:=0,WH:=0,WR:=0,Wu:=0,WD:=0,WI:=0,WA:=0,WG:=0,V9:=0,enable:=0,soft:=0,Xf:=0}) 30 (j 0) rfl m;have L:=K.set (C':={b with mode:=3,Ws:=0,Wd:=0,WC:=0,Wq:=0,WM:=0,Wl:=0,WJ:=0,sum:=0,WT:=0,WL:=0,WS:=0,WX:=0,Wz:=0,WK:=0,Wm:=0,Wx:=0,WB:=0,Wp:=0,WH:=0,WR:=0,Wu:=0,WD:=0,WI:=0,WA:=0,WG:=0,V9:=0,enable:=0,soft:=0,Xf:=0,Wf:=0}) 31 (j 0) rfl m;have M:=L.set (C':={b with mode:=3,Ws:=0,Wd:=0,WC:=0,Wq:=0,WM:=0,Wl:=0,WJ:=0,sum:=0,WT:=0,WL:=0,WS:=0,WX:=0,Wz:=0,WK:=0,Wm:=0,Wx:=0,WB:=0,Wp:=0,WH:=0,WR:=0,Wu:=0,WD:=0,WI:=0,WA:=0,WG:=0,V9:=0,enable:=0,soft:=0,Xf:=0,Wf:=0,Wa:=0}) 32 (j 0) rfl m;have N:=M.set (C':={b with mode:=3,Ws:=0,Wd:=0,WC:=0,Wq:=0,WM:=0,Wl:=0,WJ:=0,sum:=0,WT:=0,WL:=0,WS:=0,WX:=0,Wz:=0,WK:=0,Wm:=0,Wx:=0,WB:=0,Wp:=0,WH:=0,WR:=0,Wu:=0,WD:=0,WI:=0,WA:=0,WG:=0,V9:=0,enable:=0,soft:=0,Xf:=0,Wf:=0,Wa:=0,Wg:=0}) 33 (j 0) rfl m;have O:=N.set (C':={b with mode:=3,Ws:=0,Wd:=0,WC:=0,Wq:=0,WM:=0,Wl:=0,WJ:=0,sum:=0,WT:=0,WL:=0,WS:=0,WX:=0,Wz:=0,WK:=0,Wm:=0,Wx:=0,WB:=0,Wp:=0,WH:=0,WR:=0,Wu:=0,WD:=0,WI:=0,WA:=0,WG:=0,V9:=0,enable:=0,soft:=0,Xf:=0,Wf:=0,Wa:=0,Wg:=0,ret:=0}) 34 (j 0) rfl m;have P:=O.set (C':={b with mode:=3,Ws:=0,Wd:=0,WC:=0,Wq:=0,WM:=0,Wl:=0,WJ:=0,sum:=0,WT:=0,WL:=0,WS:=0,WX:=0,Wz:=0,WK:=0,Wm:=0,Wx:=0,WB:=0,Wp:=0,WH:=0,WR:=0,Wu:=0,WD:=0,WI:=0,WA:=0,WG:=0,V9:=0,enable:=0,soft:=0,Xf:=0,Wf:=0,Wa:=0,Wg:=0,ret:=0,We:=0}) 35 (j 0) rfl m;have R:=P.set (C':={b with mode:=3,Ws:=0,Wd:=0,WC:=0,Wq:=0,WM:=0,Wl:=0,WJ:=0,sum:=0,WT:=0,WL:=0,WS:=0,WX:=0,Wz:=0,WK:=0,Wm:=0,Wx:=0,WB:=0,Wp:=0,WH:=0,WR:=0,Wu:=0,WD:=0,WI:=0,WA:=0,WG:=0,V9:=0,enable:=0,soft:=0,Xf:=0,Wf:=0,Wa:=0,Wg:=0,ret:=0,We:=0,held:=0}) 36 (j 0) rfl m;have S:=R.set (C':={b with mode:=3,Ws:=0,Wd:=0,WC:=0,Wq:=0,WM:=0,Wl:=0,WJ:=0,sum:=0,WT:=0,WL:=0,WS:=0,WX:=0,Wz:=0,WK:=0,Wm:=0,Wx:=0,WB:=0,Wp:=0,WH:=0,WR:=0,Wu:=0,WD:=0,WI:=0,WA:=0,WG:=0,V9:=0,enable:=0,soft:=0,Xf:=0,Wf:=0,Wa:=0,Wg:=0,ret:=0,We:=0,held:=0,W6:=false}) 37 (.bool false) rfl m;have U:=S.set (C':=kH) 38 (.bool false) rfl m;have c:=l U;clear h v J V W X Y Z aa i k n o p q r s t u w x y z A B C E G H K L M N O P R S U;go_enter func242,ntmps242;exact I2
def wg :Q:={mode:=0,Ws:=0,Wd:=0,WC:=0,Wq:=0,WM:=0,Wl:=0,WJ:=0,sum:=0,WT:=0,WL:=0,WS:=0,WX:=0,Wz:=0,WK:=0,Wm:=0,Wx:=0,WB:=0,Wp:=0,WH:=0,WR:=0,Wu:=0,WD:=0,WI:=0,WA:=0,WG:=0,V9:=0,enable:=0,soft:=0,Xf:=0,Wf:=0,Wa:=0,Wg:=0,ret:=0,We:=0,held:=0,W6:=false,W7:=false}
def PR (a:Nat):pY (some ⟨a,0,none⟩)=.cells (ma a wg).toArray 218:=rfl
def PQ (a:Nat)(W:D):T (W.alloc (pY (some ⟨a,0,none⟩))) W.heap.size a wg:=by
 rw[PR];refine⟨fun c b=>?_,fun d=>?_,?_⟩
 . simp
 . simp
 . simp
def ac8 (a:Nat)(W:D):
 Calls prog 233 #[I a] W fun f b=>f=.returned (I W.heap.size)/\T b W.heap.size a kH/\Below W.heap.size W b:=by
 have e:=l (EJ W.heap.size a wg _ (l (PQ a W)));have c:Hid (Below W.heap.size W (W.alloc (pY (some ⟨a,0,none⟩)))):=l ((aq _ _).alloc (aB _) _);have d:Hid (∀b,Kept [W.heap.size] (W.alloc (pY (some ⟨a,0,none⟩))) b->Below W.heap.size W b):=J5;unfold pY at e d;clear c;go_enter func233,ntmps233;go_wp2_with fail;refine e.out.mono ?_;rintro f i ⟨rfl,g,h⟩;go_wp2_with fail;go_ret;exact⟨rfl,g,d.out _ h⟩
structure ai where
 b:P
 f:Q
 x:List Nat
 V3:Nat
 wait:Bool
 res:Nat
structure V (a:D)(b e f d i:Nat)(c:ai):Prop where
 V8:a.cell? ⟨b,0,none⟩=some (I e)
 c1:a.cell? ⟨b,1,none⟩=some (I f)
 c2:a.cell? ⟨b,2,none⟩=some (.slice (some ⟨d,0,none⟩) 32 32)
 c3:a.cell? ⟨b,3,none⟩=some (j c.V3)
 c4:a.cell? ⟨b,4,none⟩=some (.bool c.wait)
 c5:a.cell? ⟨b,5,none⟩=some (j c.res)
 Wb:∀h,a.frozen? ⟨b,h,none⟩=false
 lt:b<a.heap.size
 Wt:ap a e i c.b
 WW:T a f e c.f
 XD:c.x.length=32
 cr:∀g (k:g<c.x.length),a.cell? ⟨d,g,none⟩=some (j c.x[g])
 X7:∀h,a.frozen? ⟨d,h,none⟩=false
 Xc:d<a.heap.size
 nodup:[b,e,f,d,i].Nodup
theorem V.more {m w':D}{c g h f i:Nat}{j:ai}{G:List Nat}(a:V m c g h f i j)(b:Kept G m w')(d:c∉G)(o:g∉G)(q:h∉G)(k:f∉G)(r:i∉G):V w' c g h f i j:=
 ⟨(b.cell (p:=⟨c,0,none⟩) a.lt d).trans a.V8,(b.cell (p:=⟨c,1,none⟩) a.lt d).trans a.c1,(b.cell (p:=⟨c,2,none⟩) a.lt d).trans a.c2,(b.cell (p:=⟨c,3,none⟩) a.lt d).trans a.c3,(b.cell (p:=⟨c,4,none⟩) a.lt d).trans a.c4,(b.cell (p:=⟨c,5,none⟩) a.lt d).trans a.c5,fun e=>(b.frozen (p:=⟨c,e,none⟩) a.lt d).trans (a.Wb e),aR a.lt b.size,a.Wt.more b o r,a.WW.more b q,a.XD,fun l s=>(b.cell (p:=⟨f,l,none⟩) a.Xc k).trans (a.cr l s),fun e=>(b.frozen (p:=⟨f,e,none⟩) a.Xc k).trans (a.X7 e),aR a.Xc b.size,a.nodup⟩
def ab (a i:Nat):Bool:=decide (a/2^i%2=1)
def Be (mode a:Nat)(b r e c sum d:Bool):Bool:=
 if decide (mode=0)=true/\b=false then false
 else if decide (mode=1)=true/\b=true/\(decide (a=0)=true\/sum=false)then false
 else if a=0 then c else if a=1 then(if r=true then true else if d=true then c else false)else e
def g5 (b:Q)(a c mode:Nat):Bool:=Be mode c (ab a 4) (ab a 1) (ab a 2) (ab a 3) (decide (b.sum=1)) (decide (b.WT=1))
def gG (a:Nat):Nat:=if a=1 then 4194304 else 4096
def ko (c a:Bool)(b:Nat):Nat:=if c=true then(if b=2 then(if a=true then 0 else 128)else 0)else(if b=2 then(if a=true then 64 else 192)else 64)
def fO (b:P)(e:Q)(a f d g c mode:Nat):(Nat×Nat)×P:=
 if g5 e a c mode=false then((0,1),b)
 else if d=1/\¬a/1024%1024=0 then((0,1),b)
 else((a/1024*4096+g%gG d,0),if ko (ab a 6) (ab a 7) c=0 then b else{b with o:=bu b.o (f-2147483648) 4 (a+ko (ab a 6) (ab a 7) c)})
def dg (b c a:Nat):Nat:=b+c/gG a%1024*4
def bB (a:P)(b:Nat):Nat:=cc a (b-2147483648) 4
def fY (a:P)(d:Q)(c b e mode:Nat):(Nat×Nat)×P:=
 if a1 (dg c b 0:Nat) 4 a.o.length=false then((0,2),a)
 else if ab (bB a (dg c b 0)) 0=false\/(ab (bB a (dg c b 0)) 2=true/\ab (bB a (dg c b 0)) 1=false)then((0,1),a)
 else if ab (bB a (dg c b 0)) 1=false/\ab (bB a (dg c b 0)) 3=false then((0,1),a)
 else fO a d (bB a (dg c b 0)) (dg c b 0) 0 b e mode
def fC (a:P)(d:Q)(c b e mode:Nat):(Nat×Nat)×P:=
 if a1 (dg c b 1:Nat) 4 a.o.length=false then((0,2),a)
 else if ab (bB a (dg c b 1)) 0=false\/(ab (bB a (dg c b 1)) 2=true/\ab (bB a (dg c b 1)) 1=false)then((0,1),a)
 else if ab (bB a (dg c b 1)) 1=false/\ab (bB a (dg c b 1)) 3=false then
  (if ab (bB a (dg c b 1)) 4=true\/ab (bB a (dg c b 1)) 6=true\/ab (bB a (dg c b 1)) 7=true then((0,1),a)
   else fY a d (bB a (dg c b 1)/1024*4096) b e mode)
 else fO a d (bB a (dg c b 1)) (dg c b 1) 1 b e mode
def nF (a:P)(b:Nat):bB a b<4294967296:=by
 unfold bB cc;have d:=p7 ((a.o.drop (b-2147483648)).take 4);have c:((a.o.drop (b-2147483648)).take 4).length<=4:=M;have e:256^((a.o.drop (b-2147483648)).take 4).length<=256^4:=cY m c;omega
def jR {a b:Nat}(c:a1 (a:Nat) 4 b=true):2147483648<=a/\a-2147483648+4<=b:=by
 unfold a1 at c;simp at c;omega
structure A1 where
 V5:Nat
 WG:Nat
 V9:Nat
 Wd:Nat
 Wo:Nat
 Wz:Nat
 Wp:Nat
 W8:Nat
 WK:Nat
 Wm:Nat
 Wx:Nat
 WB:Nat
 WH:Nat
 WA:Nat
 WR:Nat
 Wu:Nat
 WD:Nat
 WI:Nat
 Wf:Nat
 Wy:Nat
 WN:Nat
 ret:Nat
 We:Nat
structure N where
 b:P
 c:A1
 x:List Nat
 V3:Nat
 mode:Nat
 waits:Bool
 W9:Bool
 WU:Nat
def ct (b:Nat)(a:N):List Value:=[.slice (some ⟨b,0,none⟩) a.b.o.length a.b.o.length,j (a.x.getD 0 0),j (a.x.getD 1 0),j (a.x.getD 2 0),j (a.x.getD 3 0),j (a.x.getD 4 0),j (a.x.getD 5 0),j (a.x.getD 6 0),j (a.x.getD 7 0),j (a.x.getD 8 0),j (a.x.getD 9 0),j (a.x.getD 10 0),j (a.x.getD 11 0),j (a.x.getD 12 0),j (a.x.getD 13 0),j (a.x.getD 14 0),j (a.x.getD 15 0),j (a.x.getD 16 0),j (a.x.getD 17 0),j (a.x.getD 18 0),j (a.x.getD 19 0),j (a.x.getD 20 0),j (a.x.getD 21 0),j (a.x.getD 22 0),j (a.x.getD 23 0),j (a.x.getD 24 0),j (a.x.getD 25 0),j (a.x.getD 26 0),j (a.x.getD 27 0),j (a.x.getD 28 0),j (a.x.getD 29 0),j (a.x.getD 30 0),j (a.x.getD 31 0),j a.V3,j a.mode,.bool a.waits,.bool a.W9,j a.WU,j a.c.V5,j a.c.WG,j a.c.V9,j a.c.Wd,j a.c.Wo,j a.c.Wz,j a.c.Wp,j a.c.W8,j a.c.WK,j a.c.Wm,j a.c.Wx,j a.c.WB,j a.c.WH,j a.c.WA,j a.c.WR,j a.c.Wu,j a.c.WD,j a.c.WI,j a.c.Wf,j a.c.Wy,j a.c.WN,j a.c.ret,j a.c.We,j a.b.Wj,j a.b.time,j a.b.Wh,j a.b.cmp,j a.b.Wv,j a.b.enable,j a.b.Wr,.bool a.b.lost,.string a.b.rx,.string a.b.Wc]
structure E (a:D)(c b:Nat)(d:N):Prop where
 cell:∀f,f<71->a.cell? ⟨c,f,none⟩=(ct b d)[f]?
 Wb:∀g,a.frozen? ⟨c,g,none⟩=false
 lt:c<a.heap.size
 o:∀e (h:e<d.b.o.length),a.cell? ⟨b,e,none⟩=some (.int .u8 (d.b.o[e].toNat:Int))
 XA:∀g,a.frozen? ⟨b,g,none⟩=false
 Ww:b<a.heap.size
 ne:c≠b
abbrev an (g:Nat)(e:Array Value)(r:Value)(c:List Nat)(h i:Nat)(d:N)(b:D):Prop:=Calls prog g e b fun f a=>f=.returned r/\E a h i d/\Kept c b a
def E.more {k w':D}{c e:Nat}{f:N}{G:List Nat}(a:E k c e f)(b:Kept G k w')(g:c∉G)(h:e∉G):E w' c e f:=
 ⟨fun j l=>(b.cell (p:=⟨c,j,none⟩) a.lt g).trans (a.cell j l),fun d=>(b.frozen (p:=⟨c,d,none⟩) a.lt g).trans (a.Wb d),aR a.lt b.size,fun i m=>(b.cell (p:=⟨e,i,none⟩) a.Ww h).trans (a.o i m),fun d=>(b.frozen (p:=⟨e,d,none⟩) a.Ww h).trans (a.XA d),aR a.Ww b.size,a.ne⟩
def E.kept {e a:D}{c d:Nat}{b:N}(f:E e c d b)(g:Kept [] e a):E a c d b:=f.more g (by simp) (by simp)
theorem E.alloc {a c e b}(f:E a c e b)(d:Obj):E (a.alloc d) c e b:=f.kept ((Kept.refl [] a).alloc d)
theorem E.drew {a c rb b}(d:E a c rb b):E a.drew c rb b:=d.kept (Kept.refl [] a).drew
def om (b:Nat)(a:N):(ct b a).length=71:=rfl
theorem E.set {l:D}{g f:Nat}{e X':N}(b:E l g f e)(a:Nat)(k:Value)(n:ct f X'=(ct f e).set a k)(q:X'.b.o=e.b.o)(t:a<71):E (l.setCell ⟨g,a,none⟩ k) g f X':=by
 have w:=om f e;obtain⟨-,s,u,-,-,-,d⟩:=id b;have p:¬f=g:=vk;have h:=b.cell a t;rw[fa (show a< (ct f e).length by omega)]at h;refine⟨fun c i=>?_,?_,?_,?_,?_,?_,d⟩
 . exact I0
 . simp[go_sem,s]
 . simp[go_sem,u]
 . intro c i;have o:c<e.b.o.length:=by rw[<-q];exact i
   have r:=b.o c o;have:X'.b.o[c]=e.b.o[c]:=by congr 1
   rw[this,<-r];simp[go_sem,p,d]
 . have:=b.XA;simp[go_sem,this]
 . have:=b.Ww;simp[go_sem,this]
def E.V8 {d b c a}(e:E d b c a):d.cell? ⟨b,0,none⟩=some (.slice (some ⟨c,0,none⟩) a.b.o.length a.b.o.length):=e.cell 0 (by omega)
def E.c1 {c b e a}(d:E c b e a):c.cell? ⟨b,1,none⟩=some (j (a.x.getD 0 0)):=d.cell 1 (by omega)
def E.c2 {c b e a}(d:E c b e a):c.cell? ⟨b,2,none⟩=some (j (a.x.getD 1 0)):=d.cell 2 (by omega)
def E.c3 {c b e a}(d:E c b e a):c.cell? ⟨b,3,none⟩=some (j (a.x.getD 2 0)):=d.cell 3 (by omega)
def E.c4 {c b e a}(d:E c b e a):c.cell? ⟨b,4,none⟩=some (j (a.x.getD 3 0)):=d.cell 4 (by omega)
def E.c5 {c b e a}(d:E c b e a):c.cell? ⟨b,5,none⟩=some (j (a.x.getD 4 0)):=d.cell 5 (by omega)
def E.W4 {c b e a}(d:E c b e a):c.cell? ⟨b,6,none⟩=some (j (a.x.getD 5 0)):=d.cell 6 (by omega)
def E.W5 {c b e a}(d:E c b e a):c.cell? ⟨b,7,none⟩=some (j (a.x.getD 6 0)):=d.cell 7 (by omega)
def E.Xj {c b e a}(d:E c b e a):c.cell? ⟨b,8,none⟩=some (j (a.x.getD 7 0)):=d.cell 8 (by omega)
def E.Xi {c b e a}(d:E c b e a):c.cell? ⟨b,9,none⟩=some (j (a.x.getD 8 0)):=d.cell 9 (by omega)
def E.Xt {c b e a}(d:E c b e a):c.cell? ⟨b,10,none⟩=some (j (a.x.getD 9 0)):=d.cell 10 (by omega)
def E.XO {c b e a}(d:E c b e a):c.cell? ⟨b,11,none⟩=some (j (a.x.getD 10 0)):=d.cell 11 (by omega)
def E.X1 {c b e a}(d:E c b e a):c.cell? ⟨b,12,none⟩=some (j (a.x.getD 11 0)):=d.cell 12 (by omega)
def E.X2 {c b e a}(d:E c b e a):c.cell? ⟨b,13,none⟩=some (j (a.x.getD 12 0)):=d.cell 13 (by omega)
def E.Yd {c b e a}(d:E c b e a):c.cell? ⟨b,14,none⟩=some (j (a.x.getD 13 0)):=d.cell 14 (by omega)
def E.Ys {c b e a}(d:E c b e a):c.cell? ⟨b,15,none⟩=some (j (a.x.getD 14 0)):=d.cell 15 (by omega)
def E.X3 {c b e a}(d:E c b e a):c.cell? ⟨b,16,none⟩=some (j (a.x.getD 15 0)):=d.cell 16 (by omega)
def E.Ye {c b e a}(d:E c b e a):c.cell? ⟨b,17,none⟩=some (j (a.x.getD 16 0)):=d.cell 17 (by omega)
def E.Yf {c b e a}(d:E c b e a):c.cell? ⟨b,18,none⟩=some (j (a.x.getD 17 0)):=d.cell 18 (by omega)
def E.Yg {c b e a}(d:E c b e a):c.cell? ⟨b,19,none⟩=some (j (a.x.getD 18 0)):=d.cell 19 (by omega)
def E.Yh {c b e a}(d:E c b e a):c.cell? ⟨b,20,none⟩=some (j (a.x.getD 19 0)):=d.cell 20 (by omega)
def E.Yt {c b e a}(d:E c b e a):c.cell? ⟨b,21,none⟩=some (j (a.x.getD 20 0)):=d.cell 21 (by omega)
def E.X4 {c b e a}(d:E c b e a):c.cell? ⟨b,22,none⟩=some (j (a.x.getD 21 0)):=d.cell 22 (by omega)
def E.Yi {c b e a}(d:E c b e a):c.cell? ⟨b,23,none⟩=some (j (a.x.getD 22 0)):=d.cell 23 (by omega)
def E.Yj {c b e a}(d:E c b e a):c.cell? ⟨b,24,none⟩=some (j (a.x.getD 23 0)):=d.cell 24 (by omega)
def E.Yk {c b e a}(d:E c b e a):c.cell? ⟨b,25,none⟩=some (j (a.x.getD 24 0)):=d.cell 25 (by omega)
def E.Yl {c b e a}(d:E c b e a):c.cell? ⟨b,26,none⟩=some (j (a.x.getD 25 0)):=d.cell 26 (by omega)
def E.XB {c b e a}(d:E c b e a):c.cell? ⟨b,27,none⟩=some (j (a.x.getD 26 0)):=d.cell 27 (by omega)
def E.XI {c b e a}(d:E c b e a):c.cell? ⟨b,28,none⟩=some (j (a.x.getD 27 0)):=d.cell 28 (by omega)
def E.X5 {c b e a}(d:E c b e a):c.cell? ⟨b,29,none⟩=some (j (a.x.getD 28 0)):=d.cell 29 (by omega)
def E.Ym {c b e a}(d:E c b e a):c.cell? ⟨b,30,none⟩=some (j (a.x.getD 29 0)):=d.cell 30 (by omega)
def E.X6 {c b e a}(d:E c b e a):c.cell? ⟨b,31,none⟩=some (j (a.x.getD 30 0)):=d.cell 31 (by omega)
def E.Ya {c b e a}(d:E c b e a):c.cell? ⟨b,32,none⟩=some (j (a.x.getD 31 0)):=d.cell 32 (by omega)
def E.Xk {c b e a}(d:E c b e a):c.cell? ⟨b,33,none⟩=some (j a.V3):=d.cell 33 (by omega)
def E.Xl {c b e a}(d:E c b e a):c.cell? ⟨b,34,none⟩=some (j a.mode):=d.cell 34 (by omega)
def E.Xq {c b e a}(d:E c b e a):c.cell? ⟨b,35,none⟩=some (.bool a.waits):=d.cell 35 (by omega)
def E.XJ {c b e a}(d:E c b e a):c.cell? ⟨b,36,none⟩=some (.bool a.W9):=d.cell 36 (by omega)
def E.XC {c b e a}(d:E c b e a):c.cell? ⟨b,37,none⟩=some (j a.WU):=d.cell 37 (by omega)
def E.Xm {c b e a}(d:E c b e a):c.cell? ⟨b,38,none⟩=some (j a.c.V5):=d.cell 38 (by omega)
def E.Y1 {c b e a}(d:E c b e a):c.cell? ⟨b,39,none⟩=some (j a.c.WG):=d.cell 39 (by omega)
def E.YB {c b e a}(d:E c b e a):c.cell? ⟨b,40,none⟩=some (j a.c.V9):=d.cell 40 (by omega)
def E.YE {c b e a}(d:E c b e a):c.cell? ⟨b,41,none⟩=some (j a.c.Wd):=d.cell 41 (by omega)
def E.Yr {c b e a}(d:E c b e a):c.cell? ⟨b,42,none⟩=some (j a.c.Wo):=d.cell 42 (by omega)
def E.Y2 {c b e a}(d:E c b e a):c.cell? ⟨b,43,none⟩=some (j a.c.Wz):=d.cell 43 (by omega)
def E.Y3 {c b e a}(d:E c b e a):c.cell? ⟨b,44,none⟩=some (j a.c.Wp):=d.cell 44 (by omega)
def E.Y4 {c b e a}(d:E c b e a):c.cell? ⟨b,45,none⟩=some (j a.c.W8):=d.cell 45 (by omega)
def E.Zu {c b e a}(d:E c b e a):c.cell? ⟨b,46,none⟩=some (j a.c.WK):=d.cell 46 (by omega)
def E.YL {c b e a}(d:E c b e a):c.cell? ⟨b,47,none⟩=some (j a.c.Wm):=d.cell 47 (by omega)
def E.Y5 {c b e a}(d:E c b e a):c.cell? ⟨b,48,none⟩=some (j a.c.Wx):=d.cell 48 (by omega)
def E.Y6 {c b e a}(d:E c b e a):c.cell? ⟨b,49,none⟩=some (j a.c.WB):=d.cell 49 (by omega)
def E.Y7 {c b e a}(d:E c b e a):c.cell? ⟨b,50,none⟩=some (j a.c.WH):=d.cell 50 (by omega)
def E.Y8 {c b e a}(d:E c b e a):c.cell? ⟨b,51,none⟩=some (j a.c.WA):=d.cell 51 (by omega)
def E.Zv {c b e a}(d:E c b e a):c.cell? ⟨b,52,none⟩=some (j a.c.WR):=d.cell 52 (by omega)
def E.YM {c b e a}(d:E c b e a):c.cell? ⟨b,53,none⟩=some (j a.c.Wu):=d.cell 53 (by omega)
def E.Y9 {c b e a}(d:E c b e a):c.cell? ⟨b,54,none⟩=some (j a.c.WD):=d.cell 54 (by omega)
def E.Za {c b e a}(d:E c b e a):c.cell? ⟨b,55,none⟩=some (j a.c.WI):=d.cell 55 (by omega)
def E.Yv {c b e a}(d:E c b e a):c.cell? ⟨b,56,none⟩=some (j a.c.Wf):=d.cell 56 (by omega)
def E.Yb {c b e a}(d:E c b e a):c.cell? ⟨b,57,none⟩=some (j a.c.Wy):=d.cell 57 (by omega)
def E.Yc {c b e a}(d:E c b e a):c.cell? ⟨b,58,none⟩=some (j a.c.WN):=d.cell 58 (by omega)
def E.XG {c b e a}(d:E c b e a):c.cell? ⟨b,59,none⟩=some (j a.c.ret):=d.cell 59 (by omega)
def E.XH {c b e a}(d:E c b e a):c.cell? ⟨b,60,none⟩=some (j a.c.We):=d.cell 60 (by omega)
def E.Yw {c b e a}(d:E c b e a):c.cell? ⟨b,61,none⟩=some (j a.b.Wj):=d.cell 61 (by omega)
def E.XP {c b e a}(d:E c b e a):c.cell? ⟨b,62,none⟩=some (j a.b.time):=d.cell 62 (by omega)
def E.XQ {c b e a}(d:E c b e a):c.cell? ⟨b,63,none⟩=some (j a.b.Wh):=d.cell 63 (by omega)
def E.Yx {c b e a}(d:E c b e a):c.cell? ⟨b,64,none⟩=some (j a.b.cmp):=d.cell 64 (by omega)
def E.Yy {c b e a}(d:E c b e a):c.cell? ⟨b,65,none⟩=some (j a.b.Wv):=d.cell 65 (by omega)
def E.XR {c b e a}(d:E c b e a):c.cell? ⟨b,66,none⟩=some (j a.b.enable):=d.cell 66 (by omega)
def E.XS {c b e a}(d:E c b e a):c.cell? ⟨b,67,none⟩=some (j a.b.Wr):=d.cell 67 (by omega)
def E.XT {c b e a}(d:E c b e a):c.cell? ⟨b,68,none⟩=some (.bool a.b.lost):=d.cell 68 (by omega)
def E.XK {c b e a}(d:E c b e a):c.cell? ⟨b,69,none⟩=some (.string a.b.rx):=d.cell 69 (by omega)
def E.XL {c b e a}(d:E c b e a):c.cell? ⟨b,70,none⟩=some (.string a.b.Wc):=d.cell 70 (by omega)
theorem my (d:Nat):∀(c:List Value) (b:Nat) (a:D),(a.setCells d b c).heap.size=a.heap.size
 |[],b,a=>rfl
 |e::c,b,a=>by rw[World.setCells,my d c];simp[World.setCell]
def E.Xh {h:D}{f g:Nat}{e X':N}(c:E h f g e)(a:Nat)(d:List Value)(k:ct g X'=(ct g e).take a++d++(ct g e).drop (a+d.length))(t:a+d.length<=71)(p:X'.b.o=e.b.o):E (h.setCells f a d) f g X':=by
 have u:=om g e;refine⟨fun b j=>?_,?_,?_,?_,?_,?_,c.ne⟩
 . rw[k];by_cases n:b<a
   . rw[yi f d a h _ (fun _ _=>.inl n),c.cell b j,oD,tV (by simp;omega),FF n]
   by_cases r:b<a+d.length
   . obtain⟨i,rfl⟩:∃i,b=a+i:=⟨b-a,by omega⟩;have:=World.cell?_setCells_in f d a h (fun i s=>by rw[c.cell (a+i) (by omega),fa (by omega)];rfl) i m;rw[this,tV (by simp;omega),tW (by simp;omega),mP,show a+i-min a (ct g e).length=i by omega,fa (by omega)]
   . rw[yi f d a h _ (fun _ _=>.inr (by show a+d.length<=b;omega)),c.cell b j,tW (by simp;omega),oE,mQ,mP];congr 1;omega
 . intro l;rw[tX];exact c.Wb l
 . rw[my];exact c.lt
 . intro b j;have o:b<e.b.o.length:=by rw[<-p];exact j
   have q:=c.o b o;have:X'.b.o[b]=e.b.o[b]:=by congr 1
   rw[this,<-q];exact yi f d a h _ (fun k _=>absurd k.symm c.ne)
 . intro l;rw[tX];exact c.XA l
 . rw[my];exact c.Ww
theorem Kept.Xh {d:List Nat}{e:D}(a:Nat)(h:a∈d\/e.heap.size<=a):∀(g:List Value) (b:Nat) (c:D),Kept d e c->Kept d e (c.setCells a b g)
 |[],b,c,f=>f
 |i::g,b,c,f=>Kept.Xh a h g (b+1) _ (f.setCell h i)
def E.YF {e c h f}(b:E e c h f)(a d:Nat)(j:a+d<=71):e.there c a d:=fun g i=>⟨by rw[b.cell (a+g) (by omega),fa (by rw[om];omega)];rfl,b.Wb _⟩
def E.range {g e f a}(h:E g e f a):g.rangeAt e 0 (ct f a):=fun j k c=>by
 have b:=(oF.1 c).1
 rw[om]at b
 rw[eh,h.cell j b,c]
def S (a:N):Q:={mode:=a.mode,Ws:=a.c.V5/2^1%2,Wd:=a.c.V5/2^3%2,WC:=a.c.V5/2^5%2,Wq:=a.c.V5/2^7%2,WM:=a.c.V5/2^8%2,Wl:=a.c.V5/2048%4,WJ:=a.c.V5/2^17%2,sum:=a.c.V5/2^18%2,WT:=a.c.V5/2^19%2,WL:=a.c.V5/2^20%2,WS:=a.c.V5/2^21%2,WX:=a.c.V5/2^22%2,Wz:=a.c.Wz,WK:=a.c.WK,Wm:=a.c.Wm,Wx:=a.c.Wx,WB:=a.c.WB,Wp:=a.c.Wp,WH:=a.c.WH,WR:=a.c.WR,Wu:=a.c.Wu,WD:=a.c.WD,WI:=a.c.WI,WA:=a.c.WA,WG:=a.c.WG,V9:=a.c.V9,enable:=a.c.Wd,soft:=a.c.Wo,Xf:=a.c.W8,Wf:=a.c.Wf,Wa:=a.c.Wy,Wg:=a.c.WN,ret:=a.c.ret,We:=a.c.We,held:=0,W6:=false,W7:=false}
structure af (a:N):Prop where
 b:aT a.b
 x:a.x.length=32
 WE:∀i,a.x.getD i 0<4294967296
 V3:a.V3<4294967296
 mode:a.mode=0\/a.mode=1\/a.mode=3
 V5:a.c.V5<4294967296
 Wf:a.c.Wf<4294967296
 Wd:a.c.Wd<4294967296
 Wo:a.c.Wo<=546
 WG:a.c.WG<4294967296
 V9:a.c.V9<4294967296
 Wz:a.c.Wz<4294967296
 Wp:a.c.Wp<8
 W8:a.c.W8<8
 WK:a.c.WK<4294967296
 Wm:a.c.Wm<4294967296
 Wx:a.c.Wx<4294967296
 WB:a.c.WB<4294967296
 WH:a.c.WH<4294967296
 WA:a.c.WA<8
 WR:a.c.WR<4294967296
 Wu:a.c.Wu<4294967296
 WD:a.c.WD<4294967296
 WI:a.c.WI<4294967296
 Wy:a.c.Wy<4294967296
 WN:a.c.WN<4294967296
 ret:a.c.ret<4294967296
 We:a.c.We<4294967296
 WU:a.WU<17184063488
 Wl:a.c.V5/2048%4≠2
def fL (a i:Nat):a&&&2^i=if ab a i=true then 2^i else 0:=by
 refine hx fun d=>?_;rw[dd];have e:ab a i=a.testBit i:=by unfold ab;rw[mM]
 rw[e];by_cases b:i=d
 . subst b;cases f:a.testBit i<;>simp
 . have c:(2^i).testBit d=false:=by rw[tY];simp[b]
   rw[c,lr];split
   . exact c.symm
   . simp
def l2 (a b c:Nat):a&&& (b |||c)=(a&&&b) |||(a&&&c):=Nat.and_or_distrib_left a b c
def aap (a:Nat):decide (a&&&1=0)=!ab a 0:=by
 have b:=fL a 0;rw[show(2:Nat)^0=1 from rfl]at b;rw[b];cases ab a 0<;>rfl
def aas (a:Nat):decide (a&&&6=4)=(ab a 2&&!ab a 1):=by
 have b:a&&&6=(a&&&2^1) |||(a&&&2^2):=l2 a 2 4;rw[b,fL,fL];cases ab a 1<;>cases ab a 2<;>rfl
def Ed (a:Nat):decide (a&&&10=0)=(!ab a 1&&!ab a 3):=by
 have b:a&&&10=(a&&&2^1) |||(a&&&2^3):=l2 a 2 8;rw[b,fL,fL];cases ab a 1<;>cases ab a 3<;>rfl
def aar (a:Nat):decide (a&&&208=0)=(!ab a 4&&!ab a 6&&!ab a 7):=by
 have b:a&&&208=((a&&&2^4) |||(a&&&2^6)) |||(a&&&2^7):=by rw[<-l2,<-l2];rfl
 rw[b,fL,fL,fL];cases ab a 4<;>cases ab a 6<;>cases ab a 7<;>rfl
def aaq (a:Nat):decide (a&&&16=0)=!ab a 4:=by
 have b:=fL a 4;rw[show(2:Nat)^4=16 from rfl]at b;rw[b];cases ab a 4<;>rfl
def dj (a i:Nat):decide (a&&&2^i=0)=!ab a i:=by
 rw[fL];cases ab a i
 . simp
 . have:¬2^i=0:=Nat.pos_iff_ne_zero.1 (lp i);simp[this]
def w6 (a i:Nat):a |||2^i=if ab a i=true then a else a+2^i:=by
 have b:=n0 _ a (2^i) (aB _);rw[fL]at b;split at b<;>rename_i c<;>simp[c]<;>omega
def Pq (a:Nat)(b:ab a 6=false):ab (a+64) 7=ab a 7:=by
 unfold ab at *;simp at *;omega
def hM (a b:Nat):Nat:=if b=2 then(a |||64) |||128 else a |||64
theorem Tl (a d:Nat):hM a d=a+ko (ab a 6) (ab a 7) d:=by
 have b:=w6 a 6;rw[show(2:Nat)^6=64 from rfl]at b;unfold hM ko;cases e:ab a 6 with
 |true=>
  rw[e]at b;simp only[if_true]at b;rw[b];have c:=w6 a 7;rw[show(2:Nat)^7=128 from rfl]at c;rw[c];cases ab a 7<;>by_cases f:d=2<;>simp[f]
 |false=>
  rw[e]at b;simp at b;rw[b];have c:=w6 (a+64) 7;rw[show(2:Nat)^7=128 from rfl,Pq a e]at c;rw[c];cases ab a 7<;>by_cases f:d=2<;>simp[f]
def xv {c:Type}(a:List c)(p:Nat)(e:p<a.length)(b:c)(d:b=a[p]):a.set p b=a:=by subst d;simp
theorem DZ :∀(a:Nat) (r:List L) (p:Nat),p+a<=r.length->bu r p a (ff ((r.drop p).take a))=r
 |0,r,p,e=>rfl
 |a+1,r,p,e=>by
  have b:p<r.length:=by omega
  rw[js b,List.take_succ_cons]
  simp only[ff,bu]
  have c:UInt8.ofNat (r[p].toNat+256*ff ((r.drop (p+1)).take a))=r[p]:=by
   apply oy.1;have:=gJ r[p];simp
  have d:(r[p].toNat+256*ff ((r.drop (p+1)).take a))/256=ff ((r.drop (p+1)).take a):=by
   have:=gJ r[p];omega
  rw[c,d,xv r p b _ rfl];exact DZ a r (p+1) (by omega)
end Go.Proofs.YtmlgonbhoknoiaaGreatDoor
