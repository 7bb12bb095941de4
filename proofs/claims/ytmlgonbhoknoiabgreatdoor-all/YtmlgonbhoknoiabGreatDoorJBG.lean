import Derived.Test.YtmlgonbhoknoiabGreatDoorJBB
set_option maxHeartbeats 8000000
set_option maxRecDepth 100000
set_option linter.all false
namespace Go.Proofs.YtmlgonbhoknoiabGreatDoor
open Go.RowKit Go.Proofs.Tryz
def hn (i:U):Nat->Nat->Option Nat
 |_,0=>none
 |a,b+1=>if a%4≠3/\dx (cD a).1 i=true then some a else hn i (a+1) b
def en (i:U):Nat:=C.draw (C.ah (aW.word i.op).Wi.data.toList (aW.word i.op).Wi.size) i.rd i.V1 i.V6 i.V2
def TY (i:U)(a:i.op<1\/70<i.op)(b:D):
 ac 118 #[aV i] (.tuple #[j 0,j 3]) b:=by
 unfold aV;rcases a with a|a
 . exact AX
 . have c:¬i.op<1:=J;exact AX
def TX (i:U)(b:1<=i.op)(c:i.op<=70)(d:(i.V4==4)=false)(e:(i.V4==2)=false)(a:D):
 ac 118 #[aV i] (.tuple #[j 0,j 3]) a:=by
 unfold aV;exact AX
def DP (i:U)(a b:Nat):hn i a (b+1)=if a%4≠3/\dx (cD a).1 i=true then some a else hn i (a+1) b:=rfl
theorem TQ (i:U)(F:1<=i.op)(G:i.op<=70)(H:(i.V4==4)=false)(I:(i.V4==2)=true)(c:Nat)(E:Hid (c=65536))(k:D):
 Calls prog 118 #[aV i] k fun r A=>(∃o:Option Nat,Hid (o=hn i 0 c)/\r=.returned (.tuple #[j (o.getD 0:Nat),j (bif o.isSome then 0 else 3)]))/\Below k.heap.size k A:=by
 unfold aV;go_enter func118,ntmps118;go_wp2;go_loopw [9] (fun n wr=>∃b e:Nat,Hid (b+e=c)/\n=j b/\dF i k wr/\Hid (hn i b e=hn i 0 c)) (fun n _=>c- (intOf n).toNat);case atStart=>exact⟨0,c,(by omega:0+c=c),rfl,dF.start _ _ _,rfl⟩
 case round=>
  obtain⟨b,e,l,rfl,f,d⟩:=hrel;cases e with
  |succ e=>
   have v:(b:Int)<65536:=HM;have w:b<c:=by have C:=l.out;omega
   have q:=cE w;clear w;rw[DP]at d;have p:Hid (b+1+e=c):=(by have C:=l.out;omega:b+1+e=c);clear l;by_cases m:b%4=3
   . have x:((b:Int)%4 !=3)=false:=M;rw[z (fun g=>g.1 m)]at d;clear m;go_wp2;go_roundw;case rel=>exact⟨b+1,e,p,by go_num,f,d⟩
     case measure=>have:=q.out;simp[intOf];omega
   . have x:((b:Int)%4 !=3)=true:=M;go_wp2_with fail;refine(qC b _).mono ?_;rintro r J ⟨rfl,s⟩;replace f:=f.more s;clear s;obtain⟨a,u⟩:=y ((cD b).1);rw[<-u]at d|-;clear u;obtain⟨-,-,K,L,N,O,P,Q⟩:=id f;have v:=f.lt;simp only[aV];have t:=wN a.op a.rd a.V1 a.V6 a.V2 a.V4 i.op i.rd i.V1 i.V6 i.V2 i.V4;cases h:dx a i
     . rw[show(a.op==i.op&&a.rd==i.rd&&a.V1==i.V1&&a.V6==i.V6&&a.V2==i.V2&&a.V4==i.V4)=false from h]at t;rw[z (fun g=>by rw[h]at g;cases g.2)]at d;go_wp2;go_roundw;case rel=>exact⟨b+1,e,p,by go_num,f.alloc _,d⟩
       case measure=>have:=q.out;simp[intOf];omega
     . rw[show(a.op==i.op&&a.rd==i.rd&&a.V1==i.V1&&a.V6==i.V6&&a.V2==i.V2&&a.V4==i.V4)=true from h]at t;rw[B ⟨m,h⟩]at d;go_wp2;go_ret2;exact⟨⟨some b,d,rfl⟩,(f.alloc _).below⟩
  |zero=>
   have v:¬(b:Int)<65536:=HM;go_wp2;go_ret2;exact⟨⟨none,d,rfl⟩,f.below⟩
def T0 (a:K)(q:a.size<=32)(p:∀w∈a.data.toList,w.toNat<=122)(h g:Int)(c d e:Int)(t:0<=c)(u:0<=d)(v:0<=e)(z:c<=9223372036854775807)(x:d<=9223372036854775807)(y:e<=9223372036854775807)(b:Int)(r:-1099511627776<=b)(s:b<=1099511627776)(f:D):
 Calls prog 159 #[.string a,.agg #[j h,j c,j d,j e,j b,j g]] f fun o i=>
  o=.returned (j (C.draw (C.ah a.data.toList a.size) c d e b))/\Below f.heap.size f i:=by
 obtain⟨k,rfl⟩:=h7 t;obtain⟨l,rfl⟩:=h7 u;obtain⟨n,rfl⟩:=h7 v;exact TZ a q p h g k l n m m m b r s f
def aeO (a:Int)(f:1<=a)(g:a<=70):(aW.word a).Wi.size<=32/\(∀e∈ (aW.word a).Wi.data.toList,e.toNat<=122):=by
 obtain⟨d,rfl⟩:=h7 (show 0<=a by omega);obtain⟨b,c,_⟩:=xI (cX.1 Fj d ad);exact⟨b,c⟩
def TS (i:U)(b:1<=i.op)(c:i.op<=70)(f:(i.V4==4)=true)(g:i.rd<0)(a:D):
 ac 118 #[aV i] (.tuple #[j 0,j 3]) a:=sy
def TT (i:U)(b:1<=i.op)(c:i.op<=70)(f:(i.V4==4)=true)(g:0<=i.rd)(h:i.V1<0)(a:D):
 ac 118 #[aV i] (.tuple #[j 0,j 3]) a:=sy
def TU (i:U)(b:1<=i.op)(c:i.op<=70)(f:(i.V4==4)=true)(g:0<=i.rd)(h:0<=i.V1)(k:i.V6<0)(a:D):
 ac 118 #[aV i] (.tuple #[j 0,j 3]) a:=sy
def TV (i:U)(b:1<=i.op)(c:i.op<=70)(f:(i.V4==4)=true)(g:0<=i.rd)(h:0<=i.V1)(k:0<=i.V6)(l:i.V2 < -1099511627776)(a:D):
 ac 118 #[aV i] (.tuple #[j 0,j 3]) a:=sy
def TW (i:U)(b:1<=i.op)(c:i.op<=70)(f:(i.V4==4)=true)(g:0<=i.rd)(h:0<=i.V1)(k:0<=i.V6)(l:-1099511627776<=i.V2)(m:1099511627776<i.V2)(a:D):
 ac 118 #[aV i] (.tuple #[j 0,j 3]) a:=sy
def TR (i:U)(k:1<=i.op)(l:i.op<=70)(O:(i.V4==4)=true)(G:0<=i.rd)(H:0<=i.V1)(I:0<=i.V6)(L:i.rd<=9223372036854775807)(M:i.V1<=9223372036854775807)(N:i.V6<=9223372036854775807)(J:-1099511627776<=i.V2)(K:i.V2<=1099511627776)(r:D):
 ac 118 #[aV i] (.tuple #[j (bif dx (cD (en i)).1 i then(en i:Int)else 0),j (bif dx (cD (en i)).1 i then 0 else 3)]) r:=by
 obtain⟨F,q⟩:=aeO i.op k l;have B:=cE q;clear q;unfold aV;obtain⟨f,d⟩:=y (dx (cD (en i)).1 i);obtain⟨e,c⟩:=y (en i);rw[<-d,<-c];rw[<-c]at d;have HR:=cE d;have z:=cE c;clear d c;go_enter func118,ntmps118;go_wp2_with fail;refine(xz i.op k l _).mono ?_;rintro h P ⟨rfl,m⟩;have b:=(dF.start i r _).more m;clear m;simp only[dw];obtain⟨-,p,s,t,u,v,w,x⟩:=id b;go_wp2_with fail;refine(T0 (aW.word i.op).Wi F B.out i.op i.V4 i.rd i.V1 i.V6 G H I L M N i.V2 J K _).mono ?_;rintro h Q ⟨rfl,n⟩;rw[show C.draw (C.ah (aW.word i.op).Wi.data.toList (aW.word i.op).Wi.size) i.rd i.V1 i.V6 i.V2=e from z.out.symm];clear s t u v w x p;replace b:=((b.alloc _).alloc _).more n;clear n;go_wp2_with fail;refine(qC e _).mono ?_;rintro h w3 ⟨rfl,o⟩;replace b:=b.more o;clear o;obtain⟨a,g⟩:=y ((cD e).1);rw[<-g];have A:Hid (f=dx a i):=by rw[g];exact HR
 clear g;obtain⟨-,p,s,t,u,v,w,x⟩:=id b;simp only[aV];have E:=wN a.op a.rd a.V1 a.V6 a.V2 a.V4 i.op i.rd i.V1 i.V6 i.V2 i.V4;rw[show(a.op==i.op&&a.rd==i.rd&&a.V1==i.V1&&a.V6==i.V6&&a.V2==i.V2&&a.V4==i.V4)=f from A.out.symm]at E;cases f
 . exact ME
 . exact ME
def dK (i:U):Int×Int:=
 if i.op<1\/70<i.op then(0,3)else
 if i.V4=4 then
  (if i.rd<0\/i.V1<0\/i.V6<0\/i.V2 < -1099511627776\/1099511627776<i.V2 then(0,3)else
    if dx (cD (en i)).1 i=true then((en i:Int),0)else(0,3))else
 if i.V4=2 then(match hn i 0 65536 with|some a=>((a:Int),0)|none=>(0,3))else(0,3)
def tn (i:U)(g:i.rd<=9223372036854775807)(h:i.V1<=9223372036854775807)(k:i.V6<=9223372036854775807)(a:D):
 ac 118 #[aV i] (.tuple #[j (dK i).1,j (dK i).2]) a:=by
 by_cases c1:i.op<1\/70<i.op
 . have c:dK i=(0,3):=by unfold dK;rw[B c1]
   rw[c];exact TY i c1 a
 by_cases c2:i.V4=4
 . have b:(i.V4==4)=true:=ba.2 c2;by_cases c3:i.rd<0\/i.V1<0\/i.V6<0\/i.V2 < -1099511627776\/1099511627776<i.V2
   . have c:dK i=(0,3):=by unfold dK;rw[z c1,B c2,B c3]
     rw[c];by_cases d0:i.rd<0
     . exact TS i m m b d0 a
     by_cases d1:i.V1<0
     . exact TT i m m b m d1 a
     by_cases d2:i.V6<0
     . exact TU i m m b m m d2 a
     by_cases d3:i.V2 < -1099511627776
     . exact TV i m m b m m m d3 a
     . exact TW i m m b m m m m m a
   . refine(TR i m m b m m m g h k m m a).mono ?_;rintro c e ⟨rfl,d⟩;refine⟨?_,d⟩;unfold dK;rw[z c1,B c2,z c3];cases n:dx (cD (en i)).1 i
     . rw[z (by decide)];rfl
     . rw[B rfl];rfl
 . have b:(i.V4==4)=false:=b4.2 c2;by_cases c5:i.V4=2
   . refine(TQ i m m b (ba.2 c5) 65536 rfl a).mono ?_;rintro c e ⟨⟨l,f,rfl⟩,d⟩;refine⟨?_,d⟩;unfold dK;rw[z c1,z c2,B c5,<-f.out];cases l<;>rfl
   . have c:dK i=(0,3):=by unfold dK;rw[z c1,z c2,z c5]
     rw[c];exact TX i m m b (b4.2 c5) a
def mu (a b:U):dx a b=true↔a=b:=by
 obtain⟨c,d,e,f,g,h⟩:=a;obtain⟨i,j,k,l,m,n⟩:=b;simp[dx,and_assoc]
theorem n9 {e:Nat->Option U}{g:U}:∀(d b:Nat),scan e b d=some g->∃c,b<=c/\c<b+d/\e c=some g
 |0,_,a=>by cases a
 |d+1,b,a=>by
  rw[k4]at a
  cases f:e b with
  |some i=>rw[f]at a;simp at a;exact⟨b,by omega,by omega,by rw[f,a]⟩
  |none=>
   rw[f]at a
   obtain⟨c,j,k,h⟩:=n9 d (b+1) a
   exact⟨c,by omega,by omega,h⟩
theorem xN {e:Nat->Option U}{h:U}{c:Nat}(g:e c=some h):∀(d a:Nat),a<=c->c<a+d->(∀b,a<=b->b<c->e b=none)->scan e a d=some h
 |0,a,k,l,_=>by omega
 |d+1,a,k,l,f=>by
  rw[k4]
  by_cases j:a=c
  . subst j;rw[g]
  . rw[f a (by omega) (by omega)]
    exact xN g d (a+1) (by omega) (by omega) (fun b m i=>f b (by omega) i)
theorem xh {i:U}{e:Option Nat}:∀(c a:Nat),(∀b,a<=b->b<a+c->cM i b=none)->least i e a c=e
 |0,_,_=>rfl
 |c+1,a,d=>by
  rw[s5,d a (by omega) (by omega)]
  exact xh c (a+1) (fun b f g=>d b (by omega) (by omega))
theorem CP {i:U}{k0:Nat}:∀(c a:Nat),a<=k0->k0<a+c->(∀b,a<=b->b<a+c->b≠k0->cM i b=none)->least i none a c=cM i k0
 |0,a,j,k,_=>by omega
 |c+1,a,j,k,d=>by
  rw[s5]
  by_cases e:a=k0
  . subst e
    rw[xh c (a+1) (fun b f g=>d b (by omega) (by omega) (by omega))]
    cases cM i a<;>rfl
  . rw[d a (by omega) (by omega) e]
    exact CP c (a+1) (by omega) (by omega) (fun b f g h=>d b (by omega) (by omega) h)
def l6 :List L->List L->Bool
 |a::p,b::c=>(a==48&&b==49) ||(a==49&&b==48) ||l6 p c
 |_,_=>false
theorem wD :∀(p d:List L) (W:Nat),l6 p d=true->C.fits p W=true->C.fits d W=true->False
 |[],_,_,a,_,_=>by simp[l6]at a
 |_::_,[],_,a,_,_=>by simp[l6]at a
 |g::p,h::d,W,a,b,c=>by
  simp only[C.fits,cU]at b c
  simp only[l6,dO,cU,ba]at a
  rcases a with(⟨rfl,rfl⟩|⟨rfl,rfl⟩)|a
  . have e:=b.1;have f:=c.1
    simp[C.fh]at e f;omega
  . have e:=b.1;have f:=c.1
    simp[C.fh]at e f;omega
  . exact wD p d (W/2) a b.2 c.2
def s8 (a:Nat):List L:=C.ah (ae.longRow a).2.1.data.toList (ae.longRow a).2.1.size
def cR (a:Nat):List L:=C.ah (ae.aY a).2.1.data.toList (ae.aY a).2.1.size
def SI :((List.range 71).all fun a=>a==0 ||((ae.longRow a).1==a&& (s8 a).take 2==[49,49]&& (ae.longRow a).2.1.size==32))=true:=by decide+kernel
def SE :((List.range 71).all fun a=>(List.range 71).all fun b=>a==0 ||b<=a ||l6 (s8 a) (s8 b))=true:=by decide+kernel
def nX (b:Nat)(c:1<=b)(d:b<=70):(ae.longRow b).1=b/\(s8 b).take 2=[49,49]/\(ae.longRow b).2.1.size=32:=by
 have a:=cX.1 SI b ad;simp only[dO,cU,ba]at a;rcases a with a|a
 . omega
 . exact⟨a.1.1,a.1.2,a.2⟩
def QO {a:List L}{W:Nat}(b:a.take 2=[49,49])(c:C.fits a W=true):W%4=3:=by
 rcases a with _|⟨f,a⟩
 . simp at b
 rcases a with _|⟨g,a⟩
 . simp at b
 simp at b;obtain⟨rfl,rfl⟩:=b;simp only[C.fits,cU]at c;have d:=c.1;have e:=c.2.1;simp[C.fh]at d e;omega
def n8 {b:Int×K×Int}{W:Nat}(a:cH b W=true):C.fits (C.ah b.2.1.data.toList b.2.1.size) W=true:=by
 unfold cH at a;simp only[cU]at a;exact a.1
def RA (a:K)(e:a.size<=32)(b:Bool)(W:Nat):-1099511627776<=c7 a b W/\c7 a b W<=1099511627776:=by
 have c:=x1 (C.ah a.data.toList a.size) W;rw[C.jn _ _ (by simp)]at c;have d:=wY (C.ah a.data.toList a.size);unfold c7 C.kQ;split<;>omega
def SF {a W:Nat}(c:1<=a)(f:a<=70)(m:G W)(d:cH (ae.longRow a) W=true):(cD W).1=bI (ae.longRow a) W:=by
 obtain⟨f1,f2,f3⟩:=nX a c f;have e:=n8 d;have l:=QO f2 e;rw[<-ma];unfold aP;have j:sizeOf (W:Int)=4:=by unfold sizeOf;rw[z (by omega),B (by omega)]
 rw[j,z (by decide)];have i:cI 4 W a=some (bI (ae.longRow a) W):=by
  unfold cI;rw[show rowAt 4 a=ae.longRow a from rfl,B d]
 have g:(bX 4).toNat=70:=rfl;rw[g,dp,xN i 70 1 c (by omega) ?_];intro k n o;unfold cI;rw[z];intro h;have b:=cX.1 (cX.1 SE k ad) a ad;simp only[dO,ba,cA]at b;rcases b with(b|b)|b
 . omega
 . omega
 . exact wD _ _ W b (n8 h) e
theorem SH {W:Nat}{i:U}(a:(cD W).1=i)(f:1<=i.op)(r:i.V4=4):∃c:Nat,(c:Int)=i.op/\1<=c/\c<=70/\cH (ae.longRow c) W=true/\bI (ae.longRow c) W=i:=by
 rw[<-ma]at a;unfold aP at a;rcases xU (W:Int)with h|⟨h|h,_⟩
 . rw[B h]at a;rw[<-a]at f;simp[aF]at f
 . rw[h,z (by decide),dp]at a;cases d:scan (cI 4 W) 1 (bX 4).toNat with
   |none=>rw[d]at a;rw[<-a]at f;simp at f
   |some l=>
    rw[d]at a;simp only at a;subst a;obtain⟨e,n,o,b⟩:=n9 _ _ d;have k:(bX 4).toNat=70:=rfl;rw[k]at o;unfold cI at b;split at b
    . next q=>
      have j:bI (ae.longRow e) W=l:=h6 b;refine⟨e,?_,n,by omega,q,j⟩;rw[<-j];exact(nX e n m).1.symm
    . cases b
 . rw[h,z (by decide),dp]at a;exfalso;cases d:scan (cI 2 W) 1 (bX 2).toNat with
   |none=>rw[d]at a;rw[<-a]at f;simp at f
   |some l=>
    rw[d]at a;simp only at a;subst a;obtain⟨e,n,o,b⟩:=n9 _ _ d;have k:(bX 2).toNat=26:=rfl;rw[k]at o;unfold cI at b;split at b
    . have j:bI (ae.aY e) W=l:=h6 b;have p:((List.range 27).all fun c=>c==0 ||(ae.aY c).2.1.size==16)=true:=zx;have g:=cX.1 p e ad;simp only[dO,ba]at g;rcases g with g|g
      . omega
      . have:(bI (ae.aY e) W).V4=2:=by unfold bI;simp only;rw[g];rfl
        rw[j]at this;omega
    . cases b
def SG (b:Nat)(f:1<=b)(g:b<=70)(i:U)(e:(b:Int)=i.op):fu (ae.longRow b) i=en i:=by
 have a:=cX.1 B0 b ad;rw[dO]at a;rcases a with a|a
 . rw[ba]at a;omega
 . simp only[l5,cU,ba,cA]at a;have c:=a.1.1.1.1.1.1.1.1.1.1.2;have d:(ae.longRow b).2.1.size=(aW.word b).Wi.size:=by
    have:=congrArg List.length c;simpa using this
   unfold fu en;rw[<-e,c,d]
def QC (i:U)(f:i.V4=4):fd i=dK i:=by
 unfold fd;rw[f,show(bX 4).toNat=70 from rfl];by_cases q:i.op<1\/70<i.op
 . rw[xh 70 1]
   . unfold dK;rw[B q]
   . intro b j r;unfold cM;rw[z];intro d;have e:rowAt i.V4 b=ae.longRow b:=by rw[f];rfl
     rw[e,(nX b j (by omega)).1]at d;omega
 . obtain⟨a,p⟩:=h7 (show 0<=i.op by omega);have g:1<=a:=J;have k:a<=70:=J;have e:∀b,rowAt i.V4 b=ae.longRow b:=by intro b;rw[f];rfl
   rw[CP (k0:=a) 70 1 g (by omega)]
   . have l:=SG a g k i p.symm;have x:G (en i):=by
      rw[<-l];exact B7 _ GB i
     unfold dK;rw[z q,B f];by_cases c:cH (ae.longRow a) (en i)=true/\dx (bI (ae.longRow a) (en i)) i=true
     . have n:cM i a=some (en i):=by
        unfold cM;rw[e a,l,B ⟨by rw[(nX a g k).1,p],c.1,c.2⟩]
       have h:=(mu _ _).1 c.2;have hd:=SF g k x c.1;rw[n,z,B (by rw[hd];exact c.2)];have C:=RA (ae.longRow a).2.1 GB (hasB (ae.longRow a).2.2 1) (en i);have D:=EG (ae.longRow a).2.2;have t:i.rd=(aM (ae.longRow a).2.1 68 (en i):Int)+aM (ae.longRow a).2.1 66 (en i)+dz (ae.longRow a).2.2:=(congrArg U.rd h).symm;have u:i.V1=(aM (ae.longRow a).2.1 83 (en i):Int)+aM (ae.longRow a).2.1 66 (en i)+dA (ae.longRow a).2.2:=(congrArg U.V1 h).symm;have v:i.V6=(aM (ae.longRow a).2.1 84 (en i):Int):=(congrArg U.V6 h).symm;have w:i.V2=c7 (ae.longRow a).2.1 (hasB (ae.longRow a).2.2 1) (en i):=(congrArg U.V2 h).symm;rw[t,u,v,w];omega
     . have n:cM i a=none:=by
        unfold cM;rw[e a,l,z (fun d=>c ⟨d.2.1,d.2.2⟩)]
       rw[n];show((0:Int),(3:Int))=_;by_cases o:i.rd<0\/i.V1<0\/i.V6<0\/i.V2 < -1099511627776\/1099511627776<i.V2
       . rw[B o]
       . rw[z o,z];intro y;obtain⟨b,E,j,r,s,A⟩:=SH ((mu _ _).1 y) m f;obtain rfl:b=a:=by omega
         exact c ⟨s,(mu _ _).2 A⟩
   . intro b j r s;unfold cM;rw[z];intro d;rw[e b,(nX b j (by omega)).1]at d;omega
def xD (a:L->Bool)(b:K)(W:Nat)(g:Int):dl a b W g%2^C.ao a (C.ah b.data.toList b.size)=(C.val a (C.ah b.data.toList b.size) W:Int):=by
 unfold dl;simp only;generalize C.ah b.data.toList b.size=c;have e:=C.mE a c W;by_cases d:C.ao a c=0
 . rw[B d,d];rw[d]at e;simp at e;rw[e];simp[Int.emod_one]
 . rw[z d];by_cases c3:C.ao a c=3
   . rw[B c3,c3];rw[c3]at e;have h:(2:Int)^3=8:=cK;rw[h];omega
   . rw[z c3];have f:((2:Int)^C.ao a c)=((2^C.ao a c:Nat):Int):=bL;rw[f];exact uo m m
def Eg (a:Nat):Bool:=
 decide (1<=(ae.aY a).1)&&decide ((ae.aY a).1<=70)&& ((ae.aY a).2.1.size==16)&& (cR a).all C.known&&C.apart (cR a)&& (match cR a with|b::c::_=>b==48 ||c==48|_=>false)&&
 (C.ao (· ==83) (cR a)==0 ||C.ao (· ==66) (cR a)==0)
def U9 :((List.range 27).all fun a=>a==0 ||Eg a)=true:=by decide+kernel
theorem xT (a:Nat)(m:1<=a)(n:a<=26):1<=(ae.aY a).1/\(ae.aY a).1<=70/\(ae.aY a).2.1.size=16/\(cR a).all C.known=true/\C.apart (cR a)=true/\(∃d e f,cR a=d::e::f/\(d=48\/e=48))/\
 (C.ao (· ==83) (cR a)=0\/C.ao (· ==66) (cR a)=0):=by
 have c:=cX.1 U9 a ad;rw[dO,ba]at c;rcases c with c|c
 . omega
 . simp only[Eg,cU,cA,ba,dO]at c;obtain⟨⟨⟨⟨⟨⟨h,i⟩,j⟩,k⟩,l⟩,b⟩,g⟩:=c;refine⟨h,i,j,k,l,?_,g⟩;revert b;match cR a with
   |d::e::f=>intro b;simp only[dO,ba]at b;exact⟨d,e,f,rfl,b⟩
   |[d]=>intro b;cases b
   |[]=>intro b;cases b
def QN {c d:L}{q:List L}{W:Nat}(e:c=48\/d=48)(b:C.fits (c::d::q) W=true):¬W%4=3:=by
 simp only[C.fits,cU]at b;rcases e with rfl|rfl
 . have a:=b.1;simp[C.fh]at a;omega
 . have a:=b.2.1;simp[C.fh]at a;omega
def U0 (b:Nat)(c:1<=b)(d:b<=26):l5 (ae.aY b) (aW.half b) 16=true:=by
 have a:=cX.1 BZ b ad;rw[dO,ba]at a;rcases a with a|a
 . omega
 . exact a
def U2 (a b:Nat)(l:1<=a)(m:a<=26)(t:b<65536)(o:cH (ae.aY a) b=true):fu (ae.aY a) (bI (ae.aY a) b)=b:=by
 obtain⟨_,_,f3,f4,f5,_,f7⟩:=xT a l m;have n:=n8 o;have i:=U0 a l m;have j:=(xJ i b Gy).1;simp only[l5,cU,ba,cA]at i;have k:=i.1.1.1.1.1.1.1.1.1.1.2;have g:(aW.half a).Wi=(ae.aY a).2.1:=by
  generalize (aW.half a).Wi=d at *;generalize (ae.aY a).2.1=e at *;obtain⟨d⟩:=d;obtain⟨e⟩:=e;simp only at k;congr 1;exact(Array.toList_inj.1 k).symm
 unfold fu;have f:C.ah (ae.aY a).2.1.data.toList (ae.aY a).2.1.size=cR a:=rfl;rw[f]at n|-;have r:(cR a).length=16:=by unfold cR;rw[C.jn _ _ (by simp),f3]
 refine C.nH (cR a) b _ _ _ _ f4 (by rw[r];have:(2:Nat)^16=65536:=R;omega) n ?_ ?_ ?_ ?_
 . rw[j];have:=xD (fun c=>c==68 ||c==66) (ae.aY a).2.1 b (aW.half a).rd;rw[f]at this;unfold eJ;simp only;rw[g];exact this
 . rw[j];unfold eJ;simp only;rw[g];have h:=xD (fun c=>c==83 ||c==66) (ae.aY a).2.1 b (aW.half a).V1;rw[f]at h;rcases f7 with f7|f7
   . rw[f7,val_zero 83 _ _ f7];simp[Int.emod_one]
   . obtain⟨d,e⟩:=tV 83 66 (cR a) b f7;rw[d,e]at h;exact h
 . rw[j];unfold eJ;simp only;rw[g];have:=xD (fun c=>c==84) (ae.aY a).2.1 b 0;rw[f]at this;exact this
 . intro s p q;have:=C.RB (cR a) (hasB (ae.aY a).2.2 1) b s p f5 q;exact this
def gv (a:L):List L->List L->Option Nat
 |d::p,c::b=>if c==a then(if d==48 then(gv a p b).map (2* ·)else if d==49 then(gv a p b).map (2* · +1)else none)else gv a p b
 |_,[]=>some 0
 |[],c::b=>if c==a then none else gv a [] b
theorem me (b:L):∀(p c:List L) (W e:Nat),gv b p c=some e->C.fits p W=true->C.val (· ==b) c W=e
 |[],[],_,e,a,_=>by simp[gv]at a;simp[C.val,a]
 |_::_,[],_,e,a,_=>by simp[gv]at a;simp[C.val,a]
 |[],j::c,W,e,a,f=>by
  simp only[gv]at a
  cases d:(j==b)
  . rw[d]at a
    simp only[eh,cP]at a
    simp only[C.val,d,bh]
    exact me b [] c (W/2) e a rfl
  . rw[d]at a;simp at a
 |m::p,j::c,W,e,a,f=>by
  simp only[C.fits,cU]at f
  simp only[gv]at a
  cases d:(j==b)
  . rw[d]at a
    simp only[eh,cP]at a
    simp only[C.val,d,bh]
    exact me b p c (W/2) e a f.2
  . rw[d]at a
    simp only[if_true]at a
    simp only[C.val,d,cu]
    by_cases k:m=48
    . subst k
      simp only[beq_self_eq_true,if_true]at a
      cases g:gv b p c with
      |none=>rw[g]at a;cases a
      |some i=>
       rw[g]at a
       have:=me b p c (W/2) i g f.2
       have h:=f.1
       simp[C.fh]at h
       simp at a
       omega
    . rw[z (by simpa using k)]at a
      by_cases l:m=49
      . subst l
        simp only[beq_self_eq_true,if_true]at a
        cases g:gv b p c with
        |none=>rw[g]at a;cases a
        |some i=>
         rw[g]at a
         have:=me b p c (W/2) i g f.2
         have h:=f.1
         simp[C.fh]at h
         simp at a
         omega
      . rw[z (by simpa using l)]at a;cases a
def xu (b a:Nat):Bool:=
 l6 (cR b) (cR a) ||
 (hasB (ae.aY a).2.2 128&&gv 84 (cR b) (cR a)==some 0&&C.ao (· ==84) (cR a) !=3) ||
 (hasB (ae.aY a).2.2 64&&gv 83 (cR b) (cR a)==some 0&&C.ao (· ==83) (cR a) !=3&&C.ao (· ==66) (cR a)==0&&dA (ae.aY a).2.2==0) ||
 (hasB (ae.aY a).2.2 256&&gv 68 (cR b) (cR a)==some 2&&C.ao (· ==68) (cR a) !=3&&C.ao (· ==66) (cR a)==0&&dz (ae.aY a).2.2==0)
def U4 :((List.range 27).all fun a=>(List.range 27).all fun b=>a==0 ||decide (b<=a) ||xu a b)=true:=by decide+kernel
def xF {a:K}{b:L}{W c:Nat}(e:C.val (· ==b) (C.ah a.data.toList a.size) W=c)(d:C.ao (· ==b) (C.ah a.data.toList a.size)≠3):aM a b W=c:=by
 unfold aM;simp only;rw[z d,e]
def DG {b:K}{a:L}{W:Nat}(c:C.ao (· ==a) (C.ah b.data.toList b.size)=0):aM b a W=0:=by
 unfold aM;simp only;rw[z (by omega),val_zero a _ _ c]
def TA (i c b:Nat)(a:xu i c=true)(n:cH (ae.aY i) b=true)(f:cH (ae.aY c) b=true):False:=by
 have e:=n8 n;have m:=n8 f;unfold cH at f;simp only[cU,oB]at f;have h:=f.2;unfold mr at h;simp only[Bool.or_eq_false_iff]at h;obtain⟨⟨⟨⟨o,p⟩,j⟩,k⟩,l⟩:=h;simp only[xu,dO,cU,ba,bne_iff_ne,ne_eq]at a;rcases a with((a|a)|a)|a
 . exact wD _ _ b a e m
 . have d:=xF (me 84 _ _ b 0 a.1.2 e) a.2;rw[a.1.1,rC,b4]at k;apply k;show(aM (ae.aY c).2.1 84 b:Int)=0;rw[d];rfl
 . have d:=xF (me 83 _ _ b 0 a.1.1.1.2 e) a.1.1.2;have g:=DG (W:=b) a.1.2;rw[a.1.1.1.1,rC,b4]at j;apply j;show(aM (ae.aY c).2.1 83 b:Int)+aM (ae.aY c).2.1 66 b+dA (ae.aY c).2.2=0;rw[d,g,a.2];rfl
 . have d:=xF (me 68 _ _ b 2 a.1.1.1.2 e) a.1.1.2;have g:=DG (W:=b) a.1.2;rw[a.1.1.1.1,rC,b4]at l;apply l;show(aM (ae.aY c).2.1 68 b:Int)+aM (ae.aY c).2.1 66 b+dz (ae.aY c).2.2=2;rw[d,g,a.2];rfl
def U1 {a b:Nat}(e:1<=a)(g:a<=26)(q:b<65536)(d:cH (ae.aY a) b=true):¬b%4=3/\(cD b).1=bI (ae.aY a) b:=by
 obtain⟨_,_,_,_,_,⟨t,u,p,m,o⟩,_⟩:=xT a e g;have j:=n8 d;have h:¬b%4=3:=QN (q:=p) o (by rw[<-m];exact j);refine⟨h,?_⟩;rw[<-ma];unfold aP;have n:sizeOf (b:Int)=2:=HN;rw[n,z (by decide)];have l:cI 2 b a=some (bI (ae.aY a) b):=by
  unfold cI;rw[show rowAt 2 a=ae.aY a from rfl,B d]
 have i:(bX 2).toNat=26:=rfl;rw[i,dp,xN l 26 1 e (by omega) ?_];intro f r s;unfold cI;rw[z];intro k;have c:=cX.1 (cX.1 U4 f ad) a ad;simp only[dO,ba,cA]at c;rcases c with(c|c)|c
 . omega
 . omega
 . exact TA f a b c k d
theorem U3 {b:Nat}{i:U}(o:b<65536)(n:¬b%4=3)(a:(cD b).1=i)(f:1<=i.op):∃d:Nat,1<=d/\d<=26/\cH (ae.aY d) b=true/\bI (ae.aY d) b=i:=by
 rw[<-ma]at a;unfold aP at a;have j:sizeOf (b:Int)=2:=HN;rw[j,z (by decide),dp]at a;cases e:scan (cI 2 b) 1 (bX 2).toNat with
 |none=>rw[e]at a;rw[<-a]at f;simp at f
 |some p=>
  rw[e]at a;simp only at a;subst a;obtain⟨k,l,m,c⟩:=n9 _ _ e;have g:(bX 2).toNat=26:=rfl;rw[g]at m;unfold cI at c;split at c
  . next h=>exact⟨k,l,by omega,h,h6 c⟩
  . cases c
def UB {i:U}{a c:Nat}(f:i.V4=2)(b:cM i a=some c):fu (ae.aY a) i=c/\cH (ae.aY a) c=true/\bI (ae.aY a) c=i:=by
 unfold cM at b;rw[show rowAt i.V4 a=ae.aY a by rw[f];rfl]at b;split at b
 . next d=>
   have e:=h6 b;rw[e]at d;exact⟨e,d.2.1,(mu _ _).1 d.2.2⟩
 . cases b
theorem xi {i:U}:∀(o b:Nat) (h:Option Nat),
 (∀j,least i h b o=some j->(h=some j\/∃a,b<=a/\a<b+o/\cM i a=some j)/\(∀c,h=some c->j<=c)/\∀a c,b<=a->a<b+o->cM i a=some c->j<=c)/\
 (least i h b o=none->h=none/\∀a,b<=a->a<b+o->cM i a=none)
 |0,b,h=>by
  refine⟨fun j n=>?_,fun n=>⟨n,fun a c j=>by omega⟩⟩
  have y:h=some j:=n
  exact⟨.inl y,fun c l=>(by rw[y]at l;cases l;exact aB _),fun a c G H=>by omega⟩
 |o+1,b,h=>by
  obtain⟨D,E⟩:=xi (i:=i) o (b+1) (better h (cM i b))
  rw[s5]
  constructor
  . intro j n
    obtain⟨d,g,t⟩:=D j n
    cases f:cM i b with
    |none=>
     rw[f]at d g
     simp only[better]at d g
     refine⟨?_,g,?_⟩
     . rcases d with d|⟨a,u,v,m⟩
       . exact .inl d
       . exact .inr ⟨a,by omega,by omega,m⟩
     . intro a c r s e
       by_cases k:a=b
       . subst k;rw[f]at e;cases e
       . exact t a c (by omega) (by omega) e
    |some q=>
     rw[f]at d g
     cases h with
     |none=>
      simp only[better]at d g
      have x:=g q rfl
      refine⟨?_,fun c l=>(by cases l),?_⟩
      . rcases d with d|⟨a,u,v,m⟩
        . exact .inr ⟨b,by omega,by omega,by rw[f];exact d⟩
        . exact .inr ⟨a,by omega,by omega,m⟩
      . intro a c r s e
        by_cases k:a=b
        . subst k;rw[f]at e;cases e;exact x
        . exact t a c (by omega) (by omega) e
     |some w=>
      simp only[better]at d g
      by_cases A:q<w
      . rw[B A]at d g
        have x:=g q rfl
        refine⟨?_,fun c l=>(by cases l;omega),?_⟩
        . rcases d with d|⟨a,u,v,m⟩
          . exact .inr ⟨b,by omega,by omega,by rw[f];exact d⟩
          . exact .inr ⟨a,by omega,by omega,m⟩
        . intro a c r s e
          by_cases k:a=b
          . subst k;rw[f]at e;cases e;exact x
          . exact t a c (by omega) (by omega) e
      . rw[z A]at d g
        have C:=g w rfl
        refine⟨?_,fun c l=>(by cases l;exact C),?_⟩
        . rcases d with d|⟨a,u,v,m⟩
          . exact .inl d
          . exact .inr ⟨a,by omega,by omega,m⟩
        . intro a c r s e
          by_cases k:a=b
          . subst k;rw[f]at e;cases e;omega
          . exact t a c (by omega) (by omega) e
  . intro n
    obtain⟨p,F⟩:=E n
    cases f:cM i b with
    |none=>
     rw[f]at p
     refine⟨p,fun a r s=>?_⟩
     by_cases k:a=b
     . subst k;exact f
     . exact F a (by omega) (by omega)
    |some q=>
     rw[f]at p
     cases h with
     |none=>cases p
     |some w=>simp only[better]at p;split at p<;>cases p
theorem DO {i:U}:∀(e b:Nat),
 (∀c,hn i b e=some c->b<=c/\c<b+e/\(c%4≠3/\dx (cD c).1 i=true)/\∀a,b<=a->a<c->¬(a%4≠3/\dx (cD a).1 i=true))/\
 (hn i b e=none->∀a,b<=a->a<b+e->¬(a%4≠3/\dx (cD a).1 i=true))
 |0,b=>⟨fun c d=>(by cases d),fun _ a h g=>by omega⟩
 |e+1,b=>by
  obtain⟨k,l⟩:=DO (i:=i) e (b+1)
  rw[DP]
  by_cases f:b%4≠3/\dx (cD b).1 i=true
  . rw[B f]
    exact⟨fun c d=>(by cases d;exact⟨by omega,by omega,f,fun a h g=>by omega⟩),fun d=>(by cases d)⟩
  . rw[z f]
    refine⟨fun c d=>?_,fun d a h g=>?_⟩
    . obtain⟨o,p,m,n⟩:=k c d
      refine⟨by omega,by omega,m,fun a h g=>?_⟩
      by_cases j:a=b
      . subst j;exact f
      . exact n a (by omega) g
    . by_cases j:a=b
      . subst j;exact f
      . exact l d a (by omega) (by omega)
def Fk {i:U}(l:i.V4=2)(a b:Nat)(f:1<=a)(p:a<27)(o:cM i a=some b):b<65536/\(b%4≠3/\dx (cD b).1 i=true)/\1<=i.op/\i.op<=70:=by
 obtain⟨g,k,d⟩:=UB l o;obtain⟨f1,f2,f3,_⟩:=xT a f m;have e:b<65536:=by
  rw[<-g];have c:=C.kL (C.ah (ae.aY a).2.1.data.toList (ae.aY a).2.1.size) i.rd i.V1 i.V6 i.V2;rw[C.jn _ _ (by simp),show 2^(ae.aY a).2.1.size=65536 by rw[f3]]at c;exact c
 obtain⟨h,j⟩:=U1 f m e k;have n:(bI (ae.aY a) b).op=(ae.aY a).1:=rfl;rw[d]at n;exact⟨e,⟨h,(mu _ _).2 (j.trans d)⟩,by omega,by omega⟩
def Fl {i:U}(h:i.V4=2)(b:Nat)(f:b<65536)(e:b%4≠3/\dx (cD b).1 i=true)(k:1<=i.op):∃a,1<=a/\a<27/\cM i a=some b:=by
 obtain⟨a,g,m,d,c⟩:=U3 f e.1 ((mu _ _).1 e.2) k;have hd:=U2 a b g m f d;rw[c]at hd;refine⟨a,g,by omega,?_⟩;unfold cM;have l:rowAt i.V4 a=ae.aY a:=by rw[h];rfl
 have j:(ae.aY a).1=i.op:=congrArg U.op c;rw[l,hd,B ⟨j,d,(mu _ _).2 c⟩]
theorem SA {i:U}(h:i.V4=2)(z:¬(i.op<1\/70<i.op))(d:Nat)(w:Hid (d=65536)):least i none 1 26=hn i 0 d:=by
 obtain⟨p,q⟩:=xi (i:=i) 26 1 none;obtain⟨o,t⟩:=DO (i:=i) d 0;cases k:least i none 1 26 with
 |none=>
  cases hS:hn i 0 d with
  |none=>rfl
  |some b=>
   exfalso;obtain⟨_,u,j,_⟩:=o b hS;obtain⟨f,g,n,c⟩:=Fl h b zf j m;rw[(q k).2 f g (by omega)]at c;cases c
 |some a=>
  obtain⟨r,_,s⟩:=p a k;have l:a<65536/\(a%4≠3/\dx (cD a).1 i=true):=by
   rcases r with e|⟨f,g,n,c⟩
   . cases e
   . have:=Fk h f a g m c;exact⟨this.1,this.2.1⟩
  cases hS:hn i 0 d with
  |none=>exact absurd l.2 (t hS a m zf)
  |some b=>
   obtain⟨_,u,j,v⟩:=o b hS;obtain⟨f,g,n,c⟩:=Fl h b zf j m;have y:=s f b g m c;have x:b<=a:=by
    rcases Nat.lt_or_ge a b with e|e
    . exact absurd l.2 (v a m e)
    . exact e
   have:a=b:=by omega
   rw[this]
theorem QB (i:U)(a:i.V4=2):fd i=dK i:=by
 unfold fd dK;rw[a,show(bX 2).toNat=26 from rfl];by_cases b:i.op<1\/70<i.op
 . rw[B b];cases e:least i none 1 26 with
   |none=>rfl
   |some c=>
    exfalso;rcases((xi (i:=i) 26 1 none).1 c e).1 with d|⟨f,g,k,h⟩
    . cases d
    . have:=(Fk a f c g m h).2.2;omega
 . rw[z b,z (by decide),B rfl,SA a b 65536 rfl];generalize hn i 0 65536=j;cases j<;>rfl
def wM (i:U):fd i=dK i:=by
 by_cases b:i.V4=4
 . exact QC i b
 . by_cases a:i.V4=2
   . exact QB i a
   . unfold fd dK;have d:(bX i.V4).toNat=0:=by
      unfold bX;rw[b4.2 b,b4.2 a];rfl
     rw[d];show((0:Int),(3:Int))=_;by_cases c:i.op<1\/70<i.op
     . rw[B c]
     . rw[z c,z b,z a]
theorem VO {c:Program}{b d:D}{name:String}{f:IntKind}{h:List Int}(a:Lib.TabIs c b name f h)(i:Below b.heap.size b d):Lib.TabIs c d name f h:=by
 unfold Lib.TabIs World.var? at a|-;cases e:c.globalNamed name with
 |none=>rw[e]at a;simp at a
 |some g=>
  rw[e]at a;simp only[Option.bind_some]at a|-;have k:g<b.heap.size:=by
   refine Nat.lt_of_not_le fun j=>?_;rw[Array.getElem?_eq_none j]at a;simp at a
  rw[i.block g k];exact a
def QT (a:D)(b:Nat)(d:Array Obj):Below a.heap.size a (Go.Sort.grow (a.drewN b) d):=by
 have e:Below a.heap.size a (a.drewN b):=⟨rfl,rfl,rfl,aB _,fun _ _=>rfl⟩;refine e.trans ⟨rfl,rfl,rfl,by unfold Go.Sort.grow;simp,fun c f=>?_⟩;show((a.drewN b).heap++d)[c]?=(a.drewN b).heap[c]?;exact Array.getElem?_append_left f
def em (a:D):Prop:=Lib.TabIs prog a "internal/strconv.uint64pow10" .u64 Lib.pow10Tab
def em.more {a w':D}(b:em a)(c:Below a.heap.size a w'):em w':=VO b c
def sI (a:Int)(f:-1099511627776<=a)(g:a<=1099511627776)(b:D)(c:em b):
 ac 213 #[j a] (u.aG (Lib.itoa a)) b:=by
 refine(Tryz.strconv_Itoa a m m b c).mono ?_;rintro e d ⟨rfl,h,i,rfl⟩;exact⟨rfl,QT _ _ _⟩
def nT (a:Int)(b:-1099511627776<=a)(c:a<=1099511627776):(Lib.itoa a).length<=21:=Lib.itoa_length_le a (by omega) (by omega)
def tw (a:Nat)(b:a<100):(u.cZ a).length<=11:=by
 have c:=cX.1 CZ a (by simpa using b);rw[cA]at c;simp only[u.cZ,c6];omega
def OL (g:Nat)(Y:g=100\/g=115\/g=116\/g=109\/g=106\/g=117\/g=105)(i:U)(h:i8 i)(a:D)(f:em a):
 ac 216 #[.int .u8 g,aV i] (u.aG (u.hP g i)) a:=by
 obtain⟨E,Q⟩:∃v:Nat,i.rd=v:=⟨i.rd.toNat,by have:=h.d0;omega⟩;obtain⟨b,R⟩:∃v:Nat,i.V1=v:=⟨i.V1.toNat,by have:=h.YT;omega⟩;obtain⟨F,S⟩:∃v:Nat,i.V6=v:=⟨i.V6.toNat,by have:=h.t0;omega⟩;have aj:E<32:=by have:=h.d1;omega
 have ak:b<32:=by have:=h.s1;omega
 have al:F<32:=by have:=h.t1;omega
 have V:=h.i0;have W:=h.YU;clear h;obtain⟨ad,am,an,ao,e,ab⟩:=i;simp only at Q R S V W;subst Q R S;unfold aV u.hP;simp only[dp];have x:∀w,Below a.heap.size a (a.alloc w):=sa;have ae:Hid (∀w,em (a.alloc w)):=fun w=>f.more (x w);rcases Y with rfl|rfl|rfl|rfl|rfl|rfl|rfl
 . simp only[if_true];obtain⟨o,d⟩:=y (u.aG (u.cZ E));have c:=fun a=>nu E m a;exact A1
 . rw[z (by decide),B rfl];obtain⟨o,d⟩:=y (u.aG (u.cZ b));have c:=fun a=>nu b m a;exact A1
 . rw[z (by decide),z (by decide),B rfl];obtain⟨o,d⟩:=y (u.aG (u.cZ F));have c:=fun a=>nu F m a;exact A1
 . rw[z (by decide),z (by decide),z (by decide),z (by decide),B rfl];obtain⟨o,d⟩:=y (⟨(u.cZ b).toArray⟩:K);obtain⟨G,k⟩:=y (⟨(Lib.itoa e).toArray⟩:K);obtain⟨A,C⟩:=y (⟨(Lib.itoa e++[40]).toArray⟩:K);obtain⟨n,q⟩:=y (⟨((Lib.itoa e++[40])++u.cZ b).toArray⟩:K);obtain⟨s,t⟩:=y (⟨(((Lib.itoa e++[40])++u.cZ b)++[41]).toArray⟩:K);have Z:=nT e m m;have aa:=tw b m;have ag:∀a,(Op.stringOp .add G ⟨#[40]⟩).run prog a=.ok (.string A) a:=fun a=>ea (a:=G) (b:=⟨#[40]⟩) (c:=A) (by rw[k,C];exact hc _ [40]) GC a;have ah:∀a,(Op.stringOp .add A o).run prog a=.ok (.string n) a:=fun a=>ea (a:=A) (b:=o) (c:=n) (by rw[C,d,q];exact hc _ _) (by rw[C,d];simp[ByteArray.size];omega) a;have ai:∀a,(Op.stringOp .add n ⟨#[41]⟩).run prog a=.ok (.string s) a:=HP;have c:=fun a=>nu b m a;rw[show u.aG (u.cZ b)=.string o by rw[d];rfl]at c;have L:=fun a f=>sI e m m a f;rw[show u.aG (Lib.itoa e)=.string G by rw[k];rfl]at L;obtain⟨p,r⟩:=y (a.alloc (.cells #[j ad,j E,j b,j F,j e,j ab] 60));have P:p.cell? ⟨a.heap.size,2,none⟩=some (j b):=by rw[r];simp
   have J:a.heap.size<p.heap.size:=by rw[r];simp
   have I:Below a.heap.size a p:=by rw[r];exact x _
   have T:em p:=f.more I;have N:=l ((L p.drew (T.more (aq _ _).drew)).mono fun O M H=>(⟨H.1,(H.2.cell (p:=⟨a.heap.size,2,none⟩) J).trans P,l (I.trans ((aq _ _).drew.trans (H.2.mono (gm J))))⟩:_/\M.cell? ⟨a.heap.size,2,none⟩=some (j b)/\Hid (Below a.heap.size a M)));rw[r]at N;clear P J I T r;rw[show u.aG (Lib.itoa e++40::(u.cZ b++[41]))=.string s by rw[t];unfold u.aG;simp];have HR:=l c;clear c L d k C q t Z aa f;go_enter func216,ntmps216;go_upto_region 11 with fail;go_region_with(first|(go_at_call 303;refine(HR.out _).mono ?_;rintro O af ⟨rfl,rfl⟩)|(go_at_call 213;with_reducible refine N.out.mono ?_;rintro O M ⟨rfl,d2,X⟩));all_goals (go_wp2;go_ret;exact⟨rfl,X.out⟩)
 . exact MM
 . rw[z (by decide),z (by decide),z (by decide),B rfl];obtain⟨o,d⟩:=y (u.aG (Lib.itoa (b:Int)));have c:=fun a f=>sI (b:Int) m m a f;exact MN
 . exact MM
def OE (b:Int)(t:-1099511627776<=b)(v:b<=1099511627776)(f:Int)(a:D)(w:em a):
 ac 142 #[j b,j f] (u.aG (u.bp (if f=2 then 72 else 71)++32::Lib.itoa b)) a:=by
 obtain⟨d,e⟩:=y (if f=2 then 72 else 71:Nat);rw[<-e];have r:d<=72:=by rw[e];split<;>omega
 obtain⟨g,i⟩:=y (Nm.name d:K);obtain⟨n,k⟩:=y (⟨(Lib.itoa b).toArray⟩:K);obtain⟨h,m⟩:=y (⟨(u.bp d++[32]).toArray⟩:K);obtain⟨o,p⟩:=y (⟨((u.bp d++[32])++Lib.itoa b).toArray⟩:K);have C:=nT b t v;have F:(u.bp d).length<=20:=by have:=n1 d r;unfold u.bp;rw[dP];exact this
 have H:∀a,(Op.stringOp .add g ⟨#[32]⟩).run prog a=.ok (.string h) a:=fun a=>ea (a:=g) (b:=⟨#[32]⟩) (c:=h) (by rw[i,m,<-he (Nm.name d)];exact hc _ [32]) (by rw[i];have:=n1 d r;have c:(⟨#[32]⟩:K).size=1:=rfl;rw[c];omega) a;have I:∀a,(Op.stringOp .add h n).run prog a=.ok (.string o) a:=fun a=>ea (a:=h) (b:=n) (c:=o) (by rw[m,k,p];exact hc _ _) (by rw[m,k];simp[ByteArray.size];omega) a;have q:=sI b t v a w;rw[show u.aG (Lib.itoa b)=.string n by rw[k];rfl]at q;rw[show u.aG (u.bp d++32::Lib.itoa b)=.string o by rw[p];unfold u.aG;simp];have G:=l q;have s:=l i;clear q i k m p C F w r;by_cases c:f=2
 . rw[B c]at e;have A:(f==2)=true:=eT;subst e;have x:Hid (Nm.name 72=g):=s.out.symm;exact MO
 . rw[z c]at e;have A:(f==2)=false:=eT;subst e;have x:Hid (Nm.name 71=g):=s.out.symm;exact MO
end Go.Proofs.YtmlgonbhoknoiabGreatDoor
