import Derived.Test.YtmlgonbhoknoiaaGreatDoorJBB
set_option maxHeartbeats 8000000
set_option maxRecDepth 100000
set_option linter.all false
namespace Go.Proofs.YtmlgonbhoknoiaaGreatDoor
open Go.RowKit Go.Proofs.Tryz
def ho (i:U):Nat->Nat->Option Nat
 |_,0=>none
 |a,b+1=>if a%4≠3/\dz (cF a).1 i=true then some a else ho i (a+1) b
def en (i:U):Nat:=C.draw (C.ah (aX.word i.op).Wi.data.toList (aX.word i.op).Wi.size) i.rd i.V1 i.V6 i.V2
def Ul (i:U)(a:i.op<1\/70<i.op)(b:D):
 aa 90 #[aW i] (.tuple #[j 0,j 3]) b:=by
 unfold aW;rcases a with a|a
 . exact AB
 . have c:¬i.op<1:=J;exact AB
def Uk (i:U)(b:1<=i.op)(c:i.op<=70)(d:(i.V4==4)=false)(e:(i.V4==2)=false)(a:D):
 aa 90 #[aW i] (.tuple #[j 0,j 3]) a:=by
 unfold aW;exact AB
def Dv (i:U)(a b:Nat):ho i a (b+1)=if a%4≠3/\dz (cF a).1 i=true then some a else ho i (a+1) b:=rfl
theorem Ud (i:U)(F:1<=i.op)(G:i.op<=70)(H:(i.V4==4)=false)(I:(i.V4==2)=true)(c:Nat)(E:Hid (c=65536))(k:D):
 Calls prog 90 #[aW i] k fun r A=>(∃o:Option Nat,Hid (o=ho i 0 c)/\r=.returned (.tuple #[j (o.getD 0:Nat),j (bif o.isSome then 0 else 3)]))/\Below k.heap.size k A:=by
 unfold aW;go_enter func90,ntmps90;go_wp2;go_loopw [9] (fun n wr=>∃b e:Nat,Hid (b+e=c)/\n=j b/\dH i k wr/\Hid (ho i b e=ho i 0 c)) (fun n _=>c- (intOf n).toNat);case atStart=>exact⟨0,c,(by omega:0+c=c),rfl,dH.start _ _ _,rfl⟩
 case round=>
  obtain⟨b,e,l,rfl,f,d⟩:=hrel;cases e with
  |succ e=>
   have v:(b:Int)<65536:=Hs;have w:b<c:=by have C:=l.out;omega
   have q:=cG w;clear w;rw[Dv]at d;have p:Hid (b+1+e=c):=(by have C:=l.out;omega:b+1+e=c);clear l;by_cases m:b%4=3
   . have x:((b:Int)%4 !=3)=false:=M;rw[z (fun g=>g.1 m)]at d;clear m;go_wp2;go_roundw;case rel=>exact⟨b+1,e,p,by go_num,f,d⟩
     case measure=>have:=q.out;simp[intOf];omega
   . have x:((b:Int)%4 !=3)=true:=M;go_wp2_with fail;refine(ql b _).mono ?_;rintro r J ⟨rfl,s⟩;replace f:=f.more s;clear s;obtain⟨a,u⟩:=y ((cF b).1);rw[<-u]at d|-;clear u;obtain⟨-,-,K,L,N,O,P,Q⟩:=id f;have v:=f.lt;simp only[aW];have t:=wq a.op a.rd a.V1 a.V6 a.V2 a.V4 i.op i.rd i.V1 i.V6 i.V2 i.V4;cases h:dz a i
     . rw[show(a.op==i.op&&a.rd==i.rd&&a.V1==i.V1&&a.V6==i.V6&&a.V2==i.V2&&a.V4==i.V4)=false from h]at t;rw[z (fun g=>by rw[h]at g;cases g.2)]at d;go_wp2;go_roundw;case rel=>exact⟨b+1,e,p,by go_num,f.alloc _,d⟩
       case measure=>have:=q.out;simp[intOf];omega
     . rw[show(a.op==i.op&&a.rd==i.rd&&a.V1==i.V1&&a.V6==i.V6&&a.V2==i.V2&&a.V4==i.V4)=true from h]at t;rw[B ⟨m,h⟩]at d;go_wp2;go_ret2;exact⟨⟨some b,d,rfl⟩,(f.alloc _).below⟩
  |zero=>
   have v:¬(b:Int)<65536:=Hs;go_wp2;go_ret2;exact⟨⟨none,d,rfl⟩,f.below⟩
def Un (a:K)(q:a.size<=32)(p:∀w∈a.data.toList,w.toNat<=122)(h g:Int)(c d e:Int)(t:0<=c)(u:0<=d)(v:0<=e)(z:c<=9223372036854775807)(x:d<=9223372036854775807)(y:e<=9223372036854775807)(b:Int)(r:-1099511627776<=b)(s:b<=1099511627776)(f:D):
 Calls prog 146 #[.string a,.agg #[j h,j c,j d,j e,j b,j g]] f fun o i=>
  o=.returned (j (C.draw (C.ah a.data.toList a.size) c d e b))/\Below f.heap.size f i:=by
 obtain⟨k,rfl⟩:=h6 t;obtain⟨l,rfl⟩:=h6 u;obtain⟨n,rfl⟩:=h6 v;exact Um a q p h g k l n m m m b r s f
def afs (a:Int)(f:1<=a)(g:a<=70):(aX.word a).Wi.size<=32/\(∀e∈ (aX.word a).Wi.data.toList,e.toNat<=122):=by
 obtain⟨d,rfl⟩:=h6 (show 0<=a by omega);obtain⟨b,c,_⟩:=xm (cj.1 EY d ad);exact⟨b,c⟩
def Uf (i:U)(b:1<=i.op)(c:i.op<=70)(f:(i.V4==4)=true)(g:i.rd<0)(a:D):
 aa 90 #[aW i] (.tuple #[j 0,j 3]) a:=r7
def Ug (i:U)(b:1<=i.op)(c:i.op<=70)(f:(i.V4==4)=true)(g:0<=i.rd)(h:i.V1<0)(a:D):
 aa 90 #[aW i] (.tuple #[j 0,j 3]) a:=r7
def Uh (i:U)(b:1<=i.op)(c:i.op<=70)(f:(i.V4==4)=true)(g:0<=i.rd)(h:0<=i.V1)(k:i.V6<0)(a:D):
 aa 90 #[aW i] (.tuple #[j 0,j 3]) a:=r7
def Ui (i:U)(b:1<=i.op)(c:i.op<=70)(f:(i.V4==4)=true)(g:0<=i.rd)(h:0<=i.V1)(k:0<=i.V6)(l:i.V2 < -1099511627776)(a:D):
 aa 90 #[aW i] (.tuple #[j 0,j 3]) a:=r7
def Uj (i:U)(b:1<=i.op)(c:i.op<=70)(f:(i.V4==4)=true)(g:0<=i.rd)(h:0<=i.V1)(k:0<=i.V6)(l:-1099511627776<=i.V2)(m:1099511627776<i.V2)(a:D):
 aa 90 #[aW i] (.tuple #[j 0,j 3]) a:=r7
def Ue (i:U)(k:1<=i.op)(l:i.op<=70)(O:(i.V4==4)=true)(G:0<=i.rd)(H:0<=i.V1)(I:0<=i.V6)(L:i.rd<=9223372036854775807)(M:i.V1<=9223372036854775807)(N:i.V6<=9223372036854775807)(J:-1099511627776<=i.V2)(K:i.V2<=1099511627776)(r:D):
 aa 90 #[aW i] (.tuple #[j (bif dz (cF (en i)).1 i then(en i:Int)else 0),j (bif dz (cF (en i)).1 i then 0 else 3)]) r:=by
 obtain⟨F,q⟩:=afs i.op k l;have B:=cG q;clear q;unfold aW;obtain⟨f,d⟩:=y (dz (cF (en i)).1 i);obtain⟨e,c⟩:=y (en i);rw[<-d,<-c];rw[<-c]at d;have HR:=cG d;have z:=cG c;clear d c;go_enter func90,ntmps90;go_wp2_with fail;refine(xd i.op k l _).mono ?_;rintro h P ⟨rfl,m⟩;have b:=(dH.start i r _).more m;clear m;simp only[dy];obtain⟨-,p,s,t,u,v,w,x⟩:=id b;go_wp2_with fail;refine(Un (aX.word i.op).Wi F B.out i.op i.V4 i.rd i.V1 i.V6 G H I L M N i.V2 J K _).mono ?_;rintro h Q ⟨rfl,n⟩;rw[show C.draw (C.ah (aX.word i.op).Wi.data.toList (aX.word i.op).Wi.size) i.rd i.V1 i.V6 i.V2=e from z.out.symm];clear s t u v w x p;replace b:=((b.alloc _).alloc _).more n;clear n;go_wp2_with fail;refine(ql e _).mono ?_;rintro h w3 ⟨rfl,o⟩;replace b:=b.more o;clear o;obtain⟨a,g⟩:=y ((cF e).1);rw[<-g];have A:Hid (f=dz a i):=by rw[g];exact HR
 clear g;obtain⟨-,p,s,t,u,v,w,x⟩:=id b;simp only[aW];have E:=wq a.op a.rd a.V1 a.V6 a.V2 a.V4 i.op i.rd i.V1 i.V6 i.V2 i.V4;rw[show(a.op==i.op&&a.rd==i.rd&&a.V1==i.V1&&a.V6==i.V6&&a.V2==i.V2&&a.V4==i.V4)=f from A.out.symm]at E;cases f
 . exact Mk
 . exact Mk
def dM (i:U):Int×Int:=
 if i.op<1\/70<i.op then(0,3)else
 if i.V4=4 then
  (if i.rd<0\/i.V1<0\/i.V6<0\/i.V2 < -1099511627776\/1099511627776<i.V2 then(0,3)else
    if dz (cF (en i)).1 i=true then((en i:Int),0)else(0,3))else
 if i.V4=2 then(match ho i 0 65536 with|some a=>((a:Int),0)|none=>(0,3))else(0,3)
def s0 (i:U)(g:i.rd<=9223372036854775807)(h:i.V1<=9223372036854775807)(k:i.V6<=9223372036854775807)(a:D):
 aa 90 #[aW i] (.tuple #[j (dM i).1,j (dM i).2]) a:=by
 by_cases c1:i.op<1\/70<i.op
 . have c:dM i=(0,3):=by unfold dM;rw[B c1]
   rw[c];exact Ul i c1 a
 by_cases c2:i.V4=4
 . have b:(i.V4==4)=true:=bb.2 c2;by_cases c3:i.rd<0\/i.V1<0\/i.V6<0\/i.V2 < -1099511627776\/1099511627776<i.V2
   . have c:dM i=(0,3):=by unfold dM;rw[z c1,B c2,B c3]
     rw[c];by_cases d0:i.rd<0
     . exact Uf i m m b d0 a
     by_cases d1:i.V1<0
     . exact Ug i m m b m d1 a
     by_cases d2:i.V6<0
     . exact Uh i m m b m m d2 a
     by_cases d3:i.V2 < -1099511627776
     . exact Ui i m m b m m m d3 a
     . exact Uj i m m b m m m m m a
   . refine(Ue i m m b m m m g h k m m a).mono ?_;rintro c e ⟨rfl,d⟩;refine⟨?_,d⟩;unfold dM;rw[z c1,B c2,z c3];cases n:dz (cF (en i)).1 i
     . rw[z (by decide)];rfl
     . rw[B rfl];rfl
 . have b:(i.V4==4)=false:=b5.2 c2;by_cases c5:i.V4=2
   . refine(Ud i m m b (bb.2 c5) 65536 rfl a).mono ?_;rintro c e ⟨⟨l,f,rfl⟩,d⟩;refine⟨?_,d⟩;unfold dM;rw[z c1,z c2,B c5,<-f.out];cases l<;>rfl
   . have c:dM i=(0,3):=by unfold dM;rw[z c1,z c2,z c5]
     rw[c];exact Uk i m m b (b5.2 c5) a
def mw (a b:U):dz a b=true↔a=b:=by
 obtain⟨c,d,e,f,g,h⟩:=a;obtain⟨i,j,k,l,m,n⟩:=b;simp[dz,and_assoc]
theorem n5 {e:Nat->Option U}{g:U}:∀(d b:Nat),scan e b d=some g->∃c,b<=c/\c<b+d/\e c=some g
 |0,_,a=>by cases a
 |d+1,b,a=>by
  rw[k4]at a
  cases f:e b with
  |some i=>rw[f]at a;simp at a;exact⟨b,by omega,by omega,by rw[f,a]⟩
  |none=>
   rw[f]at a
   obtain⟨c,j,k,h⟩:=n5 d (b+1) a
   exact⟨c,by omega,by omega,h⟩
theorem xr {e:Nat->Option U}{h:U}{c:Nat}(g:e c=some h):∀(d a:Nat),a<=c->c<a+d->(∀b,a<=b->b<c->e b=none)->scan e a d=some h
 |0,a,k,l,_=>by omega
 |d+1,a,k,l,f=>by
  rw[k4]
  by_cases j:a=c
  . subst j;rw[g]
  . rw[f a (by omega) (by omega)]
    exact xr g d (a+1) (by omega) (by omega) (fun b m i=>f b (by omega) i)
theorem wU {i:U}{e:Option Nat}:∀(c a:Nat),(∀b,a<=b->b<a+c->cO i b=none)->least i e a c=e
 |0,_,_=>rfl
 |c+1,a,d=>by
  rw[sI,d a (by omega) (by omega)]
  exact wU c (a+1) (fun b f g=>d b (by omega) (by omega))
theorem Cv {i:U}{k0:Nat}:∀(c a:Nat),a<=k0->k0<a+c->(∀b,a<=b->b<a+c->b≠k0->cO i b=none)->least i none a c=cO i k0
 |0,a,j,k,_=>by omega
 |c+1,a,j,k,d=>by
  rw[sI]
  by_cases e:a=k0
  . subst e
    rw[wU c (a+1) (fun b f g=>d b (by omega) (by omega) (by omega))]
    cases cO i a<;>rfl
  . rw[d a (by omega) (by omega) e]
    exact Cv c (a+1) (by omega) (by omega) (fun b f g h=>d b (by omega) (by omega) h)
def l8 :List L->List L->Bool
 |a::p,b::c=>(a==48&&b==49) ||(a==49&&b==48) ||l8 p c
 |_,_=>false
theorem wf :∀(p d:List L) (W:Nat),l8 p d=true->C.fits p W=true->C.fits d W=true->False
 |[],_,_,a,_,_=>by simp[l8]at a
 |_::_,[],_,a,_,_=>by simp[l8]at a
 |g::p,h::d,W,a,b,c=>by
  simp only[C.fits,cX]at b c
  simp only[l8,cR,cX,bb]at a
  rcases a with(⟨rfl,rfl⟩|⟨rfl,rfl⟩)|a
  . have e:=b.1;have f:=c.1
    simp[C.fi]at e f;omega
  . have e:=b.1;have f:=c.1
    simp[C.fi]at e f;omega
  . exact wf p d (W/2) a b.2 c.2
def sL (a:Nat):List L:=C.ah (ae.longRow a).2.1.data.toList (ae.longRow a).2.1.size
def cU (a:Nat):List L:=C.ah (ae.aZ a).2.1.data.toList (ae.aZ a).2.1.size
def SO :((List.range 71).all fun a=>a==0 ||((ae.longRow a).1==a&& (sL a).take 2==[49,49]&& (ae.longRow a).2.1.size==32))=true:=by decide+kernel
def SK :((List.range 71).all fun a=>(List.range 71).all fun b=>a==0 ||b<=a ||l8 (sL a) (sL b))=true:=by decide+kernel
def nT (b:Nat)(c:1<=b)(d:b<=70):(ae.longRow b).1=b/\(sL b).take 2=[49,49]/\(ae.longRow b).2.1.size=32:=by
 have a:=cj.1 SO b ad;simp only[cR,cX,bb]at a;rcases a with a|a
 . omega
 . exact⟨a.1.1,a.1.2,a.2⟩
def QI {a:List L}{W:Nat}(b:a.take 2=[49,49])(c:C.fits a W=true):W%4=3:=by
 rcases a with _|⟨f,a⟩
 . simp at b
 rcases a with _|⟨g,a⟩
 . simp at b
 simp at b;obtain⟨rfl,rfl⟩:=b;simp only[C.fits,cX]at c;have d:=c.1;have e:=c.2.1;simp[C.fi]at d e;omega
def n4 {b:Int×K×Int}{W:Nat}(a:cJ b W=true):C.fits (C.ah b.2.1.data.toList b.2.1.size) W=true:=by
 unfold cJ at a;simp only[cX]at a;exact a.1
def RD (a:K)(e:a.size<=32)(b:Bool)(W:Nat):-1099511627776<=da a b W/\da a b W<=1099511627776:=by
 have c:=xF (C.ah a.data.toList a.size) W;rw[C.jk _ _ (by simp)]at c;have d:=wC (C.ah a.data.toList a.size);unfold da C.kO;split<;>omega
def SL {a W:Nat}(c:1<=a)(f:a<=70)(m:G W)(d:cJ (ae.longRow a) W=true):(cF W).1=bK (ae.longRow a) W:=by
 obtain⟨f1,f2,f3⟩:=nT a c f;have e:=n4 d;have l:=QI f2 e;rw[<-mc];unfold aP;have j:sizeOf (W:Int)=4:=by unfold sizeOf;rw[z (by omega),B (by omega)]
 rw[j,z (by decide)];have i:cK 4 W a=some (bK (ae.longRow a) W):=by
  unfold cK;rw[show rowAt 4 a=ae.longRow a from rfl,B d]
 have g:(bY 4).toNat=70:=rfl;rw[g,ds,xr i 70 1 c (by omega) ?_];intro k n o;unfold cK;rw[z];intro h;have b:=cj.1 (cj.1 SK k ad) a ad;simp only[cR,bb,cC]at b;rcases b with(b|b)|b
 . omega
 . omega
 . exact wf _ _ W b (n4 h) e
theorem SN {W:Nat}{i:U}(a:(cF W).1=i)(f:1<=i.op)(r:i.V4=4):∃c:Nat,(c:Int)=i.op/\1<=c/\c<=70/\cJ (ae.longRow c) W=true/\bK (ae.longRow c) W=i:=by
 rw[<-mc]at a;unfold aP at a;rcases xy (W:Int)with h|⟨h|h,_⟩
 . rw[B h]at a;rw[<-a]at f;simp[aF]at f
 . rw[h,z (by decide),ds]at a;cases d:scan (cK 4 W) 1 (bY 4).toNat with
   |none=>rw[d]at a;rw[<-a]at f;simp at f
   |some l=>
    rw[d]at a;simp only at a;subst a;obtain⟨e,n,o,b⟩:=n5 _ _ d;have k:(bY 4).toNat=70:=rfl;rw[k]at o;unfold cK at b;split at b
    . next q=>
      have j:bK (ae.longRow e) W=l:=dr b;refine⟨e,?_,n,by omega,q,j⟩;rw[<-j];exact(nT e n m).1.symm
    . cases b
 . rw[h,z (by decide),ds]at a;exfalso;cases d:scan (cK 2 W) 1 (bY 2).toNat with
   |none=>rw[d]at a;rw[<-a]at f;simp at f
   |some l=>
    rw[d]at a;simp only at a;subst a;obtain⟨e,n,o,b⟩:=n5 _ _ d;have k:(bY 2).toNat=26:=rfl;rw[k]at o;unfold cK at b;split at b
    . have j:bK (ae.aZ e) W=l:=dr b;have p:((List.range 27).all fun c=>c==0 ||(ae.aZ c).2.1.size==16)=true:=zb;have g:=cj.1 p e ad;simp only[cR,bb]at g;rcases g with g|g
      . omega
      . have:(bK (ae.aZ e) W).V4=2:=by unfold bK;simp only;rw[g];rfl
        rw[j]at this;omega
    . cases b
def SM (b:Nat)(f:1<=b)(g:b<=70)(i:U)(e:(b:Int)=i.op):fv (ae.longRow b) i=en i:=by
 have a:=cj.1 BF b ad;rw[cR]at a;rcases a with a|a
 . rw[bb]at a;omega
 . simp only[l7,cX,bb,cC]at a;have c:=a.1.1.1.1.1.1.1.1.1.1.2;have d:(ae.longRow b).2.1.size=(aX.word b).Wi.size:=by
    have:=congrArg List.length c;simpa using this
   unfold fv en;rw[<-e,c,d]
def Qn (i:U)(f:i.V4=4):fe i=dM i:=by
 unfold fe;rw[f,show(bY 4).toNat=70 from rfl];by_cases q:i.op<1\/70<i.op
 . rw[wU 70 1]
   . unfold dM;rw[B q]
   . intro b j r;unfold cO;rw[z];intro d;have e:rowAt i.V4 b=ae.longRow b:=by rw[f];rfl
     rw[e,(nT b j (by omega)).1]at d;omega
 . obtain⟨a,p⟩:=h6 (show 0<=i.op by omega);have g:1<=a:=J;have k:a<=70:=J;have e:∀b,rowAt i.V4 b=ae.longRow b:=by intro b;rw[f];rfl
   rw[Cv (k0:=a) 70 1 g (by omega)]
   . have l:=SM a g k i p.symm;have x:G (en i):=by
      rw[<-l];exact BM _ Gg i
     unfold dM;rw[z q,B f];by_cases c:cJ (ae.longRow a) (en i)=true/\dz (bK (ae.longRow a) (en i)) i=true
     . have n:cO i a=some (en i):=by
        unfold cO;rw[e a,l,B ⟨by rw[(nT a g k).1,p],c.1,c.2⟩]
       have h:=(mw _ _).1 c.2;have hd:=SL g k x c.1;rw[n,z,B (by rw[hd];exact c.2)];have C:=RD (ae.longRow a).2.1 Gg (hasB (ae.longRow a).2.2 1) (en i);have D:=El (ae.longRow a).2.2;have t:i.rd=(aM (ae.longRow a).2.1 68 (en i):Int)+aM (ae.longRow a).2.1 66 (en i)+dB (ae.longRow a).2.2:=(congrArg U.rd h).symm;have u:i.V1=(aM (ae.longRow a).2.1 83 (en i):Int)+aM (ae.longRow a).2.1 66 (en i)+dC (ae.longRow a).2.2:=(congrArg U.V1 h).symm;have v:i.V6=(aM (ae.longRow a).2.1 84 (en i):Int):=(congrArg U.V6 h).symm;have w:i.V2=da (ae.longRow a).2.1 (hasB (ae.longRow a).2.2 1) (en i):=(congrArg U.V2 h).symm;rw[t,u,v,w];omega
     . have n:cO i a=none:=by
        unfold cO;rw[e a,l,z (fun d=>c ⟨d.2.1,d.2.2⟩)]
       rw[n];show((0:Int),(3:Int))=_;by_cases o:i.rd<0\/i.V1<0\/i.V6<0\/i.V2 < -1099511627776\/1099511627776<i.V2
       . rw[B o]
       . rw[z o,z];intro y;obtain⟨b,E,j,r,s,A⟩:=SN ((mw _ _).1 y) m f;obtain rfl:b=a:=by omega
         exact c ⟨s,(mw _ _).2 A⟩
   . intro b j r s;unfold cO;rw[z];intro d;rw[e b,(nT b j (by omega)).1]at d;omega
def xh (a:L->Bool)(b:K)(W:Nat)(g:Int):dn a b W g%2^C.ao a (C.ah b.data.toList b.size)=(C.val a (C.ah b.data.toList b.size) W:Int):=by
 unfold dn;simp only;generalize C.ah b.data.toList b.size=c;have e:=C.mG a c W;by_cases d:C.ao a c=0
 . rw[B d,d];rw[d]at e;simp at e;rw[e];simp[Int.emod_one]
 . rw[z d];by_cases c3:C.ao a c=3
   . rw[B c3,c3];rw[c3]at e;have h:(2:Int)^3=8:=cM;rw[h];omega
   . rw[z c3];have f:((2:Int)^C.ao a c)=((2^C.ao a c:Nat):Int):=bN;rw[f];exact tS m m
def DW (a:Nat):Bool:=
 decide (1<=(ae.aZ a).1)&&decide ((ae.aZ a).1<=70)&& ((ae.aZ a).2.1.size==16)&& (cU a).all C.known&&C.apart (cU a)&& (match cU a with|b::c::_=>b==48 ||c==48|_=>false)&&
 (C.ao (· ==83) (cU a)==0 ||C.ao (· ==66) (cU a)==0)
def Vw :((List.range 27).all fun a=>a==0 ||DW a)=true:=by decide+kernel
theorem xx (a:Nat)(m:1<=a)(n:a<=26):1<=(ae.aZ a).1/\(ae.aZ a).1<=70/\(ae.aZ a).2.1.size=16/\(cU a).all C.known=true/\C.apart (cU a)=true/\(∃d e f,cU a=d::e::f/\(d=48\/e=48))/\
 (C.ao (· ==83) (cU a)=0\/C.ao (· ==66) (cU a)=0):=by
 have c:=cj.1 Vw a ad;rw[cR,bb]at c;rcases c with c|c
 . omega
 . simp only[DW,cX,cC,bb,cR]at c;obtain⟨⟨⟨⟨⟨⟨h,i⟩,j⟩,k⟩,l⟩,b⟩,g⟩:=c;refine⟨h,i,j,k,l,?_,g⟩;revert b;match cU a with
   |d::e::f=>intro b;simp only[cR,bb]at b;exact⟨d,e,f,rfl,b⟩
   |[d]=>intro b;cases b
   |[]=>intro b;cases b
def QH {c d:L}{q:List L}{W:Nat}(e:c=48\/d=48)(b:C.fits (c::d::q) W=true):¬W%4=3:=by
 simp only[C.fits,cX]at b;rcases e with rfl|rfl
 . have a:=b.1;simp[C.fi]at a;omega
 . have a:=b.2.1;simp[C.fi]at a;omega
def Vn (b:Nat)(c:1<=b)(d:b<=26):l7 (ae.aZ b) (aX.half b) 16=true:=by
 have a:=cj.1 BE b ad;rw[cR,bb]at a;rcases a with a|a
 . omega
 . exact a
def Vp (a b:Nat)(l:1<=a)(m:a<=26)(t:b<65536)(o:cJ (ae.aZ a) b=true):fv (ae.aZ a) (bK (ae.aZ a) b)=b:=by
 obtain⟨_,_,f3,f4,f5,_,f7⟩:=xx a l m;have n:=n4 o;have i:=Vn a l m;have j:=(xn i b Gd).1;simp only[l7,cX,bb,cC]at i;have k:=i.1.1.1.1.1.1.1.1.1.1.2;have g:(aX.half a).Wi=(ae.aZ a).2.1:=by
  generalize (aX.half a).Wi=d at *;generalize (ae.aZ a).2.1=e at *;obtain⟨d⟩:=d;obtain⟨e⟩:=e;simp only at k;congr 1;exact(Array.toList_inj.1 k).symm
 unfold fv;have f:C.ah (ae.aZ a).2.1.data.toList (ae.aZ a).2.1.size=cU a:=rfl;rw[f]at n|-;have r:(cU a).length=16:=by unfold cU;rw[C.jk _ _ (by simp),f3]
 refine C.nD (cU a) b _ _ _ _ f4 (by rw[r];have:(2:Nat)^16=65536:=R;omega) n ?_ ?_ ?_ ?_
 . rw[j];have:=xh (fun c=>c==68 ||c==66) (ae.aZ a).2.1 b (aX.half a).rd;rw[f]at this;unfold eJ;simp only;rw[g];exact this
 . rw[j];unfold eJ;simp only;rw[g];have h:=xh (fun c=>c==83 ||c==66) (ae.aZ a).2.1 b (aX.half a).V1;rw[f]at h;rcases f7 with f7|f7
   . rw[f7,val_zero 83 _ _ f7];simp[Int.emod_one]
   . obtain⟨d,e⟩:=tz 83 66 (cU a) b f7;rw[d,e]at h;exact h
 . rw[j];unfold eJ;simp only;rw[g];have:=xh (fun c=>c==84) (ae.aZ a).2.1 b 0;rw[f]at this;exact this
 . intro s p q;have:=C.RE (cU a) (hasB (ae.aZ a).2.2 1) b s p f5 q;exact this
def gw (a:L):List L->List L->Option Nat
 |d::p,c::b=>if c==a then(if d==48 then(gw a p b).map (2* ·)else if d==49 then(gw a p b).map (2* · +1)else none)else gw a p b
 |_,[]=>some 0
 |[],c::b=>if c==a then none else gw a [] b
theorem mg (b:L):∀(p c:List L) (W e:Nat),gw b p c=some e->C.fits p W=true->C.val (· ==b) c W=e
 |[],[],_,e,a,_=>by simp[gw]at a;simp[C.val,a]
 |_::_,[],_,e,a,_=>by simp[gw]at a;simp[C.val,a]
 |[],j::c,W,e,a,f=>by
  simp only[gw]at a
  cases d:(j==b)
  . rw[d]at a
    simp only[ei,cS]at a
    simp only[C.val,d,bi]
    exact mg b [] c (W/2) e a rfl
  . rw[d]at a;simp at a
 |m::p,j::c,W,e,a,f=>by
  simp only[C.fits,cX]at f
  simp only[gw]at a
  cases d:(j==b)
  . rw[d]at a
    simp only[ei,cS]at a
    simp only[C.val,d,bi]
    exact mg b p c (W/2) e a f.2
  . rw[d]at a
    simp only[if_true]at a
    simp only[C.val,d,cv]
    by_cases k:m=48
    . subst k
      simp only[beq_self_eq_true,if_true]at a
      cases g:gw b p c with
      |none=>rw[g]at a;cases a
      |some i=>
       rw[g]at a
       have:=mg b p c (W/2) i g f.2
       have h:=f.1
       simp[C.fi]at h
       simp at a
       omega
    . rw[z (by simpa using k)]at a
      by_cases l:m=49
      . subst l
        simp only[beq_self_eq_true,if_true]at a
        cases g:gw b p c with
        |none=>rw[g]at a;cases a
        |some i=>
         rw[g]at a
         have:=mg b p c (W/2) i g f.2
         have h:=f.1
         simp[C.fi]at h
         simp at a
         omega
      . rw[z (by simpa using l)]at a;cases a
def w8 (b a:Nat):Bool:=
 l8 (cU b) (cU a) ||
 (hasB (ae.aZ a).2.2 128&&gw 84 (cU b) (cU a)==some 0&&C.ao (· ==84) (cU a) !=3) ||
 (hasB (ae.aZ a).2.2 64&&gw 83 (cU b) (cU a)==some 0&&C.ao (· ==83) (cU a) !=3&&C.ao (· ==66) (cU a)==0&&dC (ae.aZ a).2.2==0) ||
 (hasB (ae.aZ a).2.2 256&&gw 68 (cU b) (cU a)==some 2&&C.ao (· ==68) (cU a) !=3&&C.ao (· ==66) (cU a)==0&&dB (ae.aZ a).2.2==0)
def Vr :((List.range 27).all fun a=>(List.range 27).all fun b=>a==0 ||decide (b<=a) ||w8 a b)=true:=by decide+kernel
def xj {a:K}{b:L}{W c:Nat}(e:C.val (· ==b) (C.ah a.data.toList a.size) W=c)(d:C.ao (· ==b) (C.ah a.data.toList a.size)≠3):aM a b W=c:=by
 unfold aM;simp only;rw[z d,e]
def Dm {b:K}{a:L}{W:Nat}(c:C.ao (· ==a) (C.ah b.data.toList b.size)=0):aM b a W=0:=by
 unfold aM;simp only;rw[z (by omega),val_zero a _ _ c]
def TX (i c b:Nat)(a:w8 i c=true)(n:cJ (ae.aZ i) b=true)(f:cJ (ae.aZ c) b=true):False:=by
 have e:=n4 n;have m:=n4 f;unfold cJ at f;simp only[cX,ox]at f;have h:=f.2;unfold mu at h;simp only[Bool.or_eq_false_iff]at h;obtain⟨⟨⟨⟨o,p⟩,j⟩,k⟩,l⟩:=h;simp only[w8,cR,cX,bb,bne_iff_ne,ne_eq]at a;rcases a with((a|a)|a)|a
 . exact wf _ _ b a e m
 . have d:=xj (mg 84 _ _ b 0 a.1.2 e) a.2;rw[a.1.1,rc,b5]at k;apply k;show(aM (ae.aZ c).2.1 84 b:Int)=0;rw[d];rfl
 . have d:=xj (mg 83 _ _ b 0 a.1.1.1.2 e) a.1.1.2;have g:=Dm (W:=b) a.1.2;rw[a.1.1.1.1,rc,b5]at j;apply j;show(aM (ae.aZ c).2.1 83 b:Int)+aM (ae.aZ c).2.1 66 b+dC (ae.aZ c).2.2=0;rw[d,g,a.2];rfl
 . have d:=xj (mg 68 _ _ b 2 a.1.1.1.2 e) a.1.1.2;have g:=Dm (W:=b) a.1.2;rw[a.1.1.1.1,rc,b5]at l;apply l;show(aM (ae.aZ c).2.1 68 b:Int)+aM (ae.aZ c).2.1 66 b+dB (ae.aZ c).2.2=2;rw[d,g,a.2];rfl
def Vo {a b:Nat}(e:1<=a)(g:a<=26)(q:b<65536)(d:cJ (ae.aZ a) b=true):¬b%4=3/\(cF b).1=bK (ae.aZ a) b:=by
 obtain⟨_,_,_,_,_,⟨t,u,p,m,o⟩,_⟩:=xx a e g;have j:=n4 d;have h:¬b%4=3:=QH (q:=p) o (by rw[<-m];exact j);refine⟨h,?_⟩;rw[<-mc];unfold aP;have n:sizeOf (b:Int)=2:=Ht;rw[n,z (by decide)];have l:cK 2 b a=some (bK (ae.aZ a) b):=by
  unfold cK;rw[show rowAt 2 a=ae.aZ a from rfl,B d]
 have i:(bY 2).toNat=26:=rfl;rw[i,ds,xr l 26 1 e (by omega) ?_];intro f r s;unfold cK;rw[z];intro k;have c:=cj.1 (cj.1 Vr f ad) a ad;simp only[cR,bb,cC]at c;rcases c with(c|c)|c
 . omega
 . omega
 . exact TX f a b c k d
theorem Vq {b:Nat}{i:U}(o:b<65536)(n:¬b%4=3)(a:(cF b).1=i)(f:1<=i.op):∃d:Nat,1<=d/\d<=26/\cJ (ae.aZ d) b=true/\bK (ae.aZ d) b=i:=by
 rw[<-mc]at a;unfold aP at a;have j:sizeOf (b:Int)=2:=Ht;rw[j,z (by decide),ds]at a;cases e:scan (cK 2 b) 1 (bY 2).toNat with
 |none=>rw[e]at a;rw[<-a]at f;simp at f
 |some p=>
  rw[e]at a;simp only at a;subst a;obtain⟨k,l,m,c⟩:=n5 _ _ e;have g:(bY 2).toNat=26:=rfl;rw[g]at m;unfold cK at c;split at c
  . next h=>exact⟨k,l,by omega,h,dr c⟩
  . cases c
def UY {i:U}{a c:Nat}(f:i.V4=2)(b:cO i a=some c):fv (ae.aZ a) i=c/\cJ (ae.aZ a) c=true/\bK (ae.aZ a) c=i:=by
 unfold cO at b;rw[show rowAt i.V4 a=ae.aZ a by rw[f];rfl]at b;split at b
 . next d=>
   have e:=dr b;rw[e]at d;exact⟨e,d.2.1,(mw _ _).1 d.2.2⟩
 . cases b
theorem wV {i:U}:∀(o b:Nat) (h:Option Nat),
 (∀j,least i h b o=some j->(h=some j\/∃a,b<=a/\a<b+o/\cO i a=some j)/\(∀c,h=some c->j<=c)/\∀a c,b<=a->a<b+o->cO i a=some c->j<=c)/\
 (least i h b o=none->h=none/\∀a,b<=a->a<b+o->cO i a=none)
 |0,b,h=>by
  refine⟨fun j n=>?_,fun n=>⟨n,fun a c j=>by omega⟩⟩
  have y:h=some j:=n
  exact⟨.inl y,fun c l=>(by rw[y]at l;cases l;exact aB _),fun a c G H=>by omega⟩
 |o+1,b,h=>by
  obtain⟨D,E⟩:=wV (i:=i) o (b+1) (better h (cO i b))
  rw[sI]
  constructor
  . intro j n
    obtain⟨d,g,t⟩:=D j n
    cases f:cO i b with
    |none=>
     rw[f]at d g
     simp only[better]at d g
     refine⟨?_,g,?_⟩
     . rcases d with d|⟨a,u,v,m⟩
       . exact .inl d
       . exact .inr ⟨a,by omega,by omega,m⟩
     . intro a c r s e
       by_cases k:a=b
       . subst k;rw[f]at e;cases e
       . exact t a c (by omega) (by omega) e
    |some q=>
     rw[f]at d g
     cases h with
     |none=>
      simp only[better]at d g
      have x:=g q rfl
      refine⟨?_,fun c l=>(by cases l),?_⟩
      . rcases d with d|⟨a,u,v,m⟩
        . exact .inr ⟨b,by omega,by omega,by rw[f];exact d⟩
        . exact .inr ⟨a,by omega,by omega,m⟩
      . intro a c r s e
        by_cases k:a=b
        . subst k;rw[f]at e;cases e;exact x
        . exact t a c (by omega) (by omega) e
     |some w=>
      simp only[better]at d g
      by_cases A:q<w
      . rw[B A]at d g
        have x:=g q rfl
        refine⟨?_,fun c l=>(by cases l;omega),?_⟩
        . rcases d with d|⟨a,u,v,m⟩
          . exact .inr ⟨b,by omega,by omega,by rw[f];exact d⟩
          . exact .inr ⟨a,by omega,by omega,m⟩
        . intro a c r s e
          by_cases k:a=b
          . subst k;rw[f]at e;cases e;exact x
          . exact t a c (by omega) (by omega) e
      . rw[z A]at d g
        have C:=g w rfl
        refine⟨?_,fun c l=>(by cases l;exact C),?_⟩
        . rcases d with d|⟨a,u,v,m⟩
          . exact .inl d
          . exact .inr ⟨a,by omega,by omega,m⟩
        . intro a c r s e
          by_cases k:a=b
          . subst k;rw[f]at e;cases e;omega
          . exact t a c (by omega) (by omega) e
  . intro n
    obtain⟨p,F⟩:=E n
    cases f:cO i b with
    |none=>
     rw[f]at p
     refine⟨p,fun a r s=>?_⟩
     by_cases k:a=b
     . subst k;exact f
     . exact F a (by omega) (by omega)
    |some q=>
     rw[f]at p
     cases h with
     |none=>cases p
     |some w=>simp only[better]at p;split at p<;>cases p
theorem Du {i:U}:∀(e b:Nat),
 (∀c,ho i b e=some c->b<=c/\c<b+e/\(c%4≠3/\dz (cF c).1 i=true)/\∀a,b<=a->a<c->¬(a%4≠3/\dz (cF a).1 i=true))/\
 (ho i b e=none->∀a,b<=a->a<b+e->¬(a%4≠3/\dz (cF a).1 i=true))
 |0,b=>⟨fun c d=>(by cases d),fun _ a h g=>by omega⟩
 |e+1,b=>by
  obtain⟨k,l⟩:=Du (i:=i) e (b+1)
  rw[Dv]
  by_cases f:b%4≠3/\dz (cF b).1 i=true
  . rw[B f]
    exact⟨fun c d=>(by cases d;exact⟨by omega,by omega,f,fun a h g=>by omega⟩),fun d=>(by cases d)⟩
  . rw[z f]
    refine⟨fun c d=>?_,fun d a h g=>?_⟩
    . obtain⟨o,p,m,n⟩:=k c d
      refine⟨by omega,by omega,m,fun a h g=>?_⟩
      by_cases j:a=b
      . subst j;exact f
      . exact n a (by omega) g
    . by_cases j:a=b
      . subst j;exact f
      . exact l d a (by omega) (by omega)
def EZ {i:U}(l:i.V4=2)(a b:Nat)(f:1<=a)(p:a<27)(o:cO i a=some b):b<65536/\(b%4≠3/\dz (cF b).1 i=true)/\1<=i.op/\i.op<=70:=by
 obtain⟨g,k,d⟩:=UY l o;obtain⟨f1,f2,f3,_⟩:=xx a f m;have e:b<65536:=by
  rw[<-g];have c:=C.kJ (C.ah (ae.aZ a).2.1.data.toList (ae.aZ a).2.1.size) i.rd i.V1 i.V6 i.V2;rw[C.jk _ _ (by simp),show 2^(ae.aZ a).2.1.size=65536 by rw[f3]]at c;exact c
 obtain⟨h,j⟩:=Vo f m e k;have n:(bK (ae.aZ a) b).op=(ae.aZ a).1:=rfl;rw[d]at n;exact⟨e,⟨h,(mw _ _).2 (j.trans d)⟩,by omega,by omega⟩
def E0 {i:U}(h:i.V4=2)(b:Nat)(f:b<65536)(e:b%4≠3/\dz (cF b).1 i=true)(k:1<=i.op):∃a,1<=a/\a<27/\cO i a=some b:=by
 obtain⟨a,g,m,d,c⟩:=Vq f e.1 ((mw _ _).1 e.2) k;have hd:=Vp a b g m f d;rw[c]at hd;refine⟨a,g,by omega,?_⟩;unfold cO;have l:rowAt i.V4 a=ae.aZ a:=by rw[h];rfl
 have j:(ae.aZ a).1=i.op:=congrArg U.op c;rw[l,hd,B ⟨j,d,(mw _ _).2 c⟩]
theorem SG {i:U}(h:i.V4=2)(z:¬(i.op<1\/70<i.op))(d:Nat)(w:Hid (d=65536)):least i none 1 26=ho i 0 d:=by
 obtain⟨p,q⟩:=wV (i:=i) 26 1 none;obtain⟨o,t⟩:=Du (i:=i) d 0;cases k:least i none 1 26 with
 |none=>
  cases hS:ho i 0 d with
  |none=>rfl
  |some b=>
   exfalso;obtain⟨_,u,j,_⟩:=o b hS;obtain⟨f,g,n,c⟩:=E0 h b yO j m;rw[(q k).2 f g (by omega)]at c;cases c
 |some a=>
  obtain⟨r,_,s⟩:=p a k;have l:a<65536/\(a%4≠3/\dz (cF a).1 i=true):=by
   rcases r with e|⟨f,g,n,c⟩
   . cases e
   . have:=EZ h f a g m c;exact⟨this.1,this.2.1⟩
  cases hS:ho i 0 d with
  |none=>exact absurd l.2 (t hS a m yO)
  |some b=>
   obtain⟨_,u,j,v⟩:=o b hS;obtain⟨f,g,n,c⟩:=E0 h b yO j m;have y:=s f b g m c;have x:b<=a:=by
    rcases Nat.lt_or_ge a b with e|e
    . exact absurd l.2 (v a m e)
    . exact e
   have:a=b:=by omega
   rw[this]
theorem Qm (i:U)(a:i.V4=2):fe i=dM i:=by
 unfold fe dM;rw[a,show(bY 2).toNat=26 from rfl];by_cases b:i.op<1\/70<i.op
 . rw[B b];cases e:least i none 1 26 with
   |none=>rfl
   |some c=>
    exfalso;rcases((wV (i:=i) 26 1 none).1 c e).1 with d|⟨f,g,k,h⟩
    . cases d
    . have:=(EZ a f c g m h).2.2;omega
 . rw[z b,z (by decide),B rfl,SG a b 65536 rfl];generalize ho i 0 65536=j;cases j<;>rfl
def wp (i:U):fe i=dM i:=by
 by_cases b:i.V4=4
 . exact Qn i b
 . by_cases a:i.V4=2
   . exact Qm i a
   . unfold fe dM;have d:(bY i.V4).toNat=0:=by
      unfold bY;rw[b5.2 b,b5.2 a];rfl
     rw[d];show((0:Int),(3:Int))=_;by_cases c:i.op<1\/70<i.op
     . rw[B c]
     . rw[z c,z b,z a]
theorem aat {c:Program}{b d:D}{name:String}{f:IntKind}{h:List Int}(a:Lib.TabIs c b name f h)(i:Below b.heap.size b d):Lib.TabIs c d name f h:=by
 unfold Lib.TabIs World.var? at a|-;cases e:c.globalNamed name with
 |none=>rw[e]at a;simp at a
 |some g=>
  rw[e]at a;simp only[Option.bind_some]at a|-;have k:g<b.heap.size:=by
   refine Nat.lt_of_not_le fun j=>?_;rw[Array.getElem?_eq_none j]at a;simp at a
  rw[i.block g k];exact a
def QN (a:D)(b:Nat)(d:Array Obj):Below a.heap.size a (Go.Sort.grow (a.drewN b) d):=by
 have e:Below a.heap.size a (a.drewN b):=⟨rfl,rfl,rfl,aB _,fun _ _=>rfl⟩;refine e.trans ⟨rfl,rfl,rfl,by unfold Go.Sort.grow;simp,fun c f=>?_⟩;show((a.drewN b).heap++d)[c]?=(a.drewN b).heap[c]?;exact Array.getElem?_append_left f
def c0 (a:D):Prop:=Lib.TabIs prog a "internal/strconv.uint64pow10" .u64 Lib.pow10Tab
def c0.more {a w':D}(b:c0 a)(c:Below a.heap.size a w'):c0 w':=aat b c
def sh (a:Int)(f:-1099511627776<=a)(g:a<=1099511627776)(b:D)(c:c0 b):
 aa 220 #[j a] (u.aG (Lib.itoa a)) b:=by
 refine(Tryz.strconv_Itoa a m m b c).mono ?_;rintro e d ⟨rfl,h,i,rfl⟩;exact⟨rfl,QN _ _ _⟩
def nP (a:Int)(b:-1099511627776<=a)(c:a<=1099511627776):(Lib.itoa a).length<=21:=Lib.itoa_length_le a (by omega) (by omega)
def s9 (a:Nat)(b:a<100):(u.c7 a).length<=11:=by
 have c:=cj.1 CF a (by simpa using b);rw[cC]at c;simp only[u.c7,c9];omega
def On (g:Nat)(Y:g=100\/g=115\/g=116\/g=109\/g=106\/g=117\/g=105)(i:U)(h:i5 i)(a:D)(f:c0 a):
 aa 223 #[.int .u8 g,aW i] (u.aG (u.hP g i)) a:=by
 obtain⟨E,Q⟩:∃v:Nat,i.rd=v:=⟨i.rd.toNat,by have:=h.d0;omega⟩;obtain⟨b,R⟩:∃v:Nat,i.V1=v:=⟨i.V1.toNat,by have:=h.YT;omega⟩;obtain⟨F,S⟩:∃v:Nat,i.V6=v:=⟨i.V6.toNat,by have:=h.t0;omega⟩;have aj:E<32:=by have:=h.d1;omega
 have ak:b<32:=by have:=h.s1;omega
 have al:F<32:=by have:=h.t1;omega
 have V:=h.i0;have W:=h.YU;clear h;obtain⟨ad,am,an,ao,e,ac⟩:=i;simp only at Q R S V W;subst Q R S;unfold aW u.hP;simp only[ds];have x:∀w,Below a.heap.size a (a.alloc w):=rM;have ae:Hid (∀w,c0 (a.alloc w)):=fun w=>f.more (x w);rcases Y with rfl|rfl|rfl|rfl|rfl|rfl|rfl
 . simp only[if_true];obtain⟨o,d⟩:=y (u.aG (u.c7 E));have c:=fun a=>nn E m a;exact AF
 . rw[z (by decide),B rfl];obtain⟨o,d⟩:=y (u.aG (u.c7 b));have c:=fun a=>nn b m a;exact AF
 . rw[z (by decide),z (by decide),B rfl];obtain⟨o,d⟩:=y (u.aG (u.c7 F));have c:=fun a=>nn F m a;exact AF
 . rw[z (by decide),z (by decide),z (by decide),z (by decide),B rfl];obtain⟨o,d⟩:=y (⟨(u.c7 b).toArray⟩:K);obtain⟨G,k⟩:=y (⟨(Lib.itoa e).toArray⟩:K);obtain⟨A,C⟩:=y (⟨(Lib.itoa e++[40]).toArray⟩:K);obtain⟨n,q⟩:=y (⟨((Lib.itoa e++[40])++u.c7 b).toArray⟩:K);obtain⟨s,t⟩:=y (⟨(((Lib.itoa e++[40])++u.c7 b)++[41]).toArray⟩:K);have Z:=nP e m m;have ab:=s9 b m;have ag:∀a,(Op.stringOp .add G ⟨#[40]⟩).run prog a=.ok (.string A) a:=fun a=>eb (a:=G) (b:=⟨#[40]⟩) (c:=A) (by rw[k,C];exact he _ [40]) Gh a;have ah:∀a,(Op.stringOp .add A o).run prog a=.ok (.string n) a:=fun a=>eb (a:=A) (b:=o) (c:=n) (by rw[C,d,q];exact he _ _) (by rw[C,d];simp[ByteArray.size];omega) a;have ai:∀a,(Op.stringOp .add n ⟨#[41]⟩).run prog a=.ok (.string s) a:=Hv;have c:=fun a=>nn b m a;rw[show u.aG (u.c7 b)=.string o by rw[d];rfl]at c;have L:=fun a f=>sh e m m a f;rw[show u.aG (Lib.itoa e)=.string G by rw[k];rfl]at L;obtain⟨p,r⟩:=y (a.alloc (.cells #[j ad,j E,j b,j F,j e,j ac] 53));have P:p.cell? ⟨a.heap.size,2,none⟩=some (j b):=by rw[r];simp
   have J:a.heap.size<p.heap.size:=by rw[r];simp
   have I:Below a.heap.size a p:=by rw[r];exact x _
   have T:c0 p:=f.more I;have N:=l ((L p.drew (T.more (aq _ _).drew)).mono fun O M H=>(⟨H.1,(H.2.cell (p:=⟨a.heap.size,2,none⟩) J).trans P,l (I.trans ((aq _ _).drew.trans (H.2.mono (gn J))))⟩:_/\M.cell? ⟨a.heap.size,2,none⟩=some (j b)/\Hid (Below a.heap.size a M)));rw[r]at N;clear P J I T r;rw[show u.aG (Lib.itoa e++40::(u.c7 b++[41]))=.string s by rw[t];unfold u.aG;simp];have HR:=l c;clear c L d k C q t Z ab f;go_enter func223,ntmps223;go_upto_region 11 with fail;go_region_with(first|(go_at_call 306;refine(HR.out _).mono ?_;rintro O af ⟨rfl,rfl⟩)|(go_at_call 220;with_reducible refine N.out.mono ?_;rintro O M ⟨rfl,d2,X⟩));all_goals (go_wp2;go_ret;exact⟨rfl,X.out⟩)
 . exact Ms
 . rw[z (by decide),z (by decide),z (by decide),B rfl];obtain⟨o,d⟩:=y (u.aG (Lib.itoa (b:Int)));have c:=fun a f=>sh (b:Int) m m a f;exact Mt
 . exact Ms
def Og (b:Int)(t:-1099511627776<=b)(v:b<=1099511627776)(f:Int)(a:D)(w:c0 a):
 aa 147 #[j b,j f] (u.aG (u.bq (if f=2 then 72 else 71)++32::Lib.itoa b)) a:=by
 obtain⟨d,e⟩:=y (if f=2 then 72 else 71:Nat);rw[<-e];have r:d<=72:=by rw[e];split<;>omega
 obtain⟨g,i⟩:=y (Nm.name d:K);obtain⟨n,k⟩:=y (⟨(Lib.itoa b).toArray⟩:K);obtain⟨h,m⟩:=y (⟨(u.bq d++[32]).toArray⟩:K);obtain⟨o,p⟩:=y (⟨((u.bq d++[32])++Lib.itoa b).toArray⟩:K);have C:=nP b t v;have F:(u.bq d).length<=20:=by have:=nX d r;unfold u.bq;rw[dQ];exact this
 have H:∀a,(Op.stringOp .add g ⟨#[32]⟩).run prog a=.ok (.string h) a:=fun a=>eb (a:=g) (b:=⟨#[32]⟩) (c:=h) (by rw[i,m,<-hf (Nm.name d)];exact he _ [32]) (by rw[i];have:=nX d r;have c:(⟨#[32]⟩:K).size=1:=rfl;rw[c];omega) a;have I:∀a,(Op.stringOp .add h n).run prog a=.ok (.string o) a:=fun a=>eb (a:=h) (b:=n) (c:=o) (by rw[m,k,p];exact he _ _) (by rw[m,k];simp[ByteArray.size];omega) a;have q:=sh b t v a w;rw[show u.aG (Lib.itoa b)=.string n by rw[k];rfl]at q;rw[show u.aG (u.bq d++32::Lib.itoa b)=.string o by rw[p];unfold u.aG;simp];have G:=l q;have s:=l i;clear q i k m p C F w r;by_cases c:f=2
 . rw[B c]at e;have A:(f==2)=true:=eT;subst e;have x:Hid (Nm.name 72=g):=s.out.symm;exact Mu
 . rw[z c]at e;have A:(f==2)=false:=eT;subst e;have x:Hid (Nm.name 71=g):=s.out.symm;exact Mu
end Go.Proofs.YtmlgonbhoknoiaaGreatDoor
