import Derived.Test.YtmlgonbhoknoiaaGreatDoorJBJ
set_option maxHeartbeats 8000000
set_option maxRecDepth 100000
set_option linter.all false
namespace Go.Proofs.YtmlgonbhoknoiaaGreatDoor
open Go.RowKit Go.Proofs.Tryz
def QC (a:N):ax (k3 a) 0 false false=kH:=by
 unfold ax S k3 ny kH;simp
def CZ (a:N):aD (k3 a) 0 false false=⟨pW a.b,kH,List.replicate 32 0,2147483648,false,0⟩:=by
 unfold aD;rw[QC];rfl
def Pw (a:Nat)(b:a<=65536):bw (sR a) (hN a):=⟨CG a b,rfl,0,false,false,by decide,(CZ (kW a)).symm⟩
def Px {b:ai}{a:N}(c:bw b a):bw (xq b) (k3 a):=by
 obtain⟨d,g,e,f,i,h,rfl⟩:=c;exact⟨Ds a d.ok.b.o,rfl,0,false,false,by decide,(CZ a).symm⟩
def l5 {a:ai}{b:N}(c:bw a b):a.b=b.b:=by
 obtain⟨f,g,d,e,i,h,rfl⟩:=c;rfl
def we {b:ai}{c:N}(f:bw b c){a:P}(j:aT a):bw {b with b:=a} (c.V7 a):=by
 obtain⟨g,h,d,e,i,k,rfl⟩:=f;exact⟨g.V7 j,h,d,e,i,k,rfl⟩
def Pz {a:ai}{b:N}(c:bw a b)(d:Nat):bw {a with b:=jm a.b d} {b with b:=jm b.b d}:=by
 rw[l5 c];exact we c (aaN c.1 d).ok.b
def Pt {a:ai}{b:N}(c:bw a b):bw {a with b:={a.b with Wc:=⟨#[]⟩}} {b with b:={b.b with Wc:=⟨#[]⟩}}:=by
 rw[l5 c];exact we c (Qk c.1).ok.b
theorem BS :∀(b a:Nat),4<=a->jb b a 0=0
 |0,_,_=>rfl
 |b+1,a,c=>by
  simp only[jb]
  rw[z (by omega)]
  exact BS b (a+1) (by omega)
theorem BR :∀(b a r:Nat),4<=a->jb b a r=if 0<b/\r<a+b/\a<r+4 then 0 else r
 |0,a,r,_=>by rw[z (by omega)];rfl
 |b+1,a,r,e=>by
  simp only[jb]
  by_cases c:r<=a/\a<r+4
  . rw[B c,BS b _ (by omega),B (by omega)]
  . rw[z c,BR b (a+1) r (by omega)]
    by_cases d:0<b/\r<a+1+b/\a+1<r+4
    . rw[B d,B (by omega)]
    . rw[z d,z (by omega)]
def Pv {j:ai}{a:N}(k:bw j a)(b:Nat)(c:K):bw (p8 j b c) (kU a b c):=by
 have d:=Cz k.1 b c;obtain⟨o,g,e,f,i,h,rfl⟩:=k;unfold kU qK at d|-;unfold p8;rw[show(aD a e f i).res=a.WU from rfl,BR _ _ _ (by omega)];have l:b1 a:=g;unfold b1 at g;by_cases hu:qJ (bZ a (laidB a.b.o b c.data.toList)) b c.size=true
 . rw[B hu]at d|-;unfold qJ at hu;simp only[cX,cC]at hu;rw[show(bZ a (laidB a.b.o b c.data.toList)).WU=a.WU from rfl]at hu;rw[B (by omega)];exact⟨d,b1.XW _,e,f,i,h,rfl⟩
 . rw[z hu]at d|-;unfold qJ at hu;simp only[cX,cC]at hu;rw[show(bZ a (laidB a.b.o b c.data.toList)).WU=a.WU from rfl,show(bZ a (laidB a.b.o b c.data.toList)).W9=a.W9 from rfl,g]at hu;by_cases m:a.WU=0
   . rw[z (by omega)];exact⟨d,l,e,f,i,h,rfl⟩
   . have:(!decide (a.WU=0))=true:=by simp[m]
     rw[z (fun n=>hu ⟨⟨⟨this,n.1⟩,by omega⟩,by omega⟩)];exact⟨d,l,e,f,i,h,rfl⟩
def PE (b:K)(a:Nat)(g:a<b.size):b.extract a (a+1)=strOfNums (b4 (b.data[a].toNat:Int) 1):=by
 have d:(b.extract a (a+1)).data=(strOfNums (b4 (b.data[a].toNat:Int) 1)).data:=by
  have h:a<b.data.size:=g;apply Array.ext';rw[strOfNums_data];simp only[b4,List.nil_append,tT,List.map_nil];have f:∀c:L,UInt8.ofNat ((c.toNat:Int)/256^0%256).toNat=c:=fun c=>by
   have:=UInt8.toNat_lt c;have e:((c.toNat:Int)/256^0%256:Int).toNat=c.toNat:=J;rw[e];simp
  rw[f];simp only[ByteArray.data_extract,Array.toList_extract];rw[List.extract_eq_take_drop,show a+1-a=1 by omega,js (by simpa using h)];simp
 cases i:b.extract a (a+1);cases j:strOfNums (b4 (b.data[a].toNat:Int) 1);rw[i,j]at d;simp only at d;rw[d]
theorem wu (b:K):∀(e a d:Nat) (c:P),c.rx.size<=4->a+e=b.size->eo b e a d c=(d+((eC (b.data.toList.drop a) c).rx.size-c.rx.size),eC (b.data.toList.drop a) c)
 |0,a,d,c,k,j=>by
  have p:b.data.toList.drop a=[]:=eQ (by simp;exact Nat.le_of_eq j.symm)
  rw[p]
  simp[eo,eC]
 |e+1,a,d,c,k,j=>by
  have n:a<b.data.toList.length:=by simp;have:b.data.size=b.size:=rfl;omega
  have o:a<b.size:=by omega
  rw[js n]
  have m:b.data.toList[a]=b.data[a]:=by simp
  have i:=PE b a o
  simp only[eo,eC]
  rw[m]
  by_cases f:c.rx.size<4
  . have g:ed c (b.data[a].toNat:Int)={c with rx:=c.rx++b.extract a (a+1)}:=by
     unfold ed;rw[B f,<-i]
    have h:(c.rx++b.extract a (a+1)).size=c.rx.size+1:=by rw[fm,i,strOfNums_size];rfl
    rw[B f,wu b e (a+1) (d+1) _ (by rw[h];omega) (by omega),g];have l:=sk (b.data.toList.drop (a+1)) {c with rx:=c.rx++b.extract a (a+1)} (by rw[h];omega);rw[h]at l|-;refine rf ?_ rfl;dsimp only;omega
  . have g:ed c (b.data[a].toNat:Int)={c with lost:=true}:=by unfold ed;rw[z f]
    rw[z f,wu b e (a+1) d {c with lost:=true} k (by omega),g]
def BW (a:K)(b:P)(c:b.rx.size<=4):((eo a a.size 0 0 b).1:Int)=((eC a.data.toList b).rx.size:Int)-b.rx.size/\(eo a a.size 0 0 b).2=eC a.data.toList b:=by
 rw[wu a a.size 0 0 b c (by omega)];have:=sk a.data.toList b c;rw[jt];refine⟨?_,rfl⟩;dsimp only;omega
def Pu {d:ai}{a:N}(b:bw d a)(c:K):bw {d with b:=(eo c c.size 0 0 d.b).2} (a.V7 (eC c.data.toList a.b)):=by
 rw[l5 b,(BW c a.b b.1.ok.b.rx).2];exact we b (QD b.1 _).ok.b
def QB (b:N)(a:Int):eW a=(aA b a).2:=by
 by_cases c:0<=a/\a<=4095
 . exact BV b a c.1 c.2
 . have d:(aA b a).2=false:=by
    unfold aA;rw[z (by omega),z (by omega),z (by omega)];simp;omega
   rw[d];unfold eW jO jc;rw[z (by simp;omega)];by_cases h:a<0
   . have t1:a.tmod 32<=0:=by have:=Int.tmod_nonneg 32 (show 0<=-a by omega);rw[Int.neg_tmod]at this;omega
     have t2:decide (3<=a.tmod 32)=false:=M;have t3:decide (800<=a)=false:=M;rw[t2,t3];rfl
   . have t2:a.tdiv 32=a/32:=hB m;have t3:decide (800<=a)=true:=M;have t4:decide (a<832)=false:=M;have e:decide (a.tdiv 32=88)=false:=uZ;have f:decide (a.tdiv 32=92)=false:=uZ;have u3:decide (a.tdiv 32=96)=false:=uZ;have g:decide (a.tdiv 32=100)=false:=uZ;rw[t3,t4,e,f,u3,g];cases decide (3<=a.tmod 32)<;>rfl
def Ps {c:ai}{b:N}(f:bw c b)(a:Int):j6 b a=if eW a=true then(bD c.f c.b a,0)else(0,2):=by
 obtain⟨g,h,d,e,i,j,rfl⟩:=f;unfold j6;rw[QB b a,show bD (aD b d e i).f (aD b d e i).b a=(aA b a).1 from xg g d e i a]
def Py {d:ai}{a:N}(h:bw d a):th d=qu a:=by
 obtain⟨j,k,b,c,i,n,rfl⟩:=h;have m:fx (ax a b c i)=a.c.V5:=D6 a.c.V5 j.Xx;have e:(if a.W9=true then(⟨#[114]⟩:K)else⟨#[45]⟩)=(if a.WU=0 then⟨#[45]⟩else⟨#[114]⟩):=by
  rw[k];by_cases l:a.WU=0<;>simp[l]
 have f:hp (ax a b c i) 23=ar a.mode 1++mb a:=by
  simp only[hp,Dy,Dz,DK,DO,DP,DQ,DR,DS,DT,DU,DA,DB,DC,DD,DE,DF,DG,DH,DI,DJ,DL,DM,DN,m];unfold mb e9;simp only[yB];rfl
 have g:k6 a.b=lg a.b++kZ a.b:=by
  unfold k6 lg kZ e9;simp only[yB]
 unfold th qu mi;rw[e];rw[show(aD a b c i).f=ax a b c i from rfl,show(aD a b c i).b=a.b from rfl,f,g];simp only[yB];rfl
section
attribute [local go_sem ↓] Go.wp_at_zero Go.wp_at_succ
structure aN where
 Wk:Nat
 WQ:Nat
 Wn:Nat
 WY:Nat
 WZ:Nat
 W0:Nat
 W1:Nat
 X:N
 W2:ai
def aN.WV (p:aN):List Nat:=[p.Wk,p.WQ,p.Wn,p.WY,p.WZ,p.W0,p.W1]
structure bG (a:D)(p:aN):Prop where
 x:E a p.Wk p.WQ p.X
 r:V a p.Wn p.WY p.WZ p.W0 p.W1 p.W2
 both:bw p.W2 p.X
 YC:p.WV.Nodup
def bG.W3 {d b:D}{p:aN}(a:bG d p)(c:Kept [] d b):bG b p:=⟨a.x.kept c,a.r.kept c,a.both,a.YC⟩
theorem bG.more {d w':D}{p:aN}{G:List Nat}(b:bG d p)(c:Kept G d w')(a:∀e∈p.WV,e∉G):bG w' p:=
 ⟨E.more b.x c (a _ (by simp[aN.WV])) (a _ (by simp[aN.WV])),b.r.more c (a _ (by simp[aN.WV])) (a _ (by simp[aN.WV])) (a _ (by simp[aN.WV])) (a _ (by simp[aN.WV])) (a _ (by simp[aN.WV])),b.both,b.YC⟩
theorem bG.lt {e:D}{p:aN}(b:bG e p):∀d∈p.WV,d<e.heap.size:=by
 intro d c;simp only[aN.WV,dD,eR,eS]at c;rcases c with a|a|a|a|a|a|a<;>subst a
 . exact b.x.lt
 . exact b.x.Ww
 . exact b.r.lt
 . exact b.r.Wt.lt
 . exact b.r.WW.lt
 . exact b.r.Xc
 . exact b.r.Wt.Ww
def bG.apart {n:D}{p:aN}(m:bG n p):(¬p.Wn=p.Wk/\¬p.WY=p.Wk/\¬p.WZ=p.Wk/\¬p.W0=p.Wk/\¬p.W1=p.Wk)/\(¬p.Wn=p.WQ/\¬p.WY=p.WQ/\¬p.WZ=p.WQ/\¬p.W0=p.WQ/\¬p.W1=p.WQ):=by
 have b:=m.YC;simp only[aN.WV,gS,dD,eR,eS,gi,iR,gg]at b;obtain⟨⟨o,c,d,e,f,g⟩,⟨h,i,j,k,l⟩,_⟩:=b;exact⟨⟨fun a=>c a.symm,fun a=>d a.symm,fun a=>e a.symm,fun a=>f a.symm,fun a=>g a.symm⟩,⟨fun a=>h a.symm,fun a=>i a.symm,fun a=>j a.symm,fun a=>k a.symm,fun a=>l a.symm⟩⟩
def bG.aD {c a:D}{p:aN}(b:bG c p)(n:Kept [p.Wk,p.WQ] c a):V a p.Wn p.WY p.WZ p.W0 p.W1 p.W2:=by
 obtain⟨⟨d,e,f,g,h⟩,i,j,k,l,m⟩:=b.apart;exact b.r.more n (by simp;exact⟨d,i⟩) (by simp;exact⟨e,j⟩) (by simp;exact⟨f,k⟩) (by simp;exact⟨g,l⟩) (by simp;exact⟨h,m⟩)
structure i3 (c:D)(p a:aN):Prop where
 Wk:a.Wk=p.Wk
 Wn:a.Wn=p.Wn
 WV:∀b∈a.WV,b∈p.WV\/c.heap.size<=b
def bG.two {e g h f:D}{p:aN}{d:N}{c:ai}(i:bG e p)(x:Kept [p.Wk,p.WQ] e g)(z:E g p.Wk p.WQ d)(b:Kept [] g h)(j:Kept [p.Wn,p.WY,p.WZ,p.W0,p.W1] h f)(y:V f p.Wn p.WY p.WZ p.W0 p.W1 c)(w:bw c d):bG f {p with X:=d,W2:=c}/\i3 e p {p with X:=d,W2:=c}/\Kept p.WV e f:=by
 obtain⟨⟨l,m,n,o,q⟩,r,s,t,u,v⟩:=i.apart;have A:p.Wk∉ [p.Wn,p.WY,p.WZ,p.W0,p.W1]:=by simp;exact⟨fun a=>l a.symm,fun a=>m a.symm,fun a=>n a.symm,fun a=>o a.symm,fun a=>q a.symm⟩
 have B:p.WQ∉ [p.Wn,p.WY,p.WZ,p.W0,p.W1]:=by simp;exact⟨fun a=>r a.symm,fun a=>s a.symm,fun a=>t a.symm,fun a=>u a.symm,fun a=>v a.symm⟩
 refine⟨⟨E.more (z.kept b) j A B,y,w,i.YC⟩,⟨rfl,rfl,fun k b=>.inl b⟩,?_⟩;refine(x.mono ?_).trans ((b.mono ?_).trans (j.mono ?_))
 . exact LR
 . intro k b;cases b
 . intro k b;simp[aN.WV]at b|-;rcases b with a|a|a|a|a<;>simp[a]
def bG.ZS {f l j i:D}{p:aN}{h:N}{g:ai}{e:Nat}(k:bG f p)(m:Kept [p.Wk,p.WQ] f l)(A:E l p.Wk p.WQ h)(b:Kept [] l j)(n:Kept [p.Wn,p.WY,p.WZ] j i)(y:j.heap.size<=e)(z:V i p.Wn p.WY p.WZ e p.W1 g)(x:bw g h):bG i {p with X:=h,W2:=g,W0:=e}/\i3 f p {p with X:=h,W2:=g,W0:=e}/\Kept p.WV f i:=by
 obtain⟨⟨r,s,t,W,X⟩,u,v,w,Y,Z⟩:=k.apart;have c:f.heap.size<=e:=fE m.size (fE b.size y);have d:=k.lt;have I:p.Wk∉ [p.Wn,p.WY,p.WZ]:=by simp;exact⟨fun a=>r a.symm,fun a=>s a.symm,fun a=>t a.symm⟩
 have J:p.WQ∉ [p.Wn,p.WY,p.WZ]:=by simp;exact⟨fun a=>u a.symm,fun a=>v a.symm,fun a=>w a.symm⟩
 refine⟨⟨E.more (A.kept b) n I J,z,x,?_⟩,⟨rfl,rfl,?_⟩,?_⟩
 . have o:=k.YC;have K:=d p.Wk hE;have L:=d p.WQ hE;have M:=d p.Wn hE;have O:=d p.WY hE;have P:=d p.WZ hE;have Q:=d p.W1 hE;simp only[aN.WV,gS,dD,eR,eS,gi,iR,gg,ur]at o|-;obtain⟨⟨B,C,F,G,aa,H⟩,⟨R,S,T,ab,U⟩,⟨c1,c2,c3,c4⟩,⟨d1,d2,d3⟩,⟨f1,f2⟩,_⟩:=o;exact⟨⟨B,C,F,G,ej (aR K c),H⟩,⟨R,S,T,ej (aR L c),U⟩,⟨c1,c2,ej (aR M c),c4⟩,⟨d1,ej (aR O c),d3⟩,⟨ej (aR P c),f2⟩,fb (aR Q c)⟩
 . intro q b;simp only[aN.WV,dD,eR,eS]at b|-;rcases b with a|a|a|a|a|a|a
   . simp[a]
   . simp[a]
   . simp[a]
   . simp[a]
   . simp[a]
   . right;omega
   . simp[a]
 refine(m.mono ?_).trans ((b.mono ?_).trans (n.mono ?_))
 . exact LR
 . intro q b;cases b
 . intro q b;simp[aN.WV]at b|-;rcases b with a|a|a<;>simp[a]
def nS (a:N)(b:Int)(c:K):N:=if dN a.b b c=0 then kU a b.toNat c else a
def sJ (a:ai)(b:Int)(c:K):ai:=if dN a.b b c=0 then p8 a b.toNat c else a
def Cy {d:P}{b:Int}{c:K}(a:dN d b c=0):c.size<=65536/\0<=b/\b.toNat+c.size<=d.o.length:=by
 unfold dN at a;split at a
 . cases a
 . split at a
   . cases a
   . omega
def Ez (e h:Nat)(c:N)(q:aj c)(a:Int)(b:K)(i:D)(k:E i e h c):
 an 24 #[I e,j a,.string b] (j (dN c.b a b)) [e,h] e h (nS c a b) i:=by
 unfold nS;by_cases d:dN c.b a b=0
 . obtain⟨g,p,s⟩:=Cy d;rw[B d,d];have:=afX e h c q.ok a.toNat b s i (l k);rw[show((a.toNat:Nat):Int)=a by omega]at this;exact this
 . rw[z d];by_cases g:65536<b.size
   . have o:dN c.b a b=1:=by unfold dN;rw[B g]
     rw[o];exact(afZ e a b g i).mono (fun t r ⟨n,f⟩=>⟨n,by rw[f];exact k,by rw[f];exact Kept.refl _ _⟩)
   . have p:a<0\/(c.b.o.length:Int)-b.size<a:=by
      unfold dN at d;rw[z g]at d;split at d
      . assumption
      . exact absurd rfl d
     have o:dN c.b a b=2:=by unfold dN;rw[z g,B p]
     rw[o];exact(afY e h c q.ok.b.o a b m p i (l k)).mono (fun t r ⟨n,f⟩=>⟨n,by rw[f];exact k,by rw[f];exact Kept.refl _ _⟩)
def abz (d e f k h:Nat)(b:ai)(p:ey b)(a:Int)(c:K)(u:c.size<=1125899906842624)(i:D)(n:V i d e f k h b):
 Calls prog 159 #[I d,j a,.string c] i fun q m=>q=.returned (j (dN b.b a c))/\V m d e f k h (sJ b a c)/\Kept [d,e,f,k,h] i m:=by
 unfold sJ;by_cases g:dN b.b a c=0
 . obtain⟨s,w,t⟩:=Cy g;rw[B g,g];have:=aer d e f k h b p a.toNat c s t i (l n);rw[show((a.toNat:Nat):Int)=a by omega]at this;exact LS
 . rw[z g];exact(aes d e f k h b p.b a c u g i (l n)).mono (fun q m ⟨r,o⟩=>⟨r,by rw[o];exact n,by rw[o];exact Kept.refl _ _⟩)
def Bx {c:ai}{d:N}(e:bw c d)(b:Int)(a:K):bw (sJ c b a) (nS d b a)/\dN c.b b a=dN d.b b a:=by
 unfold sJ nS;rw[l5 e];split
 . exact⟨Pv e _ a,rfl⟩
 . exact⟨e,rfl⟩
def j2 (b:N)(a:Int):(Int×Int)×N:=if 0<=a/\a<=4096 then((((gE a.toNat 0 b).1:Int),0),(gE a.toNat 0 b).2)else((0,2),b)
def mv (b:ai)(a:Int):(Int×Int)×ai:=if 0<=a/\a<=4096 then((((fw a.toNat 0 b).1:Int),0),(fw a.toNat 0 b).2)else((0,2),b)
def abG (c d:Nat)(b:N)(k:aj b)(a:Int)(e:D)(h:E e c d b):
 an 68 #[I c,j a] (.tuple #[j (j2 b a).1.1,j (j2 b a).1.2]) [c,d] c d ((j2 b a).2) e:=by
 unfold j2;by_cases g:0<=a/\a<=4096
 . rw[B g];have:=af7 c d b k a.toNat m e (l h);exact LU
 . rw[z g];exact(af8 c a m e).mono (fun o n ⟨i,f⟩=>⟨i,by rw[f];exact h,by rw[f];exact Kept.refl _ _⟩)
def abC (c e f h g:Nat)(b:ai)(k:N)(s:bw b k)(a:Int)(d:D)(p:V d c e f h g b):
 Calls prog 161 #[I c,j a] d fun q i=>q=.returned (.tuple #[j (mv b a).1.1,j (mv b a).1.2])/\V i c e f h g (mv b a).2/\Kept [c,e,f,h,g] d i:=by
 unfold mv;by_cases o:0<=a/\a<=4096
 . rw[B o];have:=acJ c e f h g b k s a.toNat m d (l p);exact LU
 . rw[z o];exact(acK c a m d).mono (fun q i ⟨r,n⟩=>⟨r,by rw[n];exact p,by rw[n];exact Kept.refl _ _⟩)
def By {b:ai}{c:N}(d:bw b c)(a:Int):bw (mv b a).2 (j2 c a).2/\(mv b a).1=(j2 c a).1:=by
 unfold mv j2;split
 . have:=bw.run a.toNat 0 d;exact⟨this.1,by dsimp only;rw[this.2]⟩
 . exact⟨d,rfl⟩
def hY (b:P)(a:Int):Int×P:=if 0<=a/\a<=4294967295 then(0,jm b a.toNat)else(2,b)
def abH (c d:Nat)(b:N)(k:aj b)(a:Int)(e:D)(h:E e c d b):
 an 74 #[I c,j a] (j (hY b.b a).1) [c,d] c d ({b with b:=(hY b.b a).2}) e:=by
 unfold hY;by_cases g:0<=a/\a<=4294967295
 . rw[B g];have:=agb c d b k.ok a.toNat m e (l h);exact LW
 . rw[z g];exact(agc c a m e).mono (fun o n ⟨i,f⟩=>⟨i,by rw[f];exact h,by rw[f];exact Kept.refl _ _⟩)
def aeF (f c i m k:Nat)(g:ai)(a:Int)(d:a<0\/4294967295<a)(b:D)(e:Hid (V b f c i m k g)):
 O 162 #[I f,j a] (j 2) b:=by
 have n:=e.out.V8;have h:=l (acR c a d b);clear d e;go_enter func162,ntmps162;go_wp2_with fail;refine h.out.mono ?_;rintro o p ⟨rfl,rfl⟩;exact cn
def abD (c d e h f:Nat)(b:ai)(r:ey b)(a:Int)(g:D)(k:V g c d e h f b):
 Calls prog 162 #[I c,j a] g fun p i=>p=.returned (j (hY b.b a).1)/\V i c d e h f {b with b:=(hY b.b a).2}/\Kept [c,d,e,h,f] g i:=by
 unfold hY;by_cases o:0<=a/\a<=4294967295
 . rw[B o];have:=aeE c d e h f b r.b a.toNat m g (l k);exact LW
 . rw[z o];exact(aeF c d e h f b a m g (l k)).mono (fun p i ⟨q,n⟩=>⟨q,by rw[n];exact k,by rw[n];exact Kept.refl _ _⟩)
def Bz {a:ai}{b:N}(d:bw a b)(c:Int):bw {a with b:=(hY a.b c).2} {b with b:=(hY b.b c).2}/\(hY a.b c).1=(hY b.b c).1:=by
 unfold hY;split
 . exact⟨Pz d _,rfl⟩
 . exact⟨d,rfl⟩
def jP (a:N)(b:K):(Int×Int)×N:=if b.size<=64 then((((eC b.data.toList a.b).rx.size:Int)-a.b.rx.size,0),a.V7 (eC b.data.toList a.b))else((0,1),a)
def me (b:ai)(a:K):(Int×Int)×ai:=if a.size<=64 then((((eo a a.size 0 0 b.b).1:Int),0),{b with b:=(eo a a.size 0 0 b.b).2})else((0,1),b)
def abE (c e:Nat)(b:N)(o:aj b)(a:K)(f:D)(i:E f c e b):
 an 75 #[I c,.string a] (.tuple #[j (jP b a).1.1,j (jP b a).1.2]) [c,e] c e ((jP b a).2) f:=by
 unfold jP;by_cases h:a.size<=64
 . rw[B h];exact(afU c e b o.ok.b.rx a h f (l i)).mono (fun p k ⟨g,d,n⟩=>⟨g,d,n.mono F⟩)
 . rw[z h];exact(afV c a m f).mono (fun p k ⟨g,d⟩=>⟨g,by rw[d];exact i,by rw[d];exact Kept.refl _ _⟩)
def aeq (f c i m k:Nat)(g:ai)(a:K)(d:64<a.size)(b:D)(e:Hid (V b f c i m k g)):
 O 163 #[I f,.string a] (.tuple #[j 0,j 1]) b:=by
 have n:=e.out.V8;have h:=l (acq c a d b);clear d e;go_enter func163,ntmps163;go_wp2_with fail;refine h.out.mono ?_;rintro o p ⟨rfl,rfl⟩;exact ik
def aby (c d e h f:Nat)(a:ai)(s:ey a)(b:K)(g:D)(p:V g c d e h f a):
 Calls prog 163 #[I c,.string b] g fun q i=>q=.returned (.tuple #[j (me a b).1.1,j (me a b).1.2])/\V i c d e h f (me a b).2/\Kept [c,d,e,h,f] g i:=by
 unfold me;by_cases o:b.size<=64
 . rw[B o];exact(aep c d e h f a s.b.rx b o g (l p)).mono (fun q i ⟨n,k,r⟩=>⟨n,k,r.mono F⟩)
 . rw[z o];exact(aeq c d e h f a b m g (l p)).mono (fun q i ⟨n,k⟩=>⟨n,by rw[k];exact p,by rw[k];exact Kept.refl _ _⟩)
def Bw {d:ai}{b:N}(c:bw d b)(a:K):bw (me d a).2 (jP b a).2/\(me d a).1=(jP b a).1:=by
 unfold me jP;split
 . refine⟨Pu c a,?_⟩;have:=(BW a b.b c.1.ok.b.rx).1;dsimp only;rw[l5 c,this]
 . exact⟨c,rfl⟩
def abF (d g:Nat)(c:N)(k:aj c)(b a:Int)(o:a<=9223372036854775807)(e:D)(n:E e d g c):
 ∃(h:K) (f:Int),(O 121 #[I d,j b,j a] (.tuple #[.string h,j f]) e)/\((a<0\/b<0\/(c.b.o.length:Int)-a<b)/\h=⟨#[]⟩/\f=2\/(0<=a/\0<=b/\b.toNat+a.toNat<=c.b.o.length)/\h=jf c.b.o b.toNat a.toNat/\f=0):=by
 by_cases i:a<0\/b<0\/(c.b.o.length:Int)-a<b
 . exact⟨_,_,af4 d g c k.ok b a o i e (l n),.inl ⟨i,rfl,rfl⟩⟩
 . have:=af3 d g c k.ok b.toNat a.toNat m e (l n);rw[show((a.toNat:Nat):Int)=a by omega,show((b.toNat:Nat):Int)=b by omega]at this;exact⟨_,_,this,.inr ⟨by omega,rfl,rfl⟩⟩
def abA (f h k q o:Nat)(d:ai)(e:N)(n:bw d e)(b a:Int)(s:-9223372036854775808<=a)(u:a<=9223372036854775807)(p:K)(i:Int)(c:((a<0\/b<0\/(e.b.o.length:Int)-a<b)/\p=⟨#[]⟩/\i=2\/(0<=a/\0<=b/\b.toNat+a.toNat<=e.b.o.length)/\p=jf e.b.o b.toNat a.toNat/\i=0))(g:D)(r:V g f h k q o d):
 O 168 #[I f,j b,j a] (.tuple #[.string p,j i]) g:=by
 have t:=l5 n;rw[<-t]at c;rcases c with⟨c,rfl,rfl⟩|⟨c,rfl,rfl⟩
 . exact aey f h k q o d n.ok.b b a s u m g (l r)
 . have:=aex f h k q o d n.ok.b b.toNat a.toNat c.2.2 g (l r);rw[show((a.toNat:Nat):Int)=a by omega,show((b.toNat:Nat):Int)=b by omega]at this;exact this
def jj (a:List Nat)(i:Int):Int×Int:=if 0<=i/\i<32 then((a.getD i.toNat 0:Nat),0)else(0,2)
def EA (b d:Nat)(a:N)(i:Int)(c:D)(f:E c b d a):
 O 26 #[I b,j i] (.tuple #[j (jj a.x i).1,j (jj a.x i).2]) c:=by
 unfold jj;by_cases e:0<=i/\i<32
 . rw[B e];have:=af5 b d a i.toNat m c (l f);rw[show((i.toNat:Nat):Int)=i by omega]at this;exact this
 . rw[z e];exact af6 b d a i m c (l f)
def abB (b d e n k:Nat)(a:ai)(i:Int)(c:D)(h:V c b d e n k a):
 O 169 #[I b,j i] (.tuple #[j (jj a.x i).1,j (jj a.x i).2]) c:=by
 unfold jj;have o:=h.XD;by_cases f:0<=i/\i<32
 . rw[B f];have g:i.toNat<a.x.length:=J;have:=aez b d e n k a i.toNat g c (l h);rw[show((i.toNat:Nat):Int)=i by omega]at this;rw[show a.x.getD i.toNat 0=a.x[i.toNat]from by simp[List.getD,g]];exact this
 . rw[z f];exact aeA b i m c
def abx (b i k r q:Nat)(d:ai)(e:N)(p:bw d e)(a:Int)(n:-9223372036854775808<=a)(o:a<=9223372036854775807)(c:D)(t:V c b i k r q d):
 aE 171 #[I b,j a] (.tuple #[j ((j6 e a).1:Nat),j (j6 e a).2]) c:=by
 rw[Ps p a];have h:=p.ok;cases m:eW a
 . rw[z (by decide)];exact(aen b a n o m c).mono (fun u s ⟨f,g⟩=>⟨f,by rw[g];exact Kept.refl _ _⟩)
 . rw[B rfl];exact(aem b i k r q d h.f h.soft h.b.enable a n o m c (l t)).mono (fun u s ⟨f,g⟩=>⟨f,Below.k g⟩)
def BA {a:ai}{b:N}(c:bw a b):a.V3=b.V3/\a.f.mode=b.mode/\a.b=b.b/\a.x=b.x:=by
 obtain⟨f,g,d,e,i,h,rfl⟩:=c;exact⟨rfl,rfl,rfl,rfl⟩
structure bA where
 k:Int
 a:Int
 b:Int
 c:Int
 s:K
def bA.v (a:bA):Value:=.agg #[j a.k,j a.a,j a.b,j a.c,.string a.s]
def bA.YX (a:bA):Obj:=.cells #[j a.k,j a.a,j a.b,j a.c,.string a.s] 39
structure cw (a:bA):Prop where
 a0:-9223372036854775808<=a.a
 YH:a.a<=9223372036854775807
 YY:-9223372036854775808<=a.b
 YI:a.b<=9223372036854775807
 V8:-9223372036854775808<=a.c
 c1:a.c<=9223372036854775807
 s1:a.s.size<=1125899906842624
def i2 (c:D)(p:aN)(d:Ending)(b:D):Prop:=d=.returned (.bool true)/\∃a,bG b a/\i3 c p a/\Kept p.WV c b
def i3.refl (b:D)(p:aN):i3 b p p:=⟨rfl,rfl,fun c a=>.inl a⟩
def i3.of {c d:D}{p b:aN}(a:i3 d p b)(f:c.heap.size<=d.heap.size):i3 c p b:=⟨a.Wk,a.Wn,fun g e=>(a.WV g e).imp id (fun h=>fE f h)⟩
def wN {c:List Nat}{b a:D}(d:Kept [] b a):Kept c b a:=d.mono (by simp)
def PB {c:D}{p:aN}(d:bG c p)(a:Nat)(e:c.heap.size<=a):¬a∈ [p.Wk,p.WQ]:=by
 have b:=d.lt;have f:=b p.Wk hE;have g:=b p.WQ hE;simp;omega
def R8 (p:aN)(k g o:Int)(h:K)(m:cw ⟨2,k,g,o,h⟩)(i:D)(c:Hid (bG i p)):
 Calls prog 97 #[I p.Wk,I p.Wn,.agg #[j 2,j k,j g,j o,.string h]] i fun s y=>i2 i p s y:=by
 have e:Kept [] i (i.alloc (.cells #[j 2,j k,j g,j o,.string h] 39)):=dE;have f:=c.out.W3 e;have a:=f.both;have r:¬i.heap.size∈ [p.Wk,p.WQ]:=pj;have n:=bg.new i [j 2,j k,j g,j o,.string h] 39;have d:=l (fun W (t:E W p.Wk p.WQ p.X)=>Ez p.Wk p.WQ p.X a.1 g h W t);have b:=l (fun W (t:V W p.Wn p.WY p.WZ p.W0 p.W1 p.W2)=>abz p.Wn p.WY p.WZ p.W0 p.W1 p.W2 a.ok g h m.s1 W t);have q:=l (Bx a g h).1;have s:=(Bx a g h).2;simp only[s]at b;clear s;generalize dN p.X.b g h=C at d b;exact r6
def R9 (p:aN)(n o q:Int)(w:K)(N:cw ⟨3,n,o,q,w⟩)(e:D)(B:Hid (bG e p)):
 Calls prog 97 #[I p.Wk,I p.Wn,.agg #[j 3,j n,j o,j q,.string w]] e fun h G=>i2 e p h G:=by
 have u:Kept [] e (e.alloc (.cells #[j 3,j n,j o,j q,.string w] 39)):=dE;have v:=B.out.W3 u;have d:=v.both;have c:=l (fun W (r:E W p.Wk p.WQ p.X)=>x1 p.Wk p.WQ p.X d.1 W (l r));have b:=l (fun W (r:V W p.Wn p.WY p.WZ p.W0 p.W1 p.W2)=>EC p.Wn p.WY p.WZ p.W0 p.W1 p.W2 p.X d W (l r));have H:=l d.step.1;have h:=d.step.2;simp only[h]at b;clear h;unfold eE at c;generalize (cL p.X).1.1=k at c b;generalize (cL p.X).1.2=f at c b;have g:=l v;have x:=l u;clear v u N B d;go_enter func97,ntmps97;go_wp2_with fail;refine(c.out _ g.out.x).mono ?_;rintro P F ⟨rfl,t,i⟩;have t:=l t;have C:=g.out.aD i;have J:=l i;have y:=l (C.alloc (.cells #[j k,j f] 46));have d1:=bg.new F [j k,j f] 46;have a:=fun O L=>aR (g.out.lt O L) i.size;have M:¬F.heap.size∈ [p.Wn,p.WY,p.WZ,p.W0,p.W1]:=by
  have U:=a p.Wn hE;have X:=a p.WY hE;have Y:=a p.WZ hE;have Z:=a p.W0 hE;have aa:=a p.W1 hE;simp;omega
 clear i C c a;go_wp2_with fail;refine(b.out _ y.out).mono ?_;rintro P Q ⟨rfl,A,s⟩;have d2:=d1.more s M;have T:=d2.lt;have R:=d2.cell 0 _ rfl;have S:=d2.cell 1 _ rfl;have m:=l (g.out.two J.out t.out ((Kept.refl _ _).alloc _) s A H.out);have z:=l (cZ (m.out.1.W3 ((Kept.refl [] Q).alloc (.cells #[j k,j f] 46))) (m.out.2.2.alloc (.cells #[j k,j f] 46)));clear A s b y d1 d2;go_wp2_with fail;go_ret;exact⟨rfl,_,z.out.1,m.out.2.1.of x.out.size,(wN x.out).trans z.out.2⟩
def Sa (p:aN)(i g k:Int)(s:K)(m:cw ⟨4,i,g,k,s⟩)(h:D)(c:Hid (bG h p)):
 Calls prog 97 #[I p.Wk,I p.Wn,.agg #[j 4,j i,j g,j k,.string s]] h fun o y=>i2 h p o y:=by
 have e:Kept [] h (h.alloc (.cells #[j 4,j i,j g,j k,.string s] 39)):=dE;have f:=c.out.W3 e;have a:=f.both;have r:¬h.heap.size∈ [p.Wk,p.WQ]:=pj;have n:=bg.new h [j 4,j i,j g,j k,.string s] 39;have d:=l (fun W (t:E W p.Wk p.WQ p.X)=>abG p.Wk p.WQ p.X a.1 g W t);have b:=l (fun W (t:V W p.Wn p.WY p.WZ p.W0 p.W1 p.W2)=>abC p.Wn p.WY p.WZ p.W0 p.W1 p.W2 p.X a g W t);have q:=l (By a g).1;have o:=(By a g).2;simp only[o]at b;clear o;generalize (j2 p.X g).1.1=C at d b;generalize (j2 p.X g).1.2=J at d b;exact r6
def Sb (p:aN)(i g k:Int)(s:K)(m:cw ⟨5,i,g,k,s⟩)(h:D)(c:Hid (bG h p)):
 Calls prog 97 #[I p.Wk,I p.Wn,.agg #[j 5,j i,j g,j k,.string s]] h fun o y=>i2 h p o y:=by
 have e:Kept [] h (h.alloc (.cells #[j 5,j i,j g,j k,.string s] 39)):=dE;have f:=c.out.W3 e;have a:=f.both;have r:¬h.heap.size∈ [p.Wk,p.WQ]:=pj;have n:=bg.new h [j 5,j i,j g,j k,.string s] 39;have d:=l (fun W (t:E W p.Wk p.WQ p.X)=>abH p.Wk p.WQ p.X a.1 g W t);have b:=l (fun W (t:V W p.Wn p.WY p.WZ p.W0 p.W1 p.W2)=>abD p.Wn p.WY p.WZ p.W0 p.W1 p.W2 a.ok g W t);have q:=l (Bz a g).1;have o:=(Bz a g).2;simp only[o]at b;clear o;generalize (hY p.X.b g).1=C at d b;exact r6
def Sc (p:aN)(i k o:Int)(g:K)(m:cw ⟨6,i,k,o,g⟩)(h:D)(c:Hid (bG h p)):
 Calls prog 97 #[I p.Wk,I p.Wn,.agg #[j 6,j i,j k,j o,.string g]] h fun s y=>i2 h p s y:=by
 have e:Kept [] h (h.alloc (.cells #[j 6,j i,j k,j o,.string g] 39)):=dE;have f:=c.out.W3 e;have a:=f.both;have r:¬h.heap.size∈ [p.Wk,p.WQ]:=pj;have n:=bg.new h [j 6,j i,j k,j o,.string g] 39;have d:=l (fun W (t:E W p.Wk p.WQ p.X)=>abE p.Wk p.WQ p.X a.1 g W t);have b:=l (fun W (t:V W p.Wn p.WY p.WZ p.W0 p.W1 p.W2)=>aby p.Wn p.WY p.WZ p.W0 p.W1 p.W2 a.ok g W t);have q:=l (Bw a g).1;have s:=(Bw a g).2;simp only[s]at b;clear s;generalize (jP p.X g).1.1=C at d b;generalize (jP p.X g).1.2=J at d b;exact r6
def Sd (p:aN)(g h i:Int)(t:K)(m:cw ⟨7,g,h,i,t⟩)(k:D)(c:Hid (bG k p)):
 Calls prog 97 #[I p.Wk,I p.Wn,.agg #[j 7,j g,j h,j i,.string t]] k fun s o=>i2 k p s o:=by
 have e:Kept [] k (k.alloc (.cells #[j 7,j g,j h,j i,.string t] 39)):=dE;have f:=c.out.W3 e;have a:=f.both;have r:¬k.heap.size∈ [p.Wk,p.WQ]:=pj;have n:=bg.new k [j 7,j g,j h,j i,.string t] 39;have d:=l (fun W (y:E W p.Wk p.WQ p.X)=>(afT p.Wk p.WQ p.X W (l y)).mono (fun J o ⟨g,h,i⟩=>(⟨g,h,i.mono F⟩:_/\_/\Kept [p.Wk,p.WQ] W o)));have b:=l (fun W (y:V W p.Wn p.WY p.WZ p.W0 p.W1 p.W2)=>(aeo p.Wn p.WY p.WZ p.W0 p.W1 p.W2 W (l y)).mono (fun J o ⟨g,h,i⟩=>(⟨g,h,i.mono F⟩:_/\_/\Kept [p.Wn,p.WY,p.WZ,p.W0,p.W1] W o)));have q:=l (Pt a);have s:=l5 a;have C:p.W2.b.Wc=p.X.b.Wc:=by rw[s]
 simp only[C]at b;clear s C;generalize p.X.b.Wc=L at d b;exact r6
def Se (p:aN)(d e f:Int)(h:K)(O:cw ⟨8,d,e,f,h⟩)(a:D)(c:Hid (bG a p)):
 Calls prog 97 #[I p.Wk,I p.Wn,.agg #[j 8,j d,j e,j f,.string h]] a fun L i=>i2 a p L i:=by
 have o:Kept [] a (a.alloc (.cells #[j 8,j d,j e,j f,.string h] 39)):=dE;have r:=c.out.W3 o;have t:=r.both;have N:¬a.heap.size∈ [p.Wk,p.WQ]:=pj;have z:=bg.new a [j 8,j d,j e,j f,.string h] 39;have s:=l (fun W (m:E W p.Wk p.WQ p.X)=>(Fc p.Wk p.WQ p.X W (l m)).mono (fun y i ⟨d,e,f⟩=>(⟨d,e,f.mono F⟩:_/\_/\Kept [p.Wk,p.WQ] W i)));have b:=l (fun W (m:V W p.Wn p.WY p.WZ p.W0 p.W1 p.W2)=>aeB p.Wn p.WY p.WZ p.W0 p.W1 p.W2 W (l m));have C:=l (Px t);have k:=l r;have B:=l o;clear r o O c t;go_enter func97,ntmps97;go_wp2_with fail;refine(s.out _ k.out.x).mono ?_;rintro y P ⟨rfl,n,g⟩;have n:=l n;have A:=k.out.aD g;have q:=z.more g N;have G:=q.cell 2 _ rfl;have H:=q.cell 4 _ rfl;have J:=l g;have u:=l A;clear g A z q s;go_wp2_with fail;refine(b.out _ u.out).mono ?_;rintro y Q ⟨rfl,⟨R,M,w⟩,v⟩;have x:=l (k.out.ZS J.out n.out (Kept.refl _ _) v M w C.out);exact LX
def R7 (p:aN)(b c d:Int)(f:K)(r:cw ⟨10,b,c,d,f⟩)(a:D)(h:Hid (bG a p)):
 Calls prog 97 #[I p.Wk,I p.Wn,.agg #[j 10,j b,j c,j d,.string f]] a fun q m=>i2 a p q m:=by
 have e:Kept [] a (a.alloc (.cells #[j 10,j b,j c,j d,.string f] 39)):=dE;have i:=h.out.W3 e;have k:=l i;have g:=l e;have n:=fun W=>l (afW p.Wk W);have o:=fun W=>l (acs p.Wn W);clear i e r h;go_enter func97,ntmps97;go_wp2_with fail;refine(n _).out.mono ?_;rintro s t ⟨rfl,rfl⟩;go_wp2_with fail;refine(o _).out.mono ?_;rintro s t ⟨rfl,rfl⟩;exact LY
def Sf (p:aN)(b:bA)(d:¬(2<=b.k/\b.k<=8)/\¬b.k=10)(c:D)(e:Hid (bG c p)):
 Calls prog 97 #[I p.Wk,I p.Wn,b.v] c fun n f=>i2 c p n f:=by
 obtain⟨a,h,i,m,o⟩:=b;unfold bA.v;simp only at d|-;have g:=l ((Kept.refl [] c).alloc (.cells #[j a,j h,j i,j m,.string o] 39));have k:=l (e.out.W3 g.out);have r:(a==2)=false:=M;have s:(a==3)=false:=M;have t:(a==4)=false:=M;have u:(a==5)=false:=M;have v:(a==6)=false:=M;have w:(a==7)=false:=M;have x:(a==8)=false:=M;have q:(a==10)=false:=M;clear e d;go_enter func97,ntmps97;exact LY
def Sg (p:aN)(i:bA)(f:cw i)(a:D)(b:Hid (bG a p)):
 Calls prog 97 #[I p.Wk,I p.Wn,i.v] a fun l k=>i2 a p l k:=by
 by_cases j:¬(2<=i.k/\i.k<=8)/\¬i.k=10
 . exact Sf p i j a b
 . obtain⟨g,c,d,e,h⟩:=i;simp only at j;have m:g=2\/g=3\/g=4\/g=5\/g=6\/g=7\/g=8\/g=10:=J;rcases m with rfl|rfl|rfl|rfl|rfl|rfl|rfl|rfl
   . exact R8 p c d e h f a b
   . exact R9 p c d e h f a b
   . exact Sa p c d e h f a b
   . exact Sb p c d e h f a b
   . exact Sc p c d e h f a b
   . exact Sd p c d e h f a b
   . exact Se p c d e h f a b
   . exact R7 p c d e h f a b
def iB (a:List Nat):List Value:=a.map fun b=>I b
def iz {d:List Nat}{m b:D}{c e l k:Nat}{a:Value}{n:List Value}(f:m.ownsRow c e l a k n)(w:Kept d m b)(x:∀j,a.ownBlock=some j->j∉d):b.ownsRow c e l a k n:=by
 refine⟨f.1,?_⟩;rcases f.2 with o|⟨g,p,q,i,v,h,r,s,t,u⟩
 . exact .inl o
 . exact .inr ⟨g,p,q,i,v,by rw[w.block g (q4.1 h).1 (x g (by rw[i];rfl))];exact h,r,s,t,u⟩
def sA {c b:D}{r:Option Nat}(a:c.grownBy b r):Kept r.toList c b:=⟨a.os,a.tape,a.output,a.size,fun g e f=>a.block g e (fun d=>f (by rw[<-d];simp))⟩
structure cE (b:D)(c:Nat)(i:U)(d:List aN)(l m:List Nat)(f g:Value):Prop where
 V8:b.cell? ⟨c,0,none⟩=some f
 c1:b.cell? ⟨c,1,none⟩=some g
 c2:b.cell? ⟨c,2,none⟩=some (j i.op)
 c3:b.cell? ⟨c,3,none⟩=some (j i.rd)
 c4:b.cell? ⟨c,4,none⟩=some (j i.V1)
 c5:b.cell? ⟨c,5,none⟩=some (j i.V6)
 W4:b.cell? ⟨c,6,none⟩=some (j i.V2)
 W5:b.cell? ⟨c,7,none⟩=some (j i.V4)
 Wb:∀n,b.frozen? ⟨c,n,none⟩=false
 lt:c<b.heap.size
 Xo:b.ownsRow (c+1) 40 1 f l.length (iB l)
 Xp:b.ownsRow (c+1) 129 1 g m.length (iB m)
 Xs:∀a (k:a<d.length),bG b d[a]
 ge:∀a (k:a<d.length),∀e∈d[a].WV,c<e
 XX:∀a (k:a<d.length),∀e∈d[a].WV,f.ownBlock≠some e
 XY:∀a (k:a<d.length),∀e∈d[a].WV,g.ownBlock≠some e
 X9:∀e,f.ownBlock=some e->g.ownBlock≠some e
 XZ:∀a h (o:a<d.length) (p:h<d.length),a≠h->∀e∈d[a].WV,e∉d[h].WV
theorem cE.more {j w':D}{d:Nat}{i:U}{k:List aN}{l m:List Nat}{g h:Value}{F:List Nat}(a:cE j d i k l m g h)(b:Kept F j w')(hF:∀c∈F,j.heap.size<=c):cE w' d i k l m g h:=by
 have e:d∉F:=fun f=>by have:=hF _ f;have:=a.lt;omega
 have t:∀c,g.ownBlock=some c->c∉F:=fun c b f=>by have:=hF _ f;have:=(a.Xo.lt c b).2;omega
 have u:∀c,h.ownBlock=some c->c∉F:=fun c b f=>by have:=hF _ f;have:=(a.Xp.lt c b).2;omega
 exact⟨(b.cell (p:=⟨d,0,none⟩) a.lt e).trans a.V8,(b.cell (p:=⟨d,1,none⟩) a.lt e).trans a.c1,(b.cell (p:=⟨d,2,none⟩) a.lt e).trans a.c2,(b.cell (p:=⟨d,3,none⟩) a.lt e).trans a.c3,(b.cell (p:=⟨d,4,none⟩) a.lt e).trans a.c4,(b.cell (p:=⟨d,5,none⟩) a.lt e).trans a.c5,(b.cell (p:=⟨d,6,none⟩) a.lt e).trans a.W4,(b.cell (p:=⟨d,7,none⟩) a.lt e).trans a.W5,fun r=>(b.frozen (p:=⟨d,r,none⟩) a.lt e).trans (a.Wb r),aR a.lt b.size,iz a.Xo b t,iz a.Xp b u,fun o q=>(a.Xs o q).more b (fun c s f=>by have:=hF _ f;have:=(a.Xs o q).lt c s;omega),a.ge,a.XX,a.XY,a.X9,a.XZ⟩
def cE.W3 {g a:D}{h:Nat}{i:U}{b:List aN}{c d:List Nat}{e f:Value}(j:cE g h i b c d e f)(k:Kept [] g a):cE a h i b c d e f:=j.more k (by simp)
def cE.act {A w:D}{h:Nat}{i:U}{j:List aN}{B C:List Nat}{y z:Value}(a:cE A h i j B C y z)(f:Nat)(l:f<j.length)(v:aN)(H:bG w v)(q:i3 A j[f] v)(e:Kept j[f].WV A w):cE w h i (j.set f v) B C y z:=by
 have m:h∉j[f].WV:=fun c=>by have:=a.ge f l _ c;omega
 have I:∀b,y.ownBlock=some b->b∉j[f].WV:=fun b e c=>a.XX f l b c e;have J:∀b,z.ownBlock=some b->b∉j[f].WV:=fun b e c=>a.XY f l b c e;refine⟨(e.cell (p:=⟨h,0,none⟩) a.lt m).trans a.V8,(e.cell (p:=⟨h,1,none⟩) a.lt m).trans a.c1,(e.cell (p:=⟨h,2,none⟩) a.lt m).trans a.c2,(e.cell (p:=⟨h,3,none⟩) a.lt m).trans a.c3,(e.cell (p:=⟨h,4,none⟩) a.lt m).trans a.c4,(e.cell (p:=⟨h,5,none⟩) a.lt m).trans a.c5,(e.cell (p:=⟨h,6,none⟩) a.lt m).trans a.W4,(e.cell (p:=⟨h,7,none⟩) a.lt m).trans a.W5,fun F=>(e.frozen (p:=⟨h,F,none⟩) a.lt m).trans (a.Wb F),aR a.lt e.size,iz a.Xo e I,iz a.Xp e J,?_,?_,?_,?_,a.X9,?_⟩
 . intro g p;rw[mS];split
   . exact H
   . next G=>exact(a.Xs g rm).more e (fun b d c=>a.XZ g f rm l (fun k=>G k.symm) b d c)
 . intro g p b d;rw[mS]at d;split at d
   . rcases q.WV b d with c|c
     . exact a.ge f l b c
     . have:=a.lt;omega
   . exact a.ge g rm b d
 . intro g p b d;rw[mS]at d;split at d
   . rcases q.WV b d with c|c
     . exact a.XX f l b c
     . intro k;have:=(a.Xo.lt b k).2;omega
   . exact a.XX g rm b d
 . intro g p b d;rw[mS]at d;split at d
   . rcases q.WV b d with c|c
     . exact a.XY f l b c
     . intro k;have:=(a.Xp.lt b k).2;omega
   . exact a.XY g rm b d
 . intro g r p d E b o n;have t:g<j.length:=by simpa using p
   have u:r<j.length:=by simpa using d
   rw[mS]at o n;split at o
   . next x=>
     split at n
     . next s=>exact E (x.symm.trans s)
     . next s=>
       rcases q.WV b o with c|c
       . exact a.XZ f r l u (fun k=>s k) b c n
       . have:=(a.Xs r u).lt b n;omega
   . next x=>
     split at n
     . next s=>
       rcases q.WV b n with c|c
       . exact a.XZ g f t l (fun k=>x k.symm) b o c
       . have:=(a.Xs g t).lt b o;omega
     . exact a.XZ g r t u E b o n
def cE.Zp {r:D}{s:Nat}{i:U}{l:List aN}{t u:List Nat}{o q:Value}(b:cE r s i l t u o q)(p:aN)(z:bG r p)(f:Nat)(h:∀a∈p.WV,f<=a)(B:s<f)(hu:∀a,o.ownBlock=some a->a<f)(A:∀a,q.ownBlock=some a->a<f)(w:∀d (b:d<l.length),∀a∈l[d].WV,a<f):cE r s i (l++[p]) t u o q:=by
 refine⟨b.V8,b.c1,b.c2,b.c3,b.c4,b.c5,b.W4,b.W5,b.Wb,b.lt,b.Xo,b.Xp,?_,?_,?_,?_,b.X9,?_⟩
 . intro d j;rw[rj];split
   . exact b.Xs d _
   . simpa using z
 . intro d j a c;rw[rj]at c;split at c
   . exact b.ge d _ a c
   . have:=h a (by simpa using c);omega
 . intro d j a c;rw[rj]at c;split at c
   . exact b.XX d _ a c
   . intro m;have:=h a (by simpa using c);have:=hu a m;omega
 . intro d j a c;rw[rj]at c;split at c
   . exact b.XY d _ a c
   . intro m;have:=h a (by simpa using c);have:=A a m;omega
 . intro d v j y x a k e;rw[rj]at k e;split at k
   . next n=>
     split at e
     . next g=>exact b.XZ d v n g x a k e
     . next g=>have:=h a (by simpa using e);have:=w d n a k;omega
   . next n=>
     split at e
     . next g=>have:=h a (by simpa using k);have:=w v g a e;omega
     . next g=>simp at j y;omega
def CR {v c:Value}{g i e d:Nat}(h:c=.slice (some ⟨g,0,none⟩) i e)(f:v.ownBlock=some g\/g=d)(b:Nat)(a:c.ownBlock=some b):v.ownBlock=some b\/b=d:=by
 rw[h]at a;simp only[Value.ownBlock,b6]at a;rw[<-a];exact f
def cE.ZT {u l:D}{e:Nat}{i:U}{y:List aN}{f z:List Nat}{s x:Value}(b:cE u e i y f z s x)(A g n:Nat)(G:u.grownBy l s.ownBlock)(w:l.ownsRow (e+1) 40 1 (.slice (some ⟨g,0,none⟩) (f.length+1) n) (f.length+1) (iB f++[I A]))(E:s.ownBlock=some g\/g=u.heap.size):
 cE (l.setCell ⟨e,0,none⟩ (.slice (some ⟨g,0,none⟩) (f.length+1) n)) e i y (f++[A]) z (.slice (some ⟨g,0,none⟩) (f.length+1) n) x:=by
 have c:=sA G;have t:e∉s.ownBlock.toList:=fun a=>by have:=(b.Xo.lt e jy).1;omega
 have J:∀d,x.ownBlock=some d->d∉s.ownBlock.toList:=fun d c a=>b.X9 d jy c;have H:=c.size;have j:=b.lt;have h:Kept [e] l (l.setCell ⟨e,0,none⟩ (.slice (some ⟨g,0,none⟩) (f.length+1) n)):=Hp;have K:e+1<=g:=(w.lt g rfl).1;have B:=fun d (c:(Value.slice (some ⟨g,0,none⟩) (f.length+1) n).ownBlock=some d)=>CR (v:=s) rfl E d c;have k:∀r,(0:Nat)≠r->(l.setCell ⟨e,0,none⟩ (.slice (some ⟨g,0,none⟩) (f.length+1) n)).cell? ⟨e,r,none⟩=u.cell? ⟨e,r,none⟩:=Hq;refine⟨jv _ _ _ ((c.cell (p:=⟨e,0,none⟩) j t).trans b.V8),(k 1 R).trans b.c1,(k 2 R).trans b.c2,(k 3 R).trans b.c3,(k 4 R).trans b.c4,(k 5 R).trans b.c5,(k 6 R).trans b.W4,(k 7 R).trans b.W5,fun r=>by rw[lo];exact(c.frozen (p:=⟨e,r,none⟩) j t).trans (b.Wb r),aR (aR j H) h.size,?_,?_,?_,b.ge,?_,b.XY,?_,b.XZ⟩
 . exact L1
 . exact iz (iz b.Xp c J) h (fun d c a=>by have:=(b.Xp.lt d c).1;simp at a;omega)
 . intro m o;refine((b.Xs m o).more c (fun d q a=>b.XX m o d q jy)).more h (fun d q a=>?_);have:=b.ge m o d q;simp at a;omega
 . intro m o d q v;rcases B d v with a|a
   . exact b.XX m o d q a
   . have:=(b.Xs m o).lt d q;omega
 . intro d v;rcases B d v with a|a
   . exact b.X9 d a
   . intro C;have:=(b.Xp.lt d C).2;omega
def cE.ZU {v l:D}{e:Nat}{i:U}{y:List aN}{z f:List Nat}{x s:Value}(b:cE v e i y z f x s)(A g n:Nat)(G:v.grownBy l s.ownBlock)(w:l.ownsRow (e+1) 129 1 (.slice (some ⟨g,0,none⟩) (f.length+1) n) (f.length+1) (iB f++[I A]))(E:s.ownBlock=some g\/g=v.heap.size):
 cE (l.setCell ⟨e,1,none⟩ (.slice (some ⟨g,0,none⟩) (f.length+1) n)) e i y z (f++[A]) x (.slice (some ⟨g,0,none⟩) (f.length+1) n):=by
 have c:=sA G;have t:e∉s.ownBlock.toList:=fun a=>by have:=(b.Xp.lt e jy).1;omega
 have J:∀d,x.ownBlock=some d->d∉s.ownBlock.toList:=fun d c a=>b.X9 d c jy;have H:=c.size;have j:=b.lt;have h:Kept [e] l (l.setCell ⟨e,1,none⟩ (.slice (some ⟨g,0,none⟩) (f.length+1) n)):=Hp;have K:e+1<=g:=(w.lt g rfl).1;have B:=fun d (c:(Value.slice (some ⟨g,0,none⟩) (f.length+1) n).ownBlock=some d)=>CR (v:=s) rfl E d c;have k:∀r,(1:Nat)≠r->(l.setCell ⟨e,1,none⟩ (.slice (some ⟨g,0,none⟩) (f.length+1) n)).cell? ⟨e,r,none⟩=v.cell? ⟨e,r,none⟩:=Hq;refine⟨(k 0 R).trans b.V8,jv _ _ _ ((c.cell (p:=⟨e,1,none⟩) j t).trans b.c1),(k 2 R).trans b.c2,(k 3 R).trans b.c3,(k 4 R).trans b.c4,(k 5 R).trans b.c5,(k 6 R).trans b.W4,(k 7 R).trans b.W5,fun r=>by rw[lo];exact(c.frozen (p:=⟨e,r,none⟩) j t).trans (b.Wb r),aR (aR j H) h.size,?_,?_,?_,b.ge,b.XX,?_,?_,b.XZ⟩
 . exact iz (iz b.Xo c J) h (fun d c a=>by have:=(b.Xo.lt d c).1;simp at a;omega)
 . exact L1
 . intro m o;refine((b.Xs m o).more c (fun d q a=>b.XY m o d q jy)).more h (fun d q a=>?_);have:=b.ge m o d q;simp at a;omega
 . intro m o d q u;rcases B d u with a|a
   . exact b.XY m o d q a
   . have:=(b.Xs m o).lt d q;omega
 . intro d u C;rcases B d C with a|a
   . exact b.X9 d u a
   . have:=(b.Xo.lt d u).2;omega
def cE.put {e:D}{a:Nat}{i:U}{o:List aN}{p q:List Nat}{u v:Value}(b:cE e a i o p q u v)(m f r n l k:Int):cE ((((((e.setCell ⟨a,2,none⟩ (j m)).setCell ⟨a,3,none⟩ (j f)).setCell ⟨a,4,none⟩ (j r)).setCell ⟨a,5,none⟩ (j n)).setCell ⟨a,6,none⟩ (j l)).setCell ⟨a,7,none⟩ (j k)) a ⟨m,f,r,n,l,k⟩ o p q u v:=by
 obtain⟨x,y,z,A,B,C,E,G,H,I,-,-,-,-,-,-,-,-⟩:=id b;have h:Kept [a] e ((((((e.setCell ⟨a,2,none⟩ (j m)).setCell ⟨a,3,none⟩ (j f)).setCell ⟨a,4,none⟩ (j r)).setCell ⟨a,5,none⟩ (j n)).setCell ⟨a,6,none⟩ (j l)).setCell ⟨a,7,none⟩ (j k)):=((((((Kept.refl _ _).setCell (.inl F) _).setCell (.inl F) _).setCell (.inl F) _).setCell (.inl F) _).setCell (.inl F) _).setCell (.inl F) _;refine⟨?_,?_,?_,?_,?_,?_,?_,?_,?_,?_,iz b.Xo h (fun c g d=>by have:=(b.Xo.lt c g).1;simp at d;omega),iz b.Xp h (fun c g d=>by have:=(b.Xp.lt c g).1;simp at d;omega),fun s t=>(b.Xs s t).more h (fun c w d=>by have:=b.ge s t c w;simp at d;omega),b.ge,b.XX,b.XY,b.X9,b.XZ⟩<;>simp[go_sem,x,y,z,A,B,C,E,G,H,I]
def Co (a:Int)(p:-9223372036854775808<=a)(q:a<=9223372036854775807)(b:Nat)(r:0<b)(s:b<=9223372036854775807)(f:D):
 Calls prog 95 #[j a,j b] f fun n k=>(∃c:Nat,c<b/\n=.returned (j c))/\k=f:=by
 by_cases g:a<0
 . have o:decide (a<0)=true:=by simp[g]
   have t:IntKind.i64.wrap (a+1)=a+1:=lN;have u:IntKind.i64.wrap (-(a+1))=-(a+1):=lN;have d:(-(a+1)).tmod (b:Int)=(-(a+1))% (b:Int):=iP m;have i:=tU (-(a+1)) (show(0:Int)<b by omega);have h:=oA (-(a+1)) (show(b:Int)≠0 by omega);have w3:IntKind.i64.wrap ((-(a+1)).tmod (b:Int))=(-(a+1)).tmod (b:Int):=fk _ (by rw[d];omega);obtain⟨c,e⟩:∃c:Nat,(c:Int)=(-(a+1)).tmod (b:Int):=⟨((-(a+1)).tmod (b:Int)).toNat,by rw[d];omega⟩;exact L2
 . have o:decide (a<0)=false:=M;have d:a.tmod (b:Int)=a% (b:Int):=iP m;have i:=tU a (show(0:Int)<b by omega);have h:=oA a (show(b:Int)≠0 by omega);have w3:IntKind.i64.wrap (a.tmod (b:Int))=a.tmod (b:Int):=fk _ (by rw[d];omega);obtain⟨c,e⟩:∃c:Nat,(c:Int)=a.tmod (b:Int):=⟨(a.tmod (b:Int)).toNat,by rw[d];omega⟩;exact L2
def b8 (e:D)(f:Nat)(i:U)(b:Nat):Prop:=∃a c d,cE e f i a (a.map aN.Wk) (a.map aN.Wn) c d/\a.length<=b
def gy {f:List Nat}{c e:D}{d:Nat}(a:Kept f c e)(hF:∀b∈f,d<=b)(i:d<=c.heap.size):Below d c e:=
 ⟨a.os,a.tape,a.output,a.size,fun b h=>a.block b (by omega) (fun g=>by have:=hF b g;omega)⟩
def RS :(prog.info? 40).map (fun i=>(i.zero,i.size,i.bytes))=some (some (.pointer none),1,8):=by kernel_rfl
def RR :(prog.info? 129).map (fun i=>(i.zero,i.size,i.bytes))=some (some (.pointer none),1,8):=by kernel_rfl
theorem Pe {f:D}{b:Nat}{i:U}{p:List aN}{e q:List Nat}{l w:Value}(r:cE f b i p e q l w)(k v:Nat)(J:e.length<=1073741824):∃g h d,(Builtin.append_ #[32,32] v #[l,.slice (some ⟨f.heap.size,0,none⟩) 1 1]).run prog (f.alloc (.cells #[.pointer (some ⟨k,0,none⟩)] 40))=.ok (.slice (some ⟨g,0,none⟩) (e.length+1) h) d/\cE (d.setCell ⟨b,0,none⟩ (.slice (some ⟨g,0,none⟩) (e.length+1) h)) b i p (e++[k]) q (.slice (some ⟨g,0,none⟩) (e.length+1) h) w/\d.cell? ⟨b,0,none⟩=some l/\(∀o,d.frozen? ⟨b,o,none⟩=false)/\b<d.heap.size/\Below b f d:=by
 obtain⟨G,y,B,C,E⟩:=hy RS;have c:=r.W3 ((Kept.refl _ _).alloc (.cells #[I k] 40));have K:=r.lt;obtain⟨g,h,d,A,z,s,x,L⟩:=run_append_lies (P:=prog) (f.alloc (.cells #[I k] 40)) 32 v (b+1) 40 G (.pointer none) 1 8 Tryz.underlying32 y B C E rfl R l e.length (iB e) c.Xo ⟨f.heap.size,0,none⟩ 1 1 [I k] rfl (by
  intro t M j;match t,j with
  |0,j=>simp at j;subst j;simp[Addr.add]
  |t+1,j=>simp at j) Gf R gq m ad _ rfl
 have n:=sA s;have u:b∉l.ownBlock.toList:=fun a=>by have:=(c.Xo.lt b jy).1;omega
 refine⟨g,h,d,A,c.ZT k g h s z x,(n.cell (p:=⟨b,0,none⟩) c.lt u).trans c.V8,fun o=>(n.frozen (p:=⟨b,o,none⟩) c.lt u).trans (c.Wb o),aR c.lt n.size,?_⟩;exact(gy ((Kept.refl [] f).alloc _) F m).trans (gy n (fun H a=>by have:=(c.Xo.lt H jy).1;omega) (gn c.lt))
theorem Pd {f:D}{b:Nat}{i:U}{p:List aN}{q e:List Nat}{w l:Value}(r:cE f b i p q e w l)(k v:Nat)(J:e.length<=1073741824):∃g h d,(Builtin.append_ #[51,51] v #[l,.slice (some ⟨f.heap.size,0,none⟩) 1 1]).run prog (f.alloc (.cells #[.pointer (some ⟨k,0,none⟩)] 129))=.ok (.slice (some ⟨g,0,none⟩) (e.length+1) h) d/\cE (d.setCell ⟨b,1,none⟩ (.slice (some ⟨g,0,none⟩) (e.length+1) h)) b i p q (e++[k]) w (.slice (some ⟨g,0,none⟩) (e.length+1) h)/\d.cell? ⟨b,1,none⟩=some l/\(∀o,d.frozen? ⟨b,o,none⟩=false)/\b<d.heap.size/\Below b f d:=by
 obtain⟨G,y,B,C,E⟩:=hy RR;have c:=r.W3 ((Kept.refl _ _).alloc (.cells #[I k] 129));have K:=r.lt;obtain⟨g,h,d,A,z,s,x,L⟩:=run_append_lies (P:=prog) (f.alloc (.cells #[I k] 129)) 51 v (b+1) 129 G (.pointer none) 1 8 Tryz.underlying51 y B C E rfl R l e.length (iB e) c.Xp ⟨f.heap.size,0,none⟩ 1 1 [I k] rfl (by
  intro t M j;match t,j with
  |0,j=>simp at j;subst j;simp[Addr.add]
  |t+1,j=>simp at j) Gf R gq m ad _ rfl
 have n:=sA s;have u:b∉l.ownBlock.toList:=fun a=>by have:=(c.Xp.lt b jy).1;omega
 refine⟨g,h,d,A,c.ZU k g h s z x,(n.cell (p:=⟨b,1,none⟩) c.lt u).trans c.c1,fun o=>(n.frozen (p:=⟨b,o,none⟩) c.lt u).trans (c.Wb o),aR c.lt n.size,?_⟩;exact(gy ((Kept.refl [] f).alloc _) F m).trans (gy n (fun H a=>by have:=(c.Xp.lt H jy).1;omega) (gn c.lt))
def E5 {p:Array Oper}{rest:List Oper}{c:Oper}{f:Act}{n:Exit->Act->D->Prop}(J:c.guard=none)(q s:Operand)(A:c.op=.call {callee:=.builtin .append,args:=#[q,s],argTypes:=#[32,32]})
 {h:D} {d:Nat} {i:U} {m:List aN} {e o:List Nat} {k r:Value} (F:cE h d i m e o k r) (j:Nat) (H:e.length<=1073741824) (C:f.eval q=k) (l:Nat) (G:l=h.heap.size) (E:f.eval s=.slice (some ⟨l,0,none⟩) 1 1)
 (z:∀g b a,cE (a.setCell ⟨d,0,none⟩ (.slice (some ⟨g,0,none⟩) (e.length+1) b)) d i m (e++[j]) o (.slice (some ⟨g,0,none⟩) (e.length+1) b) r->a.cell? ⟨d,0,none⟩=some k->(∀c,a.frozen? ⟨d,c,none⟩=false)->d<a.heap.size->Below d h a->wpList prog p n rest (f.put c.dst (.slice (some ⟨g,0,none⟩) (e.length+1) b)) a):
 wpList prog p n (c::rest) f (h.alloc (.cells #[I j] 40)):=by
 subst G;refine wpList_plain J fun K t=>?_;obtain⟨g,b,a,B,u,v,w,x,y⟩:=Pe F j c.type H;exact L3
def E4 {p:Array Oper}{rest:List Oper}{c:Oper}{f:Act}{n:Exit->Act->D->Prop}(J:c.guard=none)(q s:Operand)(A:c.op=.call {callee:=.builtin .append,args:=#[q,s],argTypes:=#[51,51]})
 {h:D} {d:Nat} {i:U} {m:List aN} {o e:List Nat} {r k:Value} (F:cE h d i m o e r k) (j:Nat) (H:e.length<=1073741824) (C:f.eval q=k) (l:Nat) (G:l=h.heap.size) (E:f.eval s=.slice (some ⟨l,0,none⟩) 1 1)
 (z:∀g b a,cE (a.setCell ⟨d,1,none⟩ (.slice (some ⟨g,0,none⟩) (e.length+1) b)) d i m o (e++[j]) r (.slice (some ⟨g,0,none⟩) (e.length+1) b)->a.cell? ⟨d,1,none⟩=some k->(∀c,a.frozen? ⟨d,c,none⟩=false)->d<a.heap.size->Below d h a->wpList prog p n rest (f.put c.dst (.slice (some ⟨g,0,none⟩) (e.length+1) b)) a):
 wpList prog p n (c::rest) f (h.alloc (.cells #[I j] 129)):=by
 subst G;refine wpList_plain J fun K t=>?_;obtain⟨g,b,a,B,u,v,w,x,y⟩:=Pd F j c.type H;exact L3
def so {a:Nat}{b d:D}(e:Below a b d)(f:Nat)(c:Value):Below a b (d.setCell ⟨a,f,none⟩ c):=e.setCell (by simp) c
def So (k:Nat)(i:U)(x:Nat)(aM:x<1073741824)(n:Int)(a:D)(ah:Hid (b8 a k i x)):
 Calls prog 94 #[I k,j n] a fun d T=>d=.returned (.bool true)/\b8 T k i (x+1)/\Below k a T:=by
 by_cases ak:0<=n/\n<=65536
 . obtain⟨c,rfl⟩:∃c:Nat,n=c:=⟨n.toNat,by omega⟩;have N:c<=65536:=J;obtain⟨h,Q,R,e,az⟩:=ah.out;have am:∀t (aK:t<h.length),∀b∈h[t].WV,b<a.heap.size:=fun t aA b f=>(e.Xs t aA).lt b f;have an:∀b,Q.ownBlock=some b->b<a.heap.size:=fun b f=>(e.Xo.lt b f).2;have ao:∀b,R.ownBlock=some b->b<a.heap.size:=fun b f=>(e.Xp.lt b f).2;have aB:=e.lt;have s:=l (Fb c N a);have r:=l (fun W=>aeu c N W);have Y:=l e;have p:=l (cZ am (cZ an ao));have ad:=l (Pw c N);clear am an ao ak e;go_enter func94,ntmps94;go_wp2_with fail;refine s.out.mono ?_;rintro P S ⟨rfl,al,ag⟩;have A:=l al;have B:=l ag;have ab:=l (r.out S);clear s r al ag;go_wp2_with fail;refine ab.out.mono ?_;rintro P au ⟨⟨O,ac,af,av,ar,rfl,aF,aG,aH,aI,aJ,M⟩,w⟩;have aO:=A.out.lt;have z:=M.nodup;have aa:=(Y.out.W3 B.out).W3 w;have ap:bG au ⟨a.heap.size+1,a.heap.size,O,ac,af,av,ar,hN c,sR c⟩:=by
    refine⟨A.out.kept w,M,ad.out,?_⟩;simp only[aN.WV,gS]at z|-;simp only[dD,eR,eS,gi]at z|-;exact⟨⟨by omega,by omega,by omega,by omega,by omega,by omega⟩,⟨by omega,by omega,by omega,by omega,by omega⟩,z⟩
   have o:=aa.Zp _ ap a.heap.size (by
    intro b f;simp only[aN.WV,dD,eR,eS]at f;rcases f with d|d|d|d|d|d|d<;>omega) aB p.out.2.1 p.out.2.2 p.out.1
   have V:Hid (Below k a au):=l (gy (B.out.trans w) F m);clear aa ap z M w ab A B Y p ad;obtain⟨C,u⟩:=y (h.map aN.Wk);obtain⟨q,v⟩:=y (h.map aN.Wn);rw[<-u,<-v]at o;have aC:C.length<=1073741824:=by rw[u,gT];omega
   have aD:q.length<=1073741824:=by rw[v,gT];omega
   have aw:=o.V8;have aL:=o.lt;have Z:=l o;have aj:=l (cZ u v);clear u v o;go_wp2_with(at_builtin;refine E5 rfl (.tmp 38) (.tmp 40) rfl Z.out (a.heap.size+1) aC rfl _ rfl rfl ?_);intro g ae w3 L4 d0 ax ay X;have c1:=L4.c1;have L:=l L4;have H:=l (V.out.trans (so X 0 (.slice (some ⟨g,0,none⟩) (C.length+1) ae)));clear L4 Z V X aw;go_wp2_with(at_builtin;refine E4 rfl (.tmp 48) (.tmp 50) rfl L.out O aD rfl w3.heap.size F rfl ?_);intro G E aE ai d0 ax ay K;have aQ:=l (so (H.out.trans K) 1 (.slice (some ⟨G,0,none⟩) (q.length+1) E));have aR:Hid (b8 (aE.setCell ⟨k,1,none⟩ (.slice (some ⟨G,0,none⟩) (q.length+1) E)) k i (x+1)):=by
    refine⟨h++[⟨a.heap.size+1,a.heap.size,O,ac,af,av,ar,hN c,sR c⟩],.slice (some ⟨g,0,none⟩) (C.length+1) ae,.slice (some ⟨G,0,none⟩) (q.length+1) E,?_,?_⟩
    . exact L6
    . simp;omega
   exact L5
 . have s:=l (af1 n m a);have r:=l (aev n m a);clear ak;go_enter func94,ntmps94;go_wp2_with fail;refine s.out.mono ?_;rintro P S ⟨rfl,rfl⟩;go_wp2_with fail;refine r.out.mono ?_;rintro P S ⟨rfl,rfl⟩;go_wp2_with fail;go_ret;obtain⟨h,Q,R,e,az⟩:=ah.out;exact⟨rfl,⟨h,Q,R,e,by omega⟩,aq _ _⟩
end
end Go.Proofs.YtmlgonbhoknoiaaGreatDoor
