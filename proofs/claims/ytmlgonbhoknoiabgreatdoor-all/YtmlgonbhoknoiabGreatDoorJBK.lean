import Derived.Test.YtmlgonbhoknoiabGreatDoorJBJ
set_option maxHeartbeats 8000000
set_option maxRecDepth 100000
set_option linter.all false
namespace Go.Proofs.YtmlgonbhoknoiabGreatDoor
open Go.RowKit Go.Proofs.Tryz
def QI (a:N):ax (k3 a) 0 false false=kK:=by
 unfold ax S k3 nC kK;simp
def Dj (a:N):aD (k3 a) 0 false false=⟨qc a.b,kK,List.replicate 32 0,2147483648,false,0⟩:=by
 unfold aD;rw[QI];rfl
def P0 (a:Nat)(b:a<=65536):bv (te a) (hN a):=⟨C0 a b,rfl,0,false,false,by decide,(Dj (kX a)).symm⟩
def P1 {b:ai}{a:N}(c:bv b a):bv (xM b) (k3 a):=by
 obtain⟨d,g,e,f,i,h,rfl⟩:=c;exact⟨DM a d.ok.b.o,rfl,0,false,false,by decide,(Dj a).symm⟩
def l3 {a:ai}{b:N}(c:bv a b):a.b=b.b:=by
 obtain⟨f,g,d,e,i,h,rfl⟩:=c;rfl
def wC {b:ai}{c:N}(f:bv b c){a:P}(j:aS a):bv {b with b:=a} (c.V7 a):=by
 obtain⟨g,h,d,e,i,k,rfl⟩:=f;exact⟨g.V7 j,h,d,e,i,k,rfl⟩
def P3 {a:ai}{b:N}(c:bv a b)(d:Nat):bv {a with b:=jp a.b d} {b with b:=jp b.b d}:=by
 rw[l3 c];exact wC c (V0 c.1 d).ok.b
def PX {a:ai}{b:N}(c:bv a b):bv {a with b:={a.b with Wc:=⟨#[]⟩}} {b with b:={b.b with Wc:=⟨#[]⟩}}:=by
 rw[l3 c];exact wC c (Qz c.1).ok.b
theorem Cd :∀(b a:Nat),4<=a->je b a 0=0
 |0,_,_=>rfl
 |b+1,a,c=>by
  simp only[je]
  rw[z (by omega)]
  exact Cd b (a+1) (by omega)
theorem Cc :∀(b a r:Nat),4<=a->je b a r=if 0<b/\r<a+b/\a<r+4 then 0 else r
 |0,a,r,_=>by rw[z (by omega)];rfl
 |b+1,a,r,e=>by
  simp only[je]
  by_cases c:r<=a/\a<r+4
  . rw[B c,Cd b _ (by omega),B (by omega)]
  . rw[z c,Cc b (a+1) r (by omega)]
    by_cases d:0<b/\r<a+1+b/\a+1<r+4
    . rw[B d,B (by omega)]
    . rw[z d,z (by omega)]
def PZ {j:ai}{a:N}(k:bv j a)(b:Nat)(c:K):bv (qp j b c) (kV a b c):=by
 have d:=CT k.1 b c;obtain⟨o,g,e,f,i,h,rfl⟩:=k;unfold kV q1 at d|-;unfold qp;rw[show(aD a e f i).res=a.WU from rfl,Cc _ _ _ (by omega)];have l:b0 a:=g;unfold b0 at g;by_cases hu:q0 (bY a (laidB a.b.o b c.data.toList)) b c.size=true
 . rw[B hu]at d|-;unfold q0 at hu;simp only[cU,cA]at hu;rw[show(bY a (laidB a.b.o b c.data.toList)).WU=a.WU from rfl]at hu;rw[B (by omega)];exact⟨d,b0.XW _,e,f,i,h,rfl⟩
 . rw[z hu]at d|-;unfold q0 at hu;simp only[cU,cA]at hu;rw[show(bY a (laidB a.b.o b c.data.toList)).WU=a.WU from rfl,show(bY a (laidB a.b.o b c.data.toList)).W9=a.W9 from rfl,g]at hu;by_cases m:a.WU=0
   . rw[z (by omega)];exact⟨d,l,e,f,i,h,rfl⟩
   . have:(!decide (a.WU=0))=true:=by simp[m]
     rw[z (fun n=>hu ⟨⟨⟨this,n.1⟩,by omega⟩,by omega⟩)];exact⟨d,l,e,f,i,h,rfl⟩
def P8 (b:K)(a:Nat)(g:a<b.size):b.extract a (a+1)=strOfNums (b3 (b.data[a].toNat:Int) 1):=by
 have d:(b.extract a (a+1)).data=(strOfNums (b3 (b.data[a].toNat:Int) 1)).data:=by
  have h:a<b.data.size:=g;apply Array.ext';rw[strOfNums_data];simp only[b3,List.nil_append,up,List.map_nil];have f:∀c:L,UInt8.ofNat ((c.toNat:Int)/256^0%256).toNat=c:=fun c=>by
   have:=UInt8.toNat_lt c;have e:((c.toNat:Int)/256^0%256:Int).toNat=c.toNat:=J;rw[e];simp
  rw[f];simp only[ByteArray.data_extract,Array.toList_extract];rw[List.extract_eq_take_drop,show a+1-a=1 by omega,jv (by simpa using h)];simp
 cases i:b.extract a (a+1);cases j:strOfNums (b3 (b.data[a].toNat:Int) 1);rw[i,j]at d;simp only at d;rw[d]
theorem wQ (b:K):∀(e a d:Nat) (c:P),c.rx.size<=4->a+e=b.size->eo b e a d c=(d+((eC (b.data.toList.drop a) c).rx.size-c.rx.size),eC (b.data.toList.drop a) c)
 |0,a,d,c,k,j=>by
  have p:b.data.toList.drop a=[]:=eQ (by simp;exact Nat.le_of_eq j.symm)
  rw[p]
  simp[eo,eC]
 |e+1,a,d,c,k,j=>by
  have n:a<b.data.toList.length:=by simp;have:b.data.size=b.size:=rfl;omega
  have o:a<b.size:=by omega
  rw[jv n]
  have m:b.data.toList[a]=b.data[a]:=by simp
  have i:=P8 b a o
  simp only[eo,eC]
  rw[m]
  by_cases f:c.rx.size<4
  . have g:ec c (b.data[a].toNat:Int)={c with rx:=c.rx++b.extract a (a+1)}:=by
     unfold ec;rw[B f,<-i]
    have h:(c.rx++b.extract a (a+1)).size=c.rx.size+1:=by rw[fl,i,strOfNums_size];rfl
    rw[B f,wQ b e (a+1) (d+1) _ (by rw[h];omega) (by omega),g];have l:=sL (b.data.toList.drop (a+1)) {c with rx:=c.rx++b.extract a (a+1)} (by rw[h];omega);rw[h]at l|-;refine rF ?_ rfl;dsimp only;omega
  . have g:ec c (b.data[a].toNat:Int)={c with lost:=true}:=by unfold ec;rw[z f]
    rw[z f,wQ b e (a+1) d {c with lost:=true} k (by omega),g]
def Ch (a:K)(b:P)(c:b.rx.size<=4):((eo a a.size 0 0 b).1:Int)=((eC a.data.toList b).rx.size:Int)-b.rx.size/\(eo a a.size 0 0 b).2=eC a.data.toList b:=by
 rw[wQ a a.size 0 0 b c (by omega)];have:=sL a.data.toList b c;rw[jw];refine⟨?_,rfl⟩;dsimp only;omega
def PY {d:ai}{a:N}(b:bv d a)(c:K):bv {d with b:=(eo c c.size 0 0 d.b).2} (a.V7 (eC c.data.toList a.b)):=by
 rw[l3 b,(Ch c a.b b.1.ok.b.rx).2];exact wC b (QJ b.1 _).ok.b
def QH (b:N)(a:Int):eW a=(aA b a).2:=by
 by_cases c:0<=a/\a<=4095
 . exact Cg b a c.1 c.2
 . have d:(aA b a).2=false:=by
    unfold aA;rw[z (by omega),z (by omega),z (by omega)];simp;omega
   rw[d];unfold eW jS jf;rw[z (by simp;omega)];by_cases h:a<0
   . have t1:a.tmod 32<=0:=by have:=Int.tmod_nonneg 32 (show 0<=-a by omega);rw[Int.neg_tmod]at this;omega
     have t2:decide (3<=a.tmod 32)=false:=M;have t3:decide (800<=a)=false:=M;rw[t2,t3];rfl
   . have t2:a.tdiv 32=a/32:=hA m;have t3:decide (800<=a)=true:=M;have t4:decide (a<832)=false:=M;have e:decide (a.tdiv 32=88)=false:=vn;have f:decide (a.tdiv 32=92)=false:=vn;have u3:decide (a.tdiv 32=96)=false:=vn;have g:decide (a.tdiv 32=100)=false:=vn;rw[t3,t4,e,f,u3,g];cases decide (3<=a.tmod 32)<;>rfl
def PW {c:ai}{b:N}(f:bv c b)(a:Int):j9 b a=if eW a=true then(bB c.f c.b a,0)else(0,2):=by
 obtain⟨g,h,d,e,i,j,rfl⟩:=f;unfold j9;rw[QH b a,show bB (aD b d e i).f (aD b d e i).b a=(aA b a).1 from xC g d e i a]
def P2 {d:ai}{a:N}(h:bv d a):tE d=qL a:=by
 obtain⟨j,k,b,c,i,n,rfl⟩:=h;have m:fw (ax a b c i)=a.c.V5:=Er a.c.V5 j.Xx;have e:(if a.W9=true then(⟨#[114]⟩:K)else⟨#[45]⟩)=(if a.WU=0 then⟨#[45]⟩else⟨#[114]⟩):=by
  rw[k];by_cases l:a.WU=0<;>simp[l]
 have f:ho (ax a b c i) 23=ar a.mode 1++l9 a:=by
  simp only[ho,DS,DT,D4,D8,D9,Ea,Eb,Ec,Ed,Ee,DU,DV,DW,DX,DY,DZ,D0,D1,D2,D3,D5,D6,D7,m];unfold l9 e9;simp only[yX];rfl
 have g:k6 a.b=lf a.b++kZ a.b:=by
  unfold k6 lf kZ e9;simp only[yX]
 unfold tE qL mg;rw[e];rw[show(aD a b c i).f=ax a b c i from rfl,show(aD a b c i).b=a.b from rfl,f,g];simp only[yX];rfl
section
attribute [local go_sem ↓] Go.wp_at_zero Go.wp_at_succ
structure aN where
 Wk:Nat
 WQ:Nat
 Wn:Nat
 WY:Nat
 WZ:Nat
 W0:Nat
 W1:Nat
 X:N
 W2:ai
def aN.WV (p:aN):List Nat:=[p.Wk,p.WQ,p.Wn,p.WY,p.WZ,p.W0,p.W1]
structure bE (a:D)(p:aN):Prop where
 x:E a p.Wk p.WQ p.X
 r:V a p.Wn p.WY p.WZ p.W0 p.W1 p.W2
 both:bv p.W2 p.X
 YC:p.WV.Nodup
def bE.W3 {d b:D}{p:aN}(a:bE d p)(c:Kept [] d b):bE b p:=⟨a.x.kept c,a.r.kept c,a.both,a.YC⟩
theorem bE.more {d w':D}{p:aN}{G:List Nat}(b:bE d p)(c:Kept G d w')(a:∀e∈p.WV,e∉G):bE w' p:=
 ⟨E.more b.x c (a _ (by simp[aN.WV])) (a _ (by simp[aN.WV])),b.r.more c (a _ (by simp[aN.WV])) (a _ (by simp[aN.WV])) (a _ (by simp[aN.WV])) (a _ (by simp[aN.WV])) (a _ (by simp[aN.WV])),b.both,b.YC⟩
theorem bE.lt {e:D}{p:aN}(b:bE e p):∀d∈p.WV,d<e.heap.size:=by
 intro d c;simp only[aN.WV,dB,eR,eS]at c;rcases c with a|a|a|a|a|a|a<;>subst a
 . exact b.x.lt
 . exact b.x.Ww
 . exact b.r.lt
 . exact b.r.Wt.lt
 . exact b.r.WW.lt
 . exact b.r.Xc
 . exact b.r.Wt.Ww
def bE.apart {n:D}{p:aN}(m:bE n p):(¬p.Wn=p.Wk/\¬p.WY=p.Wk/\¬p.WZ=p.Wk/\¬p.W0=p.Wk/\¬p.W1=p.Wk)/\(¬p.Wn=p.WQ/\¬p.WY=p.WQ/\¬p.WZ=p.WQ/\¬p.W0=p.WQ/\¬p.W1=p.WQ):=by
 have b:=m.YC;simp only[aN.WV,gR,dB,eR,eS,gh,iS,gf]at b;obtain⟨⟨o,c,d,e,f,g⟩,⟨h,i,j,k,l⟩,_⟩:=b;exact⟨⟨fun a=>c a.symm,fun a=>d a.symm,fun a=>e a.symm,fun a=>f a.symm,fun a=>g a.symm⟩,⟨fun a=>h a.symm,fun a=>i a.symm,fun a=>j a.symm,fun a=>k a.symm,fun a=>l a.symm⟩⟩
def bE.aD {c a:D}{p:aN}(b:bE c p)(n:Kept [p.Wk,p.WQ] c a):V a p.Wn p.WY p.WZ p.W0 p.W1 p.W2:=by
 obtain⟨⟨d,e,f,g,h⟩,i,j,k,l,m⟩:=b.apart;exact b.r.more n (by simp;exact⟨d,i⟩) (by simp;exact⟨e,j⟩) (by simp;exact⟨f,k⟩) (by simp;exact⟨g,l⟩) (by simp;exact⟨h,m⟩)
structure i6 (c:D)(p a:aN):Prop where
 Wk:a.Wk=p.Wk
 Wn:a.Wn=p.Wn
 WV:∀b∈a.WV,b∈p.WV\/c.heap.size<=b
def bE.two {e g h f:D}{p:aN}{d:N}{c:ai}(i:bE e p)(x:Kept [p.Wk,p.WQ] e g)(z:E g p.Wk p.WQ d)(b:Kept [] g h)(j:Kept [p.Wn,p.WY,p.WZ,p.W0,p.W1] h f)(y:V f p.Wn p.WY p.WZ p.W0 p.W1 c)(w:bv c d):bE f {p with X:=d,W2:=c}/\i6 e p {p with X:=d,W2:=c}/\Kept p.WV e f:=by
 obtain⟨⟨l,m,n,o,q⟩,r,s,t,u,v⟩:=i.apart;have A:p.Wk∉ [p.Wn,p.WY,p.WZ,p.W0,p.W1]:=by simp;exact⟨fun a=>l a.symm,fun a=>m a.symm,fun a=>n a.symm,fun a=>o a.symm,fun a=>q a.symm⟩
 have B:p.WQ∉ [p.Wn,p.WY,p.WZ,p.W0,p.W1]:=by simp;exact⟨fun a=>r a.symm,fun a=>s a.symm,fun a=>t a.symm,fun a=>u a.symm,fun a=>v a.symm⟩
 refine⟨⟨E.more (z.kept b) j A B,y,w,i.YC⟩,⟨rfl,rfl,fun k b=>.inl b⟩,?_⟩;refine(x.mono ?_).trans ((b.mono ?_).trans (j.mono ?_))
 . exact Md
 . intro k b;cases b
 . intro k b;simp[aN.WV]at b|-;rcases b with a|a|a|a|a<;>simp[a]
def bE.ZS {f l j i:D}{p:aN}{h:N}{g:ai}{e:Nat}(k:bE f p)(m:Kept [p.Wk,p.WQ] f l)(A:E l p.Wk p.WQ h)(b:Kept [] l j)(n:Kept [p.Wn,p.WY,p.WZ] j i)(y:j.heap.size<=e)(z:V i p.Wn p.WY p.WZ e p.W1 g)(x:bv g h):bE i {p with X:=h,W2:=g,W0:=e}/\i6 f p {p with X:=h,W2:=g,W0:=e}/\Kept p.WV f i:=by
 obtain⟨⟨r,s,t,W,X⟩,u,v,w,Y,Z⟩:=k.apart;have c:f.heap.size<=e:=fD m.size (fD b.size y);have d:=k.lt;have I:p.Wk∉ [p.Wn,p.WY,p.WZ]:=by simp;exact⟨fun a=>r a.symm,fun a=>s a.symm,fun a=>t a.symm⟩
 have J:p.WQ∉ [p.Wn,p.WY,p.WZ]:=by simp;exact⟨fun a=>u a.symm,fun a=>v a.symm,fun a=>w a.symm⟩
 refine⟨⟨E.more (A.kept b) n I J,z,x,?_⟩,⟨rfl,rfl,?_⟩,?_⟩
 . have o:=k.YC;have K:=d p.Wk hE;have L:=d p.WQ hE;have M:=d p.Wn hE;have O:=d p.WY hE;have P:=d p.WZ hE;have Q:=d p.W1 hE;simp only[aN.WV,gR,dB,eR,eS,gh,iS,gf,uN]at o|-;obtain⟨⟨B,C,F,G,aa,H⟩,⟨R,S,T,ab,U⟩,⟨c1,c2,c3,c4⟩,⟨d1,d2,d3⟩,⟨f1,f2⟩,_⟩:=o;exact⟨⟨B,C,F,G,ei (aQ K c),H⟩,⟨R,S,T,ei (aQ L c),U⟩,⟨c1,c2,ei (aQ M c),c4⟩,⟨d1,ei (aQ O c),d3⟩,⟨ei (aQ P c),f2⟩,fb (aQ Q c)⟩
 . intro q b;simp only[aN.WV,dB,eR,eS]at b|-;rcases b with a|a|a|a|a|a|a
   . simp[a]
   . simp[a]
   . simp[a]
   . simp[a]
   . simp[a]
   . right;omega
   . simp[a]
 refine(m.mono ?_).trans ((b.mono ?_).trans (n.mono ?_))
 . exact Md
 . intro q b;cases b
 . intro q b;simp[aN.WV]at b|-;rcases b with a|a|a<;>simp[a]
def nW (a:N)(b:Int)(c:K):N:=if dL a.b b c=0 then kV a b.toNat c else a
def s6 (a:ai)(b:Int)(c:K):ai:=if dL a.b b c=0 then qp a b.toNat c else a
def CS {d:P}{b:Int}{c:K}(a:dL d b c=0):c.size<=65536/\0<=b/\b.toNat+c.size<=d.o.length:=by
 unfold dL at a;split at a
 . cases a
 . split at a
   . cases a
   . omega
def ET (e h:Nat)(c:N)(q:aj c)(a:Int)(b:K)(i:D)(k:E i e h c):
 an 23 #[I e,j a,.string b] (j (dL c.b a b)) [e,h] e h (nW c a b) i:=by
 unfold nW;by_cases d:dL c.b a b=0
 . obtain⟨g,p,s⟩:=CS d;rw[B d,d];have:=afj e h c q.ok a.toNat b s i (l k);rw[show((a.toNat:Nat):Int)=a by omega]at this;exact this
 . rw[z d];by_cases g:65536<b.size
   . have o:dL c.b a b=1:=by unfold dL;rw[B g]
     rw[o];exact(afl e a b g i).mono (fun t r ⟨n,f⟩=>⟨n,by rw[f];exact k,by rw[f];exact Kept.refl _ _⟩)
   . have p:a<0\/(c.b.o.length:Int)-b.size<a:=by
      unfold dL at d;rw[z g]at d;split at d
      . assumption
      . exact absurd rfl d
     have o:dL c.b a b=2:=by unfold dL;rw[z g,B p]
     rw[o];exact(afk e h c q.ok.b.o a b m p i (l k)).mono (fun t r ⟨n,f⟩=>⟨n,by rw[f];exact k,by rw[f];exact Kept.refl _ _⟩)
def aaU (d e f k h:Nat)(b:ai)(p:ey b)(a:Int)(c:K)(u:c.size<=1125899906842624)(i:D)(n:V i d e f k h b):
 Calls prog 170 #[I d,j a,.string c] i fun q m=>q=.returned (j (dL b.b a c))/\V m d e f k h (s6 b a c)/\Kept [d,e,f,k,h] i m:=by
 unfold s6;by_cases g:dL b.b a c=0
 . obtain⟨s,w,t⟩:=CS g;rw[B g,g];have:=adN d e f k h b p a.toNat c s t i (l n);rw[show((a.toNat:Nat):Int)=a by omega]at this;exact Me
 . rw[z g];exact(adO d e f k h b p.b a c u g i (l n)).mono (fun q m ⟨r,o⟩=>⟨r,by rw[o];exact n,by rw[o];exact Kept.refl _ _⟩)
def BS {c:ai}{d:N}(e:bv c d)(b:Int)(a:K):bv (s6 c b a) (nW d b a)/\dL c.b b a=dL d.b b a:=by
 unfold s6 nW;rw[l3 e];split
 . exact⟨PZ e _ a,rfl⟩
 . exact⟨e,rfl⟩
def j5 (b:N)(a:Int):(Int×Int)×N:=if 0<=a/\a<=4096 then((((gD a.toNat 0 b).1:Int),0),(gD a.toNat 0 b).2)else((0,2),b)
def ms (b:ai)(a:Int):(Int×Int)×ai:=if 0<=a/\a<=4096 then((((fv a.toNat 0 b).1:Int),0),(fv a.toNat 0 b).2)else((0,2),b)
def aa1 (c d:Nat)(b:N)(k:aj b)(a:Int)(e:D)(h:E e c d b):
 an 62 #[I c,j a] (.tuple #[j (j5 b a).1.1,j (j5 b a).1.2]) [c,d] c d ((j5 b a).2) e:=by
 unfold j5;by_cases g:0<=a/\a<=4096
 . rw[B g];have:=aft c d b k a.toNat m e (l h);exact Mf
 . rw[z g];exact(afu c a m e).mono (fun o n ⟨i,f⟩=>⟨i,by rw[f];exact h,by rw[f];exact Kept.refl _ _⟩)
def aaX (c e f h g:Nat)(b:ai)(k:N)(s:bv b k)(a:Int)(d:D)(p:V d c e f h g b):
 Calls prog 172 #[I c,j a] d fun q i=>q=.returned (.tuple #[j (ms b a).1.1,j (ms b a).1.2])/\V i c e f h g (ms b a).2/\Kept [c,e,f,h,g] d i:=by
 unfold ms;by_cases o:0<=a/\a<=4096
 . rw[B o];have:=ab2 c e f h g b k s a.toNat m d (l p);exact Mf
 . rw[z o];exact(ab3 c a m d).mono (fun q i ⟨r,n⟩=>⟨r,by rw[n];exact p,by rw[n];exact Kept.refl _ _⟩)
def BT {b:ai}{c:N}(d:bv b c)(a:Int):bv (ms b a).2 (j5 c a).2/\(ms b a).1=(j5 c a).1:=by
 unfold ms j5;split
 . have:=bv.run a.toNat 0 d;exact⟨this.1,by dsimp only;rw[this.2]⟩
 . exact⟨d,rfl⟩
def hY (b:P)(a:Int):Int×P:=if 0<=a/\a<=4294967295 then(0,jp b a.toNat)else(2,b)
def aa2 (c d:Nat)(b:N)(k:aj b)(a:Int)(e:D)(h:E e c d b):
 an 68 #[I c,j a] (j (hY b.b a).1) [c,d] c d ({b with b:=(hY b.b a).2}) e:=by
 unfold hY;by_cases g:0<=a/\a<=4294967295
 . rw[B g];have:=afx c d b k.ok a.toNat m e (l h);exact Mg
 . rw[z g];exact(afy c a m e).mono (fun o n ⟨i,f⟩=>⟨i,by rw[f];exact h,by rw[f];exact Kept.refl _ _⟩)
def ad1 (f c i m k:Nat)(g:ai)(a:Int)(d:a<0\/4294967295<a)(b:D)(e:Hid (V b f c i m k g)):
 O 173 #[I f,j a] (j 2) b:=by
 have n:=e.out.V8;have h:=l (aca c a d b);clear d e;go_enter func173,ntmps173;go_wp2_with fail;refine h.out.mono ?_;rintro o p ⟨rfl,rfl⟩;exact cm
def aaY (c d e h f:Nat)(b:ai)(r:ey b)(a:Int)(g:D)(k:V g c d e h f b):
 Calls prog 173 #[I c,j a] g fun p i=>p=.returned (j (hY b.b a).1)/\V i c d e h f {b with b:=(hY b.b a).2}/\Kept [c,d,e,h,f] g i:=by
 unfold hY;by_cases o:0<=a/\a<=4294967295
 . rw[B o];have:=ad0 c d e h f b r.b a.toNat m g (l k);exact Mg
 . rw[z o];exact(ad1 c d e h f b a m g (l k)).mono (fun p i ⟨q,n⟩=>⟨q,by rw[n];exact k,by rw[n];exact Kept.refl _ _⟩)
def BU {a:ai}{b:N}(d:bv a b)(c:Int):bv {a with b:=(hY a.b c).2} {b with b:=(hY b.b c).2}/\(hY a.b c).1=(hY b.b c).1:=by
 unfold hY;split
 . exact⟨P3 d _,rfl⟩
 . exact⟨d,rfl⟩
def jT (a:N)(b:K):(Int×Int)×N:=if b.size<=64 then((((eC b.data.toList a.b).rx.size:Int)-a.b.rx.size,0),a.V7 (eC b.data.toList a.b))else((0,1),a)
def mc (b:ai)(a:K):(Int×Int)×ai:=if a.size<=64 then((((eo a a.size 0 0 b.b).1:Int),0),{b with b:=(eo a a.size 0 0 b.b).2})else((0,1),b)
def aaZ (c e:Nat)(b:N)(o:aj b)(a:K)(f:D)(i:E f c e b):
 an 69 #[I c,.string a] (.tuple #[j (jT b a).1.1,j (jT b a).1.2]) [c,e] c e ((jT b a).2) f:=by
 unfold jT;by_cases h:a.size<=64
 . rw[B h];exact(afg c e b o.ok.b.rx a h f (l i)).mono (fun p k ⟨g,d,n⟩=>⟨g,d,n.mono F⟩)
 . rw[z h];exact(afh c a m f).mono (fun p k ⟨g,d⟩=>⟨g,by rw[d];exact i,by rw[d];exact Kept.refl _ _⟩)
def adM (f c i m k:Nat)(g:ai)(a:K)(d:64<a.size)(b:D)(e:Hid (V b f c i m k g)):
 O 174 #[I f,.string a] (.tuple #[j 0,j 1]) b:=by
 have n:=e.out.V8;have h:=l (abK c a d b);clear d e;go_enter func174,ntmps174;go_wp2_with fail;refine h.out.mono ?_;rintro o p ⟨rfl,rfl⟩;exact il
def aaT (c d e h f:Nat)(a:ai)(s:ey a)(b:K)(g:D)(p:V g c d e h f a):
 Calls prog 174 #[I c,.string b] g fun q i=>q=.returned (.tuple #[j (mc a b).1.1,j (mc a b).1.2])/\V i c d e h f (mc a b).2/\Kept [c,d,e,h,f] g i:=by
 unfold mc;by_cases o:b.size<=64
 . rw[B o];exact(adL c d e h f a s.b.rx b o g (l p)).mono (fun q i ⟨n,k,r⟩=>⟨n,k,r.mono F⟩)
 . rw[z o];exact(adM c d e h f a b m g (l p)).mono (fun q i ⟨n,k⟩=>⟨n,by rw[k];exact p,by rw[k];exact Kept.refl _ _⟩)
def BR {d:ai}{b:N}(c:bv d b)(a:K):bv (mc d a).2 (jT b a).2/\(mc d a).1=(jT b a).1:=by
 unfold mc jT;split
 . refine⟨PY c a,?_⟩;have:=(Ch a b.b c.1.ok.b.rx).1;dsimp only;rw[l3 c,this]
 . exact⟨c,rfl⟩
def aa0 (d g:Nat)(c:N)(k:aj c)(b a:Int)(o:a<=9223372036854775807)(e:D)(n:E e d g c):
 ∃(h:K) (f:Int),(O 111 #[I d,j b,j a] (.tuple #[.string h,j f]) e)/\((a<0\/b<0\/(c.b.o.length:Int)-a<b)/\h=⟨#[]⟩/\f=2\/(0<=a/\0<=b/\b.toNat+a.toNat<=c.b.o.length)/\h=ji c.b.o b.toNat a.toNat/\f=0):=by
 by_cases i:a<0\/b<0\/(c.b.o.length:Int)-a<b
 . exact⟨_,_,afq d g c k.ok b a o i e (l n),.inl ⟨i,rfl,rfl⟩⟩
 . have:=afp d g c k.ok b.toNat a.toNat m e (l n);rw[show((a.toNat:Nat):Int)=a by omega,show((b.toNat:Nat):Int)=b by omega]at this;exact⟨_,_,this,.inr ⟨by omega,rfl,rfl⟩⟩
def aaV (f h k q o:Nat)(d:ai)(e:N)(n:bv d e)(b a:Int)(s:-9223372036854775808<=a)(u:a<=9223372036854775807)(p:K)(i:Int)(c:((a<0\/b<0\/(e.b.o.length:Int)-a<b)/\p=⟨#[]⟩/\i=2\/(0<=a/\0<=b/\b.toNat+a.toNat<=e.b.o.length)/\p=ji e.b.o b.toNat a.toNat/\i=0))(g:D)(r:V g f h k q o d):
 O 179 #[I f,j b,j a] (.tuple #[.string p,j i]) g:=by
 have t:=l3 n;rw[<-t]at c;rcases c with⟨c,rfl,rfl⟩|⟨c,rfl,rfl⟩
 . exact adU f h k q o d n.ok.b b a s u m g (l r)
 . have:=adT f h k q o d n.ok.b b.toNat a.toNat c.2.2 g (l r);rw[show((a.toNat:Nat):Int)=a by omega,show((b.toNat:Nat):Int)=b by omega]at this;exact this
def jm (a:List Nat)(i:Int):Int×Int:=if 0<=i/\i<32 then((a.getD i.toNat 0:Nat),0)else(0,2)
def EU (b d:Nat)(a:N)(i:Int)(c:D)(f:E c b d a):
 O 25 #[I b,j i] (.tuple #[j (jm a.x i).1,j (jm a.x i).2]) c:=by
 unfold jm;by_cases e:0<=i/\i<32
 . rw[B e];have:=afr b d a i.toNat m c (l f);rw[show((i.toNat:Nat):Int)=i by omega]at this;exact this
 . rw[z e];exact afs b d a i m c (l f)
def aaW (b d e n k:Nat)(a:ai)(i:Int)(c:D)(h:V c b d e n k a):
 O 180 #[I b,j i] (.tuple #[j (jm a.x i).1,j (jm a.x i).2]) c:=by
 unfold jm;have o:=h.XD;by_cases f:0<=i/\i<32
 . rw[B f];have g:i.toNat<a.x.length:=J;have:=adV b d e n k a i.toNat g c (l h);rw[show((i.toNat:Nat):Int)=i by omega]at this;rw[show a.x.getD i.toNat 0=a.x[i.toNat]from by simp[List.getD,g]];exact this
 . rw[z f];exact adW b i m c
def aaS (b i k r q:Nat)(d:ai)(e:N)(p:bv d e)(a:Int)(n:-9223372036854775808<=a)(o:a<=9223372036854775807)(c:D)(t:V c b i k r q d):
 aE 181 #[I b,j a] (.tuple #[j ((j9 e a).1:Nat),j (j9 e a).2]) c:=by
 rw[PW p a];have h:=p.ok;cases m:eW a
 . rw[z (by decide)];exact(adJ b a n o m c).mono (fun u s ⟨f,g⟩=>⟨f,by rw[g];exact Kept.refl _ _⟩)
 . rw[B rfl];exact(adI b i k r q d h.f h.soft h.b.enable a n o m c (l t)).mono (fun u s ⟨f,g⟩=>⟨f,Below.k g⟩)
def BV {a:ai}{b:N}(c:bv a b):a.V3=b.V3/\a.f.mode=b.mode/\a.b=b.b/\a.x=b.x:=by
 obtain⟨f,g,d,e,i,h,rfl⟩:=c;exact⟨rfl,rfl,rfl,rfl⟩
structure bS where
 k:Int
 a:Int
 b:Int
 c:Int
 s:K
def bS.v (a:bS):Value:=.agg #[j a.k,j a.a,j a.b,j a.c,.string a.s]
def bS.YX (a:bS):Obj:=.cells #[j a.k,j a.a,j a.b,j a.c,.string a.s] 56
structure dq (a:bS):Prop where
 a0:-9223372036854775808<=a.a
 YH:a.a<=9223372036854775807
 YY:-9223372036854775808<=a.b
 YI:a.b<=9223372036854775807
 V8:-9223372036854775808<=a.c
 c1:a.c<=9223372036854775807
 s1:a.s.size<=1125899906842624
def i5 (c:D)(p:aN)(d:Ending)(b:D):Prop:=d=.returned (.bool true)/\∃a,bE b a/\i6 c p a/\Kept p.WV c b
def i6.refl (b:D)(p:aN):i6 b p p:=⟨rfl,rfl,fun c a=>.inl a⟩
def i6.of {c d:D}{p b:aN}(a:i6 d p b)(f:c.heap.size<=d.heap.size):i6 c p b:=⟨a.Wk,a.Wn,fun g e=>(a.WV g e).imp id (fun h=>fD f h)⟩
def xa {c:List Nat}{b a:D}(d:Kept [] b a):Kept c b a:=d.mono (by simp)
def P5 {c:D}{p:aN}(d:bE c p)(a:Nat)(e:c.heap.size<=a):¬a∈ [p.Wk,p.WQ]:=by
 have b:=d.lt;have f:=b p.Wk hE;have g:=b p.WQ hE;simp;omega
def R0 (p:aN)(k g o:Int)(h:K)(m:dq ⟨2,k,g,o,h⟩)(i:D)(c:Hid (bE i p)):
 Calls prog 124 #[I p.Wk,I p.Wn,.agg #[j 2,j k,j g,j o,.string h]] i fun s y=>i5 i p s y:=by
 have e:Kept [] i (i.alloc (.cells #[j 2,j k,j g,j o,.string h] 56)):=dC;have f:=c.out.W3 e;have a:=f.both;have r:¬i.heap.size∈ [p.Wk,p.WQ]:=pz;have n:=bf.new i [j 2,j k,j g,j o,.string h] 56;have d:=l (fun W (t:E W p.Wk p.WQ p.X)=>ET p.Wk p.WQ p.X a.1 g h W t);have b:=l (fun W (t:V W p.Wn p.WY p.WZ p.W0 p.W1 p.W2)=>aaU p.Wn p.WY p.WZ p.W0 p.W1 p.W2 a.ok g h m.s1 W t);have q:=l (BS a g h).1;have s:=(BS a g h).2;simp only[s]at b;clear s;generalize dL p.X.b g h=C at d b;exact sx
def R1 (p:aN)(n o q:Int)(w:K)(N:dq ⟨3,n,o,q,w⟩)(e:D)(B:Hid (bE e p)):
 Calls prog 124 #[I p.Wk,I p.Wn,.agg #[j 3,j n,j o,j q,.string w]] e fun h G=>i5 e p h G:=by
 have u:Kept [] e (e.alloc (.cells #[j 3,j n,j o,j q,.string w] 56)):=dC;have v:=B.out.W3 u;have d:=v.both;have c:=l (fun W (r:E W p.Wk p.WQ p.X)=>yn p.Wk p.WQ p.X d.1 W (l r));have b:=l (fun W (r:V W p.Wn p.WY p.WZ p.W0 p.W1 p.W2)=>EW p.Wn p.WY p.WZ p.W0 p.W1 p.W2 p.X d W (l r));have H:=l d.step.1;have h:=d.step.2;simp only[h]at b;clear h;unfold eE at c;generalize (cJ p.X).1.1=k at c b;generalize (cJ p.X).1.2=f at c b;have g:=l v;have x:=l u;clear v u N B d;go_enter func124,rJ;go_wp2_with fail;refine(c.out _ g.out.x).mono ?_;rintro P F ⟨rfl,t,i⟩;have t:=l t;have C:=g.out.aD i;have J:=l i;have y:=l (C.alloc (.cells #[j k,j f] 45));have d1:=bf.new F [j k,j f] 45;have a:=fun O L=>aQ (g.out.lt O L) i.size;have M:¬F.heap.size∈ [p.Wn,p.WY,p.WZ,p.W0,p.W1]:=by
  have U:=a p.Wn hE;have X:=a p.WY hE;have Y:=a p.WZ hE;have Z:=a p.W0 hE;have aa:=a p.W1 hE;simp;omega
 clear i C c a;go_wp2_with fail;refine(b.out _ y.out).mono ?_;rintro P Q ⟨rfl,A,s⟩;have d2:=d1.more s M;have T:=d2.lt;have R:=d2.cell 0 _ rfl;have S:=d2.cell 1 _ rfl;have m:=l (g.out.two J.out t.out ((Kept.refl _ _).alloc _) s A H.out);have z:=l (cW (m.out.1.W3 ((Kept.refl [] Q).alloc (.cells #[j k,j f] 45))) (m.out.2.2.alloc (.cells #[j k,j f] 45)));clear A s b y d1 d2;go_wp2_with fail;go_ret;exact⟨rfl,_,z.out.1,m.out.2.1.of x.out.size,(xa x.out).trans z.out.2⟩
def R2 (p:aN)(i g k:Int)(s:K)(m:dq ⟨4,i,g,k,s⟩)(h:D)(c:Hid (bE h p)):
 Calls prog 124 #[I p.Wk,I p.Wn,.agg #[j 4,j i,j g,j k,.string s]] h fun o y=>i5 h p o y:=by
 have e:Kept [] h (h.alloc (.cells #[j 4,j i,j g,j k,.string s] 56)):=dC;have f:=c.out.W3 e;have a:=f.both;have r:¬h.heap.size∈ [p.Wk,p.WQ]:=pz;have n:=bf.new h [j 4,j i,j g,j k,.string s] 56;have d:=l (fun W (t:E W p.Wk p.WQ p.X)=>aa1 p.Wk p.WQ p.X a.1 g W t);have b:=l (fun W (t:V W p.Wn p.WY p.WZ p.W0 p.W1 p.W2)=>aaX p.Wn p.WY p.WZ p.W0 p.W1 p.W2 p.X a g W t);have q:=l (BT a g).1;have o:=(BT a g).2;simp only[o]at b;clear o;generalize (j5 p.X g).1.1=C at d b;generalize (j5 p.X g).1.2=J at d b;exact sx
def R3 (p:aN)(i g k:Int)(s:K)(m:dq ⟨5,i,g,k,s⟩)(h:D)(c:Hid (bE h p)):
 Calls prog 124 #[I p.Wk,I p.Wn,.agg #[j 5,j i,j g,j k,.string s]] h fun o y=>i5 h p o y:=by
 have e:Kept [] h (h.alloc (.cells #[j 5,j i,j g,j k,.string s] 56)):=dC;have f:=c.out.W3 e;have a:=f.both;have r:¬h.heap.size∈ [p.Wk,p.WQ]:=pz;have n:=bf.new h [j 5,j i,j g,j k,.string s] 56;have d:=l (fun W (t:E W p.Wk p.WQ p.X)=>aa2 p.Wk p.WQ p.X a.1 g W t);have b:=l (fun W (t:V W p.Wn p.WY p.WZ p.W0 p.W1 p.W2)=>aaY p.Wn p.WY p.WZ p.W0 p.W1 p.W2 a.ok g W t);have q:=l (BU a g).1;have o:=(BU a g).2;simp only[o]at b;clear o;generalize (hY p.X.b g).1=C at d b;exact sx
def R4 (p:aN)(i k o:Int)(g:K)(m:dq ⟨6,i,k,o,g⟩)(h:D)(c:Hid (bE h p)):
 Calls prog 124 #[I p.Wk,I p.Wn,.agg #[j 6,j i,j k,j o,.string g]] h fun s y=>i5 h p s y:=by
 have e:Kept [] h (h.alloc (.cells #[j 6,j i,j k,j o,.string g] 56)):=dC;have f:=c.out.W3 e;have a:=f.both;have r:¬h.heap.size∈ [p.Wk,p.WQ]:=pz;have n:=bf.new h [j 6,j i,j k,j o,.string g] 56;have d:=l (fun W (t:E W p.Wk p.WQ p.X)=>aaZ p.Wk p.WQ p.X a.1 g W t);have b:=l (fun W (t:V W p.Wn p.WY p.WZ p.W0 p.W1 p.W2)=>aaT p.Wn p.WY p.WZ p.W0 p.W1 p.W2 a.ok g W t);have q:=l (BR a g).1;have s:=(BR a g).2;simp only[s]at b;clear s;generalize (jT p.X g).1.1=C at d b;generalize (jT p.X g).1.2=J at d b;exact sx
def R5 (p:aN)(g h i:Int)(t:K)(m:dq ⟨7,g,h,i,t⟩)(k:D)(c:Hid (bE k p)):
 Calls prog 124 #[I p.Wk,I p.Wn,.agg #[j 7,j g,j h,j i,.string t]] k fun s o=>i5 k p s o:=by
 have e:Kept [] k (k.alloc (.cells #[j 7,j g,j h,j i,.string t] 56)):=dC;have f:=c.out.W3 e;have a:=f.both;have r:¬k.heap.size∈ [p.Wk,p.WQ]:=pz;have n:=bf.new k [j 7,j g,j h,j i,.string t] 56;have d:=l (fun W (y:E W p.Wk p.WQ p.X)=>(aff p.Wk p.WQ p.X W (l y)).mono (fun J o ⟨g,h,i⟩=>(⟨g,h,i.mono F⟩:_/\_/\Kept [p.Wk,p.WQ] W o)));have b:=l (fun W (y:V W p.Wn p.WY p.WZ p.W0 p.W1 p.W2)=>(adK p.Wn p.WY p.WZ p.W0 p.W1 p.W2 W (l y)).mono (fun J o ⟨g,h,i⟩=>(⟨g,h,i.mono F⟩:_/\_/\Kept [p.Wn,p.WY,p.WZ,p.W0,p.W1] W o)));have q:=l (PX a);have s:=l3 a;have C:p.W2.b.Wc=p.X.b.Wc:=by rw[s]
 simp only[C]at b;clear s C;generalize p.X.b.Wc=L at d b;exact sx
def R6 (p:aN)(d e f:Int)(h:K)(O:dq ⟨8,d,e,f,h⟩)(a:D)(c:Hid (bE a p)):
 Calls prog 124 #[I p.Wk,I p.Wn,.agg #[j 8,j d,j e,j f,.string h]] a fun L i=>i5 a p L i:=by
 have o:Kept [] a (a.alloc (.cells #[j 8,j d,j e,j f,.string h] 56)):=dC;have r:=c.out.W3 o;have t:=r.both;have N:¬a.heap.size∈ [p.Wk,p.WQ]:=pz;have z:=bf.new a [j 8,j d,j e,j f,.string h] 56;have s:=l (fun W (m:E W p.Wk p.WQ p.X)=>(Fy p.Wk p.WQ p.X W (l m)).mono (fun y i ⟨d,e,f⟩=>(⟨d,e,f.mono F⟩:_/\_/\Kept [p.Wk,p.WQ] W i)));have b:=l (fun W (m:V W p.Wn p.WY p.WZ p.W0 p.W1 p.W2)=>adX p.Wn p.WY p.WZ p.W0 p.W1 p.W2 W (l m));have C:=l (P1 t);have k:=l r;have B:=l o;clear r o O c t;go_enter func124,rJ;go_wp2_with fail;refine(s.out _ k.out.x).mono ?_;rintro y P ⟨rfl,n,g⟩;have n:=l n;have A:=k.out.aD g;have q:=z.more g N;have G:=q.cell 2 _ rfl;have H:=q.cell 4 _ rfl;have J:=l g;have u:=l A;clear g A z q s;go_wp2_with fail;refine(b.out _ u.out).mono ?_;rintro y Q ⟨rfl,⟨R,M,w⟩,v⟩;have x:=l (k.out.ZS J.out n.out (Kept.refl _ _) v M w C.out);exact Mi
def RZ (p:aN)(b c d:Int)(f:K)(r:dq ⟨10,b,c,d,f⟩)(a:D)(h:Hid (bE a p)):
 Calls prog 124 #[I p.Wk,I p.Wn,.agg #[j 10,j b,j c,j d,.string f]] a fun q m=>i5 a p q m:=by
 have e:Kept [] a (a.alloc (.cells #[j 10,j b,j c,j d,.string f] 56)):=dC;have i:=h.out.W3 e;have k:=l i;have g:=l e;have n:=fun W=>l (afi p.Wk W);have o:=fun W=>l (abM p.Wn W);clear i e r h;go_enter func124,rJ;go_wp2_with fail;refine(n _).out.mono ?_;rintro s t ⟨rfl,rfl⟩;go_wp2_with fail;refine(o _).out.mono ?_;rintro s t ⟨rfl,rfl⟩;exact Mj
def R7 (p:aN)(b:bS)(d:¬(2<=b.k/\b.k<=8)/\¬b.k=10)(c:D)(e:Hid (bE c p)):
 Calls prog 124 #[I p.Wk,I p.Wn,b.v] c fun n f=>i5 c p n f:=by
 obtain⟨a,h,i,m,o⟩:=b;unfold bS.v;simp only at d|-;have g:=l ((Kept.refl [] c).alloc (.cells #[j a,j h,j i,j m,.string o] 56));have k:=l (e.out.W3 g.out);have r:(a==2)=false:=M;have s:(a==3)=false:=M;have t:(a==4)=false:=M;have u:(a==5)=false:=M;have v:(a==6)=false:=M;have w:(a==7)=false:=M;have x:(a==8)=false:=M;have q:(a==10)=false:=M;clear e d;go_enter func124,rJ;exact Mj
def R8 (p:aN)(i:bS)(f:dq i)(a:D)(b:Hid (bE a p)):
 Calls prog 124 #[I p.Wk,I p.Wn,i.v] a fun l k=>i5 a p l k:=by
 by_cases j:¬(2<=i.k/\i.k<=8)/\¬i.k=10
 . exact R7 p i j a b
 . obtain⟨g,c,d,e,h⟩:=i;simp only at j;have m:g=2\/g=3\/g=4\/g=5\/g=6\/g=7\/g=8\/g=10:=J;rcases m with rfl|rfl|rfl|rfl|rfl|rfl|rfl|rfl
   . exact R0 p c d e h f a b
   . exact R1 p c d e h f a b
   . exact R2 p c d e h f a b
   . exact R3 p c d e h f a b
   . exact R4 p c d e h f a b
   . exact R5 p c d e h f a b
   . exact R6 p c d e h f a b
   . exact RZ p c d e h f a b
def iC (a:List Nat):List Value:=a.map fun b=>I b
def iA {d:List Nat}{m b:D}{c e l k:Nat}{a:Value}{n:List Value}(f:m.ownsRow c e l a k n)(w:Kept d m b)(x:∀j,a.ownBlock=some j->j∉d):b.ownsRow c e l a k n:=by
 refine⟨f.1,?_⟩;rcases f.2 with o|⟨g,p,q,i,v,h,r,s,t,u⟩
 . exact .inl o
 . exact .inr ⟨g,p,q,i,v,by rw[w.block g (rm.1 h).1 (x g (by rw[i];rfl))];exact h,r,s,t,u⟩
def sY {c b:D}{r:Option Nat}(a:c.grownBy b r):Kept r.toList c b:=⟨a.os,a.tape,a.output,a.size,fun g e f=>a.block g e (fun d=>f (by rw[<-d];simp))⟩
structure cC (b:D)(c:Nat)(i:U)(d:List aN)(l m:List Nat)(f g:Value):Prop where
 V8:b.cell? ⟨c,0,none⟩=some f
 c1:b.cell? ⟨c,1,none⟩=some g
 c2:b.cell? ⟨c,2,none⟩=some (j i.op)
 c3:b.cell? ⟨c,3,none⟩=some (j i.rd)
 c4:b.cell? ⟨c,4,none⟩=some (j i.V1)
 c5:b.cell? ⟨c,5,none⟩=some (j i.V6)
 W4:b.cell? ⟨c,6,none⟩=some (j i.V2)
 W5:b.cell? ⟨c,7,none⟩=some (j i.V4)
 Wb:∀n,b.frozen? ⟨c,n,none⟩=false
 lt:c<b.heap.size
 Xo:b.ownsRow (c+1) 39 1 f l.length (iC l)
 Xp:b.ownsRow (c+1) 145 1 g m.length (iC m)
 Xs:∀a (k:a<d.length),bE b d[a]
 ge:∀a (k:a<d.length),∀e∈d[a].WV,c<e
 XX:∀a (k:a<d.length),∀e∈d[a].WV,f.ownBlock≠some e
 XY:∀a (k:a<d.length),∀e∈d[a].WV,g.ownBlock≠some e
 X9:∀e,f.ownBlock=some e->g.ownBlock≠some e
 XZ:∀a h (o:a<d.length) (p:h<d.length),a≠h->∀e∈d[a].WV,e∉d[h].WV
theorem cC.more {j w':D}{d:Nat}{i:U}{k:List aN}{l m:List Nat}{g h:Value}{F:List Nat}(a:cC j d i k l m g h)(b:Kept F j w')(hF:∀c∈F,j.heap.size<=c):cC w' d i k l m g h:=by
 have e:d∉F:=fun f=>by have:=hF _ f;have:=a.lt;omega
 have t:∀c,g.ownBlock=some c->c∉F:=fun c b f=>by have:=hF _ f;have:=(a.Xo.lt c b).2;omega
 have u:∀c,h.ownBlock=some c->c∉F:=fun c b f=>by have:=hF _ f;have:=(a.Xp.lt c b).2;omega
 exact⟨(b.cell (p:=⟨d,0,none⟩) a.lt e).trans a.V8,(b.cell (p:=⟨d,1,none⟩) a.lt e).trans a.c1,(b.cell (p:=⟨d,2,none⟩) a.lt e).trans a.c2,(b.cell (p:=⟨d,3,none⟩) a.lt e).trans a.c3,(b.cell (p:=⟨d,4,none⟩) a.lt e).trans a.c4,(b.cell (p:=⟨d,5,none⟩) a.lt e).trans a.c5,(b.cell (p:=⟨d,6,none⟩) a.lt e).trans a.W4,(b.cell (p:=⟨d,7,none⟩) a.lt e).trans a.W5,fun r=>(b.frozen (p:=⟨d,r,none⟩) a.lt e).trans (a.Wb r),aQ a.lt b.size,iA a.Xo b t,iA a.Xp b u,fun o q=>(a.Xs o q).more b (fun c s f=>by have:=hF _ f;have:=(a.Xs o q).lt c s;omega),a.ge,a.XX,a.XY,a.X9,a.XZ⟩
def cC.W3 {g a:D}{h:Nat}{i:U}{b:List aN}{c d:List Nat}{e f:Value}(j:cC g h i b c d e f)(k:Kept [] g a):cC a h i b c d e f:=j.more k (by simp)
def cC.act {A w:D}{h:Nat}{i:U}{j:List aN}{B C:List Nat}{y z:Value}(a:cC A h i j B C y z)(f:Nat)(l:f<j.length)(v:aN)(H:bE w v)(q:i6 A j[f] v)(e:Kept j[f].WV A w):cC w h i (j.set f v) B C y z:=by
 have m:h∉j[f].WV:=fun c=>by have:=a.ge f l _ c;omega
 have I:∀b,y.ownBlock=some b->b∉j[f].WV:=fun b e c=>a.XX f l b c e;have J:∀b,z.ownBlock=some b->b∉j[f].WV:=fun b e c=>a.XY f l b c e;refine⟨(e.cell (p:=⟨h,0,none⟩) a.lt m).trans a.V8,(e.cell (p:=⟨h,1,none⟩) a.lt m).trans a.c1,(e.cell (p:=⟨h,2,none⟩) a.lt m).trans a.c2,(e.cell (p:=⟨h,3,none⟩) a.lt m).trans a.c3,(e.cell (p:=⟨h,4,none⟩) a.lt m).trans a.c4,(e.cell (p:=⟨h,5,none⟩) a.lt m).trans a.c5,(e.cell (p:=⟨h,6,none⟩) a.lt m).trans a.W4,(e.cell (p:=⟨h,7,none⟩) a.lt m).trans a.W5,fun F=>(e.frozen (p:=⟨h,F,none⟩) a.lt m).trans (a.Wb F),aQ a.lt e.size,iA a.Xo e I,iA a.Xp e J,?_,?_,?_,?_,a.X9,?_⟩
 . intro g p;rw[mQ];split
   . exact H
   . next G=>exact(a.Xs g rN).more e (fun b d c=>a.XZ g f rN l (fun k=>G k.symm) b d c)
 . intro g p b d;rw[mQ]at d;split at d
   . rcases q.WV b d with c|c
     . exact a.ge f l b c
     . have:=a.lt;omega
   . exact a.ge g rN b d
 . intro g p b d;rw[mQ]at d;split at d
   . rcases q.WV b d with c|c
     . exact a.XX f l b c
     . intro k;have:=(a.Xo.lt b k).2;omega
   . exact a.XX g rN b d
 . intro g p b d;rw[mQ]at d;split at d
   . rcases q.WV b d with c|c
     . exact a.XY f l b c
     . intro k;have:=(a.Xp.lt b k).2;omega
   . exact a.XY g rN b d
 . intro g r p d E b o n;have t:g<j.length:=by simpa using p
   have u:r<j.length:=by simpa using d
   rw[mQ]at o n;split at o
   . next x=>
     split at n
     . next s=>exact E (x.symm.trans s)
     . next s=>
       rcases q.WV b o with c|c
       . exact a.XZ f r l u (fun k=>s k) b c n
       . have:=(a.Xs r u).lt b n;omega
   . next x=>
     split at n
     . next s=>
       rcases q.WV b n with c|c
       . exact a.XZ g f t l (fun k=>x k.symm) b o c
       . have:=(a.Xs g t).lt b o;omega
     . exact a.XZ g r t u E b o n
def cC.Zp {r:D}{s:Nat}{i:U}{l:List aN}{t u:List Nat}{o q:Value}(b:cC r s i l t u o q)(p:aN)(z:bE r p)(f:Nat)(h:∀a∈p.WV,f<=a)(B:s<f)(hu:∀a,o.ownBlock=some a->a<f)(A:∀a,q.ownBlock=some a->a<f)(w:∀d (b:d<l.length),∀a∈l[d].WV,a<f):cC r s i (l++[p]) t u o q:=by
 refine⟨b.V8,b.c1,b.c2,b.c3,b.c4,b.c5,b.W4,b.W5,b.Wb,b.lt,b.Xo,b.Xp,?_,?_,?_,?_,b.X9,?_⟩
 . intro d j;rw[rK];split
   . exact b.Xs d _
   . simpa using z
 . intro d j a c;rw[rK]at c;split at c
   . exact b.ge d _ a c
   . have:=h a (by simpa using c);omega
 . intro d j a c;rw[rK]at c;split at c
   . exact b.XX d _ a c
   . intro m;have:=h a (by simpa using c);have:=hu a m;omega
 . intro d j a c;rw[rK]at c;split at c
   . exact b.XY d _ a c
   . intro m;have:=h a (by simpa using c);have:=A a m;omega
 . intro d v j y x a k e;rw[rK]at k e;split at k
   . next n=>
     split at e
     . next g=>exact b.XZ d v n g x a k e
     . next g=>have:=h a (by simpa using e);have:=w d n a k;omega
   . next n=>
     split at e
     . next g=>have:=h a (by simpa using k);have:=w v g a e;omega
     . next g=>simp at j y;omega
def Db {v c:Value}{g i e d:Nat}(h:c=.slice (some ⟨g,0,none⟩) i e)(f:v.ownBlock=some g\/g=d)(b:Nat)(a:c.ownBlock=some b):v.ownBlock=some b\/b=d:=by
 rw[h]at a;simp only[Value.ownBlock,b5]at a;rw[<-a];exact f
def cC.ZT {u l:D}{e:Nat}{i:U}{y:List aN}{f z:List Nat}{s x:Value}(b:cC u e i y f z s x)(A g n:Nat)(G:u.grownBy l s.ownBlock)(w:l.ownsRow (e+1) 39 1 (.slice (some ⟨g,0,none⟩) (f.length+1) n) (f.length+1) (iC f++[I A]))(E:s.ownBlock=some g\/g=u.heap.size):
 cC (l.setCell ⟨e,0,none⟩ (.slice (some ⟨g,0,none⟩) (f.length+1) n)) e i y (f++[A]) z (.slice (some ⟨g,0,none⟩) (f.length+1) n) x:=by
 have c:=sY G;have t:e∉s.ownBlock.toList:=fun a=>by have:=(b.Xo.lt e jB).1;omega
 have J:∀d,x.ownBlock=some d->d∉s.ownBlock.toList:=fun d c a=>b.X9 d jB c;have H:=c.size;have j:=b.lt;have h:Kept [e] l (l.setCell ⟨e,0,none⟩ (.slice (some ⟨g,0,none⟩) (f.length+1) n)):=HJ;have K:e+1<=g:=(w.lt g rfl).1;have B:=fun d (c:(Value.slice (some ⟨g,0,none⟩) (f.length+1) n).ownBlock=some d)=>Db (v:=s) rfl E d c;have k:∀r,(0:Nat)≠r->(l.setCell ⟨e,0,none⟩ (.slice (some ⟨g,0,none⟩) (f.length+1) n)).cell? ⟨e,r,none⟩=u.cell? ⟨e,r,none⟩:=HK;refine⟨jy _ _ _ ((c.cell (p:=⟨e,0,none⟩) j t).trans b.V8),(k 1 R).trans b.c1,(k 2 R).trans b.c2,(k 3 R).trans b.c3,(k 4 R).trans b.c4,(k 5 R).trans b.c5,(k 6 R).trans b.W4,(k 7 R).trans b.W5,fun r=>by rw[lu];exact(c.frozen (p:=⟨e,r,none⟩) j t).trans (b.Wb r),aQ (aQ j H) h.size,?_,?_,?_,b.ge,?_,b.XY,?_,b.XZ⟩
 . exact Mm
 . exact iA (iA b.Xp c J) h (fun d c a=>by have:=(b.Xp.lt d c).1;simp at a;omega)
 . intro m o;refine((b.Xs m o).more c (fun d q a=>b.XX m o d q jB)).more h (fun d q a=>?_);have:=b.ge m o d q;simp at a;omega
 . intro m o d q v;rcases B d v with a|a
   . exact b.XX m o d q a
   . have:=(b.Xs m o).lt d q;omega
 . intro d v;rcases B d v with a|a
   . exact b.X9 d a
   . intro C;have:=(b.Xp.lt d C).2;omega
def cC.ZU {v l:D}{e:Nat}{i:U}{y:List aN}{z f:List Nat}{x s:Value}(b:cC v e i y z f x s)(A g n:Nat)(G:v.grownBy l s.ownBlock)(w:l.ownsRow (e+1) 145 1 (.slice (some ⟨g,0,none⟩) (f.length+1) n) (f.length+1) (iC f++[I A]))(E:s.ownBlock=some g\/g=v.heap.size):
 cC (l.setCell ⟨e,1,none⟩ (.slice (some ⟨g,0,none⟩) (f.length+1) n)) e i y z (f++[A]) x (.slice (some ⟨g,0,none⟩) (f.length+1) n):=by
 have c:=sY G;have t:e∉s.ownBlock.toList:=fun a=>by have:=(b.Xp.lt e jB).1;omega
 have J:∀d,x.ownBlock=some d->d∉s.ownBlock.toList:=fun d c a=>b.X9 d c jB;have H:=c.size;have j:=b.lt;have h:Kept [e] l (l.setCell ⟨e,1,none⟩ (.slice (some ⟨g,0,none⟩) (f.length+1) n)):=HJ;have K:e+1<=g:=(w.lt g rfl).1;have B:=fun d (c:(Value.slice (some ⟨g,0,none⟩) (f.length+1) n).ownBlock=some d)=>Db (v:=s) rfl E d c;have k:∀r,(1:Nat)≠r->(l.setCell ⟨e,1,none⟩ (.slice (some ⟨g,0,none⟩) (f.length+1) n)).cell? ⟨e,r,none⟩=v.cell? ⟨e,r,none⟩:=HK;refine⟨(k 0 R).trans b.V8,jy _ _ _ ((c.cell (p:=⟨e,1,none⟩) j t).trans b.c1),(k 2 R).trans b.c2,(k 3 R).trans b.c3,(k 4 R).trans b.c4,(k 5 R).trans b.c5,(k 6 R).trans b.W4,(k 7 R).trans b.W5,fun r=>by rw[lu];exact(c.frozen (p:=⟨e,r,none⟩) j t).trans (b.Wb r),aQ (aQ j H) h.size,?_,?_,?_,b.ge,b.XX,?_,?_,b.XZ⟩
 . exact iA (iA b.Xo c J) h (fun d c a=>by have:=(b.Xo.lt d c).1;simp at a;omega)
 . exact Mm
 . intro m o;refine((b.Xs m o).more c (fun d q a=>b.XY m o d q jB)).more h (fun d q a=>?_);have:=b.ge m o d q;simp at a;omega
 . intro m o d q u;rcases B d u with a|a
   . exact b.XY m o d q a
   . have:=(b.Xs m o).lt d q;omega
 . intro d u C;rcases B d C with a|a
   . exact b.X9 d u a
   . have:=(b.Xo.lt d u).2;omega
def cC.put {e:D}{a:Nat}{i:U}{o:List aN}{p q:List Nat}{u v:Value}(b:cC e a i o p q u v)(m f r n l k:Int):cC ((((((e.setCell ⟨a,2,none⟩ (j m)).setCell ⟨a,3,none⟩ (j f)).setCell ⟨a,4,none⟩ (j r)).setCell ⟨a,5,none⟩ (j n)).setCell ⟨a,6,none⟩ (j l)).setCell ⟨a,7,none⟩ (j k)) a ⟨m,f,r,n,l,k⟩ o p q u v:=by
 obtain⟨x,y,z,A,B,C,E,G,H,I,-,-,-,-,-,-,-,-⟩:=id b;have h:Kept [a] e ((((((e.setCell ⟨a,2,none⟩ (j m)).setCell ⟨a,3,none⟩ (j f)).setCell ⟨a,4,none⟩ (j r)).setCell ⟨a,5,none⟩ (j n)).setCell ⟨a,6,none⟩ (j l)).setCell ⟨a,7,none⟩ (j k)):=((((((Kept.refl _ _).setCell (.inl F) _).setCell (.inl F) _).setCell (.inl F) _).setCell (.inl F) _).setCell (.inl F) _).setCell (.inl F) _;refine⟨?_,?_,?_,?_,?_,?_,?_,?_,?_,?_,iA b.Xo h (fun c g d=>by have:=(b.Xo.lt c g).1;simp at d;omega),iA b.Xp h (fun c g d=>by have:=(b.Xp.lt c g).1;simp at d;omega),fun s t=>(b.Xs s t).more h (fun c w d=>by have:=b.ge s t c w;simp at d;omega),b.ge,b.XX,b.XY,b.X9,b.XZ⟩<;>simp[go_sem,x,y,z,A,B,C,E,G,H,I]
def CJ (a:Int)(p:-9223372036854775808<=a)(q:a<=9223372036854775807)(b:Nat)(r:0<b)(s:b<=9223372036854775807)(f:D):
 Calls prog 122 #[j a,j b] f fun n k=>(∃c:Nat,c<b/\n=.returned (j c))/\k=f:=by
 by_cases g:a<0
 . have o:decide (a<0)=true:=by simp[g]
   have t:IntKind.i64.wrap (a+1)=a+1:=lO;have u:IntKind.i64.wrap (-(a+1))=-(a+1):=lO;have d:(-(a+1)).tmod (b:Int)=(-(a+1))% (b:Int):=iQ m;have i:=uq (-(a+1)) (show(0:Int)<b by omega);have h:=oE (-(a+1)) (show(b:Int)≠0 by omega);have w3:IntKind.i64.wrap ((-(a+1)).tmod (b:Int))=(-(a+1)).tmod (b:Int):=fj _ (by rw[d];omega);obtain⟨c,e⟩:∃c:Nat,(c:Int)=(-(a+1)).tmod (b:Int):=⟨((-(a+1)).tmod (b:Int)).toNat,by rw[d];omega⟩;exact Mn
 . have o:decide (a<0)=false:=M;have d:a.tmod (b:Int)=a% (b:Int):=iQ m;have i:=uq a (show(0:Int)<b by omega);have h:=oE a (show(b:Int)≠0 by omega);have w3:IntKind.i64.wrap (a.tmod (b:Int))=a.tmod (b:Int):=fj _ (by rw[d];omega);obtain⟨c,e⟩:∃c:Nat,(c:Int)=a.tmod (b:Int):=⟨(a.tmod (b:Int)).toNat,by rw[d];omega⟩;exact Mn
def b7 (e:D)(f:Nat)(i:U)(b:Nat):Prop:=∃a c d,cC e f i a (a.map aN.Wk) (a.map aN.Wn) c d/\a.length<=b
def gx {f:List Nat}{c e:D}{d:Nat}(a:Kept f c e)(hF:∀b∈f,d<=b)(i:d<=c.heap.size):Below d c e:=
 ⟨a.os,a.tape,a.output,a.size,fun b h=>a.block b (by omega) (fun g=>by have:=hF b g;omega)⟩
def RP :(prog.info? 39).map (fun i=>(i.zero,i.size,i.bytes))=some (some (.pointer none),1,8):=by kernel_rfl
def RO :(prog.info? 145).map (fun i=>(i.zero,i.size,i.bytes))=some (some (.pointer none),1,8):=by kernel_rfl
theorem PJ {f:D}{b:Nat}{i:U}{p:List aN}{e q:List Nat}{l w:Value}(r:cC f b i p e q l w)(k v:Nat)(J:e.length<=1073741824):∃g h d,(Builtin.append_ #[30,30] v #[l,.slice (some ⟨f.heap.size,0,none⟩) 1 1]).run prog (f.alloc (.cells #[.pointer (some ⟨k,0,none⟩)] 39))=.ok (.slice (some ⟨g,0,none⟩) (e.length+1) h) d/\cC (d.setCell ⟨b,0,none⟩ (.slice (some ⟨g,0,none⟩) (e.length+1) h)) b i p (e++[k]) q (.slice (some ⟨g,0,none⟩) (e.length+1) h) w/\d.cell? ⟨b,0,none⟩=some l/\(∀o,d.frozen? ⟨b,o,none⟩=false)/\b<d.heap.size/\Below b f d:=by
 obtain⟨G,y,B,C,E⟩:=hx RP;have c:=r.W3 ((Kept.refl _ _).alloc (.cells #[I k] 39));have K:=r.lt;obtain⟨g,h,d,A,z,s,x,L⟩:=run_append_lies (P:=prog) (f.alloc (.cells #[I k] 39)) 30 v (b+1) 39 G (.pointer none) 1 8 Tryz.underlying30 y B C E rfl R l e.length (iC e) c.Xo ⟨f.heap.size,0,none⟩ 1 1 [I k] rfl (by
  intro t M j;match t,j with
  |0,j=>simp at j;subst j;simp[Addr.add]
  |t+1,j=>simp at j) GA R gp m ad _ rfl
 have n:=sY s;have u:b∉l.ownBlock.toList:=fun a=>by have:=(c.Xo.lt b jB).1;omega
 refine⟨g,h,d,A,c.ZT k g h s z x,(n.cell (p:=⟨b,0,none⟩) c.lt u).trans c.V8,fun o=>(n.frozen (p:=⟨b,o,none⟩) c.lt u).trans (c.Wb o),aQ c.lt n.size,?_⟩;exact(gx ((Kept.refl [] f).alloc _) F m).trans (gx n (fun H a=>by have:=(c.Xo.lt H jB).1;omega) (gm c.lt))
theorem PI {f:D}{b:Nat}{i:U}{p:List aN}{q e:List Nat}{w l:Value}(r:cC f b i p q e w l)(k v:Nat)(J:e.length<=1073741824):∃g h d,(Builtin.append_ #[58,58] v #[l,.slice (some ⟨f.heap.size,0,none⟩) 1 1]).run prog (f.alloc (.cells #[.pointer (some ⟨k,0,none⟩)] 145))=.ok (.slice (some ⟨g,0,none⟩) (e.length+1) h) d/\cC (d.setCell ⟨b,1,none⟩ (.slice (some ⟨g,0,none⟩) (e.length+1) h)) b i p q (e++[k]) w (.slice (some ⟨g,0,none⟩) (e.length+1) h)/\d.cell? ⟨b,1,none⟩=some l/\(∀o,d.frozen? ⟨b,o,none⟩=false)/\b<d.heap.size/\Below b f d:=by
 obtain⟨G,y,B,C,E⟩:=hx RO;have c:=r.W3 ((Kept.refl _ _).alloc (.cells #[I k] 145));have K:=r.lt;obtain⟨g,h,d,A,z,s,x,L⟩:=run_append_lies (P:=prog) (f.alloc (.cells #[I k] 145)) 58 v (b+1) 145 G (.pointer none) 1 8 Tryz.underlying58 y B C E rfl R l e.length (iC e) c.Xp ⟨f.heap.size,0,none⟩ 1 1 [I k] rfl (by
  intro t M j;match t,j with
  |0,j=>simp at j;subst j;simp[Addr.add]
  |t+1,j=>simp at j) GA R gp m ad _ rfl
 have n:=sY s;have u:b∉l.ownBlock.toList:=fun a=>by have:=(c.Xp.lt b jB).1;omega
 refine⟨g,h,d,A,c.ZU k g h s z x,(n.cell (p:=⟨b,1,none⟩) c.lt u).trans c.c1,fun o=>(n.frozen (p:=⟨b,o,none⟩) c.lt u).trans (c.Wb o),aQ c.lt n.size,?_⟩;exact(gx ((Kept.refl [] f).alloc _) F m).trans (gx n (fun H a=>by have:=(c.Xp.lt H jB).1;omega) (gm c.lt))
def Fr {p:Array Oper}{rest:List Oper}{c:Oper}{f:Act}{n:Exit->Act->D->Prop}(J:c.guard=none)(q s:Operand)(A:c.op=.call {callee:=.builtin .append,args:=#[q,s],argTypes:=#[30,30]})
 {h:D} {d:Nat} {i:U} {m:List aN} {e o:List Nat} {k r:Value} (F:cC h d i m e o k r) (j:Nat) (H:e.length<=1073741824) (C:f.eval q=k) (l:Nat) (G:l=h.heap.size) (E:f.eval s=.slice (some ⟨l,0,none⟩) 1 1)
 (z:∀g b a,cC (a.setCell ⟨d,0,none⟩ (.slice (some ⟨g,0,none⟩) (e.length+1) b)) d i m (e++[j]) o (.slice (some ⟨g,0,none⟩) (e.length+1) b) r->a.cell? ⟨d,0,none⟩=some k->(∀c,a.frozen? ⟨d,c,none⟩=false)->d<a.heap.size->Below d h a->wpList prog p n rest (f.put c.dst (.slice (some ⟨g,0,none⟩) (e.length+1) b)) a):
 wpList prog p n (c::rest) f (h.alloc (.cells #[I j] 39)):=by
 subst G;refine wpList_plain J fun K t=>?_;obtain⟨g,b,a,B,u,v,w,x,y⟩:=PJ F j c.type H;exact Mo
def Fq {p:Array Oper}{rest:List Oper}{c:Oper}{f:Act}{n:Exit->Act->D->Prop}(J:c.guard=none)(q s:Operand)(A:c.op=.call {callee:=.builtin .append,args:=#[q,s],argTypes:=#[58,58]})
 {h:D} {d:Nat} {i:U} {m:List aN} {o e:List Nat} {r k:Value} (F:cC h d i m o e r k) (j:Nat) (H:e.length<=1073741824) (C:f.eval q=k) (l:Nat) (G:l=h.heap.size) (E:f.eval s=.slice (some ⟨l,0,none⟩) 1 1)
 (z:∀g b a,cC (a.setCell ⟨d,1,none⟩ (.slice (some ⟨g,0,none⟩) (e.length+1) b)) d i m o (e++[j]) r (.slice (some ⟨g,0,none⟩) (e.length+1) b)->a.cell? ⟨d,1,none⟩=some k->(∀c,a.frozen? ⟨d,c,none⟩=false)->d<a.heap.size->Below d h a->wpList prog p n rest (f.put c.dst (.slice (some ⟨g,0,none⟩) (e.length+1) b)) a):
 wpList prog p n (c::rest) f (h.alloc (.cells #[I j] 145)):=by
 subst G;refine wpList_plain J fun K t=>?_;obtain⟨g,b,a,B,u,v,w,x,y⟩:=PI F j c.type H;exact Mo
def sO {a:Nat}{b d:D}(e:Below a b d)(f:Nat)(c:Value):Below a b (d.setCell ⟨a,f,none⟩ c):=e.setCell (by simp) c
def Sg (k:Nat)(i:U)(x:Nat)(aM:x<1073741824)(n:Int)(a:D)(ah:Hid (b7 a k i x)):
 Calls prog 121 #[I k,j n] a fun d T=>d=.returned (.bool true)/\b7 T k i (x+1)/\Below k a T:=by
 by_cases ak:0<=n/\n<=65536
 . obtain⟨c,rfl⟩:∃c:Nat,n=c:=⟨n.toNat,by omega⟩;have N:c<=65536:=J;obtain⟨h,Q,R,e,az⟩:=ah.out;have am:∀t (aK:t<h.length),∀b∈h[t].WV,b<a.heap.size:=fun t aA b f=>(e.Xs t aA).lt b f;have an:∀b,Q.ownBlock=some b->b<a.heap.size:=fun b f=>(e.Xo.lt b f).2;have ao:∀b,R.ownBlock=some b->b<a.heap.size:=fun b f=>(e.Xp.lt b f).2;have aB:=e.lt;have s:=l (Fx c N a);have r:=l (fun W=>adQ c N W);have Y:=l e;have p:=l (cW am (cW an ao));have ad:=l (P0 c N);clear am an ao ak e;go_enter func121,ntmps121;go_wp2_with fail;refine s.out.mono ?_;rintro P S ⟨rfl,al,ag⟩;have A:=l al;have B:=l ag;have ab:=l (r.out S);clear s r al ag;go_wp2_with fail;refine ab.out.mono ?_;rintro P au ⟨⟨O,ac,af,av,ar,rfl,aF,aG,aH,aI,aJ,M⟩,w⟩;have aO:=A.out.lt;have z:=M.nodup;have aa:=(Y.out.W3 B.out).W3 w;have ap:bE au ⟨a.heap.size+1,a.heap.size,O,ac,af,av,ar,hN c,te c⟩:=by
    refine⟨A.out.kept w,M,ad.out,?_⟩;simp only[aN.WV,gR]at z|-;simp only[dB,eR,eS,gh]at z|-;exact⟨⟨by omega,by omega,by omega,by omega,by omega,by omega⟩,⟨by omega,by omega,by omega,by omega,by omega⟩,z⟩
   have o:=aa.Zp _ ap a.heap.size (by
    intro b f;simp only[aN.WV,dB,eR,eS]at f;rcases f with d|d|d|d|d|d|d<;>omega) aB p.out.2.1 p.out.2.2 p.out.1
   have V:Hid (Below k a au):=l (gx (B.out.trans w) F m);clear aa ap z M w ab A B Y p ad;obtain⟨C,u⟩:=y (h.map aN.Wk);obtain⟨q,v⟩:=y (h.map aN.Wn);rw[<-u,<-v]at o;have aC:C.length<=1073741824:=by rw[u,gS];omega
   have aD:q.length<=1073741824:=by rw[v,gS];omega
   have aw:=o.V8;have aL:=o.lt;have Z:=l o;have ai:=l (cW u v);clear u v o;go_wp2_with(at_builtin;refine Fr rfl (.tmp 38) (.tmp 40) rfl Z.out (a.heap.size+1) aC rfl _ rfl rfl ?_);intro g ae w3 L4 d0 ax ay X;have c1:=L4.c1;have L:=l L4;have H:=l (V.out.trans (sO X 0 (.slice (some ⟨g,0,none⟩) (C.length+1) ae)));clear L4 Z V X aw;go_wp2_with(at_builtin;refine Fq rfl (.tmp 48) (.tmp 50) rfl L.out O aD rfl w3.heap.size F rfl ?_);intro G E aE aj d0 ax ay K;have aQ:=l (sO (H.out.trans K) 1 (.slice (some ⟨G,0,none⟩) (q.length+1) E));have aR:Hid (b7 (aE.setCell ⟨k,1,none⟩ (.slice (some ⟨G,0,none⟩) (q.length+1) E)) k i (x+1)):=by
    refine⟨h++[⟨a.heap.size+1,a.heap.size,O,ac,af,av,ar,hN c,te c⟩],.slice (some ⟨g,0,none⟩) (C.length+1) ae,.slice (some ⟨G,0,none⟩) (q.length+1) E,?_,?_⟩
    . exact Mq
    . simp;omega
   exact Mp
 . have s:=l (afn n m a);have r:=l (adR n m a);clear ak;go_enter func121,ntmps121;go_wp2_with fail;refine s.out.mono ?_;rintro P S ⟨rfl,rfl⟩;go_wp2_with fail;refine r.out.mono ?_;rintro P S ⟨rfl,rfl⟩;go_wp2_with fail;go_ret;obtain⟨h,Q,R,e,az⟩:=ah.out;exact⟨rfl,⟨h,Q,R,e,by omega⟩,aq _ _⟩
end
end Go.Proofs.YtmlgonbhoknoiabGreatDoor
