import Derived.Test.YtmlgonbhoknoiaaGreatDoorJBI
import Derived.Test.YtmlgonbhoknoiaaGreatDoorJBL
set_option maxHeartbeats 8000000
set_option maxRecDepth 100000
set_option linter.all false
namespace Go.Proofs.YtmlgonbhoknoiaaGreatDoor
open Go.RowKit Go.Proofs.Tryz
namespace u
def nO (i:U):List L:=(if i.V4=2 then 99::46::bq i.op.toNat else bq i.op.toNat)++gF (eN i.op.toNat) false i
def iI (a:Int):List L×Int:=
 if(aP a).2=0 then
  if(fe (aP a).1).2=0/\(fe (aP a).1).1=a then(nO (aP a).1,0)
  else(bq (if(aP a).1.V4=2 then 72 else 71)++32::Lib.itoa a,0)
 else([],(aP a).2)
end u
def kC (b a:K):(b++a).data.toList=b.data.toList++a.data.toList:=MD
def CL (a:Nat)(i:U)(t:i5 i):(u.hP a i).length<=50:=by
 have b:=s9 i.rd.toNat (by have:=t.d1;omega);have c:=s9 i.V1.toNat yQ;have d:=s9 i.V6.toNat (by have:=t.t1;omega);have e:=nP i.V2 (by have:=t.i0;omega) (by have:=t.YU;omega);have f:=nP i.V1 (by have:=t.YT;omega) yQ;unfold u.hP;repeat(first|omega|split|(simp only[mQ,c9,yC];omega))
def Dw (c:List Nat)(b:Nat)(a:Nat)(i:U):u.gF (b::c) (decide (0<a)) i=(if 0<a then[44,32]else[32])++(u.hP b i++u.gF c true i):=by
 by_cases d:0<a<;>simp[u.gF,d]
theorem Oh (i:U)(aj:Hid (i5 i))(g:Nat)(q:i.op=g)(ay:g<=70)(e:D)(az:Hid (c0 e)):
 aa 148 #[aW i] (u.aG (u.nO i)) e:=by
 obtain⟨n,r⟩:=y (u.nO i);rw[<-r];unfold u.nO at r;rw[show i.op.toNat=g by omega]at r;obtain⟨ar,G⟩:=y (Nm.name i.op);obtain⟨b,hS⟩:=y (Nm.shape i.op);have P:=k5 g m;have af:u.eN g=b.data.toList.map UInt8.toNat:=by rw[hS,q];rfl
 have aM:b.size<=8:=by rw[hS,q];exact P.1
 have av:Hid (∀k (O:k<b.size),b[k].toNat=100\/b[k].toNat=115\/b[k].toNat=116\/b[k].toNat=109\/b[k].toNat=106\/b[k].toNat=117\/b[k].toNat=105):=by rw[hS,q];exact P.2
 rw[af]at r;obtain⟨ac,H⟩:=y (⟨(99::46::u.bq g).toArray⟩:K);have S:=fun e=>vX g m e;rw[show u.aG (99::46::u.bq g)=.string ac by rw[H];rfl,<-q]at S;obtain⟨E,p⟩:=y (if i.V4=2 then ac else ar:K);have ax:(u.bq g).length<=20:=HA;have aw:E.size<=40:=by
  rw[p];split
  . rw[H];simp[ByteArray.size];omega
  . rw[G,q];have:=nX g m;omega
 have ag:Hid (n=E.data.toList++u.gF ((b.data.toList.map UInt8.toNat).drop 0) (decide (0<0)) i):=by
  show n=_;rw[r,p];split
  . rw[H];rfl
  . rw[G,q];rfl
 have Z:=l G;have ap:=l hS;have ab:=l S;clear r P af S H ax G hS q ay;unfold aW;go_enter func148,ntmps148;go_wp2_with fail;refine(jL i.op _).mono ?_;rintro F Y ⟨rfl,rfl⟩;rw[<-Z.out];go_upto_if 11 with fail;go_cut [3]from 11 to 14 (fun C V=>C=.string E/\V=e.alloc (.cells #[j i.op,j i.rd,j i.V1,j i.V6,j i.V2,j i.V4] 53));case first=>
  by_cases c:i.V4=2
  . have aH:(i.V4==2)=true:=eT;rw[B c]at p;have aG:=l p;clear p c;go_wp2_with(go_at_call 221;refine(ab.out _).mono ?_;rintro F Y ⟨rfl,rfl⟩);exact akp
  . exact ME
 case rest=>
  obtain⟨rfl,rfl⟩:=hcut;clear p ab Z;go_wp2_with(go_at_call 222;refine(A3 i.op _).mono ?_;rintro F Y ⟨rfl,rfl⟩;rw[<-ap.out]);go_loopw [3,5] (fun C T wr=>∃(a:Nat) (f:K),a<=b.size/\f.size<=40+60*a/\C=.string f/\T=j a/\Hid (dH i e wr)/\Hid (n=f.data.toList++u.gF ((b.data.toList.map UInt8.toNat).drop a) (decide (0<a)) i)) (fun _ T _=>b.size- (intOf T).toNat);case atStart=>exact⟨0,E,by omega,by omega,rfl,rfl,l (dH.start i e _),ag⟩
  case round=>
   obtain⟨a,f,aL,aO,rfl,rfl,A,s⟩:=hrel;clear ag aw;by_cases ak:a<b.size
   . rw[su b a ak,Dw]at s;obtain⟨v,J⟩:=y (b[a].toNat);rw[<-J]at s;have R:=av.out a ak;rw[<-J]at R;have aQ:b[a].toNat=v:=J.symm;have ao:=l R;clear J R;obtain⟨h,x⟩:=y (if 0<a then f++⟨#[44,32]⟩else f++⟨#[32]⟩:K);have ah:h.data.toList=f.data.toList++(if 0<a then[44,32]else[32]):=by
      rw[x];split<;>rw[kC]
     have aN:h.size<=f.size+2:=by
      have aK:(⟨#[44,32]⟩:K).size=2:=rfl;have c:(⟨#[32]⟩:K).size=1:=rfl;rw[x];split<;>rw[fm]<;>omega
     have ad:0<a->∀e,(Op.stringOp .add f ⟨#[44,32]⟩).run prog e=.ok (.string h) e:=fun t e=>eb (a:=f) (b:=⟨#[44,32]⟩) (c:=h) (by rw[x,B t]) (by have c:(⟨#[44,32]⟩:K).size=2:=rfl;rw[c];omega) e;have ae:¬0<a->∀e,(Op.stringOp .add f ⟨#[32]⟩).run prog e=.ok (.string h) e:=fun t e=>eb (a:=f) (b:=⟨#[32]⟩) (c:=h) (by rw[x,z t]) (by have c:(⟨#[32]⟩:K).size=1:=rfl;rw[c];omega) e;have W:=l ad;have X:=l ae;obtain⟨d,I⟩:=y (⟨(u.hP v i).toArray⟩:K);have aP:d.size<=50:=by rw[I];exact CL v i aj.out
     obtain⟨o,w⟩:=y (h++d:K);have an:∀e,(Op.stringOp .add h d).run prog e=.ok (.string o) e:=zf;have ai:o.size<=40+60* (a+1):=zg;have L:Hid (n=o.data.toList++u.gF ((b.data.toList.map UInt8.toNat).drop (a+1)) (decide (0<a+1)) i):=by
      show n=_;rw[s.out,w,kC,ah,I,bd (mY a)];simp only[oD]
     have Q:=On v ao.out i aj.out wr.drew ((az.out.more A.out.below).more (aq _ _).drew);rw[show u.aG (u.hP v i)=.string d by rw[I];rfl]at Q;have N:=l (Q.mono fun F am O=>(⟨O.1,l (A.out.more ((aq _ _).drew.trans O.2))⟩:_/\Hid (dH i e am)));unfold aW at N;clear s x ah ad ae I w Q;go_upto_if 25 with fail;go_cut [3]from 25 to 29 (fun C V=>C=.string h/\V=wr);case first=>
      by_cases t:0<a
      . have aJ:((a:Int)==0)=false:=M;have au:=W.out t;exact MF
      . obtain rfl:a=0:=by omega
        have au:=X.out t;exact MF
     case rest=>
      obtain⟨rfl,rfl⟩:=hcut;clear W X;obtain⟨-,-,aA,aB,aC,aD,aE,aF⟩:=A.out;go_upto_region 11 with fail;go_region_with(go_at_call 223;with_reducible refine N.out.mono ?_;rintro F am ⟨rfl,al⟩);all_goals clear aA aB aC aD aE aF N an A
      all_goals go_wp2
      all_goals go_roundw
      all_goals first
       |exact⟨a+1,o,by omega,ai,rfl,by go_num,al,L⟩
       | (simp[intOf];omega)
       | ((repeat apply hC);exact⟨⟨a+1,o,by omega,ai,rfl,by go_num,al,L⟩,rfl⟩)
   . have aI:decide ((a:Int)< (b.size:Int))=false:=M;have L:Hid (n=f.data.toList):=by
      show n=_;rw[s.out,eQ (by rw[gT,dQ];show b.size<=a;omega)];simp[u.gF]
     clear s;go_wp2;go_ret;exact⟨by rw[L.out];unfold u.aG;rw[hf];rfl,A.out.below⟩
def Od (c:Int)(f:Hid ((aP c).2=0->i5 (aP c).1/\0<=(aP c).1.op/\(aP c).1.op<=70/\0<=c/\c<=4294967295))(G:D)(ae:Hid (c0 G)):
 aa 91 #[j c] (.tuple #[u.aG (u.iI c).1,j (u.iI c).2]) G:=by
 obtain⟨aj,a⟩:=y (u.iI c);rw[<-a];unfold u.iI at a;have s:=pZ c G;obtain⟨X,M⟩:=y (aP c);rw[<-M]at s a f;have H:=l s;clear s M;obtain⟨i,h⟩:=X;simp only at a f;unfold aW at H;by_cases b:h=0
 . have T:(h !=0)=false:=gW;rw[B b]at a;obtain⟨P,ac,ad,ak,al⟩:=f.out b;obtain⟨E,Q⟩:∃E:Nat,i.op=E:=⟨i.op.toNat,by omega⟩;have x:=fun W q=>Oh i (l P) E Q m W q;have t:=fun W q=>Og c m m i.V4 W q;have w:=fun W=>wE i W;obtain⟨Z,N⟩:=y (fe i);rw[<-N]at w a;obtain⟨ah,o⟩:=y (u.aG (u.nO i));obtain⟨ai,p⟩:=y (u.aG (u.bq (if i.V4=2 then 72 else 71)++32::Lib.itoa c));rw[<-o]at x;rw[<-p]at t;have J:=l x;have ag:=l t;have g:=l w;have Y:=l o;have af:=l p;unfold aW at J g;clear x t w N o p P ac ad f b Q;obtain⟨F,C⟩:=Z;simp only at a;go_enter func91,ntmps91;go_wp2_with fail;refine H.out.mono ?_;rintro L I ⟨rfl,r⟩;clear H;have R:dH i I (I.alloc (.cells #[j i.op,j i.rd,j i.V1,j i.V6,j i.V2,j i.V4] 53)):=dH.start i I _;have K:=l R;clear R;go_wp2_with fail;refine(g.out _).mono ?_;rintro L am ⟨rfl,O⟩;have A:=K.out.more O;obtain⟨-,-,an,ao,ap,aq,ar,au⟩:=id A;have e:=l (r.trans (A.below.mono r.size));have S:=l (ae.out.more e.out);clear K A r O g;by_cases v:C=0
   . have U:(C !=0)=false:=rN;by_cases d:F=c
     . have V:(F !=c)=false:=by simp[d]
       rw[B ⟨v,d⟩]at a;have k:=l a;clear a v;clear d;go_wp2_with(go_at_call 148;refine(J.out _ S).mono ?_;rintro L w3 ⟨rfl,ab⟩);go_ret2;exact⟨by rw[k.out,Y.out];rfl,e.out.trans (ab.mono e.out.size)⟩
     . have V:(F !=c)=true:=by simp[d]
       rw[z (fun n=>d n.2)]at a;have k:=l a;clear a v d;exact MG
   . have U:(C !=0)=true:=rN;rw[z (fun n=>v n.1)]at a;have k:=l a;clear a v;exact MG
 . have T:(h !=0)=true:=gW;rw[z b]at a;have k:=l a;clear a b;go_enter func91,ntmps91;exact MH
def aav (e a d:Int)(b:-10000000000<a)(c:a<10000000000):i5 ⟨e,0,0,0,a,d⟩:=⟨ju 0,(show(0:Int)<32 by decide),ju 0,(show(0:Int)<32 by decide),ju 0,(show(0:Int)<32 by decide),b,c⟩
def aau (a:Int):i5 ⟨0,0,0,0,0,a⟩:=aav 0 0 a (by decide) (by decide)
def BH (a:Int):(aP a).2=0->i5 (aP a).1/\0<=(aP a).1.op/\(aP a).1.op<=70/\0<=a/\a<=4294967295:=by
 intro h;rcases P0 a with⟨hd,_⟩|⟨W,r,p,c⟩
 . rw[hd]at h;cases h
 . have b:∀i d,Real i d->i5 i/\0<=i.op/\i.op<=70:=fun i d b=>⟨b.ZR,by have:=b.op;omega,by have:=b.op;have:=b.ZQ;omega⟩;rcases c with⟨l,c⟩|⟨l,q,o,c⟩
   . rcases c with hd|⟨e,f,g,k,hd⟩
     . exact MM
     . obtain⟨d,j⟩:=SP e W f g;exact MN
   . rcases c with hd|⟨e,f,g,k,hd⟩
     . exact MM
     . obtain⟨d,j⟩:=Vs e W f g;exact MN
def Oe (a:Int)(b:D)(c:Hid (c0 b)):
 aa 91 #[j a] (.tuple #[u.aG (u.iI a).1,j (u.iI a).2]) b:=Od a (BH a) b c
def abl (g:Nat)(Y:g=100\/g=115\/g=116\/g=109\/g=106\/g=117\/g=105)(i:U)(h:i5 i)(a:D):
 aa 152 #[aW i,.int .u8 g] (u.aG (u.hP g i)) a:=by
 obtain⟨G,M⟩:∃b:Nat,i.rd=b:=⟨i.rd.toNat,by have:=h.d0;omega⟩;obtain⟨d,N⟩:∃b:Nat,i.V1=b:=⟨i.V1.toNat,by have:=h.YT;omega⟩;obtain⟨H,O⟩:∃b:Nat,i.V6=b:=⟨i.V6.toNat,by have:=h.t0;omega⟩;have S:G<32:=by have:=h.d1;omega
 have J:d<32:=by have:=h.s1;omega
 have T:H<32:=by have:=h.t1;omega
 have V:=h.i0;have W:=h.YU;clear h;obtain⟨ae,ai,aj,ak,c,ac⟩:=i;simp only at M N O V W;subst M N O;unfold aW u.hP;simp only[ds];have Q:Hid (∀ad,Below a.heap.size a (a.alloc ad)):=rM;have p:∀b:Nat,b<32->∃f j:K,u.aG (u.c7 b)=.string j/\Hid (∀a,aa 149 #[.int .i64 b] (.string f) a)/\f=⟨(Lib.decDigits b).toArray⟩/\(∀a,(Op.stringOp .add ⟨#[120]⟩ f).run prog a=.ok (.string j) a):=by
  intro b A;refine⟨⟨(Lib.decDigits b).toArray⟩,⟨(u.c7 b).toArray⟩,rfl,fun a=>qH b m a,rfl,fun a=>?_⟩;exact eb (a:=⟨#[120]⟩) (b:=⟨(Lib.decDigits b).toArray⟩) (c:=⟨(u.c7 b).toArray⟩) (he [120] _) (by have:=nC b m;simp[ByteArray.size];omega) a
 rcases Y with rfl|rfl|rfl|rfl|rfl|rfl|rfl
 . simp only[if_true];obtain⟨f,j,e,r,o,x⟩:=p G S;exact AJ
 . rw[z (by decide),B rfl];obtain⟨f,j,e,r,o,x⟩:=p d J;exact AJ
 . rw[z (by decide),z (by decide),B rfl];obtain⟨f,j,e,r,o,x⟩:=p H T;exact AJ
 . rw[z (by decide),z (by decide),z (by decide),z (by decide),B rfl];obtain⟨f,j,e,r,o,x⟩:=p d J;obtain⟨E,k⟩:=y (⟨(Lib.itoa c).toArray⟩:K);obtain⟨v,w⟩:=y (⟨(Lib.itoa c++[40,120]).toArray⟩:K);obtain⟨n,q⟩:=y (⟨((Lib.itoa c++[40,120])++Lib.decDigits d).toArray⟩:K);obtain⟨s,t⟩:=y (⟨(((Lib.itoa c++[40,120])++Lib.decDigits d)++[41]).toArray⟩:K);have Z:=nP c m m;have ab:=nC d m;have af:∀a,(Op.stringOp .add E ⟨#[40,120]⟩).run prog a=.ok (.string v) a:=fun a=>eb (a:=E) (b:=⟨#[40,120]⟩) (c:=v) (by rw[k,w];exact he _ [40,120]) Gh a;have ag:∀a,(Op.stringOp .add v f).run prog a=.ok (.string n) a:=fun a=>eb (a:=v) (b:=f) (c:=n) (by rw[w,o,q];exact he _ _) (by rw[w,o];simp[ByteArray.size];omega) a;have ah:∀a,(Op.stringOp .add n ⟨#[41]⟩).run prog a=.ok (.string s) a:=Hv;have A:=fun a=>ts c m m a;rw[show u.aG (Lib.itoa c)=.string E by rw[k];rfl]at A;rw[show u.aG (Lib.itoa c++40::(u.c7 d++[41]))=.string s by rw[t];unfold u.aG u.c7;simp];have R:=l A;clear A e k w q t Z ab o x p;go_enter func152,ntmps152;go_wp2_with fail;refine(r.out _).mono ?_;rintro X al ⟨rfl,L⟩;have F:=(dH.start ⟨ae,G,d,H,c,ac⟩ a 53).more L;have an:=F.c4;have I:=l F.below;clear F L r;go_wp2_with fail;refine(R.out _).mono ?_;rintro X am ⟨rfl,P⟩;go_wp2;exact MO
 . exact MP
 . rw[z (by decide),z (by decide),z (by decide),B rfl];obtain⟨j,e⟩:=y (u.aG (Lib.itoa (d:Int)));have C:=fun a=>ts (d:Int) m m a;exact MQ
 . exact MP
theorem aaV (n:Int)(a:D):
 aa 92 #[j n] (.tuple #[u.aG (u.iI n).1,j (u.iI n).2]) a:=by
 have af:=BH n;obtain⟨r,s⟩:=y (u.iI n);rw[<-s];unfold u.iI at s;have ac:=ql n a;rw[<-mc]at ac;obtain⟨a0,aK⟩:=y (aP n);rw[<-aK]at ac s af;have H:=l ac;clear ac aK;obtain⟨i,au⟩:=a0;simp only at s af;unfold aW at H;by_cases b:au=0
 . have aY:(au !=0)=false:=gW;rw[B b]at s;obtain⟨t,bb,bc,bp,bq⟩:=af b;obtain⟨g,aR⟩:∃g:Nat,i.op=g:=⟨i.op.toNat,by omega⟩;have aS:i.op.toNat=g:=J;have ad:=fun W=>s0 i (by have:=t.d1;omega) yQ (by have:=t.t1;omega) W;rw[<-wp]at ad;have ay:=fun W=>ts n m m W;obtain⟨a3,aN⟩:=y (fe i);rw[<-aN]at ad s;have ar:=l ad;unfold aW at ar;have aE:=l t;have C:=l (cZ aR aS);have be:g<=70:=J;clear ad aN t bb af b aR aS bc;obtain⟨A,T⟩:=a3;simp only at s;obtain⟨d,E⟩:=y (⟨(Lib.itoa n).toArray⟩:K);rw[show u.aG (Lib.itoa n)=.string d by rw[E];rfl]at ay;have aU:=l ay;have aX:=nP n m m;have ao:=l E;have k:=l s;clear ay E s;go_enter func92,ntmps92;go_wp2_with fail;refine H.out.mono ?_;rintro P U ⟨rfl,Z⟩;clear H;have aH:=l (dH.start i U 53);go_wp2_with fail;refine(ar.out _).mono ?_;rintro P br ⟨rfl,aO⟩;have ah:=aH.out.more aO;have aB:=l ah;obtain⟨-,-,ai,aj,ak,al,am,an⟩:=id ah;have aV:=l (Z.trans (ah.below.mono Z.size));have aC:=l Z;clear aH ah Z aO ar;by_cases V:T=0/\A=n
   . rw[B V]at k;obtain⟨v,aT⟩:=V;have aD:(T !=0)=false:=rN;have aZ:(A !=n)=false:=by simp[aT]
     clear v aT aU aX ao;unfold u.nO at k;rw[C.out.2]at k;obtain⟨aI,R⟩:=y (Nm.name i.op);obtain⟨f,hS⟩:=y (Nm.shape i.op);have av:=k5 g m;have aL:u.eN g=f.data.toList.map UInt8.toNat:=by rw[hS,C.out.1];rfl
     have bl:f.size<=8:=by rw[hS,C.out.1];exact av.1
     have a7:Hid (∀G (Q:G<f.size),f[G].toNat=100\/f[G].toNat=115\/f[G].toNat=116\/f[G].toNat=109\/f[G].toNat=106\/f[G].toNat=117\/f[G].toNat=105):=by rw[hS,C.out.1];exact av.2
     rw[aL]at k;obtain⟨aJ,Y⟩:=y (⟨(99::46::u.bq g).toArray⟩:K);have bf:∀a,(Op.stringOp .add ⟨#[99,46]⟩ aI).run prog a=.ok (.string aJ) a:=by
      intro a;rw[R,C.out.1,Y];exact xw g m a
     obtain⟨X,p⟩:=y (if i.V4=2 then aJ else aI:K);have ba:(u.bq g).length<=20:=HA;have a8:X.size<=40:=by
      rw[p];split
      . rw[Y];simp[ByteArray.size];omega
      . rw[R,C.out.1];have:=nX g m;omega
     have aM:Hid (r=(X.data.toList++u.gF ((f.data.toList.map UInt8.toNat).drop 0) (decide (0<0)) i,0)):=by
      show r=_;rw[k.out,p];split
      . rw[Y];rfl
      . rw[R,C.out.1];rfl
     have aF:=l R;have a2:=l hS;clear k av aL ba R hS Y C be;go_wp2_with fail;refine(tr i.op _).mono ?_;rintro P w3 ⟨rfl,rfl⟩;rw[<-aF.out];go_upto_if 47 with fail;go_cut [9]from 47 to 49 (fun A aA=>A=.string X/\aA=w3);case first=>
      by_cases c:i.V4=2
      . have bg:(i.V4==2)=true:=eT;rw[B c]at p;exact MR
      . exact ME
     case rest=>
      obtain⟨rfl,rfl⟩:=hcut;clear p aF bf;go_wp2_with(go_at_call 151;refine(Es i.op _).mono ?_;rintro P bi ⟨rfl,rfl⟩;rw[<-a2.out]);clear ai aj ak al am an;go_loopw [9,11] (fun A az wr=>∃(e:Nat) (q:K),e<=f.size/\q.size<=40+60*e/\A=.string q/\az=j e/\Hid (dH i U wr)/\Hid (r=(q.data.toList++u.gF ((f.data.toList.map UInt8.toNat).drop e) (decide (0<e)) i,0))) (fun _ az _=>f.size- (intOf az).toNat);case atStart=>exact⟨0,X,by omega,by omega,rfl,rfl,aB,aM⟩
      case round=>
       obtain⟨e,q,bk,bm,rfl,rfl,ag,F⟩:=hrel;clear aM a8 aB;by_cases aQ:e<f.size
       . rw[su f e aQ,Dw]at F;obtain⟨O,ab⟩:=y (f[e].toNat);rw[<-ab]at F;have ax:=a7.out e aQ;rw[<-ab]at ax;have bo:f[e].toNat=O:=ab.symm;have a1:=l ax;clear ab ax;obtain⟨d,E⟩:=y (⟨(u.hP O i).toArray⟩:K);have bn:d.size<=50:=by rw[E];exact CL O i aE.out
         have aw:=abl O a1.out i aE.out wr.drew;rw[show u.aG (u.hP O i)=.string d by rw[E];rfl]at aw;have ap:=l (aw.mono fun P U Q=>(⟨Q.1,l (ag.out.more ((aq _ _).drew.trans Q.2))⟩:_/\Hid (dH i _ U)));unfold aW at ap;have aG:=l E;clear aw E;obtain⟨-,-,ai,aj,ak,al,am,an⟩:=ag.out;go_upto_region 17 with fail;go_cut [12]from 59 to 63 (fun A aA=>A=.string d/\Hid (dH i U aA));case first=>
          go_region_with(go_at_call 152;with_reducible refine ap.out.mono ?_;rintro P bs ⟨rfl,N⟩);all_goals (go_wp2_with fail;go_meet)
          all_goals exact⟨rfl,N⟩
         case rest=>
          obtain⟨rfl,N⟩:=hcut;clear ai aj ak al am an ap ag;by_cases ae:0<e
          . have bj:((e:Int)==0)=false:=M;obtain⟨h,x⟩:=y (q++⟨#[44,32]⟩:K);have L:(⟨#[44,32]⟩:K).size=2:=rfl;have a9:h.size=q.size+2:=by rw[x,fm,L]
            have a4:∀a,(Op.stringOp .add q ⟨#[44,32]⟩).run prog a=.ok (.string h) a:=fun a=>eb (a:=q) (b:=⟨#[44,32]⟩) (c:=h) x.symm (by rw[L];omega) a;obtain⟨o,w⟩:=y (h++d:K);have a6:∀a,(Op.stringOp .add h d).run prog a=.ok (.string o) a:=zf;have S:o.size<=40+60* (e+1):=zg;have I:Hid (r=(o.data.toList++u.gF ((f.data.toList.map UInt8.toNat).drop (e+1)) (decide (0<e+1)) i,0)):=by
             show r=_;rw[F.out,w,kC,x,kC,aG.out,bd (mY e),B ae];simp only[oD]
            clear F x w L ae;go_wp2;go_roundw;case rel=>
             first
              |exact⟨e+1,o,by omega,S,rfl,by go_num,N,I⟩
              | ((repeat apply hC);exact⟨⟨e+1,o,by omega,S,rfl,by go_num,N,I⟩,rfl⟩)
            case measure=>exact a5
          . obtain rfl:e=0:=by omega
            obtain⟨h,x⟩:=y (q++⟨#[32]⟩:K);have L:(⟨#[32]⟩:K).size=1:=rfl;have a9:h.size=q.size+1:=by rw[x,fm,L]
            have a4:∀a,(Op.stringOp .add q ⟨#[32]⟩).run prog a=.ok (.string h) a:=fun a=>eb (a:=q) (b:=⟨#[32]⟩) (c:=h) x.symm (by rw[L];omega) a;obtain⟨o,w⟩:=y (h++d:K);have a6:∀a,(Op.stringOp .add h d).run prog a=.ok (.string o) a:=zf;have S:o.size<=40+60* (0+1):=zg;have I:Hid (r=(o.data.toList++u.gF ((f.data.toList.map UInt8.toNat).drop (0+1)) (decide (0<0+1)) i,0)):=by
             show r=_;rw[F.out,w,kC,x,kC,aG.out,bd (mY 0),z ae];simp only[oD]
            clear F x w L ae;go_wp2;go_roundw;case rel=>
             first
              |exact⟨0+1,o,by omega,S,rfl,by go_num,N,I⟩
              | ((repeat apply hC);exact⟨⟨0+1,o,by omega,S,rfl,by go_num,N,I⟩,rfl⟩)
            case measure=>exact a5
       . have bh:decide ((e:Int)< (f.size:Int))=false:=M;have I:Hid (r=(q.data.toList,0)):=by
          show r=_;rw[F.out,eQ (by rw[gT,dQ];show f.size<=e;omega)];simp[u.gF]
         clear F;go_wp2;go_ret2;exact⟨by rw[I.out];unfold u.aG;simp only[hf];rfl,aC.out.trans (ag.out.below.mono aC.out.size)⟩
   . rw[z V]at k;by_cases v:T=0
     . have aD:(T !=0)=false:=rN;have aZ:(A !=n)=true:=by simp;exact fun Q=>V ⟨v,Q⟩
       exact MS
     . have aD:(T !=0)=true:=rN;exact MS
 . have aY:(au !=0)=true:=gW;rw[z b]at s;have k:=l s;clear s b;go_enter func92,ntmps92;exact MH
def a4.YZ {d:D}{a:Nat}{e c:K}{i:U}(t:a4 d a e i c)(b:K):a4 (d.setCell ⟨a,0,none⟩ (.string b)) a b i c:=MY
def a4.Yz {f:D}{a:Nat}{e d:K}(t:a4 f a e ⟨0,0,0,0,0,0⟩ d)(b c:Int):a4 ((((f.setCell ⟨a,1,none⟩ (j b)).setCell ⟨a,9,none⟩ (j c)).setCell ⟨a,2,none⟩ (j b)).setCell ⟨a,7,none⟩ (j c)) a e ⟨b,0,0,0,0,c⟩ d:=MY
def a4.YD {f:D}{a c v:Nat}{x:Value}{e d:K}{i:U}(w:a4 f a e i d)(b:a≠c):a4 (f.setCell ⟨c,v,none⟩ x) a e i d:=by
 obtain⟨g,h,j,k,l,m,n,o,p,q,s,t⟩:=id w;have r:¬c=a:=fun u=>b u.symm;exact MX
structure km (a:aC):Prop where
 ZV:(a.i.op=0/\a.i.V4=0/\a.Xa=[])\/(1<=a.i.op/\a.i.op<=70/\(a.i.V4=2\/a.i.V4=4))\/(a.i.op=71/\a.i.V4=4/\a.Xa=[])\/(a.i.op=72/\a.i.V4=2/\a.Xa=[])
 YY:a.i.rd<=9223372036854775807
 YI:a.i.V1<=9223372036854775807
 ZZ:a.i.V6<=9223372036854775807
def r8 (i:U):Prop:=i.rd<=9223372036854775807/\i.V1<=9223372036854775807/\i.V6<=9223372036854775807
theorem BJ (a:Nat)(h:0<a):∀(d:List L) (b e:Nat),u.df a b d=some e->e< (b+1)*a^d.length
 |[],b,e,c=>by
  simp only[u.df,b6]at c
  simp;omega
 |f::d,b,e,c=>by
  simp only[u.df]at c
  split at c
  . simp at c
  . next j=>
    have i:=BJ a h d _ e c
    have g:b*a+u.cq f+1<=(b+1)*a:=by rw[Nat.add_mul];omega
    rw[c9,gd,fl (a^d.length) a,<-hA]
    exact aR i (j7 _ g)
def C9 (a eX c:Nat)(d:0<a)(e:List L)(b:u.dw a eX e=some c):c<a^eX:=by
 unfold u.dw at b;split at b
 . simp at b
 . next f=>
   have:=BJ a d e 0 c b;rw[eh,oN]at this;exact aR this (cY d m)
def T2 (c:List L)(b:Nat)(a:u.plain c=some b):b<10000000000:=by
 unfold u.plain at a;split at a
 . have:=C9 16 8 b R _ a;omega
 . have:=C9 10 10 b R _ a;omega
theorem T0 (a:List L):(u.plain a).getD 0<10000000000:=by
 cases b:u.plain a with
 |none=>simp
 |some c=>exact T2 a c b
def TH (a:List L):(u.number a).1<=10000000000:=by
 unfold u.number;split
 . simp only;omega
 . simp only;have:=T0 a;omega
theorem Di (d:List L):∀c b r,u.j0 d c b=some r->r<b+c
 |0,b,r,a=>by simp[u.j0]at a
 |c+1,b,r,a=>by
  unfold u.j0 at a
  split at a
  . simp only[b6]at a;omega
  . have:=Di d c (b+1) r a;omega
def Dk (a:List L)(r:Nat)(b:u.cr a=some r):r<32:=by
 have:=Di a 32 0 r b;omega
theorem TL {i m:U}{g o:List L}{f:Nat}{c:List (List L)}(b:u.cb i g f c=some (m,o))(l:r8 i):r8 m:=by
 have j:=l;obtain⟨d,k,e⟩:=l;unfold u.cb at b;split at b
 . cases a:u.fS i f (c[0]?.getD [])with
   |none=>rw[a]at b;simp at b
   |some n=>
    rw[a]at b;simp only[gR,b6,bM]at b;rw[<-b.1];unfold u.fS at a;split at a
    . simp at a
    . next r h=>
      have p:=Dk _ r h;simp only[b6]at a;rw[<-a];split
      . exact⟨by show(r:Int)<=_;omega,k,e⟩
      . split
        . exact⟨d,by show(r:Int)<=_;omega,e⟩
        . exact⟨d,k,by show(r:Int)<=_;omega⟩
 . split at b
   . cases a:u.fR i (c[0]?.getD []) (c[1]?.getD []) (c[2]?.getD []) (c[3]?.getD [])with
     |none=>rw[a]at b;simp at b
     |some n=>
      rw[a]at b;simp only[gR,b6,bM]at b;rw[<-b.1];unfold u.fR at a;split at a
      . split at a
        . simp at a
        . next r h=>
          have p:=Dk _ r h;simp only[b6]at a;rw[<-a];exact⟨d,by show(r:Int)<=_;omega,e⟩
      . simp at a
   . split at b
     . simp only[b6,bM]at b;rw[<-b.1];exact j
     . cases a:u.hg i f (c[0]?.getD [])with
       |none=>rw[a]at b;simp at b
       |some n=>
        rw[a]at b;simp only[gR,b6,bM]at b;rw[<-b.1];unfold u.hg at a;split at a
        . simp only[b6]at a;rw[<-a];have q:=TH (c[0]?.getD []);split
          . exact⟨d,by show(u.number _).1<=_;omega,e⟩
          . exact j
        . simp at a
theorem CO :∀(e:List Nat) (h:Bool) (i:U) (g:List L) (d:List (List L)) (b:U) (c:List L),u.bJ e h i g d=some (b,c)->r8 i->r8 b
 |[],h,i,g,d,b,c,a,f=>by
  simp only[u.bJ]at a
  split at a
  . simp only[b6,bM]at a;rw[<-a.1];exact f
  . simp at a
 |m::e,h,i,g,d,b,c,a,f=>by
  simp only[u.bJ]at a
  split at a
  . simp at a
  . split at a
    . simp at a
    . next k l j=>exact CO e true k l _ b c a (TL j f)
theorem w5 :∀(j:List Nat),(∀e∈j,¬e=106)->∀(l:Bool) (i:U) (g:List L) (h:List (List L)) (k:U) (f:List L),u.bJ j l i g h=some (k,f)->f=g
 |[],_,l,i,g,h,k,f,b=>by
  simp only[u.bJ]at b
  split at b
  . simp only[b6,bM]at b;exact b.2.symm
  . simp at b
 |e::j,o,l,i,g,h,k,f,b=>by
  simp only[u.bJ]at b
  split at b
  . simp at b
  . split at b
    . simp at b
    . next v w a=>
      have m:=w5 j (fun q r=>o q (rh _ r)) true v w _ k f b
      have s:=o e (by simp)
      rw[m]
      obtain⟨d,n⟩:=y (h.drop (if l then 1 else 0))
      rw[<-n]at a
      clear n b m
      unfold u.cb at a
      split at a
      . cases c:u.fS i e (d[0]?.getD [])with
        |none=>rw[c]at a;simp at a
        |some p=>rw[c]at a;simp only[gR,b6,bM]at a;exact a.2.symm
      . split at a
        . cases c:u.fR i (d[0]?.getD []) (d[1]?.getD []) (d[2]?.getD []) (d[3]?.getD [])with
          |none=>rw[c]at a;simp at a
          |some p=>rw[c]at a;simp only[gR,b6,bM]at a;exact a.2.symm
        . split at a
          . next t=>exact absurd t.1 s
          . cases c:u.hg i e (d[0]?.getD [])with
            |none=>rw[c]at a;simp at a
            |some p=>rw[c]at a;simp only[gR,b6,bM]at a;exact a.2.symm
theorem E8 (c:List L):∀b a,1<=a->a+b<=71->u.db c b a=(0,0)\/(1<=(u.db c b a).1/\(u.db c b a).1<=70/\((u.db c b a).2=2\/(u.db c b a).2=4))
 |0,a,_,_=>.inl rfl
 |b+1,a,d,f=>by
  have e:=E8 c b (a+1) (by omega) (by omega)
  unfold u.db
  split
  . right;exact⟨d,by show a<=70;omega,.inr rfl⟩
  . split
    . right;exact⟨d,by show a<=70;omega,.inl rfl⟩
    . exact e
def afB (a:List L):u.bk a=(0,0)\/(1<=(u.bk a).1/\(u.bk a).1<=70/\((u.bk a).2=2\/(u.bk a).2=4))\/u.bk a=(71,4)\/u.bk a=(72,2):=by
 unfold u.bk;split
 . right;right;left;rfl
 . split
   . right;right;right;rfl
   . rcases E8 a 70 1 (aB _) m with b|b
     . left;exact b
     . right;left;exact b
def DX (a:Nat)(c:a=71\/a=72):∀b∈u.eN a,¬b=106:=by
 rcases c with rfl|rfl<;>decide
def sK :km eL:=⟨.inl ⟨rfl,rfl,rfl⟩,by decide,by decide,by decide⟩
theorem Df (f:List L)(k:List (List L)):km (u.cA f k).2:=by
 cases k with
 |nil=>exact⟨.inl ⟨rfl,rfl,rfl⟩,by show(0:Int)<=_;decide,by show(0:Int)<=_;decide,by show(0:Int)<=_;decide⟩
 |cons b LT=>
  by_cases e:(u.bk b).2=0
  . rw[s5 f b LT e];exact sK
  . cases d:u.bJ (u.eN (u.bk b).1) false ⟨(u.bk b).1,0,0,0,0,(u.bk b).2⟩ [] LT with
    |none=>rw[s4 f b LT e d];exact sK
    |some r=>
     obtain⟨i,g⟩:=r;rw[s6 f b LT e d];have c:=w4 _ _ _ _ _ _ _ d;have a:=afB b;have h:=CO _ _ _ _ _ _ _ d ⟨by show(0:Int)<=_;decide,by show(0:Int)<=_;decide,by show(0:Int)<=_;decide⟩;refine⟨?_,h.1,h.2.1,h.2.2⟩;simp only at c|-;rcases a with a|a|a|a
     . rw[a]at e;exact absurd rfl e
     . right;left;omega
     . have j:=w5 _ (DX (u.bk b).1 (.inl (by rw[a]))) _ _ _ _ _ _ d;rw[a]at c;right;right;left;exact⟨c.2,c.1,j⟩
     . have j:=w5 _ (DX (u.bk b).1 (.inr (by rw[a]))) _ _ _ _ _ _ d;rw[a]at c;right;right;right;exact⟨c.2,c.1,j⟩
def UO (b:List (List L))(a:List aC):km (u.cm b a).2:=by
 unfold u.cm;split
 . split
   . split
     . exact sK
     . exact Df _ _
   . exact sK
 . exact Df _ _
def u.Xe (b:List aC)(a:aC)(c:Nat):List L×Int:=if a.Xa≠ []/\u.ca b a.Xa=b.length then([],8)else if(u.cQ (u.eA b a c)).2=0 then(u.dT (u.cQ (u.eA b a c)).1 a.i.V4.toNat,0)else([],(u.cQ (u.eA b a c)).2)
def Sz {a:List aC}{b:Nat}{c:List L}(f:b<a.length):u.lay a (a.drop b) b c=if(u.Xe a a[b] c.length).2=0 then u.lay a (a.drop (b+1)) (b+1) (c++(u.Xe a a[b] c.length).1)else([],(u.Xe a a[b] c.length).2,b+1):=by
 rw[wQ f];unfold u.Xe;by_cases e:a[b].Xa≠ []/\u.ca a a[b].Xa=a.length
 . rw[B e,B e,z (show ¬(8:Int)=0 by decide)]
 . rw[z e,z e];by_cases d:(u.cQ (u.eA a a[b] c.length)).2=0
   . rw[B d,B d,B rfl]
   . rw[z d,z d,z d]
def SD (b:Int)(a:Nat):(u.dT b a).length=a:=by
 unfold u.dT;rw[dQ];show(strOfNums (b4 b a)).size=a;rw[D5,wS]
def V0 {L:List aC}{l:aC}{n:Nat}(a:(u.Xe L l n).2=0):(u.Xe L l n).1.length=l.i.V4.toNat:=by
 unfold u.Xe at a|-;by_cases c:l.Xa≠ []/\u.ca L l.Xa=L.length
 . rw[B c]at a;exact absurd a R
 . rw[z c]at a|-;by_cases b:(u.cQ (u.eA L l n)).2=0
   . rw[B b];exact SD _ _
   . rw[z b]at a;exact absurd a b
def aab {d:List aC}{a:aC}(f:Nat)(b:a.i.V4=0)(c:a.Xa=[]):u.Xe d a f=([],0):=by
 unfold u.Xe u.eA;rw[z (fun e=>e.1 c),B c];unfold u.cQ;rw[B b,B rfl,b];rfl
def D2 {L:List aC}{l:aC}(n:Nat)(b a:Int)(d:Nat)(e:l.i.op=71/\d=4/\b=-2147483648/\a=4294967295\/l.i.op=72/\d=2/\b=-32768/\a=65535)(m:l.i.V4=d)(i:l.Xa=[]):u.Xe L l n=if l.i.V2<b\/a<l.i.V2 then([],7)else(u.dT l.i.V2 d,0):=by
 unfold u.Xe u.eA;rw[z (fun e=>e.1 i),B i];have k:u.cQ l.i=u.nA l.i.V2 b a:=by
  unfold u.cQ;rcases e with⟨h,j,g,f⟩|⟨h,j,g,f⟩
  . rw[z (by omega),B h,g,f]
  . rw[z (by omega),z (by omega),B h,g,f]
 rw[k,m];unfold u.nA;by_cases c:l.i.V2<b\/a<l.i.V2
 . rw[B c,B c];rfl
 . rw[z c,z c,B rfl];rfl
def aaa {a:List aC}{b:aC}(e:Nat)(c:¬b.Xa=[])(d:u.ca a b.Xa=a.length):u.Xe a b e=([],8):=by
 unfold u.Xe;rw[B ⟨c,d⟩]
def D3 {L:List aC}{l:aC}(c:Nat)(a:U)(e:u.eA L l c=a)(g:1<=l.i.op)(h:l.i.op<=70)(k:¬l.i.V4=0)(j:a.op=l.i.op)(i:a.V4=l.i.V4)(d:¬(l.Xa≠ []/\u.ca L l.Xa=L.length)):u.Xe L l c=if(dM a).2=0 then(u.dT (dM a).1 l.i.V4.toNat,0)else([],7):=by
 unfold u.Xe;rw[z d,e];have f:u.cQ a=if(dM a).2=0 then((dM a).1,0)else(0,7):=by
  unfold u.cQ;rw[z (by omega),z (by omega),z (by omega),wp a]
 rw[f];by_cases b:(dM a).2=0
 . rw[B b,B b,B rfl]
 . rw[z b,z b];rfl
def aac (b:Int)(a:Nat):u.aG (u.dT b a)=.string (strOfNums (b4 b a)):=by
 unfold u.aG u.dT;rw[hf]
def wT (b:Int)(a:Nat)(d:a<=8)(c:D):aa 99 #[j b,j a] (u.aG (u.dT b a)) c:=by
 rw[aac];exact qG b a d c
def TZ (a:List aC)(b:Nat)(c:Tidy a):((u.place a b).toNat:Int)=u.place a b:=by
 have:=mp a b c;omega
def abv (p:Option Addr)(F:Nat)(a:List aC)(P:a.length<=5000)(b:Nat)(E:b<a.length)(e c:List L)(f k l m i:Int)(g:Nat)(G:Hid (⟨e,⟨f,k,l,m,i,g⟩,c⟩=a[b]))(H:f=0)(M:g=0)(I:c=[])(q:D)(J:Hid (g2 q p a))(R:Hid (∀s,p=some s->s.block<q.heap.size)):
 aa 155 #[.slice p a.length F,j b] (.tuple #[u.aG (u.Xe a ⟨e,⟨f,k,l,m,i,g⟩,c⟩ (u.place a b).toNat).1,j (u.Xe a ⟨e,⟨f,k,l,m,i,g⟩,c⟩ (u.place a b).toNat).2]) q:=by
 obtain⟨r,n⟩:=y (u.Xe a ⟨e,⟨f,k,l,m,i,g⟩,c⟩ (u.place a b).toNat);rw[<-n];rcases J.out with af|⟨Q,rfl,d⟩
 . exact vJ
 have d:=d b E;rw[<-G.out]at d;subst H M;have z:Hid (r=([],0)):=by
  show r=_;rw[n];exact aab _ rfl I
 clear n;obtain⟨t,c1,c2,c3,c4,c5,A,B,v,C⟩:=id d;simp only at t c1 c2 c3 c4 c5 A B v C;obtain⟨O,w⟩:=y (⟨e.toArray⟩:K);obtain⟨h,o⟩:=y (⟨c.toArray⟩:K);rw[<-w]at t;rw[<-o]at v;have x:h.data.toList=c:=by rw[o]
 have N:(h.toList==[])=decide (h.data.toList=[]):=ha h [];rw[x]at N;clear w o x d;go_enter func155,ntmps155;go_wp2_with fail;go_ret2;exact⟨by rw[z.out];rfl,(aq _ _).alloc (aB _) _⟩
def abt (p:Option Addr)(R:Nat)(a:List aC)(ag:a.length<=5000)(d:Nat)(E:d<a.length)(h e:List L)(n o q r c:Int)(s:Nat)(V:Hid (⟨h,⟨n,o,q,r,c,s⟩,e⟩=a[d]))(X:n=71)(ab:s=4)(Y:e=[])(i:D)(Z:Hid (g2 i p a))(ai:Hid (∀A,p=some A->A.block<i.heap.size)):
 aa 155 #[.slice p a.length R,j d] (.tuple #[u.aG (u.Xe a ⟨h,⟨n,o,q,r,c,s⟩,e⟩ (u.place a d).toNat).1,j (u.Xe a ⟨h,⟨n,o,q,r,c,s⟩,e⟩ (u.place a d).toNat).2]) i:=by
 obtain⟨g,w⟩:=y (u.Xe a ⟨h,⟨n,o,q,r,c,s⟩,e⟩ (u.place a d).toNat);rw[<-w];rcases Z.out with af|⟨ah,rfl,k⟩
 . exact vJ
 have k:=k d E;rw[<-V.out]at k;subst X ab;have b:=D2 (L:=a) (l:=⟨h,⟨71,o,q,r,c,(4:Nat)⟩,e⟩) (u.place a d).toNat (-2147483648) 4294967295 4 (.inl ⟨rfl,rfl,rfl,rfl⟩) rfl Y;rw[<-w]at b;simp only at b;obtain⟨C,c1,c2,c3,c4,c5,O,P,F,Q⟩:=id k;simp only at C c1 c2 c3 c4 c5 O P F Q;obtain⟨ae,G⟩:=y (⟨h.toArray⟩:K);obtain⟨t,x⟩:=y (⟨e.toArray⟩:K);rw[<-G]at C;rw[<-x]at F;have H:t.data.toList=e:=by rw[x]
 have ad:(t.toList==[])=decide (t.data.toList=[]):=ha t [];rw[H]at ad;clear G x H k;have I:∀ac,Below i.heap.size i (i.alloc ac):=rM;have v:=l I;clear I w;have J:=fun W=>wT c 4 m W;have N:=l J;clear J;by_cases S:4294967295<c
 . have f:Hid (g=([],7)):=by
    show g=_;rw[b,B (.inr S)]
   have U:decide (4294967296<=c)=true:=M;exact vK
 . have U:decide (4294967296<=c)=false:=M;by_cases T:c < -2147483648
   . have f:Hid (g=([],7)):=by
      show g=_;rw[b,B (.inl T)]
     exact vK
   . have f:Hid (g=(u.dT c 4,0)):=by
      show g=_;rw[b,z (by omega)]
     exact M1
def abr (p:Option Addr)(R:Nat)(a:List aC)(ag:a.length<=5000)(d:Nat)(E:d<a.length)(h e:List L)(n o q r c:Int)(s:Nat)(V:Hid (⟨h,⟨n,o,q,r,c,s⟩,e⟩=a[d]))(X:n=72)(ab:s=2)(Y:e=[])(i:D)(Z:Hid (g2 i p a))(ai:Hid (∀A,p=some A->A.block<i.heap.size)):
 aa 155 #[.slice p a.length R,j d] (.tuple #[u.aG (u.Xe a ⟨h,⟨n,o,q,r,c,s⟩,e⟩ (u.place a d).toNat).1,j (u.Xe a ⟨h,⟨n,o,q,r,c,s⟩,e⟩ (u.place a d).toNat).2]) i:=by
 obtain⟨g,w⟩:=y (u.Xe a ⟨h,⟨n,o,q,r,c,s⟩,e⟩ (u.place a d).toNat);rw[<-w];rcases Z.out with af|⟨ah,rfl,k⟩
 . exact vJ
 have k:=k d E;rw[<-V.out]at k;subst X ab;have b:=D2 (L:=a) (l:=⟨h,⟨72,o,q,r,c,(2:Nat)⟩,e⟩) (u.place a d).toNat (-32768) 65535 2 (.inr ⟨rfl,rfl,rfl,rfl⟩) rfl Y;rw[<-w]at b;simp only at b;obtain⟨C,c1,c2,c3,c4,c5,O,P,F,Q⟩:=id k;simp only at C c1 c2 c3 c4 c5 O P F Q;obtain⟨ae,G⟩:=y (⟨h.toArray⟩:K);obtain⟨t,x⟩:=y (⟨e.toArray⟩:K);rw[<-G]at C;rw[<-x]at F;have H:t.data.toList=e:=by rw[x]
 have ad:(t.toList==[])=decide (t.data.toList=[]):=ha t [];rw[H]at ad;clear G x H k;have I:∀ac,Below i.heap.size i (i.alloc ac):=rM;have v:=l I;clear I w;have J:=fun W=>wT c 2 m W;have N:=l J;clear J;by_cases S:65535<c
 . have f:Hid (g=([],7)):=by
    show g=_;rw[b,B (.inr S)]
   have U:decide (65536<=c)=true:=M;exact vK
 . have U:decide (65536<=c)=false:=M;by_cases T:c < -32768
   . have f:Hid (g=([],7)):=by
      show g=_;rw[b,B (.inl T)]
     exact vK
   . have f:Hid (g=(u.dT c 2,0)):=by
      show g=_;rw[b,z (by omega)]
     exact M1
def abu (p:Option Addr)(ak:Nat)(d:List aC)(aK:d.length<=5000)(o:Nat)(E:o<d.length)(O n:List L)(c f g h i:Int)(a:Nat)(aY:Hid (⟨O,⟨c,f,g,h,i,a⟩,n⟩=d[o]))(hd:Hid (Tidy d))(ab:1<=c)(ac:c<=70)(aP:a=2\/a=4)(aE:f<=9223372036854775807)(aF:g<=9223372036854775807)(aG:h<=9223372036854775807)(e:D)(aw:Hid (g2 e p d))(aO:Hid (∀aA,p=some aA->aA.block<e.heap.size)):
 aa 155 #[.slice p d.length ak,j o] (.tuple #[u.aG (u.Xe d ⟨O,⟨c,f,g,h,i,a⟩,n⟩ (u.place d o).toNat).1,j (u.Xe d ⟨O,⟨c,f,g,h,i,a⟩,n⟩ (u.place d o).toNat).2]) e:=by
 obtain⟨F,C⟩:=y (u.Xe d ⟨O,⟨c,f,g,h,i,a⟩,n⟩ (u.place d o).toNat);rw[<-C];rcases aw.out with af|⟨aD,rfl,Y⟩
 . exact vJ
 have Y:=Y o E;rw[<-aY.out]at Y;obtain⟨aH,c1,c2,c3,c4,c5,aS,aT,aI,aU⟩:=id Y;simp only at aH c1 c2 c3 c4 c5 aS aT aI aU;obtain⟨t,aL⟩:=y (⟨O.toArray⟩:K);obtain⟨k,am⟩:=y (⟨n.toArray⟩:K);rw[<-aL]at aH;rw[<-am]at aI;have an:k.data.toList=n:=by rw[am]
 have ay:(k.toList==[])=decide (k.data.toList=[]):=ha k [];rw[an]at ay;have aR:=l an;clear aL am an Y;have a3:(c==0)=false:=M;have a5:(c==71)=false:=M;have a6:(c==72)=false:=M;have a8:a<=4:=J;have aQ:¬a=0:=J;have V:=a4.new e t ⟨c,f,g,h,i,a⟩ k;have x:Below e.heap.size e (e.alloc (bo t ⟨c,f,g,h,i,a⟩ k)):=lT;by_cases w:n=[]
 . rw[bd w]at ay;have v:=D3 (L:=d) (l:=⟨O,⟨c,f,g,h,i,a⟩,n⟩) (u.place d o).toNat ⟨c,f,g,h,i,a⟩ (by unfold u.eA;rw[B w]) ab ac (by show ¬(a:Int)=0;omega) rfl rfl (fun q=>q.1 w);rw[<-C]at v;obtain⟨aj,I⟩:=y (dM ⟨c,f,g,h,i,a⟩);rw[<-I]at v;have s:Below e.heap.size e ((e.alloc (bo t ⟨c,f,g,h,i,a⟩ k)).alloc (.cells #[j c,j f,j g,j h,j i,j a] 53)):=x.alloc x.size _;have N:=s0 ⟨c,f,g,h,i,a⟩ aE aF aG ((e.alloc (bo t ⟨c,f,g,h,i,a⟩ k)).alloc (.cells #[j c,j f,j g,j h,j i,j a] 53));rw[<-I]at N;have G:=l (N.mono fun H r q=>(⟨q.1,l (s.trans (q.2.mono s.size)),((V.alloc _).more q.2 (V.alloc _).lt).Xi⟩:_/\Hid (Below e.heap.size e r)/\r.cell? ⟨e.heap.size,9,none⟩=some (j a)));unfold aW bo at G;obtain⟨Z,X⟩:=aj;have P:Hid (F=if X=0 then(u.dT Z a,0)else([],7)):=v;clear v I N x s V w C ab ac aP aQ;go_enter func155,ntmps155;go_wp2_with fail;refine G.out.mono ?_;rintro H r ⟨rfl,ag,d9⟩;clear G;exact M2
 . rw[aV w]at ay;have aN:=aa1 (some ⟨aD,0,none⟩) ak d aK k;have ae:=fun W (ao:Below e.heap.size e W)=>aN W (l (aw.out.below ao aO.out));have ad:=fun W (ao:Below e.heap.size e W) a2 aZ=>aaW (some ⟨aD,0,none⟩) ak d aK hd W (l (aw.out.below ao aO.out)) a2 aZ;rw[aR.out]at ae;obtain⟨Q,hF⟩:=y (u.ca d n);have a7:Q<=d.length:=by rw[hF];exact u.wy d n
   rw[<-hF]at ae;have s:Below e.heap.size e ((e.alloc (bo t ⟨c,f,g,h,i,a⟩ k)).alloc (.cells #[j c,j f,j g,j h,j i,j a] 53)):=x.alloc x.size _;have T:=ae _ s;clear aN ae;by_cases aM:Q=d.length
   . have P:Hid (F=([],8)):=by
      show F=_;rw[C];exact aaa _ w (by show u.ca d n=_;rw[<-hF];exact aM)
     rw[z (by omega)]at T;have R:=l T;have az:=l s;unfold bo at R az;clear C hF T x s V w ad;go_enter func155,ntmps155;go_wp2_with fail;refine R.out.mono ?_;rintro H r ⟨rfl,rfl⟩;go_wp2_with fail;go_ret2;exact⟨by rw[P.out];rfl,az.out⟩
   . have aX:Q<d.length:=J;rw[B aX]at T;have ap:=ad _ s Q m;have ar:=ad _ s o m;have a0:=mp d Q hd.out;have a1:=mp d o hd.out;have av:=TZ d o hd.out;obtain⟨S,al⟩:=y (u.place d Q);obtain⟨A,aJ⟩:=y (u.place d o);rw[<-al]at ap a0;rw[<-aJ]at ar a1 av C;have v:=D3 (L:=d) (l:=⟨O,⟨c,f,g,h,i,a⟩,n⟩) A.toNat ⟨c,f,g,h,S-A,a⟩ (by
      unfold u.eA;rw[z w,av];show({(⟨c,f,g,h,i,a⟩:U)with V2:=u.place d (u.ca d n)-A}:U)=_;rw[<-hF,<-al]) ab ac (by show ¬(a:Int)=0;omega) rfl rfl (fun q=>aM (by rw[hF];exact q.2))
     rw[<-C]at v;obtain⟨aj,I⟩:=y (dM ⟨c,f,g,h,S-A,a⟩);rw[<-I]at v;have ax:Below e.heap.size e ((e.alloc (bo t ⟨c,f,g,h,i,a⟩ k)).alloc (.cells #[j c,j f,j g,j h,j (S-A),j a] 53)):=x.alloc x.size _;have N:=s0 ⟨c,f,g,h,S-A,a⟩ aE aF aG ((e.alloc (bo t ⟨c,f,g,h,i,a⟩ k)).alloc (.cells #[j c,j f,j g,j h,j (S-A),j a] 53));rw[<-I]at N;have au:a4 ((e.alloc (bo t ⟨c,f,g,h,i,a⟩ k)).alloc (.cells #[j c,j f,j g,j h,j (S-A),j a] 53)) e.heap.size t ⟨c,f,g,h,i,a⟩ k:=V.alloc _;have G:=l (N.mono fun H r q=>(⟨q.1,l (ax.trans (q.2.mono ax.size)),(au.more q.2 au.lt).Xi⟩:_/\Hid (Below e.heap.size e r)/\r.cell? ⟨e.heap.size,9,none⟩=some (j a)));have R:=l T;have ah:=l ap;have ai:=l ar;unfold aW bo at G;unfold bo at R ah ai;obtain⟨Z,X⟩:=aj;have P:Hid (F=if X=0 then(u.dT Z a,0)else([],7)):=v;clear v I N x s ax V au w C ab ac aP aQ hF al aJ av ad ap ar T;go_enter func155,ntmps155;go_wp2_with fail;refine R.out.mono ?_;rintro H r ⟨rfl,rfl⟩;go_wp2_with fail;refine ah.out.mono ?_;rintro H r ⟨rfl,rfl⟩;go_wp2_with fail;refine ai.out.mono ?_;rintro H r ⟨rfl,rfl⟩;go_wp2_with fail;refine G.out.mono ?_;rintro H r ⟨rfl,ag,d9⟩;clear G R ah ai;exact M2
def abq (p:Option Addr)(g:Nat)(a:List aC)(k:a.length<=5000)(hd:Hid (Tidy a))(b:Nat)(n:b<a.length)(H:km a[b])(d:D)(q:Hid (g2 d p a))(o:Hid (∀C,p=some C->C.block<d.heap.size)):
 aa 155 #[.slice p a.length g,j b] (.tuple #[u.aG (u.Xe a a[b] (u.place a b).toNat).1,j (u.Xe a a[b] (u.place a b).toNat).2]) d:=by
 obtain⟨B,h⟩:=y (a[b]);rw[<-h]at H|-;obtain⟨I,E,F,G⟩:=H;have r:∃f:Nat,B.i.V4=f:=⟨B.i.V4.toNat,by omega⟩;obtain⟨f,r⟩:=r;obtain⟨t,⟨v,w,x,z,s,J⟩,A⟩:=B;simp only at I E F G r;subst r;rcases I with⟨c,i,e⟩|⟨c,i,e⟩|⟨c,i,e⟩|⟨c,i,e⟩
 . exact abv p g a k b n t A v w x z s f (l h) c m e d q o
 . exact abu p g a k b n t A v w x z s f (l h) hd c i m E F G d q o
 . exact abt p g a k b n t A v w x z s f (l h) c m e d q o
 . exact abr p g a k b n t A v w x z s f (l h) c m e d q o
def QA (i:U)(a:D):(binOp .eql 53 (.agg #[.int .i64 i.op,.int .i64 i.rd,.int .i64 i.V1,.int .i64 i.V6,.int .i64 i.V2,.int .i64 i.V4]) (.agg #[.int .i64 i.op,.int .i64 i.rd,.int .i64 i.V1,.int .i64 i.V6,.int .i64 i.V2,.int .i64 i.V4])).run prog a=.ok (.bool true) a:=by
 rw[wq];simp
def Si (d:Int)(o:D):
 aa 41 #[j d] (.bool true) o:=by
 have hd:=pZ d o;have c:=fun W=>ql d W;rw[<-mc]at c;obtain⟨p,n⟩:=y (aP d);rw[<-n]at hd c;obtain⟨i,m⟩:=p;have u:=QA i;have s:(m==m)=true:=bN;have f:=l hd;have HR:=l c;unfold aW at f HR;clear hd c n;go_enter func41,ntmps41;go_wp2_with fail;refine f.out.mono ?_;rintro q a ⟨rfl,g⟩;have h:=l (g.alloc g.size (.cells #[j i.op,j i.rd,j i.V1,j i.V6,j i.V2,j i.V4] 53));clear g f;go_wp2_with fail;refine(HR.out _).mono ?_;rintro q b ⟨rfl,e⟩;have r:al b a.heap.size 0 (j i.op):=pl;have c1:al b a.heap.size 1 (j i.rd):=pl;have c2:al b a.heap.size 2 (j i.V1):=pl;have c3:al b a.heap.size 3 (j i.V6):=pl;have c4:al b a.heap.size 4 (j i.V2):=pl;have c5:al b a.heap.size 5 (j i.V4):=pl;have t:a.heap.size<b.heap.size:=aR F e.size;have k:=l (h.out.trans (e.mono h.out.size));clear e HR;go_wp2_with fail;go_ret;exact⟨rfl,k.out.alloc k.out.size _⟩
def Sn (i:U)(n:i.rd<=9223372036854775807)(o:i.V1<=9223372036854775807)(p:i.V6<=9223372036854775807)(a:D):
 aa 42 #[aW i] (.bool true) a:=by
 have hd:=wE i;have d:=fun W=>s0 i n o p W;rw[<-wp]at d;obtain⟨k,g⟩:=y (fe i);rw[<-g]at hd d;obtain⟨h,f⟩:=k;have r:(f==f)=true:=bN;have s:(h==h)=true:=bN;have e:=l hd;have HR:=l d;unfold aW at e HR|-;clear hd d g;go_enter func42,ntmps42;go_wp2_with fail;refine(e.out _).mono ?_;rintro m b ⟨rfl,c⟩;have q:al b a.heap.size 0 (j i.op):=ig;have c1:al b a.heap.size 1 (j i.rd):=ig;have c2:al b a.heap.size 2 (j i.V1):=ig;have c3:al b a.heap.size 3 (j i.V6):=ig;have c4:al b a.heap.size 4 (j i.V2):=ig;have c5:al b a.heap.size 5 (j i.V4):=ig;have I:=l (((aq a.heap.size a).alloc (aB _) _).trans (c.mono F));clear c;go_wp2_with fail;refine(HR.out _).mono ?_;rintro m t ⟨rfl,P⟩;go_wp2_with fail;exact MO
def Sx (c:Int)(e:D)(m:Hid (c0 e)):
 aa 43 #[j c] (.bool true) e:=by
 have hd:=Oe c e m;have d:=fun W=>aaV c W;obtain⟨k,h⟩:=y (u.iI c);rw[<-h]at hd d;obtain⟨n,g⟩:=k;obtain⟨f,i⟩:=y (⟨n.toArray⟩:K);have p:(g==g)=true:=bN;have q:(f.toList==f.toList)=true:=bN;have a:=l hd;have HR:=l d;unfold u.aG at a HR;simp only at a HR;rw[<-i]at a HR;clear hd d h i;go_enter func43,ntmps43;go_wp2_with fail;refine a.out.mono ?_;rintro o r ⟨rfl,b⟩;go_wp2_with fail;refine(HR.out _).mono ?_;exact M3
end Go.Proofs.YtmlgonbhoknoiaaGreatDoor
