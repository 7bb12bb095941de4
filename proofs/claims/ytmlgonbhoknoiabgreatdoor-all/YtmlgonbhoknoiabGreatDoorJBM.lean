import Derived.Test.YtmlgonbhoknoiabGreatDoorJBI
import Derived.Test.YtmlgonbhoknoiabGreatDoorJBL
set_option maxHeartbeats 8000000
set_option maxRecDepth 100000
set_option linter.all false
namespace Go.Proofs.YtmlgonbhoknoiabGreatDoor
open Go.RowKit Go.Proofs.Tryz
namespace u
def nS (i:U):List L:=(if i.V4=2 then 99::46::bp i.op.toNat else bp i.op.toNat)++gE (eN i.op.toNat) false i
def iJ (a:Int):List L×Int:=
 if(aP a).2=0 then
  if(fd (aP a).1).2=0/\(fd (aP a).1).1=a then(nS (aP a).1,0)
  else(bp (if(aP a).1.V4=2 then 72 else 71)++32::Lib.itoa a,0)
 else([],(aP a).2)
end u
def kH (b a:K):(b++a).data.toList=b.data.toList++a.data.toList:=MX
def C5 (a:Nat)(i:U)(t:i8 i):(u.hP a i).length<=50:=by
 have b:=tw i.rd.toNat (by have:=t.d1;omega);have c:=tw i.V1.toNat zh;have d:=tw i.V6.toNat (by have:=t.t1;omega);have e:=nT i.V2 (by have:=t.i0;omega) (by have:=t.YU;omega);have f:=nT i.V1 (by have:=t.YT;omega) zh;unfold u.hP;repeat(first|omega|split|(simp only[mO,c6,yY];omega))
def DQ (c:List Nat)(b:Nat)(a:Nat)(i:U):u.gE (b::c) (decide (0<a)) i=(if 0<a then[44,32]else[32])++(u.hP b i++u.gE c true i):=by
 by_cases d:0<a<;>simp[u.gE,d]
theorem OF (i:U)(aj:Hid (i8 i))(g:Nat)(q:i.op=g)(ay:g<=70)(e:D)(az:Hid (em e)):
 ac 143 #[aV i] (u.aG (u.nS i)) e:=by
 obtain⟨n,r⟩:=y (u.nS i);rw[<-r];unfold u.nS at r;rw[show i.op.toNat=g by omega]at r;obtain⟨ar,G⟩:=y (Nm.name i.op);obtain⟨b,hS⟩:=y (Nm.shape i.op);have P:=k5 g m;have af:u.eN g=b.data.toList.map UInt8.toNat:=by rw[hS,q];rfl
 have aM:b.size<=8:=by rw[hS,q];exact P.1
 have av:Hid (∀k (O:k<b.size),b[k].toNat=100\/b[k].toNat=115\/b[k].toNat=116\/b[k].toNat=109\/b[k].toNat=106\/b[k].toNat=117\/b[k].toNat=105):=by rw[hS,q];exact P.2
 rw[af]at r;obtain⟨ab,H⟩:=y (⟨(99::46::u.bp g).toArray⟩:K);have S:=fun e=>wp g m e;rw[show u.aG (99::46::u.bp g)=.string ab by rw[H];rfl,<-q]at S;obtain⟨E,p⟩:=y (if i.V4=2 then ab else ar:K);have ax:(u.bp g).length<=20:=HV;have aw:E.size<=40:=by
  rw[p];split
  . rw[H];simp[ByteArray.size];omega
  . rw[G,q];have:=n1 g m;omega
 have ag:Hid (n=E.data.toList++u.gE ((b.data.toList.map UInt8.toNat).drop 0) (decide (0<0)) i):=by
  show n=_;rw[r,p];split
  . rw[H];rfl
  . rw[G,q];rfl
 have Z:=l G;have ap:=l hS;have aa:=l S;clear r P af S H ax G hS q ay;unfold aV;go_enter func143,ntmps143;go_wp2_with fail;refine(jP i.op _).mono ?_;rintro F Y ⟨rfl,rfl⟩;rw[<-Z.out];go_upto_if 11 with fail;go_cut [3]from 11 to 14 (fun C V=>C=.string E/\V=e.alloc (.cells #[j i.op,j i.rd,j i.V1,j i.V6,j i.V2,j i.V4] 60));case first=>
  by_cases c:i.V4=2
  . have aH:(i.V4==2)=true:=eT;rw[B c]at p;have aG:=l p;clear p c;go_wp2_with(go_at_call 214;refine(aa.out _).mono ?_;rintro F Y ⟨rfl,rfl⟩);exact ajI
  . exact MY
 case rest=>
  obtain⟨rfl,rfl⟩:=hcut;clear p aa Z;go_wp2_with(go_at_call 215;refine(Bo i.op _).mono ?_;rintro F Y ⟨rfl,rfl⟩;rw[<-ap.out]);go_loopw [3,5] (fun C T wr=>∃(a:Nat) (f:K),a<=b.size/\f.size<=40+60*a/\C=.string f/\T=j a/\Hid (dF i e wr)/\Hid (n=f.data.toList++u.gE ((b.data.toList.map UInt8.toNat).drop a) (decide (0<a)) i)) (fun _ T _=>b.size- (intOf T).toNat);case atStart=>exact⟨0,E,by omega,by omega,rfl,rfl,l (dF.start i e _),ag⟩
  case round=>
   obtain⟨a,f,aL,aO,rfl,rfl,A,s⟩:=hrel;clear ag aw;by_cases ak:a<b.size
   . rw[sS b a ak,DQ]at s;obtain⟨v,J⟩:=y (b[a].toNat);rw[<-J]at s;have R:=av.out a ak;rw[<-J]at R;have aQ:b[a].toNat=v:=J.symm;have ao:=l R;clear J R;obtain⟨h,x⟩:=y (if 0<a then f++⟨#[44,32]⟩else f++⟨#[32]⟩:K);have ah:h.data.toList=f.data.toList++(if 0<a then[44,32]else[32]):=by
      rw[x];split<;>rw[kH]
     have aN:h.size<=f.size+2:=by
      have aK:(⟨#[44,32]⟩:K).size=2:=rfl;have c:(⟨#[32]⟩:K).size=1:=rfl;rw[x];split<;>rw[fl]<;>omega
     have ad:0<a->∀e,(Op.stringOp .add f ⟨#[44,32]⟩).run prog e=.ok (.string h) e:=fun t e=>ea (a:=f) (b:=⟨#[44,32]⟩) (c:=h) (by rw[x,B t]) (by have c:(⟨#[44,32]⟩:K).size=2:=rfl;rw[c];omega) e;have ae:¬0<a->∀e,(Op.stringOp .add f ⟨#[32]⟩).run prog e=.ok (.string h) e:=fun t e=>ea (a:=f) (b:=⟨#[32]⟩) (c:=h) (by rw[x,z t]) (by have c:(⟨#[32]⟩:K).size=1:=rfl;rw[c];omega) e;have W:=l ad;have X:=l ae;obtain⟨d,I⟩:=y (⟨(u.hP v i).toArray⟩:K);have aP:d.size<=50:=by rw[I];exact C5 v i aj.out
     obtain⟨o,w⟩:=y (h++d:K);have an:∀e,(Op.stringOp .add h d).run prog e=.ok (.string o) e:=zB;have ai:o.size<=40+60* (a+1):=zC;have L:Hid (n=o.data.toList++u.gE ((b.data.toList.map UInt8.toNat).drop (a+1)) (decide (0<a+1)) i):=by
      show n=_;rw[s.out,w,kH,ah,I,bc (m0 a)];simp only[oJ]
     have Q:=OL v ao.out i aj.out wr.drew ((az.out.more A.out.below).more (aq _ _).drew);rw[show u.aG (u.hP v i)=.string d by rw[I];rfl]at Q;have N:=l (Q.mono fun F am O=>(⟨O.1,l (A.out.more ((aq _ _).drew.trans O.2))⟩:_/\Hid (dF i e am)));unfold aV at N;clear s x ah ad ae I w Q;go_upto_if 25 with fail;go_cut [3]from 25 to 29 (fun C V=>C=.string h/\V=wr);case first=>
      by_cases t:0<a
      . have aJ:((a:Int)==0)=false:=M;have au:=W.out t;exact MZ
      . obtain rfl:a=0:=by omega
        have au:=X.out t;exact MZ
     case rest=>
      obtain⟨rfl,rfl⟩:=hcut;clear W X;obtain⟨-,-,aA,aB,aC,aD,aE,aF⟩:=A.out;go_upto_region 11 with fail;go_region_with(go_at_call 216;with_reducible refine N.out.mono ?_;rintro F am ⟨rfl,al⟩);all_goals clear aA aB aC aD aE aF N an A
      all_goals go_wp2
      all_goals go_roundw
      all_goals first
       |exact⟨a+1,o,by omega,ai,rfl,by go_num,al,L⟩
       | (simp[intOf];omega)
       | ((repeat apply hB);exact⟨⟨a+1,o,by omega,ai,rfl,by go_num,al,L⟩,rfl⟩)
   . have aI:decide ((a:Int)< (b.size:Int))=false:=M;have L:Hid (n=f.data.toList):=by
      show n=_;rw[s.out,eQ (by rw[gS,dP];show b.size<=a;omega)];simp[u.gE]
     clear s;go_wp2;go_ret;exact⟨by rw[L.out];unfold u.aG;rw[he];rfl,A.out.below⟩
def OB (c:Int)(f:Hid ((aP c).2=0->i8 (aP c).1/\0<=(aP c).1.op/\(aP c).1.op<=70/\0<=c/\c<=4294967295))(G:D)(ae:Hid (em G)):
 ac 88 #[j c] (.tuple #[u.aG (u.iJ c).1,j (u.iJ c).2]) G:=by
 obtain⟨aj,a⟩:=y (u.iJ c);rw[<-a];unfold u.iJ at a;have s:=qf c G;obtain⟨X,M⟩:=y (aP c);rw[<-M]at s a f;have H:=l s;clear s M;obtain⟨i,h⟩:=X;simp only at a f;unfold aV at H;by_cases b:h=0
 . have T:(h !=0)=false:=gV;rw[B b]at a;obtain⟨P,ab,ad,ak,al⟩:=f.out b;obtain⟨E,Q⟩:∃E:Nat,i.op=E:=⟨i.op.toNat,by omega⟩;have x:=fun W q=>OF i (l P) E Q m W q;have t:=fun W q=>OE c m m i.V4 W q;have w:=fun W=>w0 i W;obtain⟨Z,N⟩:=y (fd i);rw[<-N]at w a;obtain⟨ah,o⟩:=y (u.aG (u.nS i));obtain⟨ai,p⟩:=y (u.aG (u.bp (if i.V4=2 then 72 else 71)++32::Lib.itoa c));rw[<-o]at x;rw[<-p]at t;have J:=l x;have ag:=l t;have g:=l w;have Y:=l o;have af:=l p;unfold aV at J g;clear x t w N o p P ab ad f b Q;obtain⟨F,C⟩:=Z;simp only at a;go_enter func88,ntmps88;go_wp2_with fail;refine H.out.mono ?_;rintro L I ⟨rfl,r⟩;clear H;have R:dF i I (I.alloc (.cells #[j i.op,j i.rd,j i.V1,j i.V6,j i.V2,j i.V4] 60)):=dF.start i I _;have K:=l R;clear R;go_wp2_with fail;refine(g.out _).mono ?_;rintro L am ⟨rfl,O⟩;have A:=K.out.more O;obtain⟨-,-,an,ao,ap,aq,ar,au⟩:=id A;have e:=l (r.trans (A.below.mono r.size));have S:=l (ae.out.more e.out);clear K A r O g;by_cases v:C=0
   . have U:(C !=0)=false:=sb;by_cases d:F=c
     . have V:(F !=c)=false:=by simp[d]
       rw[B ⟨v,d⟩]at a;have k:=l a;clear a v;clear d;go_wp2_with(go_at_call 143;refine(J.out _ S).mono ?_;rintro L w3 ⟨rfl,aa⟩);go_ret2;exact⟨by rw[k.out,Y.out];rfl,e.out.trans (aa.mono e.out.size)⟩
     . have V:(F !=c)=true:=by simp[d]
       rw[z (fun n=>d n.2)]at a;have k:=l a;clear a v d;exact M0
   . have U:(C !=0)=true:=sb;rw[z (fun n=>v n.1)]at a;have k:=l a;clear a v;exact M0
 . have T:(h !=0)=true:=gV;rw[z b]at a;have k:=l a;clear a b;go_enter func88,ntmps88;exact M1
def VQ (e a d:Int)(b:-10000000000<a)(c:a<10000000000):i8 ⟨e,0,0,0,a,d⟩:=⟨jx 0,(show(0:Int)<32 by decide),jx 0,(show(0:Int)<32 by decide),jx 0,(show(0:Int)<32 by decide),b,c⟩
def VP (a:Int):i8 ⟨0,0,0,0,0,a⟩:=VQ 0 0 a (by decide) (by decide)
def B2 (a:Int):(aP a).2=0->i8 (aP a).1/\0<=(aP a).1.op/\(aP a).1.op<=70/\0<=a/\a<=4294967295:=by
 intro h;rcases Qw a with⟨hd,_⟩|⟨W,r,p,c⟩
 . rw[hd]at h;cases h
 . have b:∀i d,Real i d->i8 i/\0<=i.op/\i.op<=70:=fun i d b=>⟨b.ZR,by have:=b.op;omega,by have:=b.op;have:=b.ZQ;omega⟩;rcases c with⟨l,c⟩|⟨l,q,o,c⟩
   . rcases c with hd|⟨e,f,g,k,hd⟩
     . exact M6
     . obtain⟨d,j⟩:=SJ e W f g;exact M7
   . rcases c with hd|⟨e,f,g,k,hd⟩
     . exact M6
     . obtain⟨d,j⟩:=U5 e W f g;exact M7
def OC (a:Int)(b:D)(c:Hid (em b)):
 ac 88 #[j a] (.tuple #[u.aG (u.iJ a).1,j (u.iJ a).2]) b:=OB a (B2 a) b c
def aaH (g:Nat)(Y:g=100\/g=115\/g=116\/g=109\/g=106\/g=117\/g=105)(i:U)(h:i8 i)(a:D):
 ac 163 #[aV i,.int .u8 g] (u.aG (u.hP g i)) a:=by
 obtain⟨G,M⟩:∃b:Nat,i.rd=b:=⟨i.rd.toNat,by have:=h.d0;omega⟩;obtain⟨d,N⟩:∃b:Nat,i.V1=b:=⟨i.V1.toNat,by have:=h.YT;omega⟩;obtain⟨H,O⟩:∃b:Nat,i.V6=b:=⟨i.V6.toNat,by have:=h.t0;omega⟩;have S:G<32:=by have:=h.d1;omega
 have J:d<32:=by have:=h.s1;omega
 have T:H<32:=by have:=h.t1;omega
 have V:=h.i0;have W:=h.YU;clear h;obtain⟨ae,ai,aj,ak,c,ab⟩:=i;simp only at M N O V W;subst M N O;unfold aV u.hP;simp only[dp];have Q:Hid (∀ad,Below a.heap.size a (a.alloc ad)):=sa;have p:∀b:Nat,b<32->∃f j:K,u.aG (u.cZ b)=.string j/\Hid (∀a,ac 160 #[.int .i64 b] (.string f) a)/\f=⟨(Lib.decDigits b).toArray⟩/\(∀a,(Op.stringOp .add ⟨#[120]⟩ f).run prog a=.ok (.string j) a):=by
  intro b A;refine⟨⟨(Lib.decDigits b).toArray⟩,⟨(u.cZ b).toArray⟩,rfl,fun a=>qY b m a,rfl,fun a=>?_⟩;exact ea (a:=⟨#[120]⟩) (b:=⟨(Lib.decDigits b).toArray⟩) (c:=⟨(u.cZ b).toArray⟩) (hc [120] _) (by have:=nG b m;simp[ByteArray.size];omega) a
 rcases Y with rfl|rfl|rfl|rfl|rfl|rfl|rfl
 . simp only[if_true];obtain⟨f,j,e,r,o,x⟩:=p G S;exact A5
 . rw[z (by decide),B rfl];obtain⟨f,j,e,r,o,x⟩:=p d J;exact A5
 . rw[z (by decide),z (by decide),B rfl];obtain⟨f,j,e,r,o,x⟩:=p H T;exact A5
 . rw[z (by decide),z (by decide),z (by decide),z (by decide),B rfl];obtain⟨f,j,e,r,o,x⟩:=p d J;obtain⟨E,k⟩:=y (⟨(Lib.itoa c).toArray⟩:K);obtain⟨v,w⟩:=y (⟨(Lib.itoa c++[40,120]).toArray⟩:K);obtain⟨n,q⟩:=y (⟨((Lib.itoa c++[40,120])++Lib.decDigits d).toArray⟩:K);obtain⟨s,t⟩:=y (⟨(((Lib.itoa c++[40,120])++Lib.decDigits d)++[41]).toArray⟩:K);have Z:=nT c m m;have aa:=nG d m;have af:∀a,(Op.stringOp .add E ⟨#[40,120]⟩).run prog a=.ok (.string v) a:=fun a=>ea (a:=E) (b:=⟨#[40,120]⟩) (c:=v) (by rw[k,w];exact hc _ [40,120]) GC a;have ag:∀a,(Op.stringOp .add v f).run prog a=.ok (.string n) a:=fun a=>ea (a:=v) (b:=f) (c:=n) (by rw[w,o,q];exact hc _ _) (by rw[w,o];simp[ByteArray.size];omega) a;have ah:∀a,(Op.stringOp .add n ⟨#[41]⟩).run prog a=.ok (.string s) a:=HP;have A:=fun a=>tO c m m a;rw[show u.aG (Lib.itoa c)=.string E by rw[k];rfl]at A;rw[show u.aG (Lib.itoa c++40::(u.cZ d++[41]))=.string s by rw[t];unfold u.aG u.cZ;simp];have R:=l A;clear A e k w q t Z aa o x p;go_enter func163,ntmps163;go_wp2_with fail;refine(r.out _).mono ?_;rintro X al ⟨rfl,L⟩;have F:=(dF.start ⟨ae,G,d,H,c,ab⟩ a 60).more L;have an:=F.c4;have I:=l F.below;clear F L r;go_wp2_with fail;refine(R.out _).mono ?_;rintro X am ⟨rfl,P⟩;go_wp2;exact M8
 . exact M9
 . rw[z (by decide),z (by decide),z (by decide),B rfl];obtain⟨j,e⟩:=y (u.aG (Lib.itoa (d:Int)));have C:=fun a=>tO (d:Int) m m a;exact Na
 . exact M9
theorem aah (n:Int)(a:D):
 ac 119 #[j n] (.tuple #[u.aG (u.iJ n).1,j (u.iJ n).2]) a:=by
 have af:=B2 n;obtain⟨r,s⟩:=y (u.iJ n);rw[<-s];unfold u.iJ at s;have ab:=qC n a;rw[<-ma]at ab;obtain⟨a0,aK⟩:=y (aP n);rw[<-aK]at ab s af;have H:=l ab;clear ab aK;obtain⟨i,au⟩:=a0;simp only at s af;unfold aV at H;by_cases b:au=0
 . have aY:(au !=0)=false:=gV;rw[B b]at s;obtain⟨t,bb,bd,bp,bq⟩:=af b;obtain⟨g,aR⟩:∃g:Nat,i.op=g:=⟨i.op.toNat,by omega⟩;have aS:i.op.toNat=g:=J;have ad:=fun W=>tn i (by have:=t.d1;omega) zh (by have:=t.t1;omega) W;rw[<-wM]at ad;have ay:=fun W=>tO n m m W;obtain⟨a3,aN⟩:=y (fd i);rw[<-aN]at ad s;have ar:=l ad;unfold aV at ar;have aE:=l t;have C:=l (cW aR aS);have be:g<=70:=J;clear ad aN t bb af b aR aS bd;obtain⟨A,T⟩:=a3;simp only at s;obtain⟨d,E⟩:=y (⟨(Lib.itoa n).toArray⟩:K);rw[show u.aG (Lib.itoa n)=.string d by rw[E];rfl]at ay;have aU:=l ay;have aX:=nT n m m;have ao:=l E;have k:=l s;clear ay E s;go_enter func119,ntmps119;go_wp2_with fail;refine H.out.mono ?_;rintro P U ⟨rfl,Z⟩;clear H;have aH:=l (dF.start i U 60);go_wp2_with fail;refine(ar.out _).mono ?_;rintro P br ⟨rfl,aO⟩;have ah:=aH.out.more aO;have aB:=l ah;obtain⟨-,-,ai,aj,ak,al,am,an⟩:=id ah;have aW:=l (Z.trans (ah.below.mono Z.size));have aC:=l Z;clear aH ah Z aO ar;by_cases V:T=0/\A=n
   . rw[B V]at k;obtain⟨v,aT⟩:=V;have aD:(T !=0)=false:=sb;have aZ:(A !=n)=false:=by simp[aT]
     clear v aT aU aX ao;unfold u.nS at k;rw[C.out.2]at k;obtain⟨aI,R⟩:=y (Nm.name i.op);obtain⟨f,hS⟩:=y (Nm.shape i.op);have av:=k5 g m;have aL:u.eN g=f.data.toList.map UInt8.toNat:=by rw[hS,C.out.1];rfl
     have bl:f.size<=8:=by rw[hS,C.out.1];exact av.1
     have a7:Hid (∀G (Q:G<f.size),f[G].toNat=100\/f[G].toNat=115\/f[G].toNat=116\/f[G].toNat=109\/f[G].toNat=106\/f[G].toNat=117\/f[G].toNat=105):=by rw[hS,C.out.1];exact av.2
     rw[aL]at k;obtain⟨aJ,Y⟩:=y (⟨(99::46::u.bp g).toArray⟩:K);have bf:∀a,(Op.stringOp .add ⟨#[99,46]⟩ aI).run prog a=.ok (.string aJ) a:=by
      intro a;rw[R,C.out.1,Y];exact xS g m a
     obtain⟨X,p⟩:=y (if i.V4=2 then aJ else aI:K);have ba:(u.bp g).length<=20:=HV;have a8:X.size<=40:=by
      rw[p];split
      . rw[Y];simp[ByteArray.size];omega
      . rw[R,C.out.1];have:=n1 g m;omega
     have aM:Hid (r=(X.data.toList++u.gE ((f.data.toList.map UInt8.toNat).drop 0) (decide (0<0)) i,0)):=by
      show r=_;rw[k.out,p];split
      . rw[Y];rfl
      . rw[R,C.out.1];rfl
     have aF:=l R;have a2:=l hS;clear k av aL ba R hS Y C be;go_wp2_with fail;refine(tN i.op _).mono ?_;rintro P w3 ⟨rfl,rfl⟩;rw[<-aF.out];go_upto_if 47 with fail;go_cut [9]from 47 to 49 (fun A aA=>A=.string X/\aA=w3);case first=>
      by_cases c:i.V4=2
      . have bg:(i.V4==2)=true:=eT;rw[B c]at p;exact Nb
      . exact MY
     case rest=>
      obtain⟨rfl,rfl⟩:=hcut;clear p aF bf;go_wp2_with(go_at_call 162;refine(EM i.op _).mono ?_;rintro P bi ⟨rfl,rfl⟩;rw[<-a2.out]);clear ai aj ak al am an;go_loopw [9,11] (fun A az wr=>∃(e:Nat) (q:K),e<=f.size/\q.size<=40+60*e/\A=.string q/\az=j e/\Hid (dF i U wr)/\Hid (r=(q.data.toList++u.gE ((f.data.toList.map UInt8.toNat).drop e) (decide (0<e)) i,0))) (fun _ az _=>f.size- (intOf az).toNat);case atStart=>exact⟨0,X,by omega,by omega,rfl,rfl,aB,aM⟩
      case round=>
       obtain⟨e,q,bk,bm,rfl,rfl,ag,F⟩:=hrel;clear aM a8 aB;by_cases aQ:e<f.size
       . rw[sS f e aQ,DQ]at F;obtain⟨O,aa⟩:=y (f[e].toNat);rw[<-aa]at F;have ax:=a7.out e aQ;rw[<-aa]at ax;have bo:f[e].toNat=O:=aa.symm;have a1:=l ax;clear aa ax;obtain⟨d,E⟩:=y (⟨(u.hP O i).toArray⟩:K);have bn:d.size<=50:=by rw[E];exact C5 O i aE.out
         have aw:=aaH O a1.out i aE.out wr.drew;rw[show u.aG (u.hP O i)=.string d by rw[E];rfl]at aw;have ap:=l (aw.mono fun P U Q=>(⟨Q.1,l (ag.out.more ((aq _ _).drew.trans Q.2))⟩:_/\Hid (dF i _ U)));unfold aV at ap;have aG:=l E;clear aw E;obtain⟨-,-,ai,aj,ak,al,am,an⟩:=ag.out;go_upto_region 17 with fail;go_cut [12]from 59 to 63 (fun A aA=>A=.string d/\Hid (dF i U aA));case first=>
          go_region_with(go_at_call 163;with_reducible refine ap.out.mono ?_;rintro P bs ⟨rfl,N⟩);all_goals (go_wp2_with fail;go_meet)
          all_goals exact⟨rfl,N⟩
         case rest=>
          obtain⟨rfl,N⟩:=hcut;clear ai aj ak al am an ap ag;by_cases ae:0<e
          . have bj:((e:Int)==0)=false:=M;obtain⟨h,x⟩:=y (q++⟨#[44,32]⟩:K);have L:(⟨#[44,32]⟩:K).size=2:=rfl;have a9:h.size=q.size+2:=by rw[x,fl,L]
            have a5:∀a,(Op.stringOp .add q ⟨#[44,32]⟩).run prog a=.ok (.string h) a:=fun a=>ea (a:=q) (b:=⟨#[44,32]⟩) (c:=h) x.symm (by rw[L];omega) a;obtain⟨o,w⟩:=y (h++d:K);have a6:∀a,(Op.stringOp .add h d).run prog a=.ok (.string o) a:=zB;have S:o.size<=40+60* (e+1):=zC;have I:Hid (r=(o.data.toList++u.gE ((f.data.toList.map UInt8.toNat).drop (e+1)) (decide (0<e+1)) i,0)):=by
             show r=_;rw[F.out,w,kH,x,kH,aG.out,bc (m0 e),B ae];simp only[oJ]
            clear F x w L ae;go_wp2;go_roundw;case rel=>
             first
              |exact⟨e+1,o,by omega,S,rfl,by go_num,N,I⟩
              | ((repeat apply hB);exact⟨⟨e+1,o,by omega,S,rfl,by go_num,N,I⟩,rfl⟩)
            case measure=>exact a4
          . obtain rfl:e=0:=by omega
            obtain⟨h,x⟩:=y (q++⟨#[32]⟩:K);have L:(⟨#[32]⟩:K).size=1:=rfl;have a9:h.size=q.size+1:=by rw[x,fl,L]
            have a5:∀a,(Op.stringOp .add q ⟨#[32]⟩).run prog a=.ok (.string h) a:=fun a=>ea (a:=q) (b:=⟨#[32]⟩) (c:=h) x.symm (by rw[L];omega) a;obtain⟨o,w⟩:=y (h++d:K);have a6:∀a,(Op.stringOp .add h d).run prog a=.ok (.string o) a:=zB;have S:o.size<=40+60* (0+1):=zC;have I:Hid (r=(o.data.toList++u.gE ((f.data.toList.map UInt8.toNat).drop (0+1)) (decide (0<0+1)) i,0)):=by
             show r=_;rw[F.out,w,kH,x,kH,aG.out,bc (m0 0),z ae];simp only[oJ]
            clear F x w L ae;go_wp2;go_roundw;case rel=>
             first
              |exact⟨0+1,o,by omega,S,rfl,by go_num,N,I⟩
              | ((repeat apply hB);exact⟨⟨0+1,o,by omega,S,rfl,by go_num,N,I⟩,rfl⟩)
            case measure=>exact a4
       . have bh:decide ((e:Int)< (f.size:Int))=false:=M;have I:Hid (r=(q.data.toList,0)):=by
          show r=_;rw[F.out,eQ (by rw[gS,dP];show f.size<=e;omega)];simp[u.gE]
         clear F;go_wp2;go_ret2;exact⟨by rw[I.out];unfold u.aG;simp only[he];rfl,aC.out.trans (ag.out.below.mono aC.out.size)⟩
   . rw[z V]at k;by_cases v:T=0
     . have aD:(T !=0)=false:=sb;have aZ:(A !=n)=true:=by simp;exact fun Q=>V ⟨v,Q⟩
       exact Nc
     . have aD:(T !=0)=true:=sb;exact Nc
 . have aY:(au !=0)=true:=gV;rw[z b]at s;have k:=l s;clear s b;go_enter func119,ntmps119;exact M1
def a3.YZ {d:D}{a:Nat}{e c:K}{i:U}(t:a3 d a e i c)(b:K):a3 (d.setCell ⟨a,0,none⟩ (.string b)) a b i c:=Nj
def a3.Yz {f:D}{a:Nat}{e d:K}(t:a3 f a e ⟨0,0,0,0,0,0⟩ d)(b c:Int):a3 ((((f.setCell ⟨a,1,none⟩ (j b)).setCell ⟨a,9,none⟩ (j c)).setCell ⟨a,2,none⟩ (j b)).setCell ⟨a,7,none⟩ (j c)) a e ⟨b,0,0,0,0,c⟩ d:=Nj
def a3.YD {f:D}{a c v:Nat}{x:Value}{e d:K}{i:U}(w:a3 f a e i d)(b:a≠c):a3 (f.setCell ⟨c,v,none⟩ x) a e i d:=by
 obtain⟨g,h,j,k,l,m,n,o,p,q,s,t⟩:=id w;have r:¬c=a:=fun u=>b u.symm;exact Ni
structure kr (a:aC):Prop where
 ZV:(a.i.op=0/\a.i.V4=0/\a.Xa=[])\/(1<=a.i.op/\a.i.op<=70/\(a.i.V4=2\/a.i.V4=4))\/(a.i.op=71/\a.i.V4=4/\a.Xa=[])\/(a.i.op=72/\a.i.V4=2/\a.Xa=[])
 YY:a.i.rd<=9223372036854775807
 YI:a.i.V1<=9223372036854775807
 ZZ:a.i.V6<=9223372036854775807
def sz (i:U):Prop:=i.rd<=9223372036854775807/\i.V1<=9223372036854775807/\i.V6<=9223372036854775807
theorem B4 (a:Nat)(h:0<a):∀(d:List L) (b e:Nat),u.dc a b d=some e->e< (b+1)*a^d.length
 |[],b,e,c=>by
  simp only[u.dc,b5]at c
  simp;omega
 |f::d,b,e,c=>by
  simp only[u.dc]at c
  split at c
  . simp at c
  . next j=>
    have i:=B4 a h d _ e c
    have g:b*a+u.cp f+1<=(b+1)*a:=by rw[Nat.add_mul];omega
    rw[c6,gc,fk (a^d.length) a,<-hz]
    exact aQ i (kd _ g)
def Dt (a eX c:Nat)(d:0<a)(e:List L)(b:u.du a eX e=some c):c<a^eX:=by
 unfold u.du at b;split at b
 . simp at b
 . next f=>
   have:=B4 a d e 0 c b;rw[eg,o1]at this;exact aQ this (cV d m)
def TF (c:List L)(b:Nat)(a:u.plain c=some b):b<10000000000:=by
 unfold u.plain at a;split at a
 . have:=Dt 16 8 b R _ a;omega
 . have:=Dt 10 10 b R _ a;omega
theorem TD (a:List L):(u.plain a).getD 0<10000000000:=by
 cases b:u.plain a with
 |none=>simp
 |some c=>exact TF a c b
def Tj (a:List L):(u.number a).1<=10000000000:=by
 unfold u.number;split
 . simp only;omega
 . simp only;have:=TD a;omega
theorem DC (d:List L):∀c b r,u.j3 d c b=some r->r<b+c
 |0,b,r,a=>by simp[u.j3]at a
 |c+1,b,r,a=>by
  unfold u.j3 at a
  split at a
  . simp only[b5]at a;omega
  . have:=DC d c (b+1) r a;omega
def DE (a:List L)(r:Nat)(b:u.cq a=some r):r<32:=by
 have:=DC a 32 0 r b;omega
theorem Tn {i m:U}{g o:List L}{f:Nat}{c:List (List L)}(b:u.ca i g f c=some (m,o))(l:sz i):sz m:=by
 have j:=l;obtain⟨d,k,e⟩:=l;unfold u.ca at b;split at b
 . cases a:u.fR i f (c[0]?.getD [])with
   |none=>rw[a]at b;simp at b
   |some n=>
    rw[a]at b;simp only[gQ,b5,bK]at b;rw[<-b.1];unfold u.fR at a;split at a
    . simp at a
    . next r h=>
      have p:=DE _ r h;simp only[b5]at a;rw[<-a];split
      . exact⟨by show(r:Int)<=_;omega,k,e⟩
      . split
        . exact⟨d,by show(r:Int)<=_;omega,e⟩
        . exact⟨d,k,by show(r:Int)<=_;omega⟩
 . split at b
   . cases a:u.fQ i (c[0]?.getD []) (c[1]?.getD []) (c[2]?.getD []) (c[3]?.getD [])with
     |none=>rw[a]at b;simp at b
     |some n=>
      rw[a]at b;simp only[gQ,b5,bK]at b;rw[<-b.1];unfold u.fQ at a;split at a
      . split at a
        . simp at a
        . next r h=>
          have p:=DE _ r h;simp only[b5]at a;rw[<-a];exact⟨d,by show(r:Int)<=_;omega,e⟩
      . simp at a
   . split at b
     . simp only[b5,bK]at b;rw[<-b.1];exact j
     . cases a:u.hf i f (c[0]?.getD [])with
       |none=>rw[a]at b;simp at b
       |some n=>
        rw[a]at b;simp only[gQ,b5,bK]at b;rw[<-b.1];unfold u.hf at a;split at a
        . simp only[b5]at a;rw[<-a];have q:=Tj (c[0]?.getD []);split
          . exact⟨d,by show(u.number _).1<=_;omega,e⟩
          . exact j
        . simp at a
theorem C8 :∀(e:List Nat) (h:Bool) (i:U) (g:List L) (d:List (List L)) (b:U) (c:List L),u.bH e h i g d=some (b,c)->sz i->sz b
 |[],h,i,g,d,b,c,a,f=>by
  simp only[u.bH]at a
  split at a
  . simp only[b5,bK]at a;rw[<-a.1];exact f
  . simp at a
 |m::e,h,i,g,d,b,c,a,f=>by
  simp only[u.bH]at a
  split at a
  . simp at a
  . split at a
    . simp at a
    . next k l j=>exact C8 e true k l _ b c a (Tn j f)
theorem xr :∀(j:List Nat),(∀e∈j,¬e=106)->∀(l:Bool) (i:U) (g:List L) (h:List (List L)) (k:U) (f:List L),u.bH j l i g h=some (k,f)->f=g
 |[],_,l,i,g,h,k,f,b=>by
  simp only[u.bH]at b
  split at b
  . simp only[b5,bK]at b;exact b.2.symm
  . simp at b
 |e::j,o,l,i,g,h,k,f,b=>by
  simp only[u.bH]at b
  split at b
  . simp at b
  . split at b
    . simp at b
    . next v w a=>
      have m:=xr j (fun q r=>o q (rH _ r)) true v w _ k f b
      have s:=o e (by simp)
      rw[m]
      obtain⟨d,n⟩:=y (h.drop (if l then 1 else 0))
      rw[<-n]at a
      clear n b m
      unfold u.ca at a
      split at a
      . cases c:u.fR i e (d[0]?.getD [])with
        |none=>rw[c]at a;simp at a
        |some p=>rw[c]at a;simp only[gQ,b5,bK]at a;exact a.2.symm
      . split at a
        . cases c:u.fQ i (d[0]?.getD []) (d[1]?.getD []) (d[2]?.getD []) (d[3]?.getD [])with
          |none=>rw[c]at a;simp at a
          |some p=>rw[c]at a;simp only[gQ,b5,bK]at a;exact a.2.symm
        . split at a
          . next t=>exact absurd t.1 s
          . cases c:u.hf i e (d[0]?.getD [])with
            |none=>rw[c]at a;simp at a
            |some p=>rw[c]at a;simp only[gQ,b5,bK]at a;exact a.2.symm
theorem Fu (c:List L):∀b a,1<=a->a+b<=71->u.c8 c b a=(0,0)\/(1<=(u.c8 c b a).1/\(u.c8 c b a).1<=70/\((u.c8 c b a).2=2\/(u.c8 c b a).2=4))
 |0,a,_,_=>.inl rfl
 |b+1,a,d,f=>by
  have e:=Fu c b (a+1) (by omega) (by omega)
  unfold u.c8
  split
  . right;exact⟨d,by show a<=70;omega,.inr rfl⟩
  . split
    . right;exact⟨d,by show a<=70;omega,.inl rfl⟩
    . exact e
def aeX (a:List L):u.bj a=(0,0)\/(1<=(u.bj a).1/\(u.bj a).1<=70/\((u.bj a).2=2\/(u.bj a).2=4))\/u.bj a=(71,4)\/u.bj a=(72,2):=by
 unfold u.bj;split
 . right;right;left;rfl
 . split
   . right;right;right;rfl
   . rcases Fu a 70 1 (aB _) m with b|b
     . left;exact b
     . right;left;exact b
def Eh (a:Nat)(c:a=71\/a=72):∀b∈u.eN a,¬b=106:=by
 rcases c with rfl|rfl<;>decide
def s7 :kr eL:=⟨.inl ⟨rfl,rfl,rfl⟩,by decide,by decide,by decide⟩
theorem Dz (f:List L)(k:List (List L)):kr (u.cy f k).2:=by
 cases k with
 |nil=>exact⟨.inl ⟨rfl,rfl,rfl⟩,by show(0:Int)<=_;decide,by show(0:Int)<=_;decide,by show(0:Int)<=_;decide⟩
 |cons b LT=>
  by_cases e:(u.bj b).2=0
  . rw[ts f b LT e];exact s7
  . cases d:u.bH (u.eN (u.bj b).1) false ⟨(u.bj b).1,0,0,0,0,(u.bj b).2⟩ [] LT with
    |none=>rw[tr f b LT e d];exact s7
    |some r=>
     obtain⟨i,g⟩:=r;rw[tt f b LT e d];have c:=xq _ _ _ _ _ _ _ d;have a:=aeX b;have h:=C8 _ _ _ _ _ _ _ d ⟨by show(0:Int)<=_;decide,by show(0:Int)<=_;decide,by show(0:Int)<=_;decide⟩;refine⟨?_,h.1,h.2.1,h.2.2⟩;simp only at c|-;rcases a with a|a|a|a
     . rw[a]at e;exact absurd rfl e
     . right;left;omega
     . have j:=xr _ (Eh (u.bj b).1 (.inl (by rw[a]))) _ _ _ _ _ _ d;rw[a]at c;right;right;left;exact⟨c.2,c.1,j⟩
     . have j:=xr _ (Eh (u.bj b).1 (.inr (by rw[a]))) _ _ _ _ _ _ d;rw[a]at c;right;right;right;exact⟨c.2,c.1,j⟩
def Ur (b:List (List L))(a:List aC):kr (u.cl b a).2:=by
 unfold u.cl;split
 . split
   . split
     . exact s7
     . exact Dz _ _
   . exact s7
 . exact Dz _ _
def u.Xe (b:List aC)(a:aC)(c:Nat):List L×Int:=if a.Xa≠ []/\u.b9 b a.Xa=b.length then([],8)else if(u.cO (u.eA b a c)).2=0 then(u.dS (u.cO (u.eA b a c)).1 a.i.V4.toNat,0)else([],(u.cO (u.eA b a c)).2)
def St {a:List aC}{b:Nat}{c:List L}(f:b<a.length):u.lay a (a.drop b) b c=if(u.Xe a a[b] c.length).2=0 then u.lay a (a.drop (b+1)) (b+1) (c++(u.Xe a a[b] c.length).1)else([],(u.Xe a a[b] c.length).2,b+1):=by
 rw[xd f];unfold u.Xe;by_cases e:a[b].Xa≠ []/\u.b9 a a[b].Xa=a.length
 . rw[B e,B e,z (show ¬(8:Int)=0 by decide)]
 . rw[z e,z e];by_cases d:(u.cO (u.eA a a[b] c.length)).2=0
   . rw[B d,B d,B rfl]
   . rw[z d,z d,z d]
def Sx (b:Int)(a:Nat):(u.dS b a).length=a:=by
 unfold u.dS;rw[dP];show(strOfNums (b3 b a)).size=a;rw[Ep,xf]
def Vu {L:List aC}{l:aC}{n:Nat}(a:(u.Xe L l n).2=0):(u.Xe L l n).1.length=l.i.V4.toNat:=by
 unfold u.Xe at a|-;by_cases c:l.Xa≠ []/\u.b9 L l.Xa=L.length
 . rw[B c]at a;exact absurd a R
 . rw[z c]at a|-;by_cases b:(u.cO (u.eA L l n)).2=0
   . rw[B b];exact Sx _ _
   . rw[z b]at a;exact absurd a b
def Vw {d:List aC}{a:aC}(f:Nat)(b:a.i.V4=0)(c:a.Xa=[]):u.Xe d a f=([],0):=by
 unfold u.Xe u.eA;rw[z (fun e=>e.1 c),B c];unfold u.cO;rw[B b,B rfl,b];rfl
def Em {L:List aC}{l:aC}(n:Nat)(b a:Int)(d:Nat)(e:l.i.op=71/\d=4/\b=-2147483648/\a=4294967295\/l.i.op=72/\d=2/\b=-32768/\a=65535)(m:l.i.V4=d)(i:l.Xa=[]):u.Xe L l n=if l.i.V2<b\/a<l.i.V2 then([],7)else(u.dS l.i.V2 d,0):=by
 unfold u.Xe u.eA;rw[z (fun e=>e.1 i),B i];have k:u.cO l.i=u.nE l.i.V2 b a:=by
  unfold u.cO;rcases e with⟨h,j,g,f⟩|⟨h,j,g,f⟩
  . rw[z (by omega),B h,g,f]
  . rw[z (by omega),z (by omega),B h,g,f]
 rw[k,m];unfold u.nE;by_cases c:l.i.V2<b\/a<l.i.V2
 . rw[B c,B c];rfl
 . rw[z c,z c,B rfl];rfl
def Vv {a:List aC}{b:aC}(e:Nat)(c:¬b.Xa=[])(d:u.b9 a b.Xa=a.length):u.Xe a b e=([],8):=by
 unfold u.Xe;rw[B ⟨c,d⟩]
def En {L:List aC}{l:aC}(c:Nat)(a:U)(e:u.eA L l c=a)(g:1<=l.i.op)(h:l.i.op<=70)(k:¬l.i.V4=0)(j:a.op=l.i.op)(i:a.V4=l.i.V4)(d:¬(l.Xa≠ []/\u.b9 L l.Xa=L.length)):u.Xe L l c=if(dK a).2=0 then(u.dS (dK a).1 l.i.V4.toNat,0)else([],7):=by
 unfold u.Xe;rw[z d,e];have f:u.cO a=if(dK a).2=0 then((dK a).1,0)else(0,7):=by
  unfold u.cO;rw[z (by omega),z (by omega),z (by omega),wM a]
 rw[f];by_cases b:(dK a).2=0
 . rw[B b,B b,B rfl]
 . rw[z b,z b];rfl
def Vx (b:Int)(a:Nat):u.aG (u.dS b a)=.string (strOfNums (b3 b a)):=by
 unfold u.aG u.dS;rw[he]
def xg (b:Int)(a:Nat)(d:a<=8)(c:D):ac 89 #[j b,j a] (u.aG (u.dS b a)) c:=by
 rw[Vx];exact qX b a d c
def TC (a:List aC)(b:Nat)(c:Tidy a):((u.place a b).toNat:Int)=u.place a b:=by
 have:=mn a b c;omega
def aaQ (p:Option Addr)(F:Nat)(a:List aC)(P:a.length<=5000)(b:Nat)(E:b<a.length)(e c:List L)(f k l m i:Int)(g:Nat)(G:Hid (⟨e,⟨f,k,l,m,i,g⟩,c⟩=a[b]))(H:f=0)(M:g=0)(I:c=[])(q:D)(J:Hid (g1 q p a))(R:Hid (∀s,p=some s->s.block<q.heap.size)):
 ac 166 #[.slice p a.length F,j b] (.tuple #[u.aG (u.Xe a ⟨e,⟨f,k,l,m,i,g⟩,c⟩ (u.place a b).toNat).1,j (u.Xe a ⟨e,⟨f,k,l,m,i,g⟩,c⟩ (u.place a b).toNat).2]) q:=by
 obtain⟨r,n⟩:=y (u.Xe a ⟨e,⟨f,k,l,m,i,g⟩,c⟩ (u.place a b).toNat);rw[<-n];rcases J.out with af|⟨Q,rfl,d⟩
 . exact v9
 have d:=d b E;rw[<-G.out]at d;subst H M;have z:Hid (r=([],0)):=by
  show r=_;rw[n];exact Vw _ rfl I
 clear n;obtain⟨t,c1,c2,c3,c4,c5,A,B,v,C⟩:=id d;simp only at t c1 c2 c3 c4 c5 A B v C;obtain⟨O,w⟩:=y (⟨e.toArray⟩:K);obtain⟨h,o⟩:=y (⟨c.toArray⟩:K);rw[<-w]at t;rw[<-o]at v;have x:h.data.toList=c:=by rw[o]
 have N:(h.toList==[])=decide (h.data.toList=[]):=g9 h [];rw[x]at N;clear w o x d;go_enter o9,pa;go_wp2_with fail;go_ret2;exact⟨by rw[z.out];rfl,(aq _ _).alloc (aB _) _⟩
def aaO (p:Option Addr)(R:Nat)(a:List aC)(ag:a.length<=5000)(d:Nat)(E:d<a.length)(h e:List L)(n o q r c:Int)(s:Nat)(V:Hid (⟨h,⟨n,o,q,r,c,s⟩,e⟩=a[d]))(X:n=71)(aa:s=4)(Y:e=[])(i:D)(Z:Hid (g1 i p a))(ai:Hid (∀A,p=some A->A.block<i.heap.size)):
 ac 166 #[.slice p a.length R,j d] (.tuple #[u.aG (u.Xe a ⟨h,⟨n,o,q,r,c,s⟩,e⟩ (u.place a d).toNat).1,j (u.Xe a ⟨h,⟨n,o,q,r,c,s⟩,e⟩ (u.place a d).toNat).2]) i:=by
 obtain⟨g,w⟩:=y (u.Xe a ⟨h,⟨n,o,q,r,c,s⟩,e⟩ (u.place a d).toNat);rw[<-w];rcases Z.out with af|⟨ah,rfl,k⟩
 . exact v9
 have k:=k d E;rw[<-V.out]at k;subst X aa;have b:=Em (L:=a) (l:=⟨h,⟨71,o,q,r,c,(4:Nat)⟩,e⟩) (u.place a d).toNat (-2147483648) 4294967295 4 (.inl ⟨rfl,rfl,rfl,rfl⟩) rfl Y;rw[<-w]at b;simp only at b;obtain⟨C,c1,c2,c3,c4,c5,O,P,F,Q⟩:=id k;simp only at C c1 c2 c3 c4 c5 O P F Q;obtain⟨ae,G⟩:=y (⟨h.toArray⟩:K);obtain⟨t,x⟩:=y (⟨e.toArray⟩:K);rw[<-G]at C;rw[<-x]at F;have H:t.data.toList=e:=by rw[x]
 have ad:(t.toList==[])=decide (t.data.toList=[]):=g9 t [];rw[H]at ad;clear G x H k;have I:∀ab,Below i.heap.size i (i.alloc ab):=sa;have v:=l I;clear I w;have J:=fun W=>xg c 4 m W;have N:=l J;clear J;by_cases S:4294967295<c
 . have f:Hid (g=([],7)):=by
    show g=_;rw[b,B (.inr S)]
   have U:decide (4294967296<=c)=true:=M;exact wa
 . have U:decide (4294967296<=c)=false:=M;by_cases T:c < -2147483648
   . have f:Hid (g=([],7)):=by
      show g=_;rw[b,B (.inl T)]
     exact wa
   . have f:Hid (g=(u.dS c 4,0)):=by
      show g=_;rw[b,z (by omega)]
     exact Nn
def aaN (p:Option Addr)(R:Nat)(a:List aC)(ag:a.length<=5000)(d:Nat)(E:d<a.length)(h e:List L)(n o q r c:Int)(s:Nat)(V:Hid (⟨h,⟨n,o,q,r,c,s⟩,e⟩=a[d]))(X:n=72)(aa:s=2)(Y:e=[])(i:D)(Z:Hid (g1 i p a))(ai:Hid (∀A,p=some A->A.block<i.heap.size)):
 ac 166 #[.slice p a.length R,j d] (.tuple #[u.aG (u.Xe a ⟨h,⟨n,o,q,r,c,s⟩,e⟩ (u.place a d).toNat).1,j (u.Xe a ⟨h,⟨n,o,q,r,c,s⟩,e⟩ (u.place a d).toNat).2]) i:=by
 obtain⟨g,w⟩:=y (u.Xe a ⟨h,⟨n,o,q,r,c,s⟩,e⟩ (u.place a d).toNat);rw[<-w];rcases Z.out with af|⟨ah,rfl,k⟩
 . exact v9
 have k:=k d E;rw[<-V.out]at k;subst X aa;have b:=Em (L:=a) (l:=⟨h,⟨72,o,q,r,c,(2:Nat)⟩,e⟩) (u.place a d).toNat (-32768) 65535 2 (.inr ⟨rfl,rfl,rfl,rfl⟩) rfl Y;rw[<-w]at b;simp only at b;obtain⟨C,c1,c2,c3,c4,c5,O,P,F,Q⟩:=id k;simp only at C c1 c2 c3 c4 c5 O P F Q;obtain⟨ae,G⟩:=y (⟨h.toArray⟩:K);obtain⟨t,x⟩:=y (⟨e.toArray⟩:K);rw[<-G]at C;rw[<-x]at F;have H:t.data.toList=e:=by rw[x]
 have ad:(t.toList==[])=decide (t.data.toList=[]):=g9 t [];rw[H]at ad;clear G x H k;have I:∀ab,Below i.heap.size i (i.alloc ab):=sa;have v:=l I;clear I w;have J:=fun W=>xg c 2 m W;have N:=l J;clear J;by_cases S:65535<c
 . have f:Hid (g=([],7)):=by
    show g=_;rw[b,B (.inr S)]
   have U:decide (65536<=c)=true:=M;exact wa
 . have U:decide (65536<=c)=false:=M;by_cases T:c < -32768
   . have f:Hid (g=([],7)):=by
      show g=_;rw[b,B (.inl T)]
     exact wa
   . have f:Hid (g=(u.dS c 2,0)):=by
      show g=_;rw[b,z (by omega)]
     exact Nn
def aaP (p:Option Addr)(ak:Nat)(d:List aC)(aK:d.length<=5000)(o:Nat)(E:o<d.length)(O n:List L)(c f g h i:Int)(a:Nat)(aY:Hid (⟨O,⟨c,f,g,h,i,a⟩,n⟩=d[o]))(hd:Hid (Tidy d))(aa:1<=c)(ab:c<=70)(aP:a=2\/a=4)(aE:f<=9223372036854775807)(aF:g<=9223372036854775807)(aG:h<=9223372036854775807)(e:D)(aw:Hid (g1 e p d))(aO:Hid (∀aA,p=some aA->aA.block<e.heap.size)):
 ac 166 #[.slice p d.length ak,j o] (.tuple #[u.aG (u.Xe d ⟨O,⟨c,f,g,h,i,a⟩,n⟩ (u.place d o).toNat).1,j (u.Xe d ⟨O,⟨c,f,g,h,i,a⟩,n⟩ (u.place d o).toNat).2]) e:=by
 obtain⟨F,C⟩:=y (u.Xe d ⟨O,⟨c,f,g,h,i,a⟩,n⟩ (u.place d o).toNat);rw[<-C];rcases aw.out with af|⟨aD,rfl,Y⟩
 . exact v9
 have Y:=Y o E;rw[<-aY.out]at Y;obtain⟨aH,c1,c2,c3,c4,c5,aS,aT,aI,aW⟩:=id Y;simp only at aH c1 c2 c3 c4 c5 aS aT aI aW;obtain⟨t,aL⟩:=y (⟨O.toArray⟩:K);obtain⟨k,am⟩:=y (⟨n.toArray⟩:K);rw[<-aL]at aH;rw[<-am]at aI;have an:k.data.toList=n:=by rw[am]
 have ay:(k.toList==[])=decide (k.data.toList=[]):=g9 k [];rw[an]at ay;have aR:=l an;clear aL am an Y;have a4:(c==0)=false:=M;have a5:(c==71)=false:=M;have a6:(c==72)=false:=M;have a8:a<=4:=J;have aQ:¬a=0:=J;have V:=a3.new e t ⟨c,f,g,h,i,a⟩ k;have x:Below e.heap.size e (e.alloc (bn t ⟨c,f,g,h,i,a⟩ k)):=lT;by_cases w:n=[]
 . rw[bc w]at ay;have v:=En (L:=d) (l:=⟨O,⟨c,f,g,h,i,a⟩,n⟩) (u.place d o).toNat ⟨c,f,g,h,i,a⟩ (by unfold u.eA;rw[B w]) aa ab (by show ¬(a:Int)=0;omega) rfl rfl (fun q=>q.1 w);rw[<-C]at v;obtain⟨aj,I⟩:=y (dK ⟨c,f,g,h,i,a⟩);rw[<-I]at v;have s:Below e.heap.size e ((e.alloc (bn t ⟨c,f,g,h,i,a⟩ k)).alloc (.cells #[j c,j f,j g,j h,j i,j a] 60)):=x.alloc x.size _;have N:=tn ⟨c,f,g,h,i,a⟩ aE aF aG ((e.alloc (bn t ⟨c,f,g,h,i,a⟩ k)).alloc (.cells #[j c,j f,j g,j h,j i,j a] 60));rw[<-I]at N;have G:=l (N.mono fun H r q=>(⟨q.1,l (s.trans (q.2.mono s.size)),((V.alloc _).more q.2 (V.alloc _).lt).Xi⟩:_/\Hid (Below e.heap.size e r)/\r.cell? ⟨e.heap.size,9,none⟩=some (j a)));unfold aV bn at G;obtain⟨Z,X⟩:=aj;have P:Hid (F=if X=0 then(u.dS Z a,0)else([],7)):=v;clear v I N x s V w C aa ab aP aQ;go_enter o9,pa;go_wp2_with fail;refine G.out.mono ?_;rintro H r ⟨rfl,ag,d9⟩;clear G;exact No
 . rw[aU w]at ay;have aN:=aan (some ⟨aD,0,none⟩) ak d aK k;have ae:=fun W (ao:Below e.heap.size e W)=>aN W (l (aw.out.below ao aO.out));have ad:=fun W (ao:Below e.heap.size e W) a2 aZ=>aai (some ⟨aD,0,none⟩) ak d aK hd W (l (aw.out.below ao aO.out)) a2 aZ;rw[aR.out]at ae;obtain⟨Q,hF⟩:=y (u.b9 d n);have a7:Q<=d.length:=by rw[hF];exact u.wU d n
   rw[<-hF]at ae;have s:Below e.heap.size e ((e.alloc (bn t ⟨c,f,g,h,i,a⟩ k)).alloc (.cells #[j c,j f,j g,j h,j i,j a] 60)):=x.alloc x.size _;have T:=ae _ s;clear aN ae;by_cases aM:Q=d.length
   . have P:Hid (F=([],8)):=by
      show F=_;rw[C];exact Vv _ w (by show u.b9 d n=_;rw[<-hF];exact aM)
     rw[z (by omega)]at T;have R:=l T;have az:=l s;unfold bn at R az;clear C hF T x s V w ad;go_enter o9,pa;go_wp2_with fail;refine R.out.mono ?_;rintro H r ⟨rfl,rfl⟩;go_wp2_with fail;go_ret2;exact⟨by rw[P.out];rfl,az.out⟩
   . have aX:Q<d.length:=J;rw[B aX]at T;have ap:=ad _ s Q m;have ar:=ad _ s o m;have a0:=mn d Q hd.out;have a1:=mn d o hd.out;have av:=TC d o hd.out;obtain⟨S,al⟩:=y (u.place d Q);obtain⟨A,aJ⟩:=y (u.place d o);rw[<-al]at ap a0;rw[<-aJ]at ar a1 av C;have v:=En (L:=d) (l:=⟨O,⟨c,f,g,h,i,a⟩,n⟩) A.toNat ⟨c,f,g,h,S-A,a⟩ (by
      unfold u.eA;rw[z w,av];show({(⟨c,f,g,h,i,a⟩:U)with V2:=u.place d (u.b9 d n)-A}:U)=_;rw[<-hF,<-al]) aa ab (by show ¬(a:Int)=0;omega) rfl rfl (fun q=>aM (by rw[hF];exact q.2))
     rw[<-C]at v;obtain⟨aj,I⟩:=y (dK ⟨c,f,g,h,S-A,a⟩);rw[<-I]at v;have ax:Below e.heap.size e ((e.alloc (bn t ⟨c,f,g,h,i,a⟩ k)).alloc (.cells #[j c,j f,j g,j h,j (S-A),j a] 60)):=x.alloc x.size _;have N:=tn ⟨c,f,g,h,S-A,a⟩ aE aF aG ((e.alloc (bn t ⟨c,f,g,h,i,a⟩ k)).alloc (.cells #[j c,j f,j g,j h,j (S-A),j a] 60));rw[<-I]at N;have au:a3 ((e.alloc (bn t ⟨c,f,g,h,i,a⟩ k)).alloc (.cells #[j c,j f,j g,j h,j (S-A),j a] 60)) e.heap.size t ⟨c,f,g,h,i,a⟩ k:=V.alloc _;have G:=l (N.mono fun H r q=>(⟨q.1,l (ax.trans (q.2.mono ax.size)),(au.more q.2 au.lt).Xi⟩:_/\Hid (Below e.heap.size e r)/\r.cell? ⟨e.heap.size,9,none⟩=some (j a)));have R:=l T;have ah:=l ap;have ai:=l ar;unfold aV bn at G;unfold bn at R ah ai;obtain⟨Z,X⟩:=aj;have P:Hid (F=if X=0 then(u.dS Z a,0)else([],7)):=v;clear v I N x s ax V au w C aa ab aP aQ hF al aJ av ad ap ar T;go_enter o9,pa;go_wp2_with fail;refine R.out.mono ?_;rintro H r ⟨rfl,rfl⟩;go_wp2_with fail;refine ah.out.mono ?_;rintro H r ⟨rfl,rfl⟩;go_wp2_with fail;refine ai.out.mono ?_;rintro H r ⟨rfl,rfl⟩;go_wp2_with fail;refine G.out.mono ?_;rintro H r ⟨rfl,ag,d9⟩;clear G R ah ai;exact No
def aaM (p:Option Addr)(g:Nat)(a:List aC)(k:a.length<=5000)(hd:Hid (Tidy a))(b:Nat)(n:b<a.length)(H:kr a[b])(d:D)(q:Hid (g1 d p a))(o:Hid (∀C,p=some C->C.block<d.heap.size)):
 ac 166 #[.slice p a.length g,j b] (.tuple #[u.aG (u.Xe a a[b] (u.place a b).toNat).1,j (u.Xe a a[b] (u.place a b).toNat).2]) d:=by
 obtain⟨B,h⟩:=y (a[b]);rw[<-h]at H|-;obtain⟨I,E,F,G⟩:=H;have r:∃f:Nat,B.i.V4=f:=⟨B.i.V4.toNat,by omega⟩;obtain⟨f,r⟩:=r;obtain⟨t,⟨v,w,x,z,s,J⟩,A⟩:=B;simp only at I E F G r;subst r;rcases I with⟨c,i,e⟩|⟨c,i,e⟩|⟨c,i,e⟩|⟨c,i,e⟩
 . exact aaQ p g a k b n t A v w x z s f (l h) c m e d q o
 . exact aaP p g a k b n t A v w x z s f (l h) hd c i m E F G d q o
 . exact aaO p g a k b n t A v w x z s f (l h) c m e d q o
 . exact aaN p g a k b n t A v w x z s f (l h) c m e d q o
def QG (i:U)(a:D):(binOp .eql 60 (.agg #[.int .i64 i.op,.int .i64 i.rd,.int .i64 i.V1,.int .i64 i.V6,.int .i64 i.V2,.int .i64 i.V4]) (.agg #[.int .i64 i.op,.int .i64 i.rd,.int .i64 i.V1,.int .i64 i.V6,.int .i64 i.V2,.int .i64 i.V4])).run prog a=.ok (.bool true) a:=by
 rw[wN];simp
def Sa (d:Int)(o:D):
 ac 72 #[j d] (.bool true) o:=by
 have hd:=qf d o;have c:=fun W=>qC d W;rw[<-ma]at c;obtain⟨p,n⟩:=y (aP d);rw[<-n]at hd c;obtain⟨i,m⟩:=p;have u:=QG i;have s:(m==m)=true:=bL;have f:=l hd;have HR:=l c;unfold aV at f HR;clear hd c n;go_enter func72,ntmps72;go_wp2_with fail;refine f.out.mono ?_;rintro q a ⟨rfl,g⟩;have h:=l (g.alloc g.size (.cells #[j i.op,j i.rd,j i.V1,j i.V6,j i.V2,j i.V4] 60));clear g f;go_wp2_with fail;refine(HR.out _).mono ?_;rintro q b ⟨rfl,e⟩;have r:al b a.heap.size 0 (j i.op):=pB;have c1:al b a.heap.size 1 (j i.rd):=pB;have c2:al b a.heap.size 2 (j i.V1):=pB;have c3:al b a.heap.size 3 (j i.V6):=pB;have c4:al b a.heap.size 4 (j i.V2):=pB;have c5:al b a.heap.size 5 (j i.V4):=pB;have t:a.heap.size<b.heap.size:=aQ F e.size;have k:=l (h.out.trans (e.mono h.out.size));clear e HR;go_wp2_with fail;go_ret;exact⟨rfl,k.out.alloc k.out.size _⟩
def Sf (i:U)(n:i.rd<=9223372036854775807)(o:i.V1<=9223372036854775807)(p:i.V6<=9223372036854775807)(a:D):
 ac 73 #[aV i] (.bool true) a:=by
 have hd:=w0 i;have d:=fun W=>tn i n o p W;rw[<-wM]at d;obtain⟨k,g⟩:=y (fd i);rw[<-g]at hd d;obtain⟨h,f⟩:=k;have r:(f==f)=true:=bL;have s:(h==h)=true:=bL;have e:=l hd;have HR:=l d;unfold aV at e HR|-;clear hd d g;go_enter func73,ntmps73;go_wp2_with fail;refine(e.out _).mono ?_;rintro m b ⟨rfl,c⟩;have q:al b a.heap.size 0 (j i.op):=ih;have c1:al b a.heap.size 1 (j i.rd):=ih;have c2:al b a.heap.size 2 (j i.V1):=ih;have c3:al b a.heap.size 3 (j i.V6):=ih;have c4:al b a.heap.size 4 (j i.V2):=ih;have c5:al b a.heap.size 5 (j i.V4):=ih;have I:=l (((aq a.heap.size a).alloc (aB _) _).trans (c.mono F));clear c;go_wp2_with fail;refine(HR.out _).mono ?_;rintro m t ⟨rfl,P⟩;go_wp2_with fail;exact M8
def Sr (c:Int)(e:D)(m:Hid (em e)):
 ac 74 #[j c] (.bool true) e:=by
 have hd:=OC c e m;have d:=fun W=>aah c W;obtain⟨k,h⟩:=y (u.iJ c);rw[<-h]at hd d;obtain⟨n,g⟩:=k;obtain⟨f,i⟩:=y (⟨n.toArray⟩:K);have p:(g==g)=true:=bL;have q:(f.toList==f.toList)=true:=bL;have a:=l hd;have HR:=l d;unfold u.aG at a HR;simp only at a HR;rw[<-i]at a HR;clear hd d h i;go_enter func74,ntmps74;go_wp2_with fail;refine a.out.mono ?_;rintro o r ⟨rfl,b⟩;go_wp2_with fail;refine(HR.out _).mono ?_;exact Np
end Go.Proofs.YtmlgonbhoknoiabGreatDoor
