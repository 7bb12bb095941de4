import Derived.Test.YtmlgonbhoknoiaaGreatDoorJAT
import Derived.Test.YtmlgonbhoknoiaaGreatDoorJAY
set_option maxHeartbeats 8000000
set_option maxRecDepth 100000
set_option linter.all false
namespace Go.Proofs.YtmlgonbhoknoiaaGreatDoor
open Go.RowKit Go.Proofs.Tryz
def nL (a:N):List Value:=((ct 0 a).drop 1).take 37
def qD (a:P):List Value:=[j a.Wj,j a.time,j a.Wh,j a.cmp,j a.Wv]
def qk (a:P):List Value:=[j a.enable,j a.Wr,.bool a.lost,.string a.rx,.string a.Wc]
def fy {h:Program}{a:Array Oper}{d:Exit->Act->D->Prop}{g:Region.Mode}{e:D->Prop}{p:Nat}{f:Array Bool}{c n:Act}{b:D}(i j:Nat)(m:Value)(hS:e b)(k:wpAnyH h g a d e p (f.setIfInBounds i true) n b){l:Oper}(t:a[i]?=some l:=by rfl)(hd:l.dst=some j:=by rfl)(v:Region.noSelect a=true:=by kernel_rfl)(s:Region.free g a f i=true:=by kernel_rfl)(u:(Region.ready g a f).contains i=true:=by kernel_rfl)(q:∀o c b,d (.panic o) (c.put (some j) m) b->d (.panic o) c b:=by exact fun _ _ _ k=>k)(w:YieldsIf h a e l m c:=by exact hz ⟨by kernel_rfl,fun b x=>by go_simp⟩)(r:c.put (some j) m=n:=by simp only[Act.put,ka,kb,kc];rfl):wpAnyH h g a d e (p+1) f c b:=
 rg t v s u (by rw[hd];exact q) w hS (by rw[hd,r];exact k)
def QP (a:N):AY a (nL a):=by
 refine⟨fun b c=>?_,rfl,rfl,rfl,rfl,rfl,rfl⟩;rcases b with _|_|_|_|_|_|_|_|_|_|_|_|_|_|_|_|_|_|_|_|_|_|_|_|_|_|_|_|_|_|_|_|b;all_goals first|rfl|omega
def E.sub {h f g d}(j:E h f g d)(c:Nat)(b:List Value)(i:∀a,a<b.length->(ct g d)[c+a]?=b[a]?)(l:c+b.length<=71):h.rangeAt f c b:=fun a m e=>by
 have k:=(oF.1 e).1
 rw[j.cell (c+a) (by omega),i a k,e]
def E.ZN {e d g a}(f:E e d g a):e.rangeAt d 1 (nL a):=f.sub 1 _ (fun c b=>by
 have b:c<37:=b
 show _=(((ct 0 a).drop 1).take 37)[c]?
 rw[FF b,oE,qZ]
 rfl) (by show 1+37<=71;decide)
def E.ZO {e d g b}(f:E e d g b):e.rangeAt d 61 (qD b.b):=f.sub 61 _ (fun a c=>by
 have c:a<5:=c
 rcases a with _|_|_|_|_|a
 all_goals first|rfl|omega) (by show _+5<=71;decide)
def E.ZP {e d g b}(f:E e d g b):e.rangeAt d 66 (qk b.b):=f.sub 66 _ (fun a c=>by
 have c:a<5:=c
 rcases a with _|_|_|_|_|a
 all_goals first|rfl|omega) (by show _+5<=71;decide)
def qu (a:N):K:=((mi a++mb a)++lg a.b)++kZ a.b
def QQ (a:N):(mi a).size=140:=by
 have b:(if a.waits=true then(⟨#[119]⟩:K)else⟨#[45]⟩).size=1:=by cases a.waits<;>rfl
 have c:(if a.W9=true then(⟨#[114]⟩:K)else⟨#[45]⟩).size=1:=by cases a.W9<;>rfl
 unfold mi;simp only[fm,bt,s8,b,c]
def PT (a:N):(mb a).size=92:=by
 unfold mb;exact LP
def aaP (a:P):(lg a).size=17:=by
 unfold lg;exact LP
def T7 (a:P):(kZ a).size=5+a.rx.size+a.Wc.size:=by
 have b:(if a.lost=true then(⟨#[33]⟩:K)else⟨#[46]⟩).size=1:=by cases a.lost<;>rfl
 unfold kZ;simp only[fm,bt,b];omega
def af9 (b Z a)(h:af a)(g)(ag:Hid (E g b Z a)):
 aE 69 #[I b] (.string (qu a)) g:=by
 have t:=fun W=>l (ag2 a (nL a) (l (QP a)) W);have O:=fun W=>l (agZ a W);have r:=fun W=>l (aiY a.b W);have q:=fun W=>l (ahG a.b h.b.rx h.b.Wc W);have aa:=QQ a;have ab:=PT a;have ac:=aaP a.b;have ad:=T7 a.b;have ai:=h.b.rx;have aj:=h.b.Wc;have f:Hid (∀W,E W b Z a->W.rangeAt b 1 (nL a)/\W.rangeAt b 38 (fr a)/\W.rangeAt b 61 (qD a.b)/\W.rangeAt b 66 (qk a.b)):=fun W c=>⟨c.ZN,jN c,c.ZO,c.ZP⟩;have U:(nL a).length=37:=rfl;have V:(fr a).length=23:=rfl;have X:(qD a.b).length=5:=rfl;have Y:(qk a.b).length=5:=rfl;have K:Value.agg #[j a.b.Wj,j a.b.time,j a.b.Wh,j a.b.cmp,j a.b.Wv]=.agg (qD a.b).toArray:=rfl;have J:bx a.b=.agg (qk a.b).toArray:=rfl;rw[K]at r;rw[J]at q;clear K J;unfold qu;obtain⟨k,C⟩:=y (nL a);obtain⟨n,D⟩:=y (fr a);obtain⟨o,G⟩:=y (qD a.b);obtain⟨p,H⟩:=y (qk a.b);obtain⟨ak,x⟩:=y (mi a);obtain⟨al,z⟩:=y (mb a);obtain⟨am,A⟩:=y (lg a.b);obtain⟨an,B⟩:=y (kZ a.b);simp only[<-C,<-D,<-G,<-H,<-x,<-z,<-A,<-B]at t O r q f U V X Y aa ab ac ad|-;clear C D G H x z A B;obtain⟨t2,u,y2,ao⟩:=bj ak al m;obtain⟨t3,v,y3,ap⟩:=bj t2 am m;obtain⟨t4,w,y4,aq⟩:=bj t3 an m;rw[<-u,<-v,<-w];clear u v w y2 y3 y4 aa ab ac ad ai aj h;have Q:=l ag.out.drew;have ae:=f.out _ Q.out;go_enter func69,ntmps69;go_upto_region 1 with fail;refine wp_region_held_drew (S:=fun i=>i.rangeAt b 1 k/\i.rangeAt b 38 n/\i.rangeAt b 61 o/\i.rangeAt b 66 p) aQ ae (fun hHeld=>?_);refine fy 0 3 (I b) hHeld ?_;refine fy 1 4 (I b) hHeld ?_;refine fy 2 5 (.pointer (some ⟨b,1,none⟩)) hHeld ?_;refine rg (i:=3) (oi:=⟨some 6,.load 67 (.tmp 5),_,_,_,_⟩) (v:=.agg k.toArray) rfl aQ aQ aQ (fun _ _ _ c=>c) (um aQ 67 (.tmp 5) rfl b 1 aQ k _ (fun g c=>c.1) Tryz.underlying67 rfl (by rw[Cb,U])) hHeld ?_;try simp only[Act.put,ka,kb,kc]
 refine fy 5 8 (I b) hHeld ?_;refine fy 6 9 (I b) hHeld ?_;refine fy 7 10 (.pointer (some ⟨b,38,none⟩)) hHeld ?_;refine rg (i:=8) (oi:=⟨some 11,.load 71 (.tmp 10),_,_,_,_⟩) (v:=.agg n.toArray) rfl aQ aQ aQ (fun _ _ _ c=>c) (um aQ 71 (.tmp 10) rfl b 38 aQ n _ (fun g c=>c.2.1) rb rfl (by rw[wH,V])) hHeld ?_;try simp only[Act.put,ka,kb,kc]
 refine fy 11 14 (I b) hHeld ?_;refine fy 12 15 (I b) hHeld ?_;refine fy 13 16 (.pointer (some ⟨b,61,none⟩)) hHeld ?_;refine rg (i:=14) (oi:=⟨some 17,.load 73 (.tmp 16),_,_,_,_⟩) (v:=.agg o.toArray) rfl aQ aQ aQ (fun _ _ _ c=>c) (um aQ 73 (.tmp 16) rfl b 61 aQ o _ (fun g c=>c.2.2.1) Tryz.underlying73 rfl (by rw[Cc,X])) hHeld ?_;try simp only[Act.put,ka,kb,kc]
 refine fy 17 20 (I b) hHeld ?_;refine fy 18 21 (I b) hHeld ?_;refine fy 19 22 (.pointer (some ⟨b,66,none⟩)) hHeld ?_;refine rg (i:=20) (oi:=⟨some 23,.load 75 (.tmp 22),_,_,_,_⟩) (v:=.agg p.toArray) rfl aQ aQ aQ (fun _ _ _ c=>c) (um aQ 75 (.tmp 22) rfl b 66 aQ p _ (fun g c=>c.2.2.2) Tryz.underlying75 rfl (by rw[Cd,Y])) hHeld ?_;try simp only[Act.put,ka,kb,kc]
 refine un (rs:=[4]) aQ F ?_;refine uo rfl (fun e d=>?_) up;go_simp;refine(t _).out.mono ?_;rintro s ar ⟨rfl,L⟩;have R:=l (Q.out.kept L);refine d.out _ _ (f.out _ R.out) (fun hHeld=>?_);clear d e;try simp only[Act.put,ka,kb,kc]
 refine un (rs:=[9]) aQ F ?_;refine uo rfl (fun e d=>?_) up;go_simp;refine(O _).out.mono ?_;rintro s au ⟨rfl,M⟩;have S:=l (R.out.kept M);refine d.out _ _ (f.out _ S.out) (fun hHeld=>?_);clear d e;try simp only[Act.put,ka,kb,kc]
 refine fy 10 13 (.string t2) hHeld ?_;refine un (rs:=[15]) aQ F ?_;refine uo rfl (fun e d=>?_) up;go_simp;refine(r _).out.mono ?_;rintro s w3 ⟨rfl,N⟩;have T:=l (S.out.kept N);refine d.out _ _ (f.out _ T.out) (fun hHeld=>?_);clear d e;try simp only[Act.put,ka,kb,kc]
 refine fy 16 19 (.string t3) hHeld ?_;refine un (rs:=[21]) aQ F ?_;refine uo rfl (fun e d=>?_) up;go_simp;refine(q _).out.mono ?_;rintro s av ⟨rfl,P⟩;have ah:=l (T.out.kept P);refine d.out _ _ (f.out _ ah.out) (fun hHeld=>?_);clear d e;try simp only[Act.put,ka,kb,kc]
 refine fy 22 25 (.string t4) hHeld ?_;refine fy 23 2 (.string t4) hHeld ?_;refine wpAnyH_done aQ ?_ _;all_goals
  go_wp2_with fail;go_ret;exact⟨rfl,((((Kept.refl _ _).drew.trans L).trans M).trans N).trans P⟩
namespace u
def hO :List L->Nat
 |[]=>0
 |a::b=>(if a.toNat=10 then 1 else 0)+hO b
theorem CH :∀a,hO a<=a.length
 |[]=>aB _
 |b::a=>by have:=CH a;simp only[hO,c9];split<;>omega
def ca :List aC->List L->Nat
 |[],_=>0
 |c::b,a=>if c.Xz=a then 0 else ca b a+1
theorem wy :∀a b,ca a b<=a.length
 |[],_=>aB _
 |c::a,b=>by have:=wy a b;simp only[ca,c9];split<;>omega
def eN (a:Nat):List Nat:=(Nm.shape a).data.toList.map UInt8.toNat
def cA (c:List L)(b:List (List L)):Int×aC:=
 match b with
 |[]=>(0,⟨c,aF,[]⟩)
 |a::b=>if(bk a).2=0 then(5,eL)else
  match bJ (eN (bk a).1) false ⟨(bk a).1,0,0,0,0,(bk a).2⟩ [] b with
  |none=>(6,eL)
  |some (i,g)=>(0,⟨c,i,g⟩)
def cm (a:List (List L))(b:List aC):Int×aC:=
 if 1<a.length/\a[1]?.getD []=[58]then
  if isName (a[0]?.getD [])=true then
   if ca b (a[0]?.getD [])<b.length then(9,eL)else cA (a[0]?.getD []) (a.drop 2)
  else(5,eL)
 else cA [] a
def bP (a:List L):List L->List (List L)
 |[]=>[a]
 |b::c=>if b.toNat=10 then a::bP [] c else bP (a++[b]) c
def readAll :List aC->List (List L)->List aC×Int×Nat
 |a,[]=>(a,0,0)
 |a,b::c=>if(cm (tok b.length b) a).1=0 then readAll (a++[(cm (tok b.length b) a).2]) c else([],(cm (tok b.length b) a).1,a.length+1)
def place :List aC->Nat->Int
 |[],_=>0
 |_,0=>0
 |b::a,c+1=>b.i.V4+place a c
def nA (a least eX:Int):Int×Int:=if a<least\/eX<a then(0,7)else(a,0)
def cQ (i:U):Int×Int:=
 if i.V4=0 then(0,0)else if i.op=71 then nA i.V2 (-2147483648) 4294967295 else if i.op=72 then nA i.V2 (-32768) 65535 else
 if(fe i).2=0 then((fe i).1,0)else(0,7)
def dT (b:Int)(a:Nat):List L:=(strOfNums (b4 b a)).data.toList
def eA (b:List aC)(a:aC)(c:Nat):U:=if a.Xa=[]then a.i else{a.i with V2:=place b (ca b a.Xa)-c}
def lay (a:List aC):List aC->Nat->List L->List L×Int×Nat
 |[],_,c=>(c,0,0)
 |b::e,d,c=>
  if b.Xa≠ []/\ca a b.Xa=a.length then([],8,d+1)else
  if(cQ (eA a b c.length)).2=0 then lay a e (d+1) (c++dT (cQ (eA a b c.length)).1 b.i.V4.toNat)else([],(cQ (eA a b c.length)).2,d+1)
def g6 (a:List L):List L×Int×Nat:=
 if 4096<a.length then([],1,0)else if 256<1+hO a then([],4,0)else
 if(readAll [] (bP [] a)).2.1=0 then lay (readAll [] (bP [] a)).1 (readAll [] (bP [] a)).1 0 []else([],(readAll [] (bP [] a)).2.1,(readAll [] (bP [] a)).2.2)
end u
def Of (b:K)(v:b.size<=5000)(q:D):
 O 123 #[.string b] (j ((1+u.hO b.data.toList:Nat):Int)) q:=by
 obtain⟨d,e⟩:=y (1+u.hO b.data.toList);rw[<-e];have h:=l e;clear e;go_enter func123,ntmps123;go_wp2;go_loop [3,4] (fun o m=>∃a c:Nat,a<=b.size/\c<=1+a/\o=j c/\m=j a/\Hid (d=c+u.hO (b.data.toList.drop a))) (fun _ m=>b.size- (intOf m).toNat);case atStart=>exact⟨0,1,by omega,by omega,rfl,rfl,h⟩
 case round=>
  obtain⟨a,c,s,t,rfl,rfl,g⟩:=hrel;by_cases p:a<b.size
  . have f:d=c+((if b[a].toNat=10 then 1 else 0)+u.hO (b.data.toList.drop (a+1))):=by rw[g.out,eF b a p];rfl
    by_cases i:b[a].toNat=10
    . have n:((b[a].toNat:Int)==10)=true:=M;rw[B i]at f;have k:=l f;clear f g h i;go_wp2;go_round;case rel=>exact⟨a+1,c+1,by omega,by omega,by go_num,by go_num,by show d=_;rw[k.out];omega⟩
      case measure=>exact a5
    . have n:((b[a].toNat:Int)==10)=false:=M;rw[z i]at f;have k:=l f;clear f g h i;go_wp2;go_round;case rel=>exact⟨a+1,c,by omega,by omega,rfl,by go_num,by show d=_;rw[k.out];omega⟩
      case measure=>exact a5
  . have r:decide ((a:Int)< (b.size:Int))=false:=M;have e:Hid (d=c):=(by rw[g.out,eQ (by simp;omega)];rfl:d=c);clear g h;exact rU
structure r9 (d:D)(a c:Nat)(b:aC):Prop where
 V8:d.cell? ⟨a,c,none⟩=some (.string ⟨b.Xz.toArray⟩)
 c1:d.cell? ⟨a,c+1,none⟩=some (j b.i.op)
 c2:d.cell? ⟨a,c+2,none⟩=some (j b.i.rd)
 c3:d.cell? ⟨a,c+3,none⟩=some (j b.i.V1)
 c4:d.cell? ⟨a,c+4,none⟩=some (j b.i.V6)
 c5:d.cell? ⟨a,c+5,none⟩=some (j b.i.V2)
 W4:d.cell? ⟨a,c+6,none⟩=some (j b.i.V4)
 W5:d.cell? ⟨a,c+7,none⟩=some (.string ⟨b.Xa.toArray⟩)
def jJ (d:D)(p:Option Addr)(a:List aC):Prop:=a=[]\/∃c,p=some ⟨c,0,none⟩/\∀b (e:b<a.length),r9 d c (b*8) a[b]
def wx (b:List aC)(c:List L)(a:Nat)(d:a<b.length):a+u.ca (b.drop a) c=if b[a].Xz=c then a else(a+1)+u.ca (b.drop (a+1)) c:=by
 rw[js d];simp only[u.ca];split<;>omega
def A6 (p:Option Addr)(v:Nat)(f:List aC)(C:f.length<=5000)(d:K)(t:D)(r:Hid (jJ t p f)):
 O 183 #[.slice p f.length v,.string d] (j (u.ca f d.data.toList)) t:=by
 obtain⟨o,e⟩:=y (u.ca f d.data.toList);rw[<-e];have n:=l e;clear e;go_enter func183,ntmps183;go_wp2;go_loop [5] (fun q=>∃a:Nat,a<=f.length/\q=j a/\Hid (o=a+u.ca (f.drop a) d.data.toList)) (fun q=>f.length- (intOf q).toNat);case atStart=>exact AD
 case round=>
  obtain⟨a,E,rfl,b⟩:=hrel;by_cases c:a<f.length
  . rcases r.out with k|⟨A,rfl,s⟩
    . exact lV
    have k:=(s a c).V8;rw[wx f _ a c]at b;clear s r n;obtain⟨m,i⟩:=y (⟨f[a].Xz.toArray⟩:K);have h:=md d m _ i;rw[<-i]at k;by_cases g:d.data.toList=f[a].Xz
    . rw[B g.symm]at b;rw[bd g]at h;have x:(m.toList==d.toList)=true:=zc;clear g i h;exact KY
    . exact AC
  . have e:Hid (o=f.length):=(by rw[b.out,eQ (by omega)];simp[u.ca];omega:o=f.length);clear b n r;exact rU
def TY (c:List aC)(b a:Nat)(d:a<c.length)(e:a<b):u.place (c.drop a) (b-a)=c[a].i.V4+u.place (c.drop (a+1)) (b- (a+1)):=by
 rw[js d,show b-a=(b- (a+1))+1 by omega];rfl
def Tidy (b:List aC):Prop:=∀a∈b,a.i.V4=0\/a.i.V4=2\/a.i.V4=4
def Oq (p:Option Addr)(v:Nat)(b:List aC)(A:b.length<=5000)(hd:Hid (Tidy b))(d:Nat)(E:d<=5000)(s:D)(m:Hid (jJ s p b)):
 O 184 #[.slice p b.length v,j d] (j (u.place b d)) s:=by
 obtain⟨h,e⟩:=y (u.place b d);rw[<-e];have i:=l e;clear e;go_enter func184,ntmps184;go_wp2;go_loop [5,6] (fun t o=>∃(a:Nat) (f:Nat),a<=b.length/\a<=d/\f<=4*a/\t=j f/\o=j a/\Hid (h=f+u.place (b.drop a) (d-a))) (fun _ o=>b.length- (intOf o).toNat);case atStart=>exact⟨0,0,by omega,by omega,by omega,rfl,rfl,by simpa using i⟩
 case round=>
  obtain⟨a,f,B,C,F,rfl,rfl,g⟩:=hrel;by_cases c:a<b.length
  . by_cases w:a<d
    . rcases m.out with k|⟨z,rfl,r⟩
      . exact lV
      have k:=(r a c).W4;rw[TY b d a c w]at g;have x:=hd.out b[a] (gf c);obtain⟨n,q,G⟩:∃n:Nat,b[a].i.V4=n/\n<=4:=⟨b[a].i.V4.toNat,by omega,by omega⟩;rw[q]at k g;clear r m i hd x q;go_wp2;go_round;case rel=>exact⟨a+1,f+n,by omega,by omega,by omega,by go_num,by go_num,by show h=_;rw[g.out];simp;omega⟩
      case measure=>exact a5
    . have e:Hid (h=f):=(by rw[g.out,show d-a=0 by omega];cases b.drop a<;>simp[u.place]:h=f);clear g i m hd;exact rU
  . have e:Hid (h=f):=(by rw[g.out,eQ (by omega)];simp[u.place]:h=f);clear g i m hd;go_wp2;all_goals go_ret
    all_goals exact⟨by rw[e.out];rfl,rfl⟩
def A4 (a b c:Int)(f:D):
 O 255 #[j a,j b,j c] (.tuple #[j (if a<b\/c<a then 0 else a),j (if a<b\/c<a then 7 else 0)]) f:=by
 by_cases d:a<b
 . rw[B (hz d),B (hz d)];exact AE
 . by_cases e:c<a
   . rw[B (ci e),B (ci e)];exact AE
   . rw[z (by omega),z (by omega)];exact AE
def jg (d:D)(a:Nat)(c:K)(i:U)(b:K):D:=
 (((((((d.setCell ⟨a,0,none⟩ (.string c)).setCell ⟨a,1,none⟩ (j i.op)).setCell ⟨a,2,none⟩ (j i.rd)).setCell ⟨a,3,none⟩ (j i.V1)).setCell ⟨a,4,none⟩ (j i.V6)).setCell ⟨a,5,none⟩ (j i.V2)).setCell ⟨a,6,none⟩ (j i.V4)).setCell ⟨a,7,none⟩ (.string b)
def bC.put {e:D}{a:Nat}{g f c b:K}{i d:U}(h:bC e a g i f):bC (jg e a c d b) a c d b:=by
 obtain⟨j,k,l,m,n,o,p,q,r,s⟩:=id h;unfold jg;refine⟨?_,?_,?_,?_,?_,?_,?_,?_,?_,?_⟩<;>simp[go_sem,j,k,l,m,n,o,p,q,r,s]
def wa {a:Nat}{d b:D}(e:Below a d b){c:Nat}(f:a<=c)(h:K)(i:U)(g:K):Below a d (jg b c h i g):=by
 unfold jg;exact Mv
def bC.XN {f:D}{a b:Nat}{d c h g:K}{i j:U}(l:bC f a d i c)(e:a≠b):bC (jg f b h j g) a d i c:=by
 obtain⟨m,n,o,p,q,r,s,t,v,w⟩:=id l;have u:¬b=a:=fun k=>e k.symm;unfold jg;refine⟨?_,?_,?_,?_,?_,?_,?_,?_,?_,?_⟩<;>simp[go_sem,m,n,o,p,q,r,s,t,v,w,e,u]
def qh (a:K)(b:Option (U×List L)):K:=if b.isSome then a else⟨#[]⟩
def fQ (a:Option (U×List L)):U:=(a.map Prod.fst).getD aF
def qg (a:Option (U×List L)):K:=⟨((a.map Prod.snd).getD []).toArray⟩
theorem wW (b:K)(a:Option (U×List L)):eq b a=.tuple #[.agg #[.string (qh b a),j (fQ a).op,j (fQ a).rd,j (fQ a).V1,j (fQ a).V6,j (fQ a).V2,j (fQ a).V4,.string (qg a)],.bool a.isSome]:=by
 cases a with
 |none=>rfl
 |some c=>obtain⟨i,g⟩:=c;rfl
def su (b:K)(a:Nat)(c:a<b.size):(b.data.toList.map UInt8.toNat).drop a=b[a].toNat::(b.data.toList.map UInt8.toNat).drop (a+1):=by
 have d:a< (b.data.toList.map UInt8.toNat).length:=by rw[gT,dQ];exact c
 rw[js d];simp;rfl
def TR {e:List Nat}{d:Nat}{b a:Nat}{i:U}{g:List L}{c:List (List L)}(h:0<b)(f:¬c[a]?.getD []=[44]):u.bJ (d::e) (decide (0<b)) i g (c.drop a)=none:=by
 rw[bd h];simp only[u.bJ];rw[B ⟨trivial,by rw[nE,dl];exact f⟩]
def TS {f:List Nat}{e:Nat}{a c:Nat}{i:U}{g:List L}{d:List (List L)}(j:0<a->d[c]?.getD []=[44]):u.bJ (e::f) (decide (0<a)) i g (d.drop c)=match u.cb i g e (d.drop (c+if 0<a then 1 else 0))with|none=>none|some (k,l)=>u.bJ f true k l (d.drop ((c+if 0<a then 1 else 0)+u.ao e)):=by
 by_cases b:0<a
 . have:=j b;rw[bd b,B b];simp only[u.bJ,if_true];rw[z (by rw[nE,dl];exact fun h=>h.2 this),ls,ls,Nat.add_assoc];try rfl
 . rw[aV b,z b];simp only[u.bJ,ei,oP,cS];rw[ls,ls,dl,eh];try rfl
def Qx {a wc b:D}{j e h c:K}{i d:U}(l:bC wc a.heap.size j i h)(g:bC wc (a.heap.size+1) ⟨#[]⟩ ⟨0,0,0,0,0,0⟩ ⟨#[]⟩)(k:Below a.heap.size a wc)(n:Below wc.heap.size wc.drew b):
 Hid (bC (b.alloc (bX e d c)) b.heap.size e d c/\bC (b.alloc (bX e d c)) a.heap.size j i h/\bC (b.alloc (bX e d c)) (a.heap.size+1) ⟨#[]⟩ ⟨0,0,0,0,0,0⟩ ⟨#[]⟩/\Below a.heap.size a (b.alloc (bX e d c))/\a.heap.size+2<=b.heap.size):=by
 have f:Below wc.heap.size wc b:=(aq _ _).drew.trans n;have o:=g.lt;have p:=f.size;exact⟨bC.new _ _ _ _,(l.more f l.lt).alloc _,(g.more f g.lt).alloc _,(k.trans (f.mono k.size)).alloc m _,by omega⟩
def Qy {a wc b:D}{j e h c:K}{i d:U}(l:bC wc a.heap.size j i h)(g:bC wc (a.heap.size+1) ⟨#[]⟩ ⟨0,0,0,0,0,0⟩ ⟨#[]⟩)(k:Below a.heap.size a wc)(f:Below wc.heap.size wc b)(n:bC b wc.heap.size ⟨#[]⟩ ⟨0,0,0,0,0,0⟩ ⟨#[]⟩):
 Hid (bC (jg b wc.heap.size e d c) wc.heap.size e d c/\bC (jg b wc.heap.size e d c) a.heap.size j i h/\bC (jg b wc.heap.size e d c) (a.heap.size+1) ⟨#[]⟩ ⟨0,0,0,0,0,0⟩ ⟨#[]⟩/\Below a.heap.size a (jg b wc.heap.size e d c)/\a.heap.size+2<=wc.heap.size):=by
 have o:=g.lt;exact⟨n.put,(l.more f l.lt).XN m,(g.more f g.lt).XN m,wa (k.trans (f.mono k.size)) m _ _ _,by omega⟩
theorem A8 (e:K)(i:U)(g:List L)(c:K)(hS:Hid (Nm.shape i.op=c))(b6:c.size<=8)(bZ:Hid (∀x (n:x<c.size),c[x].toNat=100\/c[x].toNat=115\/c[x].toNat=116\/c[x].toNat=109\/c[x].toNat=106\/c[x].toNat=117\/c[x].toNat=105))
 (J af av:Nat) (d:List (List L)) (bF:d.length<=5000) (b:D) (aC:Hid (bc b J af d)) (bL:J<b.heap.size) (bP:Hid (ez d)):
 aa 254 #[bp e i ⟨g.toArray⟩,.slice (some ⟨J,af,none⟩) d.length av] (eq e (u.bJ (c.data.toList.map UInt8.toNat) false i g d)) b:=by
 obtain⟨E,P⟩:=y (u.bJ (c.data.toList.map UInt8.toNat) false i g d);rw[<-P];have bB:=l P;clear P;obtain⟨R,a8⟩:=y (⟨g.toArray⟩:K);rw[<-a8];have bu:Below b.heap.size b ((b.alloc (bX e i R)).alloc (bX ⟨#[]⟩ aF ⟨#[]⟩)):=pk;have bJ:bC ((b.alloc (bX e i R)).alloc (bX ⟨#[]⟩ aF ⟨#[]⟩)) (b.heap.size+1) ⟨#[]⟩ aF ⟨#[]⟩:=by
  have n:=bC.new (b.alloc (bX e i R)) ⟨#[]⟩ aF ⟨#[]⟩;simpa using n
 have bK:bC ((b.alloc (bX e i R)).alloc (bX ⟨#[]⟩ aF ⟨#[]⟩)) b.heap.size e i R:=(bC.new b e i R).alloc _;have aZ:=l bu;have S:=l bJ;have T:=l bK;have bA:=l a8;unfold bX aF at aZ S T;clear bu bJ bK a8;unfold bp;go_enter func254,ntmps254;go_wp2_with(go_at_call 222;refine(A3 i.op _).mono ?_;rintro N aX ⟨rfl,rfl⟩;rw[hS.out]);go_loopw [7,8] (fun a2 x wr=>∃(q a:Nat) (o:U) (C:List L),q<=d.length/\a<=c.size/\a2=j q/\x=j a/\Hid (bC wr b.heap.size e o ⟨C.toArray⟩)/\Hid (bC wr (b.heap.size+1) ⟨#[]⟩ ⟨0,0,0,0,0,0⟩ ⟨#[]⟩)/\Hid (Below b.heap.size b wr)/\Hid (E=u.bJ ((c.data.toList.map UInt8.toNat).drop a) (decide (0<a)) o C (d.drop q))) (fun _ x _=>c.size- (intOf x).toNat);case atStart=>exact⟨0,0,i,g,by omega,by omega,rfl,rfl,by rw[<-bA.out];exact T,S,aZ,by simpa using bB⟩
 case round=>
  obtain⟨q,a,o,C,b2,b4,rfl,rfl,A,G,k,t⟩:=hrel;clear aZ S T bA bB;by_cases bO:a<c.size
  . rw[su c a bO]at t;obtain⟨w,az⟩:=y (c[a].toNat);rw[<-az]at t;have bh:=bZ.out a bO;rw[<-az]at bh;have bx:=l az;have bT:=l bh;clear az bh;have aD:=bc.more aC bL k.out;have bg:J<wr.heap.size:=aR bL k.out.size;obtain⟨f,aW⟩:∃f,f=q+if 0<a then 1 else 0:=⟨_,rfl⟩
    have bY:f<=9000:=by rw[aW];split<;>omega
    have H:=l aW;clear aW;go_upto_if 22 with fail;go_cut [7]from 22 to 29 (fun a2 Z=>a2=j (f:Int)/\Z=wr/\Hid (0<a->d[q]?.getD []=[44]));case first=>
     by_cases h:0<a
     . have br:decide (0<a)=true:=ni;have au:=fun b aC=>np J af av d bF q m b aC;obtain⟨t0,a4⟩:=y (d[q]?.getD []);rw[<-a4]at au;have aY:=l a4;clear a4;obtain⟨V,a3⟩:=y (⟨t0.toArray⟩:K);rw[show u.aG t0=.string V by rw[a3];rfl]at au;have f0:V.data.toList=t0:=by rw[a3]
       clear a3;rw[<-f0]at aY;clear f0;have bv:=l au;clear au;have aH:(V.toList==[44])=decide (V.data.toList=[44]):=ha V [44];by_cases Y:V.data.toList=[44]
       . rw[bd Y]at aH;have bV:=l Y;have a6:Hid ((f:Int)=q+1):=by
          have:=H.out;rw[B h]at this;show(f:Int)=q+1;omega
         clear Y H;go_wp2_with(go_at_call 328;refine(bv.out _ aD).mono ?_;rintro N aX ⟨rfl,rfl⟩);go_meet;case rel=>exact⟨by rw[a6.out],rfl,fun _=>by rw[<-aY.out];exact bV.out⟩
       . rw[aV Y]at aH;have bj:Hid (E=none):=by
          show E=none;rw[t.out];exact TR h (by rw[<-aY.out];exact Y)
         clear Y H t;obtain⟨ag,ah,ai,aj,ak,al,am,an,ao,ap⟩:=G.out;go_wp2_with(go_at_call 328;refine(bv.out _ aD).mono ?_;rintro N aX ⟨rfl,rfl⟩);refine ac (v:=eq e none) yP rfl ⟨by rw[bj.out],?_⟩;exact vH
     . have br:decide (0<a)=false:=ni;have a6:Hid ((f:Int)=q):=by
        have:=H.out;rw[z h]at this;show(f:Int)=q;omega
       have bU:=l h;obtain rfl:a=0:=by omega
       clear h br H;go_wp2;go_meet;case rel=>exact⟨by rw[a6.out],rfl,fun n=>absurd n bU.out⟩
    case rest=>
     obtain⟨rfl,rfl,bN⟩:=hcut;rw[TS bN.out,<-H.out]at t;have bM:=bx.out;obtain⟨s,ay⟩:=y (u.cb o C w (d.drop f));rw[<-ay]at t;have bG:s.isSome=true->f+u.ao w<=d.length:=by
      intro n;obtain⟨bq,A⟩:=Option.isSome_iff_exists.1 n;have X:=u.TN o C w (d.drop f) bq (by rw[<-ay];exact A);rw[h7]at X;have:1<=u.ao w:=by unfold u.ao;split<;>omega
      omega
     have a1:=l bG;have aA:∀W:D,Below wc.heap.size wc W->aa 329 #[.agg #[.string e,j o.op,j o.rd,j o.V1,j o.V6,j o.V2,j o.V4,.string ⟨C.toArray⟩],.int .u8 w,.slice (some ⟨J,af,none⟩) d.length av,j f] (.tuple #[.agg #[.string (qh e s),j (fQ s).op,j (fQ s).rd,j (fQ s).V1,j (fQ s).V6,j (fQ s).V2,j (fQ s).V4,.string (qg s)],.bool s.isSome]) W:=by
      intro W bI;have n:=Ox e C o w bT.out J af av d bF f bY W (bc.more aD bg bI) (aR bg bI.size) bP;rw[<-ay,wW]at n;exact n
     have b5:c[a].toNat=w:=bM.symm;clear bG ay H bN bx bM;obtain⟨aI,aJ,aK,aL,aM,aN,aO,aP,aQ,aS⟩:=A.out;obtain⟨ab,ba⟩:=y (fQ s);obtain⟨bD,bb⟩:=y (qh e s);obtain⟨bw,a9⟩:=y (qg s);obtain⟨bo,bm⟩:=y (s.isSome);rw[<-ba,<-bb,<-a9,<-bm]at aA;have ar:=l (cZ ba (cZ bb (cZ a9 bm)));clear ba bb a9 bm;have bz:=l ((aA wc.drew (aq _ _).drew).mono fun N Q n=>(⟨n.1,n.2⟩:_/\Below wc.heap.size wc.drew Q));have bk:=(bC.new wc ⟨#[]⟩ ⟨0,0,0,0,0,0⟩ ⟨#[]⟩).more (w':=(wc.alloc (bX ⟨#[]⟩ ⟨0,0,0,0,0,0⟩ ⟨#[]⟩)).drew) (n:=wc.heap.size+1) ((aq _ _).drew) m;have aE:Below wc.heap.size wc (wc.alloc (bX ⟨#[]⟩ ⟨0,0,0,0,0,0⟩ ⟨#[]⟩)).drew:=Hw;have a0:=l ((aA (wc.alloc (bX ⟨#[]⟩ ⟨0,0,0,0,0,0⟩ ⟨#[]⟩)).drew aE).mono fun N Q n=>(⟨n.1,aE.trans (n.2.mono aE.size),l (bk.more n.2 bk.lt)⟩:_/\Below wc.heap.size wc Q/\Hid (bC Q wc.heap.size ⟨#[]⟩ ⟨0,0,0,0,0,0⟩ ⟨#[]⟩)));unfold bX at a0;clear aA bk aE;go_upto_region 10 with fail;go_cut [9,10]from 30 to 39 (fun p b0 Z=>∃aG:Nat,p=I aG/\b0=.bool bo/\Hid (bC Z aG bD ab bw/\bC Z b.heap.size e o ⟨C.toArray⟩/\bC Z (b.heap.size+1) ⟨#[]⟩ ⟨0,0,0,0,0,0⟩ ⟨#[]⟩/\Below b.heap.size b Z/\b.heap.size+2<=aG));case first=>
      go_region_with(go_at_call 329;first|(with_reducible refine bz.out.mono ?_;rintro N Q ⟨rfl,be⟩)|(with_reducible refine a0.out.mono ?_;rintro N Q ⟨rfl,be,v⟩;have ag:=v.out.V8;have ah:=v.out.c1;have ai:=v.out.c2;have aj:=v.out.c3;have ak:=v.out.c4;have al:=v.out.c5;have am:=v.out.W4;have an:=v.out.W5;have ao:=v.out.Wb;have ap:=v.out.lt));all_goals (go_wp2_with fail;go_meet)
      all_goals first|(refine⟨Q.heap.size,by with_reducible rfl,rfl,?_⟩;exact Qx A.out G.out k.out be)|(refine⟨wc.heap.size,by with_reducible rfl,rfl,?_⟩;exact Qy A.out G.out k.out be v.out)
     case rest=>
      obtain⟨aG,rfl,rfl,ae⟩:=hcut;clear bz a0 aI aJ aK aL aM aN aO aP aQ aS A G k aD bg aC bP;have A:=ae.out.2.1;have G:=ae.out.2.2.1;have v:=ae.out.1;have k:=l ae.out.2.2.2.1;have S:=l A;have T:=l G;obtain⟨aI,aJ,aK,aL,aM,aN,aO,aP,aQ,aS⟩:=id A;obtain⟨y0,y1,y2,y3,y4,b7,b8,b9,-,-⟩:=id v;obtain⟨ag,ah,ai,aj,ak,al,am,an,ao,ap⟩:=id G;clear A G v ae;cases s with
      |none=>
       obtain⟨X,aw,ax,ad⟩:=ar.out;have aU:bo=false:=ad;subst aU;have bj:Hid (E=none):=t;clear X aw ax ad ar t a1;go_wp2;refine ac (v:=eq e none) yP rfl ⟨by rw[bj.out],?_⟩;repeat(first|with_reducible exact aq _ _|with_reducible exact k.out|(with_reducible refine bf ?_ F _)|(with_reducible refine bl ?_ F _))
      |some r=>
       obtain⟨bq,aT⟩:=r;obtain⟨X,aw,ax,ad⟩:=ar.out;have aU:bo=true:=ad;subst aU;have bQ:ab=bq:=X;have bR:bD=e:=aw;have bS:bw=⟨aT.toArray⟩:=ax;subst bQ bR bS;have bi:Hid (E=u.bJ ((c.data.toList.map UInt8.toNat).drop (a+1)) true ab aT (d.drop (f+u.ao w))):=t;have a7:f+u.ao w<=d.length:=a1.out rfl;clear X aw ax ad ar t a1;have bn:∀W,O 330 #[.int .u8 w] (j (u.ao w:Nat)) W:=fun W=>Oo w W;obtain⟨bE,bH⟩:=y (u.ao w);rw[<-bH]at bn a7 bi;have bW:=l bn;clear bn bH;go_wp2_with(go_at_call 330;refine(bW.out _).mono ?_;rintro N aX ⟨rfl,rfl⟩);go_roundw;case rel=>
        first
         |exact⟨f+bE,a+1,ab,aT,a7,by omega,by go_num,by go_num,l (bC.put S.out),l (T.out.XN m),l (wa k.out (aB _) _ _ _),by rw[bd (mY a)];exact bi⟩
         | ((repeat apply hC);exact⟨⟨f+bE,a+1,ab,aT,a7,by omega,by go_num,by go_num,l (bC.put S.out),l (T.out.XN m),l (wa k.out (aB _) _ _ _),by rw[bd (mY a)];exact bi⟩,rfl⟩)
       case measure=>exact a5
  . have b1:decide ((a:Int)< (c.size:Int))=false:=M;have bs:=A.out;have bt:=G.out;obtain⟨aI,aJ,aK,aL,aM,aN,aO,aP,aQ,aS⟩:=id bs;obtain⟨ag,ah,ai,aj,ak,al,am,an,ao,ap⟩:=id bt;clear bs bt;rw[eQ (by rw[gT,dQ];show c.size<=a;omega)]at t;by_cases b3:q=d.length
    . have P:Hid (E=some (o,C)):=by
       show E=_;rw[t.out];simp only[u.bJ];rw[B (by rw[h7];omega)]
      have aH:((q:Int) !=(d.length:Int))=false:=M;clear t;go_wp2;refine ac (v:=eq e (some (o,C))) (by simp[results,results254,go_sem,eq,bp,aF,aI,aJ,aK,aL,aM,aN,aO,aP,aQ,aS,ag,ah,ai,aj,ak,al,am,an,ao,ap]) rfl ⟨by rw[P.out],?_⟩;exact vH
    . have P:Hid (E=none):=by
       show E=_;rw[t.out];simp only[u.bJ];rw[z (by rw[h7];omega)]
      have aH:((q:Int) !=(d.length:Int))=true:=M;clear t;go_wp2;refine ac (v:=eq e none) yP rfl ⟨by rw[P.out],?_⟩;exact vH
def Vm :((List.range 73).all fun b=>decide ((Nm.shape b).size<=8)&& (Nm.shape b).data.toList.all fun a=>a.toNat==100 ||a.toNat==115 ||a.toNat==116 ||a.toNat==109 ||a.toNat==106 ||a.toNat==117 ||a.toNat==105)=true:=by decide+kernel
def k5 (a:Nat)(d:a<=72):(Nm.shape a).size<=8/\∀b (d:b< (Nm.shape a).size),(Nm.shape a)[b].toNat=100\/(Nm.shape a)[b].toNat=115\/(Nm.shape a)[b].toNat=116\/(Nm.shape a)[b].toNat=109\/(Nm.shape a)[b].toNat=106\/(Nm.shape a)[b].toNat=117\/(Nm.shape a)[b].toNat=105:=by
 have c:=cj.1 Vm a ad;rw[cX,cC,cj]at c;refine⟨c.1,fun b f=>?_⟩;have e:=c.2 (Nm.shape a)[b] (by
  have:(Nm.shape a)[b]=(Nm.shape a).data.toList[b]'(by rw[dQ];exact f):=rfl;rw[this];exact gf _)
 simp only[cR,bb]at e;omega
theorem E6 (c:List L):∀b a,(u.db c b a).1<a+b\/(u.db c b a)=(0,0)
 |0,a=>.inr rfl
 |b+1,a=>by
  have e:=E6 c b (a+1)
  unfold u.db
  split
  . left;simp
  . split
    . left;simp
    . rcases e with d|d
      . left;omega
      . right;exact d
def afz (b:List L):(u.bk b).1<=72:=by
 unfold u.bk;split
 . decide
 . split
   . decide
   . rcases E6 b 70 1 with a|a
     . omega
     . rw[a];decide
def k7 (d e f:Nat)(c:List (List L))(b:Nat)(g:Int)(r:g=b)(q:b<=c.length)(p:c.length<=f):∃j i,(∀a,(Instr.slice 165 (.slice (some ⟨d,e,none⟩) c.length f) (some (.int .i64 g)) none none).run prog a=.ok (.slice (some ⟨d,j,none⟩) (c.drop b).length i) a)/\(c.drop b).length<=i/\(∀a,bc a d e c->bc a d j (c.drop b)):=by
 have l:∀a,(Instr.slice 165 (.slice (some ⟨d,e,none⟩) c.length f) (some (.int .i64 g)) none none).run prog a=.ok (.slice (if f=b then some ⟨d,e,none⟩else some ⟨d,e+b,none⟩) (c.drop b).length (f-b)) a:=by
  intro a;have hu:prog.underlying 165=some (.slice (prog.elem 165)):=gY;have h:=run_slice_l (P:=prog) a 165 (some ⟨d,e,none⟩) c.length f hu .i64 g m m;rw[h];have o:(_root_.Go.sizeOf (prog.elem 165)).run prog a=.ok 1 a:=gY;rw[o];simp only[Result.andThen,sliced,h7];rw[show g.toNat=b by omega,oH,gR,show(⟨d,e,none⟩:Addr).add b=⟨d,e+b,none⟩by simp[Addr.add]]
 by_cases k:f=b
 . refine⟨e,f-b,fun a=>by rw[l a,B k],by rw[h7];omega,fun a _ s n=>?_⟩;rw[h7]at n;omega
 . exact⟨e+b,f-b,fun a=>by rw[l a,z k],by rw[h7];omega,fun a h=>h.drop b⟩
def r9.below {i f:D}{a b h:Nat}{g:aC}(c:r9 i a b g)(d:Below h i f)(e:a<h):r9 f a b g:=
 ⟨(d.cell (p:=⟨a,b,none⟩) e).trans c.V8,(d.cell (p:=⟨a,b+1,none⟩) e).trans c.c1,(d.cell (p:=⟨a,b+2,none⟩) e).trans c.c2,(d.cell (p:=⟨a,b+3,none⟩) e).trans c.c3,(d.cell (p:=⟨a,b+4,none⟩) e).trans c.c4,(d.cell (p:=⟨a,b+5,none⟩) e).trans c.c5,(d.cell (p:=⟨a,b+6,none⟩) e).trans c.W4,(d.cell (p:=⟨a,b+7,none⟩) e).trans c.W5⟩
def jJ.below {f b:D}{p:Option Addr}{e:Nat}{c:List aC}(a:jJ f p c)(g:Below e f b)(h:∀d,p=some d->d.block<e):jJ b p c:=Mw
def s5 (c:List L)(a:List L)(LT:List (List L))(b:(u.bk a).2=0):u.cA c (a::LT)=(5,eL):=by
 unfold u.cA;simp only;rw[B b]
def s4 (b:List L)(a:List L)(LT:List (List L))(c:¬(u.bk a).2=0)(d:u.bJ (u.eN (u.bk a).1) false ⟨(u.bk a).1,0,0,0,0,(u.bk a).2⟩ [] LT=none):u.cA b (a::LT)=(6,eL):=Mx
def s6 (b:List L)(a:List L)(LT:List (List L))(c:¬(u.bk a).2=0){i:U}{g:List L}(d:u.bJ (u.eN (u.bk a).1) false ⟨(u.bk a).1,0,0,0,0,(u.bk a).2⟩ [] LT=some (i,g)):u.cA b (a::LT)=(0,⟨b,i,g⟩):=Mx
def xf {a:List (List L)}{b:List aC}(c:¬(1<a.length/\a[1]?.getD []=[58])):u.cm a b=u.cA [] a:=by
 unfold u.cm;rw[z c]
def Dd {a:List (List L)}{b:List aC}(c:1<a.length/\a[1]?.getD []=[58])(d:¬u.isName (a[0]?.getD [])=true):u.cm a b=(5,eL):=by
 unfold u.cm;rw[B c,z d]
def Dc {a:List (List L)}{b:List aC}(c:1<a.length/\a[1]?.getD []=[58])(e:u.isName (a[0]?.getD [])=true)(d:u.ca b (a[0]?.getD [])<b.length):u.cm a b=(9,eL):=by
 unfold u.cm;rw[B c,B e,B d]
def De {a:List (List L)}{b:List aC}(c:1<a.length/\a[1]?.getD []=[58])(e:u.isName (a[0]?.getD [])=true)(d:¬u.ca b (a[0]?.getD [])<b.length):u.cm a b=u.cA (a[0]?.getD []) (a.drop 2):=by
 unfold u.cm;rw[B c,B e,z d]
theorem Ov (s E ay:Nat)(d:List (List L))(ar:d.length<=5000)(ad:d.length<=ay)(p:Option Addr)(a9:Nat)(z:List aC)(bR:z.length<=5000)(c:D)(Q:Hid (bc c s E d))(az:s<c.heap.size)(X:Hid (ez d))(aW:Hid (jJ c p z))(aY:Hid (∀a8,p=some a8->a8.block<c.heap.size)):
 aa 182 #[.slice (some ⟨s,E,none⟩) d.length ay,.slice p z.length a9] (.tuple #[kT (u.cm d z).2,j (u.cm d z).1]) c:=by
 obtain⟨f,o⟩:=y (u.cm d z);rw[<-o];have H:=l o;clear o;obtain⟨b0,au⟩:=y (⟨#[]⟩:K);go_enter func182,ntmps182;by_cases B:1<d.length
 . have am:decide (1< (d.length:Int))=true:=M;have c1:=Q.out 1 B;obtain⟨R,Z⟩:=y (⟨(d[1]).toArray⟩:K);have al:c.cell? ⟨s,E+1,none⟩=some (.string R):=by rw[c1,Z];rfl
   have t:d[1]?.getD []=R.data.toList:=Hx;have U:(R.toList==[58])=decide (R.data.toList=[58]):=ha R [58];clear c1 Z;by_cases T:R.data.toList=[58]
   . rw[bd T]at U;have ab:=Q.out 0 m;obtain⟨e,ao⟩:=y (⟨(d[0]).toArray⟩:K);have bL:c.cell? ⟨s,E,none⟩=some (.string e):=by rw[<-dl E,ab,ao];rfl
     have bj:(d[0]'m).length<=5000:=X.out _ (gf _);have aw:e.size<=5000:=by rw[ao];exact bj
     have ba:d[0]?.getD []=e.data.toList:=Hy;have a1:e=⟨e.data.toList.toArray⟩:=(hf e).symm;have V:=l a1;clear ab ao bj a1;obtain⟨C,bP,ae,aJ,bm⟩:=k7 s E ay d 2 2 rfl m ad;have A:=l (bm c Q.out);have P:Hid (ez (d.drop 2)):=fun b aP=>X.out b (uq aP);have ai:(d.drop 2).length<=5000:=zd;have bi:1<d.length/\d[1]?.getD []=[58]:=⟨B,by rw[t];exact T⟩;have q:=l (cZ bi ba);obtain⟨a5,aI⟩:=y (d.drop 2);have a3:=l aI;rw[<-aI]at A P ai ae aJ;have W:=aJ;clear aI bm aJ t T bi ba;cases G:u.isName e.data.toList
     . have o:Hid (f=(5,eL)):=by
        show f=_;rw[H.out];exact Dd q.out.1 (by rw[q.out.2,G];decide)
       go_wp2_with fail;refine(nl e aw _).mono ?_;rintro x h ⟨rfl,rfl⟩;rw[G];clear U al;exact ako
     . have I:Below c.heap.size c (c.alloc (bX ⟨#[]⟩ aF ⟨#[]⟩)):=lT;have aL:=A6 p a9 z bR e _ (l (aW.out.below I aY.out));obtain⟨bM,hF⟩:=y (u.ca z e.data.toList);rw[<-hF]at aL;have bD:=l hF;have an:=l aL;unfold bX aF at an;clear aL hF I;by_cases aZ:bM<z.length
       . have o:Hid (f=(9,eL)):=by
          show f=_;rw[H.out];exact Dc q.out.1 uI uJ
         go_wp2_with fail;refine(nl e aw _).mono ?_;rintro x h ⟨rfl,rfl⟩;rw[G];clear U al;go_wp2_with fail;refine an.out.mono ?_;rintro x h ⟨rfl,rfl⟩;go_wp2;refine ac (v:=.tuple #[bp ⟨#[]⟩ aF ⟨#[]⟩,j 9]) uK rfl ⟨by rw[o.out]<;>rfl,?_⟩;exact My
       . have HR:Hid (f=u.cA e.data.toList a5):=by
          show f=_;rw[H.out,a3.out,<-q.out.2];exact De q.out.1 uI uJ
         go_wp2_with fail;refine(nl e aw _).mono ?_;rintro x h ⟨rfl,rfl⟩;rw[G];clear U al;go_upto_region 7 with fail;go_wp2_with fail;refine an.out.mono ?_;rintro x h ⟨rfl,rfl⟩;clear an bD G q a3 H bL aw;go_upto_region 9 with fail;clear aZ B am ae;cases a5 with
         |nil=>
          have o:Hid (f=(0,⟨e.data.toList,aF,[]⟩)):=HR;clear HR;go_wp2;refine ac (v:=.tuple #[bp e aF ⟨#[]⟩,j 0]) uK rfl ⟨by rw[o.out]<;>simp only[kT]<;> (first|rfl|rw[<-V.out]),?_⟩;repeat(first|with_reducible exact aq _ _|with_reducible exact N.out|(with_reducible refine bf ?_ F _)|(with_reducible refine bl ?_ F _))
         |cons b LT=>
          have ab:=A.out 0 F;obtain⟨aG,aN⟩:=y (⟨b.toArray⟩:K);have d0:c.cell? ⟨s,C,none⟩=some (.string aG):=Hz;have bh:aG.data.toList=b:=by rw[aN]
          have av:=Ba aG;obtain⟨bT,bQ,bk,bS,bn⟩:=k7 s C bP (b::LT) 1 1 rfl F W;have aD:=bn c A.out;simp only[oU,jt]at bk bS aD;rw[bh]at av;obtain⟨a7,w⟩:=y (u.bk b);have bg:a7.1<=72:=ze;rw[<-w]at av;obtain⟨J,O⟩:=a7;have Y:=l av;have ag:=l w;have a4:=l aD;simp only[c9]at ai W bk;have b1:((LT.length:Int)+1==0)=false:=M;have b2:(LT.length+1==0)=false:=bN;clear ab bn aD av w aN bh A;by_cases ak:O=0
          . exact Mz
          . have bZ:((O:Int)==0)=false:=M;have b3:(O==0)=false:=M;have bb:∀n,n=u.bJ (u.eN J) false ⟨J,0,0,0,0,O⟩ [] LT->(n=none->f=(6,eL))/\(∀i g,n=some (i,g)->f=(0,⟨e.data.toList,i,g⟩)):=by
             intro n k;have aj:(u.bk b).1=J:=m4;have v:(u.bk b).2=O:=m4;refine⟨fun a=>?_,fun i g a=>?_⟩
             . exact MA
             . exact MB
            obtain⟨a6,hS⟩:=y (Nm.shape J);have aO:=(k5 J bg).1;have ae:=(k5 J bg).2;rw[<-hS]at aO;have I:Below c.heap.size c (c.alloc (bX ⟨#[]⟩ aF ⟨#[]⟩)):=lT;have aK:=A8 e ⟨J,0,0,0,0,O⟩ [] a6 (l hS.symm) aO (by rw[hS];exact l ae) s bT bQ LT m _ (bc.more a4 az I) (aR az I.size) (l (fun b aP=>P.out b (rh _ aP)));obtain⟨n,k⟩:=y (u.bJ (a6.data.toList.map UInt8.toNat) false ⟨J,0,0,0,0,O⟩ [] LT);rw[<-k,wW]at aK;have be:=bb n (by rw[k,hS];rfl);have aM:=(bC.new c ⟨#[]⟩ aF ⟨#[]⟩);have aE:=l (aK.mono fun x h a=>(⟨a.1,l (I.trans (a.2.mono I.size)),l (aM.more a.2 aM.lt)⟩:_/\Hid (Below c.heap.size c h)/\Hid (bC h c.heap.size ⟨#[]⟩ aF ⟨#[]⟩)));have ap:=l be;unfold bp bX aF at aE;clear bb aO ae I aK aM be hS k HR a4 P ag Q X aW aY;go_wp2_with fail;refine(Y.out _).mono ?_;rintro x h ⟨rfl,rfl⟩;go_wp2_with fail;refine aE.out.mono ?_;rintro x h ⟨rfl,N,bo⟩;clear aE Y;have bK:Hid (c.heap.size<h.heap.size):=bo.out.lt;obtain⟨y0,y1,y2,y3,y4,bF,bG,bH,bI,bJ⟩:=bo.out;cases n with
            |none=>
             have o:=l (ap.out.1 rfl);clear ap;go_wp2;refine ac (v:=.tuple #[bp ⟨#[]⟩ aF ⟨#[]⟩,j 6]) uL rfl ⟨by rw[o.out]<;>rfl,?_⟩;repeat(first|with_reducible exact aq _ _|with_reducible exact N.out|(with_reducible refine bf ?_ F _)|(with_reducible refine bl ?_ uM _))
            |some r=>
             obtain⟨S,t⟩:=r;have o:=l (ap.out.2 S t rfl);clear ap;obtain⟨a2,aH⟩:=y (qg (some (S,t)));have bO:Hid (a2=⟨t.toArray⟩):=aH;have aj:qh e (some (S,t))=e:=rfl;have v:fQ (some (S,t))=S:=rfl;rw[<-aH,aj,v];clear aH aj v;go_wp2;refine ac (v:=.tuple #[bp e S a2,j 0]) uL rfl ⟨by rw[o.out];simp only[kT];rw[<-bO.out]<;> (first|rfl|rw[<-V.out]),?_⟩;repeat(first|with_reducible exact aq _ _|with_reducible exact N.out|(with_reducible refine bf ?_ F _)|(with_reducible refine bl ?_ uM _))
   . rw[aV T]at U;have HR:Hid (f=u.cA [] d):=by
      show f=_;rw[H.out];exact xf (fun a=>T (by rw[<-t];exact a.2))
     have A:=Q;have W:=ad;have ai:=ar;have P:=X;have V:=l au;go_upto_region 9 with fail;clear U al T t B am ar ad au H;exact MC
 . have am:decide (1< (d.length:Int))=false:=M;have HR:Hid (f=u.cA [] d):=by
    show f=_;rw[H.out];exact xf (fun a=>B a.1)
   have A:=Q;have W:=ad;have ai:=ar;have P:=X;have V:=l au;go_upto_region 9 with fail;clear B am ar ad au H;exact MC
def kS (a:aC):List Value:=[.string ⟨a.Xz.toArray⟩,j a.i.op,j a.i.rd,j a.i.V1,j a.i.V6,j a.i.V2,j a.i.V4,.string ⟨a.Xa.toArray⟩]
def gA (a:List aC):List Value:=a.flatMap kS
def SI (a:List aC)(b:aC):gA (a++[b])=gA a++kS b:=by simp[gA]
theorem Cw :∀(a:List aC) (c:Nat) (e:c<a.length) (b:Nat),b<8->(gA a)[c*8+b]?=(kS a[c])[b]?
 |[],c,e,b,f=>by simp at e
 |d::a,0,e,b,f=>by
  have:gA (d::a)=kS d++gA a:=by simp[gA]
  rw[this,oS,eh,tV (by simp[kS];omega)];rfl
 |d::a,c+1,e,b,f=>by
  have:gA (d::a)=kS d++gA a:=by simp[gA]
  have g:(kS d).length=8:=rfl
  rw[this,tW (by rw[g];omega),g,show(c+1)*8+b-8=c*8+b by omega,Cw a c (by simpa using e) b f];rfl
def w7 {W a:D}{b c h f:Nat}{i:Value}{j:List Value}(d:W.ownsRow b c h i f j)(s:Below W.heap.size W a):a.ownsRow b c h i f j:=by
 refine⟨d.1,?_⟩;rcases d.2 with k|⟨g,l,m,t,r,e,n,o,p,q⟩
 . exact .inl k
 . exact .inr ⟨g,l,m,t,r,by rw[s.block g (q4.1 e).1];exact e,n,o,p,q⟩
def Cx {e:D}{i:Nat}{h:Value}{b:List aC}(j:e.ownsRow i 185 8 h b.length (gA b))(p:h≠ .slice none 0 0):
 ∃g f,h=.slice (some ⟨g,0,none⟩) b.length f/\i<=g/\g<e.heap.size/\jJ e (some ⟨g,0,none⟩) b:=by
 rcases j.2 with⟨q,_⟩|⟨g,f,r,rfl,k,n,s⟩
 . exact absurd q p
 . refine⟨g,f,rfl,k,(q4.1 n).1,.inr ⟨g,rfl,fun d o=>?_⟩⟩;have a:∀c,c<8->e.cell? ⟨g,d*8+c,none⟩=(kS b[d])[c]?:=fun c l=>by rw[j.cellAt (d*8+c) (by omega),Cw b d o c l]
   exact⟨a 0 m,a 1 m,a 2 m,a 3 m,a 4 m,a 5 m,a 6 m,a 7 m⟩
theorem oc :∀(d:Nat) (a:List L),(u.tok d a).length<=a.length/\∀c∈u.tok d a,c.length<=a.length
 |0,a=>⟨by simp[u.tok],by simp[u.tok]⟩
 |d+1,[]=>⟨by simp[u.tok],by simp[u.tok]⟩
 |d+1,f::a=>by
  simp only[u.tok]
  have e:=oc d a
  split
  . exact⟨by simp,by simp⟩
  . split
    . next h=>
      have g:=oc d ((f::a).drop (u.cI (f::a)))
      have i:=xl (f::a)
      rw[h7]at g
      refine⟨by rw[c9];omega,fun c b=>?_⟩
      rcases dD.1 b with rfl|b
      . rw[mP];omega
      . have:=g.2 c b;omega
    . split
      . exact⟨by have:=e.1;rw[c9];omega,fun c b=>by have:=e.2 c b;rw[c9];omega⟩
      . refine⟨by have:=e.1;simp only[c9];omega,fun c b=>?_⟩
        rcases dD.1 b with rfl|b
        . simp
        . have:=e.2 c b;rw[c9];omega
def OB (a:K)(k:a.size<=5000)(b:D):
 Calls prog 181 #[.string a] b fun j d=>∃e f,j=.returned (.slice (some ⟨e,0,none⟩) (u.tok a.size a.data.toList).length f)/\(u.tok a.size a.data.toList).length<=f/\e<d.heap.size/\Hid (bc d e 0 (u.tok a.size a.data.toList))/\Below b.heap.size b d:=by
 refine(OA a k b).mono ?_;exact MI
def Eg (b:K)(c a:Nat)(d:a<b.size)(f:c<=a):(b.data.toList.take (a+1)).drop c=(b.data.toList.take a).drop c++[b[a]]:=by
 have e:a<b.data.toList.length:=by rw[dQ];exact d
 rw[List.take_add_one,fa e,List.drop_append_of_le_length (by rw[mP];omega)];rfl
def ws (d:K)(a b:Nat):(d.extract a b).data.toList=(d.data.toList.take b).drop a:=by
 have c:=wt d a b;unfold u.aG at c;simp only[Value.string.injEq]at c;rw[c,List.drop_take]
def u.from (b:K)(a d:Nat)(c:List aC):List aC×Int×Nat:=if a<=b.size then u.readAll c (u.bP ((b.data.toList.take a).drop d) (b.data.toList.drop a))else(c,0,0)
def QK (b:K)(a c:Nat)(d:List aC)(e:a<b.size)(f:c<=a)(g:¬b[a].toNat=10):u.from b a c d=u.from b (a+1) c d:=by
 unfold u.from
 rw[B (by omega),B (by omega),Eg b c a e f,eF b a e];simp only[u.bP];rw[z g]
def QJ (b:K)(a g:Nat)(c:List aC)(d:K)(o:d.data.toList=(b.data.toList.take a).drop g)(j:a=b.size\/∃e:a<b.size,b[a].toNat=10)(f:Int×aC)(i:u.cm (u.tok d.size d.data.toList) c=f):u.from b a g c=if f.1=0 then u.from b (a+1) (a+1) (c++[f.2])else([],f.1,c.length+1):=by
 have k:d.size=d.data.toList.length:=u4;have q:a<=b.size:=by rcases j with e|⟨e,_⟩<;>omega
 have l:u.from b a g c=u.readAll c (u.bP d.data.toList (b.data.toList.drop a)):=by unfold u.from;rw[B q,o]
 rw[l];rcases j with e|⟨e,p⟩
 . have h:∀c,u.from b (a+1) (a+1) c=(c,0,0):=fun c=>by unfold u.from;rw[z (by omega)]
   have m:b.data.toList.drop a=[]:=eQ (by rw[dQ,e];exact aB _);rw[h,m];simp only[u.bP,u.readAll];rw[<-k,i]
 . have n:(b.data.toList.take (a+1)).drop (a+1)=[]:=HB;have h:∀c,u.from b (a+1) (a+1) c=u.readAll c (u.bP [] (b.data.toList.drop (a+1))):=fun c=>by unfold u.from;rw[B (by omega),n]
   rw[h,eF b a e];simp only[u.bP];rw[B p];simp only[u.readAll];rw[<-k,i]
theorem Ow (a:K)(bl:a.size<=4096)(f:D):
 Calls prog 124 #[.string a] f fun c U=>(∃I,c=.returned (.tuple #[I,j (u.readAll [] (u.bP [] a.data.toList)).2.1,j (u.readAll [] (u.bP [] a.data.toList)).2.2])/\((u.readAll [] (u.bP [] a.data.toList)).2.1=0->∃p w,I=.slice p (u.readAll [] (u.bP [] a.data.toList)).1.length w/\(u.readAll [] (u.bP [] a.data.toList)).1.length<=5000/\(∀A,p=some A->A.block<U.heap.size)/\jJ U p (u.readAll [] (u.bP [] a.data.toList)).1))/\Below f.heap.size f U:=by
 obtain⟨o,aa⟩:=y (u.readAll [] (u.bP [] a.data.toList));rw[<-aa];have HR:Hid (o=u.from a 0 0 []):=by
  show o=_;rw[aa];unfold u.from;rw[B (Nat.zero_le _)];rfl
 clear aa;have aZ:∀f,(Instr.makeSlice 143 (.int .i64 0) (.int .i64 0)).run prog f=.ok (.slice (some ⟨f.heap.size,0,none⟩) 0 0) (f.alloc (.cells #[] 185)):=fun _=>by kernel_rfl
 have aY:(prog.info? 185).map (fun i=>(i.zero,i.size,i.bytes))=some (some (bp ⟨#[]⟩ aF ⟨#[]⟩),8,80):=gY;obtain⟨a8,aX,a4,a6,a7⟩:=hy aY;go_enter func124,ntmps124;go_wp2;go_loopw [5,6,7] (fun I aT Y wr=>∃(c n:Nat) (e:List aC),c<=a.size+1/\n<=c/\e.length<=c/\Y=j c/\aT=j n/\I≠ .slice none 0 0/\Hid (wr.ownsRow f.heap.size 185 8 I e.length (gA e))/\Hid (Below f.heap.size f wr)/\Hid (o=u.from a c n e)) (fun _ _ Y _=>a.size+1- (intOf Y).toNat);case atStart=>exact⟨0,0,[],by omega,by omega,by simp,rfl,rfl,by simp,l (ri f _ 0 (aB _) gq rfl),l ((aq _ _).alloc (aB _) _),HR⟩
 case round=>
  obtain⟨c,n,e,bk,az,bi,rfl,rfl,aj,H,C,q⟩:=hrel;clear HR aZ;by_cases aE:c<=a.size
  . by_cases ai:∃h:c<a.size,¬a[c].toNat=10
    . obtain⟨aG,r⟩:=ai;have aM:((a[c].toNat:Int) !=10)=true:=M;rw[QK a c n e aG az r]at q;clear r;go_wp2;go_roundw;case rel=>exact⟨c+1,n,e,by omega,by omega,by omega,by go_num,rfl,aj,H,C,q⟩
      case measure=>exact a5
    . have ah:c=a.size\/∃h:c<a.size,a[c].toNat=10:=by
       by_cases h:c<a.size
       . exact .inr ⟨h,FG fun r=>ai ⟨h,r⟩⟩
       . exact .inl m
      clear ai;obtain⟨g,w,rfl,aW,Q,G⟩:=Cx H.out aj;obtain⟨k,ac⟩:=y (a.extract n c);have a1:∀f,(Instr.slice 9 (.string a) (some (.int .i64 (n:Int))) (some (.int .i64 (c:Int))) none).run prog f=.ok (.string k) f:=by
       intro f;rw[ac];exact mz a n c az aE f
      have ae:k.data.toList=(a.data.toList.take c).drop n:=by rw[ac];exact ws a n c
      have bj:k.size<=4096:=by
       have:k.size=k.data.toList.length:=by rw[dQ];rfl
       rw[this,ae,h7,mP,dQ];have:a.data.size=a.size:=rfl;omega
      obtain⟨X,O⟩:=y (u.tok k.size k.data.toList);have al:=OB k m;have aV:=(oc k.size k.data.toList).1;have aO:=(oc k.size k.data.toList).2;have ay:k.data.toList.length=k.size:=(by rw[dQ];rfl);rw[ay,<-O]at aV aO;rw[<-O]at al;obtain⟨av,af⟩:=y (u.cm X e);rw[QJ a c n e k ae ah av (by rw[af,O])]at q;have au:=l al;have W:=l af;have L:=l G;have aL:Hid (ez X):=HC;have aA:Hid (c=a.size\/∃h:c<a.size,a[c].toNat=10):=ah;clear al af G ac ae ay aO O ah;obtain⟨N,a9⟩:=av;go_upto_region 6 with fail;go_cut [27]from 18 to 27 (fun ba bf=>ba=.bool false/\bf=wr);case first=>
       by_cases aG:c<a.size
       . have r:a[c].toNat=10:=by
          rcases aA.out with h|⟨h,r⟩
          . omega
          . exact r
         have aM:((a[c].toNat:Int) !=10)=false:=M;clear r;exact AH
       . have bh:decide ((c:Int)< (a.size:Int))=false:=M;exact AH
      case rest=>
       obtain⟨rfl,rfl⟩:=hcut;clear aA;go_wp2_with fail;refine(au.out _).mono ?_;rintro aU be ⟨bb,bc,rfl,a3,a2,aK,E⟩;have ak:=Ov bb 0 bc X m a3 (some ⟨g,0,none⟩) w e m be aK a2 aL (l (L.out.below E (fun A h=>by simp only[b6]at h;rw[<-h];exact Q))) (l (fun A h=>by simp only[b6]at h;rw[<-h];exact aR Q E.size));rw[<-W.out]at ak;have ar:=l ak;have V:=l (C.out.trans (E.mono C.out.size));have ao:=l (w7 H.out E);clear ak au L aK a1;go_wp2_with fail;refine ar.out.mono ?_;rintro aU bn ⟨rfl,ag⟩;have J:=l (V.out.trans (ag.mono V.out.size));have ap:=l (w7 ao.out ag);have bm:=J.out.size;clear ar V ao E ag C H;obtain⟨s,i,v⟩:=a9;simp only[kT,bp];obtain⟨aQ,Z⟩:=y (⟨s.toArray⟩:K);obtain⟨aS,ab⟩:=y (⟨v.toArray⟩:K);rw[<-Z,<-ab];have an:=l (cZ Z ab);clear Z ab;by_cases b:N=0
       . have aN:(N !=0)=false:=gW;have F:Hid (o=u.from a (c+1) (c+1) (e++[(⟨s,i,v⟩:aC)])):=by
          show o=_;rw[q.out,B b]
         clear q b W;have aI:∀x,(Value.slice (some ⟨g,0,none⟩) e.length w).ownBlock=some x->f.heap.size<=x:=fun x d=>by
          simp only[Value.ownBlock,b6]at d;omega
         have aP:=l aI;clear aI;go_wp2_with(at_builtin;refine j8 _ rfl (.tmp 45) (.tmp 47) 143 rfl f.heap.size 185 a8 (bp ⟨#[]⟩ aF ⟨#[]⟩) 8 80 Tryz.underlying143 aX a4 a6 a7 rfl R _ _ _ rfl ((ap.out.alloc _).alloc _) ⟨_,0,none⟩ 1 1 [.string aQ,j i.op,j i.rd,j i.V1,j i.V6,j i.V2,j i.V4,.string aS] rfl rfl ?c1 ?c2 ?c3 ?c4 ?c5 ?_);case c1=>
          intro x bd d;match x,d with
          |0,d=>simp at d;subst d;simp[Addr.add]
          |1,d=>simp at d;subst d;simp[Addr.add]
          |2,d=>simp at d;subst d;simp[Addr.add]
          |3,d=>simp at d;subst d;simp[Addr.add]
          |4,d=>simp at d;subst d;simp[Addr.add]
          |5,d=>simp at d;subst d;simp[Addr.add]
          |6,d=>simp at d;subst d;simp[Addr.add]
          |7,d=>simp at d;subst d;simp[Addr.add]
          |x+8,d=>simp at d
         case c2=>intro bd hu;simp at hu;rcases hu with rfl|rfl|rfl|rfl|rfl|rfl|rfl|rfl<;>rfl
         case c3=>exact gq
         case c4=>omega
         case c5=>simp;omega
         intro T w3 S aD t;have am:T≠ .slice none 0 0:=pd;have aJ:=l (((J.out.alloc m _).alloc ad _).grown aD ad aP.out);clear t aD ap J;obtain⟨aw,ax⟩:=an.out;have aH:Hid (w3.ownsRow f.heap.size 185 8 T (e++[(⟨s,i,v⟩:aC)]).length (gA (e++[(⟨s,i,v⟩:aC)]))):=by
          show w3.ownsRow f.heap.size 185 8 T (e++[(⟨s,i,v⟩:aC)]).length (gA (e++[(⟨s,i,v⟩:aC)]));rw[SI,mQ];rw[aw,ax]at S;exact S
         clear S aw ax an;go_wp2;go_roundw;case rel=>
          first
           |exact⟨c+1,c+1,e++[(⟨s,i,v⟩:aC)],by omega,by omega,by simp;omega,by go_num,by go_num,am,aH,aJ,F⟩
           | ((repeat apply hC);exact⟨⟨c+1,c+1,e++[(⟨s,i,v⟩:aC)],by omega,by omega,by simp;omega,by go_num,by go_num,am,aH,aJ,F⟩,rfl⟩)
         case measure=>exact a5
       . have aN:(N !=0)=true:=gW;have F:Hid (o=([],N,e.length+1)):=by
          show o=_;rw[q.out,z b]
         have a0:=l b;clear q b W;go_wp2;go_ret3;exact⟨⟨_,by rw[F.out];rfl,fun h=>absurd (by rw[F.out]at h;exact h) a0.out⟩,J.out.alloc m _⟩
  . have P:Hid (o=(e,0,0)):=by
     show o=_;rw[q.out];unfold u.from;rw[z aE]
    obtain⟨g,w,rfl,aW,Q,G⟩:=Cx H.out aj;have L:=l G;have bg:decide ((c:Int)<=(a.size:Int))=false:=M;clear q G;go_wp2;go_ret3;exact⟨⟨_,by rw[P.out];rfl,fun _=>⟨some ⟨g,0,none⟩,w,by rw[P.out];rfl,by rw[P.out];show e.length<=5000;omega,fun A h=>by simp only[b6]at h;rw[<-h];exact Q,by rw[P.out];exact L.out⟩⟩,C.out⟩
end Go.Proofs.YtmlgonbhoknoiaaGreatDoor
