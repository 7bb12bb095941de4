import Derived.Test.YtmlgonbhoknoiabGreatDoorJAO
set_option maxHeartbeats 8000000
set_option maxRecDepth 100000
set_option linter.all false
namespace Go.Proofs.YtmlgonbhoknoiabGreatDoor
open Go.RowKit Go.Proofs.Tryz
def Dm (W:Nat)(k:W<4611686018427387904)(b:Int)(n:0<=b)(q:b<=255)(h:D):
 Calls prog 228 #[j W,j b] h fun m l=>(∃d:Nat,m=.returned (j d)/\d<=1/\Hid (d=W/2^b.toNat%2))/\l=h:=by
 obtain⟨a,rfl⟩:=h7 n;rw[dp];go_enter func228,ntmps228;go_wp2;go_loop [0,1] (fun o f=>∃g e:Nat,e<=a/\g<4611686018427387904/\o=j g/\f=j e/\Hid (g/2^e=W/2^a)) (fun _ f=>(intOf f).toNat);case atStart=>exact Lh
 case round=>
  exact Lf
theorem mp (f:Int)(r:0<=f)(x:f<=40)(l:D):
 Calls prog 229 #[j f] l fun n o=>(∃e:Nat,n=.returned (j e)/\1<=e/\e<=1099511627776/\Hid (e=2^f.toNat))/\o=l:=by
 obtain⟨c,rfl⟩:=h7 r;rw[dp];have s:2^c<=1099511627776:=by
  have:2^c<=2^40:=cV R m;have n:(2:Nat)^40=1099511627776:=cK;omega
 obtain⟨d,g⟩:=y (2^c);rw[<-g]at s|-;have p:Hid (d=2^c):=g;clear g;go_enter func229,ntmps229;go_wp2;go_loop [0,3] (fun k u=>∃a b:Nat,b<=c/\u=j a/\k=j b/\1<=a/\Hid (a*2^b=d)) (fun k _=>(intOf k).toNat);case atStart=>exact⟨1,c,aB _,rfl,rfl,by omega,(by rw[o1];exact p.out.symm:1*2^c=d)⟩
 case round=>
  obtain⟨a,b,z,rfl,rfl,t,h⟩:=hrel;have q:a<=1099511627776:=by
   have w:=h.out;have n:1<=2^b:=pW;have v:a*1<=a*2^b:=AW;omega
  cases b with
  |zero=>
   go_wp2;go_ret;exact⟨⟨a,rfl,t,q,(by have:=h.out;rw[ln,oO]at this;exact this:a=d)⟩,rfl⟩
  |succ i=>
   go_wp2;go_round;case rel=>exact⟨2*a,i,by omega,by go_num,by go_num,by omega,(by rw[fk 2 a,hz,<-uF];exact h.out:2*a*2^i=d)⟩
   case measure=>simp[intOf]<;>omega
theorem xy (a:K)(A:a.size<=32)(W:Nat)(t:G W)(v:D):
 O 224 #[.string a,j W] (.bool (C.fits (C.ah a.data.toList a.size) W&& (W/2^a.size==0))) v:=by
 obtain⟨d,m⟩:=y ((C.fits (C.ah a.data.toList a.size) W&& (W/2^a.size==0)):Bool);rw[<-m];have HR:=cE m;clear m;go_enter func224,ntmps224;go_wp2;go_loop [1,5] (fun w n=>∃h c:Nat,h<=a.size/\c<4294967296/\n=j ((h:Int)-1)/\w=j c/\Hid (d=(C.fits (C.ah a.data.toList h) c&& (c/2^h==0)))) (fun _ n=>(intOf n+1).toNat);case atStart=>exact⟨a.size,W,aB _,t,rfl,rfl,HR⟩
 case round=>
  obtain⟨h,c,z,B,rfl,rfl,b⟩:=hrel;cases h with
  |zero=>
   by_cases p:c=0
   . subst p;exact Li
   . have x:((c:Int)==0)=false:=gU;go_wp2;go_ret;exact⟨by rw[b.out];simp[C.qH,C.fits,p],rfl⟩
  |succ i=>
   have s:((i+1:Nat):Int)-1=(i:Int):=J;rw[s];have u:i<a.size:=J;rw[iF a i u]at b;have q:c/2^(i+1)=c/2/2^i:=by rw[uF,gO]
   rw[q]at b;clear q;by_cases f:(a[i].toNat:Int)=48
   . have r:((a[i].toNat:Int)==48)=true:=by rw[ba];exact f
     have o:((a[i].toNat:Int)==49)=false:=gU;rcases gg c with e|e
     . have l:((c:Int)%2 !=0)=false:=M;have k:Hid (d=(C.fits (C.ah a.data.toList i) (c/2)&& (c/2/2^i==0))):=by
        show d=_;rw[b.out];simp only[C.fits];rw[tg f,e];simp
       clear b e f;exact AE
     . have l:((c:Int)%2 !=0)=true:=M;have k:Hid (d=false):=by
        show d=_;rw[b.out];simp only[C.fits];rw[tg f,e];simp
       clear b e f;exact Lj
   . have r:((a[i].toNat:Int)==48)=false:=by rw[b4];exact f
     by_cases g:(a[i].toNat:Int)=49
     . have o:((a[i].toNat:Int)==49)=true:=by rw[ba];exact g
       rcases gg c with e|e
       . have l:((c:Int)%2 !=1)=true:=M;have k:Hid (d=false):=by
          show d=_;rw[b.out];simp only[C.fits];rw[th g,e];simp
         clear b e g;exact Lj
       . have l:((c:Int)%2 !=1)=false:=M;have k:Hid (d=(C.fits (C.ah a.data.toList i) (c/2)&& (c/2/2^i==0))):=by
          show d=_;rw[b.out];simp only[C.fits];rw[th g,e];simp
         clear b e g;exact AE
     . have o:((a[i].toNat:Int)==49)=false:=by rw[b4];exact g
       have k:Hid (d=(C.fits (C.ah a.data.toList i) (c/2)&& (c/2/2^i==0))):=by
        show d=_;rw[b.out];simp only[C.fits];rw[C4 f g];simp
       clear b;exact AE
def s0 (W a i:Nat)(b:i<a):W/2^(a-1-i)/2=W/2^(a-i):=by
 rw[gO,<-gc];congr 2;omega
def aaf {a:L->Bool}{c:L}{d:List L}{W b i h g e:Nat}(j:i<b)(f:a c=true)(l:Hid (e=W/2^(b-1-i)%2))(m:Hid (h=C.val a d (W/2^(b-i))/\g=C.ao a d)):
 Hid (2*h+e=C.val a (c::d) (W/2^(b-1-i))/\g+1=C.ao a (c::d)):=by
 obtain⟨k,n⟩:=m.out;refine⟨?_,?_⟩
 . simp only[C.val,f,cu];rw[s0 W b i j,<-k,l.out];omega
 . simp only[C.ao,f,cu];omega
def EL {a:L->Bool}{c:L}{d:List L}{W b i g f:Nat}(h:i<b)(e:a c=false)(l:Hid (g=C.val a d (W/2^(b-i))/\f=C.ao a d)):
 Hid (g=C.val a (c::d) (W/2^(b-1-i))/\f=C.ao a (c::d)):=by
 obtain⟨j,k⟩:=l.out;refine⟨?_,?_⟩
 . simp only[C.val,e,bh];rw[s0 W b i h];exact j
 . simp only[C.ao,e,bh];exact k
def x3 {b:L->Bool}{a:List L}{e d c:Nat}(l:a.length<=32)(f:Hid (d=C.val b a e/\c=C.ao b a)):d<4294967296/\c<=32:=by
 obtain⟨j,k⟩:=f.out;have g:=C.mE b a e;have h:=C.sP b a;have i:2^C.ao b a<=2^32:=kj;omega
def T1 (a:K)(H:a.size<=32)(W:Nat)(F:G W)(q:D):
 Calls prog 312 #[.string a,j W,.int .u8 68] q fun l s=>(∃c b:Nat,l=.returned (.tuple #[j c,j b])/\c<4294967296/\b<=32/\Hid (c=C.val (fun d=>d==68 ||d==66) (C.ah a.data.toList a.size) W/\b=C.ao (fun d=>d==68 ||d==66) (C.ah a.data.toList a.size)))/\s=q:=by
 go_enter func312,ntmps312;go_wp2;go_loop [8,9,10] (fun u v k=>∃i c b:Nat,i<=a.size/\u=j c/\v=j b/\k=j i/\Hid (c=C.val (fun d=>d==68 ||d==66) (C.ah a.data.toList i) (W/2^(a.size-i))/\b=C.ao (fun d=>d==68 ||d==66) (C.ah a.data.toList i))) (fun _ _ k=>a.size- (intOf k).toNat);case atStart=>exact AH
 case round=>
  obtain⟨i,c,b,n,rfl,rfl,rfl,e⟩:=hrel;obtain⟨o,p⟩:=x3 zd e;by_cases g:i<a.size
  . have h:a.size- (i+1)=a.size-1-i:=J;by_cases c1:(a[i].toNat:Int)=68
    . have f:(fun d=>d==68 ||d==66) a[i]=true:=by have w:a[i]=68:=(cN (n:=68) R).1 c1;simp[w]
      have t:((a[i].toNat:Int)==68)=true:=vg;exact AF
    . have t:((a[i].toNat:Int)==68)=false:=vh;by_cases c2:(a[i].toNat:Int)=66
      . have f:(fun d=>d==68 ||d==66) a[i]=true:=Hz;exact Lk
      . have E:((a[i].toNat:Int)==66)=false:=by rw[b4];exact c2
        have f:(fun d=>d==68 ||d==66) a[i]=false:=by
         have x:a[i]≠68:=fun l=>c1 ((cN (n:=68) R).2 l);have y:a[i]≠66:=HA;simp[x,y]
        exact Ll
  . exact AG
def T2 (a:K)(H:a.size<=32)(W:Nat)(F:G W)(q:D):
 Calls prog 312 #[.string a,j W,.int .u8 83] q fun l s=>(∃c b:Nat,l=.returned (.tuple #[j c,j b])/\c<4294967296/\b<=32/\Hid (c=C.val (fun d=>d==83 ||d==66) (C.ah a.data.toList a.size) W/\b=C.ao (fun d=>d==83 ||d==66) (C.ah a.data.toList a.size)))/\s=q:=by
 go_enter func312,ntmps312;go_wp2;go_loop [8,9,10] (fun u v k=>∃i c b:Nat,i<=a.size/\u=j c/\v=j b/\k=j i/\Hid (c=C.val (fun d=>d==83 ||d==66) (C.ah a.data.toList i) (W/2^(a.size-i))/\b=C.ao (fun d=>d==83 ||d==66) (C.ah a.data.toList i))) (fun _ _ k=>a.size- (intOf k).toNat);case atStart=>exact AH
 case round=>
  obtain⟨i,c,b,n,rfl,rfl,rfl,e⟩:=hrel;obtain⟨o,p⟩:=x3 zd e;by_cases g:i<a.size
  . have h:a.size- (i+1)=a.size-1-i:=J;by_cases c1:(a[i].toNat:Int)=83
    . have f:(fun d=>d==83 ||d==66) a[i]=true:=by have w:a[i]=83:=(cN (n:=83) R).1 c1;simp[w]
      have t:((a[i].toNat:Int)==83)=true:=vg;exact AF
    . have t:((a[i].toNat:Int)==83)=false:=vh;by_cases c2:(a[i].toNat:Int)=66
      . have f:(fun d=>d==83 ||d==66) a[i]=true:=Hz;exact Lk
      . have E:((a[i].toNat:Int)==66)=false:=by rw[b4];exact c2
        have f:(fun d=>d==83 ||d==66) a[i]=false:=by
         have x:a[i]≠83:=fun l=>c1 ((cN (n:=83) R).2 l);have y:a[i]≠66:=HA;simp[x,y]
        exact Ll
  . exact AG
def T3 (a:K)(F:a.size<=32)(W:Nat)(E:G W)(q:D):
 Calls prog 312 #[.string a,j W,.int .u8 84] q fun l s=>(∃c b:Nat,l=.returned (.tuple #[j c,j b])/\c<4294967296/\b<=32/\Hid (c=C.val (fun d=>d==84) (C.ah a.data.toList a.size) W/\b=C.ao (fun d=>d==84) (C.ah a.data.toList a.size)))/\s=q:=by
 go_enter func312,ntmps312;go_wp2;go_loop [8,9,10] (fun u v k=>∃i c b:Nat,i<=a.size/\u=j c/\v=j b/\k=j i/\Hid (c=C.val (fun d=>d==84) (C.ah a.data.toList i) (W/2^(a.size-i))/\b=C.ao (fun d=>d==84) (C.ah a.data.toList i))) (fun _ _ k=>a.size- (intOf k).toNat);case atStart=>exact AH
 case round=>
  obtain⟨i,c,b,n,rfl,rfl,rfl,e⟩:=hrel;obtain⟨o,p⟩:=x3 zd e;by_cases g:i<a.size
  . have h:a.size- (i+1)=a.size-1-i:=J;by_cases c1:(a[i].toNat:Int)=84
    . have f:(fun d=>d==84) a[i]=true:=by have w:a[i]=84:=(cN (n:=84) R).1 c1;simp[w]
      have t:((a[i].toNat:Int)==84)=true:=vg;exact AF
    . have t:((a[i].toNat:Int)==84)=false:=vh;have f:(fun d=>d==84) a[i]=false:=by
       have x:a[i]≠84:=fun l=>c1 ((cN (n:=84) R).2 l);simp[x]
      have r:=EL (c:=a[i]) g f e;clear c1;cases y:((a[i].toNat:Int)==66)
      . exact AI
      . exact AI
  . exact AG
def dl (a:L->Bool)(c:K)(W:Nat)(d:Int):Int:=
 let b:=C.ah c.data.toList c.size
 if C.ao a b=0 then d else if C.ao a b=3 then(C.val a b W:Int)+8 else(C.val a b W:Int)
def Uw {c:L->Bool}{a:K}{W d b:Nat}{g:Int}(e:Hid (d=C.val c (C.ah a.data.toList a.size) W/\b=C.ao c (C.ah a.data.toList a.size))):
 dl c a W g=if b=0 then g else if b=3 then(d:Int)+8 else(d:Int):=by
 unfold dl;simp only;rw[<-e.out.1,<-e.out.2]
def Dp (a:K)(i:a.size<=32)(W:Nat)(h:G W)(g:Int)(k:D):
 O 225 #[.string a,j W,.int .u8 68,j g] (j (dl (fun c=>c==68 ||c==66) a W g)) k:=by
 go_enter func225,ntmps225;go_wp2_with fail;refine(T1 a i W h _).mono ?_;exact AJ
def Dq (a:K)(i:a.size<=32)(W:Nat)(h:G W)(g:Int)(k:D):
 O 225 #[.string a,j W,.int .u8 83,j g] (j (dl (fun c=>c==83 ||c==66) a W g)) k:=by
 go_enter func225,ntmps225;go_wp2_with fail;refine(T2 a i W h _).mono ?_;exact AJ
def Dr (a:K)(h:a.size<=32)(W:Nat)(c:G W)(g:Int)(i:D):
 O 225 #[.string a,j W,.int .u8 84,j g] (j (dl (fun k=>k==84) a W g)) i:=by
 go_enter func225,ntmps225;go_wp2_with fail;refine(T3 a h W c _).mono ?_;exact AJ
def gH :List L->Nat
 |[]=>0
 |a::b=>if 97<=a.toNat/\gH b<a.toNat then a.toNat else gH b
def Uc (a:K)(p:a.size<=32)(m:D):
 O 313 #[.string a] (.int .u8 (gH (C.ah a.data.toList a.size):Nat)) m:=by
 go_enter func313,ntmps313;go_wp2;go_loop [3,4] (fun k d=>∃i b:Nat,i<=a.size/\k=.int .u8 b/\d=j i/\Hid (b=gH (C.ah a.data.toList i))) (fun _ d=>a.size- (intOf d).toNat);case atStart=>exact⟨0,0,by omega,rfl,rfl,rfl⟩
 case round=>
  obtain⟨i,b,o,rfl,rfl,f⟩:=hrel;by_cases l:i<a.size
  . have g:gH (C.ah a.data.toList (i+1))=if 97<=a[i].toNat/\b<a[i].toNat then a[i].toNat else b:=by
     rw[iF a i l,f.out];rfl
    have c:=cE g;clear g;by_cases c1:97<=a[i].toNat
    . by_cases c2:b<a[i].toNat
      . have h:decide ((b:Int)< (a[i].toNat:Int))=true:=M;go_wp2;go_round;case rel=>exact⟨i+1,a[i].toNat,by omega,rfl,by go_num,(by rw[c.out,B ⟨c1,c2⟩]:_=_)⟩
        case measure=>exact a4
      . have h:decide ((b:Int)< (a[i].toNat:Int))=false:=M;go_wp2;go_round;case rel=>exact⟨i+1,b,by omega,rfl,by go_num,(by rw[c.out,z (fun e=>c2 e.2)]:_=_)⟩
        case measure=>exact a4
    . have n:decide ((97:Int)<=(a[i].toNat:Int))=false:=M;go_wp2;go_round;case rel=>exact⟨i+1,b,by omega,rfl,by go_num,(by rw[c.out,z (fun e=>c1 e.1)]:_=_)⟩
      case measure=>exact a4
  . obtain rfl:i=a.size:=by omega
    go_wp2;go_ret;exact⟨by rw[<-f.out];rfl,rfl⟩
def e6 (c:Bool)(d:Nat):List L->Nat->Int
 |[],_=>0
 |a::e,b=>(if 97<=a.toNat then(if c=true/\a.toNat=d then -((b%2*2^(a.toNat-97):Nat):Int)else((b%2*2^(a.toNat-97):Nat):Int))else 0)+e6 c d e (b/2)
theorem Et (d:Bool)(e:Nat):∀(b:List L) (c:Nat),(∀a∈b,a.toNat<=122)-> -(33554432* (b.length:Int))<=e6 d e b c/\e6 d e b c<=33554432* (b.length:Int)
 |[],_,_=>by simp[e6]
 |a::b,c,f=>by
  have l:=Et d e b (c/2) (fun g h=>f g (by simp[h]))
  have k:=f a (by simp)
  have i:2^(a.toNat-97)<=2^25:=cV (by decide) (by omega)
  have j:c%2*2^(a.toNat-97)<=1*2^(a.toNat-97):=kd _ (by omega)
  simp only[e6,c6]
  generalize c%2*2^(a.toNat-97)=g at *
  generalize 2^(a.toNat-97)=p at *
  split
  . split<;> (constructor<;>omega)
  . constructor<;>omega
def VH {c:Bool}{d:Nat}{x:L}{g:List L}{W a i b p:Nat}{e:Int}(h:i<a)(k:97<=x.toNat)(j:Hid (b=W/2^(a-1-i)%2))(l:Hid (p=2^(x.toNat-97)))
 (m:Hid (e=e6 c d g (W/2^(a-i)))) (f:Int) (n:f=if c=true/\x.toNat=d then -((b*p:Nat):Int)else((b*p:Nat):Int)):Hid (e+f=e6 c d (x::g) (W/2^(a-1-i))):=by
 show e+f=_;simp only[e6,B k];rw[s0 W a i h,<-m.out,<-j.out,<-l.out,n];omega
def VG {d:Bool}{e:Nat}{x:L}{c:List L}{W a i:Nat}{b:Int}(f:i<a)(g:¬97<=x.toNat)
 (h:Hid (b=e6 d e c (W/2^(a-i)))):Hid (b=e6 d e (x::c) (W/2^(a-1-i))):=by
 show b=_;simp only[e6,z g];rw[s0 W a i f,<-h.out];omega
def jX (a:K)(b:Bool)(W:Nat):Int:=e6 b (gH (C.ah a.data.toList a.size)) (C.ah a.data.toList a.size) W
def UL {b:List L}{d:Nat}{c:L}(a:c∈C.ah b d):c∈b:=by
 unfold C.ah at a;rw[List.mem_reverse]at a;exact List.mem_of_mem_take a
theorem Dn (q:Int)(b:K)(f:Bool)(U V:Int)(T:K)(Q:b.size<=32)(H:∀w∈b.data.toList,w.toNat<=122)(W:Nat)(ab:G W)(X:D):
 ac 226 #[.agg #[j q,.string b,.bool f,j U,j V,.string T],j W] (j (jX b f W)) X:=by
 have x:=cE H;clear H;go_enter func226,ntmps226;go_wp2_with fail;refine(Uc b Q _).mono ?_;rintro A ah ⟨rfl,rfl⟩;obtain⟨h,a⟩:=y (gH (C.ah b.data.toList b.size));rw[<-a];have O:Hid (jX b f W=e6 f h (C.ah b.data.toList b.size) W):=pX;clear a;go_wp2_with fail;go_loop [5,7] (fun q r=>∃(i:Nat) (d:Int),i<=b.size/\q=j d/\r=j i/\Hid (d=e6 f h (C.ah b.data.toList i) (W/2^(b.size-i)))) (fun _ r=>b.size- (intOf r).toNat);case atStart=>exact⟨0,0,by omega,rfl,rfl,rfl⟩
 case round=>
  obtain⟨i,d,P,rfl,rfl,e⟩:=hrel;have E:=Et f h (C.ah b.data.toList i) (W/2^(b.size-i)) (fun w R=>x.out w (UL R));rw[C.jn _ _ (by simpa using P),<-e.out]at E;obtain⟨v1,v2⟩:=E;have v3:-1073741824<=d:=J;have v4:d<=1073741824:=J;clear v1 v2;by_cases l:i<b.size
  . have I:b.size- (i+1)=b.size-1-i:=J;have ag:b[i].toNat<=122:=x.out b[i] (by
     have:b[i]=b.data.toList[i]'(by simpa using l):=rfl;rw[this];exact gd _)
    by_cases c1:97<=b[i].toNat
    . go_wp2_with fail;refine(Dm W m _ m m _).mono ?_;rintro A L ⟨⟨k,rfl,ad,t⟩,rfl⟩;have n:((b.size:Int)-1- (i:Int)).toNat=b.size-1-i:=J;rw[n]at t;clear n;go_wp2_with fail;refine(mp _ m m _).mono ?_;rintro A L ⟨⟨p,rfl,ae,af,u⟩,rfl⟩;have n:((b[i].toNat:Int)-97).toNat=b[i].toNat-97:=J;rw[n]at u;clear n;have v:=fun(Y:Int) (S:_)=>VH (x:=b[i]'l) l c1 t u e Y S;rw[<-I,<-iF b i l]at v;have g:=cE v;clear v e t u;cases f with
      |false=>
       rcases(show k=0\/k=1 by omega)with rfl|rfl
       . have c:=g.out 0 F;exact AK
       . have c:=g.out ((p:Int)) F;exact Ln
      |true=>
       by_cases o:b[i].toNat=h
       . have N:((b[i].toNat:Int)==(h:Int))=true:=jC;have Z:=cE o;clear o;rcases(show k=0\/k=1 by omega)with rfl|rfl
         . have c:=g.out 0 Gu;exact AK
         . have c:=g.out ((-(p:Int))) Gu;go_wp2;go_round;case rel=>exact⟨i+1,d+(-(p:Int)),by omega,by go_num,by go_num,c⟩
           case measure=>exact a4
       . have N:((b[i].toNat:Int)==(h:Int))=false:=gU;rcases(show k=0\/k=1 by omega)with rfl|rfl
         . have c:=g.out 0 (by rw[z (fun s=>o s.2)];simp);exact AK
         . have c:=g.out ((p:Int)) (by rw[z (fun s=>o s.2)];simp);exact Ln
    . have aa:decide ((97:Int)<=(b[i].toNat:Int))=false:=M;have c:=VG (x:=b[i]) l c1 e;rw[<-I,<-iF b i l]at c;clear e;go_wp2;go_round;case rel=>exact⟨i+1,d,by omega,rfl,by go_num,c⟩
      case measure=>exact a4
  . obtain rfl:i=b.size:=by omega
    rw[ul,ln,oy]at e;go_wp2;go_ret;exact⟨by rw[O.out,<-e.out];rfl,(aq _ _).alloc (aB _) _⟩
def dQ (b:U)(a:L):Bool:=(a==105&&b.V2==0) ||(a==100&&b.rd==0) ||(a==115&&b.V1==0) ||(a==116&&b.V6==0) ||(a==50&&b.rd==2)
def Cb (a:K)(i:Nat)(b:i<a.size):a.data.toList.drop i=a[i]::a.data.toList.drop (i+1):=Ib
def PS {c:U}{a:K}{i:Nat}{b:Bool}(d:i<a.size)(e:dQ c a[i]=true)(f:Hid (b=(a.data.toList.drop i).any (dQ c))):b=true:=by
 rw[f.out,Cb a i d,yU,e,Bool.true_or]
def BM {c:U}{a:K}{i:Nat}{b:Bool}(d:i<a.size)(e:dQ c a[i]=false)(f:Hid (b=(a.data.toList.drop i).any (dQ c))):Hid (b=(a.data.toList.drop (i+1)).any (dQ c)):=by
 show b=_;rw[f.out,Cb a i d,yU,e,uH]
def Dl (z:Int)(L:K)(M:Bool)(I J:Int)(a:K)(P:a.size<=32)(b:U)(N:D):
 ac 227 #[.agg #[j z,.string L,.bool M,j I,j J,.string a],aV b] (.bool (a.data.toList.any (dQ b))) N:=by
 unfold aV;obtain⟨t,v⟩:=y ((a.data.toList.drop 0).any (dQ b):Bool);rw[show a.data.toList.any (dQ b)=t from v.symm];have HR:=cE v;clear v;go_enter func227,ntmps227;go_wp2;go_loop [5] (fun u=>∃i:Nat,i<=a.size/\u=j i/\Hid (t=(a.data.toList.drop i).any (dQ b))) (fun u=>a.size- (intOf u).toNat);case atStart=>exact⟨0,by omega,rfl,HR⟩
 case round=>
  obtain⟨i,O,rfl,f⟩:=hrel;by_cases w:i<a.size
  . by_cases g:(a[i].toNat:Int)=105
    . skip;have d:a[i]=105:=(cN (n:=105) R).1 g;have p:((a[i].toNat:Int)==105)=true:=rX;have o:((a[i].toNat:Int)==100)=false:=rX;have q:((a[i].toNat:Int)==115)=false:=rX;have r:((a[i].toNat:Int)==116)=false:=rX;have s:((a[i].toNat:Int)==50)=false:=rX;have c:dQ b a[i]=(b.V2==0):=rY;clear d g;cases n:(b.V2==0)
      . exact sv
      . exact sw
    by_cases h:(a[i].toNat:Int)=100
    . skip;have d:a[i]=100:=(cN (n:=100) R).1 h;have p:((a[i].toNat:Int)==105)=false:=rZ;have o:((a[i].toNat:Int)==100)=true:=rZ;have q:((a[i].toNat:Int)==115)=false:=rZ;have r:((a[i].toNat:Int)==116)=false:=rZ;have s:((a[i].toNat:Int)==50)=false:=rZ;have c:dQ b a[i]=(b.rd==0):=rY;clear d h;cases n:(b.rd==0)
      . exact sv
      . exact sw
    by_cases k:(a[i].toNat:Int)=115
    . skip;have d:a[i]=115:=(cN (n:=115) R).1 k;have p:((a[i].toNat:Int)==105)=false:=r0;have o:((a[i].toNat:Int)==100)=false:=r0;have q:((a[i].toNat:Int)==115)=true:=r0;have r:((a[i].toNat:Int)==116)=false:=r0;have s:((a[i].toNat:Int)==50)=false:=r0;have c:dQ b a[i]=(b.V1==0):=rY;clear d k;cases n:(b.V1==0)
      . exact sv
      . exact sw
    by_cases l:(a[i].toNat:Int)=116
    . skip;have d:a[i]=116:=(cN (n:=116) R).1 l;have p:((a[i].toNat:Int)==105)=false:=r1;have o:((a[i].toNat:Int)==100)=false:=r1;have q:((a[i].toNat:Int)==115)=false:=r1;have r:((a[i].toNat:Int)==116)=true:=r1;have s:((a[i].toNat:Int)==50)=false:=r1;have c:dQ b a[i]=(b.V6==0):=rY;clear d l;cases n:(b.V6==0)
      . exact sv
      . exact sw
    by_cases m:(a[i].toNat:Int)=50
    . skip;have d:a[i]=50:=(cN (n:=50) R).1 m;have p:((a[i].toNat:Int)==105)=false:=r2;have o:((a[i].toNat:Int)==100)=false:=r2;have q:((a[i].toNat:Int)==115)=false:=r2;have r:((a[i].toNat:Int)==116)=false:=r2;have s:((a[i].toNat:Int)==50)=true:=r2;have c:dQ b a[i]=(b.rd==2):=rY;clear d m;cases n:(b.rd==2)
      . exact sv
      . exact sw
    have c:dQ b a[i]=false:=by
     have C:a[i]≠105:=fun e=>g ((cN (n:=105) R).2 e);have B:a[i]≠100:=fun e=>h ((cN (n:=100) R).2 e);have E:a[i]≠115:=fun e=>k ((cN (n:=115) R).2 e);have G:a[i]≠116:=fun e=>l ((cN (n:=116) R).2 e);have H:a[i]≠50:=fun e=>m ((cN (n:=50) R).2 e);simp[dQ,C,B,E,G,H]
    have p:((a[i].toNat:Int)==105)=false:=by rw[b4];exact g
    have o:((a[i].toNat:Int)==100)=false:=by rw[b4];exact h
    have q:((a[i].toNat:Int)==115)=false:=by rw[b4];exact k
    have r:((a[i].toNat:Int)==116)=false:=by rw[b4];exact l
    have s:((a[i].toNat:Int)==50)=false:=by rw[b4];exact m
    have x:=BM w c f;clear c f g h k l m;exact Lp
  . obtain rfl:i=a.size:=by omega
    have A:Hid (t=false):=by
     show t=false;rw[f.out,eQ (by simp)];rfl
    clear f;go_wp2;go_ret;exact⟨by rw[A.out];rfl,((aq _ _).alloc (aB _) _).alloc F _⟩
def eJ (a:aW.Row)(W:Nat):U:=
 ⟨a.op,dl (fun b=>b==68 ||b==66) a.Wi W a.rd,dl (fun b=>b==83 ||b==66) a.Wi W a.V1,dl (fun b=>b==84) a.Wi W 0,jX a.Wi a.Xw W,(a.Wi.size:Int)/8⟩
def nM (a:aW.Row)(W:Nat):Bool:=C.fits (C.ah a.Wi.data.toList a.Wi.size) W&& (W/2^a.Wi.size==0)
def cy (a:aW.Row)(W:Nat):Bool:=nM a W&&!(a.no.data.toList.any (dQ (eJ a W)))
structure i7 (b:aW.Row)(a wr:D):Prop where
 below:Below a.heap.size a wr
 lt:a.heap.size+1<wr.heap.size
 ZG:wr.cell? ⟨a.heap.size,0,none⟩=some (j b.op)
 ZH:wr.cell? ⟨a.heap.size,1,none⟩=some (.string b.Wi)
 ZI:wr.cell? ⟨a.heap.size,2,none⟩=some (.bool b.Xw)
 ZJ:wr.cell? ⟨a.heap.size,3,none⟩=some (j b.rd)
 ZK:wr.cell? ⟨a.heap.size,4,none⟩=some (j b.V1)
 ZL:wr.cell? ⟨a.heap.size,5,none⟩=some (.string b.no)
 z0:wr.cell? ⟨a.heap.size+1,0,none⟩=some (j 0)
 ZM:wr.cell? ⟨a.heap.size+1,1,none⟩=some (j 0)
 z2:wr.cell? ⟨a.heap.size+1,2,none⟩=some (j 0)
 z3:wr.cell? ⟨a.heap.size+1,3,none⟩=some (j 0)
 z4:wr.cell? ⟨a.heap.size+1,4,none⟩=some (j 0)
 z5:wr.cell? ⟨a.heap.size+1,5,none⟩=some (j 0)
 Wb:∀c,wr.frozen? ⟨a.heap.size+1,c,none⟩=false
def i7.start (a:aW.Row)(b:D)(c d:TypeId):i7 a b ((b.alloc (.cells #[j a.op,.string a.Wi,.bool a.Xw,j a.rd,j a.V1,.string a.no] c)).alloc (.cells #[j 0,j 0,j 0,j 0,j 0,j 0] d)):=
 ⟨((aq _ _).alloc (aB _) _).alloc (by simp) _,by simp,by simp,by simp,by simp,by simp,by simp,by simp,by simp,by simp,by simp,by simp,by simp,by simp,by intro e;simp⟩
def i7.more {g:aW.Row}{a wr w':D}(b:i7 g a wr)(c:Below wr.heap.size wr w'):i7 g a w':=by
 have d:=b.lt;have e:a.heap.size<wr.heap.size:=J;exact⟨b.below.trans (c.mono (gm e)),aQ d c.size,(c.cell (p:=⟨a.heap.size,0,none⟩) e).trans b.ZG,(c.cell (p:=⟨a.heap.size,1,none⟩) e).trans b.ZH,(c.cell (p:=⟨a.heap.size,2,none⟩) e).trans b.ZI,(c.cell (p:=⟨a.heap.size,3,none⟩) e).trans b.ZJ,(c.cell (p:=⟨a.heap.size,4,none⟩) e).trans b.ZK,(c.cell (p:=⟨a.heap.size,5,none⟩) e).trans b.ZL,(c.cell (p:=⟨a.heap.size+1,0,none⟩) d).trans b.z0,(c.cell (p:=⟨a.heap.size+1,1,none⟩) d).trans b.ZM,(c.cell (p:=⟨a.heap.size+1,2,none⟩) d).trans b.z2,(c.cell (p:=⟨a.heap.size+1,3,none⟩) d).trans b.z3,(c.cell (p:=⟨a.heap.size+1,4,none⟩) d).trans b.z4,(c.cell (p:=⟨a.heap.size+1,5,none⟩) d).trans b.z5,fun f=>(c.frozen (p:=⟨a.heap.size+1,f,none⟩) d).trans (b.Wb f)⟩
theorem i7.alloc {a:aW.Row}{b wr:D}(c:i7 a b wr)(d:Obj):i7 a b (wr.alloc d):=c.more ((aq _ _).alloc (aB _) _)
def T9 (a:aW.Row)(d:a.Wi.size<=32)(W:Nat)(b:G W)(e:D)(c:nM a W=false):
 ac 157 #[.agg #[j a.op,.string a.Wi,.bool a.Xw,j a.rd,j a.V1,.string a.no],j W] (.tuple #[.agg #[j 0,j 0,j 0,j 0,j 0,j 0],.bool false]) e:=by
 go_enter func157,ntmps157;go_wp2_with fail;refine(xy a.Wi d W b _).mono ?_;rintro f g ⟨rfl,rfl⟩;rw[show(C.fits (C.ah a.Wi.data.toList a.Wi.size) W&& (W/2^a.Wi.size==0))=false from c];go_wp2;exact ab (v:=.tuple #[.agg #[j 0,j 0,j 0,j 0,j 0,j 0],.bool false]) (by simp[results,results157,go_sem]) rfl ⟨rfl,((aq _ _).alloc (aB _) _).alloc F _⟩
def Ua (a:aW.Row)(g:a.Wi.size<=32)(v:∀b∈a.Wi.data.toList,b.toNat<=122)(w:a.no.size<=32)(W:Nat)(e:G W)(i:D)(u:nM a W=true)
 (t:a.no.data.toList.any (dQ (eJ a W))=true):
 ac 157 #[.agg #[j a.op,.string a.Wi,.bool a.Xw,j a.rd,j a.V1,.string a.no],j W] (.tuple #[.agg #[j 0,j 0,j 0,j 0,j 0,j 0],.bool false]) i:=by
 go_enter func157,ntmps157;go_wp2_with fail;refine(xy a.Wi g W e _).mono ?_;rintro d h ⟨rfl,rfl⟩;rw[show(C.fits (C.ah a.Wi.data.toList a.Wi.size) W&& (W/2^a.Wi.size==0))=true from u];go_wp2_with fail;refine(Dp a.Wi g W e a.rd _).mono ?_;rintro d h ⟨rfl,rfl⟩;go_wp2_with fail;refine(Dq a.Wi g W e a.V1 _).mono ?_;rintro d h ⟨rfl,rfl⟩;go_wp2_with fail;refine(Dr a.Wi g W e 0 _).mono ?_;rintro d h ⟨rfl,rfl⟩;go_wp2_with fail;refine(Dn a.op a.Wi a.Xw a.rd a.V1 a.no g v W e _).mono ?_;rintro d h ⟨rfl,k⟩;have c:=(i7.start a i _ _).more k;clear k;have f:Hid (eJ a W=⟨a.op,dl (fun b=>b==68 ||b==66) a.Wi W a.rd,dl (fun b=>b==83 ||b==66) a.Wi W a.V1,dl (fun b=>b==84) a.Wi W 0,jX a.Wi a.Xw W,(a.Wi.size:Int)/8⟩):=rfl;generalize dl (fun b=>b==68 ||b==66) a.Wi W a.rd=v1 at f|-;generalize dl (fun b=>b==83 ||b==66) a.Wi W a.V1=v2 at f|-;generalize dl (fun b=>b==84) a.Wi W 0=v3 at f|-;generalize jX a.Wi a.Xw W=v4 at f|-;obtain⟨-,-,y,z,A,B,E,F,-,-,-,-,-,-,-⟩:=id c;have x:i.heap.size<h.heap.size:=by have:=c.lt;omega
 go_wp2_with fail;refine(Dl a.op a.Wi a.Xw a.rd a.V1 a.no w ⟨a.op,v1,v2,v3,v4,(a.Wi.size:Int)/8⟩ _).mono ?_;rintro d H ⟨rfl,l⟩;rw[<-f.out,t];replace c:=(c.alloc _).more l;clear l y z A B E F x;obtain⟨-,-,-,-,-,-,-,-,n,o,p,q,r,s,I⟩:=id c;go_wp2;exact ab (v:=.tuple #[.agg #[j 0,j 0,j 0,j 0,j 0,j 0],.bool false]) Gv rfl ⟨rfl,nA c.below _ m _ _ _ _ _ _⟩
def Ub (a:aW.Row)(i:a.Wi.size<=32)(v:∀b∈a.Wi.data.toList,b.toNat<=122)(w:a.no.size<=32)(W:Nat)(h:G W)(k:D)(u:nM a W=true)
 (t:a.no.data.toList.any (dQ (eJ a W))=false):
 ac 157 #[.agg #[j a.op,.string a.Wi,.bool a.Xw,j a.rd,j a.V1,.string a.no],j W] (.tuple #[aV (eJ a W),.bool true]) k:=by
 go_enter func157,ntmps157;go_wp2_with fail;refine(xy a.Wi i W h _).mono ?_;rintro g c ⟨rfl,rfl⟩;rw[show(C.fits (C.ah a.Wi.data.toList a.Wi.size) W&& (W/2^a.Wi.size==0))=true from u];go_wp2_with fail;refine(Dp a.Wi i W h a.rd _).mono ?_;rintro g c ⟨rfl,rfl⟩;go_wp2_with fail;refine(Dq a.Wi i W h a.V1 _).mono ?_;rintro g c ⟨rfl,rfl⟩;go_wp2_with fail;refine(Dr a.Wi i W h 0 _).mono ?_;rintro g c ⟨rfl,rfl⟩;go_wp2_with fail;refine(Dn a.op a.Wi a.Xw a.rd a.V1 a.no i v W h _).mono ?_;rintro g c ⟨rfl,l⟩;have f:=(i7.start a k _ _).more l;clear l;have e:Hid (eJ a W=⟨a.op,dl (fun b=>b==68 ||b==66) a.Wi W a.rd,dl (fun b=>b==83 ||b==66) a.Wi W a.V1,dl (fun b=>b==84) a.Wi W 0,jX a.Wi a.Xw W,(a.Wi.size:Int)/8⟩):=rfl;generalize dl (fun b=>b==68 ||b==66) a.Wi W a.rd=v1 at e|-;generalize dl (fun b=>b==83 ||b==66) a.Wi W a.V1=v2 at e|-;generalize dl (fun b=>b==84) a.Wi W 0=v3 at e|-;generalize jX a.Wi a.Xw W=v4 at e|-;obtain⟨-,-,y,z,A,B,E,H,-,-,-,-,-,-,-⟩:=id f;have x:k.heap.size<c.heap.size:=by have:=f.lt;omega
 go_wp2_with fail;refine(Dl a.op a.Wi a.Xw a.rd a.V1 a.no w ⟨a.op,v1,v2,v3,v4,(a.Wi.size:Int)/8⟩ _).mono ?_;rintro g I ⟨rfl,d⟩;rw[<-e.out,t];replace f:=(f.alloc _).more d;have J:=(d.cell (p:=⟨c.heap.size,0,none⟩) F).trans (by simp:_=some (j a.op));have K:=(d.cell (p:=⟨c.heap.size,1,none⟩) F).trans (by simp:_=some (j v1));have L:=(d.cell (p:=⟨c.heap.size,2,none⟩) F).trans (by simp:_=some (j v2));have M:=(d.cell (p:=⟨c.heap.size,3,none⟩) F).trans (by simp:_=some (j v3));have N:=(d.cell (p:=⟨c.heap.size,4,none⟩) F).trans (by simp:_=some (j v4));have O:=(d.cell (p:=⟨c.heap.size,5,none⟩) F).trans (by simp:_=some (j ((a.Wi.size:Int)/8)));clear d y z A B E H x;obtain⟨-,-,-,-,-,-,-,-,n,o,p,q,r,s,P⟩:=id f;go_wp2;refine ab (v:=.tuple #[.agg #[j a.op,j v1,j v2,j v3,j v4,j ((a.Wi.size:Int)/8)],.bool true]) Gv rfl ⟨by rw[e.out];rfl,nA f.below _ m _ _ _ _ _ _⟩
def Do (a:aW.Row)(e:a.Wi.size<=32)(g:∀i∈a.Wi.data.toList,i.toNat<=122)(h:a.no.size<=32)(W:Nat)(c:G W)(b:D):
 ac 157 #[dw a,j W] (.tuple #[aV (if cy a W=true then eJ a W else aF),.bool (cy a W)]) b:=by
 unfold cy;cases d:nM a W
 . exact T9 a e W c b d
 . cases f:a.no.data.toList.any (dQ (eJ a W))
   . exact Ub a e g h W c b d f
   . exact Ua a e g h W c b d f
end Go.Proofs.YtmlgonbhoknoiabGreatDoor
