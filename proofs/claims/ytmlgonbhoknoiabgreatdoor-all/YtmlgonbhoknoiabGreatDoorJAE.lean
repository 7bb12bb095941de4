import Derived.Test.YtmlgonbhoknoiabGreatDoorJAC
set_option maxHeartbeats 8000000
set_option maxRecDepth 100000
set_option linter.all false
namespace Go.Proofs.YtmlgonbhoknoiabGreatDoor
open Go.RowKit Go.Proofs.Tryz
def QY (b a:Int):(b* (a/65536)+b* (a%65536)/65536)/65536=b*a/4294967296:=by
 have c:b*a=b* (a%65536)+b* (a/65536)*65536:=by
  have:=un a 65536;rw[mL,<-ro,Int.mul_comm (a/65536) 65536,this]
 have d:b*a/65536=b* (a/65536)+b* (a%65536)/65536:=by
  rw[c,Int.add_mul_ediv_right _ _ (by decide)];omega
 rw[<-d,yH (by decide)];rfl
def CW {a b:Int}{A B:Nat}(g:-(A:Int)<=a)(h:a<=A)(e:-(B:Int)<=b)(f:b<=B):-((A*B:Nat):Int)<=a*b/\a*b<=((A*B:Nat):Int):=by
 have c:a.natAbs<=A:=J;have d:b.natAbs<=B:=J;have i:(a*b).natAbs<=A*B:=by rw[Int.natAbs_mul];exact uy c d
 omega
def ya (b a:Int)(k:-4294967296<=b)(n:b<=4294967296)(L:-4294967296<=a)(M:a<=4294967296)(E:D):
 O 426 #[j b,j a] (j (b*a/4294967296)) E:=by
 rw[<-QY];have f1:=tQ a 65536 m m m m;have g:a%65536=a-a/65536*65536:=J;obtain⟨p,r⟩:=y (a/65536);have A:-65536<=p:=J;have B:p<=65536:=J;obtain⟨c,s⟩:=y (a%65536);have Q:0<=c:=J;have C:c<=65536:=J;rw[<-r]at f1 g|-;rw[<-s]at g|-;have t:=CW (A:=4294967296) (B:=65536) k n A B;have u:=CW (A:=4294967296) (B:=65536) k n (show -((65536:Nat):Int)<=c by omega) C;obtain⟨d,h⟩:=y (b*p);obtain⟨e,i⟩:=y (b*c);rw[<-h]at t|-;rw[<-i]at u|-;have f2:=tQ e 65536 m m m m;obtain⟨f,q⟩:=y (e/65536);have N:-281474976710656<=f:=J;have P:f<=281474976710656:=J;rw[<-q]at f2|-;have f3:=tQ (d+f) 65536 m m m m;obtain⟨G,o⟩:=y ((d+f)/65536);rw[<-o]at f3|-;have R:-281474976710656<=d:=J;have S:d<=281474976710656:=J;have v:=l f1;have w:=l f2;have x:=l f3;have H:a-p*65536=c:=g.symm;have I:b*p=d:=h.symm;have K:b*c=e:=i.symm;have T:-281474976710656<=e:=J;have U:e<=281474976710656:=J;clear f1 f2 f3 r s h i q o g t u;go_enter func426,ntmps426;go_wp2_with fail;refine(v.out _).mono ?_;rintro z F ⟨rfl,rfl⟩;go_wp2_with fail;refine(w.out _).mono ?_;rintro z F ⟨rfl,rfl⟩;go_wp2_with fail;refine(x.out _).mono ?_;exact ex
def SP (b a:Nat):(b* (a/65536)%4294967296*65536+b* (a%65536))%4294967296=b*a%4294967296:=by
 have c:b*a=b* (a/65536)*65536+b* (a%65536):=by
  have:=Nat.div_add_mod a 65536;rw[hz,<-ju,fk (a/65536) 65536,this]
 rw[c,Nat.add_mod,Nat.mul_mod,Nat.mod_mod,<-Nat.mul_mod,<-Nat.add_mod]
def abP (a b:Nat)(F:G a)(H:G b)(B:D):
 O 425 #[j a,j b] (j ((a*b%4294967296:Nat):Int)) B:=by
 rw[<-SP];have d1:(b:Int).tdiv 65536=((b/65536:Nat):Int):=kl;have d2:(b:Int).tmod 65536=((b%65536:Nat):Int):=fc;obtain⟨p,o⟩:=y (b/65536);obtain⟨d,q⟩:=y (b%65536);have h:p<=65536:=J;have A:d<=65536:=J;rw[<-o]at d1|-;rw[<-q]at d2|-;have t:a*p<=4294967296*65536:=H6;have u:a*d<=4294967296*65536:=uy m A;have x:(a:Int)*p=((a*p:Nat):Int):=bL;have z:(a:Int)*d=((a*d:Nat):Int):=bL;obtain⟨e,r⟩:=y (a*p);obtain⟨f,s⟩:=y (a*d);rw[<-r]at t x|-;rw[<-s]at u z|-;have f1:=ye e;have g:(e:Int)%4294967296=((e%4294967296:Nat):Int):=J;rw[g]at f1;obtain⟨c,n⟩:=y (e%4294967296);have I:G c:=J;rw[<-n]at f1|-;have f2:=ye ((c:Int)*65536+f);have i:((c:Int)*65536+f)%4294967296=(((c*65536+f)%4294967296:Nat):Int):=J;rw[i]at f2;obtain⟨C,k⟩:=y ((c*65536+f)%4294967296);rw[<-k]at f2|-;have v:=l f1;have w:=l f2;have K:e<=281474976710656:=J;have L:f<=281474976710656:=J;clear f1 f2 g i o q r s n k t u;go_enter func425,ntmps425;go_wp2_with fail;refine(v.out _).mono ?_;rintro E M ⟨rfl,rfl⟩;go_wp2_with fail;refine(w.out _).mono ?_;exact ex
def am (a:Int):Nat:=(a%4294967296).toNat
def Fi (a:Int):((am a:Nat):Int)=a%4294967296:=by unfold am;omega
def ir (a b:Nat):Nat:=(a+b)%4294967296
def ny (a b:Nat):Nat:=am ((a:Int)-b)
def lY (a b:Nat):Nat:=if aX a<aX b then 1 else 0
def lZ (a b:Nat):Nat:=if a<b then 1 else 0
def kF (a b:Nat):Nat:=a^^^b
def kz (a b:Nat):Nat:=a |||b
def ku (a b:Nat):Nat:=a&&&b
def kC (a b:Nat):Nat:=a*2^(b%32)%4294967296
def kE (a b:Nat):Nat:=a/2^(b%32)
def kD (a b:Nat):Nat:=am (aX a/ ((2^(b%32):Nat):Int))
def kx (a b:Nat):Nat:=a*b%4294967296
def nw (a b:Nat):Nat:=am (aX a*aX b/4294967296)
def nx (a b:Nat):Nat:=am (aX a*b/4294967296)
def ky (a b:Nat):Nat:=a*b/4294967296
def kv (b a:Nat):Nat:=if a=0 then 4294967295 else am ((aX b).tdiv (aX a))
def kw (b a:Nat):Nat:=if a=0 then 4294967295 else b/a
def kA (a b:Nat):Nat:=if b=0 then a else am (aX a- (aX a).tdiv (aX b)*aX b)
def kB (a b:Nat):Nat:=if b=0 then a else a%b
def p5 (_ a:Nat):Nat:=a
def p3 (a b:Nat):Nat:=if aX a<aX b then a else b
def p1 (a b:Nat):Nat:=if aX b<aX a then a else b
def p4 (a b:Nat):Nat:=if a<b then a else b
def p2 (a b:Nat):Nat:=if b<a then a else b
def co (a:Int)(b c:Nat):Nat:=
 if a=19\/a=28\/a=53 then ir b c else
 if a=29 then ny b c else
 if a=20\/a=31 then lY b c else
 if a=21\/a=32 then lZ b c else
 if a=22\/a=33\/a=54 then kF b c else
 if a=23\/a=36\/a=56 then kz b c else
 if a=24\/a=37\/a=55 then ku b c else
 if a=25\/a=30 then kC b c else
 if a=26\/a=34 then kE b c else
 if a=27\/a=35 then kD b c else
 if a=42 then kx b c else
 if a=43 then nw b c else
 if a=44 then nx b c else
 if a=45 then ky b c else
 if a=46 then kv b c else
 if a=47 then kw b c else
 if a=48 then kA b c else
 if a=49 then kB b c else
 if a=52 then p5 b c else
 if a=57 then p3 b c else
 if a=58 then p1 b c else
 if a=59 then p4 b c else
 if a=60 then p2 b c else
 0
def e5 (a:Nat)(b:G a):-2147483648<=aX a/\aX a<=2147483647:=by unfold aX;split<;>omega
def fW (a:Int)(b:D):O 368 #[j a] (j (am a)) b:=by
 rw[Fi];exact ye a b
def tD (a:Nat)(b:G a):(aX a=0)↔a=0:=by unfold aX;split<;>omega
def EC (a b:Int)(d:-2147483648<=a)(e:a<=2147483647):-2147483648<=a.tdiv b/\a.tdiv b<=2147483648:=by
 have c:=yI a b;have f:(a.tdiv b).natAbs<=2147483648:=by rw[c];exact fD (lq _ _) m
 omega
def aad (a b:Int)(d:-2147483648<=a)(e:a<=2147483647):-2147483648<=a.tdiv b*b/\a.tdiv b*b<=2147483648:=by
 have c:=Int.mul_tdiv_add_tmod a b;have f:(a.tdiv b*b).natAbs<=a.natAbs:=by
  rw[Int.natAbs_mul,yI];exact Nat.div_mul_le_self _ _
 omega
def aa5 (a b:Nat)(i:G a)(k:G b)(h:D):
 O 399 #[j 19,j a,j b] (j (ir a b:Nat)) h:=zS
def abe (a b:Nat)(i:G a)(k:G b)(h:D):
 O 399 #[j 28,j a,j b] (j (ir a b:Nat)) h:=zS
def aby (a b:Nat)(i:G a)(k:G b)(h:D):
 O 399 #[j 53,j a,j b] (j (ir a b:Nat)) h:=zS
def abf (a b:Nat)(g:G a)(h:G b)(f:D):
 O 399 #[j 29,j a,j b] (j (ny a b:Nat)) f:=by
 have d:=l (bx a m m);have e:=l (bx b m m);have c:=l (fW ((a:Int)-b));exact nf
def aa6 (a d:Nat)(o:G a)(p:G d)(q:D):
 O 399 #[j 20,j a,j d] (j (lY a d:Nat)) q:=IJ
def abh (a d:Nat)(o:G a)(p:G d)(q:D):
 O 399 #[j 31,j a,j d] (j (lY a d:Nat)) q:=IJ
def aa7 (a d:Nat)(g:G a)(h:G d)(f:D):
 O 399 #[j 21,j a,j d] (j (lZ a d:Nat)) f:=IK
def abi (a d:Nat)(g:G a)(h:G d)(f:D):
 O 399 #[j 32,j a,j d] (j (lZ a d:Nat)) f:=IK
def aa8 (a b:Nat)(f:G a)(g:G b)(h:D):
 O 399 #[j 22,j a,j b] (j (kF a b:Nat)) h:=zT
def abj (a b:Nat)(f:G a)(g:G b)(h:D):
 O 399 #[j 33,j a,j b] (j (kF a b:Nat)) h:=zT
def abz (a b:Nat)(f:G a)(g:G b)(h:D):
 O 399 #[j 54,j a,j b] (j (kF a b:Nat)) h:=zT
def aa9 (a b:Nat)(f:G a)(g:G b)(h:D):
 O 399 #[j 23,j a,j b] (j (kz a b:Nat)) h:=zU
def abm (a b:Nat)(f:G a)(g:G b)(h:D):
 O 399 #[j 36,j a,j b] (j (kz a b:Nat)) h:=zU
def abB (a b:Nat)(f:G a)(g:G b)(h:D):
 O 399 #[j 56,j a,j b] (j (kz a b:Nat)) h:=zU
def aba (a b:Nat)(f:G a)(g:G b)(h:D):
 O 399 #[j 24,j a,j b] (j (ku a b:Nat)) h:=zV
def abn (a b:Nat)(f:G a)(g:G b)(h:D):
 O 399 #[j 37,j a,j b] (j (ku a b:Nat)) h:=zV
def abA (a b:Nat)(f:G a)(g:G b)(h:D):
 O 399 #[j 55,j a,j b] (j (ku a b:Nat)) h:=zV
def abb (b a:Nat)(A:G b)(B:G a)(q:D):
 O 399 #[j 25,j b,j a] (j (kC b a:Nat)) q:=IL
def abg (b a:Nat)(A:G b)(B:G a)(q:D):
 O 399 #[j 30,j b,j a] (j (kC b a:Nat)) q:=IL
def abc (b a:Nat)(t:G b)(u:G a)(n:D):
 O 399 #[j 26,j b,j a] (j (kE b a:Nat)) n:=IM
def abk (b a:Nat)(t:G b)(u:G a)(n:D):
 O 399 #[j 34,j b,j a] (j (kE b a:Nat)) n:=IM
def abd (b a:Nat)(e:G b)(z:G a)(o:D):
 O 399 #[j 27,j b,j a] (j (kD b a:Nat)) o:=IN
def abl (b a:Nat)(e:G b)(z:G a)(o:D):
 O 399 #[j 35,j b,j a] (j (kD b a:Nat)) o:=IN
def abo (a b:Nat)(f:G a)(g:G b)(h:D):
 O 399 #[j 42,j a,j b] (j (kx a b:Nat)) h:=by
 have d:=l (bx a m m);have e:=l (bx b m m);have c:=l (abP a b f g);unfold kx;exact nf
def abp (a b:Nat)(i:G a)(n:G b)(o:D):
 O 399 #[j 43,j a,j b] (j (nw a b:Nat)) o:=by
 have e:=l (bx a m m);have f:=l (bx b m m);have p:=e5 a i;have q:=e5 b n;unfold nw;have g:=ya (aX a) (aX b) m m m m;obtain⟨h,c⟩:=y (aX a*aX b/4294967296);exact IP
def abq (a b:Nat)(i:G a)(o:G b)(n:D):
 O 399 #[j 44,j a,j b] (j (nx a b:Nat)) n:=by
 have e:=l (bx a m m);have f:=l (bx b m m);have p:=e5 a i;unfold nx;have g:=ya (aX a) ((b:Int)) m m m m;obtain⟨h,c⟩:=y (aX a* (b:Int)/4294967296);exact IP
def abr (a b:Nat)(k:G a)(n:G b)(h:D):
 O 399 #[j 45,j a,j b] (j (ky a b:Nat)) h:=by
 have d:=l (bx a m m);have f:=l (bx b m m);unfold ky;have g:=ya (a:Int) (b:Int) m m m m;have c:(a:Int)*b/4294967296=((a*b/4294967296:Nat):Int):=by
  rw[show(a:Int)*b=((a*b:Nat):Int)by simp];omega
 rw[c]at g;have e:=l g;clear g c;go_enter lr,ls;go_wp2_with fail;refine(d.out _).mono ?_;rintro i o ⟨rfl,rfl⟩;go_wp2_with fail;refine(f.out _).mono ?_;exact IQ
def abt (e d:Nat)(q:G e)(p:G d)(u:D):
 O 399 #[j 46,j e,j d] (j (kv e d:Nat)) u:=by
 have b:=l (bx e m m);have c:=l (bx d m m);have i:=e5 e q;have v:=e5 d p;unfold kv;have n:=tD d p;obtain⟨o,h⟩:=y (aX e);obtain⟨a,f⟩:=y (aX d);rw[<-h,<-f];rw[<-h]at b i;rw[<-f]at c v;rw[<-f]at n;clear h f;by_cases g:d=0
 . exact IR
 . rw[z g];have hd:(a==0)=false:=M;have r:=EC o a i.1 i.2;obtain⟨t,s⟩:=fG (o.tdiv a);rw[s]at r|-;have k:=l (fW t);exact IS
def abu (d a:Nat)(n:G d)(i:G a)(k:D):
 O 399 #[j 47,j d,j a] (j (kw d a:Nat)) k:=by
 have b:=l (bx d m m);have c:=l (bx a m m);have q:=e5 a i;unfold kw;by_cases e:a=0
 . exact IT
 . rw[z e];have o:((a:Int)==0)=false:=M;have h:=n0 d a;have g:d/a<=d:=kk;obtain⟨p,f⟩:=y (d/a);rw[<-f]at h g|-;clear f;exact hG
def abv (e d:Nat)(s:G e)(p:G d)(x:D):
 O 399 #[j 48,j e,j d] (j (kA e d:Nat)) x:=by
 have b:=l (bx e m m);have c:=l (bx d m m);have f:=e5 e s;have A:=e5 d p;unfold kA;have n:=tD d p;obtain⟨h,o⟩:=y (aX e);obtain⟨a,i⟩:=y (aX d);rw[<-o,<-i];rw[<-o]at b f;rw[<-i]at c A;rw[<-i]at n;clear o i;by_cases g:d=0
 . exact IR
 . rw[z g];have hd:(a==0)=false:=M;have u:=EC h a f.1 f.2;have q:=aad h a f.1 f.2;obtain⟨w,r⟩:=fG (h.tdiv a);rw[r]at u|-;rw[r]at q;obtain⟨v,t⟩:=fG (w*a);rw[t]at q|-;have k:=l (fW (h-v));exact IS
def abw (d a:Nat)(v:G d)(s:G a)(t:D):
 O 399 #[j 49,j d,j a] (j (kB d a:Nat)) t:=by
 have b:=l (bx d m m);have c:=l (bx a m m);have x:=e5 a s;unfold kB;by_cases e:a=0
 . exact IT
 . rw[z e];have w:((a:Int)==0)=false:=M;have q:=n0 d a;have o:d/a<=d:=kk;have h:d%a=d-d/a*a:=by have:=Nat.mod_add_div d a;rw[fk a]at this;omega
   have g:d/a*a<=d:=Nat.div_mul_le_self _ _;rw[h];obtain⟨f,i⟩:=y (d/a);rw[<-i]at q o g|-;have r:(f:Int)*a=((f*a:Nat):Int):=bL;obtain⟨n,k⟩:=y (f*a);rw[<-k]at r g|-;have HR:Hid (((d-n:Nat):Int)=(d:Int)-n):=ig;clear i k h;go_enter lr,ls;go_wp2_with fail;refine(b.out _).mono ?_;rintro p u ⟨rfl,rfl⟩;go_wp2_with fail;refine(c.out _).mono ?_;rintro p u ⟨rfl,rfl⟩;go_wp2_with fail;go_ret;exact⟨by rw[HR.out]<;>rfl,rfl⟩
def abx (a d:Nat)(f:G a)(g:G d)(e:D):
 O 399 #[j 52,j a,j d] (j (p5 a d:Nat)) e:=by
 have b:=l (bx a m m);have c:=l (bx d m m);unfold p5;exact hG
def abC (a d:Nat)(o:G a)(p:G d)(q:D):
 O 399 #[j 57,j a,j d] (j (p3 a d:Nat)) q:=by
 have b:=l (bx a m m);have c:=l (bx d m m);have k:=e5 a o;have n:=e5 d p;unfold p3;obtain⟨e,g⟩:=y (aX a);obtain⟨f,h⟩:=y (aX d);exact IU
def abD (a d:Nat)(k:G a)(n:G d)(o:D):
 O 399 #[j 58,j a,j d] (j (p1 a d:Nat)) o:=by
 have b:=l (bx a m m);have c:=l (bx d m m);have p:=e5 a k;have q:=e5 d n;unfold p1;obtain⟨e,g⟩:=y (aX a);obtain⟨f,h⟩:=y (aX d);rw[<-g,<-h];rw[<-g]at b p;rw[<-h]at c q;clear g h;by_cases i:f<e
 . rw[B i];have hd:decide (f<e)=true:=M;exact hG
 . rw[z i];have hd:decide (f<e)=false:=M;exact hG
def abE (a d:Nat)(g:G a)(h:G d)(f:D):
 O 399 #[j 59,j a,j d] (j (p4 a d:Nat)) f:=by
 have b:=l (bx a m m);have c:=l (bx d m m);unfold p4;exact IV
def abF (a d:Nat)(g:G a)(h:G d)(f:D):
 O 399 #[j 60,j a,j d] (j (p2 a d:Nat)) f:=by
 have b:=l (bx a m m);have c:=l (bx d m m);unfold p2;by_cases e:d<a
 . rw[B e];exact hG
 . rw[z e];exact hG
def abG (a:Int)(d e:Nat)(W:G d)(X:G e)(g:(a==19)=false)(h:(a==20)=false)(i:(a==21)=false)(k:(a==22)=false)(n:(a==23)=false)(o:(a==24)=false)(p:(a==25)=false)(q:(a==26)=false)(r:(a==27)=false)(s:(a==28)=false)(t:(a==29)=false)(u:(a==30)=false)(v:(a==31)=false)(w:(a==32)=false)(x:(a==33)=false)(y:(a==34)=false)(z:(a==35)=false)(A:(a==36)=false)(B:(a==37)=false)(C:(a==42)=false)(E:(a==43)=false)(F:(a==44)=false)(H:(a==45)=false)(I:(a==46)=false)(J:(a==47)=false)(K:(a==48)=false)(L:(a==49)=false)(M:(a==52)=false)(N:(a==53)=false)(P:(a==54)=false)(Q:(a==55)=false)(R:(a==56)=false)(S:(a==57)=false)(T:(a==58)=false)(U:(a==59)=false)(V:(a==60)=false)(f:D):
 O 399 #[j a,j d,j e] (j 0) f:=by
 have b:=l (bx d m m);have c:=l (bx e m m);exact hG
def x8 (c:Int)(a b:Nat)(e:G a)(f:G b)(d:D):
 O 399 #[j c,j a,j b] (j (co c a b:Nat)) d:=by
 by_cases g:c=19
 . subst g;exact aa5 a b e f d
 by_cases q:c=28
 . subst q;exact abe a b e f d
 by_cases M:c=53
 . subst M;exact aby a b e f d
 by_cases r:c=29
 . subst r;exact abf a b e f d
 by_cases h:c=20
 . subst h;exact aa6 a b e f d
 by_cases t:c=31
 . subst t;exact abh a b e f d
 by_cases i:c=21
 . subst i;exact aa7 a b e f d
 by_cases u:c=32
 . subst u;exact abi a b e f d
 by_cases k:c=22
 . subst k;exact aa8 a b e f d
 by_cases v:c=33
 . subst v;exact abj a b e f d
 by_cases N:c=54
 . subst N;exact abz a b e f d
 by_cases l:c=23
 . subst l;exact aa9 a b e f d
 by_cases y:c=36
 . subst y;exact abm a b e f d
 by_cases Q:c=56
 . subst Q;exact abB a b e f d
 by_cases m:c=24
 . subst m;exact aba a b e f d
 by_cases A:c=37
 . subst A;exact abn a b e f d
 by_cases P:c=55
 . subst P;exact abA a b e f d
 by_cases n:c=25
 . subst n;exact abb a b e f d
 by_cases s:c=30
 . subst s;exact abg a b e f d
 by_cases o:c=26
 . subst o;exact abc a b e f d
 by_cases w:c=34
 . subst w;exact abk a b e f d
 by_cases p:c=27
 . subst p;exact abd a b e f d
 by_cases x:c=35
 . subst x;exact abl a b e f d
 by_cases B:c=42
 . subst B;exact abo a b e f d
 by_cases C:c=43
 . subst C;exact abp a b e f d
 by_cases E:c=44
 . subst E;exact abq a b e f d
 by_cases F:c=45
 . subst F;exact abr a b e f d
 by_cases H:c=46
 . subst H;exact abt a b e f d
 by_cases I:c=47
 . subst I;exact abu a b e f d
 by_cases J:c=48
 . subst J;exact abv a b e f d
 by_cases K:c=49
 . subst K;exact abw a b e f d
 by_cases L:c=52
 . subst L;exact abx a b e f d
 by_cases R:c=57
 . subst R;exact abC a b e f d
 by_cases S:c=58
 . subst S;exact abD a b e f d
 by_cases T:c=59
 . subst T;exact abE a b e f d
 by_cases U:c=60
 . subst U;exact abF a b e f d
 have V:co c a b=0:=by
  unfold co;rw[z (by omega)];rw[z (by omega)];rw[z (by omega)];rw[z (by omega)];rw[z (by omega)];rw[z (by omega)];rw[z (by omega)];rw[z (by omega)];rw[z (by omega)];rw[z (by omega)];rw[z (by omega)];rw[z (by omega)];rw[z (by omega)];rw[z (by omega)];rw[z (by omega)];rw[z (by omega)];rw[z (by omega)];rw[z (by omega)];rw[z (by omega)];rw[z (by omega)];rw[z (by omega)];rw[z (by omega)];rw[z (by omega)]
 rw[V];exact abG c a b e f (by simp[g]) (by simp[h]) (by simp[i]) (by simp[k]) (by simp[l]) (by simp[m]) (by simp[n]) (by simp[o]) (by simp[p]) (by simp[q]) (by simp[r]) (by simp[s]) (by simp[t]) (by simp[u]) (by simp[v]) (by simp[w]) (by simp[x]) (by simp[y]) (by simp[A]) (by simp[B]) (by simp[C]) (by simp[E]) (by simp[F]) (by simp[H]) (by simp[I]) (by simp[J]) (by simp[K]) (by simp[L]) (by simp[M]) (by simp[N]) (by simp[P]) (by simp[Q]) (by simp[R]) (by simp[S]) (by simp[T]) (by simp[U]) d
def holds (c:Int)(a b:Nat):Bool:=
 if c=5 then decide (a=b)else if c=6 then !decide (a=b)else if c=7 then decide (aX a<aX b)else if c=8 then decide (aX b<=aX a)else if c=9 then decide (a<b)else if c=10 then decide (b<=a)else false
def abN (a:Int)(d e:Nat)(t:G d)(u:G e)(q:D):
 O 396 #[j a,j d,j e] (.bool (holds a d e)) q:=by
 have b:=l (bx d m m);have c:=l (bx e m m);unfold holds;obtain⟨r,o⟩:=y (aX d);obtain⟨s,p⟩:=y (aX e);rw[<-o,<-p];rw[<-o]at b;rw[<-p]at c;clear o p;by_cases g:a=5
 . subst g;rw[B rfl];have hd:((d:Int)==(e:Int))=decide (d=e):=ik;exact vE
 rw[z g];by_cases h:a=6
 . subst h;rw[B rfl];have hd:((d:Int) !=(e:Int))=!decide (d=e):=ik;exact vE
 rw[z h];by_cases i:a=7
 . subst i;exact IX
 rw[z i];by_cases k:a=8
 . subst k;exact IX
 rw[z k];by_cases n:a=9
 . subst n;rw[B rfl];have hd:decide ((d:Int)< (e:Int))=decide (d<e):=gW;exact vE
 rw[z n];by_cases f:a=10
 . subst f;rw[B rfl];have hd:decide ((e:Int)<=(d:Int))=decide (e<=d):=gW;exact vE
 rw[z f];have w:(a==5)=false:=by simp[g]
 have x:(a==6)=false:=by simp[h]
 have A:(a==7)=false:=by simp[i]
 have C:(a==8)=false:=by simp[k]
 have E:(a==9)=false:=by simp[n]
 have v:(a==10)=false:=by simp[f]
 clear g h i k n f;exact IW
def l4 (a b:Int):Int:=if b=0 then(if a=1 then 12 else 1)else if b=1 then(if a=1 then 13 else 5)else(if a=1 then 15 else 7)
def q3 (c a:Int)(g:D):
 O 366 #[j c,j a] (j (l4 c a)) g:=by
 unfold l4;by_cases b:a=0
 . have e:(a==0)=true:=by simp[b]
   rw[B b];clear b;exact IY
 . have e:(a==0)=false:=by simp[b]
   rw[z b];clear b;by_cases d:a=1
   . have f:(a==1)=true:=by simp[d]
     rw[B d];exact I0
   . have f:(a==1)=false:=by simp[d]
     rw[z d];exact I0
def gB (b a c:Int):Value:=.agg #[j b,j a,j c]
def mD (a b:Int)(c:D):
 ac 367 #[j a,j b] (gB 0 a b) c:=by
 unfold gB;go_enter func367,ntmps367;go_wp2_with fail;refine ab (v:=.agg #[j 0,j a,j b]) (by simp[results,results367,go_sem]) rfl ⟨rfl,?_⟩;exact I1
def om (a:Int)(c:D):
 ac 395 #[j a] (gB (am a) (-1) 0) c:=by
 unfold gB;have b:=l (fW a);go_enter func395,ntmps395;go_wp2_with fail;refine(b.out _).mono ?_;rintro d e ⟨rfl,rfl⟩;go_wp2_with fail;refine ab (v:=.agg #[j (am a),j (-1),j 0]) (by simp[results,results395,go_sem]) rfl ⟨rfl,?_⟩;exact I1
def xn (a:Nat):(a:Int).tdiv 2=((a/2:Nat):Int):=by rw[hA (by omega)];omega
def BQ (b a:Nat):b/2^(a+1)=b/2/2^a:=by rw[gO,gc,fk]
theorem acg (b i:Nat)(z:G b)(w:i<=40)(v:D):
 O 443 #[j b,j i] (.bool (decide (b/2^i%2=1))) v:=by
 obtain⟨e,m⟩:=y (b/2^i%2:Nat);rw[<-m];have d:=l m;clear m;go_enter func443,ntmps443;go_wp2_with fail;go_loop [0,1] (fun q k=>∃c a:Nat,a<=i/\c<=b/\q=j c/\k=j a/\Hid (e=c/2^a%2)) (fun _ k=>(intOf k).toNat);case atStart=>exact I2
 case round=>
  obtain⟨c,a,x,hu,rfl,rfl,f⟩:=hrel;cases a with
  |zero=>
   have t:=j1 c;obtain⟨g,n⟩:=y (c%2);rw[<-n]at t;have s:Hid (e=g):=by show e=g;rw[f.out,n];simp
   have hd:((g:Int)==1)=decide (g=1):=ik;clear f d n;go_wp2_with fail;go_ret;exact⟨by rw[s.out]<;>first|rfl|(simp[hd]),rfl⟩
  |succ a=>
   have r:=xn c;have u:c/2<=c:=kk;have h:Hid (e=c/2/2^a%2):=by show e=_;rw[f.out,BQ]
   obtain⟨p,o⟩:=y (c/2);rw[<-o]at r u h;have hd:decide (0< ((a:Int)+1))=true:=bL;clear f d o;go_wp2_with fail;go_round;case rel=>exact I3
   case measure=>exact dD
theorem e7 (b i:Nat)(z:G b)(w:i<=40)(v:D):
 O 322 #[j b,j i] (j ((b/2^i%2:Nat):Int)) v:=by
 obtain⟨e,k⟩:=y (b/2^i%2:Nat);rw[<-k];have d:=l k;clear k;go_enter func322,ntmps322;go_wp2_with fail;go_loop [0,1] (fun q g=>∃c a:Nat,a<=i/\c<=b/\q=j c/\g=j a/\Hid (e=c/2^a%2)) (fun _ g=>(intOf g).toNat);case atStart=>exact I2
 case round=>
  obtain⟨c,a,x,hu,rfl,rfl,f⟩:=hrel;cases a with
  |zero=>
   have t:=j1 c;obtain⟨o,m⟩:=y (c%2);rw[<-m]at t;have s:Hid (e=o):=by show e=o;rw[f.out,m];simp
   clear f d m;go_wp2_with fail;go_ret;exact⟨by rw[s.out]<;>rfl,rfl⟩
  |succ a=>
   have r:=xn c;have u:c/2<=c:=kk;have h:Hid (e=c/2/2^a%2):=by show e=_;rw[f.out,BQ]
   obtain⟨p,n⟩:=y (c/2);rw[<-n]at r u h;clear f d n;go_wp2_with fail;go_round;case rel=>exact I3
   case measure=>exact dD
theorem yh (a:Nat)(i:a<=4)(q:D):
 O 421 #[j a] (j ((256^a:Nat):Int)) q:=by
 obtain⟨d,g⟩:=y (256^a:Nat);rw[<-g];have c:=l g;clear g;go_enter func421,ntmps421;go_wp2_with fail;go_loop [0,3] (fun f k=>∃b p:Nat,b<=a/\p<=4294967296/\f=j b/\k=j p/\Hid (p*256^b=d)) (fun f _=>(intOf f).toNat);case atStart=>exact IG
 case round=>
  obtain⟨b,p,s,t,rfl,rfl,e⟩:=hrel;cases b with
  |zero=>
   have o:Hid (p=d):=by have:=e.out;show p=d;omega
   clear e c;go_wp2_with fail;go_ret;exact⟨by rw[<-o.out]<;>rfl,rfl⟩
  |succ b=>
   have h:Hid (256*p*256^b=d):=by
    show _=_;rw[<-e.out,gc,fk 256 p,hz,fk 256]
   have n:256*p<=4294967296:=by
    have m:256*p*1<=256*p*256^b:=yB _ (Nat.one_le_pow _ _ R);have r:d<=256^4:=HG;rw[h.out]at m;omega
   clear e c;go_wp2_with fail;go_round;case rel=>exact⟨b,256*p,by omega,n,by go_num,by go_num,h⟩
   case measure=>exact dD
structure el (d:D)(a:Nat)(e:List Value):Prop where
 cell:∀b c,e[b]?=some c->d.cell? ⟨a,b,none⟩=some c
 lt:a<d.heap.size
def el.more {f w':D}{a:Nat}{c:List Value}(b:el f a c)(d:Kept [] f w'):el w' a c:=⟨fun e h g=>(d.cell (p:=⟨a,e,none⟩) b.lt (by simp)).trans (b.cell e h g),aQ b.lt d.size⟩
def el.below {a b:D}{c:Nat}{d:List Value}(e:el a c d)(f:Below a.heap.size a b):el b c d:=e.more (Below.kept f [])
theorem el.drew {a:D}{b:Nat}{c:List Value}(d:el a b c):el a.drew b c:=d.more (Kept.refl [] a).drew
def el.new (b:D)(a:List Value)(c:Nat):el (b.alloc (.cells a.toArray c)) b.heap.size a:=⟨fun e f d=>by simp[d],by simp⟩
def cQ (b:Int)(a:Nat)(e:a<=8)(d:D):aE 147 #[j b,j a] (.string (ar b a)) d:=(sF b a e d).mono (fun g f c=>⟨c.1,Below.kept c.2 []⟩)
def e9 (a b:Nat):K:=ar a 4++ar b 4
def on (a b:Nat):(e9 a b).size=8:=by unfold e9;rw[fl,bs,bs]
def uj (a b:Nat)(c:D):
 aE 149 #[.agg #[j a,j b]] (.string (e9 a b)) c:=by
 have f:=fun W=>l (cQ (a:Int) 4 R W);have g:=fun W=>l (cQ (b:Int) 4 R W);obtain⟨u,m,s,r⟩:=bi (ar a 4) (ar b 4) (by rw[bs,bs];decide);unfold e9;rw[<-m];clear m s;obtain⟨v,i⟩:=y (ar a 4);obtain⟨w,k⟩:=y (ar b 4);simp only[<-i,<-k]at f g r;clear i k;have p:el (c.alloc (.cells #[j a,j b] 69)).drew c.heap.size [j a,j b]:=(el.new c [j a,j b] _).drew;have t:Kept [] c (c.alloc (.cells #[j a,j b] 69)).drew:=pV;go_enter func149,ntmps149;go_upto_region 1 with fail;go_region_held3 (fun e=>e.cell? ⟨c.heap.size,0,none⟩=some (j a)/\e.cell? ⟨c.heap.size,1,none⟩=some (j b)) (first|go_keep|exact⟨d.cell 0 _ rfl,d.cell 1 _ rfl⟩|exact⟨h.cell 0 _ rfl,h.cell 1 _ rfl⟩) (first|(go_at_call_of 147 (j (a:Int));refine(f _).out.mono ?_;rintro q x ⟨rfl,n⟩;have d:=p.more n)|(go_at_call_of 147 (j (b:Int));refine(g _).out.mono ?_;rintro q z ⟨rfl,o⟩;have h:=d.more o));all_goals
  go_wp2_with fail;go_ret;exact⟨rfl,(t.trans n).trans o⟩
def yo (a:Bool)(b c:K)(d:D):
 O 148 #[.bool a,.string b,.string c] (.string (if a=true then b else c)) d:=by
 cases a;all_goals
  go_enter func148,ntmps148;exact cm
def lf (a:P):K:=(ar a.Wj 1++e9 a.time a.Wh)++e9 a.cmp a.Wv
def aik (a:P)(f:D):
 aE 108 #[.agg #[j a.Wj,j a.time,j a.Wh,j a.cmp,j a.Wv]] (.string (lf a)) f:=by
 obtain⟨g,d,e,b,c,I⟩:∃g d e b c,g=a.Wj/\d=a.time/\e=a.Wh/\b=a.cmp/\c=a.Wv:=⟨_,_,_,_,_,rfl,rfl,rfl,rfl,rfl⟩;obtain⟨t,u,v,w,x⟩:=I;unfold lf;simp only[<-t,<-u,<-v,<-w,<-x];clear t u v w x;have p:=fun W=>l (cQ (g:Int) 1 R W);have q:=fun W=>l (uj d e W);have r:=fun W=>l (uj b c W);obtain⟨K,n,E,F⟩:=bi (ar g 1) (e9 d e) (by rw[bs,on];decide);obtain⟨M,o,L,G⟩:=bi K (e9 b c) (by rw[E,bs,on,on];decide);rw[<-n,<-o];clear n o E L;obtain⟨N,n⟩:=y (ar g 1);obtain⟨O,o⟩:=y (e9 d e);obtain⟨u3,z⟩:=y (e9 b c);simp only[<-n,<-o,<-z]at p q r F G;clear n o z;have H:el (f.alloc (.cells #[j g,j d,j e,j b,j c] 73)).drew f.heap.size [j g,j d,j e,j b,j c]:=(el.new f [j g,j d,j e,j b,j c] _).drew;have J:Kept [] f (f.alloc (.cells #[j g,j d,j e,j b,j c] 73)).drew:=pV;go_enter func108,ntmps108;go_upto_region 1 with fail;go_region_held3 (fun k=>k.cell? ⟨f.heap.size,0,none⟩=some (j g)/\k.cell? ⟨f.heap.size,1,none⟩=some (j d)/\k.cell? ⟨f.heap.size,2,none⟩=some (j e)/\k.cell? ⟨f.heap.size,3,none⟩=some (j b)/\k.cell? ⟨f.heap.size,4,none⟩=some (j c)) (first|go_keep|exact⟨h.cell 0 _ rfl,h.cell 1 _ rfl,h.cell 2 _ rfl,h.cell 3 _ rfl,h.cell 4 _ rfl⟩|exact⟨i.cell 0 _ rfl,i.cell 1 _ rfl,i.cell 2 _ rfl,i.cell 3 _ rfl,i.cell 4 _ rfl⟩|exact⟨m.cell 0 _ rfl,m.cell 1 _ rfl,m.cell 2 _ rfl,m.cell 3 _ rfl,m.cell 4 _ rfl⟩) (first|(go_at_call 147;refine(p _).out.mono ?_;rintro s Q ⟨rfl,A⟩;have h:=H.more A)|(go_at_call_of 149 (Value.agg #[j (d:Int),j (e:Int)]);refine(q _).out.mono ?_;rintro s S ⟨rfl,B⟩;have i:=h.more B)|(go_at_call_of 149 (Value.agg #[j (b:Int),j (c:Int)]);refine(r _).out.mono ?_;rintro s w3 ⟨rfl,C⟩;have m:=i.more C));all_goals
  go_wp2_with fail;go_ret;exact⟨rfl,((J.trans A).trans B).trans C⟩
def iE (c:List Nat):Nat->Nat->K->K
 |0,_,a=>a
 |d+1,b,a=>iE c d (b+1) (a++ar (c.getD b 0) 4)
theorem tv (d:List Nat):∀(a c:Nat) (b:K),(iE d a c b).size=b.size+4*a
 |0,_,_=>rfl
 |a+1,c,b=>by
  rw[iE,tv d a,fl,bs];omega
def mg (a:N):K:=(((iE a.x 32 0 (ar a.V3 4)++(if a.waits=true then⟨#[119]⟩else⟨#[45]⟩))++(if a.W9=true then⟨#[114]⟩else⟨#[45]⟩))++ar a.WU 5)++ar a.mode 1
structure Bj (b:N)(a:List Value):Prop where
 x:∀c,c<32->a[c]?=some (j (b.x.getD c 0))
 V3:a[32]?=some (j b.V3)
 mode:a[33]?=some (j b.mode)
 waits:a[34]?=some (.bool b.waits)
 W9:a[35]?=some (.bool b.W9)
 WU:a[36]?=some (j b.WU)
 len:a.length=37
def ago (a:N)(i:List Value)(d:Hid (Bj a i))(c:D):
 aE 106 #[.agg i.toArray] (.string (mg a)) c:=by
 have r:=fun W=>l (cQ (a.V3:Int) 4 R W);have y1:=bs (a.V3:Int) 4;obtain⟨al,U⟩:=y (ar a.V3 4);unfold mg;simp only[<-U]at r y1|-;clear U;have aT:=l d.out.len;have H:=el.new c i 67;have av:=d.out.V3;have aa:Kept [] c (c.alloc (.cells i.toArray 67)):=dC;obtain⟨g,o⟩:=y (iE a.x 32 0 al);have aR:g.size=132:=by rw[o,tv];omega
 rw[<-o];have B:=l o;clear o;have C:=fun W=>l (yo a.waits ⟨#[119]⟩ ⟨#[45]⟩ W);have E:=fun W=>l (yo a.W9 ⟨#[114]⟩ ⟨#[45]⟩ W);have L4:=fun W=>l (cQ (a.WU:Int) 5 R W);have F:=fun W=>l (cQ (a.mode:Int) 1 R W);have y2:(if a.waits=true then(⟨#[119]⟩:K)else⟨#[45]⟩).size=1:=by cases a.waits<;>rfl
 have y3:(if a.W9=true then(⟨#[114]⟩:K)else⟨#[45]⟩).size=1:=by cases a.W9<;>rfl
 have y4:=bs (a.WU:Int) 5;have an:=bs (a.mode:Int) 1;obtain⟨aL,V⟩:=y ((if a.waits=true then(⟨#[119]⟩:K)else⟨#[45]⟩));obtain⟨u3,X⟩:=y ((if a.W9=true then(⟨#[114]⟩:K)else⟨#[45]⟩));obtain⟨aM,Y⟩:=y (ar a.WU 5);obtain⟨u5,Z⟩:=y (ar a.mode 1);simp only[<-V,<-X,<-Y,<-Z]at C E L4 F y2 y3 y4 an|-;obtain⟨aH,O,aN,aU⟩:=bi g aL m;obtain⟨aI,P,aO,aV⟩:=bi aH u3 m;obtain⟨aJ,Q,aP,aW⟩:=bi aI aM m;obtain⟨a3,S,aQ,aX⟩:=bi aJ u5 m;rw[<-O,<-P,<-Q,<-S];clear V X Y Z O P Q S aN aO aP aQ y2 y3 y4 an;obtain⟨a2,a1⟩:=y (a.V3);have t:=d.out.mode;have aw:=d.out.waits;have ax:=d.out.W9;have u:=d.out.WU;go_enter func106,ntmps106;go_wp2_with fail;refine(r _).out.mono ?_;rintro k a5 ⟨rfl,x⟩;have I:=l (H.more x);have n:=l (aa.trans x);clear H aa x r av;go_wp2_with fail;go_loopw [3,4] (fun au v wr=>∃(b:Nat) (f:K),b<=32/\au=.string f/\v=j b/\Hid (f.size=4+4*b)/\Hid (el wr c.heap.size i)/\Hid (Kept [] c wr)/\Hid (g=iE a.x (32-b) b f)) (fun _ v _=>32- (intOf v).toNat);case atStart=>exact⟨0,al,by omega,rfl,rfl,l m,I,n,B⟩
 case round=>
  obtain⟨b,f,aZ,rfl,rfl,z,e,ad,p⟩:=hrel;clear B I n;by_cases aD:b<32
  . have ap:decide ((b:Int)<32)=true:=M;have ay:=e.out.cell b _ (d.out.x b aD);obtain⟨q,A⟩:=y (a.x.getD b 0);have w:Hid (g=iE a.x (32- (b+1)) (b+1) (f++ar q 4)):=by
     show g=_;rw[p.out,show 32-b=(32- (b+1))+1 by omega,A];rfl
    rw[<-A]at ay;have G:=fun W=>l (cQ (q:Int) 4 R W);have ao:=bs (q:Int) 4;obtain⟨aK,hu⟩:=y (ar q 4);rw[<-hu]at w ao;simp only[<-hu]at G;have aF:=z.out;obtain⟨t2,T,aS,aY⟩:=bi f aK m;rw[<-T]at w;have aG:Hid (t2.size=4+4* (b+1)):=l m;clear p A hu T aS aF z ao;have a0:(b:Int)<32:=J;go_wp2_with fail;refine(G _).out.mono ?_;rintro k a6 ⟨rfl,n⟩;have aA:=l (e.out.more n);have aC:=l (ad.out.trans n);go_wp2_with fail;go_roundw;case rel=>exact⟨b+1,t2,by omega,rfl,by go_num,aG,aA,aC,w⟩
    case measure=>exact a4
  . have ap:decide ((b:Int)<32)=false:=M;have az:g=f:=by rw[p.out,show 32-b=0 by omega];rfl
    subst az;have d34:=e.out.cell 34 _ aw;have d35:=e.out.cell 35 _ ax;have d33:=e.out.cell 33 _ t;have d36:=e.out.cell 36 _ u;clear p z aR;obtain⟨am,ai⟩:=y (a.waits);obtain⟨ak,af⟩:=y (a.W9);obtain⟨ah,ag⟩:=y (a.WU);obtain⟨aj,ae⟩:=y (a.mode);simp only[<-ai,<-af,<-ag,<-ae]at *;clear ai af ag ae d;go_upto_region 6 with fail;go_region_held3 (fun h=>h.cell? ⟨c.heap.size,34,none⟩=some (.bool am)/\h.cell? ⟨c.heap.size,35,none⟩=some (.bool ak)) (go_keep) (first|(go_at_call_of 148 (Value.bool am);refine(C _).out.mono ?_;rintro k w3 ⟨rfl,rfl⟩)|(go_at_call_of 148 (Value.bool ak);refine(E _).out.mono ?_;rintro k a7 ⟨rfl,rfl⟩));all_goals
     have aq:=e.out.drew.drew;have aB:=ad.out.drew.drew;go_upto_region 7 with fail;go_region_held3 (fun h=>h.cell? ⟨c.heap.size,36,none⟩=some (j ah)/\h.cell? ⟨c.heap.size,33,none⟩=some (j aj)) (first|go_keep|exact⟨s.cell 36 _ u,s.cell 33 _ t⟩|exact⟨L.cell 36 _ u,L.cell 33 _ t⟩) (first|(go_at_call_of 147 (j (ah:Int));refine(L4 _).out.mono ?_;rintro k a8 ⟨rfl,ab⟩;have s:=aq.more ab)|(go_at_call_of 147 (j (aj:Int));refine(F _).out.mono ?_;rintro k a9 ⟨rfl,ac⟩;have L:=s.more ac));all_goals
      go_wp2_with fail;go_ret;exact⟨rfl,(aB.trans ab).trans ac⟩
end Go.Proofs.YtmlgonbhoknoiabGreatDoor
