import Derived.Test.YtmlgonbhoknoiaaGreatDoorJAC
set_option maxHeartbeats 8000000
set_option maxRecDepth 100000
set_option linter.all false
namespace Go.Proofs.YtmlgonbhoknoiaaGreatDoor
open Go.RowKit Go.Proofs.Tryz
def QS (b a:Int):(b* (a/65536)+b* (a%65536)/65536)/65536=b*a/4294967296:=by
 have c:b*a=b* (a%65536)+b* (a/65536)*65536:=by
  have:=tR a 65536;rw[mN,<-q5,Int.mul_comm (a/65536) 65536,this]
 have d:b*a/65536=b* (a/65536)+b* (a%65536)/65536:=by
  rw[c,Int.add_mul_ediv_right _ _ (by decide)];omega
 rw[<-d,yl (by decide)];rfl
def CC {a b:Int}{A B:Nat}(g:-(A:Int)<=a)(h:a<=A)(e:-(B:Int)<=b)(f:b<=B):-((A*B:Nat):Int)<=a*b/\a*b<=((A*B:Nat):Int):=by
 have c:a.natAbs<=A:=J;have d:b.natAbs<=B:=J;have i:(a*b).natAbs<=A*B:=by rw[Int.natAbs_mul];exact uc c d
 omega
def xO (b a:Int)(k:-4294967296<=b)(n:b<=4294967296)(L:-4294967296<=a)(M:a<=4294967296)(E:D):
 O 426 #[j b,j a] (j (b*a/4294967296)) E:=by
 rw[<-QS];have f1:=tu a 65536 m m m m;have g:a%65536=a-a/65536*65536:=J;obtain⟨p,r⟩:=y (a/65536);have A:-65536<=p:=J;have B:p<=65536:=J;obtain⟨c,s⟩:=y (a%65536);have Q:0<=c:=J;have C:c<=65536:=J;rw[<-r]at f1 g|-;rw[<-s]at g|-;have t:=CC (A:=4294967296) (B:=65536) k n A B;have u:=CC (A:=4294967296) (B:=65536) k n (show -((65536:Nat):Int)<=c by omega) C;obtain⟨d,h⟩:=y (b*p);obtain⟨e,i⟩:=y (b*c);rw[<-h]at t|-;rw[<-i]at u|-;have f2:=tu e 65536 m m m m;obtain⟨f,q⟩:=y (e/65536);have N:-281474976710656<=f:=J;have P:f<=281474976710656:=J;rw[<-q]at f2|-;have f3:=tu (d+f) 65536 m m m m;obtain⟨G,o⟩:=y ((d+f)/65536);rw[<-o]at f3|-;have R:-281474976710656<=d:=J;have S:d<=281474976710656:=J;have v:=l f1;have w:=l f2;have x:=l f3;have H:a-p*65536=c:=g.symm;have I:b*p=d:=h.symm;have K:b*c=e:=i.symm;have T:-281474976710656<=e:=J;have U:e<=281474976710656:=J;clear f1 f2 f3 r s h i q o g t u;go_enter func426,ntmps426;go_wp2_with fail;refine(v.out _).mono ?_;rintro z F ⟨rfl,rfl⟩;go_wp2_with fail;refine(w.out _).mono ?_;rintro z F ⟨rfl,rfl⟩;go_wp2_with fail;refine(x.out _).mono ?_;exact ex
def S5 (b a:Nat):(b* (a/65536)%4294967296*65536+b* (a%65536))%4294967296=b*a%4294967296:=by
 have c:b*a=b* (a/65536)*65536+b* (a%65536):=by
  have:=Nat.div_add_mod a 65536;rw[hA,<-jr,fl (a/65536) 65536,this]
 rw[c,Nat.add_mod,Nat.mul_mod,Nat.mod_mod,<-Nat.mul_mod,<-Nat.add_mod]
def acw (a b:Nat)(F:G a)(H:G b)(B:D):
 O 425 #[j a,j b] (j ((a*b%4294967296:Nat):Int)) B:=by
 rw[<-S5];have d1:(b:Int).tdiv 65536=((b/65536:Nat):Int):=kg;have d2:(b:Int).tmod 65536=((b%65536:Nat):Int):=fc;obtain⟨p,o⟩:=y (b/65536);obtain⟨d,q⟩:=y (b%65536);have h:p<=65536:=J;have A:d<=65536:=J;rw[<-o]at d1|-;rw[<-q]at d2|-;have t:a*p<=4294967296*65536:=HL;have u:a*d<=4294967296*65536:=uc m A;have x:(a:Int)*p=((a*p:Nat):Int):=bN;have z:(a:Int)*d=((a*d:Nat):Int):=bN;obtain⟨e,r⟩:=y (a*p);obtain⟨f,s⟩:=y (a*d);rw[<-r]at t x|-;rw[<-s]at u z|-;have f1:=xS e;have g:(e:Int)%4294967296=((e%4294967296:Nat):Int):=J;rw[g]at f1;obtain⟨c,n⟩:=y (e%4294967296);have I:G c:=J;rw[<-n]at f1|-;have f2:=xS ((c:Int)*65536+f);have i:((c:Int)*65536+f)%4294967296=(((c*65536+f)%4294967296:Nat):Int):=J;rw[i]at f2;obtain⟨C,k⟩:=y ((c*65536+f)%4294967296);rw[<-k]at f2|-;have v:=l f1;have w:=l f2;have K:e<=281474976710656:=J;have L:f<=281474976710656:=J;clear f1 f2 g i o q r s n k t u;go_enter func425,ntmps425;go_wp2_with fail;refine(v.out _).mono ?_;rintro E M ⟨rfl,rfl⟩;go_wp2_with fail;refine(w.out _).mono ?_;exact ex
def am (a:Int):Nat:=(a%4294967296).toNat
def EX (a:Int):((am a:Nat):Int)=a%4294967296:=by unfold am;omega
def iq (a b:Nat):Nat:=(a+b)%4294967296
def nu (a b:Nat):Nat:=am ((a:Int)-b)
def l0 (a b:Nat):Nat:=if aY a<aY b then 1 else 0
def l1 (a b:Nat):Nat:=if a<b then 1 else 0
def kA (a b:Nat):Nat:=a^^^b
def ku (a b:Nat):Nat:=a |||b
def kp (a b:Nat):Nat:=a&&&b
def kx (a b:Nat):Nat:=a*2^(b%32)%4294967296
def kz (a b:Nat):Nat:=a/2^(b%32)
def ky (a b:Nat):Nat:=am (aY a/ ((2^(b%32):Nat):Int))
def ks (a b:Nat):Nat:=a*b%4294967296
def nr (a b:Nat):Nat:=am (aY a*aY b/4294967296)
def nt (a b:Nat):Nat:=am (aY a*b/4294967296)
def kt (a b:Nat):Nat:=a*b/4294967296
def kq (b a:Nat):Nat:=if a=0 then 4294967295 else am ((aY b).tdiv (aY a))
def kr (b a:Nat):Nat:=if a=0 then 4294967295 else b/a
def kv (a b:Nat):Nat:=if b=0 then a else am (aY a- (aY a).tdiv (aY b)*aY b)
def kw (a b:Nat):Nat:=if b=0 then a else a%b
def pP (_ a:Nat):Nat:=a
def pN (a b:Nat):Nat:=if aY a<aY b then a else b
def pL (a b:Nat):Nat:=if aY b<aY a then a else b
def pO (a b:Nat):Nat:=if a<b then a else b
def pM (a b:Nat):Nat:=if b<a then a else b
def cp (a:Int)(b c:Nat):Nat:=
 if a=19\/a=28\/a=53 then iq b c else
 if a=29 then nu b c else
 if a=20\/a=31 then l0 b c else
 if a=21\/a=32 then l1 b c else
 if a=22\/a=33\/a=54 then kA b c else
 if a=23\/a=36\/a=56 then ku b c else
 if a=24\/a=37\/a=55 then kp b c else
 if a=25\/a=30 then kx b c else
 if a=26\/a=34 then kz b c else
 if a=27\/a=35 then ky b c else
 if a=42 then ks b c else
 if a=43 then nr b c else
 if a=44 then nt b c else
 if a=45 then kt b c else
 if a=46 then kq b c else
 if a=47 then kr b c else
 if a=48 then kv b c else
 if a=49 then kw b c else
 if a=52 then pP b c else
 if a=57 then pN b c else
 if a=58 then pL b c else
 if a=59 then pO b c else
 if a=60 then pM b c else
 0
def e5 (a:Nat)(b:G a):-2147483648<=aY a/\aY a<=2147483647:=by unfold aY;split<;>omega
def fX (a:Int)(b:D):O 366 #[j a] (j (am a)) b:=by
 rw[EX];exact xS a b
def tg (a:Nat)(b:G a):(aY a=0)↔a=0:=by unfold aY;split<;>omega
def Eh (a b:Int)(d:-2147483648<=a)(e:a<=2147483647):-2147483648<=a.tdiv b/\a.tdiv b<=2147483648:=by
 have c:=ym a b;have f:(a.tdiv b).natAbs<=2147483648:=by rw[c];exact fE (ln _ _) m
 omega
def aaR (a b:Int)(d:-2147483648<=a)(e:a<=2147483647):-2147483648<=a.tdiv b*b/\a.tdiv b*b<=2147483648:=by
 have c:=Int.mul_tdiv_add_tmod a b;have f:(a.tdiv b*b).natAbs<=a.natAbs:=by
  rw[Int.natAbs_mul,ym];exact Nat.div_mul_le_self _ _
 omega
def abK (a b:Nat)(i:G a)(k:G b)(h:D):
 O 398 #[j 19,j a,j b] (j (iq a b:Nat)) h:=zw
def abT (a b:Nat)(i:G a)(k:G b)(h:D):
 O 398 #[j 28,j a,j b] (j (iq a b:Nat)) h:=zw
def acd (a b:Nat)(i:G a)(k:G b)(h:D):
 O 398 #[j 53,j a,j b] (j (iq a b:Nat)) h:=zw
def abU (a b:Nat)(g:G a)(h:G b)(f:D):
 O 398 #[j 29,j a,j b] (j (nu a b:Nat)) f:=by
 have d:=l (bz a m m);have e:=l (bz b m m);have c:=l (fX ((a:Int)-b));exact na
def abL (a d:Nat)(o:G a)(p:G d)(q:D):
 O 398 #[j 20,j a,j d] (j (l0 a d:Nat)) q:=Ip
def abW (a d:Nat)(o:G a)(p:G d)(q:D):
 O 398 #[j 31,j a,j d] (j (l0 a d:Nat)) q:=Ip
def abM (a d:Nat)(g:G a)(h:G d)(f:D):
 O 398 #[j 21,j a,j d] (j (l1 a d:Nat)) f:=Iq
def abX (a d:Nat)(g:G a)(h:G d)(f:D):
 O 398 #[j 32,j a,j d] (j (l1 a d:Nat)) f:=Iq
def abN (a b:Nat)(f:G a)(g:G b)(h:D):
 O 398 #[j 22,j a,j b] (j (kA a b:Nat)) h:=zx
def abY (a b:Nat)(f:G a)(g:G b)(h:D):
 O 398 #[j 33,j a,j b] (j (kA a b:Nat)) h:=zx
def ace (a b:Nat)(f:G a)(g:G b)(h:D):
 O 398 #[j 54,j a,j b] (j (kA a b:Nat)) h:=zx
def abO (a b:Nat)(f:G a)(g:G b)(h:D):
 O 398 #[j 23,j a,j b] (j (ku a b:Nat)) h:=zy
def ab1 (a b:Nat)(f:G a)(g:G b)(h:D):
 O 398 #[j 36,j a,j b] (j (ku a b:Nat)) h:=zy
def acg (a b:Nat)(f:G a)(g:G b)(h:D):
 O 398 #[j 56,j a,j b] (j (ku a b:Nat)) h:=zy
def abP (a b:Nat)(f:G a)(g:G b)(h:D):
 O 398 #[j 24,j a,j b] (j (kp a b:Nat)) h:=zz
def ab2 (a b:Nat)(f:G a)(g:G b)(h:D):
 O 398 #[j 37,j a,j b] (j (kp a b:Nat)) h:=zz
def acf (a b:Nat)(f:G a)(g:G b)(h:D):
 O 398 #[j 55,j a,j b] (j (kp a b:Nat)) h:=zz
def abQ (b a:Nat)(A:G b)(B:G a)(q:D):
 O 398 #[j 25,j b,j a] (j (kx b a:Nat)) q:=Ir
def abV (b a:Nat)(A:G b)(B:G a)(q:D):
 O 398 #[j 30,j b,j a] (j (kx b a:Nat)) q:=Ir
def abR (b a:Nat)(t:G b)(u:G a)(n:D):
 O 398 #[j 26,j b,j a] (j (kz b a:Nat)) n:=Is
def abZ (b a:Nat)(t:G b)(u:G a)(n:D):
 O 398 #[j 34,j b,j a] (j (kz b a:Nat)) n:=Is
def abS (b a:Nat)(e:G b)(z:G a)(o:D):
 O 398 #[j 27,j b,j a] (j (ky b a:Nat)) o:=It
def ab0 (b a:Nat)(e:G b)(z:G a)(o:D):
 O 398 #[j 35,j b,j a] (j (ky b a:Nat)) o:=It
def ab3 (a b:Nat)(f:G a)(g:G b)(h:D):
 O 398 #[j 42,j a,j b] (j (ks a b:Nat)) h:=by
 have d:=l (bz a m m);have e:=l (bz b m m);have c:=l (acw a b f g);unfold ks;exact na
def ab4 (a b:Nat)(i:G a)(n:G b)(o:D):
 O 398 #[j 43,j a,j b] (j (nr a b:Nat)) o:=by
 have e:=l (bz a m m);have f:=l (bz b m m);have p:=e5 a i;have q:=e5 b n;unfold nr;have g:=xO (aY a) (aY b) m m m m;obtain⟨h,c⟩:=y (aY a*aY b/4294967296);exact Iu
def ab5 (a b:Nat)(i:G a)(o:G b)(n:D):
 O 398 #[j 44,j a,j b] (j (nt a b:Nat)) n:=by
 have e:=l (bz a m m);have f:=l (bz b m m);have p:=e5 a i;unfold nt;have g:=xO (aY a) ((b:Int)) m m m m;obtain⟨h,c⟩:=y (aY a* (b:Int)/4294967296);exact Iu
def ab6 (a b:Nat)(k:G a)(n:G b)(h:D):
 O 398 #[j 45,j a,j b] (j (kt a b:Nat)) h:=by
 have d:=l (bz a m m);have f:=l (bz b m m);unfold kt;have g:=xO (a:Int) (b:Int) m m m m;have c:(a:Int)*b/4294967296=((a*b/4294967296:Nat):Int):=by
  rw[show(a:Int)*b=((a*b:Nat):Int)by simp];omega
 rw[c]at g;have e:=l g;clear g c;go_enter func398,ntmps398;go_wp2_with fail;refine(d.out _).mono ?_;rintro i o ⟨rfl,rfl⟩;go_wp2_with fail;refine(f.out _).mono ?_;exact Iv
def ab7 (e d:Nat)(q:G e)(p:G d)(u:D):
 O 398 #[j 46,j e,j d] (j (kq e d:Nat)) u:=by
 have b:=l (bz e m m);have c:=l (bz d m m);have i:=e5 e q;have v:=e5 d p;unfold kq;have n:=tg d p;obtain⟨o,h⟩:=y (aY e);obtain⟨a,f⟩:=y (aY d);rw[<-h,<-f];rw[<-h]at b i;rw[<-f]at c v;rw[<-f]at n;clear h f;by_cases g:d=0
 . exact Iw
 . rw[z g];have hd:(a==0)=false:=M;have r:=Eh o a i.1 i.2;obtain⟨t,s⟩:=fH (o.tdiv a);rw[s]at r|-;have k:=l (fX t);exact Ix
def ab8 (d a:Nat)(n:G d)(i:G a)(k:D):
 O 398 #[j 47,j d,j a] (j (kr d a:Nat)) k:=by
 have b:=l (bz d m m);have c:=l (bz a m m);have q:=e5 a i;unfold kr;by_cases e:a=0
 . exact Iy
 . rw[z e];have o:((a:Int)==0)=false:=M;have h:=nW d a;have g:d/a<=d:=kf;obtain⟨p,f⟩:=y (d/a);rw[<-f]at h g|-;clear f;exact hG
def ab9 (e d:Nat)(s:G e)(p:G d)(x:D):
 O 398 #[j 48,j e,j d] (j (kv e d:Nat)) x:=by
 have b:=l (bz e m m);have c:=l (bz d m m);have f:=e5 e s;have A:=e5 d p;unfold kv;have n:=tg d p;obtain⟨h,o⟩:=y (aY e);obtain⟨a,i⟩:=y (aY d);rw[<-o,<-i];rw[<-o]at b f;rw[<-i]at c A;rw[<-i]at n;clear o i;by_cases g:d=0
 . exact Iw
 . rw[z g];have hd:(a==0)=false:=M;have u:=Eh h a f.1 f.2;have q:=aaR h a f.1 f.2;obtain⟨w,r⟩:=fH (h.tdiv a);rw[r]at u|-;rw[r]at q;obtain⟨v,t⟩:=fH (w*a);rw[t]at q|-;have k:=l (fX (h-v));exact Ix
def aca (d a:Nat)(v:G d)(s:G a)(t:D):
 O 398 #[j 49,j d,j a] (j (kw d a:Nat)) t:=by
 have b:=l (bz d m m);have c:=l (bz a m m);have x:=e5 a s;unfold kw;by_cases e:a=0
 . exact Iy
 . rw[z e];have w:((a:Int)==0)=false:=M;have q:=nW d a;have o:d/a<=d:=kf;have h:d%a=d-d/a*a:=by have:=Nat.mod_add_div d a;rw[fl a]at this;omega
   have g:d/a*a<=d:=Nat.div_mul_le_self _ _;rw[h];obtain⟨f,i⟩:=y (d/a);rw[<-i]at q o g|-;have r:(f:Int)*a=((f*a:Nat):Int):=bN;obtain⟨n,k⟩:=y (f*a);rw[<-k]at r g|-;have HR:Hid (((d-n:Nat):Int)=(d:Int)-n):=ie;clear i k h;go_enter func398,ntmps398;go_wp2_with fail;refine(b.out _).mono ?_;rintro p u ⟨rfl,rfl⟩;go_wp2_with fail;refine(c.out _).mono ?_;rintro p u ⟨rfl,rfl⟩;go_wp2_with fail;go_ret;exact⟨by rw[HR.out]<;>rfl,rfl⟩
def acb (a d:Nat)(f:G a)(g:G d)(e:D):
 O 398 #[j 52,j a,j d] (j (pP a d:Nat)) e:=by
 have b:=l (bz a m m);have c:=l (bz d m m);unfold pP;exact hG
def ach (a d:Nat)(o:G a)(p:G d)(q:D):
 O 398 #[j 57,j a,j d] (j (pN a d:Nat)) q:=by
 have b:=l (bz a m m);have c:=l (bz d m m);have k:=e5 a o;have n:=e5 d p;unfold pN;obtain⟨e,g⟩:=y (aY a);obtain⟨f,h⟩:=y (aY d);exact Iz
def aci (a d:Nat)(k:G a)(n:G d)(o:D):
 O 398 #[j 58,j a,j d] (j (pL a d:Nat)) o:=by
 have b:=l (bz a m m);have c:=l (bz d m m);have p:=e5 a k;have q:=e5 d n;unfold pL;obtain⟨e,g⟩:=y (aY a);obtain⟨f,h⟩:=y (aY d);rw[<-g,<-h];rw[<-g]at b p;rw[<-h]at c q;clear g h;by_cases i:f<e
 . rw[B i];have hd:decide (f<e)=true:=M;exact hG
 . rw[z i];have hd:decide (f<e)=false:=M;exact hG
def acj (a d:Nat)(g:G a)(h:G d)(f:D):
 O 398 #[j 59,j a,j d] (j (pO a d:Nat)) f:=by
 have b:=l (bz a m m);have c:=l (bz d m m);unfold pO;exact IA
def ack (a d:Nat)(g:G a)(h:G d)(f:D):
 O 398 #[j 60,j a,j d] (j (pM a d:Nat)) f:=by
 have b:=l (bz a m m);have c:=l (bz d m m);unfold pM;by_cases e:d<a
 . rw[B e];exact hG
 . rw[z e];exact hG
def acm (a:Int)(d e:Nat)(W:G d)(X:G e)(g:(a==19)=false)(h:(a==20)=false)(i:(a==21)=false)(k:(a==22)=false)(n:(a==23)=false)(o:(a==24)=false)(p:(a==25)=false)(q:(a==26)=false)(r:(a==27)=false)(s:(a==28)=false)(t:(a==29)=false)(u:(a==30)=false)(v:(a==31)=false)(w:(a==32)=false)(x:(a==33)=false)(y:(a==34)=false)(z:(a==35)=false)(A:(a==36)=false)(B:(a==37)=false)(C:(a==42)=false)(E:(a==43)=false)(F:(a==44)=false)(H:(a==45)=false)(I:(a==46)=false)(J:(a==47)=false)(K:(a==48)=false)(L:(a==49)=false)(M:(a==52)=false)(N:(a==53)=false)(P:(a==54)=false)(Q:(a==55)=false)(R:(a==56)=false)(S:(a==57)=false)(T:(a==58)=false)(U:(a==59)=false)(V:(a==60)=false)(f:D):
 O 398 #[j a,j d,j e] (j 0) f:=by
 have b:=l (bz d m m);have c:=l (bz e m m);exact hG
def xM (c:Int)(a b:Nat)(e:G a)(f:G b)(d:D):
 O 398 #[j c,j a,j b] (j (cp c a b:Nat)) d:=by
 by_cases g:c=19
 . subst g;exact abK a b e f d
 by_cases q:c=28
 . subst q;exact abT a b e f d
 by_cases M:c=53
 . subst M;exact acd a b e f d
 by_cases r:c=29
 . subst r;exact abU a b e f d
 by_cases h:c=20
 . subst h;exact abL a b e f d
 by_cases t:c=31
 . subst t;exact abW a b e f d
 by_cases i:c=21
 . subst i;exact abM a b e f d
 by_cases u:c=32
 . subst u;exact abX a b e f d
 by_cases k:c=22
 . subst k;exact abN a b e f d
 by_cases v:c=33
 . subst v;exact abY a b e f d
 by_cases N:c=54
 . subst N;exact ace a b e f d
 by_cases l:c=23
 . subst l;exact abO a b e f d
 by_cases y:c=36
 . subst y;exact ab1 a b e f d
 by_cases Q:c=56
 . subst Q;exact acg a b e f d
 by_cases m:c=24
 . subst m;exact abP a b e f d
 by_cases A:c=37
 . subst A;exact ab2 a b e f d
 by_cases P:c=55
 . subst P;exact acf a b e f d
 by_cases n:c=25
 . subst n;exact abQ a b e f d
 by_cases s:c=30
 . subst s;exact abV a b e f d
 by_cases o:c=26
 . subst o;exact abR a b e f d
 by_cases w:c=34
 . subst w;exact abZ a b e f d
 by_cases p:c=27
 . subst p;exact abS a b e f d
 by_cases x:c=35
 . subst x;exact ab0 a b e f d
 by_cases B:c=42
 . subst B;exact ab3 a b e f d
 by_cases C:c=43
 . subst C;exact ab4 a b e f d
 by_cases E:c=44
 . subst E;exact ab5 a b e f d
 by_cases F:c=45
 . subst F;exact ab6 a b e f d
 by_cases H:c=46
 . subst H;exact ab7 a b e f d
 by_cases I:c=47
 . subst I;exact ab8 a b e f d
 by_cases J:c=48
 . subst J;exact ab9 a b e f d
 by_cases K:c=49
 . subst K;exact aca a b e f d
 by_cases L:c=52
 . subst L;exact acb a b e f d
 by_cases R:c=57
 . subst R;exact ach a b e f d
 by_cases S:c=58
 . subst S;exact aci a b e f d
 by_cases T:c=59
 . subst T;exact acj a b e f d
 by_cases U:c=60
 . subst U;exact ack a b e f d
 have V:cp c a b=0:=by
  unfold cp;rw[z (by omega)];rw[z (by omega)];rw[z (by omega)];rw[z (by omega)];rw[z (by omega)];rw[z (by omega)];rw[z (by omega)];rw[z (by omega)];rw[z (by omega)];rw[z (by omega)];rw[z (by omega)];rw[z (by omega)];rw[z (by omega)];rw[z (by omega)];rw[z (by omega)];rw[z (by omega)];rw[z (by omega)];rw[z (by omega)];rw[z (by omega)];rw[z (by omega)];rw[z (by omega)];rw[z (by omega)];rw[z (by omega)]
 rw[V];exact acm c a b e f (by simp[g]) (by simp[h]) (by simp[i]) (by simp[k]) (by simp[l]) (by simp[m]) (by simp[n]) (by simp[o]) (by simp[p]) (by simp[q]) (by simp[r]) (by simp[s]) (by simp[t]) (by simp[u]) (by simp[v]) (by simp[w]) (by simp[x]) (by simp[y]) (by simp[A]) (by simp[B]) (by simp[C]) (by simp[E]) (by simp[F]) (by simp[H]) (by simp[I]) (by simp[J]) (by simp[K]) (by simp[L]) (by simp[M]) (by simp[N]) (by simp[P]) (by simp[Q]) (by simp[R]) (by simp[S]) (by simp[T]) (by simp[U]) d
def holds (c:Int)(a b:Nat):Bool:=
 if c=5 then decide (a=b)else if c=6 then !decide (a=b)else if c=7 then decide (aY a<aY b)else if c=8 then decide (aY b<=aY a)else if c=9 then decide (a<b)else if c=10 then decide (b<=a)else false
def acu (a:Int)(d e:Nat)(t:G d)(u:G e)(q:D):
 O 395 #[j a,j d,j e] (.bool (holds a d e)) q:=by
 have b:=l (bz d m m);have c:=l (bz e m m);unfold holds;obtain⟨r,o⟩:=y (aY d);obtain⟨s,p⟩:=y (aY e);rw[<-o,<-p];rw[<-o]at b;rw[<-p]at c;clear o p;by_cases g:a=5
 . subst g;rw[B rfl];have hd:((d:Int)==(e:Int))=decide (d=e):=ij;exact vi
 rw[z g];by_cases h:a=6
 . subst h;rw[B rfl];have hd:((d:Int) !=(e:Int))=!decide (d=e):=ij;exact vi
 rw[z h];by_cases i:a=7
 . subst i;exact IC
 rw[z i];by_cases k:a=8
 . subst k;exact IC
 rw[z k];by_cases n:a=9
 . subst n;rw[B rfl];have hd:decide ((d:Int)< (e:Int))=decide (d<e):=gX;exact vi
 rw[z n];by_cases f:a=10
 . subst f;rw[B rfl];have hd:decide ((e:Int)<=(d:Int))=decide (e<=d):=gX;exact vi
 rw[z f];have w:(a==5)=false:=by simp[g]
 have x:(a==6)=false:=by simp[h]
 have A:(a==7)=false:=by simp[i]
 have C:(a==8)=false:=by simp[k]
 have E:(a==9)=false:=by simp[n]
 have v:(a==10)=false:=by simp[f]
 clear g h i k n f;exact IB
def l6 (a b:Int):Int:=if b=0 then(if a=1 then 12 else 1)else if b=1 then(if a=1 then 13 else 5)else(if a=1 then 15 else 7)
def qM (c a:Int)(g:D):
 O 364 #[j c,j a] (j (l6 c a)) g:=by
 unfold l6;by_cases b:a=0
 . have e:(a==0)=true:=by simp[b]
   rw[B b];clear b;exact IE
 . have e:(a==0)=false:=by simp[b]
   rw[z b];clear b;by_cases d:a=1
   . have f:(a==1)=true:=by simp[d]
     rw[B d];exact IF
   . have f:(a==1)=false:=by simp[d]
     rw[z d];exact IF
def gC (b a c:Int):Value:=.agg #[j b,j a,j c]
def mF (a b:Int)(c:D):
 aa 365 #[j a,j b] (gC 0 a b) c:=by
 unfold gC;go_enter func365,ntmps365;go_wp2_with fail;refine ac (v:=.agg #[j 0,j a,j b]) (by simp[results,results365,go_sem]) rfl ⟨rfl,?_⟩;exact IG
def oh (a:Int)(c:D):
 aa 394 #[j a] (gC (am a) (-1) 0) c:=by
 unfold gC;have b:=l (fX a);go_enter func394,ntmps394;go_wp2_with fail;refine(b.out _).mono ?_;rintro d e ⟨rfl,rfl⟩;go_wp2_with fail;refine ac (v:=.agg #[j (am a),j (-1),j 0]) (by simp[results,results394,go_sem]) rfl ⟨rfl,?_⟩;exact IG
def w0 (a:Nat):(a:Int).tdiv 2=((a/2:Nat):Int):=by rw[hB (by omega)];omega
def Bv (b a:Nat):b/2^(a+1)=b/2/2^a:=by rw[gP,gd,fl]
theorem acW (b i:Nat)(z:G b)(w:i<=40)(v:D):
 O 443 #[j b,j i] (.bool (decide (b/2^i%2=1))) v:=by
 obtain⟨e,m⟩:=y (b/2^i%2:Nat);rw[<-m];have d:=l m;clear m;go_enter func443,ntmps443;go_wp2_with fail;go_loop [0,1] (fun q k=>∃c a:Nat,a<=i/\c<=b/\q=j c/\k=j a/\Hid (e=c/2^a%2)) (fun _ k=>(intOf k).toNat);case atStart=>exact IH
 case round=>
  obtain⟨c,a,x,hu,rfl,rfl,f⟩:=hrel;cases a with
  |zero=>
   have t:=jY c;obtain⟨g,n⟩:=y (c%2);rw[<-n]at t;have s:Hid (e=g):=by show e=g;rw[f.out,n];simp
   have hd:((g:Int)==1)=decide (g=1):=ij;clear f d n;go_wp2_with fail;go_ret;exact⟨by rw[s.out]<;>first|rfl|(simp[hd]),rfl⟩
  |succ a=>
   have r:=w0 c;have u:c/2<=c:=kf;have h:Hid (e=c/2/2^a%2):=by show e=_;rw[f.out,Bv]
   obtain⟨p,o⟩:=y (c/2);rw[<-o]at r u h;have hd:decide (0< ((a:Int)+1))=true:=bN;clear f d o;go_wp2_with fail;go_round;case rel=>exact II
   case measure=>exact dF
theorem e7 (b i:Nat)(z:G b)(w:i<=40)(v:D):
 O 315 #[j b,j i] (j ((b/2^i%2:Nat):Int)) v:=by
 obtain⟨e,k⟩:=y (b/2^i%2:Nat);rw[<-k];have d:=l k;clear k;go_enter func315,ntmps315;go_wp2_with fail;go_loop [0,1] (fun q g=>∃c a:Nat,a<=i/\c<=b/\q=j c/\g=j a/\Hid (e=c/2^a%2)) (fun _ g=>(intOf g).toNat);case atStart=>exact IH
 case round=>
  obtain⟨c,a,x,hu,rfl,rfl,f⟩:=hrel;cases a with
  |zero=>
   have t:=jY c;obtain⟨o,m⟩:=y (c%2);rw[<-m]at t;have s:Hid (e=o):=by show e=o;rw[f.out,m];simp
   clear f d m;go_wp2_with fail;go_ret;exact⟨by rw[s.out]<;>rfl,rfl⟩
  |succ a=>
   have r:=w0 c;have u:c/2<=c:=kf;have h:Hid (e=c/2/2^a%2):=by show e=_;rw[f.out,Bv]
   obtain⟨p,n⟩:=y (c/2);rw[<-n]at r u h;clear f d n;go_wp2_with fail;go_round;case rel=>exact II
   case measure=>exact dF
theorem xV (a:Nat)(i:a<=4)(q:D):
 O 421 #[j a] (j ((256^a:Nat):Int)) q:=by
 obtain⟨d,g⟩:=y (256^a:Nat);rw[<-g];have c:=l g;clear g;go_enter func421,ntmps421;go_wp2_with fail;go_loop [0,3] (fun f k=>∃b p:Nat,b<=a/\p<=4294967296/\f=j b/\k=j p/\Hid (p*256^b=d)) (fun f _=>(intOf f).toNat);case atStart=>exact Im
 case round=>
  obtain⟨b,p,s,t,rfl,rfl,e⟩:=hrel;cases b with
  |zero=>
   have o:Hid (p=d):=by have:=e.out;show p=d;omega
   clear e c;go_wp2_with fail;go_ret;exact⟨by rw[<-o.out]<;>rfl,rfl⟩
  |succ b=>
   have h:Hid (256*p*256^b=d):=by
    show _=_;rw[<-e.out,gd,fl 256 p,hA,fl 256]
   have n:256*p<=4294967296:=by
    have m:256*p*1<=256*p*256^b:=yf _ (Nat.one_le_pow _ _ R);have r:d<=256^4:=Hm;rw[h.out]at m;omega
   clear e c;go_wp2_with fail;go_round;case rel=>exact⟨b,256*p,by omega,n,by go_num,by go_num,h⟩
   case measure=>exact dF
structure em (d:D)(a:Nat)(e:List Value):Prop where
 cell:∀b c,e[b]?=some c->d.cell? ⟨a,b,none⟩=some c
 lt:a<d.heap.size
def em.more {f w':D}{a:Nat}{c:List Value}(b:em f a c)(d:Kept [] f w'):em w' a c:=⟨fun e h g=>(d.cell (p:=⟨a,e,none⟩) b.lt (by simp)).trans (b.cell e h g),aR b.lt d.size⟩
def em.below {a b:D}{c:Nat}{d:List Value}(e:em a c d)(f:Below a.heap.size a b):em b c d:=e.more (Below.kept f [])
theorem em.drew {a:D}{b:Nat}{c:List Value}(d:em a b c):em a.drew b c:=d.more (Kept.refl [] a).drew
def em.new (b:D)(a:List Value)(c:Nat):em (b.alloc (.cells a.toArray c)) b.heap.size a:=⟨fun e f d=>by simp[d],by simp⟩
def cT (b:Int)(a:Nat)(e:a<=8)(d:D):aE 177 #[j b,j a] (.string (ar b a)) d:=(se b a e d).mono (fun g f c=>⟨c.1,Below.kept c.2 []⟩)
def e9 (a b:Nat):K:=ar a 4++ar b 4
def oi (a b:Nat):(e9 a b).size=8:=by unfold e9;rw[fm,bt,bt]
def tN (a b:Nat)(c:D):
 aE 179 #[.agg #[j a,j b]] (.string (e9 a b)) c:=by
 have f:=fun W=>l (cT (a:Int) 4 R W);have g:=fun W=>l (cT (b:Int) 4 R W);obtain⟨u,m,s,r⟩:=bj (ar a 4) (ar b 4) (by rw[bt,bt];decide);unfold e9;rw[<-m];clear m s;obtain⟨v,i⟩:=y (ar a 4);obtain⟨w,k⟩:=y (ar b 4);simp only[<-i,<-k]at f g r;clear i k;have p:em (c.alloc (.cells #[j a,j b] 69)).drew c.heap.size [j a,j b]:=(em.new c [j a,j b] _).drew;have t:Kept [] c (c.alloc (.cells #[j a,j b] 69)).drew:=pF;go_enter func179,ntmps179;go_upto_region 1 with fail;go_region_held3 (fun e=>e.cell? ⟨c.heap.size,0,none⟩=some (j a)/\e.cell? ⟨c.heap.size,1,none⟩=some (j b)) (first|go_keep|exact⟨d.cell 0 _ rfl,d.cell 1 _ rfl⟩|exact⟨h.cell 0 _ rfl,h.cell 1 _ rfl⟩) (first|(go_at_call_of 177 (j (a:Int));refine(f _).out.mono ?_;rintro q x ⟨rfl,n⟩;have d:=p.more n)|(go_at_call_of 177 (j (b:Int));refine(g _).out.mono ?_;rintro q z ⟨rfl,o⟩;have h:=d.more o));all_goals
  go_wp2_with fail;go_ret;exact⟨rfl,(t.trans n).trans o⟩
def x2 (a:Bool)(b c:K)(d:D):
 O 178 #[.bool a,.string b,.string c] (.string (if a=true then b else c)) d:=by
 cases a;all_goals
  go_enter func178,ntmps178;exact cn
def lg (a:P):K:=(ar a.Wj 1++e9 a.time a.Wh)++e9 a.cmp a.Wv
def aiY (a:P)(f:D):
 aE 118 #[.agg #[j a.Wj,j a.time,j a.Wh,j a.cmp,j a.Wv]] (.string (lg a)) f:=by
 obtain⟨g,d,e,b,c,I⟩:∃g d e b c,g=a.Wj/\d=a.time/\e=a.Wh/\b=a.cmp/\c=a.Wv:=⟨_,_,_,_,_,rfl,rfl,rfl,rfl,rfl⟩;obtain⟨t,u,v,w,x⟩:=I;unfold lg;simp only[<-t,<-u,<-v,<-w,<-x];clear t u v w x;have p:=fun W=>l (cT (g:Int) 1 R W);have q:=fun W=>l (tN d e W);have r:=fun W=>l (tN b c W);obtain⟨K,n,E,F⟩:=bj (ar g 1) (e9 d e) (by rw[bt,oi];decide);obtain⟨M,o,L,G⟩:=bj K (e9 b c) (by rw[E,bt,oi,oi];decide);rw[<-n,<-o];clear n o E L;obtain⟨N,n⟩:=y (ar g 1);obtain⟨O,o⟩:=y (e9 d e);obtain⟨u3,z⟩:=y (e9 b c);simp only[<-n,<-o,<-z]at p q r F G;clear n o z;have H:em (f.alloc (.cells #[j g,j d,j e,j b,j c] 73)).drew f.heap.size [j g,j d,j e,j b,j c]:=(em.new f [j g,j d,j e,j b,j c] _).drew;have J:Kept [] f (f.alloc (.cells #[j g,j d,j e,j b,j c] 73)).drew:=pF;go_enter func118,ntmps118;go_upto_region 1 with fail;go_region_held3 (fun k=>k.cell? ⟨f.heap.size,0,none⟩=some (j g)/\k.cell? ⟨f.heap.size,1,none⟩=some (j d)/\k.cell? ⟨f.heap.size,2,none⟩=some (j e)/\k.cell? ⟨f.heap.size,3,none⟩=some (j b)/\k.cell? ⟨f.heap.size,4,none⟩=some (j c)) (first|go_keep|exact⟨h.cell 0 _ rfl,h.cell 1 _ rfl,h.cell 2 _ rfl,h.cell 3 _ rfl,h.cell 4 _ rfl⟩|exact⟨i.cell 0 _ rfl,i.cell 1 _ rfl,i.cell 2 _ rfl,i.cell 3 _ rfl,i.cell 4 _ rfl⟩|exact⟨m.cell 0 _ rfl,m.cell 1 _ rfl,m.cell 2 _ rfl,m.cell 3 _ rfl,m.cell 4 _ rfl⟩) (first|(go_at_call 177;refine(p _).out.mono ?_;rintro s Q ⟨rfl,A⟩;have h:=H.more A)|(go_at_call_of 179 (Value.agg #[j (d:Int),j (e:Int)]);refine(q _).out.mono ?_;rintro s S ⟨rfl,B⟩;have i:=h.more B)|(go_at_call_of 179 (Value.agg #[j (b:Int),j (c:Int)]);refine(r _).out.mono ?_;rintro s w3 ⟨rfl,C⟩;have m:=i.more C));all_goals
  go_wp2_with fail;go_ret;exact⟨rfl,((J.trans A).trans B).trans C⟩
def iD (c:List Nat):Nat->Nat->K->K
 |0,_,a=>a
 |d+1,b,a=>iD c d (b+1) (a++ar (c.getD b 0) 4)
theorem s8 (d:List Nat):∀(a c:Nat) (b:K),(iD d a c b).size=b.size+4*a
 |0,_,_=>rfl
 |a+1,c,b=>by
  rw[iD,s8 d a,fm,bt];omega
def mi (a:N):K:=(((iD a.x 32 0 (ar a.V3 4)++(if a.waits=true then⟨#[119]⟩else⟨#[45]⟩))++(if a.W9=true then⟨#[114]⟩else⟨#[45]⟩))++ar a.WU 5)++ar a.mode 1
structure AY (b:N)(a:List Value):Prop where
 x:∀c,c<32->a[c]?=some (j (b.x.getD c 0))
 V3:a[32]?=some (j b.V3)
 mode:a[33]?=some (j b.mode)
 waits:a[34]?=some (.bool b.waits)
 W9:a[35]?=some (.bool b.W9)
 WU:a[36]?=some (j b.WU)
 len:a.length=37
def ag2 (a:N)(i:List Value)(d:Hid (AY a i))(c:D):
 aE 116 #[.agg i.toArray] (.string (mi a)) c:=by
 have r:=fun W=>l (cT (a.V3:Int) 4 R W);have y1:=bt (a.V3:Int) 4;obtain⟨al,U⟩:=y (ar a.V3 4);unfold mi;simp only[<-U]at r y1|-;clear U;have aT:=l d.out.len;have H:=em.new c i 67;have av:=d.out.V3;have aa:Kept [] c (c.alloc (.cells i.toArray 67)):=dE;obtain⟨g,o⟩:=y (iD a.x 32 0 al);have aR:g.size=132:=by rw[o,s8];omega
 rw[<-o];have B:=l o;clear o;have C:=fun W=>l (x2 a.waits ⟨#[119]⟩ ⟨#[45]⟩ W);have E:=fun W=>l (x2 a.W9 ⟨#[114]⟩ ⟨#[45]⟩ W);have L4:=fun W=>l (cT (a.WU:Int) 5 R W);have F:=fun W=>l (cT (a.mode:Int) 1 R W);have y2:(if a.waits=true then(⟨#[119]⟩:K)else⟨#[45]⟩).size=1:=by cases a.waits<;>rfl
 have y3:(if a.W9=true then(⟨#[114]⟩:K)else⟨#[45]⟩).size=1:=by cases a.W9<;>rfl
 have y4:=bt (a.WU:Int) 5;have an:=bt (a.mode:Int) 1;obtain⟨aL,V⟩:=y ((if a.waits=true then(⟨#[119]⟩:K)else⟨#[45]⟩));obtain⟨u3,X⟩:=y ((if a.W9=true then(⟨#[114]⟩:K)else⟨#[45]⟩));obtain⟨aM,Y⟩:=y (ar a.WU 5);obtain⟨u5,Z⟩:=y (ar a.mode 1);simp only[<-V,<-X,<-Y,<-Z]at C E L4 F y2 y3 y4 an|-;obtain⟨aH,O,aN,aU⟩:=bj g aL m;obtain⟨aI,P,aO,aV⟩:=bj aH u3 m;obtain⟨aJ,Q,aP,aW⟩:=bj aI aM m;obtain⟨a3,S,aQ,aX⟩:=bj aJ u5 m;rw[<-O,<-P,<-Q,<-S];clear V X Y Z O P Q S aN aO aP aQ y2 y3 y4 an;obtain⟨a2,a1⟩:=y (a.V3);have t:=d.out.mode;have aw:=d.out.waits;have ax:=d.out.W9;have u:=d.out.WU;go_enter func116,ntmps116;go_wp2_with fail;refine(r _).out.mono ?_;rintro k a4 ⟨rfl,x⟩;have I:=l (H.more x);have n:=l (aa.trans x);clear H aa x r av;go_wp2_with fail;go_loopw [3,4] (fun au v wr=>∃(b:Nat) (f:K),b<=32/\au=.string f/\v=j b/\Hid (f.size=4+4*b)/\Hid (em wr c.heap.size i)/\Hid (Kept [] c wr)/\Hid (g=iD a.x (32-b) b f)) (fun _ v _=>32- (intOf v).toNat);case atStart=>exact⟨0,al,by omega,rfl,rfl,l m,I,n,B⟩
 case round=>
  obtain⟨b,f,aZ,rfl,rfl,z,e,ad,p⟩:=hrel;clear B I n;by_cases aD:b<32
  . have ap:decide ((b:Int)<32)=true:=M;have ay:=e.out.cell b _ (d.out.x b aD);obtain⟨q,A⟩:=y (a.x.getD b 0);have w:Hid (g=iD a.x (32- (b+1)) (b+1) (f++ar q 4)):=by
     show g=_;rw[p.out,show 32-b=(32- (b+1))+1 by omega,A];rfl
    rw[<-A]at ay;have G:=fun W=>l (cT (q:Int) 4 R W);have ao:=bt (q:Int) 4;obtain⟨aK,hu⟩:=y (ar q 4);rw[<-hu]at w ao;simp only[<-hu]at G;have aF:=z.out;obtain⟨t2,T,aS,aY⟩:=bj f aK m;rw[<-T]at w;have aG:Hid (t2.size=4+4* (b+1)):=l m;clear p A hu T aS aF z ao;have a0:(b:Int)<32:=J;go_wp2_with fail;refine(G _).out.mono ?_;rintro k a6 ⟨rfl,n⟩;have aA:=l (e.out.more n);have aC:=l (ad.out.trans n);go_wp2_with fail;go_roundw;case rel=>exact⟨b+1,t2,by omega,rfl,by go_num,aG,aA,aC,w⟩
    case measure=>exact a5
  . have ap:decide ((b:Int)<32)=false:=M;have az:g=f:=by rw[p.out,show 32-b=0 by omega];rfl
    subst az;have d34:=e.out.cell 34 _ aw;have d35:=e.out.cell 35 _ ax;have d33:=e.out.cell 33 _ t;have d36:=e.out.cell 36 _ u;clear p z aR;obtain⟨am,ai⟩:=y (a.waits);obtain⟨ak,af⟩:=y (a.W9);obtain⟨ah,ag⟩:=y (a.WU);obtain⟨aj,ae⟩:=y (a.mode);simp only[<-ai,<-af,<-ag,<-ae]at *;clear ai af ag ae d;go_upto_region 6 with fail;go_region_held3 (fun h=>h.cell? ⟨c.heap.size,34,none⟩=some (.bool am)/\h.cell? ⟨c.heap.size,35,none⟩=some (.bool ak)) (go_keep) (first|(go_at_call_of 178 (Value.bool am);refine(C _).out.mono ?_;rintro k w3 ⟨rfl,rfl⟩)|(go_at_call_of 178 (Value.bool ak);refine(E _).out.mono ?_;rintro k a7 ⟨rfl,rfl⟩));all_goals
     have aq:=e.out.drew.drew;have aB:=ad.out.drew.drew;go_upto_region 7 with fail;go_region_held3 (fun h=>h.cell? ⟨c.heap.size,36,none⟩=some (j ah)/\h.cell? ⟨c.heap.size,33,none⟩=some (j aj)) (first|go_keep|exact⟨s.cell 36 _ u,s.cell 33 _ t⟩|exact⟨L.cell 36 _ u,L.cell 33 _ t⟩) (first|(go_at_call_of 177 (j (ah:Int));refine(L4 _).out.mono ?_;rintro k a8 ⟨rfl,ab⟩;have s:=aq.more ab)|(go_at_call_of 177 (j (aj:Int));refine(F _).out.mono ?_;rintro k a9 ⟨rfl,ac⟩;have L:=s.more ac));all_goals
      go_wp2_with fail;go_ret;exact⟨rfl,(aB.trans ab).trans ac⟩
end Go.Proofs.YtmlgonbhoknoiaaGreatDoor
