import Derived.Test.YtmlgonbhoknoiaaGreatDoorJAE
import Derived.Test.YtmlgonbhoknoiaaGreatDoorJAF
set_option maxHeartbeats 8000000
set_option maxRecDepth 100000
set_option linter.all false
namespace Go.Proofs.YtmlgonbhoknoiaaGreatDoor
open Go.RowKit Go.Proofs.Tryz
def eM {c:IntKind}{a b:Int}(d:a=b):Ending.returned (.int c a)=.returned (.int c b):=by rw[d]
def xk {a b:Bool}(c:a=b):Ending.returned (.bool a)=.returned (.bool b):=by rw[c]
def e0 (a:Int)(b:D):
 O 136 #[j a] (j (am a)) b:=by
 have c:bits .and .i64 a 4294967295=(am a:Int):=by rw[EX];exact i7 a 32 R
 go_enter func136,ntmps136;exact cn
def ga (a b:Int):Int:=if b=1 then(if 128<=a then a-256 else a)else if b=2 then(if 32768<=a then a-65536 else a)else(if 2147483648<=a then a-4294967296 else a)
def Fl (a c:Int)(g:0<=a)(h:G a)(e:D):
 O 271 #[j a,j c] (j (ga a c)) e:=by
 obtain⟨f,b⟩:=y (ga a c);rw[<-b];unfold ga at b;have d:=l b;clear b;go_enter func271,ntmps271;go_wp2_with fail;all_goals (go_ret;refine⟨eM ?_,rfl⟩;rw[d.out];simp_all;try omega)
def tM (a:Nat)(f:G a)(c:D):
 O 264 #[j a] (j (aY a)) c:=by
 have b:aY a=ga a 4:=by unfold aY ga;simp
 rw[b];have d:=l (Fl a 4 m m c);clear b;go_enter func264,ntmps264;go_wp2_with(go_at_call 271;refine d.out.mono ?_;rintro b e ⟨rfl,rfl⟩);exact lR
def mJ (a:Bool)(b:D):
 O 256 #[.bool a] (j (a.toNat:Int)) b:=by
 cases a;all_goals
  go_enter func256,ntmps256;exact cn
def Fg (a:Bool)(b c:Int)(d:D):
 O 348 #[.bool a,j b,j c] (j (bif a then b else c)) d:=by
 cases a;all_goals
  go_enter func348,ntmps348;exact cn
def cu (b a:Nat):Bool:=decide (b/2^a%2=1)
def VB (b a:Nat)(f:G b):(b:Int)/2^min a 64=((b/2^a:Nat):Int):=by
 by_cases e:a<=64
 . rw[Nat.min_eq_left e];simp
 . have c:b/2^a=0:=by
    apply yc;exact aR f (fE (show 4294967296<=2^32 by decide) (cY m m))
   have d:min a 64=64:=J;rw[c,d];have:(2:Int)^64=18446744073709551616:=by decide
   rw[this];omega
def tH (a b:Nat)(l:G a)(m:D):
 O 188 #[j a,j b] (.bool (cu a b)) m:=by
 have i:=VB a b l;have f:bits .and .i64 ((a/2^b:Nat):Int) 1=((a/2^b%2:Nat):Int):=by rw[pQ];simp
 obtain⟨c,d⟩:=y (a/2^b);rw[<-d]at i f;have g:cu a b=decide (c%2=1):=by rw[d];rfl
 rw[g];clear d g;have k:(((c%2:Nat):Int) !=0)=decide (c%2=1):=by
  rcases gh c with e|e<;>rw[e]<;>rfl
 obtain⟨r,h⟩:=y (c%2);rw[<-h]at f k|-;clear h;go_enter func188,ntmps188;exact cn
def qU (b a:Nat)(c:Bool)(h:G b)(g:G a)(d:D):
 O 259 #[j b,j a,.bool c] (j ((bif c then b |||a else aI b a:Nat):Int)) d:=by
 have e:=g8 b a m m;have f:=gs b a m m;cases c;all_goals
  go_enter func259,ntmps259;exact cn
def dc (b c a:Nat):Nat:=aI b a |||(c&&&a)
def qT (b c a:Nat)(h:G b)(k:G c)(i:G a)(d:D):
 O 260 #[j b,j c,j a] (j (dc b c a:Nat)) d:=by
 have e:=gs b a m m;have f:=bm c a m m;have g:=g8 (aI b a) (c&&&a) (bL (h0 _ _) m) (bL gO m);go_enter func260,ntmps260;exact cn
def ll (a:Int):Int:=if a=20 then 31 else if a=21 then 32 else if a=22 then 33 else if a=23 then 36 else if a=24 then 37 else if a=25 then 30 else if a=26 then 34 else if a=27 then 35 else 28
def aiB (b:Int)(d:D):
 O 266 #[j b] (j (ll b)) d:=by
 obtain⟨e,a⟩:=y (ll b);rw[<-a];unfold ll at a;have c:=l a;clear a;go_enter func266,ntmps266;exact pw
def alp (b:Int)(a:Nat)(c:a<32):b/2^min a 64=b/ ((2^a:Nat):Int):=by rw[Nat.min_eq_left (by omega)];simp
def v0 (a:Nat):bits .and .i64 (a:Int) 31=((a%32:Nat):Int):=by
 have:=i7 (a:Int) 5 R;have c:((2:Int)^5)=32:=cM;have d:((2^5-1:Nat):Int)=31:=cM;exact vq
def afr (a:Nat):am (a:Int)=a%4294967296:=by unfold am;omega
def xY (a:Nat)(b:G a):am (a:Int)=a:=by unfold am;omega
def qP (a:Int):am (wrap64 a)=am a:=by unfold am wrap64;omega
def lk (b a:Int):Int:=if a=0 then 4294967295 else wrap64 (b.tdiv a)
def lm (a b:Int):Int:=if b=0 then a else a.tmod b
def ahS (c a:Int)(e:D):
 O 338 #[j c,j a] (j (lk c a)) e:=by
 by_cases b:a=0
 . subst b;go_enter func338,ntmps338;go_wp2_with fail;go_ret;exact⟨eM (by simp[lk]),rfl⟩
 . have f:(a==0)=false:=g0;have d:Hid (lk c a=wrap64 (c.tdiv a)):=by show _=_;simp[lk,b]
   go_enter func338,ntmps338;exact Jh
def aiC (c a:Int)(e:D):
 O 339 #[j c,j a] (j (lm c a)) e:=by
 by_cases b:a=0
 . subst b;go_enter func339,ntmps339;go_wp2_with fail;go_ret;exact⟨eM (by simp[lm]),rfl⟩
 . have f:(a==0)=false:=g0;have d:Hid (lm c a=c.tmod a):=by show _=_;simp[lm,b]
   go_enter func339,ntmps339;exact Jh
def CD {x y X Y:Int}(j:-X<=x)(k:x<=X)(l:-Y<=y)(n:y<=Y)(o:0<=X)(a:0<=Y):-(X*Y)<=x*y/\x*y<=X*Y:=by
 have b:0<=(X-x)* (Y+y):=vI;have c:0<=(X+x)* (Y-y):=vI;have d:0<=(X-x)* (Y-y):=vI;have e:0<=(X+x)* (Y+y):=vI;have f:(X-x)* (Y+y)=X*Y+X*y-x*Y-x*y:=by rw[uf,q5,q5];omega
 have g:(X+x)* (Y-y)=X*Y-X*y+x*Y-x*y:=by rw[ug,mO,mO];omega
 have h:(X-x)* (Y-y)=X*Y-X*y-x*Y+x*y:=by rw[uf,mO,mO];omega
 have i:(X+x)* (Y+y)=X*Y+X*y+x*Y+x*y:=by rw[ug,q5,q5];omega
 omega
def O9 (a:Int):bits .and .i64 a 65535=a%65536:=i7 a 16 (by decide)
def ag3 (b a:Int)(F:-2147483648<=b)(H:G b)(I:-2147483648<=a)(K:G a)(t:D):
 O 337 #[j b,j a] (j (am (b*a/4294967296))) t:=by
 have s:=O9 b;obtain⟨i,o⟩:=y (b%65536);obtain⟨c,n⟩:=y (b/65536);have k:b=c*65536+i:=J;have r:-32768<=c/\c<=65535:=J;obtain⟨p,g⟩:=y (c*a);obtain⟨d,h⟩:=y (i*a);have e:=CD (x:=c) (y:=a) (X:=65536) (Y:=4294967296) m m m m m m;have f:=CD (x:=i) (y:=a) (X:=65536) (Y:=4294967296) m m m m m m;have l:b*a=p*65536+d:=by rw[k,ug,g,h,mN,Int.mul_comm 65536 a,<-mN]
 rw[<-g]at e;rw[<-h]at f;rw[<-o]at s;have q:Hid (am (b*a/4294967296)=am ((p+d/65536)/65536)):=by
  show _=_;rw[l];congr 1;omega
 have v:wrap64 (b/65536*a)=p:=by rw[<-n,<-g];unfold wrap64;omega
 have w:wrap64 (i*a)=d:=by rw[<-h];unfold wrap64;omega
 have x:wrap64 (p+d/65536)=p+d/65536:=by unfold wrap64;omega
 have z:=e.1;have A:=e.2;have B:=f.1;have C:=f.2;clear e f l k n g h o r;go_enter func337,ntmps337;go_wp2_with(first|(go_at_call 136;refine(e0 _ _).mono ?_;rintro E u ⟨rfl,rfl⟩));go_ret;exact⟨eM (by rw[q.out]<;>rfl),rfl⟩
def Et (a b:Nat):(am ((a:Int)+b):Int)=iq a b:=by unfold iq am;omega
def abn (a b:Nat):(am ((a:Int)-b):Int)=nu a b:=rfl
def aaX (p:Prop)[Decidable p]:(((decide p).toNat:Nat):Int)=((if p then 1 else 0:Nat):Int):=by by_cases a:p<;>simp[a]
def abm (a b r:Nat)(d:r=b%32):(am ((a:Int)*2^r):Int)=kx a b:=by
 have c:(a:Int)*2^r=((a*2^r:Nat):Int):=bN;rw[c,afr,d];rfl
def aa3 (a b:Nat)(l:G a)(m:G b):(am (aY a*aY b):Int)=ks a b:=by
 have g:∃i,aY a=a-i*4294967296:=by
  unfold aY;split
  . exact⟨1,by omega⟩
  . exact⟨0,by omega⟩
 have h:∃i,aY b=b-i*4294967296:=by
  unfold aY;split
  . exact⟨1,by omega⟩
  . exact⟨0,by omega⟩
 obtain⟨i,j⟩:=g;obtain⟨c,k⟩:=h;have f:aY a*aY b=((a*b:Nat):Int)+(-(a*c)-i*b+i*c*4294967296)*4294967296:=by
  rw[j,k,ys];generalize (a:Int)=d;generalize (b:Int)=e;have:(d-i*4294967296)* (e-c*4294967296)=d*e-d*c*4294967296-i*e*4294967296+i*c*4294967296*4294967296:=by
   rw[uf,mO,mO,<-mN d c,Int.mul_right_comm i 4294967296 e,<-mN (i*4294967296) c,Int.mul_right_comm i 4294967296 c];omega
  rw[this,ug,uf,Int.neg_mul];omega
 rw[f];unfold am ks;rw[Int.add_mul_emod_self_right];omega
def aa4 (a b:Nat)(e:G a)(f:G b):(am ((a:Int)*b/4294967296):Int)=kt a b:=by
 have d:a*b<=4294967295*4294967295:=uc m m;have c:(a:Int)*b=((a*b:Nat):Int):=bN;rw[c];unfold am kt;generalize a*b=g at *;omega
def aaZ (c a:Nat)(f:G c)(e:G a):(am (lk (aY c) (aY a)):Int)=kq c a:=by
 unfold lk kq;have:=tg a e;by_cases b:a=0
 . rw[B (this.2 b),B b];rfl
 . rw[z (fun d=>b (this.1 d)),z b,qP]
def aa0 (b a:Nat)(d:G b)(e:G a):(am (lk b a):Int)=kr b a:=by
 unfold lk kr;by_cases c:a=0
 . subst c;rfl
 . rw[z (by omega),z c,qP,nW,xY];exact bL (ln _ _) d
def abj (b a:Nat)(f:G b)(e:G a):(am (lm (aY b) (aY a)):Int)=kv b a:=by
 unfold lm kv;have:=tg a e;by_cases c:a=0
 . rw[B (this.2 c),B c];unfold am aY;split<;>omega
 . rw[z (fun d=>c (this.1 d)),z c];congr 2;have:=Int.tmod_add_tdiv_mul (aY b) (aY a);omega
def abk (b a:Nat)(d:G b)(e:G a):lm b a=kw b a:=by
 unfold lm kw;by_cases c:a=0
 . subst c;rfl
 . rw[z (by omega),z c,iP (by omega)];simp
def air (b a:Nat)(c:G b)(d:G a)(g:D):
 O 265 #[j 28,j b,j a] (j (iq b a)) g:=jF
def aiz (b a:Nat)(c:G b)(d:G a)(g:D):
 O 265 #[j 29,j b,j a] (j (nu b a)) g:=jF
def aiu (b a:Nat)(c:G b)(d:G a)(k:D):
 O 265 #[j 30,j b,j a] (j (kx b a)) k:=by
 have h:=v0 a;have i:a%32<32:=J;obtain⟨r,g⟩:=y (a%32);rw[<-g]at h i;have HR:=l g;clear g;exact jF
def aiv (b a:Nat)(c:G b)(d:G a)(g:D):
 O 265 #[j 31,j b,j a] (j (l0 b a)) g:=jF
def aiw (b a:Nat)(c:G b)(d:G a)(g:D):
 O 265 #[j 32,j b,j a] (j (l1 b a)) g:=jF
def aiA (b a:Nat)(c:G b)(d:G a)(g:D):
 O 265 #[j 33,j b,j a] (j (kA b a)) g:=by
 have h:=Bq b a m m;exact jF
def aiy (b a:Nat)(c:G b)(d:G a)(k:D):
 O 265 #[j 34,j b,j a] (j (kz b a)) k:=by
 have h:=v0 a;have i:a%32<32:=J;obtain⟨r,g⟩:=y (a%32);rw[<-g]at h i;have HR:=l g;clear g;exact jF
def aix (b a:Nat)(c:G b)(d:G a)(k:D):
 O 265 #[j 35,j b,j a] (j (ky b a)) k:=by
 have h:=v0 a;have i:a%32<32:=J;obtain⟨r,g⟩:=y (a%32);rw[<-g]at h i;have HR:=l g;clear g;exact jF
def ait (b a:Nat)(c:G b)(d:G a)(g:D):
 O 265 #[j 36,j b,j a] (j (ku b a)) g:=by
 have h:=g8 b a m m;exact jF
def ais (b a:Nat)(c:G b)(d:G a)(g:D):
 O 265 #[j 37,j b,j a] (j (kp b a)) g:=by
 have h:=bm b a m m;exact jF
def ahq (b a:Nat)(c:G b)(d:G a)(g:D):
 O 267 #[j 42,j b,j a] (j (ks b a)) g:=zQ
def ahr (b a:Nat)(c:G b)(d:G a)(g:D):
 O 267 #[j 43,j b,j a] (j (nr b a)) g:=zQ
def ahs (b a:Nat)(c:G b)(d:G a)(g:D):
 O 267 #[j 44,j b,j a] (j (nt b a)) g:=zQ
def aht (b a:Nat)(c:G b)(d:G a)(g:D):
 O 267 #[j 45,j b,j a] (j (kt b a)) g:=px
def aho (b a:Nat)(c:G b)(d:G a)(g:D):
 O 267 #[j 46,j b,j a] (j (kq b a)) g:=px
def ahp (b a:Nat)(c:G b)(d:G a)(g:D):
 O 267 #[j 47,j b,j a] (j (kr b a)) g:=px
def ahu (b a:Nat)(c:G b)(d:G a)(g:D):
 O 267 #[j 48,j b,j a] (j (kv b a)) g:=px
def ahv (b a:Nat)(c:G b)(d:G a)(g:D):
 O 267 #[j 49,j b,j a] (j (kw b a)) g:=px
def fh (a:Nat):((a:Int) !=0)=!decide (a=0):=by by_cases b:a=0<;>simp[b]
def e1 (b a:Nat)(c:Bool):Nat:=bif c then b |||a else aI b a
def ya (b a:Nat)(d:Bool)(c:G b)(e:G a):e1 b a d<4294967296:=by
 cases d
 . exact bL (h0 _ _) c
 . exact fu b a 32 c e
def h3 (a mode:Nat):Nat:=aI (e1 (e1 a 32 (!decide (a&&&2=0))) 256 (decide (mode=1))) 2
def aiW (a mode:Nat)(d:G a)(f:D):
 O 189 #[j a,j mode] (j (h3 a mode)) f:=by
 have q:bits .and .i64 (a:Int) 2=((a&&&2:Nat):Int):=bm a 2 m m;have u:=fh (a&&&2);obtain⟨i,k⟩:=y (!decide (a&&&2=0));rw[<-q,<-k]at u;obtain⟨e,b⟩:=y (e1 a 32 i);have p:G e:=AG;have r:Hid (O 259 #[j a,j 32,.bool i] (j (e:Int)) f):=by rw[b];exact l (qU a 32 i d m f)
 obtain⟨g,n⟩:=y (decide (mode=1));have w:((mode:Int)==1)=g:=by rw[n];by_cases t:mode=1<;>simp[t];omega
 obtain⟨c,h⟩:=y (e1 e 256 g);have v:G c:=by rw[h];exact ya _ _ _ p m
 have s:Hid (O 259 #[j e,j 256,.bool g] (j (c:Int)) f):=by rw[h];exact l (qU e 256 g p m f)
 have x:bits .andNot .i64 (c:Int) 2=((aI c 2:Nat):Int):=gs c 2 m m;have o:h3 a mode=aI c 2:=by unfold h3;rw[<-k,<-n,<-b,<-h]
 rw[o];clear o k n b h q;go_enter func189,ntmps189;exact Jj
def jp (a mode:Nat):Nat:=aI (dc (e1 a 128 (!decide (a&&&8=0))) (mode*2048) 6144) 8
def ajK (a e b:Nat)(c:G a)(d:G b):dc a e b<4294967296:=fu _ _ 32 (bL (h0 _ _) c) (bL iQ d)
def ahg (a mode:Nat)(d:G a)(u:mode<4)(f:D):
 O 191 #[j a,j mode] (j (jp a mode)) f:=by
 have q:bits .and .i64 (a:Int) 8=((a&&&8:Nat):Int):=bm a 8 m m;have t:=fh (a&&&8);obtain⟨i,k⟩:=y (!decide (a&&&8=0));rw[<-q,<-k]at t;obtain⟨e,b⟩:=y (e1 a 128 i);have p:G e:=AG;have r:Hid (O 259 #[j a,j 128,.bool i] (j (e:Int)) f):=by rw[b];exact l (qU a 128 i d m f)
 obtain⟨h,o⟩:=y (mode*2048);have w:(mode:Int)*2048=(h:Int):=J;obtain⟨c,g⟩:=y (dc e h 6144);have v:G c:=by rw[g];exact ajK _ _ _ p m
 have s:Hid (O 260 #[j e,j h,j 6144] (j (c:Int)) f):=by rw[g];exact l (qT e h 6144 p m m f)
 have x:bits .andNot .i64 (c:Int) 8=((aI c 8:Nat):Int):=gs c 8 m m;have n:jp a mode=aI c 8:=by unfold jp;rw[<-k,<-o,<-b,<-g]
 rw[n];clear n k b g q o;go_enter func191,ntmps191;exact Jj
def hv (a:Nat):Nat:=aI (e1 a 2 (!decide (a&&&32=0))) 131328 |||32
def aiV (a:Nat)(d:G a)(g:D):
 O 284 #[j a] (j (hv a)) g:=by
 have i:bits .and .i64 (a:Int) 32=((a&&&32:Nat):Int):=bm a 32 m m;have k:=fh (a&&&32);obtain⟨e,f⟩:=y (!decide (a&&&32=0));rw[<-i,<-f]at k;obtain⟨c,b⟩:=y (e1 a 2 e);have n:G c:=AG;have o:Hid (O 259 #[j a,j 2,.bool e] (j (c:Int)) g):=by rw[b];exact l (qU a 2 e d m g)
 have p:bits .andNot .i64 (c:Int) 131328=((aI c 131328:Nat):Int):=gs c 131328 m m;have q:bits .or .i64 ((aI c 131328:Nat):Int) 32=((aI c 131328 |||32:Nat):Int):=g8 (aI c 131328) 32 (bL (h0 _ _) m) m;have h:hv a=aI c 131328 |||32:=by unfold hv;rw[<-f,<-b]
 rw[h];clear h f b i;go_enter func284,ntmps284;exact zR
def gM (a:Nat):Nat:=if a&&&6144=6144 then a else aI a 131072
def h2 (a:Nat):Nat:=aI (e1 (gM a) 8 (!decide (gM a&&&128=0))) 6144 |||128
def ahf (a:Nat)(p:G a)(n:D):
 O 283 #[j a] (j (h2 a)) n:=by
 have f:bits .and .i64 (a:Int) 6144=((a&&&6144:Nat):Int):=bm a 6144 m m;have r:bits .andNot .i64 (a:Int) 131072=((aI a 131072:Nat):Int):=gs a 131072 m m;have k:G (gM a):=by
  unfold gM;split
  . exact p
  . exact bL (h0 _ _) p
 unfold h2;obtain⟨b,d⟩:=y (gM a);rw[<-d]at k|-;have q:bits .and .i64 (b:Int) 128=((b&&&128:Nat):Int):=bm b 128 m m;have s:=fh (b&&&128);obtain⟨h,i⟩:=y (!decide (b&&&128=0));rw[<-q,<-i]at s;obtain⟨c,g⟩:=y (e1 b 8 h);have u:G c:=by rw[g];exact ya _ _ _ k m
 have o:Hid (O 259 #[j b,j 8,.bool h] (j (c:Int)) n):=by rw[g];exact l (qU b 8 h k m n)
 have w:bits .andNot .i64 (c:Int) 6144=((aI c 6144:Nat):Int):=gs c 6144 m m;have x:bits .or .i64 ((aI c 6144:Nat):Int) 128=((aI c 6144 |||128:Nat):Int):=g8 (aI c 6144) 128 (bL (h0 _ _) m) m;rw[<-i,<-g];clear i g q;unfold gM at d;by_cases e:a&&&6144=6144
 . rw[B e]at d;subst d;rw[e]at f;have t:bits .and .i64 (b:Int) 6144=6144:=f;clear f e;exact Jk
 . rw[z e]at d;have v:(bits .and .i64 (a:Int) 6144 !=6144)=true:=by rw[f];simp;omega
   rw[<-d]at r;clear f e d;exact Jk
def hw (b a:Nat):Nat:=if a&&&6144=4096 then dc b a 8257962 else a&&&8264106
def aiQ (c a:Nat)(h:G c)(i:G a)(f:D):
 O 381 #[j c,j a] (j (hw c a)) f:=by
 have e:bits .and .i64 (a:Int) 6144=((a&&&6144:Nat):Int):=bm a 6144 m m;have k:bits .and .i64 (a:Int) 8264106=((a&&&8264106:Nat):Int):=bm a 8264106 m m;obtain⟨g,b⟩:=y (hw c a);rw[<-b];unfold hw at b;by_cases d:a&&&6144=4096
 . rw[B d]at b;rw[d]at e;have n:bits .and .i64 (a:Int) 6144=4096:=e;clear e d;have o:Hid (O 260 #[j c,j a,j 8257962] (j (g:Int)) f):=by rw[b];exact l (qT c a 8257962 h i m f)
   clear b;go_enter func381,ntmps381;exact zR
 . rw[z d]at b;have p:(bits .and .i64 (a:Int) 6144==4096)=false:=by rw[e];simp;omega
   rw[<-b]at k;clear e d b;go_enter func381,ntmps381;exact cn
def afP (b:Nat)(a:N)(i:Nat)(c:i<32):(ct b a)[1+i]?=some (j (a.x.getD i 0)):=by
 have d:i=0\/i=1\/i=2\/i=3\/i=4\/i=5\/i=6\/i=7\/i=8\/i=9\/i=10\/i=11\/i=12\/i=13\/i=14\/i=15\/i=16\/i=17\/i=18\/i=19\/i=20\/i=21\/i=22\/i=23\/i=24\/i=25\/i=26\/i=27\/i=28\/i=29\/i=30\/i=31:=J;exact Jm
def E.cr {d b c a}(e:E d b c a)(i:Nat)(f:i<32):d.cell? ⟨b,1+i,none⟩=some (j (a.x.getD i 0)):=(e.cell (1+i) (by omega)).trans (afP c a i f)
def B0 (c:List Nat)(i a d:Nat)(g:c.length=32)(f:i<32):(c.set i d).getD a 0=if a=i then d else c.getD a 0:=by
 simp only[q7];by_cases b:a=i
 . subst b;rw[B rfl,List.getElem?_set_self (by omega)];rfl
 . rw[z b,yt (fun e=>b e.symm)]
def afQ (c:Nat)(a:N)(i b:Nat)(g:a.x.length=32)(f:i<32):ct c {a with x:=a.x.set i b}=(ct c a).set (1+i) (j (b:Int)):=by
 have d:i=0\/i=1\/i=2\/i=3\/i=4\/i=5\/i=6\/i=7\/i=8\/i=9\/i=10\/i=11\/i=12\/i=13\/i=14\/i=15\/i=16\/i=17\/i=18\/i=19\/i=20\/i=21\/i=22\/i=23\/i=24\/i=25\/i=26\/i=27\/i=28\/i=29\/i=30\/i=31:=J;have e:=fun h=>B0 a.x i h b g f;unfold ct;simp only[e];exact Jm
def bV (b f:Nat)(a:N)(i:Nat)(d:i<32)(c)(e:Hid (E c b f a)):
 O 40 #[I b,j i] (j (a.x.getD i 0)) c:=by
 have h:decide ((i:Int)<0)=false:=bN;have k:decide ((32:Int)<=i)=false:=M;have g:=e.out.cr i d;go_enter func40,ntmps40;exact cn
def a6 (a:N)(b c:Nat):N:=if b=0 then a else{a with x:=a.x.set b c}
def fZ (c e:Nat)(b:N)(k:b.x.length=32)(i f:Nat)(g:i<32)(h)(a:Hid (E h c e b)):
 an 198 #[I c,j i,j f] (.tuple #[]) [c] c e (a6 b i f) h:=by
 unfold a6;by_cases d:i=0
 . subst d;rw[B rfl];go_enter func198,ntmps198;go_wp2_with fail;refine ac (q8 rfl _ _ _) rfl ?_;exact rZ
 . rw[z d];have o:decide ((i:Int)<1)=false:=M;have p:decide ((32:Int)<=i)=false:=M;have l:=a.out.cr i g;have n:=a.out.Wb;clear d;go_enter func198,ntmps198;go_wp2_with fail;go_end0;exact⟨rfl,a.out.set (1+i) _ (afQ e b i f k g) rfl m,(Kept.refl _ _).setCell (.inl F) _⟩
def hr (a:N):N:={a with W9:=false,WU:=0}
def qV (b d c e)(a:Hid (E e b d c)):
 an 78 #[I b] (.tuple #[]) [b] b d (hr c) e:=by
 have f:=a.out.XJ;have g:=a.out.XC;have h:=a.out.Wb;go_enter func78,ntmps78;go_wp2_with fail;go_end0;exact⟨rfl,(a.out.set (X':={c with W9:=false}) 36 _ rfl rfl m).set 37 _ rfl rfl m,((Kept.refl _ _).setCell (.inl F) _).setCell (.inl F) _⟩
def aiD (b e:Nat)(c:N)(d:Nat)(f)(a:Hid (E f b e c)):
 an 349 #[I b,j d] (.tuple #[]) [b] b e ({c with W9:=true,WU:=d}) f:=by
 have g:=a.out.XJ;have h:=a.out.XC;have i:=a.out.Wb;go_enter func349,ntmps349;go_wp2_with fail;go_end0;exact⟨rfl,(a.out.set (X':={c with W9:=true}) 36 _ rfl rfl m).set 37 _ rfl rfl m,((Kept.refl _ _).setCell (.inl F) _).setCell (.inl F) _⟩
def af2 (b e a c)(d:Hid (E c b e a)):
 O 112 #[I b] (j a.V3) c:=by
 have f:=d.out.Xk;go_enter func112,ntmps112;exact cn
def af0 (b e a c)(d:Hid (E c b e a)):
 O 111 #[I b] (j a.mode) c:=by
 have f:=d.out.Xl;go_enter func111,ntmps111;exact cn
def aga (b e a c)(d:Hid (E c b e a)):
 O 120 #[I b] (j (a.b.o.length:Nat)) c:=by
 have f:=d.out.V8;go_enter func120,ntmps120;exact cn
def oq (g o:Nat)(d:N)(m:d.b.o.length<=65536)(b a:Int)(s:-1099511627776<=b)(t:b<=1099511627776)(q:1<=a)(r:a<=4)(h)(n:Hid (E h g o d)):
 O 262 #[I g,j b,j a] (.bool (a1 b a d.b.o.length)) h:=by
 have k:=n.out.V8;obtain⟨i,f⟩:=y (d.b.o.length);rw[<-f]at k m|-;obtain⟨p,e⟩:=y (a1 b a i);rw[<-e];unfold a1 at e;have c:=l e;clear e f;go_enter func262,ntmps262;exact rY
def N.V7 (a:N)(B:P):N:={a with b:=B}
def E.Xn {j h e X}(b:E j h e X)(a:Nat)(p:a<X.b.o.length)(i:L):E (j.setCell ⟨e,a,none⟩ (.int .u8 (i.toNat:Int))) h e {X with b:={X.b with o:=X.b.o.set a i}}:=by
 have d:=b.ne;have m:¬e=h:=vk;obtain⟨-,o,q,-,r,s,-⟩:=id b;have t:=b.o a p;refine⟨fun c g=>?_,?_,?_,fun c g=>?_,?_,?_,d⟩
 . have n:=b.cell c g;have f:(ct e {X with b:={X.b with o:=X.b.o.set a i}})=ct e X:=by unfold ct;simp only[yh]
   rw[f,<-n];simp[go_sem,d,m]
 . simp[go_sem,o]
 . simp[go_sem,q]
 . have k:c<X.b.o.length:=by simpa using g
   exact IR
 . simp[go_sem,r]
 . simp[go_sem,s]
def tK (r s:Nat)(d:N)(B:d.b.o.length<=65536)(g:Int)(p b:Nat)(Z:g-2147483648=p)(X:1<=b)(Y:b<=4)(A:p+b<=d.b.o.length)(h)(f:Hid (E h r s d)):
 O 263 #[I r,j g,j b] (j (cc d.b p b)) h:=by
 have F:=f.out.V8;have q:=oq r s d B g b m m m m h f;have C:a1 g b d.b.o.length=true:=vj;rw[C]at q;have u:=l q;clear q C;unfold cc;obtain⟨c,hS⟩:=y ((d.b.o.drop p).take b);have W:c.length=b:=IS;have z:∀a,(M:a<b)->h.cell? ⟨s,p+a,none⟩=some (.int .u8 ((c[a]'m).toNat:Int)):=by
  intro a M;have L:=f.out.o (p+a) m;have K:c[a]'m=d.b.o[p+a]'m:=by simp[hS]
  rw[L,K]
 rw[<-hS];have t:=l z;clear hS z;obtain⟨v,o⟩:=y (ff c);rw[<-o];have i:=l o;have P:p+b<=d.b.o.length:=A;obtain⟨V,x⟩:=y (d.b.o.length);rw[<-x]at F B P;clear o f A x;go_enter func263,ntmps263;exact IL
def bZ (a:N)(r:List L):N:={a with b:={a.b with o:=r}}
def tL (o e:Nat)(d:N)(Z:d.b.o.length<=65536)(t:Int)(p b:Nat)(am:t-2147483648=p)(ak:1<=b)(al:b<=4)(ai:p+b<=d.b.o.length)(q:Nat)(aa:G q)(B)(T:Hid (E B o e d)):
 an 347 #[I o,j t,j b,j q] (.tuple #[]) [e] o e (bZ d (bu d.b.o p b q)) B:=by
 have A:=oq o e d Z t b m m m m B T;have S:a1 t b d.b.o.length=true:=vj;rw[S]at A;have C:=l A;clear A S;obtain⟨g,v⟩:=y (bu d.b.o p b q);rw[<-v];have D:=l v;clear v;go_enter func347,ntmps347;go_wp2_with fail;refine C.out.mono ?_;rintro ag U ⟨rfl,rfl⟩;clear C;go_wp2_with fail;go_loopw [3,9] (fun X u wr=>∃(i a:Nat) (c:List L),i<=b/\a<4294967296/\X=j a/\u=j i/\c.length=d.b.o.length/\Hid (E wr o e (bZ d c))/\Hid (Kept [e] U wr)/\Hid (g=bu c (p+i) (b-i) a)) (fun _ u _=>b- (intOf u).toNat);case atStart=>exact⟨0,q,d.b.o,by omega,aa,rfl,rfl,rfl,T,l (Kept.refl _ _),D⟩
 case round=>
  obtain⟨i,a,c,ah,hu,rfl,rfl,H,h,f,n⟩:=hrel;clear D;by_cases aj:i<b
  . have W:decide ((i:Int)< (b:Int))=true:=M;have P:p+i<c.length:=J;have Y:=h.out.V8;simp only[bZ]at Y;have ao:=h.out.XA (p+i);have ae:=h.out.o (p+i) P;simp only[bZ]at ae;have k:E (wr.setCell ⟨e,p+i,none⟩ (.int .u8 ((UInt8.ofNat a).toNat:Int))) o e (bZ d (c.set (p+i) (UInt8.ofNat a))):=h.out.Xn (p+i) P (UInt8.ofNat a);have w:(UInt8.ofNat a).toNat=a%256:=bN;rw[w]at k;have ac:IntKind.u8.wrap (a:Int)=((a%256:Nat):Int):=by rw[IntKind.wrap_u8];simp
    have ad:(a:Int)%256=((a%256:Nat):Int):=bN;have d1:(a:Int)/256=((a/256:Nat):Int):=bN;have r:Hid (g=bu (c.set (p+i) (UInt8.ofNat a)) (p+(i+1)) (b- (i+1)) (a/256)):=by
     show g=_;rw[n.out,show b-i=(b- (i+1))+1 by omega];rfl
    have s:a/256<4294967296:=J;have ab:a%256<256:=J;obtain⟨af,x⟩:=y (a%256);obtain⟨R,z⟩:=y (a/256);rw[<-x]at k ac ad ab;rw[<-z]at d1 r s;have K:=l k;have O:Hid (Kept [e] U (wr.setCell ⟨e,p+i,none⟩ (.int .u8 (af:Int)))):=zK;have Q:(c.set (p+i) (UInt8.ofNat a)).length=d.b.o.length:=zP;exact IT
  . have W:decide ((i:Int)< (b:Int))=false:=M;have V:Hid (g=c):=Ji;clear n;go_wp2_with fail;go_end0;exact IZ
end Go.Proofs.YtmlgonbhoknoiaaGreatDoor
