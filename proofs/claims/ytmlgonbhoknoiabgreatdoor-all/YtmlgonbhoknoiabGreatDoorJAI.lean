import Derived.Test.YtmlgonbhoknoiabGreatDoorJAE
import Derived.Test.YtmlgonbhoknoiabGreatDoorJAF
set_option maxHeartbeats 8000000
set_option maxRecDepth 100000
set_option linter.all false
namespace Go.Proofs.YtmlgonbhoknoiabGreatDoor
open Go.RowKit Go.Proofs.Tryz
def eM {c:IntKind}{a b:Int}(d:a=b):Ending.returned (.int c a)=.returned (.int c b):=by rw[d]
def xG {a b:Bool}(c:a=b):Ending.returned (.bool a)=.returned (.bool b):=by rw[c]
def e0 (a:Int)(b:D):
 O 135 #[j a] (j (am a)) b:=by
 have c:bits .and .i64 a 4294967295=(am a:Int):=by rw[Fi];exact ja a 32 R
 go_enter func135,ntmps135;exact cm
def fZ (a b:Int):Int:=if b=1 then(if 128<=a then a-256 else a)else if b=2 then(if 32768<=a then a-65536 else a)else(if 2147483648<=a then a-4294967296 else a)
def FG (a c:Int)(g:0<=a)(h:G a)(e:D):
 O 270 #[j a,j c] (j (fZ a c)) e:=by
 obtain⟨f,b⟩:=y (fZ a c);rw[<-b];unfold fZ at b;have d:=l b;clear b;go_enter func270,ntmps270;go_wp2_with fail;all_goals (go_ret;refine⟨eM ?_,rfl⟩;rw[d.out];simp_all;try omega)
def ui (a:Nat)(f:G a)(c:D):
 O 263 #[j a] (j (aX a)) c:=by
 have b:aX a=fZ a 4:=by unfold aX fZ;simp
 rw[b];have d:=l (FG a 4 m m c);clear b;go_enter func263,ntmps263;go_wp2_with(go_at_call 270;refine d.out.mono ?_;rintro b e ⟨rfl,rfl⟩);exact lR
def mH (a:Bool)(b:D):
 O 255 #[.bool a] (j (a.toNat:Int)) b:=by
 cases a;all_goals
  go_enter func255,ntmps255;exact cm
def FB (a:Bool)(b c:Int)(d:D):
 O 347 #[.bool a,j b,j c] (j (bif a then b else c)) d:=by
 cases a;all_goals
  go_enter func347,ntmps347;exact cm
def ct (b a:Nat):Bool:=decide (b/2^a%2=1)
def Ve (b a:Nat)(f:G b):(b:Int)/2^min a 64=((b/2^a:Nat):Int):=by
 by_cases e:a<=64
 . rw[Nat.min_eq_left e];simp
 . have c:b/2^a=0:=by
    apply yy;exact aQ f (fD (show 4294967296<=2^32 by decide) (cV m m))
   have d:min a 64=64:=J;rw[c,d];have:(2:Int)^64=18446744073709551616:=by decide
   rw[this];omega
def ud (a b:Nat)(l:G a)(m:D):
 O 187 #[j a,j b] (.bool (ct a b)) m:=by
 have i:=Ve a b l;have f:bits .and .i64 ((a/2^b:Nat):Int) 1=((a/2^b%2:Nat):Int):=by rw[p6];simp
 obtain⟨c,d⟩:=y (a/2^b);rw[<-d]at i f;have g:ct a b=decide (c%2=1):=by rw[d];rfl
 rw[g];clear d g;have k:(((c%2:Nat):Int) !=0)=decide (c%2=1):=by
  rcases gg c with e|e<;>rw[e]<;>rfl
 obtain⟨r,h⟩:=y (c%2);rw[<-h]at f k|-;clear h;go_enter func187,ntmps187;exact cm
def rb (b a:Nat)(c:Bool)(h:G b)(g:G a)(d:D):
 O 258 #[j b,j a,.bool c] (j ((bif c then b |||a else aI b a:Nat):Int)) d:=by
 have e:=g7 b a m m;have f:=gr b a m m;cases c;all_goals
  go_enter func258,ntmps258;exact cm
def c9 (b c a:Nat):Nat:=aI b a |||(c&&&a)
def ra (b c a:Nat)(h:G b)(k:G c)(i:G a)(d:D):
 O 259 #[j b,j c,j a] (j (c9 b c a:Nat)) d:=by
 have e:=gr b a m m;have f:=bl c a m m;have g:=g7 (aI b a) (c&&&a) (bJ (h0 _ _) m) (bJ gN m);go_enter func259,ntmps259;exact cm
def lk (a:Int):Int:=if a=20 then 31 else if a=21 then 32 else if a=22 then 33 else if a=23 then 36 else if a=24 then 37 else if a=25 then 30 else if a=26 then 34 else if a=27 then 35 else 28
def ahW (b:Int)(d:D):
 O 265 #[j b] (j (lk b)) d:=by
 obtain⟨e,a⟩:=y (lk b);rw[<-a];unfold lk at a;have c:=l a;clear a;go_enter func265,ntmps265;exact pM
def akK (b:Int)(a:Nat)(c:a<32):b/2^min a 64=b/ ((2^a:Nat):Int):=by rw[Nat.min_eq_left (by omega)];simp
def wt (a:Nat):bits .and .i64 (a:Int) 31=((a%32:Nat):Int):=by
 have:=ja (a:Int) 5 R;have c:((2:Int)^5)=32:=cK;have d:((2^5-1:Nat):Int)=31:=cK;exact vM
def aeN (a:Nat):am (a:Int)=a%4294967296:=by unfold am;omega
def yk (a:Nat)(b:G a):am (a:Int)=a:=by unfold am;omega
def q6 (a:Int):am (wrap64 a)=am a:=by unfold am wrap64;omega
def lj (b a:Int):Int:=if a=0 then 4294967295 else wrap64 (b.tdiv a)
def ll (a b:Int):Int:=if b=0 then a else a.tmod b
def ahe (c a:Int)(e:D):
 O 337 #[j c,j a] (j (lj c a)) e:=by
 by_cases b:a=0
 . subst b;go_enter func337,ntmps337;go_wp2_with fail;go_ret;exact⟨eM (by simp[lj]),rfl⟩
 . have f:(a==0)=false:=gZ;have d:Hid (lj c a=wrap64 (c.tdiv a)):=by show _=_;simp[lj,b]
   go_enter func337,ntmps337;exact JB
def ahX (c a:Int)(e:D):
 O 338 #[j c,j a] (j (ll c a)) e:=by
 by_cases b:a=0
 . subst b;go_enter func338,ntmps338;go_wp2_with fail;go_ret;exact⟨eM (by simp[ll]),rfl⟩
 . have f:(a==0)=false:=gZ;have d:Hid (ll c a=c.tmod a):=by show _=_;simp[ll,b]
   go_enter func338,ntmps338;exact JB
def CX {x y X Y:Int}(j:-X<=x)(k:x<=X)(l:-Y<=y)(n:y<=Y)(o:0<=X)(a:0<=Y):-(X*Y)<=x*y/\x*y<=X*Y:=by
 have b:0<=(X-x)* (Y+y):=v8;have c:0<=(X+x)* (Y-y):=v8;have d:0<=(X-x)* (Y-y):=v8;have e:0<=(X+x)* (Y+y):=v8;have f:(X-x)* (Y+y)=X*Y+X*y-x*Y-x*y:=by rw[uB,ro,ro];omega
 have g:(X+x)* (Y-y)=X*Y-X*y+x*Y-x*y:=by rw[uC,mM,mM];omega
 have h:(X-x)* (Y-y)=X*Y-X*y-x*Y+x*y:=by rw[uB,mM,mM];omega
 have i:(X+x)* (Y+y)=X*Y+X*y+x*Y+x*y:=by rw[uC,ro,ro];omega
 omega
def PE (a:Int):bits .and .i64 a 65535=a%65536:=ja a 16 (by decide)
def agp (b a:Int)(F:-2147483648<=b)(H:G b)(I:-2147483648<=a)(K:G a)(t:D):
 O 336 #[j b,j a] (j (am (b*a/4294967296))) t:=by
 have s:=PE b;obtain⟨i,o⟩:=y (b%65536);obtain⟨c,n⟩:=y (b/65536);have k:b=c*65536+i:=J;have r:-32768<=c/\c<=65535:=J;obtain⟨p,g⟩:=y (c*a);obtain⟨d,h⟩:=y (i*a);have e:=CX (x:=c) (y:=a) (X:=65536) (Y:=4294967296) m m m m m m;have f:=CX (x:=i) (y:=a) (X:=65536) (Y:=4294967296) m m m m m m;have l:b*a=p*65536+d:=by rw[k,uC,g,h,mL,Int.mul_comm 65536 a,<-mL]
 rw[<-g]at e;rw[<-h]at f;rw[<-o]at s;have q:Hid (am (b*a/4294967296)=am ((p+d/65536)/65536)):=by
  show _=_;rw[l];congr 1;omega
 have v:wrap64 (b/65536*a)=p:=by rw[<-n,<-g];unfold wrap64;omega
 have w:wrap64 (i*a)=d:=by rw[<-h];unfold wrap64;omega
 have x:wrap64 (p+d/65536)=p+d/65536:=by unfold wrap64;omega
 have z:=e.1;have A:=e.2;have B:=f.1;have C:=f.2;clear e f l k n g h o r;go_enter func336,ntmps336;go_wp2_with(first|(go_at_call 135;refine(e0 _ _).mono ?_;rintro E u ⟨rfl,rfl⟩));go_ret;exact⟨eM (by rw[q.out]<;>rfl),rfl⟩
def EN (a b:Nat):(am ((a:Int)+b):Int)=ir a b:=by unfold ir am;omega
def aaJ (a b:Nat):(am ((a:Int)-b):Int)=ny a b:=rfl
def aaj (p:Prop)[Decidable p]:(((decide p).toNat:Nat):Int)=((if p then 1 else 0:Nat):Int):=by by_cases a:p<;>simp[a]
def aaI (a b r:Nat)(d:r=b%32):(am ((a:Int)*2^r):Int)=kC a b:=by
 have c:(a:Int)*2^r=((a*2^r:Nat):Int):=bL;rw[c,aeN,d];rfl
def aap (a b:Nat)(l:G a)(m:G b):(am (aX a*aX b):Int)=kx a b:=by
 have g:∃i,aX a=a-i*4294967296:=by
  unfold aX;split
  . exact⟨1,by omega⟩
  . exact⟨0,by omega⟩
 have h:∃i,aX b=b-i*4294967296:=by
  unfold aX;split
  . exact⟨1,by omega⟩
  . exact⟨0,by omega⟩
 obtain⟨i,j⟩:=g;obtain⟨c,k⟩:=h;have f:aX a*aX b=((a*b:Nat):Int)+(-(a*c)-i*b+i*c*4294967296)*4294967296:=by
  rw[j,k,yO];generalize (a:Int)=d;generalize (b:Int)=e;have:(d-i*4294967296)* (e-c*4294967296)=d*e-d*c*4294967296-i*e*4294967296+i*c*4294967296*4294967296:=by
   rw[uB,mM,mM,<-mL d c,Int.mul_right_comm i 4294967296 e,<-mL (i*4294967296) c,Int.mul_right_comm i 4294967296 c];omega
  rw[this,uC,uB,Int.neg_mul];omega
 rw[f];unfold am kx;rw[Int.add_mul_emod_self_right];omega
def aaq (a b:Nat)(e:G a)(f:G b):(am ((a:Int)*b/4294967296):Int)=ky a b:=by
 have d:a*b<=4294967295*4294967295:=uy m m;have c:(a:Int)*b=((a*b:Nat):Int):=bL;rw[c];unfold am ky;generalize a*b=g at *;omega
def aal (c a:Nat)(f:G c)(e:G a):(am (lj (aX c) (aX a)):Int)=kv c a:=by
 unfold lj kv;have:=tD a e;by_cases b:a=0
 . rw[B (this.2 b),B b];rfl
 . rw[z (fun d=>b (this.1 d)),z b,q6]
def aam (b a:Nat)(d:G b)(e:G a):(am (lj b a):Int)=kw b a:=by
 unfold lj kw;by_cases c:a=0
 . subst c;rfl
 . rw[z (by omega),z c,q6,n0,yk];exact bJ (lq _ _) d
def aaF (b a:Nat)(f:G b)(e:G a):(am (ll (aX b) (aX a)):Int)=kA b a:=by
 unfold ll kA;have:=tD a e;by_cases c:a=0
 . rw[B (this.2 c),B c];unfold am aX;split<;>omega
 . rw[z (fun d=>c (this.1 d)),z c];congr 2;have:=Int.tmod_add_tdiv_mul (aX b) (aX a);omega
def aaG (b a:Nat)(d:G b)(e:G a):ll b a=kB b a:=by
 unfold ll kB;by_cases c:a=0
 . subst c;rfl
 . rw[z (by omega),z c,iQ (by omega)];simp
def ahM (b a:Nat)(c:G b)(d:G a)(g:D):
 O 264 #[j 28,j b,j a] (j (ir b a)) g:=jI
def ahU (b a:Nat)(c:G b)(d:G a)(g:D):
 O 264 #[j 29,j b,j a] (j (ny b a)) g:=jI
def ahP (b a:Nat)(c:G b)(d:G a)(k:D):
 O 264 #[j 30,j b,j a] (j (kC b a)) k:=by
 have h:=wt a;have i:a%32<32:=J;obtain⟨r,g⟩:=y (a%32);rw[<-g]at h i;have HR:=l g;clear g;exact jI
def ahQ (b a:Nat)(c:G b)(d:G a)(g:D):
 O 264 #[j 31,j b,j a] (j (lY b a)) g:=jI
def ahR (b a:Nat)(c:G b)(d:G a)(g:D):
 O 264 #[j 32,j b,j a] (j (lZ b a)) g:=jI
def ahV (b a:Nat)(c:G b)(d:G a)(g:D):
 O 264 #[j 33,j b,j a] (j (kF b a)) g:=by
 have h:=BL b a m m;exact jI
def ahT (b a:Nat)(c:G b)(d:G a)(k:D):
 O 264 #[j 34,j b,j a] (j (kE b a)) k:=by
 have h:=wt a;have i:a%32<32:=J;obtain⟨r,g⟩:=y (a%32);rw[<-g]at h i;have HR:=l g;clear g;exact jI
def ahS (b a:Nat)(c:G b)(d:G a)(k:D):
 O 264 #[j 35,j b,j a] (j (kD b a)) k:=by
 have h:=wt a;have i:a%32<32:=J;obtain⟨r,g⟩:=y (a%32);rw[<-g]at h i;have HR:=l g;clear g;exact jI
def ahO (b a:Nat)(c:G b)(d:G a)(g:D):
 O 264 #[j 36,j b,j a] (j (kz b a)) g:=by
 have h:=g7 b a m m;exact jI
def ahN (b a:Nat)(c:G b)(d:G a)(g:D):
 O 264 #[j 37,j b,j a] (j (ku b a)) g:=by
 have h:=bl b a m m;exact jI
def agM (b a:Nat)(c:G b)(d:G a)(g:D):
 O 266 #[j 42,j b,j a] (j (kx b a)) g:=Ah
def agN (b a:Nat)(c:G b)(d:G a)(g:D):
 O 266 #[j 43,j b,j a] (j (nw b a)) g:=Ah
def agO (b a:Nat)(c:G b)(d:G a)(g:D):
 O 266 #[j 44,j b,j a] (j (nx b a)) g:=Ah
def agP (b a:Nat)(c:G b)(d:G a)(g:D):
 O 266 #[j 45,j b,j a] (j (ky b a)) g:=pN
def agK (b a:Nat)(c:G b)(d:G a)(g:D):
 O 266 #[j 46,j b,j a] (j (kv b a)) g:=pN
def agL (b a:Nat)(c:G b)(d:G a)(g:D):
 O 266 #[j 47,j b,j a] (j (kw b a)) g:=pN
def agQ (b a:Nat)(c:G b)(d:G a)(g:D):
 O 266 #[j 48,j b,j a] (j (kA b a)) g:=pN
def agR (b a:Nat)(c:G b)(d:G a)(g:D):
 O 266 #[j 49,j b,j a] (j (kB b a)) g:=pN
def fg (a:Nat):((a:Int) !=0)=!decide (a=0):=by by_cases b:a=0<;>simp[b]
def e1 (b a:Nat)(c:Bool):Nat:=bif c then b |||a else aI b a
def yw (b a:Nat)(d:Bool)(c:G b)(e:G a):e1 b a d<4294967296:=by
 cases d
 . exact bJ (h0 _ _) c
 . exact ft b a 32 c e
def h3 (a mode:Nat):Nat:=aI (e1 (e1 a 32 (!decide (a&&&2=0))) 256 (decide (mode=1))) 2
def aii (a mode:Nat)(d:G a)(f:D):
 O 188 #[j a,j mode] (j (h3 a mode)) f:=by
 have q:bits .and .i64 (a:Int) 2=((a&&&2:Nat):Int):=bl a 2 m m;have u:=fg (a&&&2);obtain⟨i,k⟩:=y (!decide (a&&&2=0));rw[<-q,<-k]at u;obtain⟨e,b⟩:=y (e1 a 32 i);have p:G e:=A2;have r:Hid (O 258 #[j a,j 32,.bool i] (j (e:Int)) f):=by rw[b];exact l (rb a 32 i d m f)
 obtain⟨g,n⟩:=y (decide (mode=1));have w:((mode:Int)==1)=g:=by rw[n];by_cases t:mode=1<;>simp[t];omega
 obtain⟨c,h⟩:=y (e1 e 256 g);have v:G c:=by rw[h];exact yw _ _ _ p m
 have s:Hid (O 258 #[j e,j 256,.bool g] (j (c:Int)) f):=by rw[h];exact l (rb e 256 g p m f)
 have x:bits .andNot .i64 (c:Int) 2=((aI c 2:Nat):Int):=gr c 2 m m;have o:h3 a mode=aI c 2:=by unfold h3;rw[<-k,<-n,<-b,<-h]
 rw[o];clear o k n b h q;go_enter func188,ntmps188;exact JC
def js (a mode:Nat):Nat:=aI (c9 (e1 a 128 (!decide (a&&&8=0))) (mode*2048) 6144) 8
def ai6 (a e b:Nat)(c:G a)(d:G b):c9 a e b<4294967296:=ft _ _ 32 (bJ (h0 _ _) c) (bJ iR d)
def agC (a mode:Nat)(d:G a)(u:mode<4)(f:D):
 O 190 #[j a,j mode] (j (js a mode)) f:=by
 have q:bits .and .i64 (a:Int) 8=((a&&&8:Nat):Int):=bl a 8 m m;have t:=fg (a&&&8);obtain⟨i,k⟩:=y (!decide (a&&&8=0));rw[<-q,<-k]at t;obtain⟨e,b⟩:=y (e1 a 128 i);have p:G e:=A2;have r:Hid (O 258 #[j a,j 128,.bool i] (j (e:Int)) f):=by rw[b];exact l (rb a 128 i d m f)
 obtain⟨h,o⟩:=y (mode*2048);have w:(mode:Int)*2048=(h:Int):=J;obtain⟨c,g⟩:=y (c9 e h 6144);have v:G c:=by rw[g];exact ai6 _ _ _ p m
 have s:Hid (O 259 #[j e,j h,j 6144] (j (c:Int)) f):=by rw[g];exact l (ra e h 6144 p m m f)
 have x:bits .andNot .i64 (c:Int) 8=((aI c 8:Nat):Int):=gr c 8 m m;have n:js a mode=aI c 8:=by unfold js;rw[<-k,<-o,<-b,<-g]
 rw[n];clear n k b g q o;go_enter func190,ntmps190;exact JC
def ht (a:Nat):Nat:=aI (e1 a 2 (!decide (a&&&32=0))) 131328 |||32
def aih (a:Nat)(d:G a)(g:D):
 O 283 #[j a] (j (ht a)) g:=by
 have i:bits .and .i64 (a:Int) 32=((a&&&32:Nat):Int):=bl a 32 m m;have k:=fg (a&&&32);obtain⟨e,f⟩:=y (!decide (a&&&32=0));rw[<-i,<-f]at k;obtain⟨c,b⟩:=y (e1 a 2 e);have n:G c:=A2;have o:Hid (O 258 #[j a,j 2,.bool e] (j (c:Int)) g):=by rw[b];exact l (rb a 2 e d m g)
 have p:bits .andNot .i64 (c:Int) 131328=((aI c 131328:Nat):Int):=gr c 131328 m m;have q:bits .or .i64 ((aI c 131328:Nat):Int) 32=((aI c 131328 |||32:Nat):Int):=g7 (aI c 131328) 32 (bJ (h0 _ _) m) m;have h:ht a=aI c 131328 |||32:=by unfold ht;rw[<-f,<-b]
 rw[h];clear h f b i;go_enter func283,ntmps283;exact Ai
def gL (a:Nat):Nat:=if a&&&6144=6144 then a else aI a 131072
def h2 (a:Nat):Nat:=aI (e1 (gL a) 8 (!decide (gL a&&&128=0))) 6144 |||128
def agB (a:Nat)(p:G a)(n:D):
 O 282 #[j a] (j (h2 a)) n:=by
 have f:bits .and .i64 (a:Int) 6144=((a&&&6144:Nat):Int):=bl a 6144 m m;have r:bits .andNot .i64 (a:Int) 131072=((aI a 131072:Nat):Int):=gr a 131072 m m;have k:G (gL a):=by
  unfold gL;split
  . exact p
  . exact bJ (h0 _ _) p
 unfold h2;obtain⟨b,d⟩:=y (gL a);rw[<-d]at k|-;have q:bits .and .i64 (b:Int) 128=((b&&&128:Nat):Int):=bl b 128 m m;have s:=fg (b&&&128);obtain⟨h,i⟩:=y (!decide (b&&&128=0));rw[<-q,<-i]at s;obtain⟨c,g⟩:=y (e1 b 8 h);have u:G c:=by rw[g];exact yw _ _ _ k m
 have o:Hid (O 258 #[j b,j 8,.bool h] (j (c:Int)) n):=by rw[g];exact l (rb b 8 h k m n)
 have w:bits .andNot .i64 (c:Int) 6144=((aI c 6144:Nat):Int):=gr c 6144 m m;have x:bits .or .i64 ((aI c 6144:Nat):Int) 128=((aI c 6144 |||128:Nat):Int):=g7 (aI c 6144) 128 (bJ (h0 _ _) m) m;rw[<-i,<-g];clear i g q;unfold gL at d;by_cases e:a&&&6144=6144
 . rw[B e]at d;subst d;rw[e]at f;have t:bits .and .i64 (b:Int) 6144=6144:=f;clear f e;exact JE
 . rw[z e]at d;have v:(bits .and .i64 (a:Int) 6144 !=6144)=true:=by rw[f];simp;omega
   rw[<-d]at r;clear f e d;exact JE
def hv (b a:Nat):Nat:=if a&&&6144=4096 then c9 b a 8257962 else a&&&8264106
def aib (c a:Nat)(h:G c)(i:G a)(f:D):
 O 380 #[j c,j a] (j (hv c a)) f:=by
 have e:bits .and .i64 (a:Int) 6144=((a&&&6144:Nat):Int):=bl a 6144 m m;have k:bits .and .i64 (a:Int) 8264106=((a&&&8264106:Nat):Int):=bl a 8264106 m m;obtain⟨g,b⟩:=y (hv c a);rw[<-b];unfold hv at b;by_cases d:a&&&6144=4096
 . rw[B d]at b;rw[d]at e;have n:bits .and .i64 (a:Int) 6144=4096:=e;clear e d;have o:Hid (O 259 #[j c,j a,j 8257962] (j (g:Int)) f):=by rw[b];exact l (ra c a 8257962 h i m f)
   clear b;go_enter func380,ntmps380;exact Ai
 . rw[z d]at b;have p:(bits .and .i64 (a:Int) 6144==4096)=false:=by rw[e];simp;omega
   rw[<-b]at k;clear e d b;go_enter func380,ntmps380;exact cm
def afb (b:Nat)(a:N)(i:Nat)(c:i<32):(cs b a)[1+i]?=some (j (a.x.getD i 0)):=by
 have d:i=0\/i=1\/i=2\/i=3\/i=4\/i=5\/i=6\/i=7\/i=8\/i=9\/i=10\/i=11\/i=12\/i=13\/i=14\/i=15\/i=16\/i=17\/i=18\/i=19\/i=20\/i=21\/i=22\/i=23\/i=24\/i=25\/i=26\/i=27\/i=28\/i=29\/i=30\/i=31:=J;exact JG
def E.cq {d b c a}(e:E d b c a)(i:Nat)(f:i<32):d.cell? ⟨b,1+i,none⟩=some (j (a.x.getD i 0)):=(e.cell (1+i) (by omega)).trans (afb c a i f)
def Cl (c:List Nat)(i a d:Nat)(g:c.length=32)(f:i<32):(c.set i d).getD a 0=if a=i then d else c.getD a 0:=by
 simp only[rq];by_cases b:a=i
 . subst b;rw[B rfl,List.getElem?_set_self (by omega)];rfl
 . rw[z b,yP (fun e=>b e.symm)]
def afc (c:Nat)(a:N)(i b:Nat)(g:a.x.length=32)(f:i<32):cs c {a with x:=a.x.set i b}=(cs c a).set (1+i) (j (b:Int)):=by
 have d:i=0\/i=1\/i=2\/i=3\/i=4\/i=5\/i=6\/i=7\/i=8\/i=9\/i=10\/i=11\/i=12\/i=13\/i=14\/i=15\/i=16\/i=17\/i=18\/i=19\/i=20\/i=21\/i=22\/i=23\/i=24\/i=25\/i=26\/i=27\/i=28\/i=29\/i=30\/i=31:=J;have e:=fun h=>Cl a.x i h b g f;unfold cs;simp only[e];exact JG
def bU (b f:Nat)(a:N)(i:Nat)(d:i<32)(c)(e:Hid (E c b f a)):
 O 39 #[I b,j i] (j (a.x.getD i 0)) c:=by
 have h:decide ((i:Int)<0)=false:=bL;have k:decide ((32:Int)<=i)=false:=M;have g:=e.out.cq i d;go_enter func39,ntmps39;exact cm
def a5 (a:N)(b c:Nat):N:=if b=0 then a else{a with x:=a.x.set b c}
def fY (c e:Nat)(b:N)(k:b.x.length=32)(i f:Nat)(g:i<32)(h)(a:Hid (E h c e b)):
 an 197 #[I c,j i,j f] (.tuple #[]) [c] c e (a5 b i f) h:=by
 unfold a5;by_cases d:i=0
 . subst d;rw[B rfl];go_enter func197,ntmps197;go_wp2_with fail;refine ab (rr rfl _ _ _) rfl ?_;exact so
 . rw[z d];have o:decide ((i:Int)<1)=false:=M;have p:decide ((32:Int)<=i)=false:=M;have l:=a.out.cq i g;have n:=a.out.Wb;clear d;go_enter func197,ntmps197;go_wp2_with fail;go_end0;exact⟨rfl,a.out.set (1+i) _ (afc e b i f k g) rfl m,(Kept.refl _ _).setCell (.inl F) _⟩
def hq (a:N):N:={a with W9:=false,WU:=0}
def rc (b d c e)(a:Hid (E e b d c)):
 an 77 #[I b] (.tuple #[]) [b] b d (hq c) e:=by
 have f:=a.out.XJ;have g:=a.out.XC;have h:=a.out.Wb;go_enter func77,ntmps77;go_wp2_with fail;go_end0;exact⟨rfl,(a.out.set (X':={c with W9:=false}) 36 _ rfl rfl m).set 37 _ rfl rfl m,((Kept.refl _ _).setCell (.inl F) _).setCell (.inl F) _⟩
def ahY (b e:Nat)(c:N)(d:Nat)(f)(a:Hid (E f b e c)):
 an 348 #[I b,j d] (.tuple #[]) [b] b e ({c with W9:=true,WU:=d}) f:=by
 have g:=a.out.XJ;have h:=a.out.XC;have i:=a.out.Wb;go_enter func348,ntmps348;go_wp2_with fail;go_end0;exact⟨rfl,(a.out.set (X':={c with W9:=true}) 36 _ rfl rfl m).set 37 _ rfl rfl m,((Kept.refl _ _).setCell (.inl F) _).setCell (.inl F) _⟩
def afo (b e a c)(d:Hid (E c b e a)):
 O 102 #[I b] (j a.V3) c:=by
 have f:=d.out.Xk;go_enter func102,ntmps102;exact cm
def afm (b e a c)(d:Hid (E c b e a)):
 O 101 #[I b] (j a.mode) c:=by
 have f:=d.out.Xl;go_enter func101,ntmps101;exact cm
def afw (b e a c)(d:Hid (E c b e a)):
 O 110 #[I b] (j (a.b.o.length:Nat)) c:=by
 have f:=d.out.V8;go_enter func110,ntmps110;exact cm
def ow (g o:Nat)(d:N)(m:d.b.o.length<=65536)(b a:Int)(s:-1099511627776<=b)(t:b<=1099511627776)(q:1<=a)(r:a<=4)(h)(n:Hid (E h g o d)):
 O 261 #[I g,j b,j a] (.bool (aZ b a d.b.o.length)) h:=by
 have k:=n.out.V8;obtain⟨i,f⟩:=y (d.b.o.length);rw[<-f]at k m|-;obtain⟨p,e⟩:=y (aZ b a i);rw[<-e];unfold aZ at e;have c:=l e;clear e f;go_enter func261,ntmps261;exact sn
def N.V7 (a:N)(B:P):N:={a with b:=B}
def E.Xn {j h e X}(b:E j h e X)(a:Nat)(p:a<X.b.o.length)(i:L):E (j.setCell ⟨e,a,none⟩ (.int .u8 (i.toNat:Int))) h e {X with b:={X.b with o:=X.b.o.set a i}}:=by
 have d:=b.ne;have m:¬e=h:=vG;obtain⟨-,o,q,-,r,s,-⟩:=id b;have t:=b.o a p;refine⟨fun c g=>?_,?_,?_,fun c g=>?_,?_,?_,d⟩
 . have n:=b.cell c g;have f:(cs e {X with b:={X.b with o:=X.b.o.set a i}})=cs e X:=by unfold cs;simp only[yD]
   rw[f,<-n];simp[go_sem,d,m]
 . simp[go_sem,o]
 . simp[go_sem,q]
 . have k:c<X.b.o.length:=by simpa using g
   exact Jb
 . simp[go_sem,r]
 . simp[go_sem,s]
def ug (r s:Nat)(d:N)(B:d.b.o.length<=65536)(g:Int)(p b:Nat)(Z:g-2147483648=p)(X:1<=b)(Y:b<=4)(A:p+b<=d.b.o.length)(h)(f:Hid (E h r s d)):
 O 262 #[I r,j g,j b] (j (cb d.b p b)) h:=by
 have F:=f.out.V8;have q:=ow r s d B g b m m m m h f;have C:aZ g b d.b.o.length=true:=vF;rw[C]at q;have u:=l q;clear q C;unfold cb;obtain⟨c,hS⟩:=y ((d.b.o.drop p).take b);have W:c.length=b:=Jd;have z:∀a,(M:a<b)->h.cell? ⟨s,p+a,none⟩=some (.int .u8 ((c[a]'m).toNat:Int)):=by
  intro a M;have L:=f.out.o (p+a) m;have K:c[a]'m=d.b.o[p+a]'m:=by simp[hS]
  rw[L,K]
 rw[<-hS];have t:=l z;clear hS z;obtain⟨v,o⟩:=y (fe c);rw[<-o];have i:=l o;have P:p+b<=d.b.o.length:=A;obtain⟨V,x⟩:=y (d.b.o.length);rw[<-x]at F B P;clear o f A x;go_enter func262,ntmps262;exact I6
def bY (a:N)(r:List L):N:={a with b:={a.b with o:=r}}
def uh (o e:Nat)(d:N)(Z:d.b.o.length<=65536)(t:Int)(p b:Nat)(am:t-2147483648=p)(ak:1<=b)(al:b<=4)(ai:p+b<=d.b.o.length)(q:Nat)(aa:G q)(B)(T:Hid (E B o e d)):
 an 346 #[I o,j t,j b,j q] (.tuple #[]) [e] o e (bY d (bt d.b.o p b q)) B:=by
 have A:=ow o e d Z t b m m m m B T;have S:aZ t b d.b.o.length=true:=vF;rw[S]at A;have C:=l A;clear A S;obtain⟨g,v⟩:=y (bt d.b.o p b q);rw[<-v];have D:=l v;clear v;go_enter func346,ntmps346;go_wp2_with fail;refine C.out.mono ?_;rintro ag U ⟨rfl,rfl⟩;clear C;go_wp2_with fail;go_loopw [3,9] (fun X u wr=>∃(i a:Nat) (c:List L),i<=b/\a<4294967296/\X=j a/\u=j i/\c.length=d.b.o.length/\Hid (E wr o e (bY d c))/\Hid (Kept [e] U wr)/\Hid (g=bt c (p+i) (b-i) a)) (fun _ u _=>b- (intOf u).toNat);case atStart=>exact⟨0,q,d.b.o,by omega,aa,rfl,rfl,rfl,T,l (Kept.refl _ _),D⟩
 case round=>
  obtain⟨i,a,c,ah,hu,rfl,rfl,H,h,f,n⟩:=hrel;clear D;by_cases aj:i<b
  . have W:decide ((i:Int)< (b:Int))=true:=M;have P:p+i<c.length:=J;have Y:=h.out.V8;simp only[bY]at Y;have ao:=h.out.XA (p+i);have ae:=h.out.o (p+i) P;simp only[bY]at ae;have k:E (wr.setCell ⟨e,p+i,none⟩ (.int .u8 ((UInt8.ofNat a).toNat:Int))) o e (bY d (c.set (p+i) (UInt8.ofNat a))):=h.out.Xn (p+i) P (UInt8.ofNat a);have w:(UInt8.ofNat a).toNat=a%256:=bL;rw[w]at k;have ac:IntKind.u8.wrap (a:Int)=((a%256:Nat):Int):=by rw[IntKind.wrap_u8];simp
    have ad:(a:Int)%256=((a%256:Nat):Int):=bL;have d1:(a:Int)/256=((a/256:Nat):Int):=bL;have r:Hid (g=bt (c.set (p+i) (UInt8.ofNat a)) (p+(i+1)) (b- (i+1)) (a/256)):=by
     show g=_;rw[n.out,show b-i=(b- (i+1))+1 by omega];rfl
    have s:a/256<4294967296:=J;have ab:a%256<256:=J;obtain⟨af,x⟩:=y (a%256);obtain⟨R,z⟩:=y (a/256);rw[<-x]at k ac ad ab;rw[<-z]at d1 r s;have K:=l k;have O:Hid (Kept [e] U (wr.setCell ⟨e,p+i,none⟩ (.int .u8 (af:Int)))):=Ab;have Q:(c.set (p+i) (UInt8.ofNat a)).length=d.b.o.length:=Ag;exact Jc
  . have W:decide ((i:Int)< (b:Int))=false:=M;have V:Hid (g=c):=JD;clear n;go_wp2_with fail;go_end0;exact Jj
end Go.Proofs.YtmlgonbhoknoiabGreatDoor
