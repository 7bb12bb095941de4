import Derived.Test.YtmlgonbhoknoiaaGreatDoorJAJ
import Derived.Test.YtmlgonbhoknoiaaGreatDoorJAK
import Derived.Test.YtmlgonbhoknoiaaGreatDoorJAN
set_option maxHeartbeats 8000000
set_option maxRecDepth 100000
set_option linter.all false
namespace Go.Proofs.YtmlgonbhoknoiaaGreatDoor
open Go.RowKit Go.Proofs.Tryz
structure nk where
 a:Nat
 e:Nat
 ip:Nat
 f:Nat
def gz (a:Nat):nk:=⟨0,0,0,a⟩
def ft (a:nk):Value:=.agg #[j a.a,j a.e,j a.ip]
def mx (b:P)(p a:Nat):nk:=
 if p&&&208=0 then
  (if(cs b (p/1024*4096+4* (a/4096%1024))).2=0 then
    (if(cs b (p/1024*4096+4* (a/4096%1024))).1&&&10=0 then gz 1 else⟨p/1024*4096+4* (a/4096%1024),(cs b (p/1024*4096+4* (a/4096%1024))).1,4095,0⟩)
   else gz (cs b (p/1024*4096+4* (a/4096%1024))).2)
 else gz 1
def cg (b:P)(satp a:Nat):nk:=
 if(cs b (satp%4194304*4096+4* (a/4194304))).2=0 then
  (if(cs b (satp%4194304*4096+4* (a/4194304))).1&&&10=0 then mx b (cs b (satp%4194304*4096+4* (a/4194304))).1 a
   else if(cs b (satp%4194304*4096+4* (a/4194304))).1/1024*4096%4194304=0 then⟨satp%4194304*4096+4* (a/4194304),(cs b (satp%4194304*4096+4* (a/4194304))).1,4194303,0⟩else gz 1)
 else gz (cs b (satp%4194304*4096+4* (a/4194304))).2
def qx (a:P)(b:Nat):(cs a b).1<4294967296:=by
 unfold cs;have:=nF a b;exact zN
def ai7 (h k:Nat)(b:N)(A:b.b.o.length<=65536)(p n:Nat)(M:G p)(S:G n)(F)(a:Hid (E F h k b)):
 aE 378 #[I h,j p,j n] (.tuple #[ft (mx b.b p n),j (mx b.b p n).f]) F:=by
 have P:bits .and .i64 (p:Int) 208=((p&&&208:Nat):Int):=bm p 208 m m;have D:=fh (p&&&208);rw[<-P]at D;unfold mx;obtain⟨c,w⟩:=y (p/1024*4096+4* (n/4096%1024));have L:c<68719476736:=J;have t:∀W,Hid (E W h k b)->O 376 #[I h,j c] (.tuple #[j (cs b.b c).1,j (cs b.b c).2]) W:=Nd;have v:=fun W=>l (x5 p M W);rw[<-w];obtain⟨g,x⟩:=y (p/1024*4096);rw[<-x]at w;simp only[<-x]at v;have R:g<17179869184:=J;have Q:(g:Int)+4* ((n:Int)/4096%1024)=(c:Int):=J;have u:=qx b.b c;obtain⟨q,e,C⟩:∃q e,cs b.b c=(q,e):=⟨_,_,rfl⟩;rw[C]at u|-;simp only[C]at t;dsimp only at u t|-;have s:=fun W=>l (Fp q u W);have H:=l t;have K:Hid (E (F.alloc (.cells #[j 0,j 0,j 0] 252)) h k b):=b7;have f1:((e:Int) !=0)=!decide (e=0):=fh e;clear t P x w C L A M u;by_cases d:p&&&208=0
 . rw[B d];rw[bd d]at D;by_cases f:e=0
   . rw[B f];rw[bd f]at f1;by_cases i:q&&&10=0
     . rw[B i];simp only[bd i]at s;unfold ft gz;clear d f i;exact Jw
     . rw[z i];simp only[aV i]at s;unfold ft;clear d f i;go_enter func378,ntmps378;go_wp2_with(first|(go_at_call 336;refine(v _).out.mono ?_;rintro o r ⟨rfl,rfl⟩)|(go_at_call 376;refine(H.out _ K).mono ?_;rintro o r ⟨rfl,rfl⟩)|(go_at_call 377;refine(s _).out.mono ?_;rintro o r ⟨rfl,rfl⟩));exact ac (v:=.tuple #[.agg #[j c,j q,j 4095],j 0]) yE rfl ⟨rfl,gp⟩
   . rw[z f];rw[aV f]at f1;unfold ft gz;clear d f;go_enter func378,ntmps378;go_wp2_with(first|(go_at_call 336;refine(v _).out.mono ?_;rintro o r ⟨rfl,rfl⟩)|(go_at_call 376;refine(H.out _ K).mono ?_;rintro o r ⟨rfl,rfl⟩)|(go_at_call 377;refine(s _).out.mono ?_;rintro o r ⟨rfl,rfl⟩));exact ac (v:=.tuple #[.agg #[j 0,j 0,j 0],j e]) yE rfl ⟨rfl,gp⟩
 . rw[z d];rw[aV d]at D;unfold ft gz;clear d;exact Jw
def x8 (h k:Nat)(b:N)(A:b.b.o.length<=65536)(ab:G b.c.Wf)(o:Nat)(ad:G o)(s)(a:Hid (E s h k b)):
 aE 333 #[I h,j o] (.tuple #[ft (cg b.b b.c.Wf o),j (cg b.b b.c.Wf o).f]) s:=by
 have X:=a.out.Yv;have am:=a.out.lt;have n:Hid (E (s.alloc (.cells #[j 0,j 0,j 0] 252)) h k b):=b7;obtain⟨x,V⟩:=y (b.c.Wf);rw[<-V]at X ab|-;have aj:bits .and .i64 (x:Int) 4194303=((x%4194304:Nat):Int):=by
  have:=i7 (x:Int) 22 R;have Y:((2:Int)^22)=4194304:=cM;have Z:((2^22-1:Nat):Int)=4194303:=cM;rw[Y,Z]at this;rw[this];simp
 unfold cg;obtain⟨c,M⟩:=y (x%4194304*4096+4* (o/4194304));have L:c<68719476736:=J;have D:∀W,Hid (E W h k b)->O 376 #[I h,j c] (.tuple #[j (cs b.b c).1,j (cs b.b c).2]) W:=Nd;rw[<-M];obtain⟨g,S⟩:=y (x%4194304);rw[<-S]at M aj;have al:g<4194304:=J;have ak:(g:Int)*4096+4* ((o:Int)/4194304)=(c:Int):=J;have v:=qx b.b c;obtain⟨i,q,P⟩:∃i q,cs b.b c=(i,q):=⟨_,_,rfl⟩;rw[P]at v|-;simp only[P]at D;dsimp only at v D|-;have t:=fun W=>l (Fp i v W);have w:=fun W=>l (x5 i v W);have p:=l (fun W aa=>ai7 h k b A i o v ad W aa);have C:=l D;have f1:((q:Int) !=0)=!decide (q=0):=fh q;obtain⟨K,U⟩:=y (i/1024*4096);have an:K<17179869184:=J;simp only[<-U]at w|-;have Q:((K:Int)%4194304 !=0)=!decide (K%4194304=0):=by
  rw[<-fh];simp
 clear D S M P L A v U V a;by_cases m:q=0
 . rw[B m];rw[bd m]at f1;by_cases r:i&&&10=0
   . rw[B r];simp only[bd r]at t;obtain⟨ae,T⟩:=y (mx b.b i o);simp only[<-T]at p|-;clear m r T Q;obtain⟨af,ag,ai,ah⟩:=ae;unfold ft at p|-;dsimp only at p|-;go_enter func333,ntmps333;go_wp2_with(first|(go_at_call 336;refine(w _).out.mono ?_;rintro d e ⟨rfl,rfl⟩)|(go_at_call 376;refine(C.out _ n).mono ?_;rintro d e ⟨rfl,rfl⟩)|(go_at_call 377;refine(t _).out.mono ?_;rintro d e ⟨rfl,rfl⟩)|(go_at_call 378;refine(p.out _ n).mono ?_;rintro d e ⟨rfl,f⟩;obtain⟨H,f1⟩:=f.box s.heap.size aL F));exact ac (v:=.tuple #[.agg #[j af,j ag,j ai],j ah]) (by simp[results,results333,go_sem,H]) rfl ⟨rfl,yF⟩
   . rw[z r];simp only[aV r]at t;by_cases u:K%4194304=0
     . rw[B u];rw[bd u]at Q;unfold ft;clear m r u;go_enter func333,ntmps333;go_wp2_with(first|(go_at_call 336;refine(w _).out.mono ?_;rintro d e ⟨rfl,rfl⟩)|(go_at_call 376;refine(C.out _ n).mono ?_;rintro d e ⟨rfl,rfl⟩)|(go_at_call 377;refine(t _).out.mono ?_;rintro d e ⟨rfl,rfl⟩)|(go_at_call 378;refine(p.out _ n).mono ?_;rintro d e ⟨rfl,f⟩;obtain⟨H,f1⟩:=f.box s.heap.size aL F));exact ac (v:=.tuple #[.agg #[j c,j i,j 4194303],j 0]) yG rfl ⟨rfl,gp⟩
     . rw[z u];rw[aV u]at Q;unfold ft gz;clear m r u;go_enter func333,ntmps333;go_wp2_with(first|(go_at_call 336;refine(w _).out.mono ?_;rintro d e ⟨rfl,rfl⟩)|(go_at_call 376;refine(C.out _ n).mono ?_;rintro d e ⟨rfl,rfl⟩)|(go_at_call 377;refine(t _).out.mono ?_;rintro d e ⟨rfl,rfl⟩)|(go_at_call 378;refine(p.out _ n).mono ?_;rintro d e ⟨rfl,f⟩;obtain⟨H,f1⟩:=f.box s.heap.size aL F));exact ac (v:=.tuple #[.agg #[j 0,j 0,j 0],j 1]) yG rfl ⟨rfl,gp⟩
 . rw[z m];rw[aV m]at f1;unfold ft gz;clear m;go_enter func333,ntmps333;go_wp2_with(first|(go_at_call 336;refine(w _).out.mono ?_;rintro d e ⟨rfl,rfl⟩)|(go_at_call 376;refine(C.out _ n).mono ?_;rintro d e ⟨rfl,rfl⟩)|(go_at_call 377;refine(t _).out.mono ?_;rintro d e ⟨rfl,rfl⟩)|(go_at_call 378;refine(p.out _ n).mono ?_;rintro d e ⟨rfl,f⟩;obtain⟨H,f1⟩:=f.box s.heap.size aL F));exact ac (v:=.tuple #[.agg #[j 0,j 0,j 0],j q]) yG rfl ⟨rfl,gp⟩
def sX (a:Nat):(a&&&10=0)↔ (ab a 1=false/\ab a 3=false):=by
 have b:=Ed a;by_cases c:a&&&10=0
 . rw[bd c]at b;simp[c];cases d:ab a 1<;>cases e:ab a 3<;>simp[d,e]at b|-
 . rw[aV c]at b;simp[c];cases d:ab a 1<;>cases e:ab a 3<;>simp[d,e]at b|-
def CS (a:Nat):(a&&&208=0)↔ (ab a 4=false/\ab a 6=false/\ab a 7=false):=by
 have b:=aar a;by_cases c:a&&&208=0
 . rw[bd c]at b;simp[c];cases d:ab a 4<;>cases e:ab a 6<;>cases f:ab a 7<;>simp[d,e,f]at b|-
 . rw[aV c]at b;simp[c];cases d:ab a 4<;>cases e:ab a 6<;>cases f:ab a 7<;>simp[d,e,f]at b|-
def hq (b:P)(d:Q)(a:nk)(e c mode:Nat):(Nat×Nat)×P:=
 if a.f=0 then(if g5 d a.e c mode=true then((a.e/1024*4096+e% (a.ip+1),0),{b with o:=bu b.o (a.a-2147483648) 4 (hM a.e c)})else((0,1),b))else((0,a.f),b)
def S9 (a:P)(p b c:Nat)(d:p+4<=a.o.length)(f:b=cc a p 4):(if ko (ab b 6) (ab b 7) c=0 then a else{a with o:=bu a.o p 4 (b+ko (ab b 6) (ab b 7) c)})={a with o:=bu a.o p 4 (hM b c)}:=by
 rw[Tl];split
 . rename_i e;rw[e,dl];have:=DZ 4 a.o p d;rw[f];unfold cc;rw[this]
 . rfl
def dX :4194303+1=gG 1:=by unfold gG;rw[B rfl]
def VD :4095+1=gG 0:=by unfold gG;rw[z (by simp)]
def Eo (a:P)(d:Q)(b k c mode e j:Nat)(m:j+1=gG e)(l:b-2147483648+4<=a.o.length)(g:¬(e=1/\¬bB a b/1024%1024=0)):fO a d (bB a b) b e k c mode=hq a d ⟨b,bB a b,j,0⟩ k c mode:=by
 have h:bB a b=cc a (b-2147483648) 4:=rfl;obtain⟨f,i⟩:=y (bB a b);rw[<-i]at h g|-;clear i;unfold fO hq;dsimp only;generalize b-2147483648=p at *;rw[B (rfl:(0:Nat)=0),S9 a p f c l h,m];cases g5 d f c mode
 . simp
 . rw[z (by simp),z g];simp
def od (b:P)(c:Q)(a f e mode:Nat)(d:a≠0):hq b c (gz a) f e mode=((0,a),b):=by
 unfold hq gz;dsimp only;rw[z d]
def SF (a:P)(b:Q)(f e d c mode:Nat)(g:¬f/1024%1024=0):fO a b f e 1 d c mode=hq a b (gz 1) d c mode:=by
 rw[od a b 1 d c mode (by decide)];unfold fO;generalize e-2147483648=p at *;split
 . rfl
 . rw[B ⟨rfl,g⟩]
theorem aaS (a:P)(f:Q)(satp c g mode:Nat)(D:G c):fC a f (satp%4194304*4096) c g mode=hq a f (cg a satp c) c g mode:=by
 unfold fC cg;have m:dg (satp%4194304*4096) c 1=satp%4194304*4096+4* (c/4194304):=by
  unfold dg gG;rw[B (rfl:(1:Nat)=1)];omega
 rw[m];obtain⟨b,r⟩:=y (satp%4194304*4096+4* (c/4194304));rw[<-r];clear r m;cases k:a1 (b:Nat) 4 a.o.length with
 |false=>
  have d:cs a b=(0,2):=by unfold cs;rw[k];rfl
  rw[d];exact(od a f 2 c g mode R).symm
 |true=>
  rw[z (by simp)];obtain⟨u,n⟩:=jR k;by_cases l:ab (bB a b) 0=false\/(ab (bB a b) 2=true/\ab (bB a b) 1=false)
  . have d:cs a b=(0,1):=No;exact Jx
  . have d:cs a b=(bB a b,0):=Ns;rw[d,z l];dsimp only;rw[B (rfl:(0:Nat)=0)];by_cases j:bB a b&&&10=0
    . rw[B j,B ((sX _).1 j)];obtain⟨h,t⟩:=y (bB a b);rw[<-t];clear t l d k u n;unfold mx;by_cases p:h&&&208=0
      . have q:=(CS h).1 p;rw[B p,z (by rw[q.1,q.2.1,q.2.2];simp)];unfold fY;have m:dg (h/1024*4096) c 0=h/1024*4096+4* (c/4096%1024):=by
         unfold dg gG;rw[z (by simp)];omega
        rw[m];obtain⟨e,s⟩:=y (h/1024*4096+4* (c/4096%1024));rw[<-s];clear s m;cases k:a1 (e:Nat) 4 a.o.length with
        |false=>
         have d:cs a e=(0,2):=by unfold cs;rw[k];rfl
         rw[d];exact(od a f 2 c g mode R).symm
        |true=>
         rw[z (by simp)];obtain⟨u,n⟩:=jR k;by_cases l:ab (bB a e) 0=false\/(ab (bB a e) 2=true/\ab (bB a e) 1=false)
         . have d:cs a e=(0,1):=No;exact Jx
         . have d:cs a e=(bB a e,0):=Ns;rw[d,z l];dsimp only;rw[B (rfl:(0:Nat)=0)];by_cases j:bB a e&&&10=0
           . rw[B j,B ((sX _).1 j)];exact(od a f 1 c g mode R).symm
           . rw[z j,z (fun i=>j ((sX _).2 i))];exact Eo a f e c g mode 0 4095 VD n F
      . rw[z p,B]
        . exact(od a f 1 c g mode R).symm
        . have:=fun i=>p ((CS h).2 i);cases w:ab h 4<;>cases x:ab h 6<;>cases A:ab h 7<;>simp[w,x,A]at this|-
    . have v:bB a b/1024*4096%4194304=0↔bB a b/1024%1024=0:=J;have C:¬(ab (bB a b) 1=false/\ab (bB a b) 3=false):=fun i=>j ((sX (bB a b)).2 i);simp only[z j,z C];by_cases o:bB a b/1024%1024=0
      . simp only[B (v.2 o)];exact Eo a f b c g mode 1 4194303 dX n (by intro i;exact i.2 o)
      . simp only[z (fun i=>o (v.1 i))];exact SF a f _ b c g mode o
theorem EV (a:P)(satp b:Nat)(o:G b)(d:(cg a satp b).f=0):2147483648<=(cg a satp b).a/\(cg a satp b).a-2147483648+4<=a.o.length/\(cg a satp b).a<68719476736/\(cg a satp b).e<4294967296/\((cg a satp b).ip=4095\/(cg a satp b).ip=4194303):=by
 have i:∀c,(cs a c).2=0->2147483648<=c/\c-2147483648+4<=a.o.length:=by
  intro c e;unfold cs at e;cases h:a1 (c:Nat) 4 a.o.length with
  |false=>rw[h]at e;simp at e
  |true=>exact jR h
 revert d;unfold cg mx;repeat' split
 all_goals (intro d;dsimp only[gz]at d|-)
 all_goals first
  |omega
  | (rename_i f j k l n
     have:=i _ l;have g:=qx a (satp%4194304*4096+4* (b/4194304));have m:=qx a ((cs a (satp%4194304*4096+4* (b/4194304))).1/1024*4096+4* (b/4096%1024));exact⟨this.1,this.2,by omega,m,.inl rfl⟩)
  | (rename_i f j k
     have:=i _ f;have g:=qx a (satp%4194304*4096+4* (b/4194304));exact⟨this.1,this.2,by omega,g,.inr rfl⟩)
  | (exfalso;simp_all)
def BO {g:List L}{d b c:Nat}{a:L}{h i j f:Int}(m:(a.toNat:Int)=49)
 (l:Hid (d+b*C.draw (a::g) h i j f=c)):Hid (d+b+(b*2)*C.draw g h i j f=c):=by
 have k:a=49:=(cP (n:=49) R).1 m;have e:=l.out;simp only[C.draw,B k]at e;show _=_;rw[<-e,jr,hA];omega
def wm {k:List L}{i a h b:Nat}{d:L}{g l m j:Int}(o:(d.toNat:Int)=68\/(d.toNat:Int)=66)(f:g%2=b)
 (n:Hid (i+a*C.draw (d::k) g l m j=h)):Hid (i+b*a+(a*2)*C.draw k (g/2) l m j=h):=by
 have e:d=68\/d=66:=o.imp (cP (n:=68) R).1 (cP (n:=66) R).1;have p:¬d=49:=by rcases e with e|e<;>subst e<;>decide
 have c:=n.out;simp only[C.draw,z p,B e]at c;exact vt
def wn {j:List L}{h a g b:Nat}{d:L}{k e l i:Int}(o:(d.toNat:Int)=83)(f:e%2=b)
 (n:Hid (h+a*C.draw (d::j) k e l i=g)):Hid (h+b*a+(a*2)*C.draw j k (e/2) l i=g):=by
 have m:d=83:=(cP (n:=83) R).1 o;subst m;have c:=n.out;simp only[C.draw,z (show ¬((83:L)=49)by decide),z (show ¬((83:L)=68\/(83:L)=66)by decide),if_true]at c;exact vt
def wo {j:List L}{h a g b:Nat}{d:L}{k l e i:Int}(o:(d.toNat:Int)=84)(f:e%2=b)
 (n:Hid (h+a*C.draw (d::j) k l e i=g)):Hid (h+b*a+(a*2)*C.draw j k l (e/2) i=g):=by
 have m:d=84:=(cP (n:=84) R).1 o;subst m;have c:=n.out;simp only[C.draw,z (show ¬((84:L)=49)by decide),z (show ¬((84:L)=68\/(84:L)=66)by decide),z (show ¬((84:L)=83)by decide),if_true]at c;exact vt
def SH {a:L}(c:C.isLet a=true):¬a=49/\¬(a=68\/a=66)/\¬a=83/\¬a=84:=by
 refine⟨?_,?_,?_,?_⟩
 . exact zV
 . rintro(b|b)<;>subst b<;>revert c<;>decide
 . exact zV
 . exact zV
def wl {j:List L}{h a g b:Nat}{d:L}{k l m e:Int}(i:C.isLet d=true)(f:e/2^(d.toNat-97)%2=b)
 (n:Hid (h+a*C.draw (d::j) k l m e=g)):Hid (h+b*a+(a*2)*C.draw j k l m e=g):=by
 obtain⟨o,p,q,r⟩:=SH i;have c:=n.out;simp only[C.draw,z o,z p,z q,z r,B i]at c;exact vt
def BN {f:List L}{d k c:Nat}{a:L}{h i j e:Int}(l:¬(a.toNat:Int)=49)(n:¬(a.toNat:Int)=68)(o:¬(a.toNat:Int)=66)(p:¬(a.toNat:Int)=83)(q:¬(a.toNat:Int)=84)(r:C.isLet a=false)
 (m:Hid (d+k*C.draw (a::f) h i j e=c)):Hid (d+(k*2)*C.draw f h i j e=c):=by
 have s:¬a=49:=LV;have t:¬(a=68\/a=66):=by
  rintro(b|b)
  . exact n ((cP (n:=68) R).2 b)
  . exact o ((cP (n:=66) R).2 b)
 have u:¬a=83:=fun b=>p ((cP (n:=83) R).2 b);have v:¬a=84:=fun b=>q ((cP (n:=84) R).2 b);have g:=m.out;simp only[C.draw,z s,z t,z u,z v,r,ei,cS]at g;show _=_;rw[<-g,hA]
theorem QX (a:K)(aa:a.size<=32)(ad u v w k ac:Int)(I:D):
 Calls prog 144 #[.string a,.agg #[j ad,j u,j v,j w,j k,j ac]] I fun n M=>
  n=.returned (j (C.draw (C.ah a.data.toList a.size) u v w k))/\Below I.heap.size I M:=by
 obtain⟨m,B⟩:=y (C.draw (C.ah a.data.toList a.size) u v w k);have al:G m:=by
  have Z:=C.kJ (C.ah a.data.toList a.size) u v w k;rw[C.jk _ _ (by simp),<-B]at Z;have X:2^a.size<=2^32:=uR;have F:(2:Nat)^32=4294967296:=cM;omega
 rw[<-B];have V:Hid (m=C.draw (C.ah a.data.toList a.size) u v w k):=B;clear B;go_enter func144,ntmps144;go_wp2;go_loop [5,6,7,8,9,10] (fun W ag F ae af H=>∃(z c b:Nat) (f y1 y2:Int),z<=a.size/\H=j ((z:Int)-1)/\W=j c/\ag=j b/\F=j f/\ae=j y1/\af=j y2/\b<=4294967296/\
  Hid (b*2^z=2^a.size)/\Hid (c+b*C.draw (C.ah a.data.toList z) f y1 y2 k=m)) (fun _ _ _ _ _ H=>(intOf H+1).toNat)
 case atStart=>exact⟨a.size,0,1,u,v,w,aB _,rfl,rfl,rfl,rfl,rfl,rfl,by omega,(by omega:1*2^a.size=2^a.size),(by rw[<-V.out];omega:0+1*C.draw (C.ah a.data.toList a.size) u v w k=m)⟩
 case round=>
  obtain⟨z,c,b,f,y1,y2,ap,rfl,rfl,rfl,rfl,rfl,rfl,ak,N,e⟩:=hrel;have aj:G c:=by have:=e.out;omega
  cases z with
  |zero=>
   have O:=e.out;simp only[C.qq,C.draw,q2,dl]at O;subst O;go_wp2;go_ret;exact⟨rfl,(aq _ _).alloc (aB _) _⟩
  |succ i=>
   have n:((i+1:Nat):Int)-1=(i:Int):=J;rw[n];have ab:i<a.size:=J;rw[iE a i ab]at e;have L:b*2*2^i=2^a.size:=by rw[hA,<-uj];exact N.out
   have r:b*2<=4294967296:=by
    have X:2^a.size<=2^32:=uR;have F:(2:Nat)^32=4294967296:=cM;have n:1<=2^i:=pG;have ao:b*2*1<=b*2*2^i:=AA;omega
   have q:Hid (b*2*2^i=2^a.size):=L;clear L N;by_cases c1:(a[i].toNat:Int)=49
   . have h:=BO c1 e;have x:c+b<4294967296:=by have:=h.out;omega
     have ah:((a[i].toNat:Int)==49)=true:=uS;clear c1 e;go_wp2;go_round;case rel=>exact⟨i,c+b,b*2,f,y1,y2,by omega,by go_num,by go_num,by go_num,rfl,rfl,rfl,r,q,h⟩
     case measure=>exact dF
   . have ai:((a[i].toNat:Int)==49)=false:=uT;by_cases o:(a[i].toNat:Int)=68
     . have S:((a[i].toNat:Int)==68)=true:=by rw[bb];exact o
       have g:(a[i].toNat:Int)=68\/(a[i].toNat:Int)=66:=hz o;clear o c1;exact JJ
     have S:((a[i].toNat:Int)==68)=false:=by rw[b5];exact o
     by_cases p:(a[i].toNat:Int)=66
     . have Q:((a[i].toNat:Int)==66)=true:=by rw[bb];exact p
       have g:(a[i].toNat:Int)=68\/(a[i].toNat:Int)=66:=ci p;clear o c1 p;exact JJ
     have Q:((a[i].toNat:Int)==66)=false:=by rw[b5];exact p
     by_cases s:(a[i].toNat:Int)=83
     . have T:((a[i].toNat:Int)==83)=true:=by rw[bb];exact s
       have g:=s;clear o c1 p s;rcases uk y1 with d|d
       . have h:=wn (b:=0) g d e;have A:bits BinOp.and IntKind.i64 (y1) 1=0:=lz;have l:Hid (c+(b*2)*C.draw (C.ah a.data.toList i) f (y1/2) y2 k=m):=lA;have x:G c:=lB;clear d e h g;go_wp2;go_round;case rel=>exact⟨i,c,b*2,f,y1/2,y2,by omega,by go_num,by go_num,by go_num,rfl,rfl,rfl,r,q,l⟩
         case measure=>exact dF
       . have h:=wn (b:=1) g d e;have A:bits BinOp.and IntKind.i64 (y1) 1=1:=lz;have l:Hid (c+b+(b*2)*C.draw (C.ah a.data.toList i) f (y1/2) y2 k=m):=lA;have x:c+b<4294967296:=lB;clear d e h g;go_wp2;go_round;case rel=>exact⟨i,c+b,b*2,f,y1/2,y2,by omega,by go_num,by go_num,by go_num,rfl,rfl,rfl,r,q,l⟩
         case measure=>exact dF
     have T:((a[i].toNat:Int)==83)=false:=by rw[b5];exact s
     by_cases t:(a[i].toNat:Int)=84
     . have U:((a[i].toNat:Int)==84)=true:=by rw[bb];exact t
       have g:=t;clear o c1 p s t;rcases uk y2 with d|d
       . have h:=wo (b:=0) g d e;have A:bits BinOp.and IntKind.i64 (y2) 1=0:=lz;have l:Hid (c+(b*2)*C.draw (C.ah a.data.toList i) f y1 (y2/2) k=m):=lA;have x:G c:=lB;clear d e h g;go_wp2;go_round;case rel=>exact⟨i,c,b*2,f,y1,y2/2,by omega,by go_num,by go_num,by go_num,rfl,rfl,rfl,r,q,l⟩
         case measure=>exact dF
       . have h:=wo (b:=1) g d e;have A:bits BinOp.and IntKind.i64 (y2) 1=1:=lz;have l:Hid (c+b+(b*2)*C.draw (C.ah a.data.toList i) f y1 (y2/2) k=m):=lA;have x:c+b<4294967296:=lB;clear d e h g;go_wp2;go_round;case rel=>exact⟨i,c+b,b*2,f,y1,y2/2,by omega,by go_num,by go_num,by go_num,rfl,rfl,rfl,r,q,l⟩
         case measure=>exact dF
     have U:((a[i].toNat:Int)==84)=false:=by rw[b5];exact t
     by_cases E:C.isLet a[i]=true
     . have Y:97<=a[i].toNat/\a[i].toNat<=122:=by simpa[C.isLet]using E
       obtain⟨am,an⟩:=Y;have g:=E;clear o c1 p s t;rcases uk (k/2^(a[i].toNat-97))with d|d
       . have h:=wl (b:=0) g d e;have A:bits BinOp.and IntKind.i64 ((k/2^(a[i].toNat-97))) 1=0:=lz;have l:Hid (c+(b*2)*C.draw (C.ah a.data.toList i) f y1 y2 k=m):=lA;have x:G c:=lB;clear d e h g;exact JI
       . have h:=wl (b:=1) g d e;have A:bits BinOp.and IntKind.i64 ((k/2^(a[i].toNat-97))) 1=1:=lz;have l:Hid (c+b+(b*2)*C.draw (C.ah a.data.toList i) f y1 y2 k=m):=lA;have x:c+b<4294967296:=lB;clear d e h g;go_wp2_with(go_at_call 216;refine(p0 _ _).mono ?_;rintro n M ⟨rfl,rfl⟩);go_round;case rel=>exact⟨i,c+b,b*2,f,y1,y2,by omega,by go_num,by go_num,by go_num,rfl,rfl,rfl,r,q,l⟩
         case measure=>exact dF
     have P:C.isLet a[i]=false:=by simpa using E
     have l:=BN c1 o p s t P e;clear e c1 o p s t E;exact JI
def xi (a:K)(A:a.size<=32)(b:L)(W:Nat):aM a b W<=4294967304:=by
 have e:(C.ah a.data.toList a.size).length<=32:=Ml;have c:=C.mG (· ==b) (C.ah a.data.toList a.size) W;have d:=C.sq (· ==b) (C.ah a.data.toList a.size);have c2:2^C.ao (· ==b) (C.ah a.data.toList a.size)<=2^32:=ke;unfold aM;simp only;split<;>omega
def El (r:Int):0<=dB r/\dB r<=2/\0<=dC r/\dC r<=2:=by
 unfold dB dC;cases hasB r 2<;>cases hasB r 4<;>cases hasB r 8<;>simp
def B5 (g:Int)(b:K)(f:b.size<=32)(r:Int)(W:Nat)(h:G W)(c:D):
 Calls prog 210 #[.agg #[j g,.string b,j r],j W] c fun e t=>
  e=.returned (.agg #[j g,j ((aM b 68 W:Int)+aM b 66 W+dB r),j ((aM b 83 W:Int)+aM b 66 W+dC r),j (aM b 84 W),j (da b (hasB r 1) W),j ((b.size:Int)/8)])/\Below c.heap.size c t:=by
 have C:=xi b f 68 W;have E:=xi b f 66 W;have H:=xi b f 83 W;obtain⟨t1,t2,t3,t4⟩:=El r;go_enter func210,ntmps210;go_wp2_with fail;refine(sE b f 66 W h _).mono ?_;rintro e i ⟨rfl,rfl⟩;go_wp2_with fail;refine(sE b f 68 W h _).mono ?_;rintro e i ⟨rfl,rfl⟩;go_wp2_with fail;refine(sE b f 83 W h _).mono ?_;rintro e i ⟨rfl,rfl⟩;go_wp2_with fail;refine(sE b f 84 W h _).mono ?_;rintro e i ⟨rfl,rfl⟩;go_wp2_with fail;refine(Rr g b r _).mono ?_;rintro e i ⟨rfl,a⟩;obtain⟨l,p⟩:=eD a;have L:c.heap.size+1<i.heap.size:=fn;go_wp2_with fail;refine(Rs g b r _).mono ?_;rintro e d ⟨rfl,k⟩;obtain⟨n,q⟩:=eD k;have v:c.heap.size+1<d.heap.size:=by have:=k.size;omega
 have M:c.heap.size<d.heap.size:=J;have N:d.cell? ⟨c.heap.size,0,none⟩=some (j g):=yW;have O:d.cell? ⟨c.heap.size,1,none⟩=some (.string b):=yW;have P:d.cell? ⟨c.heap.size,2,none⟩=some (j r):=yW;have w:d.cell? ⟨c.heap.size+1,0,none⟩=some (j 0):=o7;have x:d.cell? ⟨c.heap.size+1,1,none⟩=some (j 0):=o7;have y:d.cell? ⟨c.heap.size+1,2,none⟩=some (j 0):=o7;have z:d.cell? ⟨c.heap.size+1,3,none⟩=some (j 0):=o7;have A:d.cell? ⟨c.heap.size+1,4,none⟩=some (j 0):=o7;have B:d.cell? ⟨c.heap.size+1,5,none⟩=some (j 0):=o7;have I:∀s,d.frozen? ⟨c.heap.size+1,s,none⟩=false:=by intro s;rw[q _ _ (by omega),p _ _ (by simp)];simp
 have o:Below c.heap.size c d:=(((aq _ _).alloc (aB _) _).alloc F _).trans (a.mono ad) |>.trans (k.mono m);have u:Hid (Below c.heap.size c d):=o;clear l n p q o a k;go_wp2_with fail;go_region_with(first|(go_at_call 301;refine(jS g b r 1 _).mono ?_;rintro e w3 ⟨rfl,rfl⟩)|(go_at_call 300;refine(QZ b f _ W h _).mono ?_;rintro e w3 ⟨rfl,rfl⟩));all_goals go_wp2
 all_goals refine ac (v:=.agg #[j g,j ((aM b 68 W:Int)+aM b 66 W+dB r),j ((aM b 83 W:Int)+aM b 66 W+dC r),j (aM b 84 W),j (da b (hasB r 1) W),j ((b.size:Int)/8)]) (by simp[results,results210,go_sem,w,x,y,z,A,B,v]) rfl ⟨rfl,?_⟩
 all_goals repeat(first|with_reducible exact u.out|with_reducible refine fG ?_|with_reducible refine bf ?_ F _|with_reducible refine bl ?_ ad _)
def mu (r a c d b:Int):Bool:=
 (b==0&&hasB r 16) ||(a==0&&hasB r 32) ||(c==0&&hasB r 64) ||(d==0&&hasB r 128) ||(a==2&&hasB r 256)
structure hH (b:Int)(f:K)(r c d e:Int)(a wc:D):Prop where
 below:Below a.heap.size a wc
 size:a.heap.size+1<wc.heap.size
 V8:wc.cell? ⟨a.heap.size,0,none⟩=some (j b)
 c1:wc.cell? ⟨a.heap.size,1,none⟩=some (.string f)
 c2:wc.cell? ⟨a.heap.size,2,none⟩=some (j r)
 d1:wc.cell? ⟨a.heap.size+1,1,none⟩=some (j c)
 d2:wc.cell? ⟨a.heap.size+1,2,none⟩=some (j d)
 d3:wc.cell? ⟨a.heap.size+1,3,none⟩=some (j e)
def hH.start (a:Int)(e:K)(r i b c d g h:Int)(f:D)(k l:TypeId):
 hH a e r b c d f ((f.alloc (.cells #[j a,.string e,j r] k)).alloc (.cells #[j i,j b,j c,j d,j g,j h] l)):=
 ⟨((aq _ _).alloc (aB _) _).alloc (by simp) _,by simp,by simp,by simp,by simp,by simp,by simp,by simp⟩
def hH.more {f:Int}{j:K}{r g h i:Int}{k wc:D}(a:hH f j r g h i k wc)(e:Obj):hH f j r g h i k (wc.alloc e):=by
 have o:=a.size;have b:∀c d,c<wc.heap.size->(wc.alloc e).cell? ⟨c,d,none⟩=wc.cell? ⟨c,d,none⟩:=fun c d l=>
  (((aq wc.heap.size wc).alloc (aB _) e).cell (p:=⟨c,d,none⟩) l)
 exact⟨a.below.alloc m _,by simp;omega,(b _ _ m).trans a.V8,(b _ _ m).trans a.c1,(b _ _ m).trans a.c2,(b _ _ m).trans a.d1,(b _ _ m).trans a.d2,(b _ _ m).trans a.d3⟩
def B8 (c:Int)(d:K)(r G b e f q F:Int)(h:D):
 Calls prog 211 #[.agg #[j c,.string d,j r],.agg #[j G,j b,j e,j f,j q,j F]] h fun p E=>
  p=.returned (.bool (mu r b e f q))/\Below h.heap.size h E:=by
 unfold mu;go_enter func211,ntmps211;go_upto_region 1 with fail;go_cut [5] (fun g wc=>g=.bool (q==0&&hasB r 16)/\hH c d r b e f h wc);case first=>
  cases w:(q==0)
  . go_wp2;go_meet;case rel=>exact⟨by rw[w,jq],hH.start _ _ _ _ _ _ _ _ _ _ _ _⟩
  . go_wp2_with(go_at_call 301;refine(jS c d r _ _).mono ?_;rintro p w3 ⟨rfl,rfl⟩);go_meet;case rel=>exact⟨by rw[w,h4],(hH.start _ _ _ _ _ _ _ _ _ _ _ _).more _⟩
 case rest=>
  obtain⟨rfl,a⟩:=hcut;cases s:(q==0&&hasB r 16);case true=>
   go_wp2;go_ret;exact⟨by simp[s],a.below⟩
  case false=>
   obtain⟨u,rfl⟩:=y (wc:D);obtain⟨-,-,i,k,l,m,n,o⟩:=id a;go_upto_region 3 with fail;go_cut [13] (fun g wc=>g=.bool (b==0&&hasB r 32)/\hH c d r b e f h wc);case first=>
    cases x:(b==0)
    . go_wp2;go_meet;case rel=>exact⟨by rw[x,jq],a⟩
    . go_wp2_with(go_at_call 301;refine(jS c d r _ _).mono ?_;rintro p w3 ⟨rfl,rfl⟩);go_meet;case rel=>exact⟨by rw[x,h4],(a).more _⟩
   case rest=>
    clear i k l m n o a;obtain⟨rfl,a⟩:=hcut;cases t:(b==0&&hasB r 32);case true=>
     go_wp2;go_ret;exact⟨by simp[s,t],a.below⟩
    case false=>
     obtain⟨u,rfl⟩:=y (wc:D);obtain⟨-,-,i,k,l,m,n,o⟩:=id a;go_upto_region 5 with fail;go_cut [21] (fun g wc=>g=.bool (e==0&&hasB r 64)/\hH c d r b e f h wc);case first=>
      cases z:(e==0)
      . go_wp2;go_meet;case rel=>exact⟨by rw[z,jq],a⟩
      . go_wp2_with(go_at_call 301;refine(jS c d r _ _).mono ?_;rintro p w3 ⟨rfl,rfl⟩);go_meet;case rel=>exact⟨by rw[z,h4],(a).more _⟩
     case rest=>
      clear i k l m n o a;obtain⟨rfl,a⟩:=hcut;cases v:(e==0&&hasB r 64);case true=>
       go_wp2;go_ret;exact⟨by simp[s,t,v],a.below⟩
      case false=>
       obtain⟨u,rfl⟩:=y (wc:D);obtain⟨-,-,i,k,l,m,n,o⟩:=id a;go_upto_region 7 with fail;go_cut [29] (fun g wc=>g=.bool (f==0&&hasB r 128)/\hH c d r b e f h wc);case first=>
        cases A:(f==0)
        . go_wp2;go_meet;case rel=>exact⟨by rw[A,jq],a⟩
        . go_wp2_with(go_at_call 301;refine(jS c d r _ _).mono ?_;rintro p w3 ⟨rfl,rfl⟩);go_meet;case rel=>exact⟨by rw[A,h4],(a).more _⟩
       case rest=>
        clear i k l m n o a;obtain⟨rfl,a⟩:=hcut;cases C:(f==0&&hasB r 128);case true=>
         go_wp2;go_ret;exact⟨by simp[s,t,v,C],a.below⟩
        case false=>
         obtain⟨u,rfl⟩:=y (wc:D);obtain⟨-,-,i,k,l,m,n,o⟩:=id a;go_upto_region 9 with fail;go_cut [37] (fun g wc=>g=.bool (b==2&&hasB r 256)/\hH c d r b e f h wc);case first=>
          cases B:(b==2)
          . go_wp2;go_meet;case rel=>exact⟨by rw[B,jq],a⟩
          . go_wp2_with(go_at_call 301;refine(jS c d r _ _).mono ?_;rintro p w3 ⟨rfl,rfl⟩);go_meet;case rel=>exact⟨by rw[B,h4],(a).more _⟩
         case rest=>
          clear i k l m n o a;obtain⟨rfl,a⟩:=hcut;cases H:(b==2&&hasB r 256);case true=>
           exact JL
          case false=>
           exact JL
structure U where
 op:Int
 rd:Int
 V1:Int
 V6:Int
 V2:Int
 V4:Int
def aW (i:U):Value:=.agg #[j i.op,j i.rd,j i.V1,j i.V6,j i.V2,j i.V4]
def cG {p:Prop}(a:p):Hid p:=a
def aF :U:=⟨0,0,0,0,0,0⟩
def bK (a:Int×K×Int)(W:Nat):U:=
 ⟨a.1,(aM a.2.1 68 W:Int)+aM a.2.1 66 W+dB a.2.2,(aM a.2.1 83 W:Int)+aM a.2.1 66 W+dC a.2.2,aM a.2.1 84 W,da a.2.1 (hasB a.2.2 1) W,(a.2.1.size:Int)/8⟩
def cJ (a:Int×K×Int)(W:Nat):Bool:=
 C.fits (C.ah a.2.1.data.toList a.2.1.size) W&&!mu a.2.2 (bK a W).rd (bK a W).V1 (bK a W).V6 (bK a W).V2
def nw {c d:D}(k:Below c.heap.size c d)(a:Nat)(b:c.heap.size<=a)(e f g h i j:Value):
 Below c.heap.size c ((((((d.setCell ⟨a,0,none⟩ e).setCell ⟨a,1,none⟩ f).setCell ⟨a,2,none⟩ g).setCell ⟨a,3,none⟩ h).setCell ⟨a,4,none⟩ i).setCell ⟨a,5,none⟩ j):=
 (((((k.setCell b _).setCell b _).setCell b _).setCell b _).setCell b _).setCell b _
def Rc (b:Int)(a:K)(d:a.size<=32)(r:Int)(W:Nat)(c:G W)(e:D)(g:C.fits (C.ah a.data.toList a.size) W=false):
 aa 140 #[.agg #[j b,.string a,j r],j W] (.tuple #[.agg #[j 0,j 0,j 0,j 0,j 0,j 0],.bool false]) e:=by
 go_enter func140,ntmps140;go_wp2_with fail;refine(wF a d W c _).mono ?_;rintro f h ⟨rfl,rfl⟩;go_wp2;exact ac (v:=.tuple #[.agg #[j 0,j 0,j 0,j 0,j 0,j 0],.bool false]) (by simp[results,results140,go_sem]) rfl ⟨rfl,((aq _ _).alloc (aB _) _).alloc F _⟩
def Rd (g:Int)(c:K)(o:c.size<=32)(r:Int)(W:Nat)(n:G W)(b:D)(x:C.fits (C.ah c.data.toList c.size) W=true)
 (y:mu r ((aM c 68 W:Int)+aM c 66 W+dB r) ((aM c 83 W:Int)+aM c 66 W+dC r) (aM c 84 W) (da c (hasB r 1) W)=true):
 aa 140 #[.agg #[j g,.string c,j r],j W] (.tuple #[.agg #[j 0,j 0,j 0,j 0,j 0,j 0],.bool false]) b:=by
 go_enter func140,ntmps140;go_wp2_with fail;refine(wF c o W n _).mono ?_;rintro l e ⟨rfl,rfl⟩;go_wp2_with fail;refine(B5 g c o r W n _).mono ?_;rintro l e ⟨rfl,a⟩;obtain⟨s,u⟩:=eD a;have z:b.heap.size+1<e.heap.size:=fn;have A:b.heap.size<e.heap.size:=J;have i:Hid (Below b.heap.size b e):=GL;have k:=cG a;clear a;go_wp2_with fail;refine(B8 g c r _ _ _ _ _ _ _).mono ?_;rintro l d ⟨rfl,f⟩;obtain⟨t,v⟩:=eD f;have B:e.heap.size<d.heap.size:=GM;have q:Hid (Below b.heap.size b d):=GN;have h:=(k.out.alloc ad _).trans (f.mono ad);have y0:al d (b.heap.size+1) 0 (j 0):=ia;have y1:al d (b.heap.size+1) 1 (j 0):=ia;have y2:al d (b.heap.size+1) 2 (j 0):=ia;have y3:al d (b.heap.size+1) 3 (j 0):=ia;have y4:al d (b.heap.size+1) 4 (j 0):=ia;have p:al d (b.heap.size+1) 5 (j 0):=ia;have w:dY d (b.heap.size+1):=GO;clear f i k h s u t v;go_wp2;exact ac (v:=.tuple #[.agg #[j 0,j 0,j 0,j 0,j 0,j 0],.bool false]) F4 rfl ⟨rfl,nw q.out _ F _ _ _ _ _ _⟩
def Re (g:Int)(b:K)(o:b.size<=32)(r:Int)(W:Nat)(n:G W)(d:D)(x:C.fits (C.ah b.data.toList b.size) W=true)
 (y:mu r ((aM b 68 W:Int)+aM b 66 W+dB r) ((aM b 83 W:Int)+aM b 66 W+dC r) (aM b 84 W) (da b (hasB r 1) W)=false):
 aa 140 #[.agg #[j g,.string b,j r],j W] (.tuple #[.agg #[j g,j ((aM b 68 W:Int)+aM b 66 W+dB r),j ((aM b 83 W:Int)+aM b 66 W+dC r),j (aM b 84 W),j (da b (hasB r 1) W),j ((b.size:Int)/8)],.bool true]) d:=by
 go_enter func140,ntmps140;go_wp2_with fail;refine(wF b o W n _).mono ?_;rintro l e ⟨rfl,rfl⟩;go_wp2_with fail;refine(B5 g b o r W n _).mono ?_;rintro l e ⟨rfl,a⟩;obtain⟨t,u⟩:=eD a;have z:d.heap.size+1<e.heap.size:=fn;have A:d.heap.size<e.heap.size:=J;have i:Hid (Below d.heap.size d e):=GL;have k:=cG a;clear a;go_wp2_with fail;refine(B8 g b r _ _ _ _ _ _ _).mono ?_;rintro l c ⟨rfl,f⟩;obtain⟨q,v⟩:=eD f;have B:e.heap.size<c.heap.size:=GM;have s:Hid (Below d.heap.size d c):=GN;have h:=(k.out.alloc ad _).trans (f.mono ad);have y0:al c (d.heap.size+1) 0 (j 0):=ia;have y1:al c (d.heap.size+1) 1 (j 0):=ia;have y2:al c (d.heap.size+1) 2 (j 0):=ia;have y3:al c (d.heap.size+1) 3 (j 0):=ia;have y4:al c (d.heap.size+1) 4 (j 0):=ia;have p:al c (d.heap.size+1) 5 (j 0):=ia;have w:dY c (d.heap.size+1):=GO;have E:al c e.heap.size 0 (j g):=o8;have H:al c e.heap.size 1 (j ((aM b 68 W:Int)+aM b 66 W+dB r)):=o8;have I:al c e.heap.size 2 (j ((aM b 83 W:Int)+aM b 66 W+dC r)):=o8;have L:al c e.heap.size 3 (j (aM b 84 W)):=o8;have M:al c e.heap.size 4 (j (da b (hasB r 1) W)):=o8;have N:al c e.heap.size 5 (j ((b.size:Int)/8)):=o8;clear f i k h t u q v;go_wp2;exact ac (v:=.tuple #[.agg #[j g,j ((aM b 68 W:Int)+aM b 66 W+dB r),j ((aM b 83 W:Int)+aM b 66 W+dC r),j (aM b 84 W),j (da b (hasB r 1) W),j ((b.size:Int)/8)],.bool true]) F4 rfl ⟨rfl,nw s.out _ F _ _ _ _ _ _⟩
def B4 (a:Int×K×Int)(g:a.2.1.size<=32)(W:Nat)(f:G W)(d:D):
 Calls prog 140 #[.agg #[j a.1,.string a.2.1,j a.2.2],j W] d fun b h=>
  b=.returned (.tuple #[aW (if cJ a W=true then bK a W else aF),.bool (cJ a W)])/\Below d.heap.size d h:=by
 cases c:C.fits (C.ah a.2.1.data.toList a.2.1.size) W
 . have b:cJ a W=false:=by simp[cJ,c]
   rw[b];exact Rc a.1 a.2.1 g a.2.2 W f d c
 . cases e:mu a.2.2 (bK a W).rd (bK a W).V1 (bK a W).V6 (bK a W).V2
   . have b:cJ a W=true:=by simp[cJ,c,e]
     rw[b];exact Re a.1 a.2.1 g a.2.2 W f d c e
   . have b:cJ a W=false:=by simp[cJ,c,e]
     rw[b];exact Rd a.1 a.2.1 g a.2.2 W f d c e
def sizeOf (a:Int):Int:=if a<0\/4294967295<a then 0 else if a%4=3 then 4 else if a<=65535 then 2 else 0
def B9 (a:Int)(e:D):
 O 137 #[j a] (j (sizeOf a)) e:=by
 have g:=Bl a;by_cases c1:a<0
 . exact JM
 by_cases c2:4294967295<a
 . exact JM
 by_cases c3:a%4=3
 . have c:(a%4==3)=true:=by rw[bb];exact c3
   have d:Hid (a%4=3):=c3;clear c3;go_enter func137,ntmps137;go_wp2;go_ret;exact⟨congrArg (fun b=>Ending.returned (j b)) (by unfold sizeOf;rw[z (by omega),B d.out]),rfl⟩
 have c:(a%4==3)=false:=by rw[b5];exact c3
 by_cases c4:a<=65535
 . go_enter func137,ntmps137;go_wp2;go_ret;exact⟨congrArg (fun b=>Ending.returned (j b)) (by unfold sizeOf;rw[z (by omega),z c3,B c4]),rfl⟩
 . go_enter func137,ntmps137;go_wp2;go_ret;exact⟨congrArg (fun b=>Ending.returned (j b)) (by unfold sizeOf;rw[z (by omega),z c3,z (by omega)]),rfl⟩
def bY (a:Int):Int:=bif a==4 then 70 else bif a==2 then 26 else 0
def B7 (a:Int)(b:D):
 O 138 #[j a] (j (bY a)) b:=by
 unfold bY;cases d:(a==4)
 . cases c:(a==2)
   . exact zX
   . exact zX
 . exact zX
def dz (a b:U):Bool:=a.op==b.op&&a.rd==b.rd&&a.V1==b.V1&&a.V6==b.V6&&a.V2==b.V2&&a.V4==b.V4
def Ri (a b:U)(c:D):
 aa 145 #[aW a,aW b] (.bool (dz a b)) c:=by
 unfold dz aW;cases d:(a.op==b.op)
 . exact nd
 cases e:(a.rd==b.rd)
 . exact nd
 cases f:(a.V1==b.V1)
 . exact nd
 cases g:(a.V6==b.V6)
 . exact nd
 cases h:(a.V2==b.V2)
 . exact nd
 cases i:(a.V4==b.V4)
 . exact nd
 exact nd
def scan (a:Nat->Option U):Nat->Nat->Option U
 |_,0=>none
 |b,c+1=>match a b with
  |some i=>some i
  |none=>scan a (b+1) c
def cK (b:Int)(W:Nat)(a:Nat):Option U:=if cJ (rowAt b a) W=true then some (bK (rowAt b a) W)else none
def aP (a:Int):U×Int:=
 if sizeOf a=0 then(aF,2)else
 match scan (cK (sizeOf a) a.toNat) 1 (bY (sizeOf a)).toNat with
 |some i=>(i,0)
 |none=>(⟨0,0,0,0,0,sizeOf a⟩,0)
def k4 (a:Nat->Option U)(b c:Nat):scan a b (c+1)=match a b with|some i=>some i|none=>scan a (b+1) c:=rfl
def SQ :((List.range 71).all fun a=>decide ((ae.longRow a).2.1.size<=32))=true:=by decide+kernel
def Vt :((List.range 27).all fun a=>decide ((ae.aZ a).2.1.size<=32))=true:=by decide+kernel
def Dq (b:Int)(e:b=4\/b=2)(a:Nat)(d:(a:Int)<=bY b):(rowAt b a).2.1.size<=32:=by
 rcases e with rfl|rfl
 . have c:=cj.1 SQ a (by simp[bY]at d;simp;omega);simpa[rowAt]using c
 . have c:=cj.1 Vt a (by simp[bY]at d;simp;omega);simpa[rowAt]using c
def xy (a:Int):sizeOf a=0\/((sizeOf a=4\/sizeOf a=2)/\0<=a/\a<4294967296):=by
 unfold sizeOf;split
 . exact .inl rfl
 . split
   . exact .inr ⟨.inl rfl,by omega,by omega⟩
   . split
     . exact .inr ⟨.inr rfl,by omega,by omega⟩
     . exact .inl rfl
def QT (a:Int)(b:sizeOf a=0)(c:D):
 aa 87 #[j a] (.tuple #[aW aF,j 2]) c:=by
 unfold aW aF;go_enter func87,ntmps87;go_wp2_with fail;refine(B9 a _).mono ?_;rintro d e ⟨rfl,rfl⟩;rw[b];go_wp2;exact ac (v:=.tuple #[.agg #[j 0,j 0,j 0,j 0,j 0,j 0],j 2]) (by simp[results,results87,go_sem]) rfl ⟨rfl,(aq _ _).alloc (aB _) _⟩
structure hI (a wr:D):Prop where
 below:Below a.heap.size a wr
 lt:a.heap.size<wr.heap.size
 V8:wr.cell? ⟨a.heap.size,0,none⟩=some (j 0)
 c1:wr.cell? ⟨a.heap.size,1,none⟩=some (j 0)
 c2:wr.cell? ⟨a.heap.size,2,none⟩=some (j 0)
 c3:wr.cell? ⟨a.heap.size,3,none⟩=some (j 0)
 c4:wr.cell? ⟨a.heap.size,4,none⟩=some (j 0)
 c5:wr.cell? ⟨a.heap.size,5,none⟩=some (j 0)
 Wb:∀b,wr.frozen? ⟨a.heap.size,b,none⟩=false
def hI.start (a:D)(b:TypeId):hI a (a.alloc (.cells #[j 0,j 0,j 0,j 0,j 0,j 0] b)):=
 ⟨(aq _ _).alloc (aB _) _,by simp,by simp,by simp,by simp,by simp,by simp,by simp,by intro c;simp⟩
def hI.more {c wr w':D}(a:hI c wr)(b:Below wr.heap.size wr w'):hI c w':=
 ⟨a.below.trans (b.mono (gn a.lt)),aR a.lt b.size,(b.cell (p:=⟨c.heap.size,0,none⟩) a.lt).trans a.V8,(b.cell (p:=⟨c.heap.size,1,none⟩) a.lt).trans a.c1,
  (b.cell (p:=⟨c.heap.size,2,none⟩) a.lt).trans a.c2,(b.cell (p:=⟨c.heap.size,3,none⟩) a.lt).trans a.c3,(b.cell (p:=⟨c.heap.size,4,none⟩) a.lt).trans a.c4,
  (b.cell (p:=⟨c.heap.size,5,none⟩) a.lt).trans a.c5,fun d=>(b.frozen (p:=⟨c.heap.size,d,none⟩) a.lt).trans (a.Wb d)⟩
theorem hI.alloc {a wr:D}(b:hI a wr)(c:Obj):hI a (wr.alloc c):=b.more ((aq _ _).alloc (aB _) _)
def Ve {d:Int}{W c:Nat}{h b:Option U}{a:Int×K×Int}(g:Hid (a=rowAt d c))(f:cJ a W=true)
 (e:Hid ((match cK d W c with|some i=>some i|none=>h)=b)):b=some (bK a W):=by
 rw[<-e.out,cK,<-g.out,B f]
def Vf {d:Int}{W c:Nat}{b a:Option U}{e:Int×K×Int}(h:Hid (e=rowAt d c))(g:cJ e W=false)
 (f:Hid ((match cK d W c with|some i=>some i|none=>b)=a)):Hid (b=a):=by
 show b=a;rw[<-f.out,cK,<-h.out,z (by rw[g];decide)]
def QU (W:Nat)(L:G W)(c:Int)(h:c=4\/c=2)(M:Hid (sizeOf (W:Int)=c))(l:D):
 Calls prog 87 #[j W] l fun f I=>(∃i,f=.returned (.tuple #[aW i,j 0])/\Hid (i=(scan (cK c W) 1 (bY c).toNat).getD ⟨0,0,0,0,0,c⟩))/\Below l.heap.size l I:=by
 have Q:(c==0)=false:=by rcases h with rfl|rfl<;>rfl
 obtain⟨d,g⟩:∃d:Nat,(d:Int)=bY c:=by rcases h with rfl|rfl;exact⟨70,rfl⟩;exact⟨26,rfl⟩
 have P:d<=70:=by rcases h with rfl|rfl<;>simp[bY]at g<;>omega
 have z:Hid ((d:Int)=bY c):=g;rw[<-g,ds];clear g;go_enter func87,ntmps87;go_wp2_with fail;refine(B9 W _).mono ?_;rintro f H ⟨rfl,rfl⟩;rw[M.out];go_wp2_with fail;refine(B7 c _).mono ?_;rintro f H ⟨rfl,rfl⟩;rw[<-z.out];go_wp2_with fail;go_loopw [6] (fun p wr=>∃b:Nat,1<=b/\b<=d+1/\p=j b/\hI l wr/\Hid (scan (cK c W) b (d+1-b)=scan (cK c W) 1 d)) (fun p _=>d+1- (intOf p).toNat);case atStart=>exact zZ
 case round=>
  obtain⟨b,R,S,rfl,a,e⟩:=hrel;by_cases T:b<=d
  . have C:=Dq c h b (by rw[<-z.out];omega);have n:=k4 (cK c W) b (d-b);rw[show d-b+1=d+1-b by omega]at n;rw[n]at e;clear n;go_wp2_with fail;refine(B6 c b _).mono ?_;rintro f H ⟨rfl,A⟩;obtain⟨k,o⟩:=y (rowAt c b);rw[<-o]at C|-;have x:Hid (k=rowAt c b):=o;clear o;replace a:=a.more A;clear A;simp only[aO];go_wp2_with fail;refine(B4 k C W L _).mono ?_;rintro f U ⟨rfl,B⟩;replace a:=(a.alloc _).more B;clear B;obtain⟨-,F,q,r,s,t,u,v,N⟩:=id a;cases E:cJ k W
    . have w:=Vf x E e;clear e;simp only[aW,aF];go_wp2;go_roundw;case rel=>exact⟨b+1,by omega,by omega,by go_num,a.alloc _,by rw[show d+1- (b+1)=d-b by omega];exact w⟩
      case measure=>exact a5
    . have w:=cG (Ve x E e);clear e;obtain⟨i,m⟩:=y (bK k W);have O:=cG m;simp only[if_true];rw[<-m];clear m;simp only[aW];go_wp2;refine ac (v:=.tuple #[.agg #[j i.op,j i.rd,j i.V1,j i.V6,j i.V2,j i.V4],j 0]) (by simp[results,results87,go_sem,q,r,s,t,u,v,F]) rfl ⟨⟨i,rfl,?_⟩,?_⟩
      . exact akf
      . exact JN
  . have K:d+1-b=0:=J;rw[K]at e;obtain⟨-,F,q,r,s,t,u,v,N⟩:=id a;go_wp2;refine ac (v:=.tuple #[.agg #[j 0,j 0,j 0,j 0,j 0,j c],j 0]) (by simp[results,results87,go_sem,q,r,s,t,u,v]) rfl ⟨⟨⟨0,0,0,0,0,c⟩,rfl,?_⟩,?_⟩
    . rw[<-e.out];rfl
    . exact zY
theorem pZ (b:Int)(c:D):
 aa 87 #[j b] (.tuple #[aW (aP b).1,j (aP b).2]) c:=by
 rcases xy b with a|⟨a,f,o⟩
 . have d:aP b=(aF,2):=by unfold aP;rw[B a]
   rw[d];exact QT b a c
 . obtain⟨W,rfl⟩:=h6 f;have l:¬sizeOf (W:Int)=0:=by rcases a with a|a<;>rw[a]<;>decide
   refine(QU W m _ a rfl c).mono ?_;rintro d n ⟨⟨i,rfl,k⟩,h⟩;have g:aP (W:Int)=(i,0):=by
    unfold aP;rw[z l,ds];have:=k.out;cases e:scan (cK (sizeOf (W:Int)) W) 1 (bY (sizeOf (W:Int))).toNat with
    |none=>rw[e]at this;rw[this];rfl
    |some p=>rw[e]at this;rw[this];rfl
   rw[g];exact⟨rfl,h⟩
def fv (a:Int×K×Int)(i:U):Nat:=C.draw (C.ah a.2.1.data.toList a.2.1.size) i.rd i.V1 i.V6 i.V2
def cO (i:U)(a:Nat):Option Nat:=
 if(rowAt i.V4 a).1=i.op/\cJ (rowAt i.V4 a) (fv (rowAt i.V4 a) i)=true/\dz (bK (rowAt i.V4 a) (fv (rowAt i.V4 a) i)) i=true then some (fv (rowAt i.V4 a) i)else none
def better (c d:Option Nat):Option Nat:=
 match d with
 |none=>c
 |some a=>match c with
  |none=>some a
  |some b=>if a<b then some a else some b
def least (i:U):Option Nat->Nat->Nat->Option Nat
 |a,_,0=>a
 |a,b,c+1=>least i (better a (cO i b)) (b+1) c
def sI (i:U)(c:Option Nat)(a b:Nat):least i c a (b+1)=least i (better c (cO i a)) (a+1) b:=rfl
def fe (i:U):Int×Int:=
 match least i none 1 (bY i.V4).toNat with
 |some a=>(a,0)
 |none=>(0,3)
structure dH (i:U)(a wr:D):Prop where
 below:Below a.heap.size a wr
 lt:a.heap.size<wr.heap.size
 V8:wr.cell? ⟨a.heap.size,0,none⟩=some (j i.op)
 c1:wr.cell? ⟨a.heap.size,1,none⟩=some (j i.rd)
 c2:wr.cell? ⟨a.heap.size,2,none⟩=some (j i.V1)
 c3:wr.cell? ⟨a.heap.size,3,none⟩=some (j i.V6)
 c4:wr.cell? ⟨a.heap.size,4,none⟩=some (j i.V2)
 c5:wr.cell? ⟨a.heap.size,5,none⟩=some (j i.V4)
def dH.start (i:U)(a:D)(b:TypeId):dH i a (a.alloc (.cells #[j i.op,j i.rd,j i.V1,j i.V6,j i.V2,j i.V4] b)):=
 ⟨(aq _ _).alloc (aB _) _,by simp,by simp,by simp,by simp,by simp,by simp,by simp⟩
def dH.more {i:U}{c wr w':D}(a:dH i c wr)(b:Below wr.heap.size wr w'):dH i c w':=
 ⟨a.below.trans (b.mono (gn a.lt)),aR a.lt b.size,(b.cell (p:=⟨c.heap.size,0,none⟩) a.lt).trans a.V8,(b.cell (p:=⟨c.heap.size,1,none⟩) a.lt).trans a.c1,
  (b.cell (p:=⟨c.heap.size,2,none⟩) a.lt).trans a.c2,(b.cell (p:=⟨c.heap.size,3,none⟩) a.lt).trans a.c3,(b.cell (p:=⟨c.heap.size,4,none⟩) a.lt).trans a.c4,
  (b.cell (p:=⟨c.heap.size,5,none⟩) a.lt).trans a.c5⟩
theorem dH.alloc {i:U}{a wr:D}(b:dH i a wr)(c:Obj):dH i a (wr.alloc c):=b.more ((aq _ _).alloc (aB _) _)
def BM (a:Int×K×Int)(aa:a.2.1.size<=32)(i:U):fv a i<4294967296:=by
 have b:=C.kJ (C.ah a.2.1.data.toList a.2.1.size) i.rd i.V1 i.V6 i.V2;rw[C.jk _ _ (by simp)]at b;have c:2^a.2.1.size<=2^32:=uR;unfold fv;omega
def afM {i:U}{a:Nat}{b:Int×K×Int}(e:Hid (b=rowAt i.V4 a))(c:¬b.1=i.op):cO i a=none:=by
 unfold cO;rw[<-e.out,z (fun d=>c d.1)]
def afL {i:U}{c:Nat}{a:Int×K×Int}(e:Hid (a=rowAt i.V4 c))(d:cJ a (fv a i)=false):cO i c=none:=by
 unfold cO;rw[<-e.out,z (fun b=>by rw[d]at b;cases b.2.1)]
def afN {i:U}{c:Nat}{a:Int×K×Int}(e:Hid (a=rowAt i.V4 c))(d:dz (bK a (fv a i)) i=false):cO i c=none:=by
 unfold cO;rw[<-e.out,z (fun b=>by rw[d]at b;cases b.2.2)]
def afO {i:U}{b:Nat}{a:Int×K×Int}(f:Hid (a=rowAt i.V4 b))(c:a.1=i.op)(d:cJ a (fv a i)=true)(e:dz (bK a (fv a i)) i=true):cO i b=some (fv a i):=by
 unfold cO;rw[<-f.out,B ⟨c,d,e⟩]
theorem QV (i:U)(b:Nat)(ak:b<=70)(u:Hid ((b:Int)=bY i.V4))(r:D):
 Calls prog 89 #[aW i] r fun g ac=>(∃f:Option Nat,Hid (f=least i none 1 b)/\g=.returned (.tuple #[j (f.getD 0:Nat),j (bif f.isSome then 0 else 3)]))/\Below r.heap.size r ac:=by
 unfold aW;go_enter func89,ntmps89;go_wp2_with fail;refine(B7 i.V4 _).mono ?_;rintro g s ⟨rfl,rfl⟩;rw[<-u.out];go_wp2_with fail;go_loopw [4,5,7] (fun ag ae E wr=>∃(a:Nat) (f:Option Nat),1<=a/\a<=b+1/\E=j a/\ag=j (f.getD 0:Nat)/\ae=.bool f.isSome/\dH i r wr/\Hid (least i f a (b+1-a)=least i none 1 b)) (fun _ _ E _=>b+1- (intOf E).toNat);case atStart=>exact⟨1,none,by omega,by omega,rfl,rfl,rfl,dH.start _ _ _,rfl⟩
 case round=>
  obtain⟨a,f,al,am,rfl,rfl,rfl,c,e⟩:=hrel;by_cases an:a<=b
  . have Z:i.V4=4\/i.V4=2:=by
     have t:=u.out;unfold bY at t;cases P:(i.V4==4)
     . cases O:(i.V4==2)
       . rw[P,O]at t;simp at t;omega
       . exact .inr (bb.1 O)
     . exact .inl (bb.1 P)
    have p:=Dq i.V4 Z a (by rw[<-u.out];omega);clear Z;have x:=sI i f a (b-a);rw[show b-a+1=b+1-a by omega]at x;rw[x]at e;clear x;have m:=c.c5;go_wp2_with fail;refine(B6 i.V4 a _).mono ?_;rintro g s ⟨rfl,R⟩;obtain⟨d,A⟩:=y (rowAt i.V4 a);rw[<-A]at p|-;have n:Hid (d=rowAt i.V4 a):=A;clear A m;replace c:=c.more R;clear R;obtain⟨-,w,G,H,I,K,L,m⟩:=id c;simp only[aO];by_cases h:d.1=i.op
    . have ab:(d.1 !=i.op)=false:=by simp[h]
      have ad:=cG h;clear h;go_wp2_with fail;refine(QX d.2.1 p i.op i.rd i.V1 i.V6 i.V2 i.V4 _).mono ?_;rintro g ao ⟨rfl,l⟩;have ah:=(l.cell (p:=⟨s.heap.size,0,none⟩) F).trans (by simp:_=some (j d.1));have ai:=(l.cell (p:=⟨s.heap.size,1,none⟩) F).trans (by simp:_=some (.string d.2.1));have aj:=(l.cell (p:=⟨s.heap.size,2,none⟩) F).trans (by simp:_=some (j d.2.2));clear G H I K L m w;replace c:=(c.alloc _).more l;clear l;have Q:=BM d p i;obtain⟨W,q⟩:=y (fv d i);have N:C.draw (C.ah d.2.1.data.toList d.2.1.size) i.rd i.V1 i.V6 i.V2=W:=q.symm;rw[N];rw[<-q]at Q;have k:=cG q;clear q N;go_wp2_with fail;refine(B4 d p W Q _).mono ?_;rintro g w3 ⟨rfl,S⟩;replace c:=c.more S;clear S ah ai aj;obtain⟨-,w,G,H,I,K,L,m⟩:=id c;cases V:cJ d W
      . rw[afL n (by rw[<-k.out];exact V)]at e;simp only[aW,aF];exact JO
      . obtain⟨aa,v⟩:=y (bK d W);simp only[if_true];rw[<-v];have M:=cG v;clear v;simp only[aW];go_wp2_with fail;refine(Ri aa i _).mono ?_;rintro g ap ⟨rfl,T⟩;replace c:=(c.alloc _).more T;clear T G H I K L m w;cases Y:dz aa i
        . rw[afN n (by rw[<-k.out,<-M.out];exact Y)]at e;go_wp2;go_roundw;case rel=>exact⟨a+1,f,by omega,by omega,by go_num,rfl,rfl,c,by rw[show b+1- (a+1)=b-a by omega];exact e⟩
          case measure=>exact a5
        . rw[afO n ad.out (by rw[<-k.out];exact V) (by rw[<-k.out,<-M.out];exact Y),<-k.out]at e;cases f with
          |none=>
           go_wp2;go_roundw;case rel=>exact JP
           case measure=>exact a5
          |some o=>
           by_cases X:W<o
           . simp only[better,B X]at e;go_wp2;go_roundw;case rel=>exact JP
             case measure=>exact a5
           . simp only[better,z X]at e;go_wp2;go_roundw;case rel=>exact⟨a+1,some o,by omega,by omega,by go_num,rfl,rfl,c,by rw[show b+1- (a+1)=b-a by omega];exact e⟩
             case measure=>exact a5
    . have ab:(d.1 !=i.op)=true:=by simp[h]
      rw[afM n h]at e;clear h;exact JO
  . have af:b+1-a=0:=J;rw[af]at e;cases f with
    |none=>
     go_wp2;go_ret2;exact⟨⟨none,e,rfl⟩,c.below⟩
    |some o=>
     go_wp2;go_ret2;exact⟨⟨some o,e,rfl⟩,c.below⟩
end Go.Proofs.YtmlgonbhoknoiaaGreatDoor
